import Derived.Test.YtmgfapooanpgfaaG8
import Derived.Test.YtmgfapooanpgfaaG5


namespace Go.Proofs.Ytmgfapooanpgfaa
open Go.RowKit

theorem rl_mf (G : Nat → Nat → Nat) (k wd : Nat) (hk : 0 < k) : rl (mf G k wd) = wd := by
  unfold rl; rw [mf_getD _ _ _ _ hk, rg_length]
theorem al_mf (G : Nat → Nat → Nat) (k wd : Nat) : al (mf G k wd) wd = true := al_of (fun i hi => by rw [mf_length] at hi; rw [mf_getD _ _ _ _ hi, rg_length])
theorem tsh_mf (F G : Nat → Nat → Nat) (n k wd : Nat) (hn : n ≤ 256) (hk : k ≤ 256) (h0 : 0 < k) : tsh (mf F n k) (mf G k wd) = true := by
  unfold tsh
  rw [mf_length, mf_length, al_mf, rl_mf _ _ _ h0, al_mf]
  simp [hn, hk]
theorem ssh_mf (F G : Nat → Nat → Nat) (n wd : Nat) (hn : n ≤ 256) (h0 : 0 < n) : ssh (mf F n n) (mf G n wd) = true := by
  unfold ssh
  rw [mf_length, mf_length, al_mf, rl_mf _ _ _ h0, al_mf]
  simp [hn]
theorem bm_mf {F : Nat → Nat → Nat} (h : Lo F) (n wd : Nat) : Bm (mf F n wd) := mf_bm (fun i j _ _ => h i j)

/-- Solve, of rows that are read. -/
theorem solve_some (ao bo : Option Addr) (ca cb n wd : Nat) (F G X Y : Nat → Nat → Nat) (w : World) (hL : MR w ao (mf F n n)) (hK : MR w bo (mf G n wd)) (lF : Lo F) (lG : Lo G) (hn : n ≤ 256) (h0 : 0 < n) (hw : wd ≤ 140737488355328)
    (hg : gt n (fn (mf F n n)) (fn (mf G n wd)) n = some (X, Y)) :
    Calls Try.prog 53 #[.slice ao n ca, .slice bo n cb] w fun e w' => ∃ g, e = .returned (.tuple #[.slice (some ⟨g, 0, none⟩) n n, .int .i64 0]) ∧ MR w' (some ⟨g, 0, none⟩) (mf Y n wd) ∧ Kept [] w w' := by
  have h := solve_ok ao bo ca cb n (mf F n n) (mf G n wd) w hL hK (bm_mf lF _ _) (bm_mf lG _ _) (mf_length _ _ _) (mf_length _ _ _) (by rw [rl_mf _ _ _ h0]; exact hw) (ssh_mf F G n wd hn h0)
  rw [rl_mf _ _ _ h0, hg] at h
  exact h.mono fun e w' ⟨g, bs, he, hm, _, _, hk'⟩ => ⟨g, he, hm.reads, hk'⟩
theorem solve_none (ao bo : Option Addr) (ca cb n wd : Nat) (F G : Nat → Nat → Nat) (w : World) (hL : MR w ao (mf F n n)) (hK : MR w bo (mf G n wd)) (lF : Lo F) (lG : Lo G) (hn : n ≤ 256) (h0 : 0 < n) (hw : wd ≤ 140737488355328)
    (hg : gt n (fn (mf F n n)) (fn (mf G n wd)) n = none) :
    Calls Try.prog 53 #[.slice ao n ca, .slice bo n cb] w fun e w' => e = .returned (.tuple #[.slice none 0 0, .int .i64 43]) ∧ Kept [] w w' := by
  have h := solve_ok ao bo ca cb n (mf F n n) (mf G n wd) w hL hK (bm_mf lF _ _) (bm_mf lG _ _) (mf_length _ _ _) (mf_length _ _ _) (by rw [rl_mf _ _ _ h0]; exact hw) (ssh_mf F G n wd hn h0)
  rw [hg] at h
  exact h

theorem fn_mf_lo {F : Nat → Nat → Nat} (h : Lo F) (n wd : Nat) : Lo (fn (mf F n wd)) := fn_lt (bm_mf h n wd)

/-- What was multiplied is found again. -/
theorem there_one {n wd : Nat} {F G X Y : Nat → Nat → Nat} (lF : Lo F) (lG : Lo G) (hg : gt n (fn (mf F n n)) (fn (mf (tm (mf F n n) (mf G n wd)) n wd)) n = some (X, Y)) : mf Y n wd = mf G n wd := by
  have lV : Lo (tm (mf F n n) (mf G n wd)) := fun i j => tm_lt _ _ i j
  apply mf_congr
  intro i c hi hc
  have h := gt_one (fn_mf_lo lF n n) (fn_mf_lo lV n wd) hg (x := fun j => fn (mf G n wd) j c) (k := c) (fun j _ => fn_mf_lo lG n wd j c) (fun i hi => by
    rw [mf_fn _ _ _ _ _ hi hc]
    unfold ap tm
    rw [mf_length]) i hi
  rw [h, mf_fn _ _ _ _ _ hi hc]
/-- What is found, multiplied, is there again. -/
theorem there_back {n wd : Nat} {F G X Y : Nat → Nat → Nat} (lF : Lo F) (lG : Lo G) (hg : gt n (fn (mf F n n)) (fn (mf G n wd)) n = some (X, Y)) : mf (tm (mf F n n) (mf Y n wd)) n wd = mf G n wd := by
  apply mf_congr
  intro i c hi hc
  have h := gt_is (fn_mf_lo lF n n) (fn_mf_lo lG n wd) hg c i hi
  rw [mf_fn _ _ _ _ _ hi hc] at h
  rw [← h]
  unfold ap tm
  rw [mf_length]
  exact sm_congr n (fun j hj => by rw [mf_fn Y _ _ _ _ hj hc])
theorem gt_lo2 {n wd : Nat} {F G X Y : Nat → Nat → Nat} (lF : Lo F) (lG : Lo G) (hg : gt n (fn (mf F n n)) (fn (mf G n wd)) n = some (X, Y)) : Lo Y := (gt_lo (fn_mf_lo lF n n) (fn_mf_lo lG n wd) n hg).2

/-- One row put in another one's place. -/
def rowTo (F : Nat → Nat → Nat) (k l : Nat) : Nat → Nat → Nat := fun i => if i = l then F k else F i
theorem rowTo_lo {F : Nat → Nat → Nat} (h : Lo F) (k l : Nat) : Lo (rowTo F k l) := by
  intro i j; unfold rowTo; split
  · exact h _ _
  · exact h _ _
theorem rowTo_none {n wd : Nat} {F G : Nat → Nat → Nat} {k l : Nat} (lF : Lo F) (hk : k < n) (hl : l < n) (hn : k ≠ l) : gt n (fn (mf (rowTo F k l) n n)) (fn (mf G n wd)) n = none := by
  refine gt_twice (fn_mf_lo (rowTo_lo lF k l) n n) hk hl hn (fun j hj => ?_)
  rw [mf_fn _ _ _ _ _ hk hj, mf_fn _ _ _ _ _ hl hj]
  unfold rowTo
  rw [if_neg hn, if_pos rfl]
end Go.Proofs.Ytmgfapooanpgfaa

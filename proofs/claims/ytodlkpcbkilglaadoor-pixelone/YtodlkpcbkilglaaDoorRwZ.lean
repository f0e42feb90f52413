import Derived.Test.YtodlkpcbkilglaaDoorPsZ
namespace Go.Proofs.YtodlkpcbkilglaaDoor
open Go.RowKit Go.Shelf

set_option maxHeartbeats 4000000 in
set_option maxRecDepth 1000000 in
/-- rows: a function that holds the format and the frame. -/
theorem rows_any (a1 a2 a3 a4 a5 : Nat) (W H D : Int) (A : Bool) (po : Option Addr) (n c : Nat) (w : World) :
    Calls Tryd.prog 72 #[fmv a1 a2 a3 a4 a5, frv W H D A po n c] w fun e w' => e = .returned (.func (.func 93) #[] #[.pointer (some ⟨w.heap.size, 0, none⟩), .pointer (some ⟨w.heap.size + 1, 0, none⟩)]) ∧ w' = (w.alloc (.cells #[fnv a1, fnv a2, fnv a3, fnv a4, fnv a5] 65)).alloc (.cells #[.int .i64 W, .int .i64 H, .int .i64 D, .bool A, .slice po n c] 31) := by
  go_enter Tryd.func72, Tryd.ntmps72
  go_wp2
  go_ret
  exact ⟨rfl, rfl⟩

/-- The samples of the frame of example 1. -/
def tnF (i : Nat) : Nat := if i = 0 then 1 else if i = 1 then 2 else 769
set_option maxHeartbeats 4000000 in
set_option maxRecDepth 1000000 in
theorem tiny_any (w : World) :
    Calls Tryd.prog 17 #[] w fun e w' => ∃ g, e = .returned (frv 1 1 10 false (some ⟨g, 0, none⟩) 3 3) ∧ (∀ i, i < 3 → ∃ b, w'.cell? ⟨g, i, none⟩ = some (.slice (some ⟨b, 0, none⟩) 1 1) ∧ w'.cell? ⟨b, 0, none⟩ = some (.int .u16 (tnF i : Int))) ∧ Kept [] w w' := by
  go_enter Tryd.func17, Tryd.ntmps17
  go_wp2
  have k1 := alloc_kept w (.cells #[.int .i64 1, .int .i64 1, .int .i64 10, .bool false, .slice (some ⟨w.heap.size + 1 + 1 + 1 + 1, 0, none⟩) 3 3] 31)
  have k2 := alloc_kept (w.alloc (.cells #[.int .i64 1, .int .i64 1, .int .i64 10, .bool false, .slice (some ⟨w.heap.size + 1 + 1 + 1 + 1, 0, none⟩) 3 3] 31)) (.cells #[.int .u16 1] 70)
  have kk := (k2.trans (alloc_kept _ (.cells #[.int .u16 2] 70))).trans ((alloc_kept _ (.cells #[.int .u16 769] 70)).trans (alloc_kept _ (.cells #[.slice (some ⟨w.heap.size + 1, 0, none⟩) 1 1, .slice (some ⟨w.heap.size + 1 + 1, 0, none⟩) 1 1, .slice (some ⟨w.heap.size + 1 + 1 + 1, 0, none⟩) 1 1] 68)))
  have hR := kk.heap (heap_alloc_new w (.cells #[.int .i64 1, .int .i64 1, .int .i64 10, .bool false, .slice (some ⟨w.heap.size + 1 + 1 + 1 + 1, 0, none⟩) 3 3] 31)) (by simp)
  refine bodyPost_ret (v := frv 1 1 10 false (some ⟨w.heap.size + 1 + 1 + 1 + 1, 0, none⟩) 3 3) ?_ rfl ⟨_, rfl, fun i hi => ?_, k1.trans kk⟩
  · exact results_cell_row rfl _ _ w.heap.size 31 _ (0, 0) _ rfl hR Tryd.underlying31 rfl Tryd.info38
  · rcases (by omega : i = 0 ∨ i = 1 ∨ i = 2) with rfl | rfl | rfl
    · refine ⟨w.heap.size + 1, by go_simp, ?_⟩
      show World.cell? _ _ = some (.int .u16 1)
      go_simp
    · refine ⟨w.heap.size + 1 + 1, by go_simp, ?_⟩
      show World.cell? _ _ = some (.int .u16 2)
      go_simp
    · refine ⟨w.heap.size + 1 + 1 + 1, by go_simp, ?_⟩
      show World.cell? _ _ = some (.int .u16 769)
      go_simp
end Go.Proofs.YtodlkpcbkilglaaDoor

namespace Go.Proofs.YtodlkpcbkilglaaDoor
open Go.RowKit Go.Shelf

/-- The group of v210: the plane of its i-th sample, that one's number, and how many the plane has in a group. -/
def gP (i : Nat) : Nat := if i % 2 = 1 then 0 else if i % 4 = 0 then 1 else 2
def gN (i : Nat) : Nat := if i % 2 = 1 then i / 2 else i / 4
def gE (i : Nat) : Nat := if i % 2 = 1 then 6 else 3
/-- The table lies where it was laid. -/
def Tab (w : World) : Prop := ∀ i, i < 12 → w.cell? ⟨0, i * 3, none⟩ = some (.int .i64 (gP i : Int)) ∧ w.cell? ⟨0, i * 3 + 1, none⟩ = some (.int .i64 (gN i : Int)) ∧ w.cell? ⟨0, i * 3 + 2, none⟩ = some (.int .i64 (gE i : Int))
theorem Tab.keep {w w' : World} {ks : List Nat} (h : Tab w) (hk : Kept ks w w') (h0 : 0 ∉ ks) : Tab w' := fun i hi => by
  obtain ⟨a, b, c⟩ := h i hi
  exact ⟨cell_keep hk a h0, cell_keep hk b h0, cell_keep hk c h0⟩

set_option maxHeartbeats 4000000 in
set_option maxRecDepth 1000000 in
theorem where_any (i : Nat) (w : World) (hT : Tab w) (hi : i ≤ 1000000) :
    Calls Tryd.prog 90 #[.int .i64 (i : Int)] w fun e w' => e = .returned (.tuple #[.int .i64 (gP (i % 12) : Int), .int .i64 ((i / 12 * gE (i % 12) + gN (i % 12) : Nat) : Int)]) ∧ Kept [] w w' := by
  have hm : i % 12 < 12 := Nat.mod_lt _ (by decide)
  obtain ⟨c0, c1, c2⟩ := hT _ hm
  have hg : gP (i % 12) ≤ 2 ∧ gN (i % 12) ≤ 5 ∧ gE (i % 12) ≤ 6 := by unfold gP gN gE; split <;> refine ⟨?_, ?_, ?_⟩ <;> first | omega | (split <;> omega)
  obtain ⟨p, ep⟩ : ∃ p, p = gP (i % 12) := ⟨_, rfl⟩
  obtain ⟨q, eq⟩ : ∃ q, q = gN (i % 12) := ⟨_, rfl⟩
  obtain ⟨r, er⟩ : ∃ r, r = gE (i % 12) := ⟨_, rfl⟩
  rw [← ep] at c0 hg ⊢
  rw [← eq] at c1 hg ⊢
  rw [← er] at c2 hg ⊢
  clear ep eq er hT
  obtain ⟨m, em⟩ : ∃ m, m = i % 12 := ⟨_, rfl⟩
  rw [← em] at hm c0 c1 c2
  have hm2 : (i : Int) % 12 = (m : Int) := by omega
  obtain ⟨d, ed⟩ : ∃ d, d = i / 12 := ⟨_, rfl⟩
  have hd : (i : Int) / 12 = (d : Int) := by omega
  have hdr : d * r ≤ 1000000 * 6 := Nat.mul_le_mul (by omega) hg.2.2
  have e2 : (d : Int) * (r : Int) = ((d * r : Nat) : Int) := by rw [Int.natCast_mul]
  have hwr : IntKind.i64.wrap ((i : Int) / 12 * (r : Int)) = ((d * r : Nat) : Int) := by rw [hd, e2]; exact wrap_i (by omega) (by omega)
  have hwr2 : IntKind.i64.wrap (((d * r : Nat) : Int) + (q : Int)) = ((d * r + q : Nat) : Int) := by rw [wrap_i (by omega) (by omega)]; omega
  rw [← ed]
  obtain ⟨z, ez⟩ : ∃ z, z = d * r := ⟨_, rfl⟩
  rw [← ez] at hwr hwr2 hdr ⊢
  clear hd e2 ed ez
  go_enter Tryd.func90, Tryd.ntmps90
  go_wp2
  rw [hm2]
  have hm3 : (m : Int) < 12 := by omega
  clear em hm2
  go_wp2
  go_quiet (fail)
  go_wp2
  go_ret2
  exact ⟨by rw [Int.natCast_add]; rfl, ((Kept.refl _ _).alloc _).drewN _⟩
end Go.Proofs.YtodlkpcbkilglaaDoor

namespace Go.Proofs.YtodlkpcbkilglaaDoor
open Go.RowKit Go.Shelf

/-- The sample that stands at place s in a row of v210 (0, where there is none). -/
def v2S (f : Nat → Nat → Nat) (l : Nat → Nat) (s : Nat) : Nat :=
  if s / 12 * gE (s % 12) + gN (s % 12) < l (gP (s % 12)) then f (gP (s % 12)) (s / 12 * gE (s % 12) + gN (s % 12)) else 0
/-- A word of such a row. -/
def v2W (f : Nat → Nat → Nat) (l : Nat → Nat) (n : Nat) : Nat := v2S f l (3 * n) + 1024 * v2S f l (3 * n + 1) + 1048576 * v2S f l (3 * n + 2)
/-- Its bytes. -/
def v2B (f : Nat → Nat → Nat) (l : Nat → Nat) (t : Nat) : Nat := v2W f l (t / 4) / 256 ^ (t % 4) % 256
theorem v2S_lt {f : Nat → Nat → Nat} {l : Nat → Nat} (hf : ∀ p x, p < 3 → x < l p → f p x < 1024) (s : Nat) : v2S f l s < 1024 := by
  unfold v2S
  split
  · rename_i h
    exact hf _ _ (by unfold gP; split <;> (try split) <;> omega) h
  · decide
theorem v2W_lt {f : Nat → Nat → Nat} {l : Nat → Nat} (hf : ∀ p x, p < 3 → x < l p → f p x < 1024) (n : Nat) : v2W f l n < 1073741824 := by
  have h0 := v2S_lt hf (3 * n)
  have h1 := v2S_lt hf (3 * n + 1)
  have h2 := v2S_lt hf (3 * n + 2)
  unfold v2W
  omega
/-- The words behind j rounds, the last one first, as one number. -/
def wkN (W : Nat → Nat) (N : Nat) : Nat → Nat
  | 0 => 0
  | j + 1 => wkN W N j * 4294967296 + W (N - 1 - j)
theorem wkN_div (W : Nat → Nat) (hW : ∀ i, W i < 4294967296) (n : Nat) : ∀ (j k : Nat), j ≤ k → wkN W n k / 4294967296 ^ j = wkN W n (k - j) := by
  intro j
  induction j with
  | zero => intro k _; simp
  | succ j ih =>
    intro k hk
    obtain ⟨k, rfl⟩ : ∃ m, k = m + 1 := ⟨k - 1, by omega⟩
    rw [Nat.pow_succ', ← Nat.div_div_eq_div_mul, show wkN W n (k + 1) / 4294967296 = wkN W n k by rw [wkN]; have := hW (n - 1 - k); omega, ih k (by omega), show k + 1 - (j + 1) = k - j by omega]
/-- A word's bytes, the lowest one first. -/
theorem wkN_byte (W : Nat → Nat) (hW : ∀ i, W i < 4294967296) (n t : Nat) (ht : t < 4 * n) : wkN W n n / 256 ^ t % 256 = W (t / 4) / 256 ^ (t % 4) % 256 := by
  have h1 : 256 ^ t = 4294967296 ^ (t / 4) * 256 ^ (t % 4) := by
    rw [show 4294967296 = 256 ^ 4 from rfl, ← Nat.pow_mul, ← Nat.pow_add]
    congr 1
    omega
  rw [h1, ← Nat.div_div_eq_div_mul, wkN_div W hW n _ n (by omega)]
  obtain ⟨m, hm⟩ : ∃ m, n - t / 4 = m + 1 := ⟨n - t / 4 - 1, by omega⟩
  rw [hm, wkN, show n - 1 - m = t / 4 by omega]
  have hx := hW (t / 4)
  obtain ⟨x, ex⟩ : ∃ x, x = W (t / 4) := ⟨_, rfl⟩
  rw [← ex] at hx ⊢
  rcases (by omega : t % 4 = 0 ∨ t % 4 = 1 ∨ t % 4 = 2 ∨ t % 4 = 3) with h | h | h | h <;> rw [h] <;> omega
/-- An or of what has no bit in common. -/
theorem or_add (a b k : Nat) (ha : a < 2 ^ k) : a ||| (b * 2 ^ k) = a + b * 2 ^ k := by
  rw [Nat.mul_comm b, Nat.or_comm, ← Nat.two_pow_add_eq_or_of_lt ha, Nat.add_comm]
end Go.Proofs.YtodlkpcbkilglaaDoor

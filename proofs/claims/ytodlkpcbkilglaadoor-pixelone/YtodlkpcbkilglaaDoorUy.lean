import Derived.Test.YtodlkpcbkilglaaDoorUx
import Derived.Test.YtodlkpcbkilglaaDoorUo
import Derived.Test.YtodlkpcbkilglaaDoorUb
import Derived.Test.YtodlkpcbkilglaaDoorUrZ
namespace Go.Proofs.YtodlkpcbkilglaaDoor
open Go.RowKit Go.Shelf

/-- Bytes that came in. -/
def RB (w : World) (bo : Option Addr) (M : Nat) (fb : Nat → Nat) : Prop := M = 0 ∨ ∃ gb ob, bo = some ⟨gb, ob, none⟩ ∧ ∀ i, i < M → w.cell? ⟨gb, ob + i, none⟩ = some (.int .u8 (fb i : Int))
theorem RB.keep {w w' : World} {bo : Option Addr} {M : Nat} {fb : Nat → Nat} (h : RB w bo M fb) (hk : Kept [] w w') : RB w' bo M fb := by
  rcases h with h | ⟨gb, ob, e, hc⟩
  · exact .inl h
  · exact .inr ⟨gb, ob, e, fun i hi => cell_keep hk (hc i hi) (by simp)⟩
/-- A row of v210 is right. -/
def rwOk (W : Int) (fb : Nat → Nat) (k : Nat) : Prop := ∀ n, n < (wdN W 0 + 47) / 48 * 32 → vT (fun t => fb (ctL (v2L W) k + t)) (wdN W) n 3 = wdB (fun t => fb (ctL (v2L W) k + t)) n
open Classical in
/-- What is wrong with planar bytes, with v210's. -/
noncomputable def plE (W H D : Int) (A : Bool) (M : Nat) (fb : Nat → Nat) : Int := if shE W H D A = 0 then (if M = ctL (plL W H.toNat) (np A * H.toNat) then (if vE W H D A (np A) (pz W H) (pnF W H.toNat fb) = 0 then 0 else 73) else 72) else 61
open Classical in
noncomputable def v2E (W H D : Int) (A : Bool) (M : Nat) (fb : Nat → Nat) : Int := if shE W H D A = 0 then (if D = 10 ∧ A = false then (if M = ctL (v2L W) (1 * H.toNat) then (if ∀ k, k < H.toNat → rwOk W fb k then 0 else 73) else 72) else 71) else 61
/-- What comes out. -/
def UnQ (E W H D : Int) (A : Bool) (F : Nat → Nat → Nat) (w w' : World) (x1 x2 x3 : Int) (x4 : Bool) (po : Option Addr) (n k : Nat) : Prop :=
  (E = 0 → x1 = W ∧ x2 = H ∧ x3 = D ∧ x4 = A ∧ n = np A ∧ k = np A ∧ ∃ G bs, po = some ⟨G, 0, none⟩ ∧ Mk w w' G (np A) (np A) bs (pz W H) F) ∧ (E ≠ 0 → x1 = 0 ∧ x2 = 0 ∧ x3 = 0 ∧ x4 = false ∧ po = none ∧ n = 0 ∧ k = 0)
theorem UnQ.err {E W H D : Int} {A : Bool} {F : Nat → Nat → Nat} {w w' : World} (h : E ≠ 0) : UnQ E W H D A F w w' 0 0 0 false none 0 0 := ⟨fun e => absurd e h, fun _ => ⟨rfl, rfl, rfl, rfl, rfl, rfl, rfl⟩⟩
theorem first_bad {P : Nat → Prop} : ∀ h : Nat, ¬ (∀ k, k < h → P k) → ∃ K, K < h ∧ (∀ k, k < K → P k) ∧ ¬ P K := by
  intro h
  induction h with
  | zero => intro hn; exact absurd (fun k hk => absurd hk (Nat.not_lt_zero _)) hn
  | succ h ih =>
    intro hn
    by_cases hp : ∀ k, k < h → P k
    · exact ⟨h, Nat.lt_succ_self _, hp, fun hh => hn (fun k hk => by
        rcases Nat.lt_succ_iff_lt_or_eq.1 hk with h1 | h1
        · exact hp k h1
        · rw [h1]; exact hh)⟩
    · obtain ⟨K, h1, h2, h3⟩ := ih hp
      exact ⟨K, Nat.lt_succ_of_lt h1, h2, h3⟩
/-- A frame of noughts may be. -/
theorem vld_zero {W D : Int} {A : Bool} {h : Nat} (hs : Shp W (h : Int) D A) (F : Nat → Nat → Nat) (hF : ∀ i, i < np A → ∀ j, j < pz W (h : Int) i → F i j ≤ mx D) : Vld W (h : Int) D A (np A) (pz W (h : Int)) F := by
  refine ⟨hs, rfl, fun i _ => ?_, hF⟩
  obtain ⟨h1, h2, h3⟩ := wdN_ok hs i
  unfold pz
  rw [← h3, ← Int.natCast_mul]
  rfl
theorem shp_of {W H D : Int} {A : Bool} (h : shE W H D A = 0) : Shp W H D A := by
  by_cases hs : Shp W H D A
  · exact hs
  · rw [shE_no hs] at h; cases h
theorem un57_planar (W H D : Int) (A : Bool) (bo : Option Addr) (M cb : Nat) (fb : Nat → Nat) (w : World) (hb : RB w bo M fb) (hfb : ∀ i, i < M → fb i < 256) (hcb : M ≤ cb) :
    Calls Tryd.prog 57 #[fmv 58 59 60 61 62, shv W H D A, .slice bo M cb] w fun e w' => ∃ x1 x2 x3 x4 po n k, e = .returned (.tuple #[frv x1 x2 x3 x4 po n k, .int .i64 (plE W H D A M fb)]) ∧ Kept [] w w' ∧ UnQ (plE W H D A M fb) W H D A (pnF W H.toNat fb) w w' x1 x2 x3 x4 po n k := by
  by_cases hE : shE W H D A = 0
  · have hs := shp_of hE
    obtain ⟨h, rfl⟩ : ∃ h : Nat, H = (h : Int) := ⟨H.toNat, by have := hs.2.1; omega⟩
    have h1 : 1 ≤ h := by have := hs.2.1; omega
    have hw : ∀ p, 1 ≤ wdN W p := fun p => (wdN_ok hs p).1
    have hMs : sS W (h : Int) (fun x => 2 * x) (fun i => i) (np A) = ((ctL (plL W h) (np A * h) : Nat) : Int) := (ctL_sS (plL W h) (fun i => 2 * wdN W i) W h (fun x => 2 * x) (fun i => i) h1 (fun k => rfl) _ (fun i _ => rfl)).symm
    by_cases hM : M = ctL (plL W h) (np A * h)
    · have hMp : 0 < M := by
        have hm := ctL_mono (plL W h) (show 1 ≤ np A * h from Nat.mul_pos (by have := np_lo A; omega) h1)
        have h5 : ctL (plL W h) 1 = 0 + plL W h 0 := rfl
        have h6 : plL W h 0 = 2 * wdN W (0 / h) := rfl
        have h7 := hw (0 / h)
        omega
      rcases hb with hb | ⟨gb, ob, rfl, hc⟩
      · omega
      have hg := pnF_good (h := h) hw (np A * h) (fun i hi => hfb i (by omega))
      by_cases hv : vE W (h : Int) D A (np A) (pz W (h : Int)) (pnF W h fb) = 0
      · have e0 : plE W (h : Int) D A M fb = 0 := by unfold plE; rw [if_pos hE, if_pos (by simpa using hM), if_pos (by simpa using hv)]
        refine (unpack_planar W D A (np A) h gb ob cb (pz W (h : Int)) (pnF W h fb) fb w (vE_zero.1 hv) M hM hcb hc hfb hg).mono ?_
        rintro e w' ⟨G, bs, rfl, hm⟩
        refine ⟨_, _, _, _, _, _, _, by rw [e0], hm.kept, fun _ => ⟨rfl, rfl, rfl, rfl, rfl, rfl, G, bs, rfl, ?_⟩, fun h => absurd e0 h⟩
        simpa using hm
      · have e0 : plE W (h : Int) D A M fb = 73 := by unfold plE; rw [if_pos hE, if_pos (by simpa using hM), if_neg (by simpa using hv)]
        have hV := vld_zero hs (fun _ _ => 0) (fun i hi j hj => Nat.zero_le _)
        refine (unpack_over W D A (np A) h gb ob cb (pz W (h : Int)) (pnF W h fb) fb w hV (fun i hi x hx => ?_) hv M hM hcb hc hfb hg).mono ?_
        · obtain ⟨m1, m2, m3⟩ := wdN_ok hs i
          have hl : pz W (h : Int) i = wdN W i * h := by
            have := hV.len i hi
            rw [← m3, ← Int.natCast_mul] at this
            omega
          have hx2 : x / wdN W i < h := Nat.div_lt_of_lt_mul (by rw [← hl]; exact hx)
          have hk : i * h + x / wdN W i < np A * h := by
            have : (i + 1) * h ≤ np A * h := Nat.mul_le_mul_right _ hi
            rw [Nat.add_mul] at this
            omega
          have hm := ctL_mono (plL W h) (show i * h + x / wdN W i + 1 ≤ np A * h from hk)
          have hp : plL W h (i * h + x / wdN W i) = 2 * wdN W i := by
            unfold plL
            rw [Nat.add_comm, Nat.add_mul_div_right _ _ h1, Nat.div_eq_of_lt hx2, Nat.zero_add]
          rw [ctL, hp] at hm
          have hr := Nat.mod_lt x m1
          have b0 := hfb (ctL (plL W h) (i * h + x / wdN W i) + 2 * (x % wdN W i)) (by omega)
          have b1 := hfb (ctL (plL W h) (i * h + x / wdN W i) + (2 * (x % wdN W i) + 1)) (by omega)
          unfold pnF
          omega
        · rintro e w' ⟨rfl, hk⟩
          exact ⟨_, _, _, _, _, _, _, by rw [e0], hk, .err (by rw [e0]; decide)⟩
    · have e0 : plE W (h : Int) D A M fb = 72 := by unfold plE; rw [if_pos hE, if_neg (by simpa using hM)]
      refine (unpack_no 58 59 60 61 62 W (h : Int) D A bo M cb ((ctL (plL W h) (np A * h) : Nat) : Int) 0 w (fun u => ?_) (.inr (by omega))).mono ?_
      · have CZ := sizeP W (h : Int) D A u
        rw [hE] at CZ
        simpa [hMs] using CZ
      · rintro e w' ⟨rfl, hk⟩
        exact ⟨_, _, _, _, _, _, _, by rw [e0, if_pos rfl], hk, .err (by rw [e0]; decide)⟩
  · have e0 : plE W H D A M fb = 61 := by unfold plE; rw [if_neg hE]
    refine (unpack_no 58 59 60 61 62 W H D A bo M cb 0 61 w (fun u => ?_) (.inl (by decide))).mono ?_
    · have CZ := sizeP W H D A u
      simpa [hE] using CZ
    · rintro e w' ⟨rfl, hk⟩
      exact ⟨_, _, _, _, _, _, _, by rw [e0]; rfl, hk, .err (by rw [e0]; decide)⟩
theorem un57_v210 (W H D : Int) (A : Bool) (bo : Option Addr) (M cb : Nat) (fb : Nat → Nat) (w : World) (hT : Tab w) (hb : RB w bo M fb) (hfb : ∀ i, i < M → fb i < 256) (hcb : M ≤ cb) :
    Calls Tryd.prog 57 #[fmv 66 67 68 69 70, shv W H D A, .slice bo M cb] w fun e w' => ∃ x1 x2 x3 x4 po n k, e = .returned (.tuple #[frv x1 x2 x3 x4 po n k, .int .i64 (v2E W H D A M fb)]) ∧ Kept [] w w' ∧ UnQ (v2E W H D A M fb) W H D A (vnF W fb) w w' x1 x2 x3 x4 po n k := by
  by_cases hE : shE W H D A = 0
  · have hs := shp_of hE
    by_cases hDA : D = 10 ∧ A = false
    · obtain ⟨h, rfl⟩ : ∃ h : Nat, H = (h : Int) := ⟨H.toNat, by have := hs.2.1; omega⟩
      have h1 : 1 ≤ h := by have := hs.2.1; omega
      have hw : ∀ p, 1 ≤ wdN W p := fun p => (wdN_ok hs p).1
      have hMs : sS W (h : Int) (fun x => (x + 47) / 48 * 128) (fun _ => 0) 1 = ((ctL (v2L W) (1 * h) : Nat) : Int) := (ctL_sS (v2L W) (fun _ => 4 * ((wdN W 0 + 47) / 48 * 32)) W h (fun x => (x + 47) / 48 * 128) (fun _ => 0) h1 (fun k => rfl) _ (fun i _ => by show 4 * ((wdN W 0 + 47) / 48 * 32) = (wdN W 0 + 47) / 48 * 128; omega)).symm
      by_cases hM : M = ctL (v2L W) (1 * h)
      · have hMp : 0 < M := by
          have hm := ctL_mono (v2L W) (show 1 ≤ 1 * h by omega)
          have h5 : ctL (v2L W) 1 = 0 + v2L W 0 := rfl
          have h6 : v2L W 0 = 4 * ((wdN W 0 + 47) / 48 * 32) := rfl
          have h7 := hw 0
          omega
        rcases hb with hb | ⟨gb, ob, rfl, hc⟩
        · omega
        by_cases hv : ∀ k, k < h → rwOk W fb k
        · have e0 : v2E W (h : Int) D A M fb = 0 := by unfold v2E; rw [if_pos hE, if_pos hDA, if_pos (by simpa using hM), if_pos (by simpa using hv)]
          have hg := vnF_good hw (1 * h) (fun i hi => hfb i (by omega)) (fun k hk => hv k (by omega))
          refine (unpack_v210 W D A (np A) h gb ob cb (pz W (h : Int)) (vnF W fb) fb w (vld_zero hs _ (fun i hi j hj => by have h8 := vnF_lt W fb i j; have h9 : mx D = 1023 := (by rw [hDA.1]; rfl); omega)) hDA.1 hDA.2 hT M hM hcb hc hfb hg).mono ?_
          rintro e w' ⟨G, bs, rfl, hm⟩
          exact ⟨_, _, _, _, _, _, _, by rw [e0], hm.kept, fun _ => ⟨rfl, rfl, rfl, rfl, rfl, rfl, G, bs, rfl, hm⟩, fun h => absurd e0 h⟩
        · have e0 : v2E W (h : Int) D A M fb = 73 := by unfold v2E; rw [if_pos hE, if_pos hDA, if_pos (by simpa using hM), if_neg (by simpa using hv)]
          obtain ⟨K, k1, k2, k3⟩ := first_bad h hv
          refine (unpack_bad W D A (np A) h gb ob cb (pz W (h : Int)) (fun _ _ => 0) fb K w k1 (vld_zero hs _ (fun i hi j hj => Nat.zero_le _)) hDA.1 hDA.2 hT M hM hcb hc hfb (fun k hk => k2 k hk) k3).mono ?_
          rintro e w' ⟨rfl, hk⟩
          exact ⟨_, _, _, _, _, _, _, by rw [e0], hk, .err (by rw [e0]; decide)⟩
      · have e0 : v2E W (h : Int) D A M fb = 72 := by unfold v2E; rw [if_pos hE, if_pos hDA, if_neg (by simpa using hM)]
        refine (unpack_no 66 67 68 69 70 W (h : Int) D A bo M cb ((ctL (v2L W) (1 * h) : Nat) : Int) 0 w (fun u => ?_) (.inr (by omega))).mono ?_
        · have CZ := sizeV W (h : Int) D A u
          rw [hE, show (decide (D = 10) && !A) = true by rw [hDA.1, hDA.2]; rfl] at CZ
          simpa [hMs] using CZ
        · rintro e w' ⟨rfl, hk⟩
          exact ⟨_, _, _, _, _, _, _, by rw [e0, if_pos rfl], hk, .err (by rw [e0]; decide)⟩
    · have e0 : v2E W H D A M fb = 71 := by unfold v2E; rw [if_pos hE, if_neg hDA]
      refine (unpack_no 66 67 68 69 70 W H D A bo M cb 0 71 w (fun u => ?_) (.inl (by decide))).mono ?_
      · have CZ := sizeV W H D A u
        have hd : (decide (D = 10) && !A) = false := by
          by_cases h : D = 10
          · cases A
            · exact absurd ⟨h, rfl⟩ hDA
            · simp
          · simp [h]
        rw [hE, hd] at CZ
        simpa using CZ
      · rintro e w' ⟨rfl, hk⟩
        exact ⟨_, _, _, _, _, _, _, by rw [e0]; rfl, hk, .err (by rw [e0]; decide)⟩
  · have e0 : v2E W H D A M fb = 61 := by unfold v2E; rw [if_neg hE]
    refine (unpack_no 66 67 68 69 70 W H D A bo M cb 0 61 w (fun u => ?_) (.inl (by decide))).mono ?_
    · have CZ := sizeV W H D A u
      simpa [hE] using CZ
    · rintro e w' ⟨rfl, hk⟩
      exact ⟨_, _, _, _, _, _, _, by rw [e0]; rfl, hk, .err (by rw [e0]; decide)⟩
end Go.Proofs.YtodlkpcbkilglaaDoor

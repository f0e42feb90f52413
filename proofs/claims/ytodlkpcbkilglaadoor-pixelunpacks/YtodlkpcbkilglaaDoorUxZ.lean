import Derived.Test.YtodlkpcbkilglaaDoorUp
import Derived.Test.YtodlkpcbkilglaaDoorUo
import Derived.Test.YtodlkpcbkilglaaDoorUb
import Derived.Test.YtodlkpcbkilglaaDoorUrZ
namespace Go.Proofs.YtodlkpcbkilglaaDoor
open Go.RowKit Go.Shelf
attribute [local go_sem] Oper.semAt_some

/-- The answers' boxes of an error. -/
theorem zero_fin {w w2 : World} {P6 P7 : Nat} (x : Int) (g6 : w2.heap[P6]? = some (.cells #[.int .i64 0, .int .i64 0, .int .i64 0, .bool false, .slice none 0 0] 31 (0, 0))) (g7 : w2.heap[P7]? = some (.cells #[.int .i64 0] 25 (0, 0))) (hk : Kept [] w w2) (n67 : P6 ≠ P7) (l6 : w.heap.size ≤ P6) (l7 : w.heap.size ≤ P7) :
    ((((((w2.setCell ⟨P6, 0, none⟩ (.int .i64 0)).setCell ⟨P6, 1, none⟩ (.int .i64 0)).setCell ⟨P6, 2, none⟩ (.int .i64 0)).setCell ⟨P6, 3, none⟩ (.bool false)).setCell ⟨P6, 4, none⟩ (.slice none 0 0)).setCell ⟨P7, 0, none⟩ (.int .i64 x)).heap[P6]? = some (.cells #[.int .i64 0, .int .i64 0, .int .i64 0, .bool false, .slice none 0 0] 31 (0, 0)) ∧ ((((((w2.setCell ⟨P6, 0, none⟩ (.int .i64 0)).setCell ⟨P6, 1, none⟩ (.int .i64 0)).setCell ⟨P6, 2, none⟩ (.int .i64 0)).setCell ⟨P6, 3, none⟩ (.bool false)).setCell ⟨P6, 4, none⟩ (.slice none 0 0)).setCell ⟨P7, 0, none⟩ (.int .i64 x)).cell? ⟨P7, 0, none⟩ = some (.int .i64 x) ∧ Kept [] w ((((((w2.setCell ⟨P6, 0, none⟩ (.int .i64 0)).setCell ⟨P6, 1, none⟩ (.int .i64 0)).setCell ⟨P6, 2, none⟩ (.int .i64 0)).setCell ⟨P6, 3, none⟩ (.bool false)).setCell ⟨P6, 4, none⟩ (.slice none 0 0)).setCell ⟨P7, 0, none⟩ (.int .i64 x)) := by
  have s5 := set5 (.int .i64 0) (.int .i64 0) (.int .i64 0) (.bool false) (.slice none 0 0) g6
  obtain ⟨wz, ewz⟩ : ∃ wz, wz = (((((w2.setCell ⟨P6, 0, none⟩ (.int .i64 0)).setCell ⟨P6, 1, none⟩ (.int .i64 0)).setCell ⟨P6, 2, none⟩ (.int .i64 0)).setCell ⟨P6, 3, none⟩ (.bool false)).setCell ⟨P6, 4, none⟩ (.slice none 0 0)) := ⟨_, rfl⟩
  rw [← ewz] at s5 ⊢
  have kz : Kept [P7] wz (wz.setCell ⟨P7, 0, none⟩ (.int .i64 x)) := (Kept.refl _ _).setCell (.inl (by simp)) _
  have g7z := s5.2.heap g7 (by simp; omega)
  have e7 : (wz.setCell ⟨P7, 0, none⟩ (.int .i64 x)).heap[P7]? = some (.cells #[.int .i64 x] 25 (0, 0)) := by rw [heap_setCell_at g7z]; rfl
  exact ⟨kz.heap s5.1 (by simp; omega), one_cell e7, (hk.step s5.2 (fun y hy => by simp at hy; right; omega)).step kz (fun y hy => by simp at hy; right; omega)⟩

set_option maxHeartbeats 16000000 in
set_option maxRecDepth 1000000 in
/-- unpack of a shape that is refused, or of bytes of another length. -/
theorem unpack_no (f1 f2 f3 f4 f5 : Nat) (W H D : Int) (A : Bool) (bo : Option Addr) (M cb : Nat) (Z E : Int) (w : World) (CZ : ∀ u, Calls Tryd.prog 36 #[fmv f1 f2 f3 f4 f5, shv W H D A] u fun e w' => e = .returned (.tuple #[.int .i64 Z, .int .i64 E]) ∧ Kept [] u w') (hno : E ≠ 0 ∨ (M : Int) ≠ Z) :
    Calls Tryd.prog 57 #[fmv f1 f2 f3 f4 f5, shv W H D A, .slice bo M cb] w fun e w' => e = .returned (.tuple #[frv 0 0 0 false none 0 0, .int .i64 (if E = 0 then 72 else E)]) ∧ Kept [] w w' := by
  have CZ := Hid.mk CZ
  obtain ⟨⟨a0, a1, a2, a3, a4⟩, ka, za⟩ := alloc5 w (.cells #[fnv f1, fnv f2, fnv f3, fnv f4, fnv f5] 65) (.cells #[.int .i64 W, .int .i64 H, .int .i64 D, .bool A] 24) (.cells #[.slice bo M cb] 37) (.cells #[.int .i64 0, .int .i64 0, .int .i64 0, .bool false, .slice none 0 0] 31) (.cells #[.int .i64 0] 25)
  obtain ⟨wa, ewa⟩ : ∃ wa, ((((w.alloc (.cells #[fnv f1, fnv f2, fnv f3, fnv f4, fnv f5] 65)).alloc (.cells #[.int .i64 W, .int .i64 H, .int .i64 D, .bool A] 24)).alloc (.cells #[.slice bo M cb] 37)).alloc (.cells #[.int .i64 0, .int .i64 0, .int .i64 0, .bool false, .slice none 0 0] 31)).alloc (.cells #[.int .i64 0] 25) = wa := ⟨_, rfl⟩
  rw [ewa] at a0 a1 a2 a3 a4 ka za
  refine (callsIn_wide (n := 0)).1 ?_
  refine callsIn_of_wp_marks Tryd.func57 rfl trivial ?_ rfl
  simp only [Tryd.ntmps57, List.size_toArray, List.length_cons, List.length_nil, Nat.reduceAdd, Nat.reduceSub, Array.replicate_succ, Array.replicate_zero, List.push_toArray, List.append_toArray, List.nil_append, List.cons_append]
  refine wpIn_wide.2 ?_
  obtain ⟨⟨p0, p1, p2, p3, p4⟩, _⟩ := five a0
  obtain ⟨q0, q1, q2, q3⟩ : wa.cell? ⟨w.heap.size + 1, 0, none⟩ = some (.int .i64 W) ∧ wa.cell? ⟨w.heap.size + 1, 1, none⟩ = some (.int .i64 H) ∧ wa.cell? ⟨w.heap.size + 1, 2, none⟩ = some (.int .i64 D) ∧ wa.cell? ⟨w.heap.size + 1, 3, none⟩ = some (.bool A) := by
    refine ⟨?_, ?_, ?_, ?_⟩ <;> (rw [cell_of_row _ _ _ _ _ _ a1]; rfl)
  have HA := Hid.mk (And.intro a2 (And.intro a3 (And.intro a4 ka)))
  clear a0 a1 a2 a3 a4 ka za
  go_wp2_with (fail)
  obtain ⟨P7, e7⟩ : ∃ P7, P7 = w.heap.size + 1 + 1 + 1 + 1 := ⟨_, rfl⟩
  obtain ⟨P6, e6⟩ : ∃ P6, P6 = w.heap.size + 1 + 1 + 1 := ⟨_, rfl⟩
  obtain ⟨P5, e5⟩ : ∃ P5, P5 = w.heap.size + 1 + 1 := ⟨_, rfl⟩
  obtain ⟨P4, e4⟩ : ∃ P4, P4 = w.heap.size + 1 := ⟨_, rfl⟩
  obtain ⟨P3, e3⟩ : ∃ P3, P3 = w.heap.size := ⟨_, rfl⟩
  have HP := Hid.mk (And.intro e3 (And.intro e4 (And.intro e5 (And.intro e6 e7))))
  rw [← e7, ← e6, ← e5, ← e4, ← e3]
  rw [← e7, ← e6, ← e5] at HA
  clear p0 p1 p2 p3 p4 q0 q1 q2 q3
  have n67 : P6 ≠ P7 := by omega
  have n76 : P7 ≠ P6 := by omega
  clear e3 e4 e5 e6 e7
  refine (CZ.out _).mono ?_
  rintro e w2 ⟨rfl, hk2⟩
  obtain ⟨a2, a3, a4, ka⟩ := HA.out
  have c5 := one_cell (hk2.heap a2 (by simp))
  have g6 := hk2.heap a3 (by simp)
  have g7 := hk2.heap a4 (by simp)
  obtain ⟨⟨r0, r1, r2, r3, r4⟩, s0, s1, s2, s3, s4⟩ := five g6
  have r7 := one_cell g7
  have s7 : w2.frozen? ⟨P7, 0, none⟩ = false := by simp [World.frozen?, g7]
  have HG := Hid.mk (And.intro g6 (And.intro g7 (ka.trans hk2)))
  clear a2 a3 a4 ka hk2 g6 g7 HA CZ
  by_cases hE : E = 0
  · subst hE
    have hm : (M : Int) ≠ Z := by simpa using hno
    have hm2 : ((M : Int) != Z) = true := by simpa using hm
    have hm3 : ¬ (M : Int) = Z := hm
    clear hno
    go_wp2
    obtain ⟨g6, g7, hk⟩ := HG.out
    obtain ⟨h3, h4, h5, h6, h7⟩ := HP.out
    obtain ⟨f6, f7, f8⟩ := zero_fin (w := w) 72 g6 g7 hk n67 (by omega) (by omega)
    exact ⟨_, results_two_cells rfl _ _ P6 P7 31 _ (0, 0) _ _ rfl f6 Tryd.underlying31 Tryd.info38 rfl f7, rfl, f8⟩
  · have hE2 : (E != 0) = true := by simpa using hE
    clear hno
    go_wp2
    obtain ⟨g6, g7, hk⟩ := HG.out
    obtain ⟨h3, h4, h5, h6, h7⟩ := HP.out
    obtain ⟨f6, f7, f8⟩ := zero_fin (w := w) E g6 g7 hk n67 (by omega) (by omega)
    exact ⟨_, results_two_cells rfl _ _ P6 P7 31 _ (0, 0) _ _ rfl f6 Tryd.underlying31 Tryd.info38 rfl f7, by first | rfl | rw [if_neg hE], f8⟩
end Go.Proofs.YtodlkpcbkilglaaDoor

namespace Go.Proofs.YtodlkpcbkilglaaDoor
open Go.RowKit Go.Shelf

/-- Bytes that came in. -/
def RB (w : World) (bo : Option Addr) (M : Nat) (fb : Nat → Nat) : Prop := M = 0 ∨ ∃ gb ob, bo = some ⟨gb, ob, none⟩ ∧ ∀ i, i < M → w.cell? ⟨gb, ob + i, none⟩ = some (.int .u8 (fb i : Int))
theorem RB.keep {w w' : World} {bo : Option Addr} {M : Nat} {fb : Nat → Nat} (h : RB w bo M fb) (hk : Kept [] w w') : RB w' bo M fb := by
  rcases h with h | ⟨gb, ob, e, hc⟩
  · exact .inl h
  · exact .inr ⟨gb, ob, e, fun i hi => cell_keep hk (hc i hi) (by simp)⟩
/-- A row of v210 is right. -/
def rwOk (W : Int) (fb : Nat → Nat) (k : Nat) : Prop := ∀ n, n < (wdN W 0 + 47) / 48 * 32 → vT (fun t => fb (ctL (v2L W) k + t)) (wdN W) n 3 = wdB (fun t => fb (ctL (v2L W) k + t)) n
open Classical in
/-- What is wrong with planar bytes, with v210's. -/
noncomputable def plE (W H D : Int) (A : Bool) (M : Nat) (fb : Nat → Nat) : Int := if shE W H D A = 0 then (if M = ctL (plL W H.toNat) (np A * H.toNat) then (if vE W H D A (np A) (pz W H) (pnF W H.toNat fb) = 0 then 0 else 73) else 72) else 61
open Classical in
noncomputable def v2E (W H D : Int) (A : Bool) (M : Nat) (fb : Nat → Nat) : Int := if shE W H D A = 0 then (if D = 10 ∧ A = false then (if M = ctL (v2L W) (1 * H.toNat) then (if ∀ k, k < H.toNat → rwOk W fb k then 0 else 73) else 72) else 71) else 61
/-- What comes out. -/
def UnQ (E W H D : Int) (A : Bool) (F : Nat → Nat → Nat) (w w' : World) (x1 x2 x3 : Int) (x4 : Bool) (po : Option Addr) (n k : Nat) : Prop :=
  (E = 0 → x1 = W ∧ x2 = H ∧ x3 = D ∧ x4 = A ∧ n = np A ∧ k = np A ∧ ∃ G bs, po = some ⟨G, 0, none⟩ ∧ Mk w w' G (np A) (np A) bs (pz W H) F) ∧ (E ≠ 0 → x1 = 0 ∧ x2 = 0 ∧ x3 = 0 ∧ x4 = false ∧ po = none ∧ n = 0 ∧ k = 0)
theorem UnQ.err {E W H D : Int} {A : Bool} {F : Nat → Nat → Nat} {w w' : World} (h : E ≠ 0) : UnQ E W H D A F w w' 0 0 0 false none 0 0 := ⟨fun e => absurd e h, fun _ => ⟨rfl, rfl, rfl, rfl, rfl, rfl, rfl⟩⟩
theorem first_bad {P : Nat → Prop} : ∀ h : Nat, ¬ (∀ k, k < h → P k) → ∃ K, K < h ∧ (∀ k, k < K → P k) ∧ ¬ P K := by
  intro h
  induction h with
  | zero => intro hn; exact absurd (fun k hk => absurd hk (Nat.not_lt_zero _)) hn
  | succ h ih =>
    intro hn
    by_cases hp : ∀ k, k < h → P k
    · exact ⟨h, Nat.lt_succ_self _, hp, fun hh => hn (fun k hk => by
        rcases Nat.lt_succ_iff_lt_or_eq.1 hk with h1 | h1
        · exact hp k h1
        · rw [h1]; exact hh)⟩
    · obtain ⟨K, h1, h2, h3⟩ := ih hp
      exact ⟨K, Nat.lt_succ_of_lt h1, h2, h3⟩
/-- A frame of noughts may be. -/
theorem vld_zero {W D : Int} {A : Bool} {h : Nat} (hs : Shp W (h : Int) D A) (F : Nat → Nat → Nat) (hF : ∀ i, i < np A → ∀ j, j < pz W (h : Int) i → F i j ≤ mx D) : Vld W (h : Int) D A (np A) (pz W (h : Int)) F := by
  refine ⟨hs, rfl, fun i _ => ?_, hF⟩
  obtain ⟨h1, h2, h3⟩ := wdN_ok hs i
  unfold pz
  rw [← h3, ← Int.natCast_mul]
  rfl
theorem shp_of {W H D : Int} {A : Bool} (h : shE W H D A = 0) : Shp W H D A := by
  by_cases hs : Shp W H D A
  · exact hs
  · rw [shE_no hs] at h; cases h
theorem un57_planar (W H D : Int) (A : Bool) (bo : Option Addr) (M cb : Nat) (fb : Nat → Nat) (w : World) (hb : RB w bo M fb) (hfb : ∀ i, i < M → fb i < 256) (hcb : M ≤ cb) :
    Calls Tryd.prog 57 #[fmv 58 59 60 61 62, shv W H D A, .slice bo M cb] w fun e w' => ∃ x1 x2 x3 x4 po n k, e = .returned (.tuple #[frv x1 x2 x3 x4 po n k, .int .i64 (plE W H D A M fb)]) ∧ Kept [] w w' ∧ UnQ (plE W H D A M fb) W H D A (pnF W H.toNat fb) w w' x1 x2 x3 x4 po n k := by
  by_cases hE : shE W H D A = 0
  · have hs := shp_of hE
    obtain ⟨h, rfl⟩ : ∃ h : Nat, H = (h : Int) := ⟨H.toNat, by have := hs.2.1; omega⟩
    have h1 : 1 ≤ h := by have := hs.2.1; omega
    have hw : ∀ p, 1 ≤ wdN W p := fun p => (wdN_ok hs p).1
    have hMs : sS W (h : Int) (fun x => 2 * x) (fun i => i) (np A) = ((ctL (plL W h) (np A * h) : Nat) : Int) := (ctL_sS (plL W h) (fun i => 2 * wdN W i) W h (fun x => 2 * x) (fun i => i) h1 (fun k => rfl) _ (fun i _ => rfl)).symm
    by_cases hM : M = ctL (plL W h) (np A * h)
    · have hMp : 0 < M := by
        have hm := ctL_mono (plL W h) (show 1 ≤ np A * h from Nat.mul_pos (by have := np_lo A; omega) h1)
        have h5 : ctL (plL W h) 1 = 0 + plL W h 0 := rfl
        have h6 : plL W h 0 = 2 * wdN W (0 / h) := rfl
        have h7 := hw (0 / h)
        omega
      rcases hb with hb | ⟨gb, ob, rfl, hc⟩
      · omega
      have hg := pnF_good (h := h) hw (np A * h) (fun i hi => hfb i (by omega))
      by_cases hv : vE W (h : Int) D A (np A) (pz W (h : Int)) (pnF W h fb) = 0
      · have e0 : plE W (h : Int) D A M fb = 0 := by unfold plE; rw [if_pos hE, if_pos (by simpa using hM), if_pos (by simpa using hv)]
        refine (unpack_planar W D A (np A) h gb ob cb (pz W (h : Int)) (pnF W h fb) fb w (vE_zero.1 hv) M hM hcb hc hfb hg).mono ?_
        rintro e w' ⟨G, bs, rfl, hm⟩
        refine ⟨_, _, _, _, _, _, _, by rw [e0], hm.kept, fun _ => ⟨rfl, rfl, rfl, rfl, rfl, rfl, G, bs, rfl, ?_⟩, fun h => absurd e0 h⟩
        simpa using hm
      · have e0 : plE W (h : Int) D A M fb = 73 := by unfold plE; rw [if_pos hE, if_pos (by simpa using hM), if_neg (by simpa using hv)]
        have hV := vld_zero hs (fun _ _ => 0) (fun i hi j hj => Nat.zero_le _)
        refine (unpack_over W D A (np A) h gb ob cb (pz W (h : Int)) (pnF W h fb) fb w hV (fun i hi x hx => ?_) hv M hM hcb hc hfb hg).mono ?_
        · obtain ⟨m1, m2, m3⟩ := wdN_ok hs i
          have hl : pz W (h : Int) i = wdN W i * h := by
            have := hV.len i hi
            rw [← m3, ← Int.natCast_mul] at this
            omega
          have hx2 : x / wdN W i < h := Nat.div_lt_of_lt_mul (by rw [← hl]; exact hx)
          have hk : i * h + x / wdN W i < np A * h := by
            have : (i + 1) * h ≤ np A * h := Nat.mul_le_mul_right _ hi
            rw [Nat.add_mul] at this
            omega
          have hm := ctL_mono (plL W h) (show i * h + x / wdN W i + 1 ≤ np A * h from hk)
          have hp : plL W h (i * h + x / wdN W i) = 2 * wdN W i := by
            unfold plL
            rw [Nat.add_comm, Nat.add_mul_div_right _ _ h1, Nat.div_eq_of_lt hx2, Nat.zero_add]
          rw [ctL, hp] at hm
          have hr := Nat.mod_lt x m1
          have b0 := hfb (ctL (plL W h) (i * h + x / wdN W i) + 2 * (x % wdN W i)) (by omega)
          have b1 := hfb (ctL (plL W h) (i * h + x / wdN W i) + (2 * (x % wdN W i) + 1)) (by omega)
          unfold pnF
          omega
        · rintro e w' ⟨rfl, hk⟩
          exact ⟨_, _, _, _, _, _, _, by rw [e0], hk, .err (by rw [e0]; decide)⟩
    · have e0 : plE W (h : Int) D A M fb = 72 := by unfold plE; rw [if_pos hE, if_neg (by simpa using hM)]
      refine (unpack_no 58 59 60 61 62 W (h : Int) D A bo M cb ((ctL (plL W h) (np A * h) : Nat) : Int) 0 w (fun u => ?_) (.inr (by omega))).mono ?_
      · have CZ := sizeP W (h : Int) D A u
        rw [hE] at CZ
        simpa [hMs] using CZ
      · rintro e w' ⟨rfl, hk⟩
        exact ⟨_, _, _, _, _, _, _, by rw [e0, if_pos rfl], hk, .err (by rw [e0]; decide)⟩
  · have e0 : plE W H D A M fb = 61 := by unfold plE; rw [if_neg hE]
    refine (unpack_no 58 59 60 61 62 W H D A bo M cb 0 61 w (fun u => ?_) (.inl (by decide))).mono ?_
    · have CZ := sizeP W H D A u
      simpa [hE] using CZ
    · rintro e w' ⟨rfl, hk⟩
      exact ⟨_, _, _, _, _, _, _, by rw [e0]; rfl, hk, .err (by rw [e0]; decide)⟩
theorem un57_v210 (W H D : Int) (A : Bool) (bo : Option Addr) (M cb : Nat) (fb : Nat → Nat) (w : World) (hT : Tab w) (hb : RB w bo M fb) (hfb : ∀ i, i < M → fb i < 256) (hcb : M ≤ cb) :
    Calls Tryd.prog 57 #[fmv 66 67 68 69 70, shv W H D A, .slice bo M cb] w fun e w' => ∃ x1 x2 x3 x4 po n k, e = .returned (.tuple #[frv x1 x2 x3 x4 po n k, .int .i64 (v2E W H D A M fb)]) ∧ Kept [] w w' ∧ UnQ (v2E W H D A M fb) W H D A (vnF W fb) w w' x1 x2 x3 x4 po n k := by
  by_cases hE : shE W H D A = 0
  · have hs := shp_of hE
    by_cases hDA : D = 10 ∧ A = false
    · obtain ⟨h, rfl⟩ : ∃ h : Nat, H = (h : Int) := ⟨H.toNat, by have := hs.2.1; omega⟩
      have h1 : 1 ≤ h := by have := hs.2.1; omega
      have hw : ∀ p, 1 ≤ wdN W p := fun p => (wdN_ok hs p).1
      have hMs : sS W (h : Int) (fun x => (x + 47) / 48 * 128) (fun _ => 0) 1 = ((ctL (v2L W) (1 * h) : Nat) : Int) := (ctL_sS (v2L W) (fun _ => 4 * ((wdN W 0 + 47) / 48 * 32)) W h (fun x => (x + 47) / 48 * 128) (fun _ => 0) h1 (fun k => rfl) _ (fun i _ => by show 4 * ((wdN W 0 + 47) / 48 * 32) = (wdN W 0 + 47) / 48 * 128; omega)).symm
      by_cases hM : M = ctL (v2L W) (1 * h)
      · have hMp : 0 < M := by
          have hm := ctL_mono (v2L W) (show 1 ≤ 1 * h by omega)
          have h5 : ctL (v2L W) 1 = 0 + v2L W 0 := rfl
          have h6 : v2L W 0 = 4 * ((wdN W 0 + 47) / 48 * 32) := rfl
          have h7 := hw 0
          omega
        rcases hb with hb | ⟨gb, ob, rfl, hc⟩
        · omega
        by_cases hv : ∀ k, k < h → rwOk W fb k
        · have e0 : v2E W (h : Int) D A M fb = 0 := by unfold v2E; rw [if_pos hE, if_pos hDA, if_pos (by simpa using hM), if_pos (by simpa using hv)]
          have hg := vnF_good hw (1 * h) (fun i hi => hfb i (by omega)) (fun k hk => hv k (by omega))
          refine (unpack_v210 W D A (np A) h gb ob cb (pz W (h : Int)) (vnF W fb) fb w (vld_zero hs _ (fun i hi j hj => by have h8 := vnF_lt W fb i j; have h9 : mx D = 1023 := (by rw [hDA.1]; rfl); omega)) hDA.1 hDA.2 hT M hM hcb hc hfb hg).mono ?_
          rintro e w' ⟨G, bs, rfl, hm⟩
          exact ⟨_, _, _, _, _, _, _, by rw [e0], hm.kept, fun _ => ⟨rfl, rfl, rfl, rfl, rfl, rfl, G, bs, rfl, hm⟩, fun h => absurd e0 h⟩
        · have e0 : v2E W (h : Int) D A M fb = 73 := by unfold v2E; rw [if_pos hE, if_pos hDA, if_pos (by simpa using hM), if_neg (by simpa using hv)]
          obtain ⟨K, k1, k2, k3⟩ := first_bad h hv
          refine (unpack_bad W D A (np A) h gb ob cb (pz W (h : Int)) (fun _ _ => 0) fb K w k1 (vld_zero hs _ (fun i hi j hj => Nat.zero_le _)) hDA.1 hDA.2 hT M hM hcb hc hfb (fun k hk => k2 k hk) k3).mono ?_
          rintro e w' ⟨rfl, hk⟩
          exact ⟨_, _, _, _, _, _, _, by rw [e0], hk, .err (by rw [e0]; decide)⟩
      · have e0 : v2E W (h : Int) D A M fb = 72 := by unfold v2E; rw [if_pos hE, if_pos hDA, if_neg (by simpa using hM)]
        refine (unpack_no 66 67 68 69 70 W (h : Int) D A bo M cb ((ctL (v2L W) (1 * h) : Nat) : Int) 0 w (fun u => ?_) (.inr (by omega))).mono ?_
        · have CZ := sizeV W (h : Int) D A u
          rw [hE, show (decide (D = 10) && !A) = true by rw [hDA.1, hDA.2]; rfl] at CZ
          simpa [hMs] using CZ
        · rintro e w' ⟨rfl, hk⟩
          exact ⟨_, _, _, _, _, _, _, by rw [e0, if_pos rfl], hk, .err (by rw [e0]; decide)⟩
    · have e0 : v2E W H D A M fb = 71 := by unfold v2E; rw [if_pos hE, if_neg hDA]
      refine (unpack_no 66 67 68 69 70 W H D A bo M cb 0 71 w (fun u => ?_) (.inl (by decide))).mono ?_
      · have CZ := sizeV W H D A u
        have hd : (decide (D = 10) && !A) = false := by
          by_cases h : D = 10
          · cases A
            · exact absurd ⟨h, rfl⟩ hDA
            · simp
          · simp [h]
        rw [hE, hd] at CZ
        simpa using CZ
      · rintro e w' ⟨rfl, hk⟩
        exact ⟨_, _, _, _, _, _, _, by rw [e0]; rfl, hk, .err (by rw [e0]; decide)⟩
  · have e0 : v2E W H D A M fb = 61 := by unfold v2E; rw [if_neg hE]
    refine (unpack_no 66 67 68 69 70 W H D A bo M cb 0 61 w (fun u => ?_) (.inl (by decide))).mono ?_
    · have CZ := sizeV W H D A u
      simpa [hE] using CZ
    · rintro e w' ⟨rfl, hk⟩
      exact ⟨_, _, _, _, _, _, _, by rw [e0]; rfl, hk, .err (by rw [e0]; decide)⟩
end Go.Proofs.YtodlkpcbkilglaaDoor

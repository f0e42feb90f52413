import Derived.Test.YtodlkpcbkilglaaDoorUz
import Derived.Test.YtodlkpcbkilglaaDoorPnZ
import Derived.Test.YtodlkpcbkilglaaDoorbBU
namespace Go.Proofs.YtodlkpcbkilglaaDoor
open Go.RowKit Go.Shelf

/-- What a frame is packed as, by one of both. -/
def pkL (v : Bool) (W : Int) (h : Nat) (A : Bool) (F : Nat → Nat → Nat) : List Nat := if v = true then ctN (v2L W) (v2R W F) (1 * h) else ctN (plL W h) (plR W h F) (np A * h)
/-- The bytes of a list. -/
def gb (l : List Nat) (i : Nat) : Nat := l.getD i 0
theorem range_gb (l : List Nat) : (List.range l.length).map (gb l) = l := by
  apply List.ext_getElem?
  intro i
  by_cases h : i < l.length
  · rw [List.getElem?_map, List.getElem?_range h]
    simp [gb, h]
  · rw [List.getElem?_eq_none (by simpa using h), List.getElem?_eq_none (by omega)]
theorem gb_lt {l : List Nat} (h : ∀ b ∈ l, b < 256) (i : Nat) (hi : i < l.length) : gb l i < 256 := by
  unfold gb
  rw [List.getD_eq_getElem?_getD, List.getElem?_eq_getElem hi]
  exact h _ (List.getElem_mem hi)
theorem plE_zero {W H D : Int} {A : Bool} {M : Nat} {fb : Nat → Nat} (h : plE W H D A M fb = 0) : shE W H D A = 0 ∧ M = ctL (plL W H.toNat) (np A * H.toNat) ∧ vE W H D A (np A) (pz W H) (pnF W H.toNat fb) = 0 := by
  unfold plE at h
  split at h
  · split at h
    · split at h
      · exact ⟨by assumption, by assumption, by assumption⟩
      · cases h
    · cases h
  · cases h
theorem v2E_zero {W H D : Int} {A : Bool} {M : Nat} {fb : Nat → Nat} (h : v2E W H D A M fb = 0) : shE W H D A = 0 ∧ (D = 10 ∧ A = false) ∧ M = ctL (v2L W) (1 * H.toNat) ∧ ∀ k, k < H.toNat → rwOk W fb k := by
  unfold v2E at h
  split at h
  · split at h
    · split at h
      · split at h
        · exact ⟨by assumption, by assumption, by assumption, by assumption⟩
        · cases h
      · cases h
    · cases h
  · cases h
/-- Bytes that are read are what their frame is packed as. -/
theorem un_yes {v : Bool} {W H D : Int} {A : Bool} {l : List Nat} (hl : ∀ b ∈ l, b < 256) (h : unE v W H D A l.length (gb l) = 0) : ∃ k : Nat, H = (k : Int) ∧ Vld W (k : Int) D A (np A) (pz W (k : Int)) (unF v W H (gb l)) ∧ (v = true → D = 10 ∧ A = false) ∧ 1 ≤ l.length ∧
    ∀ F : Nat → Nat → Nat, (∀ i, i < np A → ∀ j, j < pz W (k : Int) i → F i j = unF v W H (gb l) i j) → pkL v W k A F = l := by
  cases v with
  | false =>
    obtain ⟨h1, h2, h3⟩ := plE_zero (show plE W H D A l.length (gb l) = 0 from h)
    have hs := shp_of h1
    obtain ⟨k, rfl⟩ : ∃ k : Nat, H = (k : Int) := ⟨H.toNat, by have := hs.2.1; omega⟩
    have hk1 : 1 ≤ k := by have := hs.2.1; omega
    have hw : ∀ p, 1 ≤ wdN W p := fun p => (wdN_ok hs p).1
    have h2' : l.length = ctL (plL W k) (np A * k) := h2
    have hV := vE_zero.1 h3
    have hg := pnF_good (h := k) hw (np A * k) (fun i hi => gb_lt hl i (by omega))
    refine ⟨k, rfl, hV, fun h => (by cases h), ?_, fun F hF => ?_⟩
    · have hm := ctL_mono (plL W k) (show 1 ≤ np A * k from Nat.mul_pos (by have := np_lo A; omega) hk1)
      have h5 : ctL (plL W k) 1 = 0 + plL W k 0 := rfl
      have h6 : plL W k 0 = 2 * wdN W (0 / k) := rfl
      have h7 := hw (0 / k)
      omega
    · show ctN (plL W k) (plR W k F) (np A * k) = l
      rw [ctN_eq (plL W k) (plR W k F) (gb l) (np A * k) (fun q hq t ht => ?_), ← h2', range_gb]
      rw [hg q hq t ht]
      unfold plR plB
      have hi : q / k < np A := Nat.div_lt_of_lt_mul (by rw [Nat.mul_comm]; exact hq)
      have ht2 : t / 2 < wdN W (q / k) := by have : t < 2 * wdN W (q / k) := ht; omega
      have hl2 := hV.len (q / k) hi
      obtain ⟨m1, m2, m3⟩ := wdN_ok hs (q / k)
      rw [← m3, ← Int.natCast_mul] at hl2
      have hy : q % k + 1 ≤ k := Nat.mod_lt _ hk1
      have hb : (q % k + 1) * wdN W (q / k) ≤ k * wdN W (q / k) := Nat.mul_le_mul_right _ hy
      rw [Nat.add_mul, Nat.one_mul, Nat.mul_comm k] at hb
      have he := hF (q / k) hi (q % k * wdN W (q / k) + t / 2) (by omega)
      show _ = F (q / k) (q % k * wdN W (q / k) + t / 2) / 256 ^ (t % 2) % 256
      rw [he]
      rfl
  | true =>
    obtain ⟨h1, hDA, h2, h3⟩ := v2E_zero (show v2E W H D A l.length (gb l) = 0 from h)
    have hs := shp_of h1
    obtain ⟨k, rfl⟩ : ∃ k : Nat, H = (k : Int) := ⟨H.toNat, by have := hs.2.1; omega⟩
    have hk1 : 1 ≤ k := by have := hs.2.1; omega
    have hw : ∀ p, 1 ≤ wdN W p := fun p => (wdN_ok hs p).1
    have h2' : l.length = ctL (v2L W) (1 * k) := h2
    have h3' : ∀ q, q < k → rwOk W (gb l) q := h3
    have hV : Vld W (k : Int) D A (np A) (pz W (k : Int)) (vnF W (gb l)) := vld_zero hs _ (fun i hi j hj => by have h8 := vnF_lt W (gb l) i j; have h9 : mx D = 1023 := (by rw [hDA.1]; rfl); omega)
    have hg := vnF_good hw (1 * k) (fun i hi => gb_lt hl i (by omega)) (fun q hq => h3' q (by omega))
    refine ⟨k, rfl, hV, fun _ => hDA, ?_, fun F hF => ?_⟩
    · have hm := ctL_mono (v2L W) (show 1 ≤ 1 * k by omega)
      have h5 : ctL (v2L W) 1 = 0 + v2L W 0 := rfl
      have h6 : v2L W 0 = 4 * ((wdN W 0 + 47) / 48 * 32) := rfl
      have h7 := hw 0
      omega
    · show ctN (v2L W) (v2R W F) (1 * k) = l
      rw [ctN_eq (v2L W) (v2R W F) (gb l) (1 * k) (fun q hq t ht => ?_), ← h2', range_gb]
      rw [hg q hq t ht]
      unfold v2R v2B
      have hS : ∀ s, v2S (fun p x => vnF W (gb l) p (q * wdN W p + x)) (wdN W) s = v2S (fun p x => F p (q * wdN W p + x)) (wdN W) s := fun s => by
        unfold v2S
        split
        · rename_i hx
          have hp : gP (s % 12) < np A := by have := np_lo A; unfold gP; split <;> (try split) <;> omega
          have hl2 := hV.len _ hp
          obtain ⟨m1, m2, m3⟩ := wdN_ok hs (gP (s % 12))
          rw [← m3, ← Int.natCast_mul] at hl2
          have hb : (q + 1) * wdN W (gP (s % 12)) ≤ k * wdN W (gP (s % 12)) := Nat.mul_le_mul_right _ (by omega)
          rw [Nat.add_mul, Nat.one_mul, Nat.mul_comm k] at hb
          exact (hF _ hp _ (by omega)).symm
        · rfl
      unfold v2W
      rw [hS, hS, hS]
/-- Bytes of the same length are read, or one of their samples is wrong. -/
theorem un_other {v : Bool} {W H D : Int} {A : Bool} {M : Nat} {fb fb' : Nat → Nat} (h : unE v W H D A M fb = 0) : unE v W H D A M fb' = 0 ∨ unE v W H D A M fb' = 73 := by
  cases v with
  | false =>
    obtain ⟨h1, h2, h3⟩ := plE_zero (show plE W H D A M fb = 0 from h)
    show plE W H D A M fb' = 0 ∨ plE W H D A M fb' = 73
    unfold plE
    rw [if_pos h1, if_pos h2]
    split
    · exact .inl rfl
    · exact .inr rfl
  | true =>
    obtain ⟨h1, hDA, h2, h3⟩ := v2E_zero (show v2E W H D A M fb = 0 from h)
    show v2E W H D A M fb' = 0 ∨ v2E W H D A M fb' = 73
    unfold v2E
    rw [if_pos h1, if_pos hDA, if_pos h2]
    split
    · exact .inl rfl
    · exact .inr rfl
end Go.Proofs.YtodlkpcbkilglaaDoor

namespace Go.Proofs.YtodlkpcbkilglaaDoor
open Go.RowKit Go.Shelf

/-- What is wrong with a frame that is to be packed. -/
def pkE (v : Bool) (W H D : Int) (A : Bool) (n : Nat) (ln : Nat → Nat) (F : Nat → Nat → Nat) : Int := if vE W H D A n ln F = 0 then (if v = true ∧ (decide (D = 10) && !A) = false then 71 else 0) else vE W H D A n ln F
/-- Its bytes. -/
def pkB (v : Bool) (W H D : Int) (A : Bool) (n : Nat) (ln : Nat → Nat) (F : Nat → Nat → Nat) : List Nat := if pkE v W H D A n ln F = 0 then pkL v W H.toNat A F else []
/-- What packing answers. -/
def PkC (E : Int) (B : List Nat) (w : World) (e : Ending) (w' : World) : Prop := ∃ V, e = .returned (.tuple #[V, .int .i64 E]) ∧ Bt.Lst w' V B ∧ (∀ g, V.ownBlock = some g → w.heap.size ≤ g) ∧ Kept [] w w'
theorem lst_own {w : World} {G M : Nat} {l : List Nat} (h : w.ownsRow 0 5 1 (.slice (some ⟨G, 0, none⟩) M M) M (l.map Bt.byt)) : Bt.Lst w (.slice (some ⟨G, 0, none⟩) M M) l := by
  obtain ⟨h1, h2⟩ := h
  have hl : l.length = M := by simpa using h1
  subst hl
  rcases h2 with ⟨e, _⟩ | ⟨g, cap, cur, e, _, hg, hc, _, hs, ht⟩
  · cases e
  · obtain ⟨rfl, rfl⟩ : G = g ∧ l.length = cap := by cases e; exact ⟨rfl, rfl⟩
    refine .inr ⟨G, rfl, ?_⟩
    rw [hg]
    congr 2
    have h3 : cur.toList = l.map Bt.byt := by
      rw [← ht, List.take_of_length_le (by simp; omega)]
    rw [← h3]
theorem pk_any (v : Bool) (W H D : Int) (A : Bool) (po : Option Addr) (n c : Nat) (ln pb pf pc : Nat → Nat) (F : Nat → Nat → Nat) (w : World) (hT : Tab w) (hP : Pq w po n ln pb pf pc) (hR : ∀ i, i < n → Rd w (some ⟨pb i, pf i, none⟩) (ln i) (F i)) (hpc : ∀ i, i < n → ln i ≤ pc i) (hn : n ≤ 9223372036854775807) (hln : ∀ i, i < n → ln i ≤ 9223372036854775807) :
    Calls Tryd.prog (if v = true then 16 else 15) #[frv W H D A po n c] w fun e w' => PkC (pkE v W H D A n ln F) (pkB v W H D A n ln F) w e w' := by
  have hPl : Pl w po n ln F := by
    obtain ⟨g, off, e, hc⟩ := hP
    exact .inr ⟨g, off, e, fun i hi => ⟨_, _, hc i hi, hR i hi⟩⟩
  by_cases hE : vE W H D A n ln F = 0
  · have hV := vE_zero.1 hE
    have hs := hV.shp
    obtain ⟨h, rfl⟩ : ∃ h : Nat, H = (h : Int) := ⟨H.toNat, by have := hs.2.1; omega⟩
    cases v with
    | false =>
      have e0 : pkE false W (h : Int) D A n ln F = 0 := by unfold pkE; rw [if_pos hE, if_neg (by simp)]
      have eb : pkB false W (h : Int) D A n ln F = ctN (plL W h) (plR W h F) (np A * h) := by unfold pkB; rw [if_pos e0]; rfl
      rw [e0, eb]
      refine (Pack_planar W D A po n c h ln pb pf pc F w hV hP hR hpc).mono ?_
      rintro e w' ⟨G, M, rfl, hG, hM, ho, hk⟩
      exact ⟨_, rfl, lst_own ho, fun g hg => by simp [Value.ownBlock] at hg; omega, hk⟩
    | true =>
      by_cases hf : (decide (D = 10) && !A) = false
      · have e0 : pkE true W (h : Int) D A n ln F = 71 := by unfold pkE; rw [if_pos hE, if_pos ⟨rfl, hf⟩]
        have eb : pkB true W (h : Int) D A n ln F = [] := by unfold pkB; rw [if_neg (by rw [e0]; decide)]
        rw [e0, eb]
        refine (Pack_of_v210 W (h : Int) D A po n c w (fun _ a m k z _ => a = none ∧ m = 0 ∧ k = 0 ∧ z = 71) (fun u2 hk2 => (pack_fmt W (h : Int) D A po n c ln F u2 (hPl.keep hk2) hn hln hV hf).mono (by rintro e w' ⟨rfl, hk⟩; exact ⟨_, _, _, _, rfl, hk, rfl, rfl, rfl, rfl⟩))).mono ?_
        rintro e w' ⟨u, a, m, k, z, hku, rfl, hk, rfl, rfl, rfl, rfl⟩
        exact ⟨_, rfl, .inl ⟨rfl, rfl⟩, fun g hg => by simp [Value.ownBlock] at hg, hku.trans hk⟩
      · have hf2 : D = 10 ∧ A = false := by
          cases A <;> simp_all
        have e0 : pkE true W (h : Int) D A n ln F = 0 := by unfold pkE; rw [if_pos hE, if_neg (fun e => hf e.2)]
        have eb : pkB true W (h : Int) D A n ln F = ctN (v2L W) (v2R W F) (1 * h) := by unfold pkB; rw [if_pos e0]; rfl
        rw [e0, eb]
        refine (Pack_v210 W D A po n c h ln pb pf pc F w hV hf2.1 hf2.2 hT hP hR hpc).mono ?_
        rintro e w' ⟨G, M, rfl, hG, hM, ho, hk⟩
        exact ⟨_, rfl, lst_own ho, fun g hg => by simp [Value.ownBlock] at hg; omega, hk⟩
  · have e0 : pkE v W H D A n ln F = vE W H D A n ln F := by unfold pkE; rw [if_neg hE]
    have eb : pkB v W H D A n ln F = [] := by unfold pkB; rw [if_neg (by rw [e0]; exact hE)]
    rw [e0, eb]
    cases v with
    | false =>
      refine (Pack_of_planar W H D A po n c w (fun _ a m k z _ => a = none ∧ m = 0 ∧ k = 0 ∧ z = vE W H D A n ln F) (fun u2 hk2 => (pack_no_planar W H D A po n c ln F u2 (hPl.keep hk2) hn hln hE).mono (by rintro e w' ⟨rfl, hk⟩; exact ⟨_, _, _, _, rfl, hk, rfl, rfl, rfl, rfl⟩))).mono ?_
      rintro e w' ⟨u, a, m, k, z, hku, rfl, hk, rfl, rfl, rfl, rfl⟩
      exact ⟨_, rfl, .inl ⟨rfl, rfl⟩, fun g hg => by simp [Value.ownBlock] at hg, hku.trans hk⟩
    | true =>
      refine (Pack_of_v210 W H D A po n c w (fun _ a m k z _ => a = none ∧ m = 0 ∧ k = 0 ∧ z = vE W H D A n ln F) (fun u2 hk2 => (pack_no_v210 W H D A po n c ln F u2 (hPl.keep hk2) hn hln hE).mono (by rintro e w' ⟨rfl, hk⟩; exact ⟨_, _, _, _, rfl, hk, rfl, rfl, rfl, rfl⟩))).mono ?_
      rintro e w' ⟨u, a, m, k, z, hku, rfl, hk, rfl, rfl, rfl, rfl⟩
      exact ⟨_, rfl, .inl ⟨rfl, rfl⟩, fun g hg => by simp [Value.ownBlock] at hg, hku.trans hk⟩
end Go.Proofs.YtodlkpcbkilglaaDoor

namespace Go.Proofs.YtodlkpcbkilglaaDoor
open Go.RowKit Go.Shelf

/-- A frame's bytes, plane by plane, sample by sample. -/
def two (x : Nat) : List Nat := [x % 256, x / 256]
def dpl (n : Nat) (ln : Nat → Nat) (F : Nat → Nat → Nat) : List Nat := (List.range n).flatMap fun p => (List.range (ln p)).flatMap fun i => two (F p i)
theorem fm_add {α : Type} (f : Nat → List α) (a b : Nat) : (List.range (a + b)).flatMap f = (List.range a).flatMap f ++ (List.range b).flatMap fun i => f (a + i) := by
  rw [List.range_add, List.flatMap_append, List.flatMap_map]
theorem fm_succ {α : Type} (f : Nat → List α) (a : Nat) : (List.range (a + 1)).flatMap f = (List.range a).flatMap f ++ f a := by
  rw [List.range_succ, List.flatMap_append]
  simp
theorem fm_congr {α : Type} {f g : Nat → List α} {a : Nat} (h : ∀ i, i < a → f i = g i) : (List.range a).flatMap f = (List.range a).flatMap g := by
  induction a with
  | zero => rfl
  | succ a ih => rw [fm_succ, fm_succ, ih (fun i hi => h i (by omega)), h a (by omega)]
theorem plB_row (g : Nat → Nat) (hg : ∀ x, g x < 65536) (d : Nat) : (List.range (2 * d)).map (plB g) = (List.range d).flatMap fun x => two (g x) := by
  induction d with
  | zero => rfl
  | succ d ih =>
    rw [fm_succ, ← ih, show 2 * (d + 1) = 2 * d + 1 + 1 by omega, List.range_succ, List.map_append, List.range_succ, List.map_append, List.append_assoc]
    congr 1
    have h1 : plB g (2 * d) = g d % 256 := by
      unfold plB
      rw [show 2 * d / 2 = d by omega, show 2 * d % 2 = 0 by omega, Nat.pow_zero, Nat.div_one]
    have h2 : plB g (2 * d + 1) = g d / 256 := by
      unfold plB
      rw [show (2 * d + 1) / 2 = d by omega, show (2 * d + 1) % 2 = 1 by omega, Nat.pow_one]
      have := hg d
      omega
    simp [h1, h2, two]
/-- So it is by rows. -/
theorem ctN_dpl {W : Int} {h n : Nat} {ln : Nat → Nat} {F : Nat → Nat → Nat} (h1 : 1 ≤ h) (hF : ∀ p i, F p i < 65536) (hl : ∀ p, p < n → ln p = wdN W p * h) : ctN (plL W h) (plR W h F) (n * h) = dpl n ln F := by
  have rows : ∀ p y, y ≤ h → ctN (plL W h) (plR W h F) (p * h + y) = ctN (plL W h) (plR W h F) (p * h) ++ (List.range (y * wdN W p)).flatMap fun i => two (F p i) := by
    intro p y
    induction y with
    | zero => intro _; simp
    | succ y ih =>
      intro hy
      have e1 : (p * h + y) / h = p := by rw [Nat.add_comm, Nat.add_mul_div_right _ _ h1, Nat.div_eq_of_lt (by omega), Nat.zero_add]
      have e2 : (p * h + y) % h = y := by rw [Nat.add_comm, Nat.add_mul_mod_self_right, Nat.mod_eq_of_lt (by omega)]
      rw [← Nat.add_assoc, ctN, ih (by omega), Nat.add_mul, Nat.one_mul, fm_add, List.append_assoc]
      congr 1
      congr 1
      unfold plL plR
      rw [e1, e2]
      exact plB_row _ (fun x => hF _ _) _
  unfold dpl
  clear hF
  induction n with
  | zero => simp [ctN]
  | succ n ih =>
    rw [fm_succ, ← ih (fun p hp => hl p (by omega)), Nat.add_mul, Nat.one_mul, rows n h (Nat.le_refl _), hl n (by omega), Nat.mul_comm h]
end Go.Proofs.YtodlkpcbkilglaaDoor

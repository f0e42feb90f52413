import Derived.Test.YtoghkbajdljheaaX5
namespace Go.Proofs.Ytoghkbajdljheaa
open Go.RowKit

theorem left_at (B g : Nat) (l : List Nat) (t : Nat) (D : Int) (w : World) (hw : ReaderAt w B g l t) (hD : D = 8 * (l.length : Int) - (t : Int)) :
    Calls Try.prog 27 #[.pointer (some ⟨B, 0, none⟩)] w fun e w' => e = .returned (.int .i64 D) ∧ Kept [] w w' := by
  subst hD
  refine (left_any B g l t w hw).mono ?_
  rintro e w' ⟨rfl, q, rfl⟩
  exact ⟨rfl, (Kept.refl _ _).drewN q⟩

theorem refLeft_at (B : Nat) (V : Value) (l : List Nat) (t : Nat) (D : Int) (w : World) (h : RefR w B V l t) (ht : t ≤ 8 * l.length) (hl : l.length ≤ 10000000000000) (hD : D = 8 * (l.length : Int) - (t : Int)) :
    Calls Try.prog 36 #[.pointer (some ⟨B, 0, none⟩)] w fun e w' => e = .returned (.int .i64 D) ∧ Kept [] w w' := by
  subst hD
  refine (refLeft_any B V l t w h ht hl).mono ?_
  rintro e w' ⟨rfl, q, rfl⟩
  exact ⟨rfl, (Kept.refl _ _).drewN q⟩

theorem ReaderAt.keep {w w' : World} {B g : Nat} {l : List Nat} {t : Nat} (h : ReaderAt w B g l t) (hk : Kept [] w w') : ReaderAt w' B g l t := reader_kept h hk (by simp) (by simp)
theorem RefR.keep {w w' : World} {B : Nat} {V : Value} {l : List Nat} {t : Nat} (h : RefR w B V l t) (hk : Kept [] w w') : RefR w' B V l t := refr_kept h hk (by simp) (by simp)

/-- A reader and the document's lie apart. -/
theorem read_apart {w : World} {B g Y : Nat} {V : Value} {l l2 : List Nat} {t t2 : Nat} (h : ReaderAt w B g l t) (h2 : RefR w Y V l2 t2) : B ≠ Y ∧ g ≠ Y ∧ V.ownBlock ≠ some B := by
  refine ⟨?_, ?_, own_ne2 h.1 (by decide) h2.2⟩
  · intro e; subst e; have h3 := h.1; rw [h2.1] at h3; simp at h3
  · intro e; subst e; have h3 := h.2.1; rw [h2.1] at h3; simp at h3

set_option maxHeartbeats 2000000 in
set_option maxRecDepth 1000000 in
theorem reread_any (ao : Option Addr) (cap m : Nat) (l : List Nat) (w : World) (hr : Reads w ao l) (hb : Byts l) (hm : l.length = m) (hl : m ≤ 10000000000000) :
    Calls Try.prog 32 #[.slice ao m cap] w fun e w' => e = .returned (.bool true) ∧ Kept [] w w' := by
  have Hr := Hid.mk hr
  have Hm := Hid.mk hm
  have Hb := Hid.mk hb
  clear hr hm hb
  go_enter Try.func32, Try.ntmps32
  go_wp2_with fail
  refine (newReader_any ao cap m l _ Hr.out Hb.out Hm.out (by omega)).mono ?_
  rintro e w1 ⟨B, g, rfl, hB, hg, hR1, hk1⟩
  have HR1 := Hid.mk hR1
  have HK1 := Hid.mk hk1
  clear hR1 hk1
  go_wp2_with fail
  refine (refNewReader_any ao cap m l _ (Hr.out.keep HK1.out) Hb.out Hm.out hl).mono ?_
  rintro e w2 ⟨rfl, V, hY2, hL2, hk2⟩
  have hY : w.heap.size ≤ w1.heap.size := HK1.out.size
  generalize w1.heap.size = Y at *
  have HR2 := Hid.mk (HR1.out.keep hk2)
  have HY2 := Hid.mk hY2
  have HK2 := Hid.mk (HK1.out.trans hk2)
  obtain ⟨D, hD⟩ : ∃ D : Int, D = 8 * (l.length : Int) - ((0 : Nat) : Int) := ⟨_, rfl⟩
  have HD := Hid.mk hD
  clear hY2 hL2 hk2 HR1 HK1 hD
  go_wp2_with fail
  refine (left_at B g l 0 D _ HR2.out HD.out).mono ?_
  rintro e w3 ⟨rfl, hk3⟩
  have HR3 := Hid.mk (HR2.out.keep hk3)
  have HY3 := Hid.mk (HY2.out.keep hk3)
  have HK3 := Hid.mk (HK2.out.trans hk3)
  clear hk3 HR2 HY2 HK2
  go_wp2_with fail
  refine (refLeft_at Y V l 0 D _ HY3.out (Nat.zero_le _) (by have := Hm.out; omega) HD.out).mono ?_
  rintro e w4 ⟨rfl, hk4⟩
  have HR4 := Hid.mk (HR3.out.keep hk4)
  have HY4 := Hid.mk (HY3.out.keep hk4)
  have HK4 := Hid.mk (HK3.out.trans hk4)
  clear hk4 HR3 HY3 HK3
  go_wp2_with fail
  go_loopg [5, 6, 7, 8, 9] (8 * l.length) (fun k s5 s6 s7 s8 s9 wr => ∃ t, k = 8 * l.length - t ∧ t ≤ 8 * l.length ∧ ReaderAt wr B g l t ∧ RefR wr Y V l t ∧ Kept [] w wr)
  case atStart => exact ⟨0, by omega, by omega, HR4.out, HY4.out, HK4.out⟩
  case round =>
    obtain ⟨t, hgk, ht, hR, hY', hK⟩ := hrel
    have HR := Hid.mk hR
    have HYr := Hid.mk hY'
    have HK := Hid.mk hK
    have Hgk := Hid.mk hgk
    obtain ⟨A, hA⟩ : ∃ A : Int, A = 8 * (l.length : Int) - (t : Int) := ⟨_, rfl⟩
    have HA := Hid.mk hA
    clear hR hY' hK hgk
    by_cases hlt : t < 8 * l.length
    · have hA0 : 0 < A := by omega
      obtain ⟨n, hn⟩ : ∃ n : Int, n = min 29 A := ⟨_, rfl⟩
      have hn' : min 29 A = n := hn.symm
      have n0 : 0 ≤ n := by omega
      have n1 : n ≤ 32 := by omega
      have n2 : 1 ≤ n := by omega
      have n3 : t + n.toNat ≤ 8 * l.length := by omega
      clear hn hA
      have Hn3 := Hid.mk n3
      have Hht := Hid.mk ht
      obtain ⟨X, hX⟩ : ∃ X : Int, X = (nextN l t n.toNat : Int) := ⟨_, rfl⟩
      have HG : Hid (GetRes l t n.toNat X 0 (t + n.toNat)) := .inl ⟨n3, hX, rfl, rfl⟩
      have hll : l.length ≤ 10000000000000 := by have := Hm.out; omega
      have Hll := Hid.mk hll
      clear hX n3 ht hll hlt
      go_wp2_with fail
      refine (refLeft_at Y V l t A _ HYr.out Hht.out Hll.out HA.out).mono ?_
      rintro e w5 ⟨rfl, hk5⟩
      have HR5 := Hid.mk (HR.out.keep hk5)
      have HY5 := Hid.mk (HYr.out.keep hk5)
      have HK5 := Hid.mk (HK.out.trans hk5)
      clear hk5 HR HYr HK
      go_wp2_with fail
      refine (refLeft_at Y V l t A _ HY5.out Hht.out Hll.out HA.out).mono ?_
      rintro e w6 ⟨rfl, hk6⟩
      have HR6 := Hid.mk (HR5.out.keep hk6)
      have HY6 := Hid.mk (HY5.out.keep hk6)
      have HK6 := Hid.mk (HK5.out.trans hk6)
      clear hk6 HR5 HY5 HK5
      go_wp2_with fail
      refine (get_res B g l t n X 0 _ _ HR6.out n0 n1 HG.out).mono ?_
      rintro e w7 ⟨rfl, hR7, hk7⟩
      obtain ⟨a1, a2, a3⟩ := read_apart HR6.out HY6.out
      have HR7 := Hid.mk hR7
      have HY7 := Hid.mk (refr_kept HY6.out hk7 (by simpa using Ne.symm a1) (fun x hx => by simp; intro e; subst e; exact a3 hx))
      have HK7 := Hid.mk (HK6.out.step hk7 (by simp; omega))
      clear hk7 hR7 HR6 HY6 HK6 a1 a2 a3
      go_wp2_with fail
      refine (refGet_res Y V l t n X 0 _ _ HY7.out Hht.out Hll.out n0 n1 HG.out).mono ?_
      rintro e w8 ⟨rfl, hY8, hk8⟩
      obtain ⟨a1, a2, a3⟩ := read_apart HR7.out HY7.out
      have HY8 := Hid.mk hY8
      have HR8 := Hid.mk (reader_kept HR7.out hk8 (by simpa using a1) (by simpa using a2))
      have HK8 := Hid.mk (HK7.out.step hk8 (by simp; omega))
      clear hk8 hY8 HR7 HY7 HK7 a1 a2 a3
      go_wp2_with fail
      go_roundg (8 * l.length - (t + n.toNat))
      case measure => have := Hgk.out; have := Hn3.out; omega
      case rel => exact ⟨t + n.toNat, rfl, Hn3.out, HR8.out, HY8.out, HK8.out⟩
    · have hA0 : ¬ 0 < A := by omega
      have Hht := Hid.mk ht
      have hll : l.length ≤ 10000000000000 := by have := Hm.out; omega
      have Hll := Hid.mk hll
      clear ht hll hlt hA
      go_wp2_with fail
      refine (refLeft_at Y V l t A _ HYr.out Hht.out Hll.out HA.out).mono ?_
      rintro e w5 ⟨rfl, hk5⟩
      have HK5 := Hid.mk (HK.out.trans hk5)
      clear hk5 HR HYr HK
      go_wp2
      go_ret
      exact ⟨rfl, HK5.out⟩
end Go.Proofs.Ytoghkbajdljheaa

import Derived.Test.YtjnmnkheichflaaDt
import Derived.Test.YtjnmnkheichflaaR1
namespace Go.Proofs.Ytjnmnkheichflaa
open Go.RowKit

/-- What Dot answers. -/
def dN (l k : List Nat) : Nat := if l.length = k.length then dt l k l.length else 0
def dE (l k : List Nat) : Int := if l.length = k.length then 0 else 42

theorem dot_k (ao bo : Option Addr) (ca cb m n : Nat) (l k : List Nat) (w : World) (hr : Reads w ao l) (hs : Reads w bo k) (hb : Byts l) (hc : Byts k) (hm : l.length = m) (hn : k.length = n) (hl : m ≤ 140737488355328) :
    Calls Try.prog 20 #[.slice ao m ca, .slice bo n cb] w fun e w' => e = .returned (.tuple #[.int .u8 (dN l k : Int), .int .i64 (dE l k)]) ∧ Kept [] w w' := by
  by_cases h : m = n
  · subst h
    refine (dot_any ao bo ca cb m l k w hr hs hb hc hm hn hl).mono fun e w' ⟨he, hq⟩ => ⟨?_, Qt.kept hq []⟩
    rw [he, dN, dE, if_pos (by omega), if_pos (by omega), hm]
  · refine (dot_ne ao bo ca cb m n h w).mono fun e w' ⟨he, hq⟩ => ⟨?_, Qt.kept hq []⟩
    rw [he, dN, dE, if_neg (by omega), if_neg (by omega)]; rfl
theorem refDot_k (ao bo : Option Addr) (ca cb m n : Nat) (l k : List Nat) (w : World) (hr : Reads w ao l) (hs : Reads w bo k) (hb : Byts l) (hc : Byts k) (hm : l.length = m) (hn : k.length = n) (hl : m ≤ 140737488355328) :
    Calls Try.prog 21 #[.slice ao m ca, .slice bo n cb] w fun e w' => e = .returned (.tuple #[.int .u8 (dN l k : Int), .int .i64 (dE l k)]) ∧ Kept [] w w' := by
  by_cases h : m = n
  · subst h
    refine (refDot_any ao bo ca cb m l k w hr hs hb hc hm hn hl).mono fun e w' ⟨he, hq⟩ => ⟨?_, Qt.kept hq []⟩
    rw [he, dN, dE, if_pos (by omega), if_pos (by omega), hm]
  · refine (refDot_ne ao bo ca cb m n h w).mono fun e w' ⟨he, hq⟩ => ⟨?_, ?_⟩
    · rw [he, dN, dE, if_neg (by omega), if_neg (by omega)]; rfl
    · subst hq; exact Kept.refl _ _

set_option maxHeartbeats 4000000 in
set_option maxRecDepth 1000000 in
theorem dots_any (ao bo : Option Addr) (ca cb m n : Nat) (l k : List Nat) (w : World) (hr : Reads w ao l) (hs : Reads w bo k) (hb : Byts l) (hc : Byts k) (hm : l.length = m) (hn : k.length = n) (hl : m ≤ 140737488351232) (hl2 : n ≤ 140737488351232) :
    Calls Try.prog 7 #[.slice ao m ca, .slice bo n cb] w fun e w' => e = .returned (.bool true) ∧ Kept [] w w' := by
  have fa : ∀ b off, ao = some ⟨b, off, none⟩ → 0 < m → b < w.heap.size := fun b off e hp => hr.lt (by omega) b off e
  have fb : ∀ b off, bo = some ⟨b, off, none⟩ → 0 < n → b < w.heap.size := fun b off e hp => hs.lt (by omega) b off e
  go_enter Try.func7, Try.ntmps7
  go_wp2_with (go_at_call 9; refine (alive_any _).mono ?_; rintro e w1 ⟨rfl, hq1⟩)
  have hk1 := Qt.kept hq1 []
  clear hq1
  have Hr := Hid.mk (hr.keep hk1)
  have Hs := Hid.mk (hs.keep hk1)
  have Hm := Hid.mk hm
  have Hn := Hid.mk hn
  have Hb := Hid.mk hb
  have Hc := Hid.mk hc
  have HK := Hid.mk hk1
  have Fa := Hid.mk fa
  have Fb := Hid.mk fb
  clear hr hs hm hn hb hc hk1 fa fb
  refine (lent_any ao ca m l w1 Hr.out Hm.out (by omega)).mono ?_
  rintro e w2 ⟨rfl, hN, hk2⟩
  obtain ⟨N, eN⟩ : ∃ N, N = w1.heap.size := ⟨_, rfl⟩
  rw [← eN] at hN ⊢
  have SN : Hid (w.heap.size ≤ N) := Hid.mk (by rw [eN]; exact HK.out.size)
  replace Hr := Hid.mk (Hr.out.keep hk2)
  replace Hs := Hid.mk (Hs.out.keep hk2)
  replace HK := Hid.mk (HK.out.trans hk2)
  have HN := Hid.mk hN
  clear hk2 eN hN
  go_wp2_with (fail)
  refine (lent_any bo cb n k w2 Hs.out Hn.out (by omega)).mono ?_
  rintro e w3 ⟨rfl, hM, hk3⟩
  obtain ⟨M, eM⟩ : ∃ M, M = w2.heap.size := ⟨_, rfl⟩
  rw [← eM] at hM ⊢
  have SM : Hid (N < M) := Hid.mk (by rw [eM]; exact lt_of_block HN.out)
  replace Hr := Hid.mk (Hr.out.keep hk3)
  replace Hs := Hid.mk (Hs.out.keep hk3)
  replace HK := Hid.mk (HK.out.trans hk3)
  replace HN := Hid.mk (hk3.heap HN.out (by simp))
  have HM := Hid.mk hM
  clear hk3 eM hM
  go_wp2_with (fail)
  refine (dot_k _ _ _ _ m n l k w3 (heap_left HN.out) (heap_left HM.out) Hb.out Hc.out Hm.out Hn.out (by omega)).mono ?_
  rintro e w4 ⟨rfl, hk4⟩
  replace Hr := Hid.mk (Hr.out.keep hk4)
  replace Hs := Hid.mk (Hs.out.keep hk4)
  replace HK := Hid.mk (HK.out.trans hk4)
  replace HN := Hid.mk (hk4.heap HN.out (by simp))
  replace HM := Hid.mk (hk4.heap HM.out (by simp))
  clear hk4
  have R1 := Hid.mk (refDot_k ao bo ca cb m n l k w4 Hr.out Hs.out Hb.out Hc.out Hm.out Hn.out (by omega))
  have R2 := Hid.mk (fun w5 (hk : Kept [] w4 w5) => dot_k _ _ (m + 70) (n + 70) m n l k w5 (heap_left (hk.heap HN.out (by simp))) (heap_left (hk.heap HM.out (by simp))) Hb.out Hc.out Hm.out Hn.out (by omega))
  obtain ⟨x, ex⟩ : ∃ x, x = (dN l k : Int) := ⟨_, rfl⟩
  obtain ⟨y, ey⟩ : ∃ y, y = dE l k := ⟨_, rfl⟩
  rw [← ex, ← ey] at R1 R2
  rw [← ex, ← ey]
  clear ex ey
  go_wp2_with (fail)
  refine R1.out.mono ?_
  rintro e w5 ⟨rfl, hk5⟩
  go_wp2_with (fail)
  refine (R2.out w5 hk5).mono ?_
  rintro e w6 ⟨rfl, hk6⟩
  have hk56 := hk5.trans hk6
  replace Hr := Hid.mk (Hr.out.keep hk56)
  replace Hs := Hid.mk (Hs.out.keep hk56)
  replace HK := Hid.mk (HK.out.trans hk56)
  replace HN := Hid.mk (hk56.heap HN.out (by simp))
  replace HM := Hid.mk (hk56.heap HM.out (by simp))
  clear hk5 hk6 hk56 R1 R2
  go_wp2_with (fail)
  refine (back_call N ao ca m l w6 Hr.out Hb.out Hm.out (by omega) HN.out (fun hp b off e => by have := Fa.out b off e hp; have := SN.out; omega)).mono ?_
  rintro e w7 ⟨rfl, hN, hk7⟩
  rw [x90_app] at hN
  replace Hs := Hid.mk (Hs.out.stay hk7 (fun hp g off e hmem => by have := Fb.out g off e (by have := Hn.out; omega); have := SN.out; simp at hmem; omega))
  replace HK := Hid.mk (HK.out.step hk7 (fun x hx => by simp at hx; subst hx; exact .inr SN.out))
  replace HM := Hid.mk (hk7.heap HM.out (by have := SM.out; simp; omega))
  have HN := Hid.mk hN
  clear hN hk7
  go_wp2_with (fail)
  refine (back_call M bo cb n k w7 Hs.out Hc.out Hn.out (by omega) HM.out (fun hp b off e => by have := Fb.out b off e hp; have := SN.out; have := SM.out; omega)).mono ?_
  rintro e w8 ⟨rfl, hM, hk8⟩
  rw [x90_app] at hM
  replace HK := Hid.mk (HK.out.step hk8 (fun x hx => by simp at hx; subst hx; right; have := SN.out; have := SM.out; omega))
  replace HN := Hid.mk (hk8.heap HN.out (by have := SM.out; simp; omega))
  have HM := Hid.mk hM
  clear hM hk8 Hr Hs
  have R1 := Hid.mk (refDot_k _ _ (m + 70) (n + 70) m n _ _ w8 (heap_left HN.out) (heap_left HM.out) (x90_byts Hb.out) (x90_byts Hc.out) (by rw [x90_length]; exact Hm.out) (by rw [x90_length]; exact Hn.out) (by omega))
  have R2 := Hid.mk (fun w5 (hk : Kept [] w8 w5) => dot_k _ _ (m + 70) (n + 70) m n _ _ w5 (heap_left (hk.heap HN.out (by simp))) (heap_left (hk.heap HM.out (by simp))) (x90_byts Hb.out) (x90_byts Hc.out) (by rw [x90_length]; exact Hm.out) (by rw [x90_length]; exact Hn.out) (by omega))
  obtain ⟨x2, ex⟩ : ∃ x, x = (dN (x90 l) (x90 k) : Int) := ⟨_, rfl⟩
  obtain ⟨y2, ey⟩ : ∃ y, y = dE (x90 l) (x90 k) := ⟨_, rfl⟩
  rw [← ex, ← ey] at R1 R2
  clear ex ey
  go_wp2_with (fail)
  refine R1.out.mono ?_
  rintro e w9 ⟨rfl, hk9⟩
  go_wp2_with (fail)
  refine (R2.out w9 hk9).mono ?_
  rintro e wa ⟨rfl, hka⟩
  replace HK := Hid.mk ((HK.out.trans hk9).trans hka)
  clear hk9 hka R1 R2
  go_wp2
  go_ret
  exact ⟨rfl, HK.out⟩
end Go.Proofs.Ytjnmnkheichflaa

import Derived.Test.YtlkbpimlofgflaaDooreJ
namespace Go.Proofs.YtlkbpimlofgflaaDoor
open Go.RowKit

theorem rd_in (d : Md) (a n : Nat) (hd : d.dead = false) (h : a + n ≤ d.b.length) (hb : d.b.length ≤ 268435456) : rdE d 0 268435456 (a : Int) (n : Int) = 0 ∧ rdB d 0 268435456 (a : Int) (n : Int) = (d.b.drop a).take n ∧ rdS d 0 268435456 (a : Int) (n : Int) = { d with g := d.g ++ [((a : Int), (n : Int))] } := by
  have i1 : inB (a : Int) (n : Int) 268435456 = true := by unfold inB; simp; omega
  have i2 : inB (0 + (a : Int)) (n : Int) (d.b.length : Int) = true := by unfold inB; simp; omega
  have e1 : (0 + (a : Int)) = (a : Int) := by omega
  refine ⟨?_, ?_, ?_⟩
  · unfold rdE; rw [hd, i1, i2]; rfl
  · unfold rdB; rw [hd, i1, i2, e1]; simp
  · unfold rdS; rw [hd, i1, i2, e1]; simp

set_option maxHeartbeats 4000000 in
set_option maxRecDepth 1000000 in
theorem endsAt_yes (w : World) (R P N : Nat) (s : ByteArray) (r st : Nat) (f : Bool) (V L : Value) (d : Md) (h : Rl w R P s r st (.slice none 0 0) f) (hs : s.size ≤ 100) (hr : r ≤ 7) (hst : st ≤ 5183999) (hm : Med w P V L d 0) (hd : d.dead = false) (hg : d.g.length ≤ 1000) (hN : d.b.length = N) (hb : d.b = lbl s r st ++ tl [] (15 + s.size)) :
    Calls Tryd.prog 23 #[.pointer (some ⟨R, 0, none⟩), .int .i64 (N : Int)] w fun e w' => ∃ L', e = .returned (.tuple #[.bool true, .int .i64 0]) ∧ Med w' P V L' { d with g := d.g ++ [(((15 + s.size : Nat) : Int), 24)] } 0 ∧ Kept (P :: L.ownBlock.toList) w w' ∧ Lies w L L' := by
  obtain ⟨E, eE⟩ : ∃ E, 15 + s.size = E := ⟨_, rfl⟩
  have hNE : N = E + 24 := by rw [← hN, hb, List.length_append, lbl_len, tl_len, eE]; simp
  have hE : E ≤ 115 := by omega
  have hrd : rdE d 0 268435456 (E : Int) 24 = 0 ∧ rdB d 0 268435456 (E : Int) 24 = (d.b.drop E).take 24 ∧ rdS d 0 268435456 (E : Int) 24 = { d with g := d.g ++ [((E : Int), 24)] } := rd_in d E 24 hd (by omega) (by omega)
  have hbt : (d.b.drop E).take 24 = tl [] E := by
    rw [hb, eE, List.drop_left' (by rw [lbl_len, eE]), List.take_of_length_le (by rw [tl_len]; simp)]
  have lt : (tl [] E).length = 24 := by rw [tl_len]; rfl
  rw [hbt] at hrd
  have C1 := Hid.mk (end_none w R P s r st f h hs hr hst)
  rw [eE] at C1 ⊢
  have HR := Hid.mk h
  have HM := Hid.mk hm
  have HRD := Hid.mk hrd
  have i0 : (N : Int) - (E : Int) = 24 := by omega
  have HE := Hid.mk hE
  have HG := Hid.mk (And.intro hg (show d.b.length ≤ 268435456 by omega))
  clear h hm hrd hbt hg hN hNE hE
  go_enter Tryd.func23, Tryd.ntmps23
  go_wp2_with (fail)
  refine C1.out.mono ?_
  rintro e w1 ⟨rfl, k1⟩
  have K1 := Hid.mk k1
  have C2 := Hid.mk (links_none w1 R P s r st f (HR.out.kept k1 (by simp)))
  clear C1 k1
  go_wp2_with (fail)
  refine C2.out.mono ?_
  rintro e w2 ⟨zo, zc, rfl, k2⟩
  have K2 := Hid.mk (K1.out.trans k2)
  have C3 := Hid.mk (end_any w2 zo 0 zc [] E (.inl rfl) rfl (by simp) (by have := HE.out; omega) (by decide))
  clear C2 k2
  go_wp2_with (fail)
  refine C3.out.mono ?_
  rintro e w3 ⟨v3, rfl, o3, k3, -⟩
  rw [lt] at o3
  obtain ⟨bo, bc, rfl, -⟩ := row_none o3
  have O3 := Hid.mk o3
  have K3 := Hid.mk (K2.out.trans k3)
  obtain ⟨c0, -⟩ := (HR.out.kept K3.out (by simp)).cells
  have C4 := Hid.mk (read_any w3 P V L d (E : Int) 24 (HM.out.keep K3.out) HG.out.2 (by have := HG.out.1; omega) (by have := HE.out; omega))
  clear C3 k3 o3
  go_wp2_with (fail)
  refine C4.out.mono ?_
  rintro e w4 ⟨ro, rc, L', rfl, o4, m4, k4, l4⟩
  rw [HRD.out.2.1, lt] at o4
  rw [HRD.out.1, HRD.out.2.1, lt]
  rw [HRD.out.2.2] at m4
  have C5 := Hid.mk (bequal_any ro bo 24 rc 24 bc _ _ w4 (reads_row o4) (reads_row (k4.row O3.out (fun g hg hm => by
    have hm3 := HM.out.keep K3.out
    simp only [List.mem_cons] at hm
    rcases hm with rfl | hm
    · exact own_ty hm3.box (by decide) O3.out (by rw [hg]; simp)
    · exact own_two O3.out hm3.log (by decide) g hg hm))) lt lt)
  have FN := Hid.mk (And.intro m4 (And.intro ((K3.out.mono (by simp) : Kept (P :: L.ownBlock.toList) w w3).step k4 (fun x hx => .inl hx)) (l4.of_kept K3.out)))
  clear C4 o4 m4 k4 l4 c0
  go_wp2_with (fail)
  refine C5.out.mono ?_
  rintro e w5 ⟨rfl, hx⟩
  subst hx
  clear C5
  go_wp2
  go_ret2
  exact ⟨L', by simp, FN.out⟩
end Go.Proofs.YtlkbpimlofgflaaDoor

import Derived.Test.YtlkbpimlofgflaaDoorMh
namespace Go.Proofs.YtlkbpimlofgflaaDoor
open Go.RowKit
open Go.MuLone

theorem own_nil (w : World) (B e size : Nat) : w.ownsRow B e size (.slice none 0 0) 0 [] := ⟨by simp, .inl ⟨rfl, rfl⟩⟩

/-- What a read of a part leaves. -/
def RdP (w : World) (P : Nat) (V L : Value) (s : Md) (pa pl a n : Int) (e : Ending) (w' : World) : Prop :=
  ∃ bo c L', e = .returned (.tuple #[.slice bo (rdB s pa pl a n).length c, .int .i64 (rdE s pa pl a n)]) ∧ w'.ownsRow w.heap.size 5 1 (.slice bo (rdB s pa pl a n).length c) (rdB s pa pl a n).length ((rdB s pa pl a n).map byt) ∧ Med w' P V L' (rdS s pa pl a n) 0 ∧ Kept (P :: L.ownBlock.toList) w w' ∧ Lies w L L'

set_option maxHeartbeats 4000000 in
theorem rw_any (w : World) (P : Nat) (V L : Value) (s : Md) (pa pl a n : Int) (h : Med w P V L s 0) (ok : s.b.length ≤ 268435456) (okg : s.g.length ≤ 8796093022207) (a1 : a ≤ 9223372036854775807) (p0 : 0 ≤ pa) (p1 : pa ≤ 268435456) (p2 : 0 ≤ pl) (p3 : pl ≤ 268435456) :
    Calls Tryd.prog 33 #[.pointer (some ⟨P, 0, none⟩), .agg #[.int .i64 pa, .int .i64 pl], .int .i64 a, .int .i64 n] w (RdP w P V L s pa pl a n) := by
  unfold RdP
  by_cases hd : s.dead = true
  · refine (rw_dead w P V L s pa pl a n h hd).mono ?_
    rintro e w' ⟨rfl, h1, k1⟩
    have e1 : rdB s pa pl a n = [] := by simp [rdB, hd]
    have e2 : rdE s pa pl a n = 152 := by simp [rdE, hd]
    have e3 : rdS s pa pl a n = s := by simp [rdS, hd]
    rw [e1, e2, e3]
    exact ⟨none, 0, L, rfl, own_nil _ _ _ _, h1, k1.at (by simp), Lies.refl _ _⟩
  · have hd' : s.dead = false := by simpa using hd
    by_cases hi : (inB a n pl && inB (pa + a) n (s.b.length : Int)) = true
    · refine (rw_ok w P V L s pa pl a n h ok okg hd' a1 p0 p1 p2 p3 hi).mono ?_
      rintro e w' ⟨bo, c, L', rfl, h1, h2, h3, h4⟩
      have e1 : rdB s pa pl a n = (s.b.drop (pa + a).toNat).take n.toNat := by simp only [rdB, hd', hi]; rfl
      have e2 : rdE s pa pl a n = 0 := by simp only [rdE, hd', hi]; rfl
      have e3 : rdS s pa pl a n = { s with g := s.g ++ [(pa + a, n)] } := by simp only [rdS, hd', hi]; rfl
      have e4 : ((s.b.drop (pa + a).toNat).take n.toNat).length = n.toNat := by
        simp only [Bool.and_eq_true, inB, decide_eq_true_eq] at hi
        simp
        omega
      rw [e1, e2, e3, e4]
      exact ⟨bo, c, L', rfl, h1, h2, h3, h4⟩
    · have hi' : (inB a n pl && inB (pa + a) n (s.b.length : Int)) = false := by simpa using hi
      refine (rw_no w P V L s pa pl a n h ok hd' a1 p0 p1 p2 p3 hi').mono ?_
      rintro e w' ⟨rfl, h1, k1⟩
      have e1 : rdB s pa pl a n = [] := by simp only [rdB, hd', hi']; rfl
      have e2 : rdE s pa pl a n = 151 := by simp only [rdE, hd', hi']; rfl
      have e3 : rdS s pa pl a n = s := by simp only [rdS, hd', hi']; rfl
      rw [e1, e2, e3]
      exact ⟨none, 0, L, rfl, own_nil _ _ _ _, h1, k1.at (by simp), Lies.refl _ _⟩

theorem rdS_ok {s : Md} {pa pl a n : Int} (ok : Mok s) : Mok (rdS s pa pl a n) := by
  obtain ⟨h1, h2, h3, h4, h5, h6⟩ := ok
  unfold rdS
  split
  · exact ⟨h1, h2, h3, h4, h5, h6⟩
  · split
    · exact ⟨h1, h2, h3, h4, h5, h6⟩
    · exact ⟨h1, h2, h3, h4, h5, h6⟩
theorem rdS_g {s : Md} {pa pl a n : Int} : (rdS s pa pl a n).g.length ≤ s.g.length + 1 := by
  unfold rdS
  split
  · omega
  · split
    · simp
    · omega

set_option maxHeartbeats 4000000 in
set_option maxRecDepth 100000 in
theorem read_any (w : World) (P : Nat) (V L : Value) (s : Md) (a n : Int) (h : Med w P V L s 0) (ok : s.b.length ≤ 268435456) (okg : s.g.length ≤ 8796093022207) (a1 : a ≤ 9223372036854775807) :
    Calls Tryd.prog 20 #[.pointer (some ⟨P, 0, none⟩), .int .i64 a, .int .i64 n] w (RdP w P V L s 0 268435456 a n) := by
  have C := Hid.mk (rw_any w P V L s 0 268435456 a n h ok okg a1 (by omega) (by omega) (by omega) (by omega))
  clear h
  go_enter Tryd.func20, Tryd.ntmps20
  go_wp2_with (fail)
  refine C.out.mono ?_
  rintro e w1 ⟨bo, c, L', rfl, h1, h2, h3, h4⟩
  have H := Hid.mk (And.intro h1 (And.intro h2 (And.intro h3 h4)))
  clear h1 h2 h3 h4 C
  go_wp2
  go_ret2
  exact ⟨bo, c, L', rfl, H.out⟩

theorem foot_ne {w : World} {P R : Nat} {V L : Value} {s : Md} {k : Int} {cs : Array Value} {t : Nat} (h : Med w P V L s k) (hR : w.heap[R]? = some (.cells cs t (0, 0))) (h1 : t ≠ 72) (h2 : t ≠ 5) (h3 : t ≠ 79) : R ∉ foot P V L := by
  simp only [foot, List.mem_cons, List.mem_append, not_or]
  refine ⟨fun e => ?_, own_ty hR h2 h.row, own_ty hR h3 h.log⟩
  subst e
  rw [h.box] at hR
  simp at hR
  exact h1 hR.2.symm

end Go.Proofs.YtlkbpimlofgflaaDoor

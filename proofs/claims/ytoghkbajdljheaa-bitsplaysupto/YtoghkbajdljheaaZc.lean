import Derived.Test.YtoghkbajdljheaaZb
namespace Go.Proofs.Ytoghkbajdljheaa
open Go.RowKit

theorem Sep.one {W w : World} {r : Rsc} (hk : Kept [] W w) (hr : r.P w) (hF : ∀ x ∈ r.F, W.heap.size ≤ x) : Sep W w 1 (fun _ => r) :=
  ⟨hk, fun _ _ => hr, fun _ _ => hF, fun i j hi hj hij => by omega⟩

def c00 : Nat → Value := fun i => if i < 8 then .pointer none else .slice none 0 0

/-- ends, over the World. -/
theorem ends_stt (W w : World) (A : Nat) (s : St) (m : Nat) (X : Nat → Rsc) (c : Nat) (h : Stt W w A s m X) (ok : Ok s c) (hc : c ≤ 200000) :
    Calls Try.prog 14 #[.pointer (some ⟨A, 8, none⟩)] w fun e w' => e = .returned (.bool true) ∧ ∃ s', Stt W w' A s' m X ∧ Ok s' c := by
  have hn := ok.n
  refine (Wd.ends_bks A s.p s.n s.vl s.vw s.LV s.LU s.ls w h.bk (by omega) (fun i => by have := ok.ls i; omega)).mono ?_
  rintro e w' ⟨rfl, hb, hk⟩
  refine ⟨rfl, _, h.setB hk (fun x hx => .inl ?_) hb (fun x hx => .inl ?_), ⟨ok.bs, ok.l2, ok.t2, ok.len, Nat.zero_le _, ok.l, ok.ls⟩⟩
  · rw [mem_bookF]
    simp only [List.mem_cons, mem_blk] at hx
    rcases hx with e | e
    · exact .inl e
    · exact .inr (.inr (.inr (.inl e)))
  · rw [mem_bookF] at hx ⊢
    simp only [Value.ownBlock] at hx
    rcases hx with e | e | e | ⟨i, hi, _⟩ | ⟨i, hi, _⟩
    · exact .inl e
    · simp at e
    · simp at e
    · omega
    · omega

/-- A new World. -/
def s00 (B : Nat → Nat) (V6 V7 : Value) (g0 g1 : Nat) : St where
  B := B
  V := fun i => if i = 6 then V6 else if i = 7 then V7 else .slice none 0 0
  N := fun _ => 0
  len := fun _ => 0
  bs := fun _ => []
  l := fun _ => []
  t := fun _ => 0
  g := fun i => if i = 0 then g0 else g1
  l2 := fun _ => []
  t2 := fun _ => 0
  n := 0
  vl := .slice none 0 0
  vw := .slice none 0 0
  LV := fun _ => .slice none 0 0
  LU := fun _ => .slice none 0 0
  ls := fun _ => []

theorem ok00 (B : Nat → Nat) (V6 V7 : Value) (g0 g1 : Nat) : Ok (s00 B V6 V7 g0 g1) 0 :=
  ⟨fun _ _ => rfl, fun _ _ => rfl, fun _ _ => rfl, fun _ _ => Nat.le_refl _, Nat.le_refl _, fun _ _ => by simp [s00], fun _ => by simp [s00]⟩

/-- Where the things lie that were made one behind the other. -/
def ord9 : Nat → Nat := fun i => if i = 0 then 1 else if i = 1 then 6 else if i = 2 then 2 else if i = 3 then 7 else if i = 4 then 4 else if i = 5 then 9 else if i = 6 then 5 else if i = 7 then 10 else 0

theorem ord9_lt (i : Nat) (h : i < 9) : ord9 i < 11 := by
  rcases nine_of h with rfl | rfl | rfl | rfl | rfl | rfl | rfl | rfl | rfl <;> decide

theorem ord9_ne (i j : Nat) (hi : i < 9) (hj : j < 9) (h : i ≠ j) : ord9 i ≠ ord9 j := by
  rcases nine_of hi with rfl | rfl | rfl | rfl | rfl | rfl | rfl | rfl | rfl <;> rcases nine_of hj with rfl | rfl | rfl | rfl | rfl | rfl | rfl | rfl | rfl <;> first | (exact absurd rfl h) | decide

/-- The World is whole. -/
theorem whole00 {W w : World} {A W0 W1 X0 X1 R0 R1 Y0 Y1 g0 g1 : Nat} {V0 V1 : Value} {R : Nat → Rsc} {c : Nat → Value} (h : Sep W w 11 R) (h0 : R 0 = obj A (.cells (c10 c) 37 (0, 0))) (h1 : R 1 = wtr W0 (.slice none 0 0) 0 0) (h2 : R 2 = rfw X0 (.slice none 0 0) []) (h4 : R 4 = rdr R0 g0 [] 0) (h5 : R 5 = rfr Y0 V0 [] 0)
    (h6 : R 6 = wtr W1 (.slice none 0 0) 0 0) (h7 : R 7 = rfw X1 (.slice none 0 0) []) (h9 : R 9 = rdr R1 g1 [] 0) (h10 : R 10 = rfr Y1 V1 [] 0)
    (hc : c10 c = #[.pointer (some ⟨W0, 0, none⟩), .pointer (some ⟨W1, 0, none⟩), .pointer (some ⟨X0, 0, none⟩), .pointer (some ⟨X1, 0, none⟩), .pointer (some ⟨R0, 0, none⟩), .pointer (some ⟨R1, 0, none⟩), .pointer (some ⟨Y0, 0, none⟩), .pointer (some ⟨Y1, 0, none⟩), .slice none 0 0, .slice none 0 0]) :
    ∃ s, Stt W w A s 0 (fun _ => nul) ∧ Ok s 0 := by
  obtain ⟨B, hB⟩ : ∃ B : Nat → Nat, B = fun i => if i = 0 then W0 else if i = 1 then W1 else if i = 2 then X0 else if i = 3 then X1 else if i = 4 then R0 else if i = 5 then R1 else if i = 6 then Y0 else Y1 := ⟨_, rfl⟩
  refine ⟨s00 B V0 V1 g0 g1, ?_, ok00 _ _ _ _ _⟩
  have hb := h.P 0 (by omega)
  rw [h0, hc] at hb
  have hbk : (bok A (s00 B V0 V1 g0 g1).p 0 (.slice none 0 0) (.slice none 0 0) (fun _ => .slice none 0 0) (fun _ => .slice none 0 0) (fun _ => [])).P w := by
    refine Wd.Bks.empty ?_ _ _ _
    have hb' : w.heap[A]? = _ := hb
    rw [hb']
    simp [s00, St.p, hB]
  have hs := (h.step 0 (by omega) (Kept.refl [] w) (by simp) hbk (by rw [h0]; intro x hx; rw [show (bok A (s00 B V0 V1 g0 g1).p 0 (.slice none 0 0) (.slice none 0 0) (fun _ => .slice none 0 0) (fun _ => .slice none 0 0) (fun _ => [])).F = bookF A 0 (.slice none 0 0) (.slice none 0 0) (fun _ => .slice none 0 0) (fun _ => .slice none 0 0) from rfl, mem_bookF] at hx; simp [Value.ownBlock] at hx; subst hx; left; simp [obj])).perm ord9 ord9_lt ord9_ne
  refine hs.congr (m := 9) (fun i hi => ?_)
  rcases nine_of hi with rfl | rfl | rfl | rfl | rfl | rfl | rfl | rfl | rfl
  · show _ = upd R 0 _ 1; rw [upd_far _ _ _ _ (by omega), h1]; simp [St.all, St.rsc, s00, hB]
  · show _ = upd R 0 _ 6; rw [upd_far _ _ _ _ (by omega), h6]; simp [St.all, St.rsc, s00, hB]
  · show _ = upd R 0 _ 2; rw [upd_far _ _ _ _ (by omega), h2]; simp [St.all, St.rsc, s00, hB]
  · show _ = upd R 0 _ 7; rw [upd_far _ _ _ _ (by omega), h7]; simp [St.all, St.rsc, s00, hB]
  · show _ = upd R 0 _ 4; rw [upd_far _ _ _ _ (by omega), h4]; simp [St.all, St.rsc, s00, hB]
  · show _ = upd R 0 _ 9; rw [upd_far _ _ _ _ (by omega), h9]; simp [St.all, St.rsc, s00, hB]
  · show _ = upd R 0 _ 5; rw [upd_far _ _ _ _ (by omega), h5]; simp [St.all, St.rsc, s00, hB]
  · show _ = upd R 0 _ 10; rw [upd_far _ _ _ _ (by omega), h10]; simp [St.all, St.rsc, s00, hB]
  · show _ = upd R 0 _ 0; rw [upd_at]; rfl

end Go.Proofs.Ytoghkbajdljheaa

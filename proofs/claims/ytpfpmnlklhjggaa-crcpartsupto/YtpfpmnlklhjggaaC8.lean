import Derived.Test.YtpfpmnlklhjggaaC7
namespace Go.Proofs.Ytpfpmnlklhjggaa
open Go.RowKit

/-- append of bytes that are read, nil or not, onto a row of one's own. -/
theorem wpList_app (w : World) {ops : Array Oper} {rest : List Oper} {o : Oper} {a : Act} {Q : Exit → Act → World → Prop} (hgd : o.guard = none) (s x : Operand)
    (ho : o.op = .call { callee := .builtin .append, args := #[s, x], argTypes := #[22, 22] })
    (v : Value) (n : Nat) (xs : List Value) (hs : a.eval s = v) (hown : w.ownsRow 0 5 1 v n xs) (ao : Option Addr) (m cap : Nat) (l : List Nat) (hx : a.eval x = .slice ao m cap) (hr : Reads w ao l) (hm : l.length = m) (hz : ao = none → cap = 0)
    (hb : n + m ≤ 140737488355328)
    (h : ∀ v' w', w'.ownsRow 0 5 1 v' (n + m) (xs ++ l.map byt) → Kept v.ownBlock.toList w w' → Lies w v v' → wpList Try.prog ops Q rest (a.put o.dst v') w') :
    wpList Try.prog ops Q (o :: rest) a w := by
  obtain ⟨i0, hi, hz0, hz1, hz2⟩ := info_parts Try.info5
  cases ao with
  | none =>
    obtain rfl := hz rfl
    have hl : l = [] := by
      rcases hr with h | ⟨g, off, h, _⟩
      · exact h
      · cases h
    subst hl
    simp at hm
    subst hm
    refine wpList_plain hgd fun K hK => ?_
    have hrun := run_append_owned_none (P := Try.prog) (w := w) 0 22 o.type 5 i0 1 Try.underlying22 hi v n xs hown
    unfold Oper.wp execOp
    simp only [ho, resolve, invoke, builtin, Sem.run_bind, Sem.run_pure, Result.andThen_ok, List.map_toArray, List.map_cons, List.map_nil, hs, hx, hrun]
    exact hK _ _ (h v w (by simpa using hown) (Kept.refl _ _) (Lies.refl _ _))
  | some ad =>
    have hsrc : ∀ j u, (l.map byt)[j]? = some u → w.cell? (ad.add j) = some u := by
      intro j u hu
      have hj : 0 < l.length := by
        rcases l with _ | ⟨y, l⟩
        · simp at hu
        · simp
      obtain ⟨ad', e, hc⟩ := reads_src hr hj
      cases e
      exact hc j u hu
    refine wpList_append_own_at w hgd s x 22 ho 0 5 i0 (.int .u8 0) 1 1 Try.underlying22 hi hz0 hz1 hz2 rfl (by decide) v n xs hs hown ad m cap (l.map byt) hx (by simpa using hm) hsrc (bytes_one l) (by unfold maxLen; omega) (by omega) (by omega) ?_
    intro v' w' h2 h3 _ h5
    refine h v' w' h2 (Kept.of_grown h3) ?_
    rcases h5 with h | h
    · exact .inl h
    · exact .inr ⟨_, h, Nat.le_refl _⟩

theorem owns_reads {w : World} {v : Value} {n : Nat} {l : List Nat} (h : w.ownsRow 0 5 1 v n (l.map byt)) : ∃ ao cap, v = .slice ao n cap ∧ Reads w ao l ∧ (ao = none → cap = 0) := by
  rcases h.2 with ⟨hv, hn⟩ | ⟨g, cap, cur, hv, _⟩
  · subst hv
    subst hn
    refine ⟨none, 0, rfl, ?_, fun _ => rfl⟩
    exact reads_row h
  · subst hv
    exact ⟨some ⟨g, 0, none⟩, cap, rfl, reads_row h, fun h => by cases h⟩

set_option maxHeartbeats 1000000 in
set_option maxRecDepth 1000000 in
theorem both_any (ao bo : Option Addr) (ca cb m n : Nat) (l k : List Nat) (w : World) (hr : Reads w ao l) (hs : Reads w bo k) (hm : l.length = m) (hn : k.length = n) (za : ao = none → ca = 0) (zb : bo = none → cb = 0) (hl : m + n ≤ 140737488355328) :
    Calls Try.prog 16 #[.slice ao m ca, .slice bo n cb] w fun e w' => ∃ co cc, e = .returned (.slice co (m + n) cc) ∧ Reads w' co (l ++ k) ∧ (co = none → cc = 0) ∧ Kept [] w w' := by
  have h0 := World.ownsRow_nil w 0 5 1
  go_enter Try.func16, Try.ntmps16
  go_wp2_with (at_builtin; refine wpList_app _ rfl _ _ rfl _ 0 [] rfl h0 ao m ca l rfl hr hm za (by omega) ?_)
  intro v1 w1 ho1 hk1 hl1
  have hk1' : Kept [] w w1 := by simpa [Value.ownBlock] using hk1
  have ho1 : w1.ownsRow 0 5 1 v1 m (l.map byt) := by simpa using ho1
  have hs1 := hs.keep hk1'
  go_wp2_with (at_builtin; refine wpList_app _ rfl _ _ rfl _ m (l.map byt) rfl ho1 bo n cb k rfl hs1 hn zb (by omega) ?_)
  intro v2 w2 ho2 hk2 hl2
  rw [← List.map_append] at ho2
  obtain ⟨co, cc, rfl, hrd, hz⟩ := owns_reads ho2
  go_wp2
  go_ret
  refine ⟨co, cc, rfl, hrd, hz, hk1'.step hk2 fun x hx => .inr ?_⟩
  rcases hl1 with h | ⟨g, h, hg⟩
  · rw [h] at hx; simp [Value.ownBlock] at hx
  · rw [h] at hx; simp at hx; omega

/-- A number as four bytes, the highest first. -/
def fr4 (s : BitVec 32) : List Nat := [s.toNat / 16777216, s.toNat / 65536 % 256, s.toNat / 256 % 256, s.toNat % 256]

theorem fr4_byts (s : BitVec 32) : Byts (fr4 s) := by
  have := s.isLt
  intro b hb
  simp only [fr4, List.mem_cons, List.not_mem_nil, or_false] at hb
  omega

set_option maxHeartbeats 1000000 in
set_option maxRecDepth 1000000 in
theorem four_any (s : BitVec 32) (w : World)  :
    Calls Try.prog 20 #[.int .u32 (nm s)] w fun e w' => e = .returned (.slice (some ⟨w.heap.size, 0, none⟩) 4 4) ∧ Reads w' (some ⟨w.heap.size, 0, none⟩) (fr4 s) ∧ Kept [] w w' := by
  have h0 := nm_lo s
  have h1 := nm_hi s
  have Hr := Hid.mk (reads_new w (fr4 s) (0, 0))
  have He : Hid (((fr4 s).map byt).toArray = #[.int .u8 (nm s / 16777216), .int .u8 (nm s / 65536 % 256), .int .u8 (nm s / 256 % 256), .int .u8 (nm s % 256)]) := by
    unfold fr4 byt nm Hid
    simp
  rw [He.out] at Hr
  go_enter Try.func20, Try.ntmps20
  go_wp2
  go_ret
  exact ⟨rfl, Hr.out, (Kept.refl _ _).alloc _⟩

theorem fr4_bit (s : BitVec 32) (i : Nat) (hi : i < 32) : bt (fr4 s) i = s.getLsbD (31 - i) := by
  have hs := s.isLt
  rw [← BitVec.testBit_toNat]
  unfold bt fr4
  generalize s.toNat = x at *
  have h : i / 8 = 0 ∨ i / 8 = 1 ∨ i / 8 = 2 ∨ i / 8 = 3 := by omega
  rcases h with h | h | h | h
  · rw [h]
    show (x / 16777216).testBit (7 - i % 8) = _
    rw [show 16777216 = 2 ^ 24 from rfl, ← Nat.shiftRight_eq_div_pow, Nat.testBit_shiftRight]
    congr 1; omega
  · rw [h]
    show (x / 65536 % 256).testBit (7 - i % 8) = _
    rw [show 65536 = 2 ^ 16 from rfl, show 256 = 2 ^ 8 from rfl, ← Nat.shiftRight_eq_div_pow, Nat.testBit_mod_two_pow, Nat.testBit_shiftRight]
    rw [show 16 + (7 - i % 8) = 31 - i by omega]
    simp; omega
  · rw [h]
    show (x / 256 % 256).testBit (7 - i % 8) = _
    rw [show x / 256 = x / 2 ^ 8 from rfl, show x / 2 ^ 8 % 256 = x / 2 ^ 8 % 2 ^ 8 from rfl, ← Nat.shiftRight_eq_div_pow, Nat.testBit_mod_two_pow, Nat.testBit_shiftRight]
    rw [show 8 + (7 - i % 8) = 31 - i by omega]
    simp; omega
  · rw [h]
    show (x % 256).testBit (7 - i % 8) = _
    rw [show 256 = 2 ^ 8 from rfl, Nat.testBit_mod_two_pow]
    rw [show 7 - i % 8 = 31 - i by omega]
    simp; omega

theorem adv_fr4 (s n : BitVec 32) : adv s (fr4 n) = X 32 (s ^^^ n) := by
  rw [adv_state, adv_bits _ (fr4_byts n), X_xor]
  have e : 8 * (fr4 n).length = 32 := rfl
  rw [e, hor_add, hor_none (c := fun i => bt (fr4 n) (32 + i)), BitVec.xor_zero]
  · rw [hor_congr (d := fun i => n.getLsbD (31 - i)) 32 (fun i hi => fr4_bit n i hi), hor_32]
  · intro i _
    unfold bt
    rw [List.getD_eq_getElem?_getD, List.getElem?_eq_none (by simp [fr4]; omega)]
    simp
end Go.Proofs.Ytpfpmnlklhjggaa

import Derived.Test.YtdnbjbdokppfnaaDoorA6
import Derived.Laws.BytesArg
namespace Go.Proofs.YtdnbjbdokppfnaaDoor
open Go.RowKit

theorem Tryd.info5 : (Tryd.prog.info? 5).map (fun i => (i.zero, i.size, i.bytes)) = some (some (.int .u8 0), 1, 1) := by kernel_rfl
theorem info_parts {t : TypeId} {z : Option Value} {a b : Nat} (h : (Tryd.prog.info? t).map (fun i => (i.zero, i.size, i.bytes)) = some (z, a, b)) : ∃ i, Tryd.prog.info? t = some i ∧ i.zero = z ∧ i.size = a ∧ i.bytes = b := by
  match hi : Tryd.prog.info? t with
  | none => rw [hi] at h; simp at h
  | some i => rw [hi] at h; simp at h; exact ⟨i, rfl, h.1, h.2.1, h.2.2⟩

set_option maxHeartbeats 1000000 in
set_option maxRecDepth 1000000 in
theorem twoDigits_any (v : Value) (n : Nat) (xs : List Value) (k : Int) (w : World) (hown : w.ownsRow 0 5 1 v n xs) (k0 : 0 ≤ k) (k1 : k ≤ 99) (hn : n ≤ 100) :
    Calls Tryd.prog 47 #[v, .int .i64 k] w fun e w' => ∃ v', e = .returned v' ∧ w'.ownsRow 0 5 1 v' (n + 2) (xs ++ [.int .u8 (48 + k / 10), .int .u8 (48 + k % 10)]) ∧ Kept v.ownBlock.toList w w' ∧ Lies w v v' := by
  obtain ⟨i0, hi, hz0, hz1, hz2⟩ := info_parts Tryd.info5
  have d0 : k / 10 < 10 := by omega
  have d1 : 0 ≤ k / 10 := by omega
  have d2 : k % 10 < 10 := by omega
  have d3 : 0 ≤ k % 10 := by omega
  go_enter Tryd.func47, Tryd.ntmps47
  go_wp2_with (at_builtin; refine wpList_append_own_at _ rfl _ _ 86 rfl 0 5 i0 (.int .u8 0) 1 1 Tryd.underlying86 hi hz0 hz1 hz2 rfl (by decide) _ _ _ rfl (hown.alloc _) ⟨w.heap.size, 0, none⟩ 2 2 [.int .u8 (48 + k / 10), .int .u8 (48 + k % 10)] rfl rfl ?c1 ?c2 ?c3 ?c4 ?c5 ?_)
  case c1 =>
    intro i u hu
    match i, hu with
    | 0, hu => simp at hu; subst hu; simp [Addr.add]
    | 1, hu => simp at hu; subst hu; simp [Addr.add]
  case c2 => intro u hu; simp at hu; rcases hu with rfl | rfl <;> rfl
  case c3 => unfold maxLen; omega
  case c4 => omega
  case c5 => omega
  intro v' w1 hown' hgrow _ hat
  have hk' : Kept v.ownBlock.toList w w1 := ((Kept.refl _ w).alloc _).step (Kept.of_grown hgrow) (fun x hx => .inl hx)
  have hl' : Lies w v v' := by
    rcases hat with h | h
    · exact .inl h
    · exact .inr ⟨_, h, by simp⟩
  clear hgrow hat
  go_wp2
  go_ret
  exact ⟨_, rfl, hown', hk', hl'⟩
end Go.Proofs.YtdnbjbdokppfnaaDoor

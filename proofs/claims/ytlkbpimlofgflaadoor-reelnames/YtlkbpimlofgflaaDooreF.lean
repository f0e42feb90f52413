import Derived.Test.YtlkbpimlofgflaaDooreE
import Derived.Lib.Bytes
namespace Go.Proofs.YtlkbpimlofgflaaDoor
open Go.RowKit

theorem bstr_toList (l : List Nat) : (bstr l).toList = l.map (fun n => UInt8.ofNat n) := by
  unfold bstr; rw [Lib.strOfNums_toList]; simp [Lib.bytesOf]
theorem bstr_tb (s : ByteArray) : bstr (tb s) = s := by
  apply ByteArray.ext
  apply Array.toList_inj.1
  unfold bstr
  rw [strOfNums_data]
  unfold tb
  rw [List.map_map, List.map_map]
  have : (((fun n : Int => UInt8.ofNat n.toNat) ∘ (fun b : Nat => (b : Int))) ∘ fun x : UInt8 => x.toNat) = id := by funext x; simp
  rw [this, List.map_id]

set_option maxHeartbeats 1000000 in
theorem bequal_any (ao bo : Option Addr) (m c n d : Nat) (l k : List Nat) (w : World) (hl : Reads w ao l) (hk : Reads w bo k) (hm : l.length = m) (hn : k.length = n) :
    Calls Tryd.prog 38 #[.slice ao m c, .slice bo n d] w fun e w' => e = .returned (.bool ((bstr l).toList == (bstr k).toList)) ∧ w' = w := by
  have s1 := reads_str' hl hm c
  have s2 := reads_str' hk hn d
  clear hl hk
  go_enter Tryd.func38, Tryd.ntmps38
  go_wp2
  go_ret
  exact ⟨rfl, rfl⟩

set_option maxHeartbeats 1000000 in
/-- Bytes that begin with others. -/
theorem prefix_yes (ao bo : Option Addr) (m c n d : Nat) (l k : List Nat) (w : World) (hl : Reads w ao (l ++ k)) (hk : Reads w bo l) (hm : (l ++ k).length = m) (hn : l.length = n) (hc : m ≤ c) :
    Calls Tryd.prog 35 #[.slice ao m c, .slice bo n d] w fun e w' => e = .returned (.bool true) ∧ w' = w := by
  have hr : Reads w ao l := by
    rcases hl with h | ⟨g, off, rfl, h⟩
    · exact .inl (List.append_eq_nil_iff.1 h).1
    · refine .inr ⟨g, off, rfl, fun i hi => ?_⟩
      rw [h i (by simp; omega)]
      simp [List.getD_eq_getElem?_getD, List.getElem?_append_left hi]
  have hle : n ≤ m := by rw [← hm, ← hn, List.length_append]; omega
  have hle2 : (n : Int) ≤ (m : Int) := by omega
  have sl := slice_h ao m c n (by omega)
  have C1 := Hid.mk (bequal_any ao bo n c n d l l w hr hk hn hn)
  clear hl hk hr
  go_enter Tryd.func35, Tryd.ntmps35
  go_wp2_with (fail)
  refine C1.out.mono ?_
  rintro e w' ⟨rfl, hw⟩
  subst hw
  go_wp2
  go_ret
  exact ⟨by simp, rfl⟩

set_option maxHeartbeats 1000000 in
/-- The number that stands in four bytes. -/
theorem word_any (ao : Option Addr) (m c at_ : Nat) (l : List Nat) (w : World) (hl : Reads w ao l) (hb : Byts l) (hm : l.length = m) (hc : m ≤ c) (ha : at_ + 4 ≤ m) (hs : m ≤ 1000000000) :
    Calls Tryd.prog 34 #[.slice ao m c, .int .i64 (at_ : Int)] w fun e w' => e = .returned (.int .i64 (num ((l.drop at_).take 4) : Int)) ∧ w' = w := by
  have hr : Reads w (if c = at_ then ao else ao.map (·.add at_)) ((l.drop at_).take 4) := reads_cut hl at_ 4 c (by omega) (by omega)
  have sl := slice_lh ao m c at_ (at_ + 4) (by omega) (by omega)
  have e4 : (((at_ + 4 : Nat)) : Int) = (at_ : Int) + 4 := by omega
  have e5 : at_ + 4 - at_ = 4 := by omega
  rw [e4, e5] at sl
  obtain ⟨bo, ebo⟩ : ∃ bo, (if c = at_ then ao else ao.map (·.add at_)) = bo := ⟨_, rfl⟩
  rw [ebo] at hr sl
  have hb4 : Byts ((l.drop at_).take 4) := fun b hx => hb b (List.mem_of_mem_drop (List.mem_of_mem_take hx))
  have hl4 : ((l.drop at_).take 4).length = 4 := by simp; omega
  have C1 := Hid.mk (number_at bo (c - at_) 4 _ _ w hr hb4 hl4 rfl (by decide) (by decide))
  have hn : num ((l.drop at_).take 4) < 4294967296 := by
    have := num_lt ((l.drop at_).take 4) hb4
    rw [hl4] at this
    exact this
  obtain ⟨X, eX⟩ : ∃ X, num ((l.drop at_).take 4) = X := ⟨_, rfl⟩
  rw [eX] at C1 hn ⊢
  have hn2 : (X : Int) < 4294967296 := by omega
  clear hl hb hr hb4 hl4 e4 e5
  go_enter Tryd.func34, Tryd.ntmps34
  go_wp2_with (fail)
  refine C1.out.mono ?_
  rintro e w' ⟨rfl, hw⟩
  subst hw
  go_wp2
  go_ret
  exact ⟨rfl, rfl⟩

set_option maxHeartbeats 1000000 in
theorem linkLen_any (ao : Option Addr) (m c : Nat) (l : List Nat) (w : World) (hl : Reads w ao l) (hb : Byts l) (hm : l.length = m) (hc : m ≤ c) (ha : 12 ≤ m) (hs : m ≤ 1000000000) :
    Calls Tryd.prog 37 #[.slice ao m c] w fun e w' => e = .returned (.int .i64 (num ((l.drop 8).take 4) : Int)) ∧ w' = w := by
  have C1 := Hid.mk (word_any ao m c 8 l w hl hb hm hc (by omega) hs)
  clear hl hb
  go_enter Tryd.func37, Tryd.ntmps37
  go_wp2_with (fail)
  refine C1.out.mono ?_
  rintro e w' ⟨rfl, hw⟩
  subst hw
  go_wp2
  go_ret
  exact ⟨rfl, rfl⟩

/-- A text is UTF-8. -/
def Txt (s : ByteArray) : Prop := ∀ u : World, Calls Tryd.prog 29 #[.string s] u fun e w' => e = .returned (.bool true) ∧ w' = u
set_option maxHeartbeats 1000000 in
theorem mayBe_yes (w : World) (s : ByteArray) (r st : Nat) (hs : s.size ≤ 100) (hv : Txt s) (r1 : 1 ≤ r) (r2 : r ≤ 7) (hst : st ≤ 5183999) :
    Calls Tryd.prog 14 #[.agg #[.string s, .int .i64 (r : Int), .int .i64 (st : Int)]] w fun e w' => e = .returned (.bool true) ∧ Kept [] w w' := by
  obtain ⟨n, en⟩ : ∃ n, s.size = n := ⟨_, rfl⟩
  rw [en] at hs
  have hn : (n : Int) ≤ 100 := by omega
  have i1 : (1 : Int) ≤ (r : Int) := by omega
  have i2 : (r : Int) ≤ 7 := by omega
  have i3 : (st : Int) ≤ 5183999 := by omega
  have HV := Hid.mk hv
  clear hv
  go_enter Tryd.func14, Tryd.ntmps14
  go_wp2_with (fail)
  refine (HV.out _).mono ?_
  rintro e w' ⟨rfl, hw⟩
  subst hw
  go_wp2
  go_ret
  exact ⟨rfl, (Kept.refl [] _).alloc _⟩

set_option maxHeartbeats 4000000 in
set_option maxRecDepth 1000000 in
theorem txt_a : Txt ⟨#[97]⟩ := by
  intro u
  go_enter Tryd.func29, Tryd.ntmps29
  go_wp2
  go_loopw [0] (fun v wr => wr = u ∧ ∃ b : Bool, v = .string (if b then ⟨#[97]⟩ else ⟨#[]⟩)) (fun v _ => match v with | .string s => s.size | _ => 0)
  case atStart => exact ⟨rfl, true, rfl⟩
  case round =>
    obtain ⟨rfl, b, rfl⟩ := hrel
    cases b with
    | true =>
      have h97 : ((({ data := #[97] } : ByteArray)[0]'(by decide)).toNat : Int) < 128 := by decide
      go_wp2
      exact ⟨⟨trivial, false, rfl⟩, by decide⟩
    | false =>
      go_wp2
      go_ret
      exact ⟨rfl, rfl⟩
end Go.Proofs.YtlkbpimlofgflaaDoor

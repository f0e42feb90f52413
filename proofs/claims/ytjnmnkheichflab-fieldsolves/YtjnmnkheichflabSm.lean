import Derived.Test.YtjnmnkheichflabG1
namespace Go.Proofs.Ytjnmnkheichflab
open Go.RowKit

/-- The text that bytes are. -/
def bstr (l : List Nat) : ByteArray := strOfNums (l.map fun b : Nat => (b : Int))
theorem reads_str {w : World} {ao : Option Addr} {l : List Nat} (h : Reads w ao l) (cap : Nat) : Sem.run Try.prog (convert 31 9 (.slice ao l.length cap)) w = .ok (.string (bstr l)) w := by
  rcases h with rfl | ⟨g, off, rfl, hc⟩
  · rcases ao with _ | a
    · exact run_convert_bytes_nil w 31 5 Try.underlying31 Try.underlying5 0 cap 9 Try.underlying9
    · have hl : (loadCells a 0).run Try.prog w = .ok #[] w := by simpa using run_loadCells_list (P := Try.prog) w a [] (by simp)
      have h1 := run_convert_bytes_string (P := Try.prog) w 31 9 5 (some a) 0 cap Try.underlying31 Try.underlying5 Try.underlying9
      have h2 := run_bytesToString (P := Try.prog) w a 0 cap [] hl
      rw [h2] at h1
      exact h1
  · exact run_convert_bytes_arg w 31 5 Try.underlying31 Try.underlying5 g off l.length cap (l.map fun b : Nat => (b : Int)) (by simp) (fun i hi => by rw [hc i hi]; simp [byt, hi]) 9 Try.underlying9
theorem reads_strN {w : World} {ao : Option Addr} {l : List Nat} {m : Nat} (h : Reads w ao l) (hm : l.length = m) (cap : Nat) : ∀ q, Sem.run Try.prog (convert 31 9 (.slice ao m cap)) (w.drewN q) = .ok (.string (bstr l)) (w.drewN q) := by
  subst hm
  intro q
  exact reads_str (h.keep ((Kept.refl [] w).drewN q)) cap

set_option maxHeartbeats 2000000 in
set_option maxRecDepth 1000000 in
theorem same_any (ao bo : Option Addr) (ca cb n : Nat) (L : List (List Nat)) (w : World) (hL : MR w ao L) (hK : MR w bo L) (hl : L.length = n) (hn : n ≤ 140737488355328) :
    Calls Try.prog 11 #[.slice ao n ca, .slice bo n cb] w fun e w' => e = .returned (.bool true) ∧ ∃ q, w' = w.drewN q := by
  have HL := Hid.mk hL
  have HK := Hid.mk hK
  have Hl := Hid.mk hl
  clear hL hK hl
  go_enter Try.func11, Try.ntmps11
  go_wp2
  go_loopw [5] (fun s wr => ∃ k : Nat, k ≤ n ∧ s = .int .i64 (k : Int) ∧ Qt w wr) (fun i _ => n - (intOf i).toNat)
  case atStart => exact ⟨0, by omega, rfl, Qt.refl w⟩
  case round =>
    obtain ⟨k, hk, rfl, hq⟩ := hrel
    by_cases hlt : k < n
    · obtain ⟨g1, o1, b1, c1, h1, e1, r1⟩ := (HL.out.keep (hq.kept [])).at (i := k) (by have := Hl.out; omega)
      obtain ⟨g2, o2, b2, c2, h2, e2, r2⟩ := (HK.out.keep (hq.kept [])).at (i := k) (by have := Hl.out; omega)
      have s1 := reads_strN r1 rfl c1
      have s2 := reads_strN r2 rfl c2
      obtain ⟨m, em⟩ : ∃ m, m = (L.getD k []).length := ⟨_, rfl⟩
      obtain ⟨t, et⟩ : ∃ t, t = bstr (L.getD k []) := ⟨_, rfl⟩
      rw [← em] at e1 e2 s1 s2
      rw [← et] at s1 s2
      have Hq := Hid.mk hq
      clear hq em et r1 r2
      subst h1 h2
      have ix : (k : Int) < (n : Int) := by omega
      go_wp2
      go_quiet (fail)
      go_wp2
      go_roundw
      case rel => exact ⟨k + 1, by omega, by go_num, Hq.out.drewN _⟩
      case measure => simp [intOf]; omega
    · obtain rfl : k = n := by omega
      have Hq := Hid.mk hq
      clear hq
      go_wp2
      go_ret
      exact ⟨rfl, Hq.out⟩
end Go.Proofs.Ytjnmnkheichflab

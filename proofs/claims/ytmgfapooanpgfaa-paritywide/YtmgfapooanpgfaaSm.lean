import Derived.Test.YtmgfapooanpgfaaG1
namespace Go.Proofs.Ytmgfapooanpgfaa
open Go.RowKit

/-- The text that bytes are. -/
def bstr (l : List Nat) : ByteArray := strOfNums (l.map fun b : Nat => (b : Int))
theorem reads_str {w : World} {ao : Option Addr} {l : List Nat} (h : Reads w ao l) (cap : Nat) : Sem.run Try.prog (convert 40 9 (.slice ao l.length cap)) w = .ok (.string (bstr l)) w := by
  rcases h with rfl | ⟨g, off, rfl, hc⟩
  · rcases ao with _ | a
    · exact run_convert_bytes_nil w 40 5 Try.underlying40 Try.underlying5 0 cap 9 Try.underlying9
    · have hl : (loadCells a 0).run Try.prog w = .ok #[] w := by simpa using run_loadCells_list (P := Try.prog) w a [] (by simp)
      have h1 := run_convert_bytes_string (P := Try.prog) w 40 9 5 (some a) 0 cap Try.underlying40 Try.underlying5 Try.underlying9
      have h2 := run_bytesToString (P := Try.prog) w a 0 cap [] hl
      rw [h2] at h1
      exact h1
  · exact run_convert_bytes_arg w 40 5 Try.underlying40 Try.underlying5 g off l.length cap (l.map fun b : Nat => (b : Int)) (by simp) (fun i hi => by rw [hc i hi]; simp [byt, hi]) 9 Try.underlying9
theorem reads_strN {w : World} {ao : Option Addr} {l : List Nat} {m : Nat} (h : Reads w ao l) (hm : l.length = m) (cap : Nat) : ∀ q, Sem.run Try.prog (convert 40 9 (.slice ao m cap)) (w.drewN q) = .ok (.string (bstr l)) (w.drewN q) := by
  subst hm
  intro q
  exact reads_str (h.keep ((Kept.refl [] w).drewN q)) cap

end Go.Proofs.Ytmgfapooanpgfaa

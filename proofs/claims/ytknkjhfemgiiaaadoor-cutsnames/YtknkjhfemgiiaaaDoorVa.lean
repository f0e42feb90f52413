import Derived.Test.YtknkjhfemgiiaaaDoorLd
import Derived.Test.YtknkjhfemgiiaaaDoorUe
namespace Go.Proofs.YtknkjhfemgiiaaaDoor
open Go.RowKit Go.Lib

def plE (er : Option (Int × Int)) (first out : Int) : Option (Int × Int) := match er with
  | none => none
  | some x => some (if x.2 = 194 then out else first, x.2)
def PlP (er : Option (Int × Int)) (w : World) (e : Ending) (w' : World) : Prop := ∃ v, e = .returned v ∧ Ev w' v er ∧ Kept [] w w'
set_option maxHeartbeats 4000000 in
set_option maxRecDepth 1000000 in
theorem placed_any (v : Value) (er : Option (Int × Int)) (first out : Int) (w : World) (hg : Et w) (he : Ee w v er) : Calls Tryd.prog 17 #[v, .int .i64 first, .int .i64 out] w fun e w' => PlP (plE er first out) w e w' := by
  obtain ⟨w1, e1⟩ : ∃ w1, w.alloc (.cells #[.pointer none] 80 (0, 0)) = w1 := ⟨_, rfl⟩
  have k1 : Kept [] w w1 := by rw [← e1]; exact alloc_kept _ _
  have b1 := heap_alloc_new w (.cells #[.pointer none] 80 (0, 0))
  rw [e1] at b1
  cases er with
  | none =>
    obtain rfl : v = .nilIface := he
    have K1 := Hid.mk k1
    clear hg b1 k1
    go_enter Tryd.func17, Tryd.ntmps17
    go_wp2
    go_ret
    exact ⟨_, rfl, rfl, K1.out⟩
  | some x =>
    obtain ⟨i, E⟩ := x
    obtain ⟨Q, rfl, hq⟩ := he
    have hQ : Q < w.heap.size := lt_of_block hq
    have HG : Hid (Et w1) := Hid.mk (hg.keep k1)
    have hq1 := k1.heap hq (by simp)
    have CA := Hid.mk (as_fault Q w.heap.size w1 HG.out b1)
    have HQ := Hid.mk hq1
    have K1 := Hid.mk k1
    have HP : Hid (∀ (u : World) (p : Int), Kept [] w u → plE (some (i, E)) first out = some (p, E) → PlP (plE (some (i, E)) first out) w (.returned (.iface 45 (.pointer (some ⟨u.heap.size, 0, none⟩)))) (u.alloc (.cells #[.int .i64 p, .int .i64 E] 48 (0, 0)))) := Hid.mk (fun u p hu hp => by
      rw [hp]
      exact ⟨_, rfl, ⟨_, rfl, heap_alloc_new _ _⟩, hu.alloc _⟩)
    obtain ⟨PP, ePP⟩ : ∃ PP, plE (some (i, E)) first out = PP := ⟨_, rfl⟩
    have EP := Hid.mk ePP
    rw [ePP] at HP ⊢
    clear hg hq hq1 k1 b1 ePP
    by_cases hE : E = 194
    · subst hE
      go_enter Tryd.func17, Tryd.ntmps17
      go_wp2_with (fail)
      refine CA.out.mono ?_
      rintro e w2 ⟨rfl, k2, b2⟩
      have hq2 := k2.heap HQ.out (by simp; omega)
      have c00 : w2.cell? ⟨w.heap.size, 0, none⟩ = some (.pointer (some ⟨Q, 0, none⟩)) := by simp [World.cell?, b2]
      have c1 : w2.cell? ⟨Q, 1, none⟩ = some (.int .i64 194) := by simp [World.cell?, hq2]
      have CI := Hid.mk (is_fault Q i 194 w2 hq2)
      have HK := Hid.mk (K1.out.step k2 (fun x hx => .inr (by simp at hx; omega)))
      clear k2 b2 hq2 CA HQ HG
      go_wp2_with (go_at_call 38; refine CI.out.mono ?_; rintro e w3 ⟨rfl, rfl⟩)
      go_ret
      exact HP.out _ out HK.out (by rw [← EP.out]; rfl)
    · have HE : Hid (plE (some (i, E)) first out = some (first, E)) := Hid.mk (by simp [plE, hE])
      go_enter Tryd.func17, Tryd.ntmps17
      go_wp2_with (fail)
      refine CA.out.mono ?_
      rintro e w2 ⟨rfl, k2, b2⟩
      have hq2 := k2.heap HQ.out (by simp; omega)
      have c00 : w2.cell? ⟨w.heap.size, 0, none⟩ = some (.pointer (some ⟨Q, 0, none⟩)) := by simp [World.cell?, b2]
      have c1 : w2.cell? ⟨Q, 1, none⟩ = some (.int .i64 E) := by simp [World.cell?, hq2]
      have CI := Hid.mk (is_other Q i E 194 w2 hq2 hE)
      have HK := Hid.mk (K1.out.step k2 (fun x hx => .inr (by simp at hx; omega)))
      clear k2 b2 hq2 CA HQ HG
      go_wp2_with (go_at_call 38; refine CI.out.mono ?_; rintro e w3 ⟨rfl, rfl⟩)
      go_ret
      exact HP.out _ first HK.out (by rw [← EP.out]; exact HE.out)
end Go.Proofs.YtknkjhfemgiiaaaDoor

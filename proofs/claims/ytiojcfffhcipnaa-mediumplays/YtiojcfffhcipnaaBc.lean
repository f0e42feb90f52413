import Derived.Test.YtiojcfffhcipnaaBb
namespace Go.Proofs.Ytiojcfffhcipnaa
open Go.RowKit

/-- One element of two cells put behind a row of such, however long it is; where it lies then. -/
theorem app2w (w : World) (t ty e by_ : Nat) (z : Value) (hu : Try.prog.underlying t = some (.slice e)) (hinf : (Try.prog.info? e).map (fun i => (i.zero, i.size, i.bytes)) = some (some z, 2, by_)) (hz : z.cells.size = 2) (hby : by_ ≤ 32) (v : Value) (n : Nat) (xs : List Value) (ho : w.ownsRow 0 e 2 v n xs) (y0 y1 : Value) (h0 : y0.oneCell' = true) (h1 : y1.oneCell' = true) (hn : n ≤ 7000000000000) :
    ∃ bo c w', Sem.run Try.prog (Builtin.append_ #[t, t] ty #[v, .slice (some ⟨w.heap.size, 0, none⟩) 1 1]) (w.alloc (.cells #[y0, y1] e)) = .ok (.slice bo (n + 1) c) w' ∧ w'.ownsRow 0 e 2 (.slice bo (n + 1) c) (n + 1) (xs ++ [y0, y1]) ∧ Kept v.ownBlock.toList w w' ∧ Lies w v (.slice bo (n + 1) c) := by
  obtain ⟨i0, hi, hz0, hz1, hz2⟩ := info_parts hinf
  obtain ⟨u, eu⟩ : ∃ u, w.alloc (.cells #[y0, y1] e) = u := ⟨_, rfl⟩
  have k0 : Kept [] w u := eu ▸ (Kept.refl [] w).alloc _
  have hus : u.heap.size = w.heap.size + 1 := by rw [← eu]; exact World.size_alloc _ _
  have hb : u.heap[w.heap.size]? = some (.cells #[y0, y1] e) := eu ▸ heap_alloc_new _ _
  rw [eu]
  have hnews : ∀ j x, [y0, y1][j]? = some x → u.cell? ((⟨w.heap.size, 0, none⟩ : Addr).add j) = some x := fun j x hj => by
    match j, hj with
    | 0, hj => simp at hj; subst hj; rw [addN]; unfold World.cell?; rw [hb]; rfl
    | 1, hj => simp at hj; subst hj; rw [addN]; unfold World.cell?; rw [hb]; rfl
    | j + 2, hj => simp at hj
  have hone : ∀ x ∈ [y0, y1], x.oneCell' = true := fun x hx => by simp at hx; rcases hx with rfl | rfl <;> assumption
  have hou := k0.row ho (by simp)
  have hfit : ((n + 1) + (n + 1) / 4 + 192) * by_ ≤ 281474976710656 := Nat.le_trans (Nat.mul_le_mul_left _ hby) (by omega)
  obtain ⟨v', u', hrun, h2, h3, -⟩ := run_append_own_wide (P := Try.prog) u 0 t ty e i0 z 2 by_ hu hi hz0 hz1 hz2 hz (by decide) v n xs hou ⟨w.heap.size, 0, none⟩ 1 1 [y0, y1] rfl hnews hone (by unfold maxLen; omega) hfit (Nat.zero_le _)
  obtain ⟨bo, c, ev, -, -, -, -⟩ := row_form2 h2
  subst ev
  refine ⟨bo, c, u', hrun, h2, (k0.mono (by simp)).trans (Kept.of_grown h3), ?_⟩
  rcases hou.2 with ⟨rfl, rfl⟩ | ⟨g, cap, cur, rfl, -, hg, hnc, hcm, hcs, htake⟩
  · obtain ⟨v2, u2, hr2, -, -, -, h5⟩ := run_append_own_at (P := Try.prog) u 0 t ty e i0 z 2 by_ hu hi hz0 hz1 hz2 hz (by decide) (.slice none 0 0) 0 xs hou ⟨w.heap.size, 0, none⟩ 1 1 [y0, y1] rfl hnews hone (by unfold maxLen; omega) (Nat.le_trans (Nat.mul_le_mul_left _ hby) (by omega)) (Nat.zero_le _)
    rw [hrun] at hr2
    simp only [Result.ok.injEq] at hr2
    obtain ⟨rfl, -⟩ := hr2
    rcases h5 with h | h
    · exact .inl h
    · exact .inr ⟨_, h, by omega⟩
  · by_cases hroom : n + 1 ≤ cap
    · have hr2 := run_append_room (P := Try.prog) u t ty e i0 hu hi g n cap cur hg ⟨w.heap.size, 0, none⟩ 1 1 [y0, y1] (by rw [hz1]; rfl) hnews hone hroom (by rw [hz1, hcs]; simp; omega)
      rw [hrun] at hr2
      simp only [Result.ok.injEq] at hr2
      obtain ⟨e9, -⟩ := hr2
      rw [e9]
      exact .inl rfl
    · have hr2 := run_append_grow (P := Try.prog) u t ty e i0 z hu hi hz0 ⟨g, 0, none⟩ n cap xs (by rw [hz1]; exact hou.1) (hou.cells (g := g) rfl) ⟨w.heap.size, 0, none⟩ 1 1 [y0, y1] (by rw [hz1]; rfl) hnews (by omega) (by omega) (growslice_fits_wide (by omega) (by rw [hz2]; exact hfit))
      rw [hrun] at hr2
      simp only [Result.ok.injEq] at hr2
      obtain ⟨e9, -⟩ := hr2
      rw [e9]
      exact .inr ⟨u.heap.size, rfl, by omega⟩
theorem Try.info94 : (Try.prog.info? 94).map (fun i => (i.zero, i.size, i.bytes)) = some (some (.agg #[.slice none 0 0, .int .u8 0]), 2, 32) := by kernel_rfl
theorem Try.info96 : (Try.prog.info? 96).map (fun i => (i.zero, i.size, i.bytes)) = some (some (.agg #[.slice none 0 0, .int .i64 0]), 2, 32) := by kernel_rfl
end Go.Proofs.Ytiojcfffhcipnaa

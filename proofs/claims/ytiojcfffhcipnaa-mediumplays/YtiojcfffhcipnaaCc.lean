import Derived.Test.YtiojcfffhcipnaaCb
import Derived.Test.YtiojcfffhcipnaaBe
namespace Go.Proofs.Ytiojcfffhcipnaa
open Go.RowKit

/-- What own leaves of a Book. -/
def OwnB (w : World) (b : Bk) (e : Ending) (w' : World) : Prop :=
  e = .returned (.bool true) ∧ ∃ b' : Bk, b'.A = b.A ∧ BkAt w' b' ∧ BkOk b' ∧ (b'.n = b.n + b.p ∧ b'.p = 0 ∧ b'.q = b.q + b.r ∧ b'.r = 0) ∧ (∀ z ∈ b'.F, z ∈ b.F ∨ w.heap.size ≤ z) ∧ Kept b.F w w'

theorem Apt.owned {w : World} {n p : Nat} {f fo F : Nat → Hd} {k u : Value} (h : Apt n p f fo k u) (hk : ∀ x ∈ vb k, x < w.heap.size) (hu : ∀ x ∈ vb u, x < w.heap.size) (h1 : ∀ j, j < n → F j = f j) (h2 : ∀ j, j < p → ∀ x ∈ blk (F (n + j)), x ∈ blk (fo j) ∨ w.heap.size ≤ x) : Apt (n + p) 0 F fo k u := by
  refine ⟨fun i j hi => absurd hi (by omega), fun i j hi => absurd hi (by omega), fun i hi => absurd hi (by omega), fun j hj x hx => ?_, h.e3⟩
  by_cases e : j < n
  · rw [h1 j e] at hx; exact h.e2 j e x hx
  · obtain ⟨i, rfl⟩ : ∃ i, j = n + i := ⟨j - n, by omega⟩
    rcases h2 i (by omega) x hx with h3 | h3
    · exact h.e1 i (by omega) x h3
    · exact ⟨fun hm => by have := hk x hm; omega, fun hm => by have := hu x hm; omega⟩

theorem own_bk {w : World} {b : Bk} (h : BkAt w b) (ok : BkOk b) (hn : b.n + b.p ≤ 6000000000000) (hq : b.q + b.r ≤ 6000000000000) : Calls Try.prog 12 #[.pointer (some ⟨b.A, 0, none⟩)] w (OwnB w b) := by
  obtain ⟨lo, lc, el, -, -, -, -⟩ := row_form2 h.hH.own
  obtain ⟨so, sc, es, -, -, -, -⟩ := row_form2 h.hS.own
  obtain ⟨oo, oc, eo, -, -, -, -⟩ := row_form2 h.hO
  obtain ⟨tO, tc, et, -, -, -, -⟩ := row_form2 h.hT
  have hbx := h.bx
  rw [el, es, eo, et] at hbx
  refine (own_any w b.A lo so oo tO b.n lc b.q sc b.p oc b.r tc b.k b.u b.ks b.us b.f b.g b.fo b.ft hbx (by rw [← el]; exact h.hH) (by rw [← es]; exact h.hS) (by rw [← eo]; exact h.hO) h.hOr h.ap.d1 h.ap.d2 (by rw [← et]; exact h.hT) h.hTr h.as_.d1 h.as_.d2 ok.hn ok.hp ok.hq ok.hr ok.lo ok.lt ok.lf ok.lg).mono ?_
  rintro e w' ⟨rfl, l', s', F, G, bx, hH, hS, li, ls, hk, f1, f2, g1, g2⟩
  rw [← el] at li hk
  rw [← es] at ls hk
  have hk2 : Kept b.F w w' := hk.mono (fun x hx => .inl (vb_mem (by
    simp only [List.mem_cons, List.mem_append] at hx
    rcases hx with h | ((h | h) | h) | h
    · simp [h]
    · have h' : x ∈ vb b.l := h; simp [h']
    · simp [h]
    · have h' : x ∈ vb b.s := h; simp [h']
    · simp [h])))
  have far : ∀ {e z m : Nat} {V : Value} {xs : List Value}, w.ownsRow 0 e z V m xs → e ≠ 32 → e ≠ 94 → e ≠ 96 → (∀ x ∈ vb V, x ∉ blks b.fo b.p ∧ x ∉ blks b.ft b.r) → w'.ownsRow 0 e z V m xs := fun hr h1 h2 h3 h4 => hk.row hr (fun g hg hm => by
    simp only [List.mem_cons, List.mem_append] at hm
    rcases hm with rfl | ((hm | hm) | hm) | hm
    · exact own_ty h.bx (fun q => h1 q.symm) hr (by simp [hg])
    · exact own_two hr h.hH.own h2 g hg hm
    · exact (h4 g (by simp [vb, hg])).1 hm
    · exact own_two hr h.hS.own h3 g hg hm
    · exact (h4 g (by simp [vb, hg])).2 hm)
  have nB : ∀ {m : Nat} {V : Value} {xs : List Value}, w.ownsRow 0 5 1 V m xs → ∀ x ∈ vb V, x ∉ blks b.ft b.r := fun hr x hx hm => by
    obtain ⟨i, hi, hb⟩ := blks_mem.1 hm
    obtain ⟨ys, hy⟩ := h.hTr i hi
    exact own_two hr hy (by decide) x (by simpa [vb] using hx) hb
  have nS : ∀ {m : Nat} {V : Value} {xs : List Value}, w.ownsRow 0 63 2 V m xs → ∀ x ∈ vb V, x ∉ blks b.fo b.p := fun hr x hx hm => by
    obtain ⟨i, hi, hb⟩ := blks_mem.1 hm
    obtain ⟨ys, hy⟩ := h.hOr i hi
    exact own_two hr hy (by decide) x (by simpa [vb] using hx) hb
  have oB : ∀ x, x ∈ vb b.k ∨ x ∈ vb b.u → x ∉ blks b.fo b.p := fun x hx hm => by
    obtain ⟨i, hi, hb⟩ := blks_mem.1 hm
    have := h.ap.e1 i hi x hb
    rcases hx with hx | hx
    · exact this.1 hx
    · exact this.2 hx
  have oS : ∀ x, x ∈ vb b.ks ∨ x ∈ vb b.us → x ∉ blks b.ft b.r := fun x hx hm => by
    obtain ⟨i, hi, hb⟩ := blks_mem.1 hm
    have := h.as_.e1 i hi x hb
    rcases hx with hx | hx
    · exact this.1 hx
    · exact this.2 hx
  refine ⟨rfl, { b with l := l', s := s', o := .slice none 0 0, t := .slice none 0 0, n := b.n + b.p, p := 0, q := b.q + b.r, r := 0, f := F, g := G }, rfl, ⟨bx, hH, hS, own_nil _ _ _ _, fun i hi => absurd hi (by show ¬ i < 0; omega), own_nil _ _ _ _, fun i hi => absurd hi (by show ¬ i < 0; omega), far h.hk (by decide) (by decide) (by decide) (fun x hx => ⟨oB x (.inl hx), nB h.hk x hx⟩), far h.hu (by decide) (by decide) (by decide) (fun x hx => ⟨oB x (.inr hx), nB h.hu x hx⟩), far h.hks (by decide) (by decide) (by decide) (fun x hx => ⟨nS h.hks x hx, oS x (.inl hx)⟩), far h.hus (by decide) (by decide) (by decide) (fun x hx => ⟨nS h.hus x hx, oS x (.inr hx)⟩), h.ap.owned (w := w) (fun x hx => own_lt h.hk x hx) (fun x hx => own_lt h.hu x hx) f1 (fun j hj => (f2 j hj).1), h.as_.owned (w := w) (fun x hx => own_lt h.hks x hx) (fun x hx => own_lt h.hus x hx) g1 (fun j hj => (g2 j hj).1)⟩, ⟨hn, by show 0 ≤ 8; omega, hq, by show 0 ≤ 8; omega, fun i hi => ?_, fun i hi => ?_, fun i hi => absurd hi (by show ¬ i < 0; omega), fun i hi => absurd hi (by show ¬ i < 0; omega), ok.kb, ok.kl⟩, ⟨rfl, rfl, rfl, rfl⟩, fun z hz => ?_, hk2⟩
  · have hi : i < b.n + b.p := hi
    show (F i).l ≤ _
    by_cases e : i < b.n
    · rw [f1 i e]; exact ok.lf i e
    · obtain ⟨j, rfl⟩ : ∃ j, i = b.n + j := ⟨i - b.n, by omega⟩
      rw [(f2 j (by omega)).2]
      have := ok.lo j (by omega)
      omega
  · have hi : i < b.q + b.r := hi
    show (G i).l ≤ _
    by_cases e : i < b.q
    · rw [g1 i e]; exact ok.lg i e
    · obtain ⟨j, rfl⟩ : ∃ j, i = b.q + j := ⟨i - b.q, by omega⟩
      rw [(g2 j (by omega)).2]
      have := ok.lt j (by omega)
      omega
  · simp only [Bk.F, List.mem_cons, List.mem_append, blks_mem] at hz
    have hn0 : vb (.slice none 0 0) = [] := rfl
    rcases hz with rfl | ((((((((((( hz | hz ) | hz ) | hz ) | hz ) | hz ) | hz ) | hz ) | ⟨i, hi, hz⟩ ) | ⟨i, hi, hz⟩ ) | ⟨i, hi, hz⟩ ) | ⟨i, hi, hz⟩ )
    · exact .inl (vb_mem (by simp))
    · rcases Lies.mem li z hz with q | q
      · have q' : z ∈ vb b.l := q; exact .inl (vb_mem (by simp [q']))
      · exact .inr q
    · rcases Lies.mem ls z hz with q | q
      · have q' : z ∈ vb b.s := q; exact .inl (vb_mem (by simp [q']))
      · exact .inr q
    · rw [hn0] at hz; simp at hz
    · rw [hn0] at hz; simp at hz
    · exact .inl (vb_mem (by simp [hz]))
    · exact .inl (vb_mem (by simp [hz]))
    · exact .inl (vb_mem (by simp [hz]))
    · exact .inl (vb_mem (by simp [hz]))
    · by_cases e : i < b.n
      · rw [f1 i e] at hz; have := mem_blks e hz; exact .inl (vb_mem (by simp [this]))
      · obtain ⟨j, rfl⟩ : ∃ j, i = b.n + j := ⟨i - b.n, by omega⟩
        rcases (f2 j (by omega)).1 z hz with q | q
        · have := mem_blks (n := b.p) (by omega) q; exact .inl (vb_mem (by simp [this]))
        · exact .inr q
    · by_cases e : i < b.q
      · rw [g1 i e] at hz; have := mem_blks e hz; exact .inl (vb_mem (by simp [this]))
      · obtain ⟨j, rfl⟩ : ∃ j, i = b.q + j := ⟨i - b.q, by omega⟩
        rcases (g2 j (by omega)).1 z hz with q | q
        · have := mem_blks (n := b.r) (by omega) q; exact .inl (vb_mem (by simp [this]))
        · exact .inr q
    · omega
    · omega
end Go.Proofs.Ytiojcfffhcipnaa

import Derived.Test.YtiojcfffhcipnaaEa
namespace Go.Proofs.Ytiojcfffhcipnaa
open Go.RowKit

/-- A medium of the program's changes. -/
theorem StA.stepP {W w w' : World} {a : Sta} (h : SepI W w a.Dm a.R) {c : Nat} (hc : c < a.C) {V' L' : Value} {s' : Md} {ks : List Nat} (hk : Kept ks w w') (hks : ∀ x ∈ ks, x ∈ foot (a.P c) (a.V c) (a.L c) ∨ w.heap.size ≤ x) (hm : Med w' (a.P c) V' L' s' 0) (hV : ∀ x ∈ V'.ownBlock.toList, x ∈ (a.V c).ownBlock.toList ∨ w.heap.size ≤ x) (hL : ∀ x ∈ L'.ownBlock.toList, x ∈ (a.L c).ownBlock.toList ∨ w.heap.size ≤ x) : SepI W w' (a.setP c V' L' s').Dm (a.setP c V' L' s').R := by
  rw [Sta.setP_R]
  refine SepI.step (r := medR (a.P c) V' L' s') h (0, c) hc hk hks hm (fun x hx => ?_)
  have hx : x ∈ foot (a.P c) V' L' := hx
  show x ∈ foot (a.P c) (a.V c) (a.L c) ∨ _
  simp only [foot, List.mem_cons, List.mem_append] at hx ⊢
  rcases hx with h1 | h1 | h1
  · exact .inl (.inl h1)
  · rcases hV x h1 with h2 | h2
    · exact .inl (.inr (.inl h2))
    · exact .inr h2
  · rcases hL x h1 with h2 | h2
    · exact .inl (.inr (.inr h2))
    · exact .inr h2
theorem StA.stepD {W w w' : World} {a : Sta} (h : SepI W w a.Dm a.R) {c : Nat} (hc : c < a.C) {V' L' : Value} {s' : Md} {ks : List Nat} (hk : Kept ks w w') (hks : ∀ x ∈ ks, x ∈ foot (a.D c) (a.U c) (a.M c) ∨ w.heap.size ≤ x) (hm : Rmd w' (a.D c) V' L' s') (hV : ∀ x ∈ V'.ownBlock.toList, x ∈ (a.U c).ownBlock.toList ∨ w.heap.size ≤ x) (hL : ∀ x ∈ L'.ownBlock.toList, x ∈ (a.M c).ownBlock.toList ∨ w.heap.size ≤ x) : SepI W w' (a.setD c V' L' s').Dm (a.setD c V' L' s').R := by
  rw [Sta.setD_R]
  refine SepI.step (r := docR (a.D c) V' L' s') h (1, c) hc hk hks hm (fun x hx => ?_)
  have hx : x ∈ foot (a.D c) V' L' := hx
  show x ∈ foot (a.D c) (a.U c) (a.M c) ∨ _
  simp only [foot, List.mem_cons, List.mem_append] at hx ⊢
  rcases hx with h1 | h1 | h1
  · exact .inl (.inl h1)
  · rcases hV x h1 with h2 | h2
    · exact .inl (.inr (.inl h2))
    · exact .inr h2
  · rcases hL x h1 with h2 | h2
    · exact .inl (.inr (.inr h2))
    · exact .inr h2
/-- The Book changes; it may take what is no one's. -/
theorem StA.stepB {W w w' : World} {a : Sta} (h : SepI W w a.Dm a.R) {b' : Bk} {ks : List Nat} (hk : Kept ks w w') (hks : ∀ x ∈ ks, x ∈ a.b.F ∨ w.heap.size ≤ x) (hb : BkAt w' b') (hF : ∀ x ∈ b'.F, x ∈ a.b.F ∨ w.heap.size ≤ x ∨ (W.heap.size ≤ x ∧ ∀ j, a.Dm j → x ∉ (a.R j).F)) : SepI W w' ({ a with b := b' } : Sta).Dm ({ a with b := b' } : Sta).R := by
  have := SepI.stepF (r := bkR b') h (5, 0) rfl hk hks hb hF
  refine this.congr (fun i hi => hi) (fun i hi => ?_)
  rw [Sta.setB_R]
  obtain ⟨k, j⟩ := i
  by_cases e : k = 5
  · subst e
    have hj : j = 0 := hi
    subst hj
    rw [updI_at]
    rfl
  · rw [if_neg e, updI_far _ _ _ _ (fun q => e (by cases q; rfl))]

/-- A list of bytes in memory that is new to w is in none of the things, a medium of the program's having changed since. -/
theorem fresh_P {W w w' : World} {a : Sta} (h : SepI W w a.Dm a.R) {c : Nat} {V' L' : Value} {s' : Md} (hm : Med w' (a.P c) V' L' s' 0) (hc : c < a.C) (hV : V' = a.V c) {X : Value} {l : List Value} {n : Nat} (hx : w'.ownsRow w.heap.size 5 1 X n l) : ∀ j, a.Dm j → ∀ z ∈ vb X, z ∉ ((a.setP c V' L' s').R j).F := by
  intro j hj z hz hm2
  have hn := own_new hx z hz
  rw [Sta.setP_R] at hm2
  by_cases e : j = (0, c)
  · subst e
    rw [updI_at] at hm2
    have hm2 : z ∈ foot (a.P c) V' L' := hm2
    simp only [foot, List.mem_cons, List.mem_append] at hm2
    have h0 := (a.R (0, c)).lt (x := z) (h.P (0, c) hc)
    rcases hm2 with q | q | q
    · have := h0 (show z ∈ foot (a.P c) (a.V c) (a.L c) by rw [q]; simp [foot]); omega
    · rw [hV] at q
      have := h0 (show z ∈ foot (a.P c) (a.V c) (a.L c) by simp only [foot, List.mem_cons, List.mem_append]; exact .inr (.inl q)); omega
    · exact own_two (own_zero hx) hm.log (by decide) z (by simpa [vb] using hz) q
  · rw [updI_far _ _ _ _ e] at hm2
    have := (a.R j).lt (h.P j hj) hm2
    omega
theorem fresh_D {W w w' : World} {a : Sta} (h : SepI W w a.Dm a.R) {c : Nat} {V' L' : Value} {s' : Md} (hm : Rmd w' (a.D c) V' L' s') (hc : c < a.C) (hV : V' = a.U c) {X : Value} {l : List Value} {n : Nat} (hx : w'.ownsRow w.heap.size 5 1 X n l) : ∀ j, a.Dm j → ∀ z ∈ vb X, z ∉ ((a.setD c V' L' s').R j).F := by
  intro j hj z hz hm2
  have hn := own_new hx z hz
  rw [Sta.setD_R] at hm2
  by_cases e : j = (1, c)
  · subst e
    rw [updI_at] at hm2
    have hm2 : z ∈ foot (a.D c) V' L' := hm2
    simp only [foot, List.mem_cons, List.mem_append] at hm2
    have h0 := (a.R (1, c)).lt (x := z) (h.P (1, c) hc)
    rcases hm2 with q | q | q
    · have := h0 (show z ∈ foot (a.D c) (a.U c) (a.M c) by rw [q]; simp [foot]); omega
    · rw [hV] at q
      have := h0 (show z ∈ foot (a.D c) (a.U c) (a.M c) by simp only [foot, List.mem_cons, List.mem_append]; exact .inr (.inl q)); omega
    · exact own_two (own_zero hx) hm.log (by decide) z (by simpa [vb] using hz) q
  · rw [updI_far _ _ _ _ e] at hm2
    have := (a.R j).lt (h.P j hj) hm2
    omega

/-- The pair's box. -/
theorem pair_cells {W w : World} {a : Sta} (h : SepI W w a.Dm a.R) {i : Nat} (hi : i < 2) : w.cell? ⟨a.X i, 0, none⟩ = some (.pointer (some ⟨a.P (a.mu i), 0, none⟩)) ∧ w.cell? ⟨a.X i, 1, none⟩ = some (.pointer (some ⟨a.D (a.mu i), 0, none⟩)) ∧ w.cell? ⟨a.X i, 2, none⟩ = some (a.S i) ∧ w.cell? ⟨a.X i, 3, none⟩ = some (a.T i) := by
  have hb : w.heap[a.X i]? = some (.cells #[.pointer (some ⟨a.P (a.mu i), 0, none⟩), .pointer (some ⟨a.D (a.mu i), 0, none⟩), a.S i, a.T i] 41 (0, 0)) := h.P (2, i) hi
  refine ⟨?_, ?_, ?_, ?_⟩ <;> simp [World.cell?, hb]
/-- What has not changed. -/
structure Same (a a' : Sta) : Prop where
  C : a'.C = a.C
  P : a'.P = a.P
  D : a'.D = a.D
  X : a'.X = a.X
  mu : a'.mu = a.mu
  A : a'.b.A = a.b.A
  S : a'.S = a.S
  T : a'.T = a.T
  n : a'.n = a.n
  rp : a'.rp = a.rp
  dp : a'.dp = a.dp
  pi : a'.pi = a.pi
  pa : a'.pa = a.pa
  pl : a'.pl = a.pl
  ne : a'.ne = a.ne
  e : a'.e = a.e
theorem Same.trans {a b c : Sta} (h : Same a b) (k : Same b c) : Same a c := ⟨k.C.trans h.C, k.P.trans h.P, k.D.trans h.D, k.X.trans h.X, k.mu.trans h.mu, k.A.trans h.A, k.S.trans h.S, k.T.trans h.T, k.n.trans h.n, k.rp.trans h.rp, k.dp.trans h.dp, k.pi.trans h.pi, k.pa.trans h.pa, k.pl.trans h.pl, k.ne.trans h.ne, k.e.trans h.e⟩

/-- A medium read on both sides. -/
def Sta.rd (a : Sta) (c : Nat) (L M : Value) (pa pl x n : Int) : Sta := (a.setP c (a.V c) L (rdS (a.s c) pa pl x n)).setD c (a.U c) M (rdS (a.t c) pa pl x n)
theorem Sta.rd_same (a : Sta) (c : Nat) (L M : Value) (pa pl x n : Int) : Same a (a.rd c L M pa pl x n) := ⟨rfl, rfl, rfl, rfl, rfl, rfl, rfl, rfl, rfl, rfl, rfl, rfl, rfl, rfl, rfl, rfl⟩
theorem rdS_b {s : Md} {pa pl a n : Int} : (rdS s pa pl a n).b = s.b := by unfold rdS; split <;> (try split) <;> rfl
theorem Sta.Ok.rd {a : Sta} {k z : Nat} (h : a.Ok k z) (c : Nat) (hc : c < a.C) (L M : Value) (pa pl x n : Int) (hk : k + 1 ≤ 2600000000000) : (a.rd c L M pa pl x n).Ok (k + 1) z := by
  have es : ∀ d, (a.rd c L M pa pl x n).s d = if d = c then rdS (a.s c) pa pl x n else a.s d := fun d => by simp [Sta.rd, Sta.setP, Sta.setD, updI]
  have et : ∀ d, (a.rd c L M pa pl x n).t d = if d = c then rdS (a.t c) pa pl x n else a.t d := fun d => by simp [Sta.rd, Sta.setP, Sta.setD, updI]
  refine ⟨fun d hd => ?_, fun d hd => ?_, fun d hd => ?_, fun d hd => ?_, fun d hd => ?_, h.mu, h.pi, fun i hi => by have := h.pn i hi; show a.n i ≤ k + 1; omega, h.bok, ⟨by have := h.bn.1; show a.b.n + a.b.p ≤ 2 * (k + 1); omega, by have := h.bn.2; show a.b.q + a.b.r ≤ 2 * (k + 1); omega⟩, h.z, hk⟩
  · rw [es, et]
    by_cases e : d = c
    · rw [if_pos e, if_pos e]; exact ((h.alk c hc).read pa pl x n).2.2
    · rw [if_neg e, if_neg e]; exact h.alk d hd
  · rw [es]
    by_cases e : d = c
    · rw [if_pos e]; exact rdS_ok (h.mok c hc)
    · rw [if_neg e]; exact h.mok d hd
  · rw [et]
    by_cases e : d = c
    · rw [if_pos e]; exact rdS_ok (h.mokt c hc)
    · rw [if_neg e]; exact h.mokt d hd
  · rw [es]
    by_cases e : d = c
    · rw [if_pos e, rdS_b]; exact h.len c hc
    · rw [if_neg e]; exact h.len d hd
  · rw [es]
    by_cases e : d = c
    · rw [if_pos e]; have := rdS_g (s := a.s c) (pa := pa) (pl := pl) (a := x) (n := n); have := h.log c hc; omega
    · rw [if_neg e]; have := h.log d hd; omega

/-- Both have been read: what came out is no one's. -/
theorem both_read {W w w1 w2 : World} {a : Sta} (h : SepI W w a.Dm a.R) {c : Nat} (hc : c < a.C) {L' M' x y : Value} {pa pl t n : Int} {l : List Nat}
    (hx : w1.ownsRow w.heap.size 5 1 x l.length (l.map byt)) (hm : Med w1 (a.P c) (a.V c) L' (rdS (a.s c) pa pl t n) 0) (hk : Kept (a.P c :: (a.L c).ownBlock.toList) w w1) (hl : Lies w (a.L c) L')
    (hy : w2.ownsRow w1.heap.size 5 1 y l.length (l.map byt)) (hd : Rmd w2 (a.D c) (a.U c) M' (rdS (a.t c) pa pl t n)) (hk2 : Kept (a.D c :: (a.M c).ownBlock.toList) w1 w2) (hl2 : Lies w1 (a.M c) M') :
    SepI W w2 (a.rd c L' M' pa pl t n).Dm (a.rd c L' M' pa pl t n).R ∧ w2.ownsRow 0 5 1 x l.length (l.map byt) ∧ w2.ownsRow 0 5 1 y l.length (l.map byt) ∧ (∀ z, z ∈ vb x ∨ z ∈ vb y → W.heap.size ≤ z ∧ ∀ j, (a.rd c L' M' pa pl t n).Dm j → z ∉ ((a.rd c L' M' pa pl t n).R j).F) ∧ (∀ z ∈ vb x, z ∉ vb y) := by
  have h1 := StA.stepP h hc hk (fun z hz => .inl (inL _ _ _ z hz)) hm (fun z hz => .inl hz) hl.mem
  have f1 := fresh_P h (c := c) (L' := L') hm hc rfl hx
  have h2 : SepI W w2 (a.rd c L' M' pa pl t n).Dm (a.rd c L' M' pa pl t n).R := StA.stepD h1 (c := c) hc hk2 (fun z hz => .inl (inL _ _ _ z hz)) hd (fun z hz => .inl hz) hl2.mem
  have f2 := fresh_D h1 (c := c) (L' := M') hd hc rfl hy
  have sx : ∀ z ∈ vb x, z < w1.heap.size := fun z hz => own_lt hx z hz
  have nx : ∀ z ∈ vb x, w.heap.size ≤ z := fun z hz => own_new hx z hz
  have ny : ∀ z ∈ vb y, w1.heap.size ≤ z := fun z hz => own_new hy z hz
  have s1 := hk.size
  have s0 := h.old.size
  have fx : ∀ j, a.Dm j → ∀ z ∈ vb x, z ∉ ((a.rd c L' M' pa pl t n).R j).F := fun j hj z hz hm2 => by
    have hm3 : z ∈ (((a.setP c (a.V c) L' (rdS (a.s c) pa pl t n)).setD c (a.U c) M' (rdS (a.t c) pa pl t n)).R j).F := hm2
    rw [Sta.setD_R] at hm3
    by_cases e : j = (1, c)
    · subst e
      rw [updI_at] at hm3
      have hm3 : z ∈ foot (a.D c) (a.U c) M' := hm3
      have g0 : ∀ b ∈ foot (a.D c) (a.U c) (a.M c), z ≠ b := fun b hb e => f1 (1, c) hc z hz (by subst e; exact hb)
      simp only [foot, List.mem_cons, List.mem_append] at hm3
      rcases hm3 with q | q | q
      · exact g0 _ (by simp [foot]) q
      · exact g0 z (by simp only [foot, List.mem_cons, List.mem_append]; exact .inr (.inl q)) rfl
      · rcases hl2.mem z q with q | q
        · exact g0 z (by simp only [foot, List.mem_cons, List.mem_append]; exact .inr (.inr q)) rfl
        · have := sx z hz; omega
    · rw [updI_far _ _ _ _ e] at hm3
      exact f1 j hj z hz hm3
  refine ⟨h2, hk2.row (own_zero hx) (fun g hg hm2 => ?_), own_zero hy, fun z hz => ?_, fun z hz hm2 => ?_⟩
  · exact f1 (1, c) hc g (by simp [vb, hg]) (inL _ _ _ g hm2)
  · rcases hz with hz | hz
    · exact ⟨by have := nx z hz; omega, fun j hj => fx j hj z hz⟩
    · exact ⟨by have := ny z hz; omega, fun j hj => f2 j hj z hz⟩
  · have := sx z hz
    have := ny z hm2
    omega
end Go.Proofs.Ytiojcfffhcipnaa

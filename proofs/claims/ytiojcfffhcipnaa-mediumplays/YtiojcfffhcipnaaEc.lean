import Derived.Test.YtiojcfffhcipnaaEb
import Derived.Test.YtiojcfffhcipnaaOo
namespace Go.Proofs.Ytiojcfffhcipnaa
open Go.RowKit

theorem F_mem {b : Bk} {x : Nat} (h : x ∈ b.F) : x = b.A ∨ x ∈ vb b.l ∨ x ∈ vb b.s ∨ x ∈ vb b.o ∨ x ∈ vb b.t ∨ x ∈ vb b.k ∨ x ∈ vb b.u ∨ x ∈ vb b.ks ∨ x ∈ vb b.us ∨ x ∈ blks b.f b.n ∨ x ∈ blks b.g b.q ∨ x ∈ blks b.fo b.p ∨ x ∈ blks b.ft b.r := by
  simp only [Bk.F, List.mem_cons, List.mem_append] at h
  rcases h with h | ((((((((((( h | h ) | h ) | h ) | h ) | h ) | h ) | h ) | h ) | h ) | h ) | h ) <;> simp [h]
theorem held_F {w : World} {b : Bk} {o' x y : Value} {K : Hd} {l : List Nat} (hK : sl K = b.k) (li : Lies w b.o o') : ∀ z ∈ ({ b with o := o', p := b.p + 1, fo := snc b.fo b.p K, k := x, u := y, kb := l } : Bk).F, z ∈ b.F ∨ w.heap.size ≤ z ∨ z ∈ vb x ∨ z ∈ vb y := fun z hz => by
  rcases F_mem hz with h | h | h | h | h | h | h | h | h | h | h | h | h
  · exact .inl (vb_mem (.inl h))
  · exact .inl (vb_mem (by have h : z ∈ vb b.l := h; simp [h]))
  · exact .inl (vb_mem (by have h : z ∈ vb b.s := h; simp [h]))
  · rcases li.mem z h with q | q
    · exact .inl (vb_mem (by have q : z ∈ vb b.o := q; simp [q]))
    · exact .inr (.inl q)
  · exact .inl (vb_mem (by have h : z ∈ vb b.t := h; simp [h]))
  · exact .inr (.inr (.inl h))
  · exact .inr (.inr (.inr h))
  · exact .inl (vb_mem (by have h : z ∈ vb b.ks := h; simp [h]))
  · exact .inl (vb_mem (by have h : z ∈ vb b.us := h; simp [h]))
  · exact .inl (vb_mem (by have h : z ∈ blks b.f b.n := h; simp [h]))
  · exact .inl (vb_mem (by have h : z ∈ blks b.g b.q := h; simp [h]))
  · rcases blks_snc h with q | q
    · exact .inl (vb_mem (by simp [q]))
    · exact .inl (vb_mem (by have q : z ∈ vb b.k := by rw [← hK]; exact q
                             simp [q]))
  · exact .inl (vb_mem (by have h : z ∈ blks b.ft b.r := h; simp [h]))

/-- What was read on both sides is held. -/
theorem both_held {W w : World} {a : Sta} {k z : Nat} (h : SepI W w a.Dm a.R) (ok : a.Ok (k + 1) z) (hp : a.b.p < 8) (hb : a.b.n + a.b.p + 1 ≤ 2 * (k + 1)) {x y : Value} {l : List Nat} (hl : l.length ≤ 268435456) (hx : w.ownsRow 0 5 1 x l.length (l.map byt)) (hy : w.ownsRow 0 5 1 y l.length (l.map byt)) (hf : ∀ c, c ∈ vb x ∨ c ∈ vb y → W.heap.size ≤ c ∧ ∀ j, a.Dm j → c ∉ (a.R j).F) (hxy : ∀ c ∈ vb x, c ∉ vb y) :
    Calls Try.prog 41 #[.pointer (some ⟨a.b.A, 0, none⟩), x, y] w fun e w' => e = .returned (.bool true) ∧ ∃ a', Same a a' ∧ a'.b.p = a.b.p + 1 ∧ a'.b.r = a.b.r ∧ StA W w' a' (k + 1) z ∧ w'.ownsRow 0 5 1 x l.length (l.map byt) ∧ w'.ownsRow 0 5 1 y l.length (l.map byt) := by
  have hB : BkAt w a.b := h.P (5, 0) rfl
  refine (held_bk hB ok.bok hp x y l hl hx hy (fun c hc => (hf c hc).2 (5, 0) rfl) hxy).mono ?_
  rintro e w' ⟨o', K, rfl, hK, hb', ok', hk, li⟩
  refine ⟨rfl, ({ a with b := { a.b with o := o', p := a.b.p + 1, fo := snc a.b.fo a.b.p K, k := x, u := y, kb := l } } : Sta), ⟨rfl, rfl, rfl, rfl, rfl, rfl, rfl, rfl, rfl, rfl, rfl, rfl, rfl, rfl, rfl, rfl⟩, rfl, rfl, ⟨StA.stepB h hk (fun c hc => .inl ?_) hb' (fun c hc => ?_), ⟨ok.alk, ok.mok, ok.mokt, ok.len, ok.log, ok.mu, ok.pi, ok.pn, ok', ⟨?_, ok.bn.2⟩, ok.z, ok.k⟩⟩, hb'.hk, hb'.hu⟩
  · simp only [List.mem_cons] at hc
    rcases hc with rfl | hc
    · exact vb_mem (by simp)
    · exact vb_mem (by simp [hc])
  · rcases held_F hK li c hc with q | q | q | q
    · exact .inl q
    · exact .inr (.inl q)
    · exact .inr (.inr (hf c (.inl q)))
    · exact .inr (.inr (hf c (.inr q)))
  · show a.b.n + (a.b.p + 1) ≤ 2 * (k + 1)
    omega

/-- An op's cells, in its box. -/
def opb (w : World) (B : Nat) (q : Stp) : Prop := w.heap[B]? = some (.cells #[.int .i64 q.kd, .int .i64 q.n, .int .i64 q.m, .bool q.two, .slice q.ao q.mm q.cp] 43 (0, 0))
theorem opb.cells {w : World} {B : Nat} {q : Stp} (h : opb w B q) : w.cell? ⟨B, 0, none⟩ = some (.int .i64 q.kd) ∧ w.cell? ⟨B, 1, none⟩ = some (.int .i64 q.n) ∧ w.cell? ⟨B, 2, none⟩ = some (.int .i64 q.m) ∧ w.cell? ⟨B, 4, none⟩ = some (.slice q.ao q.mm q.cp) := by
  unfold opb at h
  refine ⟨?_, ?_, ?_, ?_⟩ <;> simp [World.cell?, h]
def opv (q : Stp) : Value := .agg #[.int .i64 q.kd, .int .i64 q.n, .int .i64 q.m, .bool q.two, .slice q.ao q.mm q.cp]

/-- What a step that reads leaves. -/
def ReadsP (W : World) (a : Sta) (k z : Nat) (e : Ending) (w' : World) : Prop := e = .returned (.bool true) ∧ ∃ a', Same a a' ∧ a'.b.p ≤ 4 ∧ a'.b.r ≤ 4 ∧ StA W w' a' (k + 1) z

set_option maxHeartbeats 16000000 in
set_option maxRecDepth 1000000 in
theorem reads_read (W w : World) (a : Sta) (k z i : Nat) (q : Stp) (h : StA W w a k z) (hi : i < 2) (hk : k + 1 ≤ 2600000000000) (hp : a.b.p ≤ 2) (hr : a.b.r ≤ 2) (hq : q.n ≤ 9223372036854775807) (kd : q.kd = 1) :
    Calls Try.prog 11 #[.pointer (some ⟨a.X i, 0, none⟩), .pointer (some ⟨a.b.A, 0, none⟩), opv q] w (ReadsP W a k z) := by
  obtain ⟨c, ec⟩ : ∃ c, a.mu i = c := ⟨_, rfl⟩
  have hc : c < a.C := by rw [← ec]; exact h.ok.mu i hi
  obtain ⟨w1, ew1, k1, hb1⟩ := alloc_new w (.cells #[.int .i64 q.kd, .int .i64 q.n, .int .i64 q.m, .bool q.two, .slice q.ao q.mm q.cp] 43 (0, 0))
  have h1 := h.sep.keep k1
  obtain ⟨p0, -, -, -⟩ := pair_cells h1 hi
  rw [ec] at p0
  obtain ⟨o0, o1, o2, -⟩ := opb.cells hb1
  rw [kd] at o0
  have HM : Med w1 (a.P c) (a.V c) (a.L c) (a.s c) 0 := h1.P (0, c) hc
  have HD : Rmd w1 (a.D c) (a.U c) (a.M c) (a.t c) := h1.P (1, c) hc
  have ok := h.ok
  have lz := ok.len c hc
  have lg := ok.log c hc
  have zz := ok.z
  have KX : Hid (∀ (ks : List Nat) (u : World), Kept ks w1 u → (∀ x ∈ ks, ∃ j, a.Dm j ∧ j ≠ (2, i) ∧ x ∈ (a.R j).F) → (u.cell? ⟨a.X i, 0, none⟩ = some (.pointer (some ⟨a.P c, 0, none⟩)) ∧ u.cell? ⟨w.heap.size, 1, none⟩ = some (.int .i64 q.n) ∧ u.cell? ⟨w.heap.size, 2, none⟩ = some (.int .i64 q.m)) ∧ (u.cell? ⟨a.X i, 1, none⟩ = some (.pointer (some ⟨a.D c, 0, none⟩)) ∧ u.cell? ⟨w.heap.size, 1, none⟩ = some (.int .i64 q.n) ∧ u.cell? ⟨w.heap.size, 2, none⟩ = some (.int .i64 q.m))) := Hid.mk (fun ks u hku hks => by
    have hX : u.heap[a.X i]? = some (.cells #[.pointer (some ⟨a.P (a.mu i), 0, none⟩), .pointer (some ⟨a.D (a.mu i), 0, none⟩), a.S i, a.T i] 41 (0, 0)) := hku.heap (h1.P (2, i) hi) (fun hm => by
      obtain ⟨j, hj, hne, hx⟩ := hks _ hm
      exact h.sep.apart (2, i) j hi hj (Ne.symm hne) (a.X i) (by show a.X i ∈ [a.X i]; simp) hx)
    have hO : opb u w.heap.size q := hku.heap hb1 (fun hm => by
      obtain ⟨j, hj, -, hx⟩ := hks _ hm
      exact absurd ((a.R j).lt (h.sep.P j hj) hx) (Nat.lt_irrefl _))
    obtain ⟨-, o1, o2, -⟩ := hO.cells
    rw [ec] at hX
    exact ⟨⟨by simp [World.cell?, hX], o1, o2⟩, by simp [World.cell?, hX], o1, o2⟩)
  have C1 : Hid (Calls Try.prog 20 #[.pointer (some ⟨a.P c, 0, none⟩), .int .i64 q.n, .int .i64 q.m] w1.drew fun e w' => ∃ bo bc L', e = .returned (.tuple #[.slice bo (rdB (a.s c) 0 268435456 q.n q.m).length bc, .int .i64 (rdE (a.s c) 0 268435456 q.n q.m)]) ∧ (w'.cell? ⟨a.X i, 0, none⟩ = some (.pointer (some ⟨a.P c, 0, none⟩)) ∧ w'.cell? ⟨w.heap.size, 1, none⟩ = some (.int .i64 q.n) ∧ w'.cell? ⟨w.heap.size, 2, none⟩ = some (.int .i64 q.m)) ∧ Hid (w'.ownsRow w1.heap.size 5 1 (.slice bo (rdB (a.s c) 0 268435456 q.n q.m).length bc) (rdB (a.s c) 0 268435456 q.n q.m).length ((rdB (a.s c) 0 268435456 q.n q.m).map byt) ∧ Med w' (a.P c) (a.V c) L' (rdS (a.s c) 0 268435456 q.n q.m) 0 ∧ Kept (a.P c :: (a.L c).ownBlock.toList) w1 w' ∧ Lies w1 (a.L c) L')) := Hid.mk (by
    refine (read_any w1.drew _ _ _ _ q.n q.m HM.drew (by omega) (by omega) hq).mono ?_
    rintro e w' ⟨bo, bc, L', rfl, g1, g2, g3, g4⟩
    have g3' : Kept (a.P c :: (a.L c).ownBlock.toList) w1 w' := ((Kept.refl _ w1).drew).trans g3
    exact ⟨bo, bc, L', rfl, (KX.out _ w' g3' (fun x hx => ⟨(0, c), hc, by simp, inL _ _ _ x hx⟩)).1, Hid.mk ⟨g1, g2, g3', g4⟩⟩)
  obtain ⟨Bt, eB⟩ : ∃ Bt, rdB (a.s c) 0 268435456 q.n q.m = Bt := ⟨_, rfl⟩
  obtain ⟨E, eE⟩ : ∃ E, rdE (a.s c) 0 268435456 q.n q.m = E := ⟨_, rfl⟩
  have al := (ok.alk c hc).read 0 268435456 q.n q.m
  have tb : (a.t c).b.length ≤ 268435456 := by rw [(ok.alk c hc).b]; omega
  have rm := rd_med (a.t c) q.n q.m tb
  have et1 : rrE (a.t c) q.n q.m = E := by rw [← rm.1, al.1, eE]
  have et2 : rrB (a.t c) q.n q.m = Bt := by rw [← rm.2.1, al.2.1, eB]
  have et3 : rrS (a.t c) q.n q.m = rdS (a.t c) 0 268435456 q.n q.m := rm.2.2.symm
  rw [eB, eE] at C1
  have lB : Bt.length ≤ 268435456 := by
    rw [← eB]
    have : (rdB (a.s c) 0 268435456 q.n q.m).length ≤ (a.s c).b.length := by
      unfold rdB
      split
      · simp
      · split
        · simp only [List.length_take, List.length_drop]; omega
        · simp
    omega
  have C2 : Hid (∀ w2, Kept (a.P c :: (a.L c).ownBlock.toList) w1 w2 → Calls Try.prog 40 #[.pointer (some ⟨a.D c, 0, none⟩), .int .i64 q.n, .int .i64 q.m] w2.drew fun e w' => ∃ bo bc M', e = .returned (.tuple #[.slice bo Bt.length bc, .int .i64 E]) ∧ (w'.cell? ⟨a.X i, 1, none⟩ = some (.pointer (some ⟨a.D c, 0, none⟩)) ∧ w'.cell? ⟨w.heap.size, 1, none⟩ = some (.int .i64 q.n) ∧ w'.cell? ⟨w.heap.size, 2, none⟩ = some (.int .i64 q.m)) ∧ Hid (w'.ownsRow w2.heap.size 5 1 (.slice bo Bt.length bc) Bt.length (Bt.map byt) ∧ Rmd w' (a.D c) (a.U c) M' (rdS (a.t c) 0 268435456 q.n q.m) ∧ Kept (a.D c :: (a.M c).ownBlock.toList) w2 w' ∧ Lies w2 (a.M c) M')) := Hid.mk (fun w2 k2 => by
    have hd2 : Rmd w2 (a.D c) (a.U c) (a.M c) (a.t c) := HD.kept k2 (fun x hx hm => h.sep.apart (1, c) (0, c) hc hc (by simp) x hx (inL _ _ _ x hm))
    refine (rread_any w2.drew _ _ _ _ q.n q.m hd2.drew tb (by rw [(ok.alk c hc).g]; omega) hq).mono ?_
    rintro e w' ⟨bo, bc, L', he, g1, g2, g3, g4⟩
    rw [et1, et2] at he
    rw [et2] at g1
    rw [et3] at g2
    have g3' : Kept (a.D c :: (a.M c).ownBlock.toList) w2 w' := ((Kept.refl _ w2).drew).trans g3
    have k12 : Kept ((a.P c :: (a.L c).ownBlock.toList) ++ (a.D c :: (a.M c).ownBlock.toList)) w1 w' := (k2.mono (fun x hx => .inl (List.mem_append_left _ hx))).step g3' (fun x hx => .inl (List.mem_append_right _ hx))
    refine ⟨bo, bc, L', he, (KX.out _ w' k12 (fun x hx => ?_)).2, Hid.mk ⟨g1, g2, g3', g4⟩⟩
    rcases List.mem_append.1 hx with hx | hx
    · exact ⟨(0, c), hc, by simp, inL _ _ _ x hx⟩
    · exact ⟨(1, c), hc, by simp, inL _ _ _ x hx⟩)
  have X1 : Hid (∀ u, Kept (a.P c :: (a.L c).ownBlock.toList) w1 u → (u.cell? ⟨a.X i, 1, none⟩ = some (.pointer (some ⟨a.D c, 0, none⟩)) ∧ u.cell? ⟨w.heap.size, 1, none⟩ = some (.int .i64 q.n) ∧ u.cell? ⟨w.heap.size, 2, none⟩ = some (.int .i64 q.m))) := Hid.mk (fun u hu => (KX.out _ u hu (fun x hx => ⟨(0, c), hc, by simp, inL _ _ _ x hx⟩)).2)
  have HH := Hid.mk (And.intro h (And.intro h1 (And.intro hc ok)))
  have LB := Hid.mk lB
  clear h h1 HM HD ok lz lg zz KX eB eE al tb rm et1 et2 et3 lB
  unfold opv
  rw [kd] at ew1 ⊢
  clear kd
  go_enter Try.func11, Try.ntmps11
  go_wp2_with (fail)
  go_region_held_law (fun u => (u.cell? ⟨a.X i, 0, none⟩ = some (.pointer (some ⟨a.P c, 0, none⟩)) ∧ u.cell? ⟨w.heap.size, 1, none⟩ = some (.int .i64 q.n) ∧ u.cell? ⟨w.heap.size, 2, none⟩ = some (.int .i64 q.m))) (first | exact ⟨p0, o1, o2⟩ | exact y0 | go_keep) (first | (go_at_call 20; with_reducible refine C1.out.mono ?_; rintro e w2 ⟨xo, xc, L', rfl, y0, R2⟩))
  all_goals focus
    have D2 := Hid.mk (C2.out w2 R2.out.2.2.1)
    have z0 := X1.out w2 R2.out.2.2.1
    clear C1 C2 X1 y0 p0 o0 o1 o2
    obtain ⟨z0, z1, z2⟩ := z0
    go_wp2_with (fail)
    go_region_held_law (fun u => (u.cell? ⟨a.X i, 1, none⟩ = some (.pointer (some ⟨a.D c, 0, none⟩)) ∧ u.cell? ⟨w.heap.size, 1, none⟩ = some (.int .i64 q.n) ∧ u.cell? ⟨w.heap.size, 2, none⟩ = some (.int .i64 q.m))) (first | exact ⟨z0, z1, z2⟩ | exact y0 | go_keep) (first | (go_at_call 40; with_reducible refine D2.out.mono ?_; rintro e w3 ⟨yo, yc, M', rfl, y0, R3⟩))
    all_goals focus
      have BR := both_read HH.out.2.1 HH.out.2.2.1 (x := .slice xo Bt.length xc) (y := .slice yo Bt.length yc) R2.out.1 R2.out.2.1 R2.out.2.2.1 R2.out.2.2.2 R3.out.1 R3.out.2.1 R3.out.2.2.1 R3.out.2.2.2
      have C3 := Hid.mk (both_held BR.1 (HH.out.2.2.2.rd c HH.out.2.2.1 L' M' 0 268435456 q.n q.m hk) (by show a.b.p < 8; omega) (by have := HH.out.2.2.2.bn.1; show a.b.n + a.b.p + 1 ≤ 2 * (k + 1); omega) LB.out BR.2.1 BR.2.2.1 BR.2.2.2.1 BR.2.2.2.2)
      have eA : (a.rd c L' M' 0 268435456 q.n q.m).b.A = a.b.A := rfl
      rw [eA] at C3
      clear BR R2 R3 y0 z0 z1 z2 D2 eA
      go_wp2_with (fail)
      with_reducible refine C3.out.mono ?_
      rintro e w4 ⟨rfl, a', sm, hp', hr', st, rx, ry⟩
      have cv1 := reads_str (reads_row rx) xc
      have cv2 := reads_str (reads_row ry) yc
      have FN := Hid.mk (And.intro sm (And.intro hp' (And.intro hr' st)))
      clear C3 sm hp' hr' st rx ry
      go_wp2
      go_ret
      refine ⟨by simp, a', (Sta.rd_same a c L' M' 0 268435456 q.n q.m).trans FN.out.1, ?_, ?_, FN.out.2.2.2⟩
      · have : a'.b.p = a.b.p + 1 := FN.out.2.1
        omega
      · have : a'.b.r = a.b.r := FN.out.2.2.1
        omega
end Go.Proofs.Ytiojcfffhcipnaa

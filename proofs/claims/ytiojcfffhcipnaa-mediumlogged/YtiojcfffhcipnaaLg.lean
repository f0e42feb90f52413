import Derived.Test.YtiojcfffhcipnaaMj
import Derived.Handy
namespace Go.Proofs.Ytiojcfffhcipnaa
open Go.RowKit
open Go.MuLone

/-- What is asked. -/
structure Ask where
  a : Int
  n : Int
  p : Bool
abbrev b64 (a : Int) : Prop := -9223372036854775808 ≤ a ∧ a ≤ 9223372036854775807
structure Ask.At (w : World) (b o : Nat) (q : Ask) : Prop where
  c0 : w.cell? ⟨b, o, none⟩ = some (.int .i64 q.a)
  c1 : w.cell? ⟨b, o + 1, none⟩ = some (.int .i64 q.n)
  c2 : w.cell? ⟨b, o + 2, none⟩ = some (.bool q.p)
theorem cell_keep {w w' : World} {ks : List Nat} {a : Addr} {v : Value} (hk : Kept ks w w') (h : w.cell? a = some v) (hn : a.block ∉ ks) : w'.cell? a = some v :=
  (World.cell?_of_block (hk.block _ (World.block_lt_of_cell? w _ h) hn)).trans h
theorem Ask.At.keep {w w' : World} {b o : Nat} {q : Ask} (h : Ask.At w b o q) (hk : Kept [] w w') : Ask.At w' b o q :=
  ⟨cell_keep hk h.c0 (by simp), cell_keep hk h.c1 (by simp), cell_keep hk h.c2 (by simp)⟩
/-- Asks that came in. -/
structure Asks (w : World) (sa : Option Addr) (N : Nat) (f : Nat → Ask) : Prop where
  len : N ≤ 5864062014634
  ok : ∀ i, i < N → b64 (f i).a ∧ b64 (f i).n
  lies : 0 < N → ∃ b off, sa = some ⟨b, off, none⟩ ∧ ∀ i, i < N → Ask.At w b (off + i * 3) (f i)

/-- A medium, a piece of it, and a list of spans that is another's. -/
structure Lg (W w : World) (P R : Nat) (V L X : Value) (s : Md) (G : List (Int × Int)) (pa pl : Int) : Prop where
  med : Med w P V L s 0
  fr : Fr W.heap.size P V L
  xo : w.ownsRow 0 63 2 X G.length (spc G)
  xn : ∀ x ∈ X.ownBlock.toList, W.heap.size ≤ x ∧ x ∉ foot P V L
  pc : Pc w R P pa pl
  old : Kept [] W w
section
variable {W w w' : World} {P R : Nat} {V L L' X X' : Value} {s s' : Md} {G G' : List (Int × Int)} {pa pl : Int}
theorem Lg.rd (h : Lg W w P R V L X s G pa pl) (hm : Med w' P V L' s' 0) (hk : Kept (P :: L.ownBlock.toList) w w') (hl : Lies w L L') : Lg W w' P R V L' X s' G pa pl := by
  have hin := inL P V L
  refine ⟨hm, h.fr.l hl h.old.size, hk.row h.xo (fun g hg hx => (h.xn g (by simp [hg])).2 (hin _ hx)), fun x hx => ⟨(h.xn x hx).1, fun hf => ?_⟩, h.pc.kept hk (fun hx => foot_ne h.med h.pc (by decide) (by decide) (by decide) (hin _ hx)), h.fr.step h.old hk hin⟩
  have hlt := own_lt h.xo x hx
  have h2 := (h.xn x hx).2
  simp only [foot, List.mem_cons, List.mem_append, not_or] at hf h2
  rcases hf with hf | hf | hf
  · exact h2.1 hf
  · exact h2.2.1 hf
  · rcases hl.mem x hf with h3 | h3
    · exact h2.2.2 h3
    · omega
theorem Lg.same (h : Lg W w P R V L X s G pa pl) (hm : Med w' P V L s' 0) (hk : Kept [P] w w') : Lg W w' P R V L X s' G pa pl := h.rd hm (hk.at (by simp)) (Lies.refl _ _)
theorem Lg.keep (h : Lg W w P R V L X s G pa pl) (hk : Kept [] w w') : Lg W w' P R V L X s G pa pl := h.same (h.med.keep hk) (hk.mono (by simp))
theorem Lg.app (h : Lg W w P R V L X s G pa pl) (hk : Kept X.ownBlock.toList w w') (ho : w'.ownsRow 0 63 2 X' G'.length (spc G')) (hl : Lies w X X') : Lg W w' P R V L X' s G' pa pl := by
  have hF : ∀ x ∈ foot P V L, x ∉ X.ownBlock.toList := fun x hx hm => (h.xn x hm).2 hx
  refine ⟨h.med.kept hk hF, h.fr, ho, fun x hx => ?_, h.pc.kept hk (own_ty h.pc (by decide) h.xo), h.old.step hk (fun x hx => .inr (h.xn x hx).1)⟩
  rcases hl.mem x hx with h3 | h3
  · exact h.xn x h3
  · refine ⟨Nat.le_trans h.old.size h3, fun hf => ?_⟩
    simp only [foot, List.mem_cons, List.mem_append] at hf
    rcases hf with hf | hf | hf
    · have := (Array.getElem?_eq_some_iff.1 h.med.box).1; omega
    · have := own_lt h.med.row x hf; omega
    · have := own_lt h.med.log x hf; omega
end

theorem rd_piece (b : List Nat) (g : List (Int × Int)) (lf kp : Int) (h a n : Int) (h0 : 0 ≤ h) :
    rdE ⟨b, g, false, lf, kp⟩ h ((b.length : Int) - h) a n = (if inB a n ((b.length : Int) - h) then 0 else 151) ∧ rdS ⟨b, g, false, lf, kp⟩ h ((b.length : Int) - h) a n = (if inB a n ((b.length : Int) - h) then ⟨b, g ++ [(h + a, n)], false, lf, kp⟩ else ⟨b, g, false, lf, kp⟩) := by
  by_cases hi : inB a n ((b.length : Int) - h) = true
  · have hj : inB (h + a) n (b.length : Int) = true := by simp only [inB, decide_eq_true_eq] at hi ⊢; omega
    simp [rdE, rdS, hi, hj]
  · simp [rdE, rdS, hi]
theorem rd_whole (b : List Nat) (g : List (Int × Int)) (lf kp : Int) (a n : Int) (hb : b.length ≤ 268435456) :
    rdE ⟨b, g, false, lf, kp⟩ 0 268435456 a n = (if inB a n (b.length : Int) then 0 else 151) ∧ rdS ⟨b, g, false, lf, kp⟩ 0 268435456 a n = (if inB a n (b.length : Int) then ⟨b, g ++ [(a, n)], false, lf, kp⟩ else ⟨b, g, false, lf, kp⟩) := by
  by_cases hi : inB a n (b.length : Int) = true
  · have hj : inB a n 268435456 = true := by simp only [inB, decide_eq_true_eq] at hi ⊢; omega
    have hk : inB (0 + a) n (b.length : Int) = true := by rw [Int.zero_add]; exact hi
    simp only [rdE, rdS, hi, hj, hk]
    simp
  · have hk : inB (0 + a) n (b.length : Int) = false := by rw [Int.zero_add]; simpa using hi
    simp only [rdE, rdS, hi, hk]
    simp

set_option maxHeartbeats 64000000 in
set_option maxRecDepth 1000000 in
theorem logged_any (so : Option Addr) (m c : Nat) (lb : List Nat) (sa : Option Addr) (N cap : Nat) (f : Nat → Ask) (w : World) (hr : Reads w so lb) (hb : Byts lb) (hm : lb.length = m) (hc : so = none → c = 0) (hA : Asks w sa N f) :
    Calls Try.prog 6 #[.slice so m c, .slice sa N cap] w fun e w' => e = .returned (.bool true) ∧ Kept [] w w' := by
  have HR := Hid.mk hr
  have HA := Hid.mk hA
  have HB := Hid.mk hb
  clear hr hA hb
  by_cases hbig : 268435456 < m
  · have q1 : (268435456 : Int) < (m : Int) := by omega
    clear hbig
    go_enter Try.func6, Try.ntmps6
    go_wp2_with (fail)
    refine (shown_any w).mono ?_
    rintro e w1 ⟨rfl, k1⟩
    have K1 := Hid.mk k1
    clear k1
    go_wp2_with (fail)
    refine (load_no so m c w1 (by omega)).mono ?_
    rintro e w2 ⟨rfl, rfl⟩
    go_wp2
    go_ret
    exact ⟨rfl, K1.out⟩
  have q1 : ¬ (268435456 : Int) < (m : Int) := by omega
  obtain ⟨hf, ehf⟩ : ∃ hf : Nat, m / 2 = hf := ⟨_, rfl⟩
  obtain ⟨sz, esz⟩ : ∃ sz : Nat, m - hf = sz := ⟨_, rfl⟩
  have HN : Hid (m ≤ 268435456 ∧ hf ≤ m ∧ m - hf = sz) := Hid.mk (by omega)
  have t1 : (m : Int).tdiv 2 = (hf : Int) := by rw [Int.tdiv_eq_ediv_of_nonneg (by omega)]; omega
  have t2 : wrap64 ((m : Int) - (hf : Int)) = (sz : Int) := by unfold wrap64; omega
  have t3 : wrap64 (hf : Int) = (hf : Int) := by unfold wrap64; omega
  clear hbig ehf esz
  go_enter Try.func6, Try.ntmps6
  go_wp2_with (fail)
  refine (shown_any w).mono ?_
  rintro e w1 ⟨rfl, k1⟩
  have K1 := Hid.mk k1
  clear k1
  go_wp2_with (fail)
  refine (load_ok so m c lb w1 (HR.out.keep K1.out) hm hc HN.out.1).mono ?_
  rintro e w2 ⟨P, V, rfl, h2, k2, f2⟩
  have H2 := Hid.mk h2
  have K2 := Hid.mk (K1.out.trans k2)
  have F2 : Hid (Fr w.heap.size P V (.slice none 0 0)) := Hid.mk (fun x hx => Nat.le_trans K1.out.size (f2 x hx))
  clear h2 k2 f2 HR hc
  go_wp2_with (fail)
  rw [t3]
  clear t3
  refine (piece_any w2 P V _ _ (hf : Int) (sz : Int) H2.out (by simp only [hm]; exact HN.out.1) (by have := HN.out; omega)).mono ?_
  rintro e w3 ⟨h3, k3, hp⟩
  have hin : inB (hf : Int) (sz : Int) (m : Int) = true := by have := HN.out; simp only [inB, decide_eq_true_eq]; omega
  rcases hp with ⟨-, R, rfl, p3, -⟩ | ⟨hx, -⟩
  rotate_left
  · simp only [hm, hin] at hx; cases hx
  clear hin
  have L3 : Hid (Lg w w3 P R V (.slice none 0 0) (.slice none 0 0) ⟨lb, [], false, 0, 0⟩ [] (hf : Int) (sz : Int)) := Hid.mk ⟨h3, F2.out, own_nil _ _ _ _, by simp [Value.ownBlock], p3, F2.out.step K2.out k3 (inP _ _ _)⟩
  clear h3 k3 p3 F2 K2 H2 K1
  go_wp2
  go_loopw [11, 12] (fun x i wr => ∃ (k : Nat) (xo : Option Addr) (xl xc : Nat), k ≤ N ∧ i = .int .i64 (k : Int) ∧ x = .slice xo xl xc ∧ xl ≤ k ∧ ∃ L G, G.length = xl ∧ Hid (Lg w wr P R V L (.slice xo xl xc) ⟨lb, G, false, 0, 0⟩ G (hf : Int) (sz : Int))) (fun _ i _ => N - (intOf i).toNat)
  case atStart => exact ⟨0, none, 0, 0, Nat.zero_le _, rfl, rfl, Nat.le_refl _, _, [], rfl, L3⟩
  case round =>
    obtain ⟨k, xo, xl, xc, hk, rfl, rfl, hxk, L, G, hG, HL⟩ := hrel
    by_cases hlt : k < N
    · have ik : (k : Int) < (N : Int) := by omega
      have hN := HA.out.len
      obtain ⟨bA, off, rfl, hat⟩ := HA.out.lies (by omega)
      obtain ⟨⟨a0, a1⟩, n0, n1⟩ := HA.out.ok k hlt
      have hq := (hat k hlt).keep HL.out.old
      obtain ⟨d0, d1, d2⟩ := hq
      obtain ⟨a, ea⟩ : ∃ a, (f k).a = a := ⟨_, rfl⟩
      obtain ⟨n, en⟩ : ∃ n, (f k).n = n := ⟨_, rfl⟩
      obtain ⟨p, ep⟩ : ∃ p, (f k).p = p := ⟨_, rfl⟩
      rw [ea] at d0 a0 a1
      rw [en] at d1 n0 n1
      rw [ep] at d2
      have HG := Hid.mk (And.intro hG (And.intro hxk (And.intro hN (And.intro a1 (And.intro a0 (And.intro n0 n1))))))
      clear hat ea en ep hG hN a1 a0 n0 n1 hxk
      cases p with
      | true =>
        go_wp2_with (fail)
        refine (pread_any _ R P V L _ (hf : Int) (sz : Int) a n HL.out.pc HL.out.med (by simp only [hm]; exact HN.out.1) (by have := HG.out; simp only; omega) HG.out.2.2.2.1 (by omega) (by have := HN.out; omega) (by omega) (by have := HN.out; omega)).mono ?_
        rintro e w5 ⟨b5, c5, L5, rfl, -, h5, k5, l5⟩
        have hrd := rd_piece lb G 0 0 (hf : Int) a n (by omega)
        rw [show (lb.length : Int) - (hf : Int) = (sz : Int) by have := HN.out; omega] at hrd
        rw [hrd.1]
        rw [hrd.2] at h5
        clear hrd d0 d1 d2
        generalize (rdB ⟨lb, G, false, 0, 0⟩ (hf : Int) (sz : Int) a n).length = r5
        by_cases hi : inB a n (sz : Int) = true
        · simp only [hi, if_true] at h5 ⊢
          have hi' := hi
          simp only [inB, decide_eq_true_eq] at hi'
          obtain ⟨i0, i1, i2⟩ := hi'
          have i3 : a ≤ (sz : Int) := by omega
          have i4 : wrap64 ((sz : Int) - a) = (sz : Int) - a := by have := HN.out; unfold wrap64; omega
          have i5 : wrap64 ((hf : Int) + a) = (hf : Int) + a := by have := HN.out; unfold wrap64; omega
          have LT := Hid.mk (HL.out.rd h5 k5 l5)
          clear h5 k5 l5 hi HL
          obtain ⟨xN, exN⟩ : ∃ w6, w5.alloc (.cells #[.int .i64 ((hf : Int) + a), .int .i64 n] 63 (0, 0)) = w6 := ⟨_, rfl⟩
          have ka : Kept [] w5 xN := exN ▸ (Kept.refl _ _).alloc _
          have hba : xN.heap[w5.heap.size]? = some (.cells #[.int .i64 ((hf : Int) + a), .int .i64 n] 63 (0, 0)) := exN ▸ heap_alloc_new _ _
          have rds : RdS xN (some ⟨w5.heap.size, 0, none⟩) [((hf : Int) + a, n)] := .inr ⟨_, 0, rfl, fun j u hj => by
            obtain ⟨z0, z1⟩ := cells2 hba
            rw [spc_one] at hj
            match j, hj with
            | 0, hj => simp at hj; subst hj; exact z0
            | 1, hj => simp at hj; subst hj; exact z1
            | j + 2, hj => simp at hj⟩
          have LX := LT.out.keep ka
          have xo9 := LX.xo
          rw [HG.out.1] at xo9
          obtain ⟨v', u', hrun, ho, hk9, hL9⟩ := app_sp xN 30 _ _ _ xo9 (some ⟨w5.heap.size, 0, none⟩) 1 1 _ rds rfl (by have := HG.out; omega) (by simp)
          obtain ⟨lz, cz, ez, -, -, -, -⟩ := row_form2 ho
          subst ez
          have HT := Hid.mk (LX.app (X' := .slice lz (xl + 1) cz) (G' := G ++ [((hf : Int) + a, n)]) hk9 (by rw [spc_append, List.length_append, HG.out.1]; exact ho) hL9)
          rw [← exN] at hrun
          clear ka hba rds LX xo9 ho hk9 hL9 exN LT
          go_wp2_with (at_builtin; refine wpList_app_eq' rfl _ _ 30 rfl _ _ _ _ rfl rfl hrun ?_)
          clear hrun i0 i1 i2 i3 i4 i5
          refine (size_any _ P V _ _ HT.out.med).mono ?_
          rintro e w6 ⟨rfl, h6, k6⟩
          have L6 := Hid.mk (HT.out.same h6 k6)
          clear h6 k6
          go_wp2_with (fail)
          refine (dead_any _ P V _ _ L6.out.med).mono ?_
          rintro e w7 ⟨rfl, h7, k7⟩
          have L7 := Hid.mk (L6.out.same h7 k7)
          clear h7 k7
          go_wp2_with (fail)
          refine (psize_any w7 R P _ _ L7.out.pc).mono ?_
          rintro e w8 ⟨rfl, hw8⟩
          obtain rfl := hw8.symm
          go_wp2_with (fail)
          refine (bytes_any w7 P V _ _ L7.out.med (by simp only [hm]; exact HN.out.1)).mono ?_
          rintro e w9 ⟨b9, c9, rfl, -, h9, k9⟩
          have L9 := Hid.mk (L7.out.same h9 k9)
          clear h9 k9
          have hN := HG.out.2.2.1
          go_wp2
          go_roundw
          case rel => exact ⟨k + 1, _, _, _, by omega, by go_num, rfl, by have := HG.out; omega, _, _, by simp; exact HG.out.1, L9⟩
          case measure => simp [intOf]; omega
        · have hi' : inB a n (sz : Int) = false := by simpa using hi
          simp only [hi', if_false, Bool.false_eq_true] at h5 ⊢
          have HT := Hid.mk (HL.out.rd h5 k5 l5)
          clear h5 k5 l5 hi HL
          by_cases j0 : 0 ≤ a
          · by_cases j1 : 0 ≤ n
            · by_cases j2 : a ≤ (sz : Int)
              · have j4 : wrap64 ((sz : Int) - a) = (sz : Int) - a := by have := HN.out; unfold wrap64; omega
                have j5 : ¬ n ≤ (sz : Int) - a := fun h => by simp only [inB, decide_eq_false_iff_not] at hi'; exact hi' ⟨j0, j1, h⟩
                clear hi'
                go_wp2_with (fail)
                refine (size_any _ P V _ _ HT.out.med).mono ?_
                rintro e w6 ⟨rfl, h6, k6⟩
                have L6 := Hid.mk (HT.out.same h6 k6)
                clear h6 k6
                go_wp2_with (fail)
                refine (dead_any _ P V _ _ L6.out.med).mono ?_
                rintro e w7 ⟨rfl, h7, k7⟩
                have L7 := Hid.mk (L6.out.same h7 k7)
                clear h7 k7
                go_wp2_with (fail)
                refine (psize_any w7 R P _ _ L7.out.pc).mono ?_
                rintro e w8 ⟨rfl, hw8⟩
                obtain rfl := hw8.symm
                go_wp2_with (fail)
                refine (bytes_any w7 P V _ _ L7.out.med (by simp only [hm]; exact HN.out.1)).mono ?_
                rintro e w9 ⟨b9, c9, rfl, -, h9, k9⟩
                have L9 := Hid.mk (L7.out.same h9 k9)
                clear h9 k9
                have hN := HG.out.2.2.1
                go_wp2
                go_roundw
                case rel => exact ⟨k + 1, _, _, _, by omega, by go_num, rfl, by have := HG.out; omega, _, _, HG.out.1, L9⟩
                case measure => simp [intOf]; omega
              · clear hi'
                go_wp2_with (fail)
                refine (size_any _ P V _ _ HT.out.med).mono ?_
                rintro e w6 ⟨rfl, h6, k6⟩
                have L6 := Hid.mk (HT.out.same h6 k6)
                clear h6 k6
                go_wp2_with (fail)
                refine (dead_any _ P V _ _ L6.out.med).mono ?_
                rintro e w7 ⟨rfl, h7, k7⟩
                have L7 := Hid.mk (L6.out.same h7 k7)
                clear h7 k7
                go_wp2_with (fail)
                refine (psize_any w7 R P _ _ L7.out.pc).mono ?_
                rintro e w8 ⟨rfl, hw8⟩
                obtain rfl := hw8.symm
                go_wp2_with (fail)
                refine (bytes_any w7 P V _ _ L7.out.med (by simp only [hm]; exact HN.out.1)).mono ?_
                rintro e w9 ⟨b9, c9, rfl, -, h9, k9⟩
                have L9 := Hid.mk (L7.out.same h9 k9)
                clear h9 k9
                have hN := HG.out.2.2.1
                go_wp2
                go_roundw
                case rel => exact ⟨k + 1, _, _, _, by omega, by go_num, rfl, by have := HG.out; omega, _, _, HG.out.1, L9⟩
                case measure => simp [intOf]; omega
            · clear hi'
              go_wp2_with (fail)
              refine (size_any _ P V _ _ HT.out.med).mono ?_
              rintro e w6 ⟨rfl, h6, k6⟩
              have L6 := Hid.mk (HT.out.same h6 k6)
              clear h6 k6
              go_wp2_with (fail)
              refine (dead_any _ P V _ _ L6.out.med).mono ?_
              rintro e w7 ⟨rfl, h7, k7⟩
              have L7 := Hid.mk (L6.out.same h7 k7)
              clear h7 k7
              go_wp2_with (fail)
              refine (psize_any w7 R P _ _ L7.out.pc).mono ?_
              rintro e w8 ⟨rfl, hw8⟩
              obtain rfl := hw8.symm
              go_wp2_with (fail)
              refine (bytes_any w7 P V _ _ L7.out.med (by simp only [hm]; exact HN.out.1)).mono ?_
              rintro e w9 ⟨b9, c9, rfl, -, h9, k9⟩
              have L9 := Hid.mk (L7.out.same h9 k9)
              clear h9 k9
              have hN := HG.out.2.2.1
              go_wp2
              go_roundw
              case rel => exact ⟨k + 1, _, _, _, by omega, by go_num, rfl, by have := HG.out; omega, _, _, HG.out.1, L9⟩
              case measure => simp [intOf]; omega
          · clear hi'
            go_wp2_with (fail)
            refine (size_any _ P V _ _ HT.out.med).mono ?_
            rintro e w6 ⟨rfl, h6, k6⟩
            have L6 := Hid.mk (HT.out.same h6 k6)
            clear h6 k6
            go_wp2_with (fail)
            refine (dead_any _ P V _ _ L6.out.med).mono ?_
            rintro e w7 ⟨rfl, h7, k7⟩
            have L7 := Hid.mk (L6.out.same h7 k7)
            clear h7 k7
            go_wp2_with (fail)
            refine (psize_any w7 R P _ _ L7.out.pc).mono ?_
            rintro e w8 ⟨rfl, hw8⟩
            obtain rfl := hw8.symm
            go_wp2_with (fail)
            refine (bytes_any w7 P V _ _ L7.out.med (by simp only [hm]; exact HN.out.1)).mono ?_
            rintro e w9 ⟨b9, c9, rfl, -, h9, k9⟩
            have L9 := Hid.mk (L7.out.same h9 k9)
            clear h9 k9
            have hN := HG.out.2.2.1
            go_wp2
            go_roundw
            case rel => exact ⟨k + 1, _, _, _, by omega, by go_num, rfl, by have := HG.out; omega, _, _, HG.out.1, L9⟩
            case measure => simp [intOf]; omega
      | false =>
        go_wp2_with (fail)
        refine (read_any _ P V L _ a n HL.out.med (by simp only [hm]; exact HN.out.1) (by have := HG.out; simp only; omega) HG.out.2.2.2.1).mono ?_
        rintro e w5 ⟨b5, c5, L5, rfl, -, h5, k5, l5⟩
        have hrd := rd_whole lb G 0 0 a n (by have := HN.out; omega)
        rw [hm] at hrd
        rw [hrd.1]
        rw [hrd.2] at h5
        clear hrd d0 d1 d2
        generalize (rdB ⟨lb, G, false, 0, 0⟩ 0 268435456 a n).length = r5
        by_cases hi : inB a n (m : Int) = true
        · simp only [hi, if_true] at h5 ⊢
          have hi' := hi
          simp only [inB, decide_eq_true_eq] at hi'
          obtain ⟨i0, i1, i2⟩ := hi'
          have i3 : a ≤ (m : Int) := by omega
          have i4 : wrap64 ((m : Int) - a) = (m : Int) - a := by have := HN.out; unfold wrap64; omega
          have i5 : wrap64 (a) = 0 + a := by have := HN.out; unfold wrap64; omega
          have LT := Hid.mk (HL.out.rd h5 k5 l5)
          clear h5 k5 l5 hi HL
          obtain ⟨xN, exN⟩ : ∃ w6, w5.alloc (.cells #[.int .i64 (a), .int .i64 n] 63 (0, 0)) = w6 := ⟨_, rfl⟩
          have ka : Kept [] w5 xN := exN ▸ (Kept.refl _ _).alloc _
          have hba : xN.heap[w5.heap.size]? = some (.cells #[.int .i64 (a), .int .i64 n] 63 (0, 0)) := exN ▸ heap_alloc_new _ _
          have rds : RdS xN (some ⟨w5.heap.size, 0, none⟩) [(a, n)] := .inr ⟨_, 0, rfl, fun j u hj => by
            obtain ⟨z0, z1⟩ := cells2 hba
            rw [spc_one] at hj
            match j, hj with
            | 0, hj => simp at hj; subst hj; exact z0
            | 1, hj => simp at hj; subst hj; exact z1
            | j + 2, hj => simp at hj⟩
          have LX := LT.out.keep ka
          have xo9 := LX.xo
          rw [HG.out.1] at xo9
          obtain ⟨v', u', hrun, ho, hk9, hL9⟩ := app_sp xN 30 _ _ _ xo9 (some ⟨w5.heap.size, 0, none⟩) 1 1 _ rds rfl (by have := HG.out; omega) (by simp)
          obtain ⟨lz, cz, ez, -, -, -, -⟩ := row_form2 ho
          subst ez
          have HT := Hid.mk (LX.app (X' := .slice lz (xl + 1) cz) (G' := G ++ [(a, n)]) hk9 (by rw [spc_append, List.length_append, HG.out.1]; exact ho) hL9)
          rw [← exN] at hrun
          clear ka hba rds LX xo9 ho hk9 hL9 exN LT
          go_wp2_with (at_builtin; refine wpList_app_eq' rfl _ _ 30 rfl _ _ _ _ rfl rfl hrun ?_)
          clear hrun i0 i1 i2 i3 i4 i5
          refine (size_any _ P V _ _ HT.out.med).mono ?_
          rintro e w6 ⟨rfl, h6, k6⟩
          have L6 := Hid.mk (HT.out.same h6 k6)
          clear h6 k6
          go_wp2_with (fail)
          refine (dead_any _ P V _ _ L6.out.med).mono ?_
          rintro e w7 ⟨rfl, h7, k7⟩
          have L7 := Hid.mk (L6.out.same h7 k7)
          clear h7 k7
          go_wp2_with (fail)
          refine (psize_any w7 R P _ _ L7.out.pc).mono ?_
          rintro e w8 ⟨rfl, hw8⟩
          obtain rfl := hw8.symm
          go_wp2_with (fail)
          refine (bytes_any w7 P V _ _ L7.out.med (by simp only [hm]; exact HN.out.1)).mono ?_
          rintro e w9 ⟨b9, c9, rfl, -, h9, k9⟩
          have L9 := Hid.mk (L7.out.same h9 k9)
          clear h9 k9
          have hN := HG.out.2.2.1
          go_wp2
          go_roundw
          case rel => exact ⟨k + 1, _, _, _, by omega, by go_num, rfl, by have := HG.out; omega, _, _, by simp; exact HG.out.1, L9⟩
          case measure => simp [intOf]; omega
        · have hi' : inB a n (m : Int) = false := by simpa using hi
          simp only [hi', if_false, Bool.false_eq_true] at h5 ⊢
          have HT := Hid.mk (HL.out.rd h5 k5 l5)
          clear h5 k5 l5 hi HL
          by_cases j0 : 0 ≤ a
          · by_cases j1 : 0 ≤ n
            · by_cases j2 : a ≤ (m : Int)
              · have j4 : wrap64 ((m : Int) - a) = (m : Int) - a := by have := HN.out; unfold wrap64; omega
                have j5 : ¬ n ≤ (m : Int) - a := fun h => by simp only [inB, decide_eq_false_iff_not] at hi'; exact hi' ⟨j0, j1, h⟩
                clear hi'
                go_wp2_with (fail)
                refine (size_any _ P V _ _ HT.out.med).mono ?_
                rintro e w6 ⟨rfl, h6, k6⟩
                have L6 := Hid.mk (HT.out.same h6 k6)
                clear h6 k6
                go_wp2_with (fail)
                refine (dead_any _ P V _ _ L6.out.med).mono ?_
                rintro e w7 ⟨rfl, h7, k7⟩
                have L7 := Hid.mk (L6.out.same h7 k7)
                clear h7 k7
                go_wp2_with (fail)
                refine (psize_any w7 R P _ _ L7.out.pc).mono ?_
                rintro e w8 ⟨rfl, hw8⟩
                obtain rfl := hw8.symm
                go_wp2_with (fail)
                refine (bytes_any w7 P V _ _ L7.out.med (by simp only [hm]; exact HN.out.1)).mono ?_
                rintro e w9 ⟨b9, c9, rfl, -, h9, k9⟩
                have L9 := Hid.mk (L7.out.same h9 k9)
                clear h9 k9
                have hN := HG.out.2.2.1
                go_wp2
                go_roundw
                case rel => exact ⟨k + 1, _, _, _, by omega, by go_num, rfl, by have := HG.out; omega, _, _, HG.out.1, L9⟩
                case measure => simp [intOf]; omega
              · clear hi'
                go_wp2_with (fail)
                refine (size_any _ P V _ _ HT.out.med).mono ?_
                rintro e w6 ⟨rfl, h6, k6⟩
                have L6 := Hid.mk (HT.out.same h6 k6)
                clear h6 k6
                go_wp2_with (fail)
                refine (dead_any _ P V _ _ L6.out.med).mono ?_
                rintro e w7 ⟨rfl, h7, k7⟩
                have L7 := Hid.mk (L6.out.same h7 k7)
                clear h7 k7
                go_wp2_with (fail)
                refine (psize_any w7 R P _ _ L7.out.pc).mono ?_
                rintro e w8 ⟨rfl, hw8⟩
                obtain rfl := hw8.symm
                go_wp2_with (fail)
                refine (bytes_any w7 P V _ _ L7.out.med (by simp only [hm]; exact HN.out.1)).mono ?_
                rintro e w9 ⟨b9, c9, rfl, -, h9, k9⟩
                have L9 := Hid.mk (L7.out.same h9 k9)
                clear h9 k9
                have hN := HG.out.2.2.1
                go_wp2
                go_roundw
                case rel => exact ⟨k + 1, _, _, _, by omega, by go_num, rfl, by have := HG.out; omega, _, _, HG.out.1, L9⟩
                case measure => simp [intOf]; omega
            · clear hi'
              go_wp2_with (fail)
              refine (size_any _ P V _ _ HT.out.med).mono ?_
              rintro e w6 ⟨rfl, h6, k6⟩
              have L6 := Hid.mk (HT.out.same h6 k6)
              clear h6 k6
              go_wp2_with (fail)
              refine (dead_any _ P V _ _ L6.out.med).mono ?_
              rintro e w7 ⟨rfl, h7, k7⟩
              have L7 := Hid.mk (L6.out.same h7 k7)
              clear h7 k7
              go_wp2_with (fail)
              refine (psize_any w7 R P _ _ L7.out.pc).mono ?_
              rintro e w8 ⟨rfl, hw8⟩
              obtain rfl := hw8.symm
              go_wp2_with (fail)
              refine (bytes_any w7 P V _ _ L7.out.med (by simp only [hm]; exact HN.out.1)).mono ?_
              rintro e w9 ⟨b9, c9, rfl, -, h9, k9⟩
              have L9 := Hid.mk (L7.out.same h9 k9)
              clear h9 k9
              have hN := HG.out.2.2.1
              go_wp2
              go_roundw
              case rel => exact ⟨k + 1, _, _, _, by omega, by go_num, rfl, by have := HG.out; omega, _, _, HG.out.1, L9⟩
              case measure => simp [intOf]; omega
          · clear hi'
            go_wp2_with (fail)
            refine (size_any _ P V _ _ HT.out.med).mono ?_
            rintro e w6 ⟨rfl, h6, k6⟩
            have L6 := Hid.mk (HT.out.same h6 k6)
            clear h6 k6
            go_wp2_with (fail)
            refine (dead_any _ P V _ _ L6.out.med).mono ?_
            rintro e w7 ⟨rfl, h7, k7⟩
            have L7 := Hid.mk (L6.out.same h7 k7)
            clear h7 k7
            go_wp2_with (fail)
            refine (psize_any w7 R P _ _ L7.out.pc).mono ?_
            rintro e w8 ⟨rfl, hw8⟩
            obtain rfl := hw8.symm
            go_wp2_with (fail)
            refine (bytes_any w7 P V _ _ L7.out.med (by simp only [hm]; exact HN.out.1)).mono ?_
            rintro e w9 ⟨b9, c9, rfl, -, h9, k9⟩
            have L9 := Hid.mk (L7.out.same h9 k9)
            clear h9 k9
            have hN := HG.out.2.2.1
            go_wp2
            go_roundw
            case rel => exact ⟨k + 1, _, _, _, by omega, by go_num, rfl, by have := HG.out; omega, _, _, HG.out.1, L9⟩
            case measure => simp [intOf]; omega
    · obtain rfl : N = k := by omega
      clear hlt hk
      go_wp2_with (fail)
      refine (log_any _ P V L _ HL.out.med (by have := HA.out.len; simp only; omega)).mono ?_
      rintro e w6 ⟨b6, c6, rfl, o6, h6, k6⟩
      have L6 := Hid.mk (HL.out.same h6 k6)
      have O6 := Hid.mk o6
      clear h6 k6 o6
      go_wp2_with (fail)
      have xo6 := L6.out.xo
      simp only [hG] at xo6
      try simp only [hG]
      refine (sameSpans_any b6 xo xl c6 xc _ _ G w6 (by have := O6.out; simp only [hG] at this; exact this) xo6 hG (by have := HA.out.len; omega)).mono ?_
      rintro e w7 ⟨rfl, k7⟩
      have L7 := Hid.mk (L6.out.keep k7)
      clear k7 xo6
      go_wp2_with (fail)
      refine (forget_any w7 P V _ _ L7.out.med).mono ?_
      rintro e w8 ⟨rfl, h8, k8⟩
      have H8 := Hid.mk h8
      have K8 := Hid.mk (L7.out.fr.step L7.out.old k8 (fun x hx => hx))
      have F8 : Hid (Fr w.heap.size P V (.slice none 0 0)) := Hid.mk (fun x hx => L7.out.fr x (by simp [foot, Value.ownBlock] at hx ⊢; rcases hx with h | h <;> simp [h]))
      clear h8 k8
      go_wp2_with (fail)
      refine (log_any w8 P V _ _ H8.out (by simp)).mono ?_
      rintro e w9 ⟨b9, c9, rfl, -, h9, k9⟩
      have K9 := Hid.mk (F8.out.step K8.out k9 (inP _ _ _))
      clear h9 k9
      go_wp2
      go_ret
      exact ⟨rfl, K9.out⟩
end Go.Proofs.Ytiojcfffhcipnaa

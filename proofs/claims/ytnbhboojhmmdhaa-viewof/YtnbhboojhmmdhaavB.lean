import Derived.Test.YtnbhboojhmmdhaavA
import Derived.Laws.BitsAllLaws
import Derived.BigRegion
import Derived.Laws.OwnMore
import Derived.Deep.RegionHeldLaw
namespace Go.Proofs.Ytnbhboojhmmdhaa
open Go.RowKit

/-- A list by its elements. -/
def rgf (f : Nat → Nat) (T : Nat) : List Nat := (List.range T).map f
theorem rgf_len (f : Nat → Nat) (T : Nat) : (rgf f T).length = T := by simp [rgf]
theorem rgf_at (f : Nat → Nat) (T i : Nat) (h : i < T) : (rgf f T)[i]? = some (f i) := by simp [rgf, h]
theorem rgf_getD (f : Nat → Nat) (T i : Nat) (h : i < T) : (rgf f T).getD i 0 = f i := by rw [List.getD_eq_getElem?_getD, rgf_at f T i h]; rfl
theorem rgf_ext {l : List Nat} {f : Nat → Nat} (h : ∀ i, i < l.length → l.getD i 0 = f i) : l = rgf f l.length := by
  apply List.ext_getElem?
  intro i
  by_cases hi : i < l.length
  · rw [rgf_at _ _ _ hi, ← h i hi, List.getD_eq_getElem?_getD, List.getElem?_eq_getElem hi]; rfl
  · rw [List.getElem?_eq_none (by omega), List.getElem?_eq_none (by rw [rgf_len]; omega)]
/-- A row of bytes in the block g. -/
def Rw (w : World) (g : Nat) (f : Nat → Nat) (T : Nat) : Prop := w.heap[g]? = some (.cells ((rgf f T).map byt).toArray 5 (0, 0))
theorem Rw.at {w : World} {g T : Nat} {f : Nat → Nat} (h : Rw w g f T) {i : Nat} (hi : i < T) : w.cell? ⟨g, i, none⟩ = some (.int .u8 (f i : Int)) := by
  have hh : w.heap[g]? = some (.cells ((rgf f T).map byt).toArray 5 (0, 0)) := h
  simp only [World.cell?, hh]
  rw [List.getElem?_toArray, List.getElem?_map, rgf_at f T i hi]
  rfl
theorem Rw.fz {w : World} {g T : Nat} {f : Nat → Nat} (h : Rw w g f T) (i : Nat) : w.frozen? ⟨g, i, none⟩ = false := by
  have hh : w.heap[g]? = some (.cells ((rgf f T).map byt).toArray 5 (0, 0)) := h
  simp [World.frozen?, hh]
theorem Rw.keep {w w' : World} {g T : Nat} {f : Nat → Nat} {ks : List Nat} (h : Rw w g f T) (hk : Kept ks w w') (hn : g ∉ ks) : Rw w' g f T := hk.heap h hn
theorem Rw.set {w : World} {g T : Nat} {f : Nat → Nat} (h : Rw w g f T) (i v : Nat) : Rw (w.setCell ⟨g, i, none⟩ (.int .u8 (v : Int))) g (fun j => if j = i then v else f j) T := by
  unfold Rw
  rw [heap_setCell_at h]
  congr 2
  rw [List.setIfInBounds_toArray]
  congr 1
  apply List.ext_getElem?
  intro j
  rw [List.getElem?_set]
  by_cases hj : j < T
  · rw [List.getElem?_map, List.getElem?_map, rgf_at _ _ _ hj, rgf_at _ _ _ hj]
    by_cases e : i = j
    · subst e; simp [rgf_len, hj, byt]
    · have e' : ¬ j = i := fun q => e q.symm
      simp [e, e']
  · rw [List.getElem?_eq_none (by simp [rgf_len]; omega), List.getElem?_eq_none (by simp [rgf_len]; omega)]
    by_cases e : i = j
    · subst e; simp [rgf_len, hj]
    · simp [e]
theorem Rw.reads {w : World} {g T : Nat} {f : Nat → Nat} (h : Rw w g f T) {m : Nat} (hm : m ≤ T) : Reads w (some ⟨g, 0, none⟩) (rgf f m) :=
  .inr ⟨g, 0, rfl, fun i hi => by
    rw [rgf_len] at hi
    rw [Nat.zero_add, h.at (by omega), rgf_getD f m i hi]; rfl⟩
theorem Rw.of {w : World} {g : Nat} {l : List Nat} (h : w.heap[g]? = some (.cells (l.map byt).toArray 5 (0, 0))) : Rw w g (fun i => l.getD i 0) l.length := by
  unfold Rw
  rw [← rgf_ext (l := l) (f := fun i => l.getD i 0) (fun i _ => rfl)]
  exact h
/-- Numbers that are read. -/
def RdN (w : World) (ao : Option Addr) (f : Nat → Int) (n : Nat) : Prop := n = 0 ∨ ∃ g off, ao = some ⟨g, off, none⟩ ∧ ∀ i, i < n → w.cell? ⟨g, off + i, none⟩ = some (.int .i64 (f i))
theorem RdN.keep {w w' : World} {ao : Option Addr} {f : Nat → Int} {n : Nat} (h : RdN w ao f n) (hk : Kept [] w w') : RdN w' ao f n := by
  rcases h with h | ⟨g, off, e, hc⟩
  · exact .inl h
  · refine .inr ⟨g, off, e, fun i hi => ?_⟩
    have h1 := hc i hi
    have hlt := World.block_lt_of_cell? w _ h1
    exact (World.cell?_of_block (a := ⟨g, off + i, none⟩) (hk.block g hlt (by simp))).trans h1
structure KW (w : World) where
  u : World
  h : Kept [] w u
theorem wp_region_kept {P : Program} {id : Nat} {Q : Exit → Act → World → Prop} {a : Act} {w : World} {l : List Oper} (hm : P.follows .mixedOrders = true) (hB : Region.lexB .any l.toArray = true)
    (h : wpQuiet P l.toArray (fun w' => ∃ p : KW w, w' = p.u) (fun a' => ∀ w', (∃ p : KW w, w' = p.u) → Q .normal a' w') l a) : (Code.region id l.toArray true).wp P Q a w :=
  wp_region_quiet (C := fun w' => ∃ p : KW w, w' = p.u) hm hB ⟨⟨_, (Kept.refl [] w).drew⟩, rfl⟩ (by simpa using h)
theorem cell_kw {w : World} (q : KW w) {a : Addr} {v : Value} (h : w.cell? a = some v) : q.u.cell? a = some v :=
  (World.cell?_of_block (a := a) (q.h.block a.block (World.block_lt_of_cell? w _ h) (by simp))).trans h
theorem reads_str'' {w : World} {ao : Option Addr} {l : List Nat} {m : Nat} (h : Reads w ao l) (hm : l.length = m) (cap : Nat) : Sem.run Try.prog (convert 23 9 (.slice ao m cap)) w = .ok (.string (bstr l)) w := by
  subst hm; exact reads_str h cap
theorem wpList_app8 (B : Nat) (w : World) {ops : Array Oper} {rest : List Oper} {o : Oper} {a : Act} {Q : Exit → Act → World → Prop} (hgd : o.guard = none) (s x : Operand)
    (ho : o.op = .call { callee := .builtin .append, args := #[s, x], argTypes := #[23, 23] })
    (v : Value) (n : Nat) (xs : List Value) (hs : a.eval s = v) (hown : w.ownsRow B 5 1 v n xs) (so : Option Addr) (m c : Nat) (l : List Nat) (hx : a.eval x = .slice so m c) (hr : Reads w so l) (hm : l.length = m) (hc : so = none → c = 0) (hB : B ≤ w.heap.size)
    (hb : n + m ≤ 140737488355328)
    (h : ∀ v' w', w'.ownsRow B 5 1 v' (n + m) (xs ++ l.map byt) → Kept v.ownBlock.toList w w' → Lies w v v' → wpList Try.prog ops Q rest (a.put o.dst v') w') :
    wpList Try.prog ops Q (o :: rest) a w := by
  obtain ⟨i0, hi, hz0, hz1, hz2⟩ := info_parts Try.info5
  cases so with
  | none =>
    have hl : l = [] := by
      rcases hr with h | ⟨g, off, h, _⟩
      · exact h
      · cases h
    subst hl
    obtain rfl : c = 0 := hc rfl
    obtain rfl : m = 0 := hm.symm
    refine wpList_plain hgd fun K hK => ?_
    have hrun := run_append_owned_none (P := Try.prog) (w := w) B 23 o.type 5 i0 1 Try.underlying23 hi v n xs hown
    unfold Oper.wp execOp
    simp only [ho, resolve, invoke, builtin, Sem.run_bind, Sem.run_pure, Result.andThen_ok, List.map_toArray, List.map_cons, List.map_nil, hs, hx, hrun]
    exact hK _ _ (h v w (by simpa using hown) (Kept.refl _ _) (Lies.refl _ _))
  | some ad =>
    refine wpList_append_own_at w hgd s x 23 ho B 5 i0 (.int .u8 0) 1 1 Try.underlying23 hi hz0 hz1 hz2 rfl (by decide) v n xs hs hown ad m c (l.map byt) hx (by simp [hm]) (fun j u hj => ?_) (fun u hu => by simp only [List.mem_map] at hu; obtain ⟨b, _, rfl⟩ := hu; rfl) (by unfold maxLen; omega) (by omega) hB ?_
    · rcases hr with h | ⟨g, off, h, hcc⟩
      · subst h; simp at hj
      · cases h
        rw [List.getElem?_map] at hj
        cases e : l[j]? with
        | none => rw [e] at hj; cases hj
        | some b =>
          rw [e] at hj
          have hj2 : byt b = u := by simpa using hj
          have hlt : j < l.length := by
            rcases Nat.lt_or_ge j l.length with h | h
            · exact h
            · rw [List.getElem?_eq_none h] at e; cases e
          have h1 := hcc j hlt
          rw [List.getD_eq_getElem?_getD, e] at h1
          rw [← hj2]
          by_cases j0 : j = 0
          · subst j0; simpa [Addr.add] using h1
          · simpa [Addr.add, j0] using h1
    intro v' w' h2 h3 _ h5
    refine h v' w' h2 (Kept.of_grown h3) ?_
    rcases h5 with h | h
    · exact .inl h
    · exact .inr ⟨_, h, Nat.le_refl _⟩


theorem own_of {w : World} {g n : Nat} {X : List Nat} (h : w.heap[g]? = some (.cells (X.map byt).toArray 5 (0, 0))) (hX : X.length = n) (hn : n ≤ 140737488355328) : w.ownsRow 0 5 1 (.slice (some ⟨g, 0, none⟩) n n) n (X.map byt) :=
  ⟨by simp [hX], .inr ⟨g, n, _, rfl, Nat.zero_le _, h, Nat.le_refl _, by unfold maxLen; omega, by simp [hX], by rw [Nat.mul_one]; exact List.take_of_length_le (by simp [hX])⟩⟩
theorem nil_ahead (a : Addr) (w : World) : (nilAhead 156 35 (.pointer (some a)) "Read").run Try.prog w = .ok (some false) w := by kernel_rfl
theorem own_rep {w : World} {g n x : Nat} {f : Nat → Nat} (h : Rw w g f n) (hf : ∀ j, j < n → f j = x) (hn : n ≤ 140737488355328) : w.ownsRow 0 5 1 (.slice (some ⟨g, 0, none⟩) n n) n (List.replicate n (byt x)) := by
  have e : rgf f n = List.replicate n x := by
    apply List.ext_getElem?
    intro i
    by_cases hi : i < n
    · rw [rgf_at _ _ _ hi, hf i hi, List.getElem?_replicate, if_pos hi]
    · rw [List.getElem?_eq_none (by rw [rgf_len]; omega), List.getElem?_eq_none (by simp; omega)]
  have h2 := own_of h (rgf_len f n) hn
  rw [e, List.map_replicate] at h2
  exact h2
theorem slice_lh (bo : Option Addr) (m cb a z : Nat) (h1 : a ≤ z) (h2 : z ≤ cb) (u : World) : Sem.run Try.prog (Instr.slice 23 (.slice bo m cb) (some (.int .i64 (a : Int))) (some (.int .i64 (z : Int))) none) u = .ok (.slice (if cb = a then bo else bo.map (fun x => x.add a)) (z - a) (cb - a)) u := by
  have e : (sizeOf (Try.prog.elem 23)).run Try.prog u = .ok 1 u := by kernel_rfl
  rw [run_slice_lh (P := Try.prog) (w := u) 23 bo m cb (by kernel_rfl) .i64 .i64 (a : Int) (z : Int) (by omega) (by omega) (by omega), e]
  simp [sliced]
theorem xor51 (x : Nat) (h : x < 256) : bits BinOp.xor IntKind.u8 (x : Int) 51 = ((x ^^^ 51 : Nat) : Int) := by
  have := u8_xor (x : Int) 51 (by omega) (by omega) (by decide) (by decide)
  simpa using this
theorem w64n {x : Int} {z : Nat} (e : x = (z : Int)) (h : z ≤ 9000000000000000000) : wrap64 x = (z : Int) := by rw [e]; unfold wrap64; omega
theorem win {x : Int} {z : Nat} (e : x = (z : Int)) (h : z ≤ 9000000000000000000) : IntKind.i64.wrap x = (z : Int) := by rw [e]; unfold IntKind.wrap; simp [IntKind.bits, IntKind.signed]; omega

set_option maxHeartbeats 8000000 in
set_option maxRecDepth 1000000 in
theorem viewOf_any (bo ao no : Option Addr) (m cb na ca nn cn : Nat) (l : List Nat) (qa qn : Nat → Int) (w : World) (hr : Reads w bo l) (hby : Byts l) (hm : l.length = m) (hl : m ≤ 140737488351232) (_hc : bo = none → cb = 0) (hmc : m ≤ cb)
    (ha : RdN w ao qa na) (hn : RdN w no qn nn) (na1 : na ≤ 140737488351232) (_nn1 : nn ≤ 140737488351232) (qa1 : ∀ i, i < na → -9223372036854775808 ≤ qa i ∧ qa i ≤ 9223372036854775807) (qn1 : ∀ i, i < nn → -9223372036854775808 ≤ qn i ∧ qn i ≤ 9223372036854775807) :
    Calls Try.prog 4 #[.slice bo m cb, .slice ao na ca, .slice no nn cn] w fun e w' => e = .returned (.bool true) ∧ Kept [] w w' := by
  have C1 := Hid.mk (valive_any w)
  have HR := Hid.mk hr
  have HA := Hid.mk ha
  have HN := Hid.mk hn
  have HQ := Hid.mk (And.intro qa1 qn1)
  clear hr ha hn qa1 qn1
  obtain ⟨T, eT⟩ : ∃ T, m + 20 = T := ⟨_, rfl⟩
  have v1 : wrap64 ((m : Int) + 20) = (T : Int) := w64n (by omega) (by omega)
  have v2 : IntKind.i64.wrap ((m : Int) + 20) = (T : Int) := win (by omega) (by omega)
  go_enter Try.func4, Try.ntmps4
  go_wp2_with (fail)
  refine C1.out.mono ?_
  rintro e w1 ⟨rfl, k1⟩
  obtain ⟨w2, m2, b2, k2⟩ := make_bytes T w1 (by omega)
  obtain ⟨g, eg⟩ : ∃ g, w1.heap.size = g := ⟨_, rfl⟩
  rw [eg] at m2 b2
  obtain ⟨w3, m3, b3, k3⟩ := copy_run w2 g T T bo m cb (List.replicate T (byt 0)) (l.map byt) b2 (by simp) (by simp [hm]) (by omega) (fun h0 => by
    rcases (HR.out.keep (k1.trans k2)) with h | ⟨sg, off, e, hcc⟩
    · subst h; simp at hm; omega
    · subst e
      refine ⟨_, rfl, fun j u hj => ?_⟩
      have hjl : j < l.length := by
        rcases Nat.lt_or_ge j l.length with h | h
        · exact h
        · rw [List.getElem?_eq_none (by simpa using h)] at hj; cases hj
      rw [show (⟨sg, off, none⟩ : Addr).add j = ⟨sg, off + j, none⟩ by unfold Addr.add; split <;> simp_all, hcc j hjl]
      rw [List.getElem?_map, List.getElem?_eq_getElem hjl] at hj
      simp only [Option.map_some, Option.some.injEq] at hj
      rw [← hj, List.getD_eq_getElem?_getD, List.getElem?_eq_getElem hjl]; rfl) (bytes_one l)
  have B3 : Hid (Rw w3 g (fun i => l.getD i 0) T) := Hid.mk (by
    have h9 : l.map byt ++ (List.replicate T (byt 0)).drop m = (l ++ List.replicate 20 0).map byt := by
      rw [List.map_append, List.drop_replicate, show T - m = 20 by omega]; simp
    rw [h9] at b3
    have h8 := Rw.of b3
    have hLT : (l ++ List.replicate 20 0).length = T := by rw [List.length_append, List.length_replicate]; omega
    rw [hLT] at h8
    unfold Rw at h8 ⊢
    rw [h8]
    congr 3
    unfold rgf
    congr 1
    apply List.map_congr_left
    intro i hi
    simp only [List.getD_eq_getElem?_getD]
    by_cases hil : i < l.length
    · rw [List.getElem?_append_left hil]
    · rw [List.getElem?_append_right (by omega), show l[i]? = none from List.getElem?_eq_none (by omega)]
      by_cases h20 : i - l.length < 20
      · rw [List.getElem?_replicate, if_pos h20]; rfl
      · rw [List.getElem?_eq_none (by simp; omega)])
  have GS : Hid (w1.heap.size ≤ g) := Hid.mk (by omega)
  have GW : Hid (w.heap.size ≤ g) := Hid.mk (by have := k1.size; omega)
  have K3 : Hid (Kept [] w w3) := Hid.mk ((k1.trans k2).step k3 (fun x hx => by simp at hx; subst hx; exact .inr (by have := k1.size; omega)))
  have m3' : Sem.run Try.prog (Builtin.copy_ #[23, 23] 3 #[.slice (some ⟨g, 0, none⟩) T T, .slice bo m cb]) w2 = .ok (.int .i64 (m : Int)) w3 := m3
  clear k1 k2 k3 b2 b3 C1 m3
  go_wp2
  clear m2 m3' v1 v2 eg
  go_loopw [9] (fun i wr => ∃ (k : Nat) (f : Nat → Nat), k ≤ T ∧ m ≤ k ∧ i = .int .i64 (k : Int) ∧ Hid (Rw wr g f T ∧ Kept [] w wr ∧ (∀ j, j < m → f j = l.getD j 0) ∧ (∀ j, m ≤ j → j < k → f j = 167))) (fun i _ => T - (intOf i).toNat)
  case atStart => exact ⟨m, _, by omega, Nat.le_refl _, rfl, Hid.mk ⟨B3.out, K3.out, fun j _ => rfl, fun j h1 h2 => by omega⟩⟩
  case round =>
    obtain ⟨k, f, hk, hmk, rfl, HI⟩ := hrel
    by_cases hlt : k < T
    · as_aux_lemma =>
      have ik : (k : Int) < (T : Int) := by omega
      have c1 := HI.out.1.at hlt
      have f1 := HI.out.1.fz k
      have KI : Hid (Kept [] w (wr.setCell ⟨g, k, none⟩ (.int .u8 167))) := Hid.mk (HI.out.2.1.setCell (p := ⟨g, k, none⟩) (.inr GW.out) _)
      have RI := Hid.mk (HI.out.1.set k 167)
      go_wp2
      go_roundw
      case rel => exact ⟨k + 1, _, by omega, by omega, by go_num, Hid.mk ⟨RI.out, KI.out, fun j hj => by
        rw [if_neg (by omega)]; exact HI.out.2.2.1 j hj, fun j h1 h2 => by
        by_cases e : j = k
        · rw [if_pos e]
        · rw [if_neg e]; exact HI.out.2.2.2 j h1 (by omega)⟩⟩
      case measure => simp [intOf]; omega
    · obtain rfl : T = k := by omega
      have hRl : Reads wr (some ⟨g, 0, none⟩) l := by
        have h1 := HI.out.1.reads (m := m) (by omega)
        rwa [← hm, ← rgf_ext (l := l) (f := f) (fun i hi => (HI.out.2.2.1 i (by omega)).symm)] at h1
      have C2 := Hid.mk (of_any (some ⟨g, 0, none⟩) m T l wr hRl hm (by simp) (by omega))
      have KI := Hid.mk HI.out.2.1
      have HF := Hid.mk HI.out.2.2
      have RI := Hid.mk HI.out.1
      clear hRl HI hk hmk hlt B3 K3
      go_wp2_with (fail)
      refine C2.out.mono ?_
      rintro e w4 ⟨P, rfl, s4, k4⟩
      have S4 := Hid.mk s4
      obtain ⟨BP, eBP⟩ : ∃ x, wr.heap.size = x := ⟨_, rfl⟩
      have HBP : Hid (g < BP) := Hid.mk (by rw [← eBP]; exact lt_of_block RI.out)
      rw [eBP] at S4
      have K4 := Hid.mk (KI.out.trans k4)
      have R4 := Hid.mk (RI.out.keep k4 (by simp))
      clear s4 k4 C2 KI RI eBP
      go_wp2
      go_loopw [11] (fun i wr => ∃ (k : Nat) (f : Nat → Nat), k ≤ T ∧ i = .int .i64 (k : Int) ∧ Hid (Rw wr g f T ∧ Kept [] w wr ∧ Src wr BP P l ∧ (∀ j, j < T → f j < 256) ∧ (∀ j, k ≤ j → j < m → f j = l.getD j 0) ∧ (∀ j, k ≤ j → m ≤ j → j < T → f j = 167))) (fun i _ => T - (intOf i).toNat)
      case atStart => exact ⟨0, f, Nat.zero_le _, rfl, Hid.mk ⟨R4.out, K4.out, S4.out, fun j hj => by
        by_cases h : j < m
        · rw [HF.out.1 j h]; exact getD_lt l j hby
        · rw [HF.out.2 j (by omega) hj]; omega, fun j _ h => HF.out.1 j h, fun j _ h1 h2 => HF.out.2 j h1 h2⟩⟩
      case round =>
        obtain ⟨k, f, hk, rfl, HI⟩ := hrel
        by_cases hlt : k < T
        · as_aux_lemma =>
          have ik : (k : Int) < (T : Int) := by omega
          have c1 := HI.out.1.at hlt
          have f1 := HI.out.1.fz k
          obtain ⟨x, ex⟩ : ∃ x, f k = x := ⟨_, rfl⟩
          have hx := HI.out.2.2.2.1 k hlt
          rw [ex] at c1 hx
          have x51 := xor51 x hx
          have HX : Hid (x ^^^ 51 < 256) := Hid.mk (Nat.xor_lt_two_pow (n := 8) hx (by decide))
          obtain ⟨y, ey⟩ : ∃ y, x ^^^ 51 = y := ⟨_, rfl⟩
          rw [ey] at x51 HX
          by_cases hkm : k < m
          · have dk1 : decide ((m : Int) ≤ (k : Int)) = false := by simp; omega
            have dk2 : decide ((k : Int) < (m : Int)) = true := by simp; omega
            have dk3 : decide (m ≤ k) = false := by simp; omega
            have dk4 : decide (k < m) = true := by simp; omega
            have hxl : l.getD k 0 = x := by rw [← ex]; exact (HI.out.2.2.2.2.1 k (Nat.le_refl _) hkm).symm
            obtain ⟨bg, boff, rfl, hbc⟩ : ∃ bg boff, bo = some ⟨bg, boff, none⟩ ∧ wr.cell? ⟨bg, boff + k, none⟩ = some (.int .u8 (x : Int)) := by
              rcases HR.out.keep HI.out.2.1 with h | ⟨bg, boff, e, hc⟩
              · subst h; simp at hm; omega
              · exact ⟨bg, boff, e, by rw [hc k (by omega), hxl]; rfl⟩
            clear hx ex ey hxl
            go_wp2_with (fail)
            have NE : Nonempty (KW wr) := ⟨⟨wr, Kept.refl _ _⟩⟩
            have c1' := fun q : KW wr => cell_kw q c1
            have c3' := fun q : KW wr => cell_kw q hbc
            clear c1 hbc
            refine wp_region_kept (by kernel_rfl) (by kernel_rfl) ?_
            repeat (go_big_quiet_step (fail))
            refine wpQuiet_nil ?_
            rintro _ ⟨z, rfl⟩
            have KZ := Hid.mk z.h
            have c4 := c1' z
            clear c1' c3' NE
            generalize z.u = wz at *
            have f4 := (HI.out.1.keep KZ.out (by simp)).fz k
            have R5 := Hid.mk ((HI.out.1.keep KZ.out (by simp)).set k y)
            have K5 : Hid (Kept [] w (wz.setCell ⟨g, k, none⟩ (.int .u8 (y : Int)))) := Hid.mk ((HI.out.2.1.trans KZ.out).setCell (p := ⟨g, k, none⟩) (.inr GW.out) _)
            have S5 : Hid (Src (wz.setCell ⟨g, k, none⟩ (.int .u8 (y : Int))) BP P l) := Hid.mk ((HI.out.2.2.1.keep KZ.out).kept ((Kept.refl [g] wz).setCell (p := ⟨g, k, none⟩) (.inl (by simp)) _) (fun x hx => by simp at hx; subst hx; exact HBP.out))
            go_wp2
            go_roundw
            case rel => exact ⟨k + 1, _, by omega, by go_num, Hid.mk ⟨R5.out, K5.out, S5.out, (fun j hj => by
              by_cases e : j = k
              · rw [if_pos e]; exact HX.out
              · rw [if_neg e]; exact HI.out.2.2.2.1 j hj), (fun j h1 h2 => by rw [if_neg (by omega)]; exact HI.out.2.2.2.2.1 j (by omega) h2), (fun j h1 h2 h3 => by rw [if_neg (by omega)]; exact HI.out.2.2.2.2.2 j (by omega) h2 h3)⟩⟩
            case measure => simp [intOf]; omega
          · have dk1 : decide ((m : Int) ≤ (k : Int)) = true := by simp; omega
            have dk2 : decide ((k : Int) < (m : Int)) = false := by simp; omega
            have dk3 : decide (m ≤ k) = true := by simp; omega
            have dk4 : decide (k < m) = false := by simp; omega
            obtain rfl : 167 = x := by rw [← ex]; exact (HI.out.2.2.2.2.2 k (Nat.le_refl _) (by omega) hlt).symm
            have x51' : bits BinOp.xor IntKind.u8 167 51 = (y : Int) := x51
            clear x51
            clear hx ex ey
            go_wp2_with (fail)
            have NE : Nonempty (KW wr) := ⟨⟨wr, Kept.refl _ _⟩⟩
            have c1' := fun q : KW wr => cell_kw q c1
            clear c1
            refine wp_region_kept (by kernel_rfl) (by kernel_rfl) ?_
            repeat (go_big_quiet_step (fail))
            refine wpQuiet_nil ?_
            rintro _ ⟨z, rfl⟩
            have KZ := Hid.mk z.h
            have c4 := c1' z
            clear c1' NE
            generalize z.u = wz at *
            have f4 := (HI.out.1.keep KZ.out (by simp)).fz k
            have R5 := Hid.mk ((HI.out.1.keep KZ.out (by simp)).set k y)
            have K5 : Hid (Kept [] w (wz.setCell ⟨g, k, none⟩ (.int .u8 (y : Int)))) := Hid.mk ((HI.out.2.1.trans KZ.out).setCell (p := ⟨g, k, none⟩) (.inr GW.out) _)
            have S5 : Hid (Src (wz.setCell ⟨g, k, none⟩ (.int .u8 (y : Int))) BP P l) := Hid.mk ((HI.out.2.2.1.keep KZ.out).kept ((Kept.refl [g] wz).setCell (p := ⟨g, k, none⟩) (.inl (by simp)) _) (fun x hx => by simp at hx; subst hx; exact HBP.out))
            go_wp2
            go_roundw
            case rel => exact ⟨k + 1, _, by omega, by go_num, Hid.mk ⟨R5.out, K5.out, S5.out, (fun j hj => by
              by_cases e : j = k
              · rw [if_pos e]; exact HX.out
              · rw [if_neg e]; exact HI.out.2.2.2.1 j hj), (fun j h1 h2 => by rw [if_neg (by omega)]; exact HI.out.2.2.2.2.1 j (by omega) h2), (fun j h1 h2 h3 => by rw [if_neg (by omega)]; exact HI.out.2.2.2.2.2 j (by omega) h2 h3)⟩⟩
            case measure => simp [intOf]; omega
        · obtain rfl : T = k := by omega
          obtain ⟨l2, el2⟩ : ∃ l2, rgf f m = l2 := ⟨_, rfl⟩
          have HL2 : l2.length = m := by rw [← el2, rgf_len]
          have hR2 : Reads wr (some ⟨g, 0, none⟩) l2 := by rw [← el2]; exact HI.out.1.reads (by omega)
          have C5 := Hid.mk (of_any (some ⟨g, 0, none⟩) m T l2 wr hR2 HL2 (by simp) (by omega))
          have S5 := Hid.mk HI.out.2.2.1
          have K5 := Hid.mk HI.out.2.1
          have R5 := Hid.mk hR2
          clear hR2 HI hk hlt S4 K4 R4 HF HBP el2
          go_wp2_with (fail)
          refine C5.out.mono ?_
          rintro e w6 ⟨P2, rfl, s6, k6⟩
          have C6 := Hid.mk (hsize_any _ P2 l2 w6 s6)
          have C7 := Hid.mk (hread_ok _ P2 l2 0 m w6 s6 (by omega) (by omega))
          rw [HL2] at C6
          have K6 := Hid.mk (K5.out.trans k6)
          have S6 := Hid.mk (S5.out.keep k6)
          have R6 := Hid.mk (R5.out.keep k6)
          clear s6 k6 C5 S5 K5 R5
          go_wp2_with (fail)
          refine C6.out.mono ?_
          rintro e w7 ⟨rfl, hw7⟩
          obtain rfl := hw7.symm
          clear hw7 C6
          go_wp2_with (fail)
          refine C7.out.mono ?_
          rintro e w8 ⟨rfl, b8, k8⟩
          obtain ⟨g8, eg8⟩ : ∃ x, w6.heap.size = x := ⟨_, rfl⟩
          rw [eg8] at b8 ⊢
          rw [List.drop_zero, List.take_of_length_le (by omega)] at b8
          have r8 : Reads w8 (some ⟨g8, 0, none⟩) l2 := by
            have := (Rw.of b8).reads (m := m) (by omega)
            rwa [← HL2, ← rgf_ext (l := l2) (f := fun i => l2.getD i 0) (fun i _ => rfl)] at this
          have s1 := fun q : KW w8 => reads_str'' (r8.keep q.h) HL2 m
          have s2 := fun q : KW w8 => reads_str'' ((R6.out.keep k8).keep q.h) HL2 T
          have K8 := Hid.mk (K6.out.trans k8)
          have S8 := Hid.mk (S6.out.keep k8)
          have NE : Nonempty (KW w8) := ⟨⟨w8, Kept.refl _ _⟩⟩
          clear b8 k8 C7 K6 S6 R6 r8 eg8
          go_wp2_with (fail)
          refine wp_region_kept (by kernel_rfl) (by kernel_rfl) ?_
          repeat (go_big_quiet_step (fail))
          refine wpQuiet_nil ?_
          rintro _ ⟨z, rfl⟩
          have KZ := Hid.mk (K8.out.trans z.h)
          have SZ := Hid.mk (S8.out.keep z.h)
          generalize z.u = wz at *
          clear s1 s2 NE K8 S8
          go_wp2
          go_loopw [15] (fun i wr => ∃ k : Nat, i = .int .i64 (k : Int) ∧ k ≤ na ∧ k ≤ nn ∧ Hid (Kept [] w wr ∧ Src wr BP P l)) (fun i _ => na - (intOf i).toNat)
          case atStart => exact ⟨0, rfl, Nat.zero_le _, Nat.zero_le _, Hid.mk ⟨KZ.out, SZ.out⟩⟩
          case round =>
            obtain ⟨k, rfl, hka, hkn, HI⟩ := hrel
            obtain ⟨w0, rfl⟩ : ∃ w0, w0 = wr := ⟨_, rfl⟩
            by_cases hlt : k < na ∧ k < nn
            · obtain ⟨hl1, hl2⟩ := hlt
              have i1 : (k : Int) < (na : Int) := by omega
              have i2 : (k : Int) < (nn : Int) := by omega
              obtain ⟨ag, aoff, rfl, hac⟩ : ∃ ag aoff, ao = some ⟨ag, aoff, none⟩ ∧ w0.cell? ⟨ag, aoff + k, none⟩ = some (.int .i64 (qa k)) := by
                rcases HA.out.keep HI.out.1 with h | ⟨ag, aoff, e, hc⟩
                · omega
                · exact ⟨ag, aoff, e, hc k hl1⟩
              obtain ⟨ng, noff, rfl, hnc⟩ : ∃ ng noff, no = some ⟨ng, noff, none⟩ ∧ w0.cell? ⟨ng, noff + k, none⟩ = some (.int .i64 (qn k)) := by
                rcases HN.out.keep HI.out.1 with h | ⟨ng, noff, e, hc⟩
                · omega
                · exact ⟨ng, noff, e, hc k hl2⟩
              have ba := HQ.out.1 k hl1
              have bn := HQ.out.2 k hl2
              obtain ⟨a, ea⟩ : ∃ a, qa k = a := ⟨_, rfl⟩
              obtain ⟨n, en⟩ : ∃ n, qn k = n := ⟨_, rfl⟩
              rw [ea] at hac ba
              rw [en] at hnc bn
              have CA := Hid.mk hac
              have CN := Hid.mk hnc
              clear ea en hac hnc
              by_cases may : 0 ≤ a ∧ 0 ≤ n ∧ a + n ≤ m
              · obtain ⟨a0, n0, han⟩ := may
                obtain ⟨a, rfl⟩ := Int.eq_ofNat_of_zero_le a0
                obtain ⟨n, rfl⟩ := Int.eq_ofNat_of_zero_le n0
                have han : a + n ≤ m := by omega
                obtain ⟨X, eX⟩ : ∃ X, (l.drop a).take n = X := ⟨_, rfl⟩
                have hX : X.length = n := by rw [← eX]; simp; omega
                have CR : Hid (∀ u, Kept [] w0 u → Calls Try.prog 26 #[.pointer (some ⟨P, 0, none⟩), .int .i64 (a : Int), .int .i64 (n : Int)] u fun e w' => ∃ G, e = .returned (.tuple #[.slice (some ⟨G, 0, none⟩) n n, .int .i64 0]) ∧ u.heap.size ≤ G ∧ w'.heap[G]? = some (.cells (X.map byt).toArray 5 (0, 0)) ∧ Kept [] u w') := Hid.mk (fun u hu => (hread_ok BP P l a n u (HI.out.2.keep hu) (by omega) (by omega)).mono (fun e w' h => by rw [eX] at h; exact ⟨_, h.1, Nat.le_refl _, h.2⟩))
                clear a0 n0 ba bn
                go_wp2_with (fail)
                refine wp_region_held_drew (S := fun u => Kept [] w0 u) (by kernel_rfl) (Kept.refl [] w0).drew (fun hH0 => ?_)
                refine wpAnyH_take (i := 0) (oi := _) (v := ?_) rfl (by kernel_rfl) (by kernel_rfl) (by kernel_rfl) (fun _ _ _ h => h) (Or.inl ⟨by rfl, ?y0ra⟩) (by assumption) ?r0ra
                case y0ra => (intro u hSw; have hSu : Kept [] w0 u := hSw; have na' := nil_ahead ⟨P, 0, none⟩ u; have la := cell_kw ⟨u, hSu⟩ CA.out; have ln := cell_kw ⟨u, hSu⟩ CN.out; go_simp; try with_reducible rfl)
                refine wpAnyH_take (i := 1) (oi := _) (v := ?_) rfl (by kernel_rfl) (by kernel_rfl) (by kernel_rfl) (fun _ _ _ h => h) (Or.inl ⟨by rfl, ?y1ra⟩) (by assumption) ?r1ra
                case y1ra => (intro u hSw; have hSu : Kept [] w0 u := hSw; have na' := nil_ahead ⟨P, 0, none⟩ u; have la := cell_kw ⟨u, hSu⟩ CA.out; have ln := cell_kw ⟨u, hSu⟩ CN.out; go_simp; try with_reducible rfl)
                refine wpAnyH_take (i := 2) (oi := _) (v := ?_) rfl (by kernel_rfl) (by kernel_rfl) (by kernel_rfl) (fun _ _ _ h => h) (Or.inl ⟨by rfl, ?y2ra⟩) (by assumption) ?r2ra
                case y2ra => (intro u hSw; have hSu : Kept [] w0 u := hSw; have na' := nil_ahead ⟨P, 0, none⟩ u; have la := cell_kw ⟨u, hSu⟩ CA.out; have ln := cell_kw ⟨u, hSu⟩ CN.out; go_simp; try with_reducible rfl)
                refine wpAnyH_take (i := 3) (oi := _) (v := ?_) rfl (by kernel_rfl) (by kernel_rfl) (by kernel_rfl) (fun _ _ _ h => h) (Or.inl ⟨by rfl, ?y3ra⟩) (by assumption) ?r3ra
                case y3ra => (intro u hSw; have hSu : Kept [] w0 u := hSw; have na' := nil_ahead ⟨P, 0, none⟩ u; have la := cell_kw ⟨u, hSu⟩ CA.out; have ln := cell_kw ⟨u, hSu⟩ CN.out; go_simp; try with_reducible rfl)
                refine wpAnyH_take (i := 4) (oi := _) (v := ?_) rfl (by kernel_rfl) (by kernel_rfl) (by kernel_rfl) (fun _ _ _ h => h) (Or.inl ⟨by rfl, ?y4ra⟩) (by assumption) ?r4ra
                case y4ra => (intro u hSw; have hSu : Kept [] w0 u := hSw; have na' := nil_ahead ⟨P, 0, none⟩ u; have la := cell_kw ⟨u, hSu⟩ CA.out; have ln := cell_kw ⟨u, hSu⟩ CN.out; go_simp; try with_reducible rfl)
                refine wpAnyH_take (i := 5) (oi := _) (v := ?_) rfl (by kernel_rfl) (by kernel_rfl) (by kernel_rfl) (fun _ _ _ h => h) (Or.inl ⟨by rfl, ?y5ra⟩) (by assumption) ?r5ra
                case y5ra => (intro u hSw; have hSu : Kept [] w0 u := hSw; have na' := nil_ahead ⟨P, 0, none⟩ u; have la := cell_kw ⟨u, hSu⟩ CA.out; have ln := cell_kw ⟨u, hSu⟩ CN.out; go_simp; try with_reducible rfl)
                refine wpAnyH_take (i := 6) (oi := _) (v := ?_) rfl (by kernel_rfl) (by kernel_rfl) (by kernel_rfl) (fun _ _ _ h => h) (Or.inl ⟨by rfl, ?y6ra⟩) (by assumption) ?r6ra
                case y6ra => (intro u hSw; have hSu : Kept [] w0 u := hSw; have na' := nil_ahead ⟨P, 0, none⟩ u; have la := cell_kw ⟨u, hSu⟩ CA.out; have ln := cell_kw ⟨u, hSu⟩ CN.out; go_simp; try with_reducible rfl)
                refine wpAnyH_take (i := 7) (oi := _) (v := ?_) rfl (by kernel_rfl) (by kernel_rfl) (by kernel_rfl) (fun _ _ _ h => h) (Or.inl ⟨by rfl, ?y7ra⟩) (by assumption) ?r7ra
                case y7ra => (intro u hSw; have hSu : Kept [] w0 u := hSw; have na' := nil_ahead ⟨P, 0, none⟩ u; have la := cell_kw ⟨u, hSu⟩ CA.out; have ln := cell_kw ⟨u, hSu⟩ CN.out; go_simp; try with_reducible rfl)
                refine wpAnyH_take (i := 8) (oi := _) (v := ?_) rfl (by kernel_rfl) (by kernel_rfl) (by kernel_rfl) (fun _ _ _ h => h) (Or.inl ⟨by rfl, ?y8ra⟩) (by assumption) ?r8ra
                case y8ra => (intro u hSw; have hSu : Kept [] w0 u := hSw; have na' := nil_ahead ⟨P, 0, none⟩ u; have la := cell_kw ⟨u, hSu⟩ CA.out; have ln := cell_kw ⟨u, hSu⟩ CN.out; go_simp; try with_reducible rfl)
                refine wpAnyH_take (i := 9) (oi := _) (v := ?_) rfl (by kernel_rfl) (by kernel_rfl) (by kernel_rfl) (fun _ _ _ h => h) (Or.inl ⟨by rfl, ?y9ra⟩) (by assumption) ?r9ra
                case y9ra => (intro u hSw; have hSu : Kept [] w0 u := hSw; have na' := nil_ahead ⟨P, 0, none⟩ u; have la := cell_kw ⟨u, hSu⟩ CA.out; have ln := cell_kw ⟨u, hSu⟩ CN.out; go_simp; try with_reducible rfl)
                refine wpAnyH_take (i := 10) (oi := _) (v := ?_) rfl (by kernel_rfl) (by kernel_rfl) (by kernel_rfl) (fun _ _ _ h => h) (Or.inl ⟨by rfl, ?y10ra⟩) (by assumption) ?r10ra
                case y10ra => (intro u hSw; have hSu : Kept [] w0 u := hSw; have na' := nil_ahead ⟨P, 0, none⟩ u; have la := cell_kw ⟨u, hSu⟩ CA.out; have ln := cell_kw ⟨u, hSu⟩ CN.out; go_simp; try with_reducible rfl)
                refine wpAnyH_take (i := 11) (oi := _) (v := ?_) rfl (by kernel_rfl) (by kernel_rfl) (by kernel_rfl) (fun _ _ _ h => h) (Or.inl ⟨by rfl, ?y11ra⟩) (by assumption) ?r11ra
                case y11ra => (intro u hSw; have hSu : Kept [] w0 u := hSw; have na' := nil_ahead ⟨P, 0, none⟩ u; have la := cell_kw ⟨u, hSu⟩ CA.out; have ln := cell_kw ⟨u, hSu⟩ CN.out; go_simp; try with_reducible rfl)
                refine wpAnyH_ready (rs := [12]) (by kernel_rfl) (by simp) ?_
                refine AllReadyH.cons rfl (fun K hK => ?_) AllReadyH.nil
                go_simp
                go_invoke
                simp only [Result.andThen_ok]
                go_simp
                go_at_call 26
                refine (CR.out _ hH0).mono ?_
                rintro e w9 ⟨G1, rfl, hg9, b9, k9⟩
                have K9 := Hid.mk (hH0.trans k9)
                have G9 : Hid (w0.heap.size ≤ G1) := Hid.mk (Nat.le_trans hH0.size hg9)
                have B9 := Hid.mk b9
                refine hK.out _ _ K9.out (fun hH1 => ?_)
                clear hK K hH0 hH1
                refine wpAnyH_take (i := 13) (oi := _) (v := ?_) rfl (by kernel_rfl) (by kernel_rfl) (by kernel_rfl) (fun _ _ _ h => h) (Or.inl ⟨by rfl, ?y13ra⟩) (by assumption) ?r13ra
                case y13ra => (intro u hSw; have hSu : Kept [] w0 u := hSw; go_simp; try with_reducible rfl)
                refine wpAnyH_take (i := 14) (oi := _) (v := ?_) rfl (by kernel_rfl) (by kernel_rfl) (by kernel_rfl) (fun _ _ _ h => h) (Or.inl ⟨by rfl, ?y14ra⟩) (by assumption) ?r14ra
                case y14ra => (intro u hSw; have hSu : Kept [] w0 u := hSw; go_simp; try with_reducible rfl)
                refine wpAnyH_take (i := 15) (oi := _) (v := ?_) rfl (by kernel_rfl) (by kernel_rfl) (by kernel_rfl) (fun _ _ _ h => h) (Or.inl ⟨by rfl, ?y15ra⟩) (by assumption) ?r15ra
                case y15ra => (intro u hSw; have hSu : Kept [] w0 u := hSw; go_simp; try with_reducible rfl)
                refine wpAnyH_take (i := 16) (oi := _) (v := ?_) rfl (by kernel_rfl) (by kernel_rfl) (by kernel_rfl) (fun _ _ _ h => h) (Or.inl ⟨by rfl, ?y16ra⟩) (by assumption) ?r16ra
                case y16ra => (intro u hSw; have hSu : Kept [] w0 u := hSw; go_simp; try with_reducible rfl)
                refine wpAnyH_take (i := 17) (oi := _) (v := ?_) rfl (by kernel_rfl) (by kernel_rfl) (by kernel_rfl) (fun _ _ _ h => h) (Or.inl ⟨by rfl, ?y17ra⟩) (by assumption) ?r17ra
                case y17ra => (intro u hSw; have hSu : Kept [] w0 u := hSw; go_simp; try with_reducible rfl)
                refine wpAnyH_done (by kernel_rfl) ?_ _
                clear hg9 b9 k9
                go_wp2_with (fail)
                refine wp_region_held_drew (S := fun u => Kept [] w9 u) (by kernel_rfl) (Kept.refl [] w9).drew (fun hH0 => ?_)
                refine wpAnyH_take (i := 0) (oi := _) (v := ?_) rfl (by kernel_rfl) (by kernel_rfl) (by kernel_rfl) (fun _ _ _ h => h) (Or.inl ⟨by rfl, ?y0rb⟩) (by assumption) ?r0rb
                case y0rb => (intro u hSw; have hSu : Kept [] w9 u := hSw; have na' := nil_ahead ⟨P, 0, none⟩ u; have la := cell_kw ⟨u, hSu⟩ (cell_kw ⟨w9, K9.out⟩ CA.out); have ln := cell_kw ⟨u, hSu⟩ (cell_kw ⟨w9, K9.out⟩ CN.out); go_simp; try with_reducible rfl)
                refine wpAnyH_take (i := 1) (oi := _) (v := ?_) rfl (by kernel_rfl) (by kernel_rfl) (by kernel_rfl) (fun _ _ _ h => h) (Or.inl ⟨by rfl, ?y1rb⟩) (by assumption) ?r1rb
                case y1rb => (intro u hSw; have hSu : Kept [] w9 u := hSw; have na' := nil_ahead ⟨P, 0, none⟩ u; have la := cell_kw ⟨u, hSu⟩ (cell_kw ⟨w9, K9.out⟩ CA.out); have ln := cell_kw ⟨u, hSu⟩ (cell_kw ⟨w9, K9.out⟩ CN.out); go_simp; try with_reducible rfl)
                refine wpAnyH_take (i := 2) (oi := _) (v := ?_) rfl (by kernel_rfl) (by kernel_rfl) (by kernel_rfl) (fun _ _ _ h => h) (Or.inl ⟨by rfl, ?y2rb⟩) (by assumption) ?r2rb
                case y2rb => (intro u hSw; have hSu : Kept [] w9 u := hSw; have na' := nil_ahead ⟨P, 0, none⟩ u; have la := cell_kw ⟨u, hSu⟩ (cell_kw ⟨w9, K9.out⟩ CA.out); have ln := cell_kw ⟨u, hSu⟩ (cell_kw ⟨w9, K9.out⟩ CN.out); go_simp; try with_reducible rfl)
                refine wpAnyH_take (i := 3) (oi := _) (v := ?_) rfl (by kernel_rfl) (by kernel_rfl) (by kernel_rfl) (fun _ _ _ h => h) (Or.inl ⟨by rfl, ?y3rb⟩) (by assumption) ?r3rb
                case y3rb => (intro u hSw; have hSu : Kept [] w9 u := hSw; have na' := nil_ahead ⟨P, 0, none⟩ u; have la := cell_kw ⟨u, hSu⟩ (cell_kw ⟨w9, K9.out⟩ CA.out); have ln := cell_kw ⟨u, hSu⟩ (cell_kw ⟨w9, K9.out⟩ CN.out); go_simp; try with_reducible rfl)
                refine wpAnyH_take (i := 4) (oi := _) (v := ?_) rfl (by kernel_rfl) (by kernel_rfl) (by kernel_rfl) (fun _ _ _ h => h) (Or.inl ⟨by rfl, ?y4rb⟩) (by assumption) ?r4rb
                case y4rb => (intro u hSw; have hSu : Kept [] w9 u := hSw; have na' := nil_ahead ⟨P, 0, none⟩ u; have la := cell_kw ⟨u, hSu⟩ (cell_kw ⟨w9, K9.out⟩ CA.out); have ln := cell_kw ⟨u, hSu⟩ (cell_kw ⟨w9, K9.out⟩ CN.out); go_simp; try with_reducible rfl)
                refine wpAnyH_take (i := 5) (oi := _) (v := ?_) rfl (by kernel_rfl) (by kernel_rfl) (by kernel_rfl) (fun _ _ _ h => h) (Or.inl ⟨by rfl, ?y5rb⟩) (by assumption) ?r5rb
                case y5rb => (intro u hSw; have hSu : Kept [] w9 u := hSw; have na' := nil_ahead ⟨P, 0, none⟩ u; have la := cell_kw ⟨u, hSu⟩ (cell_kw ⟨w9, K9.out⟩ CA.out); have ln := cell_kw ⟨u, hSu⟩ (cell_kw ⟨w9, K9.out⟩ CN.out); go_simp; try with_reducible rfl)
                refine wpAnyH_take (i := 6) (oi := _) (v := ?_) rfl (by kernel_rfl) (by kernel_rfl) (by kernel_rfl) (fun _ _ _ h => h) (Or.inl ⟨by rfl, ?y6rb⟩) (by assumption) ?r6rb
                case y6rb => (intro u hSw; have hSu : Kept [] w9 u := hSw; have na' := nil_ahead ⟨P, 0, none⟩ u; have la := cell_kw ⟨u, hSu⟩ (cell_kw ⟨w9, K9.out⟩ CA.out); have ln := cell_kw ⟨u, hSu⟩ (cell_kw ⟨w9, K9.out⟩ CN.out); go_simp; try with_reducible rfl)
                refine wpAnyH_take (i := 7) (oi := _) (v := ?_) rfl (by kernel_rfl) (by kernel_rfl) (by kernel_rfl) (fun _ _ _ h => h) (Or.inl ⟨by rfl, ?y7rb⟩) (by assumption) ?r7rb
                case y7rb => (intro u hSw; have hSu : Kept [] w9 u := hSw; have na' := nil_ahead ⟨P, 0, none⟩ u; have la := cell_kw ⟨u, hSu⟩ (cell_kw ⟨w9, K9.out⟩ CA.out); have ln := cell_kw ⟨u, hSu⟩ (cell_kw ⟨w9, K9.out⟩ CN.out); go_simp; try with_reducible rfl)
                refine wpAnyH_take (i := 8) (oi := _) (v := ?_) rfl (by kernel_rfl) (by kernel_rfl) (by kernel_rfl) (fun _ _ _ h => h) (Or.inl ⟨by rfl, ?y8rb⟩) (by assumption) ?r8rb
                case y8rb => (intro u hSw; have hSu : Kept [] w9 u := hSw; have na' := nil_ahead ⟨P, 0, none⟩ u; have la := cell_kw ⟨u, hSu⟩ (cell_kw ⟨w9, K9.out⟩ CA.out); have ln := cell_kw ⟨u, hSu⟩ (cell_kw ⟨w9, K9.out⟩ CN.out); go_simp; try with_reducible rfl)
                refine wpAnyH_take (i := 9) (oi := _) (v := ?_) rfl (by kernel_rfl) (by kernel_rfl) (by kernel_rfl) (fun _ _ _ h => h) (Or.inl ⟨by rfl, ?y9rb⟩) (by assumption) ?r9rb
                case y9rb => (intro u hSw; have hSu : Kept [] w9 u := hSw; have na' := nil_ahead ⟨P, 0, none⟩ u; have la := cell_kw ⟨u, hSu⟩ (cell_kw ⟨w9, K9.out⟩ CA.out); have ln := cell_kw ⟨u, hSu⟩ (cell_kw ⟨w9, K9.out⟩ CN.out); go_simp; try with_reducible rfl)
                refine wpAnyH_take (i := 10) (oi := _) (v := ?_) rfl (by kernel_rfl) (by kernel_rfl) (by kernel_rfl) (fun _ _ _ h => h) (Or.inl ⟨by rfl, ?y10rb⟩) (by assumption) ?r10rb
                case y10rb => (intro u hSw; have hSu : Kept [] w9 u := hSw; have na' := nil_ahead ⟨P, 0, none⟩ u; have la := cell_kw ⟨u, hSu⟩ (cell_kw ⟨w9, K9.out⟩ CA.out); have ln := cell_kw ⟨u, hSu⟩ (cell_kw ⟨w9, K9.out⟩ CN.out); go_simp; try with_reducible rfl)
                refine wpAnyH_take (i := 11) (oi := _) (v := ?_) rfl (by kernel_rfl) (by kernel_rfl) (by kernel_rfl) (fun _ _ _ h => h) (Or.inl ⟨by rfl, ?y11rb⟩) (by assumption) ?r11rb
                case y11rb => (intro u hSw; have hSu : Kept [] w9 u := hSw; have na' := nil_ahead ⟨P, 0, none⟩ u; have la := cell_kw ⟨u, hSu⟩ (cell_kw ⟨w9, K9.out⟩ CA.out); have ln := cell_kw ⟨u, hSu⟩ (cell_kw ⟨w9, K9.out⟩ CN.out); go_simp; try with_reducible rfl)
                refine wpAnyH_ready (rs := [12]) (by kernel_rfl) (by simp) ?_
                refine AllReadyH.cons rfl (fun K hK => ?_) AllReadyH.nil
                go_simp
                go_invoke
                simp only [Result.andThen_ok]
                go_simp
                go_at_call 26
                refine (CR.out _ (K9.out.trans hH0)).mono ?_
                rintro e w10 ⟨G2, rfl, hg10, b10, k10⟩
                have K10 := Hid.mk (hH0.trans k10)
                have G10 : Hid (w9.heap.size ≤ G2) := Hid.mk (Nat.le_trans hH0.size hg10)
                have B10 := Hid.mk b10
                refine hK.out _ _ K10.out (fun hH1 => ?_)
                clear hK K hH0 hH1
                refine wpAnyH_take (i := 13) (oi := _) (v := ?_) rfl (by kernel_rfl) (by kernel_rfl) (by kernel_rfl) (fun _ _ _ h => h) (Or.inl ⟨by rfl, ?y13rb⟩) (by assumption) ?r13rb
                case y13rb => (intro u hSw; have hSu : Kept [] w9 u := hSw; go_simp; try with_reducible rfl)
                refine wpAnyH_take (i := 14) (oi := _) (v := ?_) rfl (by kernel_rfl) (by kernel_rfl) (by kernel_rfl) (fun _ _ _ h => h) (Or.inl ⟨by rfl, ?y14rb⟩) (by assumption) ?r14rb
                case y14rb => (intro u hSw; have hSu : Kept [] w9 u := hSw; go_simp; try with_reducible rfl)
                refine wpAnyH_take (i := 15) (oi := _) (v := ?_) rfl (by kernel_rfl) (by kernel_rfl) (by kernel_rfl) (fun _ _ _ h => h) (Or.inl ⟨by rfl, ?y15rb⟩) (by assumption) ?r15rb
                case y15rb => (intro u hSw; have hSu : Kept [] w9 u := hSw; go_simp; try with_reducible rfl)
                refine wpAnyH_take (i := 16) (oi := _) (v := ?_) rfl (by kernel_rfl) (by kernel_rfl) (by kernel_rfl) (fun _ _ _ h => h) (Or.inl ⟨by rfl, ?y16rb⟩) (by assumption) ?r16rb
                case y16rb => (intro u hSw; have hSu : Kept [] w9 u := hSw; go_simp; try with_reducible rfl)
                refine wpAnyH_take (i := 17) (oi := _) (v := ?_) rfl (by kernel_rfl) (by kernel_rfl) (by kernel_rfl) (fun _ _ _ h => h) (Or.inl ⟨by rfl, ?y17rb⟩) (by assumption) ?r17rb
                case y17rb => (intro u hSw; have hSu : Kept [] w9 u := hSw; go_simp; try with_reducible rfl)
                refine wpAnyH_done (by kernel_rfl) ?_ _
                clear hg10 b10 k10
                as_aux_lemma =>
                have KA := Hid.mk (K9.out.trans K10.out)
                have C10 := Hid.mk (fun q : KW w10 => cell_kw ⟨q.u, KA.out.trans q.h⟩ CA.out)
                have D10 := Hid.mk (fun q : KW w10 => cell_kw ⟨q.u, KA.out.trans q.h⟩ CN.out)
                have la := C10.out
                have ln := D10.out
                have NE : Nonempty (KW w10) := ⟨⟨w10, Kept.refl _ _⟩⟩
                have v1 : wrap64 ((m : Int) - (a : Int)) = ((m - a : Nat) : Int) := w64n (by omega) (by omega)
                have v2 : IntKind.i64.wrap ((m : Int) - (a : Int)) = ((m - a : Nat) : Int) := win (by omega) (by omega)
                have e1 : decide ((0 : Int) ≤ (a : Int)) = true := by simp
                have e2 : decide ((0 : Int) ≤ (n : Int)) = true := by simp
                have e3 : decide ((a : Int) ≤ (m : Int)) = true := by simp; omega
                have e4 : decide ((n : Int) ≤ ((m - a : Nat) : Int)) = true := by simp; omega
                have e5 : decide (a ≤ m) = true := by simp; omega
                have e6 : decide (n ≤ m - a) = true := by simp; omega
                go_wp2_with (fail)
                refine wp_region_kept (by kernel_rfl) (by kernel_rfl) ?_
                repeat (go_big_quiet_step (fail))
                refine wpQuiet_nil ?_
                rintro _ ⟨z, rfl⟩
                have KZ' := Hid.mk z.h
                clear la ln NE C10 D10
                have C11 := Hid.mk (hsize_any BP P l z.u (HI.out.2.keep (KA.out.trans z.h)))
                rw [hm] at C11
                generalize z.u = wz' at *
                go_wp2_with (fail)
                refine C11.out.mono ?_
                rintro e w11 ⟨rfl, hw11⟩
                obtain rfl := hw11.symm
                clear hw11 C11
                clear z
                have KB := Hid.mk (KA.out.trans KZ'.out)
                have b1 := KZ'.out.heap (K10.out.heap B9.out (by simp)) (by simp)
                have b2 := KZ'.out.heap B10.out (by simp)
                have HG12 : Hid (G1 < G2 ∧ w0.heap.size ≤ G1) := Hid.mk ⟨Nat.lt_of_lt_of_le (lt_of_block B9.out) G10.out, G9.out⟩
                have R1 : Hid (Rw wz' G1 (fun i => X.getD i 0) n) := Hid.mk (by have := Rw.of b1; rwa [hX] at this)
                have R2 : Hid (Rw wz' G2 (fun i => X.getD i 0) n) := Hid.mk (by have := Rw.of b2; rwa [hX] at this)
                have eXr : rgf (fun i => X.getD i 0) n = X := by rw [← hX]; exact (rgf_ext (l := X) (f := fun i => X.getD i 0) (fun i _ => rfl)).symm
                have r1 : Reads wz' (some ⟨G1, 0, none⟩) X := by have := R1.out.reads (m := n) (Nat.le_refl _); rwa [eXr] at this
                have r2 : Reads wz' (some ⟨G2, 0, none⟩) X := by have := R2.out.reads (m := n) (Nat.le_refl _); rwa [eXr] at this
                have HS3 : Hid (∀ (so : Option Addr) (cs : Nat), (cb ≠ a → so = bo.map (fun x => x.add a)) → ∀ q : KW wz', Sem.run Try.prog (convert 23 9 (.slice so n cs)) q.u = .ok (.string (bstr X)) q.u) := Hid.mk (fun so cs hso q => by
                  refine reads_str'' ?_ hX cs
                  by_cases h0 : n = 0
                  · exact .inl (List.length_eq_zero_iff.1 (by omega))
                  · have hne : cb ≠ a := by omega
                    rw [hso hne]
                    rcases HR.out.keep ((HI.out.1.trans KB.out).trans q.h) with h | ⟨sg, off, e, hcc⟩
                    · subst h; simp at hm; omega
                    · subst e
                      refine .inr ⟨sg, off + a, by simp [Addr.add], fun i hi => ?_⟩
                      have h5 := hcc (a + i) (by omega)
                      rw [← Nat.add_assoc] at h5
                      rw [h5, ← eX]
                      congr 2
                      simp only [List.getD_eq_getElem?_getD]
                      rw [List.getElem?_take_of_lt (by omega), List.getElem?_drop])
                have s1 := fun q : KW wz' => reads_str'' (r1.keep q.h) hX n
                have s2 := fun q : KW wz' => reads_str'' (r2.keep q.h) hX n
                have la := fun q : KW wz' => cell_kw ⟨q.u, KB.out.trans q.h⟩ CA.out
                have ln := fun q : KW wz' => cell_kw ⟨q.u, KB.out.trans q.h⟩ CN.out
                have NE : Nonempty (KW wz') := ⟨⟨wz', Kept.refl _ _⟩⟩
                obtain ⟨zz, ezz⟩ : ∃ zz, a + n = zz := ⟨_, rfl⟩
                clear b1 b2 r1 r2 eXr KA K9 K10 G9 G10 B9 B10 KZ' v1 v2 e1 e2 e3 e4 e5 e6 i1 i2
                have V3 : Hid (wrap64 ((a : Int) + (n : Int)) = (zz : Int)) := Hid.mk (w64n (by omega) (by omega))
                have V4 : Hid (IntKind.i64.wrap ((a : Int) + (n : Int)) = (zz : Int)) := Hid.mk (win (by omega) (by omega))
                have EZ : Hid ((a : Int) + (n : Int) = (zz : Int)) := Hid.mk (by omega)
                have j1 : (a : Int) ≤ (zz : Int) := by omega
                have j2 : (zz : Int) ≤ (cb : Int) := by omega
                have j3 : zz - a = n := by omega
                have hbn : n ≤ 140737488351232 := by omega
                clear hmc han ezz hl eT
                have v3 := V3.out
                have v4 := V4.out
                go_upto_region 32 with (fail)
                go_cut [273] (fun s wc => s = .bool false ∧ Hid (Kept [] wz' wc))
                case first =>
                  by_cases hca : cb = a
                  · subst hca
                    have s3 := HS3.out bo 0 (fun h => absurd rfl h)
                    have s3' := HS3.out bo (cb - cb) (fun h => absurd rfl h)
                    refine wp_region_kept (by kernel_rfl) (by kernel_rfl) ?_
                    repeat (go_big_quiet_step (fail))
                    refine wpQuiet_nil ?_
                    rintro _ ⟨z, rfl⟩
                    have HZH := Hid.mk z.h
                    generalize z.u = wz2 at *
                    clear la ln NE s1 s2 s3 HS3
                    go_wp2
                    go_meet
                    exact ⟨rfl, HZH⟩
                  · have s3 := HS3.out (bo.map (fun x => x.add a)) (cb - a) (fun _ => rfl)
                    refine wp_region_kept (by kernel_rfl) (by kernel_rfl) ?_
                    repeat (go_big_quiet_step (fail))
                    refine wpQuiet_nil ?_
                    rintro _ ⟨z, rfl⟩
                    have HZH := Hid.mk z.h
                    generalize z.u = wz2 at *
                    clear la ln NE s1 s2 s3 HS3
                    go_wp2
                    go_meet
                    exact ⟨rfl, HZH⟩
                case rest =>
                  as_aux_lemma =>
                  obtain ⟨rfl, KZ2⟩ := hcut
                  clear la ln NE s1 s2 v3 v4 j1 j2 j3 HS3
                  obtain ⟨wz2, rfl⟩ : ∃ wz2, wz2 = wc := ⟨_, rfl⟩
                  go_wp2
                  go_loopw [21] (fun i wr => ∃ (k : Nat) (f : Nat → Nat), k ≤ n ∧ i = .int .i64 (k : Int) ∧ Hid (Rw wr G1 f n ∧ Rw wr G2 (fun i => X.getD i 0) n ∧ Kept [] w0 wr ∧ ∀ j, j < k → f j = 1)) (fun i _ => n - (intOf i).toNat)
                  case atStart => exact ⟨0, _, Nat.zero_le _, rfl, Hid.mk ⟨R1.out.keep KZ2.out (by simp), R2.out.keep KZ2.out (by simp), KB.out.trans KZ2.out, fun j hj => by omega⟩⟩
                  case round =>
                    obtain ⟨t, f, ht, rfl, HJ⟩ := hrel
                    by_cases hlt : t < n
                    · have it : (t : Int) < (n : Int) := by omega
                      have c1 := HJ.out.1.at hlt
                      have f1 := HJ.out.1.fz t
                      have KI : Hid (Kept [] w0 (wr.setCell ⟨G1, t, none⟩ (.int .u8 1))) := Hid.mk (HJ.out.2.2.1.setCell (p := ⟨G1, t, none⟩) (.inr HG12.out.2) _)
                      have RI := Hid.mk (HJ.out.1.set t 1)
                      have RJ : Hid (Rw (wr.setCell ⟨G1, t, none⟩ (.int .u8 1)) G2 (fun i => X.getD i 0) n) := Hid.mk (HJ.out.2.1.keep ((Kept.refl [G1] wr).setCell (p := ⟨G1, t, none⟩) (.inl (by simp)) _) (by have := HG12.out.1; simp; omega))
                      go_wp2
                      go_roundw
                      case rel => exact ⟨t + 1, _, by omega, by go_num, Hid.mk ⟨RI.out, RJ.out, KI.out, fun j hj => by
                        by_cases e : j = t
                        · rw [if_pos e]
                        · rw [if_neg e]; exact HJ.out.2.2.2 j (by omega)⟩⟩
                      case measure => simp [intOf]; omega
                    · obtain rfl : n = t := by omega
                      clear hlt ht
                      go_wp2
                      go_loopw [22] (fun i wr => ∃ (k : Nat) (f2 : Nat → Nat), k ≤ n ∧ i = .int .i64 (k : Int) ∧ Hid (Rw wr G1 f n ∧ Rw wr G2 f2 n ∧ Kept [] w0 wr ∧ ∀ j, j < k → f2 j = 2)) (fun i _ => n - (intOf i).toNat)
                      case atStart => exact ⟨0, _, Nat.zero_le _, rfl, Hid.mk ⟨HJ.out.1, HJ.out.2.1, HJ.out.2.2.1, fun j hj => by omega⟩⟩
                      case round =>
                        obtain ⟨t, f2, ht, rfl, HL⟩ := hrel
                        by_cases hlt : t < n
                        · have it : (t : Int) < (n : Int) := by omega
                          have c1 := HL.out.2.1.at hlt
                          have f1 := HL.out.2.1.fz t
                          have KI : Hid (Kept [] w0 (wr.setCell ⟨G2, t, none⟩ (.int .u8 2))) := Hid.mk (HL.out.2.2.1.setCell (p := ⟨G2, t, none⟩) (.inr (by have := HG12.out; show w0.heap.size ≤ G2; omega)) _)
                          have RI := Hid.mk (HL.out.2.1.set t 2)
                          have RJ : Hid (Rw (wr.setCell ⟨G2, t, none⟩ (.int .u8 2)) G1 f n) := Hid.mk (HL.out.1.keep ((Kept.refl [G2] wr).setCell (p := ⟨G2, t, none⟩) (.inl (by simp)) _) (by have := HG12.out.1; simp; omega))
                          go_wp2
                          go_roundw
                          case rel => exact ⟨t + 1, _, by omega, by go_num, Hid.mk ⟨RJ.out, RI.out, KI.out, fun j hj => by
                            by_cases e : j = t
                            · rw [if_pos e]
                            · rw [if_neg e]; exact HL.out.2.2.2 j (by omega)⟩⟩
                          case measure => simp [intOf]; omega
                        · obtain rfl : n = t := by omega
                          clear hlt ht
                          obtain ⟨wa, rfl⟩ : ∃ wa, wa = wr := ⟨_, rfl⟩
                          have OX := Hid.mk (own_rep HL.out.1 (fun j hj => HJ.out.2.2.2 j hj) (by omega : n ≤ 140737488355328))
                          have RY := Hid.mk HL.out.2.1
                          have FY := Hid.mk HL.out.2.2.2
                          have KY := Hid.mk HL.out.2.2.1
                          have HS : Hid (G2 < wa.heap.size) := Hid.mk (lt_of_block RY.out)
                          clear HL HJ
                          go_wp2
                          go_loopw [23, 24] (fun v i wr => ∃ k : Nat, k ≤ 40 ∧ i = .int .i64 (k : Int) ∧ Hid (wr.ownsRow 0 5 1 v (n + k) (List.replicate (n + k) (byt 1)) ∧ (v.ownBlock = some G1 ∨ ∃ b, v.ownBlock = some b ∧ wa.heap.size ≤ b) ∧ Rw wr G2 f2 n ∧ Kept [] w0 wr ∧ wa.heap.size ≤ wr.heap.size)) (fun _ i _ => 40 - (intOf i).toNat)
                          case atStart => exact ⟨0, by omega, rfl, Hid.mk ⟨OX.out, .inl rfl, RY.out, KY.out, Nat.le_refl _⟩⟩
                          case round =>
                            obtain ⟨t, ht, rfl, HM⟩ := hrel
                            by_cases hlt : t < 40
                            · have it : (t : Int) < 40 := by omega
                              obtain ⟨w5, e5⟩ : ∃ w5, wr.alloc (.cells #[.int .u8 1] 5 (0, 0)) = w5 := ⟨_, rfl⟩
                              have k5 : Kept [] wr w5 := by rw [← e5]; exact (Kept.refl [] wr).alloc _
                              have r5 : Reads w5 (some ⟨wr.heap.size, 0, none⟩) [1] := by
                                have b5 : w5.heap[wr.heap.size]? = some (.cells #[.int .u8 1] 5 (0, 0)) := by rw [← e5]; exact heap_alloc_new _ _
                                exact .inr ⟨_, _, rfl, fun i hi => by
                                  have : i = 0 := by simp at hi; omega
                                  subst this; simp [World.cell?, b5, byt]⟩
                              have O5 := Hid.mk (k5.row HM.out.1 (by simp))
                              have K5 := Hid.mk k5
                              have R5 := Hid.mk r5
                              have hs5 : 0 ≤ w5.heap.size := Nat.zero_le _
                              clear k5 r5
                              go_wp2_with (at_builtin; refine wpList_app8 0 _ rfl _ _ rfl _ (n + t) _ rfl O5.out (some ⟨wr.heap.size, 0, none⟩) 1 1 [1] rfl R5.out rfl (fun h => by cases h) (Nat.zero_le _) (by omega) ?_)
                              intro v6 w6 h6 h7 h8
                              have O6 : Hid (w6.ownsRow 0 5 1 v6 (n + (t + 1)) (List.replicate (n + (t + 1)) (byt 1))) := Hid.mk (by
                                rw [← Nat.add_assoc, List.replicate_succ']
                                exact h6)
                              have L6 : Hid (v6.ownBlock = some G1 ∨ ∃ b, v6.ownBlock = some b ∧ wa.heap.size ≤ b) := Hid.mk (by
                                rcases h8 with h | ⟨b, hb, hle⟩
                                · rw [h]; exact HM.out.2.1
                                · exact .inr ⟨b, hb, by have := HM.out.2.2.2.2; have := K5.out.size; omega⟩)
                              have M6 : ∀ x ∈ u23.ownBlock.toList, w0.heap.size ≤ x ∧ x ≠ G2 := fun x hx => by
                                have q1 := HG12.out
                                have q2 := HS.out
                                have q3 := KY.out.size
                                rcases HM.out.2.1 with h | ⟨b, hb, hle⟩
                                · rw [h] at hx; simp at hx; omega
                                · rw [hb] at hx; simp at hx; omega
                              have K6 : Hid (Kept [] w0 w6) := Hid.mk ((HM.out.2.2.2.1.trans K5.out).step h7 (fun x hx => .inr (M6 x hx).1))
                              have R6 : Hid (Rw w6 G2 f2 n) := Hid.mk ((HM.out.2.2.1.keep K5.out (by simp)).keep h7 (fun hx => (M6 _ hx).2 rfl))
                              have Z6 : Hid (wa.heap.size ≤ w6.heap.size) := Hid.mk (by have := HM.out.2.2.2.2; have := K5.out.size; have := h7.size; omega)
                              clear h6 h7 h8 M6 e5 hs5 R5 O5
                              go_wp2
                              go_roundw
                              case rel => exact ⟨t + 1, by omega, by go_num, Hid.mk ⟨O6.out, L6.out, R6.out, K6.out, Z6.out⟩⟩
                              case measure => simp [intOf]; omega
                            · have ht40 : t = 40 := by omega
                              have i40 : ¬ (t : Int) < 40 := by omega
                              obtain ⟨wb, rfl⟩ : ∃ wb, wb = wr := ⟨_, rfl⟩
                              obtain ⟨bG, cG, rfl⟩ := row_some HM.out.1 (by omega)
                              obtain ⟨N4, eN4⟩ : ∃ x, n + t = x := ⟨_, rfl⟩
                              have OG0 := HM.out.1
                              rw [eN4] at OG0
                              have OG := Hid.mk OG0
                              have HN4 : Hid (N4 = n + 40) := Hid.mk (by omega)
                              rw [eN4]
                              have BG : Hid (bG ≠ G2 ∧ bG < wb.heap.size) := Hid.mk (by
                                refine ⟨?_, ?_⟩
                                · have q1 := HG12.out
                                  have q2 := HS.out
                                  rcases HM.out.2.1 with h | ⟨b, hb, hle⟩
                                  · have h' : bG = G1 := by simpa [Value.ownBlock] using h
                                    omega
                                  · have h' : bG = b := by simpa [Value.ownBlock] using hb
                                    omega
                                · rcases HM.out.1.2 with ⟨h1, _⟩ | ⟨g', cap', cur, h1, _, h3, _⟩
                                  · cases h1
                                  · cases h1; exact lt_of_block h3)
                              have OY := Hid.mk (own_rep HM.out.2.2.1 (fun j hj => FY.out j hj) (by omega : n ≤ 140737488355328))
                              have KW2 := Hid.mk HM.out.2.2.2.1
                              have ZZ2 : Hid (w0.heap.size ≤ wb.heap.size) := Hid.mk KW2.out.size
                              clear HM hlt ht OX RY OG0 eN4 ht40
                              go_wp2
                              clear i40
                              go_loopw [25, 26] (fun v i wr => ∃ k : Nat, k ≤ 40 ∧ i = .int .i64 (k : Int) ∧ Hid (wr.ownsRow 0 5 1 v (n + k) (List.replicate (n + k) (byt 2)) ∧ (v.ownBlock = some G2 ∨ ∃ b, v.ownBlock = some b ∧ wb.heap.size ≤ b) ∧ wr.ownsRow 0 5 1 (.slice (some ⟨bG, 0, none⟩) N4 cG) N4 (List.replicate N4 (byt 1)) ∧ Kept [] w0 wr ∧ wb.heap.size ≤ wr.heap.size)) (fun _ i _ => 40 - (intOf i).toNat)
                              case atStart => exact ⟨0, by omega, rfl, Hid.mk ⟨OY.out, .inl rfl, OG.out, KW2.out, Nat.le_refl _⟩⟩
                              case round =>
                                obtain ⟨t, ht, rfl, HM⟩ := hrel
                                by_cases hlt : t < 40
                                · have it : (t : Int) < 40 := by omega
                                  obtain ⟨w5, e5⟩ : ∃ w5, wr.alloc (.cells #[.int .u8 2] 5 (0, 0)) = w5 := ⟨_, rfl⟩
                                  have k5 : Kept [] wr w5 := by rw [← e5]; exact (Kept.refl [] wr).alloc _
                                  have r5 : Reads w5 (some ⟨wr.heap.size, 0, none⟩) [2] := by
                                    have b5 : w5.heap[wr.heap.size]? = some (.cells #[.int .u8 2] 5 (0, 0)) := by rw [← e5]; exact heap_alloc_new _ _
                                    exact .inr ⟨_, _, rfl, fun i hi => by
                                      have : i = 0 := by simp at hi; omega
                                      subst this; simp [World.cell?, b5, byt]⟩
                                  have O5 := Hid.mk (k5.row HM.out.1 (by simp))
                                  have K5 := Hid.mk k5
                                  have R5 := Hid.mk r5
                                  clear k5 r5
                                  go_wp2_with (at_builtin; refine wpList_app8 0 _ rfl _ _ rfl _ (n + t) _ rfl O5.out (some ⟨wr.heap.size, 0, none⟩) 1 1 [2] rfl R5.out rfl (fun h => by cases h) (Nat.zero_le _) (by omega) ?_)
                                  intro v6 w6 h6 h7 h8
                                  have O6 : Hid (w6.ownsRow 0 5 1 v6 (n + (t + 1)) (List.replicate (n + (t + 1)) (byt 2))) := Hid.mk (by
                                    rw [← Nat.add_assoc, List.replicate_succ']
                                    exact h6)
                                  have L6 : Hid (v6.ownBlock = some G2 ∨ ∃ b, v6.ownBlock = some b ∧ wb.heap.size ≤ b) := Hid.mk (by
                                    rcases h8 with h | ⟨b, hb, hle⟩
                                    · rw [h]; exact HM.out.2.1
                                    · exact .inr ⟨b, hb, by have := HM.out.2.2.2.2; have := K5.out.size; omega⟩)
                                  have M6 : ∀ x ∈ u25.ownBlock.toList, w0.heap.size ≤ x ∧ x ≠ bG := fun x hx => by
                                    have q1 := HG12.out
                                    have q2 := BG.out
                                    have q3 := ZZ2.out
                                    rcases HM.out.2.1 with h | ⟨b, hb, hle⟩
                                    · rw [h] at hx; simp at hx; omega
                                    · rw [hb] at hx; simp at hx; omega
                                  have K6 : Hid (Kept [] w0 w6) := Hid.mk ((HM.out.2.2.2.1.trans K5.out).step h7 (fun x hx => .inr (M6 x hx).1))
                                  have R6 := Hid.mk (h7.row (K5.out.row HM.out.2.2.1 (by simp)) (fun g hg hx => (M6 g hx).2 (by simpa [Value.ownBlock] using hg.symm)))
                                  have Z6 : Hid (wb.heap.size ≤ w6.heap.size) := Hid.mk (by have := HM.out.2.2.2.2; have := K5.out.size; have := h7.size; omega)
                                  clear h6 h7 h8 M6 e5 R5 O5
                                  go_wp2
                                  go_roundw
                                  case rel => exact ⟨t + 1, by omega, by go_num, Hid.mk ⟨O6.out, L6.out, R6.out, K6.out, Z6.out⟩⟩
                                  case measure => simp [intOf]; omega
                                · have ht40 : n + t = N4 := by have := HN4.out; omega
                                  have i40 : ¬ (t : Int) < 40 := by omega
                                  obtain ⟨bH, cH, rfl⟩ := row_some HM.out.1 (by omega)
                                  have OH0 := HM.out.1
                                  rw [ht40] at OH0
                                  have OH := Hid.mk OH0
                                  rw [ht40]
                                  have OG2 := Hid.mk HM.out.2.2.1
                                  have KW3 := Hid.mk HM.out.2.2.2.1
                                  have hN4 : N4 ≤ 140737488355328 := by have := HN4.out; omega
                                  clear HM hlt ht OG BG OY KW2 ZZ2 hbn OH0 ht40 HN4
                                  go_wp2
                                  clear i40
                                  go_loopw [27] (fun i wr => ∃ k : Nat, k ≤ N4 ∧ i = .int .i64 (k : Int) ∧ Hid (wr.ownsRow 0 5 1 (.slice (some ⟨bG, 0, none⟩) N4 cG) N4 (List.replicate N4 (byt 1)) ∧ wr.ownsRow 0 5 1 (.slice (some ⟨bH, 0, none⟩) N4 cH) N4 (List.replicate N4 (byt 2)) ∧ Kept [] w0 wr)) (fun i _ => N4 - (intOf i).toNat)
                                  case atStart => exact ⟨0, Nat.zero_le _, rfl, Hid.mk ⟨OG2.out, OH.out, KW3.out⟩⟩
                                  case round =>
                                    obtain ⟨t, ht, rfl, HM⟩ := hrel
                                    by_cases hlt : t < N4
                                    · have it : (t : Int) < (N4 : Int) := by omega
                                      have c1 : wr.cell? ⟨bG, t, none⟩ = some (.int .u8 1) := by
                                        have := HM.out.1.cells (g := bG) rfl t (byt 1) (by rw [List.getElem?_replicate, if_pos hlt])
                                        rwa [show (⟨bG, 0, none⟩ : Addr).add t = ⟨bG, t, none⟩ by unfold Addr.add; split <;> simp_all] at this
                                      have c2 : wr.cell? ⟨bH, t, none⟩ = some (.int .u8 2) := by
                                        have := HM.out.2.1.cells (g := bH) rfl t (byt 2) (by rw [List.getElem?_replicate, if_pos hlt])
                                        rwa [show (⟨bH, 0, none⟩ : Addr).add t = ⟨bH, t, none⟩ by unfold Addr.add; split <;> simp_all] at this
                                      go_wp2
                                      go_roundw
                                      case rel => exact ⟨t + 1, by omega, by go_num, HM⟩
                                      case measure => simp [intOf]; omega
                                    · have KF := Hid.mk HM.out.2.2
                                      have i27 : ¬ (t : Int) < (N4 : Int) := by omega
                                      clear hlt ht hN4
                                      go_wp2
                                      go_roundw
                                      case rel => exact ⟨k + 1, by go_num, by omega, by omega, Hid.mk ⟨HI.out.1.trans KF.out, HI.out.2.keep KF.out⟩⟩
                                      case measure => simp [intOf]; omega
              · have CR : Hid (∀ u, Kept [] w0 u → Calls Try.prog 26 #[.pointer (some ⟨P, 0, none⟩), .int .i64 a, .int .i64 n] u fun e w' => e = .returned (.tuple #[.slice none 0 0, .int .i64 151]) ∧ Kept [] u w') := Hid.mk (fun u hu => (hread_no BP P l a n u (HI.out.2.keep hu) (by omega) ba.2 (by rw [hm]; exact may)).mono (fun e w' h => ⟨h.1, by rw [h.2]; exact Kept.refl _ _⟩))
                have HBA := Hid.mk (And.intro ba (And.intro bn (And.intro may hl)))
                clear ba bn may
                go_wp2_with (fail)
                refine wp_region_held_drew (S := fun u => Kept [] w0 u) (by kernel_rfl) (Kept.refl [] w0).drew (fun hH0 => ?_)
                refine wpAnyH_take (i := 0) (oi := _) (v := ?_) rfl (by kernel_rfl) (by kernel_rfl) (by kernel_rfl) (fun _ _ _ h => h) (Or.inl ⟨by rfl, ?y0rc⟩) (by assumption) ?r0rc
                case y0rc => (intro u hSw; have hSu : Kept [] w0 u := hSw; have na' := nil_ahead ⟨P, 0, none⟩ u; have la := cell_kw ⟨u, hSu⟩ CA.out; have ln := cell_kw ⟨u, hSu⟩ CN.out; go_simp; try with_reducible rfl)
                refine wpAnyH_take (i := 1) (oi := _) (v := ?_) rfl (by kernel_rfl) (by kernel_rfl) (by kernel_rfl) (fun _ _ _ h => h) (Or.inl ⟨by rfl, ?y1rc⟩) (by assumption) ?r1rc
                case y1rc => (intro u hSw; have hSu : Kept [] w0 u := hSw; have na' := nil_ahead ⟨P, 0, none⟩ u; have la := cell_kw ⟨u, hSu⟩ CA.out; have ln := cell_kw ⟨u, hSu⟩ CN.out; go_simp; try with_reducible rfl)
                refine wpAnyH_take (i := 2) (oi := _) (v := ?_) rfl (by kernel_rfl) (by kernel_rfl) (by kernel_rfl) (fun _ _ _ h => h) (Or.inl ⟨by rfl, ?y2rc⟩) (by assumption) ?r2rc
                case y2rc => (intro u hSw; have hSu : Kept [] w0 u := hSw; have na' := nil_ahead ⟨P, 0, none⟩ u; have la := cell_kw ⟨u, hSu⟩ CA.out; have ln := cell_kw ⟨u, hSu⟩ CN.out; go_simp; try with_reducible rfl)
                refine wpAnyH_take (i := 3) (oi := _) (v := ?_) rfl (by kernel_rfl) (by kernel_rfl) (by kernel_rfl) (fun _ _ _ h => h) (Or.inl ⟨by rfl, ?y3rc⟩) (by assumption) ?r3rc
                case y3rc => (intro u hSw; have hSu : Kept [] w0 u := hSw; have na' := nil_ahead ⟨P, 0, none⟩ u; have la := cell_kw ⟨u, hSu⟩ CA.out; have ln := cell_kw ⟨u, hSu⟩ CN.out; go_simp; try with_reducible rfl)
                refine wpAnyH_take (i := 4) (oi := _) (v := ?_) rfl (by kernel_rfl) (by kernel_rfl) (by kernel_rfl) (fun _ _ _ h => h) (Or.inl ⟨by rfl, ?y4rc⟩) (by assumption) ?r4rc
                case y4rc => (intro u hSw; have hSu : Kept [] w0 u := hSw; have na' := nil_ahead ⟨P, 0, none⟩ u; have la := cell_kw ⟨u, hSu⟩ CA.out; have ln := cell_kw ⟨u, hSu⟩ CN.out; go_simp; try with_reducible rfl)
                refine wpAnyH_take (i := 5) (oi := _) (v := ?_) rfl (by kernel_rfl) (by kernel_rfl) (by kernel_rfl) (fun _ _ _ h => h) (Or.inl ⟨by rfl, ?y5rc⟩) (by assumption) ?r5rc
                case y5rc => (intro u hSw; have hSu : Kept [] w0 u := hSw; have na' := nil_ahead ⟨P, 0, none⟩ u; have la := cell_kw ⟨u, hSu⟩ CA.out; have ln := cell_kw ⟨u, hSu⟩ CN.out; go_simp; try with_reducible rfl)
                refine wpAnyH_take (i := 6) (oi := _) (v := ?_) rfl (by kernel_rfl) (by kernel_rfl) (by kernel_rfl) (fun _ _ _ h => h) (Or.inl ⟨by rfl, ?y6rc⟩) (by assumption) ?r6rc
                case y6rc => (intro u hSw; have hSu : Kept [] w0 u := hSw; have na' := nil_ahead ⟨P, 0, none⟩ u; have la := cell_kw ⟨u, hSu⟩ CA.out; have ln := cell_kw ⟨u, hSu⟩ CN.out; go_simp; try with_reducible rfl)
                refine wpAnyH_take (i := 7) (oi := _) (v := ?_) rfl (by kernel_rfl) (by kernel_rfl) (by kernel_rfl) (fun _ _ _ h => h) (Or.inl ⟨by rfl, ?y7rc⟩) (by assumption) ?r7rc
                case y7rc => (intro u hSw; have hSu : Kept [] w0 u := hSw; have na' := nil_ahead ⟨P, 0, none⟩ u; have la := cell_kw ⟨u, hSu⟩ CA.out; have ln := cell_kw ⟨u, hSu⟩ CN.out; go_simp; try with_reducible rfl)
                refine wpAnyH_take (i := 8) (oi := _) (v := ?_) rfl (by kernel_rfl) (by kernel_rfl) (by kernel_rfl) (fun _ _ _ h => h) (Or.inl ⟨by rfl, ?y8rc⟩) (by assumption) ?r8rc
                case y8rc => (intro u hSw; have hSu : Kept [] w0 u := hSw; have na' := nil_ahead ⟨P, 0, none⟩ u; have la := cell_kw ⟨u, hSu⟩ CA.out; have ln := cell_kw ⟨u, hSu⟩ CN.out; go_simp; try with_reducible rfl)
                refine wpAnyH_take (i := 9) (oi := _) (v := ?_) rfl (by kernel_rfl) (by kernel_rfl) (by kernel_rfl) (fun _ _ _ h => h) (Or.inl ⟨by rfl, ?y9rc⟩) (by assumption) ?r9rc
                case y9rc => (intro u hSw; have hSu : Kept [] w0 u := hSw; have na' := nil_ahead ⟨P, 0, none⟩ u; have la := cell_kw ⟨u, hSu⟩ CA.out; have ln := cell_kw ⟨u, hSu⟩ CN.out; go_simp; try with_reducible rfl)
                refine wpAnyH_take (i := 10) (oi := _) (v := ?_) rfl (by kernel_rfl) (by kernel_rfl) (by kernel_rfl) (fun _ _ _ h => h) (Or.inl ⟨by rfl, ?y10rc⟩) (by assumption) ?r10rc
                case y10rc => (intro u hSw; have hSu : Kept [] w0 u := hSw; have na' := nil_ahead ⟨P, 0, none⟩ u; have la := cell_kw ⟨u, hSu⟩ CA.out; have ln := cell_kw ⟨u, hSu⟩ CN.out; go_simp; try with_reducible rfl)
                refine wpAnyH_take (i := 11) (oi := _) (v := ?_) rfl (by kernel_rfl) (by kernel_rfl) (by kernel_rfl) (fun _ _ _ h => h) (Or.inl ⟨by rfl, ?y11rc⟩) (by assumption) ?r11rc
                case y11rc => (intro u hSw; have hSu : Kept [] w0 u := hSw; have na' := nil_ahead ⟨P, 0, none⟩ u; have la := cell_kw ⟨u, hSu⟩ CA.out; have ln := cell_kw ⟨u, hSu⟩ CN.out; go_simp; try with_reducible rfl)
                refine wpAnyH_ready (rs := [12]) (by kernel_rfl) (by simp) ?_
                refine AllReadyH.cons rfl (fun K hK => ?_) AllReadyH.nil
                go_simp
                go_invoke
                simp only [Result.andThen_ok]
                go_simp
                go_at_call 26
                refine (CR.out _ hH0).mono ?_
                rintro e w9 ⟨rfl, k9⟩
                have K9 := Hid.mk (hH0.trans k9)
                refine hK.out _ _ K9.out (fun hH1 => ?_)
                clear hK K hH0 hH1
                refine wpAnyH_take (i := 13) (oi := _) (v := ?_) rfl (by kernel_rfl) (by kernel_rfl) (by kernel_rfl) (fun _ _ _ h => h) (Or.inl ⟨by rfl, ?y13rc⟩) (by assumption) ?r13rc
                case y13rc => (intro u hSw; have hSu : Kept [] w0 u := hSw; go_simp; try with_reducible rfl)
                refine wpAnyH_take (i := 14) (oi := _) (v := ?_) rfl (by kernel_rfl) (by kernel_rfl) (by kernel_rfl) (fun _ _ _ h => h) (Or.inl ⟨by rfl, ?y14rc⟩) (by assumption) ?r14rc
                case y14rc => (intro u hSw; have hSu : Kept [] w0 u := hSw; go_simp; try with_reducible rfl)
                refine wpAnyH_take (i := 15) (oi := _) (v := ?_) rfl (by kernel_rfl) (by kernel_rfl) (by kernel_rfl) (fun _ _ _ h => h) (Or.inl ⟨by rfl, ?y15rc⟩) (by assumption) ?r15rc
                case y15rc => (intro u hSw; have hSu : Kept [] w0 u := hSw; go_simp; try with_reducible rfl)
                refine wpAnyH_take (i := 16) (oi := _) (v := ?_) rfl (by kernel_rfl) (by kernel_rfl) (by kernel_rfl) (fun _ _ _ h => h) (Or.inl ⟨by rfl, ?y16rc⟩) (by assumption) ?r16rc
                case y16rc => (intro u hSw; have hSu : Kept [] w0 u := hSw; go_simp; try with_reducible rfl)
                refine wpAnyH_take (i := 17) (oi := _) (v := ?_) rfl (by kernel_rfl) (by kernel_rfl) (by kernel_rfl) (fun _ _ _ h => h) (Or.inl ⟨by rfl, ?y17rc⟩) (by assumption) ?r17rc
                case y17rc => (intro u hSw; have hSu : Kept [] w0 u := hSw; go_simp; try with_reducible rfl)
                refine wpAnyH_done (by kernel_rfl) ?_ _
                clear k9
                go_wp2_with (fail)
                refine wp_region_held_drew (S := fun u => Kept [] w9 u) (by kernel_rfl) (Kept.refl [] w9).drew (fun hH0 => ?_)
                refine wpAnyH_take (i := 0) (oi := _) (v := ?_) rfl (by kernel_rfl) (by kernel_rfl) (by kernel_rfl) (fun _ _ _ h => h) (Or.inl ⟨by rfl, ?y0rd⟩) (by assumption) ?r0rd
                case y0rd => (intro u hSw; have hSu : Kept [] w9 u := hSw; have na' := nil_ahead ⟨P, 0, none⟩ u; have la := cell_kw ⟨u, hSu⟩ (cell_kw ⟨w9, K9.out⟩ CA.out); have ln := cell_kw ⟨u, hSu⟩ (cell_kw ⟨w9, K9.out⟩ CN.out); go_simp; try with_reducible rfl)
                refine wpAnyH_take (i := 1) (oi := _) (v := ?_) rfl (by kernel_rfl) (by kernel_rfl) (by kernel_rfl) (fun _ _ _ h => h) (Or.inl ⟨by rfl, ?y1rd⟩) (by assumption) ?r1rd
                case y1rd => (intro u hSw; have hSu : Kept [] w9 u := hSw; have na' := nil_ahead ⟨P, 0, none⟩ u; have la := cell_kw ⟨u, hSu⟩ (cell_kw ⟨w9, K9.out⟩ CA.out); have ln := cell_kw ⟨u, hSu⟩ (cell_kw ⟨w9, K9.out⟩ CN.out); go_simp; try with_reducible rfl)
                refine wpAnyH_take (i := 2) (oi := _) (v := ?_) rfl (by kernel_rfl) (by kernel_rfl) (by kernel_rfl) (fun _ _ _ h => h) (Or.inl ⟨by rfl, ?y2rd⟩) (by assumption) ?r2rd
                case y2rd => (intro u hSw; have hSu : Kept [] w9 u := hSw; have na' := nil_ahead ⟨P, 0, none⟩ u; have la := cell_kw ⟨u, hSu⟩ (cell_kw ⟨w9, K9.out⟩ CA.out); have ln := cell_kw ⟨u, hSu⟩ (cell_kw ⟨w9, K9.out⟩ CN.out); go_simp; try with_reducible rfl)
                refine wpAnyH_take (i := 3) (oi := _) (v := ?_) rfl (by kernel_rfl) (by kernel_rfl) (by kernel_rfl) (fun _ _ _ h => h) (Or.inl ⟨by rfl, ?y3rd⟩) (by assumption) ?r3rd
                case y3rd => (intro u hSw; have hSu : Kept [] w9 u := hSw; have na' := nil_ahead ⟨P, 0, none⟩ u; have la := cell_kw ⟨u, hSu⟩ (cell_kw ⟨w9, K9.out⟩ CA.out); have ln := cell_kw ⟨u, hSu⟩ (cell_kw ⟨w9, K9.out⟩ CN.out); go_simp; try with_reducible rfl)
                refine wpAnyH_take (i := 4) (oi := _) (v := ?_) rfl (by kernel_rfl) (by kernel_rfl) (by kernel_rfl) (fun _ _ _ h => h) (Or.inl ⟨by rfl, ?y4rd⟩) (by assumption) ?r4rd
                case y4rd => (intro u hSw; have hSu : Kept [] w9 u := hSw; have na' := nil_ahead ⟨P, 0, none⟩ u; have la := cell_kw ⟨u, hSu⟩ (cell_kw ⟨w9, K9.out⟩ CA.out); have ln := cell_kw ⟨u, hSu⟩ (cell_kw ⟨w9, K9.out⟩ CN.out); go_simp; try with_reducible rfl)
                refine wpAnyH_take (i := 5) (oi := _) (v := ?_) rfl (by kernel_rfl) (by kernel_rfl) (by kernel_rfl) (fun _ _ _ h => h) (Or.inl ⟨by rfl, ?y5rd⟩) (by assumption) ?r5rd
                case y5rd => (intro u hSw; have hSu : Kept [] w9 u := hSw; have na' := nil_ahead ⟨P, 0, none⟩ u; have la := cell_kw ⟨u, hSu⟩ (cell_kw ⟨w9, K9.out⟩ CA.out); have ln := cell_kw ⟨u, hSu⟩ (cell_kw ⟨w9, K9.out⟩ CN.out); go_simp; try with_reducible rfl)
                refine wpAnyH_take (i := 6) (oi := _) (v := ?_) rfl (by kernel_rfl) (by kernel_rfl) (by kernel_rfl) (fun _ _ _ h => h) (Or.inl ⟨by rfl, ?y6rd⟩) (by assumption) ?r6rd
                case y6rd => (intro u hSw; have hSu : Kept [] w9 u := hSw; have na' := nil_ahead ⟨P, 0, none⟩ u; have la := cell_kw ⟨u, hSu⟩ (cell_kw ⟨w9, K9.out⟩ CA.out); have ln := cell_kw ⟨u, hSu⟩ (cell_kw ⟨w9, K9.out⟩ CN.out); go_simp; try with_reducible rfl)
                refine wpAnyH_take (i := 7) (oi := _) (v := ?_) rfl (by kernel_rfl) (by kernel_rfl) (by kernel_rfl) (fun _ _ _ h => h) (Or.inl ⟨by rfl, ?y7rd⟩) (by assumption) ?r7rd
                case y7rd => (intro u hSw; have hSu : Kept [] w9 u := hSw; have na' := nil_ahead ⟨P, 0, none⟩ u; have la := cell_kw ⟨u, hSu⟩ (cell_kw ⟨w9, K9.out⟩ CA.out); have ln := cell_kw ⟨u, hSu⟩ (cell_kw ⟨w9, K9.out⟩ CN.out); go_simp; try with_reducible rfl)
                refine wpAnyH_take (i := 8) (oi := _) (v := ?_) rfl (by kernel_rfl) (by kernel_rfl) (by kernel_rfl) (fun _ _ _ h => h) (Or.inl ⟨by rfl, ?y8rd⟩) (by assumption) ?r8rd
                case y8rd => (intro u hSw; have hSu : Kept [] w9 u := hSw; have na' := nil_ahead ⟨P, 0, none⟩ u; have la := cell_kw ⟨u, hSu⟩ (cell_kw ⟨w9, K9.out⟩ CA.out); have ln := cell_kw ⟨u, hSu⟩ (cell_kw ⟨w9, K9.out⟩ CN.out); go_simp; try with_reducible rfl)
                refine wpAnyH_take (i := 9) (oi := _) (v := ?_) rfl (by kernel_rfl) (by kernel_rfl) (by kernel_rfl) (fun _ _ _ h => h) (Or.inl ⟨by rfl, ?y9rd⟩) (by assumption) ?r9rd
                case y9rd => (intro u hSw; have hSu : Kept [] w9 u := hSw; have na' := nil_ahead ⟨P, 0, none⟩ u; have la := cell_kw ⟨u, hSu⟩ (cell_kw ⟨w9, K9.out⟩ CA.out); have ln := cell_kw ⟨u, hSu⟩ (cell_kw ⟨w9, K9.out⟩ CN.out); go_simp; try with_reducible rfl)
                refine wpAnyH_take (i := 10) (oi := _) (v := ?_) rfl (by kernel_rfl) (by kernel_rfl) (by kernel_rfl) (fun _ _ _ h => h) (Or.inl ⟨by rfl, ?y10rd⟩) (by assumption) ?r10rd
                case y10rd => (intro u hSw; have hSu : Kept [] w9 u := hSw; have na' := nil_ahead ⟨P, 0, none⟩ u; have la := cell_kw ⟨u, hSu⟩ (cell_kw ⟨w9, K9.out⟩ CA.out); have ln := cell_kw ⟨u, hSu⟩ (cell_kw ⟨w9, K9.out⟩ CN.out); go_simp; try with_reducible rfl)
                refine wpAnyH_take (i := 11) (oi := _) (v := ?_) rfl (by kernel_rfl) (by kernel_rfl) (by kernel_rfl) (fun _ _ _ h => h) (Or.inl ⟨by rfl, ?y11rd⟩) (by assumption) ?r11rd
                case y11rd => (intro u hSw; have hSu : Kept [] w9 u := hSw; have na' := nil_ahead ⟨P, 0, none⟩ u; have la := cell_kw ⟨u, hSu⟩ (cell_kw ⟨w9, K9.out⟩ CA.out); have ln := cell_kw ⟨u, hSu⟩ (cell_kw ⟨w9, K9.out⟩ CN.out); go_simp; try with_reducible rfl)
                refine wpAnyH_ready (rs := [12]) (by kernel_rfl) (by simp) ?_
                refine AllReadyH.cons rfl (fun K hK => ?_) AllReadyH.nil
                go_simp
                go_invoke
                simp only [Result.andThen_ok]
                go_simp
                go_at_call 26
                refine (CR.out _ (K9.out.trans hH0)).mono ?_
                rintro e w10 ⟨rfl, k10⟩
                have K10b := Hid.mk (hH0.trans k10)
                have K10 := Hid.mk (K9.out.trans K10b.out)
                refine hK.out _ _ K10b.out (fun hH1 => ?_)
                clear hK K hH0 hH1
                refine wpAnyH_take (i := 13) (oi := _) (v := ?_) rfl (by kernel_rfl) (by kernel_rfl) (by kernel_rfl) (fun _ _ _ h => h) (Or.inl ⟨by rfl, ?y13rd⟩) (by assumption) ?r13rd
                case y13rd => (intro u hSw; have hSu : Kept [] w9 u := hSw; go_simp; try with_reducible rfl)
                refine wpAnyH_take (i := 14) (oi := _) (v := ?_) rfl (by kernel_rfl) (by kernel_rfl) (by kernel_rfl) (fun _ _ _ h => h) (Or.inl ⟨by rfl, ?y14rd⟩) (by assumption) ?r14rd
                case y14rd => (intro u hSw; have hSu : Kept [] w9 u := hSw; go_simp; try with_reducible rfl)
                refine wpAnyH_take (i := 15) (oi := _) (v := ?_) rfl (by kernel_rfl) (by kernel_rfl) (by kernel_rfl) (fun _ _ _ h => h) (Or.inl ⟨by rfl, ?y15rd⟩) (by assumption) ?r15rd
                case y15rd => (intro u hSw; have hSu : Kept [] w9 u := hSw; go_simp; try with_reducible rfl)
                refine wpAnyH_take (i := 16) (oi := _) (v := ?_) rfl (by kernel_rfl) (by kernel_rfl) (by kernel_rfl) (fun _ _ _ h => h) (Or.inl ⟨by rfl, ?y16rd⟩) (by assumption) ?r16rd
                case y16rd => (intro u hSw; have hSu : Kept [] w9 u := hSw; go_simp; try with_reducible rfl)
                refine wpAnyH_take (i := 17) (oi := _) (v := ?_) rfl (by kernel_rfl) (by kernel_rfl) (by kernel_rfl) (fun _ _ _ h => h) (Or.inl ⟨by rfl, ?y17rd⟩) (by assumption) ?r17rd
                case y17rd => (intro u hSw; have hSu : Kept [] w9 u := hSw; go_simp; try with_reducible rfl)
                refine wpAnyH_done (by kernel_rfl) ?_ _
                clear k10
                as_aux_lemma =>
                have la := fun q : KW w10 => cell_kw ⟨q.u, K10.out.trans q.h⟩ CA.out
                have ln := fun q : KW w10 => cell_kw ⟨q.u, K10.out.trans q.h⟩ CN.out
                have NE : Nonempty (KW w10) := ⟨⟨w10, Kept.refl _ _⟩⟩
                by_cases h1 : a < 0
                · have e1 : decide ((0 : Int) ≤ a) = false := by simp; omega
                  go_wp2_with (fail)
                  refine wp_region_kept (by kernel_rfl) (by kernel_rfl) ?_
                  repeat (go_big_quiet_step (fail))
                  refine wpQuiet_nil ?_
                  rintro _ ⟨z, rfl⟩
                  have KF := Hid.mk (K10.out.trans z.h)
                  generalize z.u = wz2 at *
                  clear la ln NE e1 h1
                  as_aux_lemma =>
                  have C11 := Hid.mk (hsize_any BP P l wz2 (HI.out.2.keep KF.out))
                  rw [hm] at C11
                  go_wp2_with (fail)
                  refine C11.out.mono ?_
                  rintro e w11 ⟨rfl, hw11⟩
                  obtain rfl := hw11.symm
                  clear hw11 C11
                  go_wp2
                  go_roundw
                  case rel => exact ⟨k + 1, by go_num, by omega, by omega, Hid.mk ⟨HI.out.1.trans KF.out, HI.out.2.keep KF.out⟩⟩
                  case measure => simp [intOf]; omega
                · have e1 : decide ((0 : Int) ≤ a) = true := by simp; omega
                  by_cases h2 : n < 0
                  · have e2 : decide ((0 : Int) ≤ n) = false := by simp; omega
                    go_wp2_with (fail)
                    refine wp_region_kept (by kernel_rfl) (by kernel_rfl) ?_
                    repeat (go_big_quiet_step (fail))
                    refine wpQuiet_nil ?_
                    rintro _ ⟨z, rfl⟩
                    have KF := Hid.mk (K10.out.trans z.h)
                    generalize z.u = wz2 at *
                    clear la ln NE e1 e2 h1 h2
                    as_aux_lemma =>
                    have C11 := Hid.mk (hsize_any BP P l wz2 (HI.out.2.keep KF.out))
                    rw [hm] at C11
                    go_wp2_with (fail)
                    refine C11.out.mono ?_
                    rintro e w11 ⟨rfl, hw11⟩
                    obtain rfl := hw11.symm
                    clear hw11 C11
                    go_wp2
                    go_roundw
                    case rel => exact ⟨k + 1, by go_num, by omega, by omega, Hid.mk ⟨HI.out.1.trans KF.out, HI.out.2.keep KF.out⟩⟩
                    case measure => simp [intOf]; omega
                  · have e2 : decide ((0 : Int) ≤ n) = true := by simp; omega
                    by_cases h3 : (m : Int) < a
                    · have e3 : decide (a ≤ (m : Int)) = false := by simp; omega
                      go_wp2_with (fail)
                      refine wp_region_kept (by kernel_rfl) (by kernel_rfl) ?_
                      repeat (go_big_quiet_step (fail))
                      refine wpQuiet_nil ?_
                      rintro _ ⟨z, rfl⟩
                      have KF := Hid.mk (K10.out.trans z.h)
                      generalize z.u = wz2 at *
                      clear la ln NE e1 e2 e3 h1 h2 h3
                      as_aux_lemma =>
                      have C11 := Hid.mk (hsize_any BP P l wz2 (HI.out.2.keep KF.out))
                      rw [hm] at C11
                      go_wp2_with (fail)
                      refine C11.out.mono ?_
                      rintro e w11 ⟨rfl, hw11⟩
                      obtain rfl := hw11.symm
                      clear hw11 C11
                      go_wp2
                      go_roundw
                      case rel => exact ⟨k + 1, by go_num, by omega, by omega, Hid.mk ⟨HI.out.1.trans KF.out, HI.out.2.keep KF.out⟩⟩
                      case measure => simp [intOf]; omega
                    · have e3 : decide (a ≤ (m : Int)) = true := by simp; omega
                      have e4 : decide (n ≤ (m : Int) - a) = false := by have := HBA.out; simp; omega
                      have V1 : Hid (wrap64 ((m : Int) - a) = (m : Int) - a) := Hid.mk (by have := HBA.out; unfold wrap64; omega)
                      have V2 : Hid (IntKind.i64.wrap ((m : Int) - a) = (m : Int) - a) := Hid.mk (by have := HBA.out; unfold IntKind.wrap; simp [IntKind.bits, IntKind.signed]; omega)
                      have v1 := V1.out
                      have v2 := V2.out
                      go_wp2_with (fail)
                      refine wp_region_kept (by kernel_rfl) (by kernel_rfl) ?_
                      repeat (go_big_quiet_step (fail))
                      refine wpQuiet_nil ?_
                      rintro _ ⟨z, rfl⟩
                      have KF := Hid.mk (K10.out.trans z.h)
                      generalize z.u = wz2 at *
                      clear la ln NE v1 v2 V1 V2 e1 e2 e3 e4
                      as_aux_lemma =>
                      have C11 := Hid.mk (hsize_any BP P l wz2 (HI.out.2.keep KF.out))
                      rw [hm] at C11
                      go_wp2_with (fail)
                      refine C11.out.mono ?_
                      rintro e w11 ⟨rfl, hw11⟩
                      obtain rfl := hw11.symm
                      clear hw11 C11
                      go_wp2
                      go_roundw
                      case rel => exact ⟨k + 1, by go_num, by omega, by omega, Hid.mk ⟨HI.out.1.trans KF.out, HI.out.2.keep KF.out⟩⟩
                      case measure => simp [intOf]; omega
            · have HKW := Hid.mk HI.out.1
              by_cases h1 : k < na
              · have d1 : (k : Int) < (na : Int) := by omega
                have d2 : ¬ (k : Int) < (nn : Int) := by omega
                clear hlt
                go_wp2
                go_ret
                exact ⟨rfl, HKW.out⟩
              · have d1 : ¬ (k : Int) < (na : Int) := by omega
                clear hlt
                go_wp2
                go_ret
                exact ⟨rfl, HKW.out⟩
end Go.Proofs.Ytnbhboojhmmdhaa

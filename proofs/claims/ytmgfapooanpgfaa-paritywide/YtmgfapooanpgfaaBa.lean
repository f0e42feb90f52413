import Derived.Test.YtmgfapooanpgfaaAw
import Derived.Test.YtmgfapooanpgfaaPk
import Derived.Lib.ConvBytes
namespace Go.Proofs.Ytmgfapooanpgfaa
open Go.RowKit

/-- append of one value onto a row of one's own, in a region that draws. -/
theorem step_own1 {ops : Array Oper} {o : Oper} {a : Act} {w : World} {K : Act → World → Prop} {Q : Exit → Act → World → Prop} {E : Prop} (hg : o.guard = none) (s x : Operand) (t e : Nat) (i0 : TypeInfo) (z : Value) (by_ : Nat)
    (hu : Try.prog.underlying t = some (.slice e)) (hi : Try.prog.info? e = some i0) (hz0 : i0.zero = some z) (hz1 : i0.size = 1) (hz2 : i0.bytes = by_) (hzz : z.cells.size = 1) (hby : by_ ≤ 24)
    (hop : o.op = Op.call { callee := Callee.builtin Builtin.append, args := #[s, x], argTypes := #[t, t] })
    (B : Nat) (v : Value) (n : Nat) (xs : List Value) (hs : a.eval s = v) (hown : w.ownsRow B e 1 v n xs) (gx c : Nat) (hx : a.eval x = .slice (some ⟨gx, 0, none⟩) 1 c) (y : Value) (hc : w.cell? ⟨gx, 0, none⟩ = some y) (hone : y.oneCell' = true) (hb : n ≤ 1000000) (hBw : B ≤ w.heap.size)
    (hK : ∀ v' w', w'.ownsRow B e 1 v' (n + 1) (xs ++ [y]) → Kept v.ownBlock.toList w w' → Lies w v v' → K (a.put o.dst v') w') :
    if Region.wanted o (yielded ops a.tmps) = true then Oper.wp Try.prog o a w K Q else E := by
  have hw : Region.wanted o (yielded ops a.tmps) = true := by simp [Region.wanted, hg]
  rw [if_pos hw]
  obtain ⟨v', w', hr, h2, h3, h4, h5⟩ := run_append_own_at (P := Try.prog) w B t o.type e i0 z 1 by_ hu hi hz0 hz1 hz2 hzz (by decide) v n xs hown ⟨gx, 0, none⟩ 1 c [y] rfl (fun j u hj => by
    match j with
    | 0 => simp at hj; subst hj; simpa [Addr.add] using hc
    | j + 1 => simp at hj) (fun u hu => by simp at hu; subst hu; exact hone) (by unfold maxLen; omega) (by have : (n + 1) * by_ ≤ 1000001 * 24 := Nat.mul_le_mul (by omega) hby; omega) hBw
  unfold Oper.wp
  simp [execOp, hop, resolve, invoke, builtin, hs, hx, hr, Result.andThen]
  refine hK v' w' h2 (Kept.of_grown h3) ?_
  rcases h5 with h | h
  · exact .inl h
  · exact .inr ⟨_, h, Nat.le_refl _⟩

theorem bytesWorld_kept (w : World) (s : ByteArray) : Kept [] w (Lib.bytesWorld w 5 s) :=
  ⟨rfl, rfl, rfl, by rw [Lib.bytesWorld_size]; omega, fun k hk _ => Lib.bytesWorld_at_old w 5 s k hk⟩

/-- A text's bytes. -/
def byl (s : ByteArray) : List Nat := s.data.toList.map (·.toNat)
theorem byl_length (s : ByteArray) : (byl s).length = s.size := by simp [byl]
theorem byl_byts (s : ByteArray) : Byts (byl s) := by
  intro b hb
  simp only [byl, List.mem_map] at hb
  obtain ⟨x, _, rfl⟩ := hb
  exact x.toNat_lt
theorem bytesWorld_reads (w : World) (s : ByteArray) : Reads (Lib.bytesWorld w 5 s) (some ⟨w.heap.size, 0, none⟩) (byl s) := by
  refine .inr ⟨_, 0, rfl, fun j hj => ?_⟩
  rw [byl_length] at hj
  rw [Nat.zero_add, Lib.bytesWorld_cell w 5 s j hj]
  have hj2 : j < s.data.size := hj
  simp only [byt, byl, List.getD_eq_getElem?_getD, List.getElem?_map, Array.getElem?_toList, Array.getElem?_eq_getElem hj2]
  rfl
/-- A list of rows that grows. -/
structure RwI (B : Nat) (w : World) (V : Value) (k : Nat) (f : Nat → Value) (L : Nat → List Nat) : Prop where
  own : w.ownsRow B 40 1 V k (fl f k)
  row : ∀ i, i < k → ∃ g c, f i = .slice (some ⟨g, 0, none⟩) (L i).length c ∧ (L i).length ≤ c ∧ Reads w (some ⟨g, 0, none⟩) (L i) ∧ B ≤ g ∧ g < w.heap.size ∧ V.ownBlock ≠ some g
theorem RwI.step {B : Nat} {w wA w' : World} {V V' val : Value} {k gn c : Nat} {f : Nat → Value} {L : Nat → List Nat} (h : RwI B w V k f L) (hB : B ≤ w.heap.size) (hk : Kept [] w wA) (hval : val = .slice (some ⟨gn, 0, none⟩) (L k).length c) (hc : (L k).length ≤ c) (hgn : w.heap.size ≤ gn) (hgn2 : gn < wA.heap.size) (hr : Reads wA (some ⟨gn, 0, none⟩) (L k))
    (ho : w'.ownsRow B 40 1 V' (k + 1) (fl f k ++ [val])) (hk2 : Kept V.ownBlock.toList wA w') (hl : Lies wA V V') : RwI B w' V' (k + 1) (fun i => if i = k then val else f i) L := by
  have hvl : ∀ x, V.ownBlock = some x → x < w.heap.size := fun x hx => by
    rcases h.own.2 with ⟨e, _⟩ | ⟨g, cap, cur, e, _, hg, _⟩
    · rw [e] at hx; simp [Value.ownBlock] at hx
    · rw [e] at hx; simp [Value.ownBlock] at hx; subst hx; exact lt_of_block hg
  refine ⟨?_, fun i hi => ?_⟩
  · rw [show fl f k ++ [val] = fl f k ++ fl (fun _ => val) 1 from rfl, fl_app] at ho
    rw [fl_congr (g := fun i => if i < k then f i else val)]
    · exact ho
    · intro i hi
      by_cases e : i = k
      · subst e; rw [if_pos rfl, if_neg (by omega)]
      · rw [if_neg e, if_pos (by omega)]
  · by_cases e : i = k
    · subst e
      refine ⟨gn, c, by rw [if_pos rfl, hval], hc, hr.kept hk2 (fun g off e => ?_), by omega, Nat.lt_of_lt_of_le hgn2 hk2.size, ?_⟩
      · cases e
        rw [mem_own]
        intro hv
        have := hvl _ hv
        omega
      · rcases hl with hl | ⟨g, hg, hge⟩
        · rw [hl]; intro hv; have := hvl _ hv; omega
        · rw [hg]; intro e; cases e; omega
    · obtain ⟨g, c2, h1, h2, h3, h4, h5, h6⟩ := h.row i (by omega)
      refine ⟨g, c2, by rw [if_neg e, h1], h2, (h3.keep hk).kept hk2 (fun g2 off e => ?_), h4, by have := hk.size; have := hk2.size; omega, ?_⟩
      · cases e; rw [mem_own]; exact h6
      · rcases hl with hl | ⟨g2, hg, hge⟩
        · rw [hl]; exact h6
        · rw [hg]; intro e; cases e; have := hk.size; omega

/-- A row, as many bytes as may be. -/
def rowS (s : ByteArray) : List Nat := byl (s.extract 0 (min s.size 16777216))
theorem rowS_len (s : ByteArray) : (rowS s).length ≤ 16777216 := by rw [rowS, byl_length, ByteArray.size_extract]; omega

set_option maxHeartbeats 8000000 in
set_option maxRecDepth 1000000 in
theorem rowsOf_any (lo : Option Addr) (nl cl : Nat) (S : Nat → ByteArray) (w : World) (hl : Sv w lo nl (fun i => .string (S i))) (hnl : nl ≤ 140737488355328) :
    Calls Try.prog 11 #[.slice lo nl cl] w fun e w' => ∃ V f, e = .returned V ∧ RwI w.heap.size w' V (min nl 200) f (fun i => rowS (S i)) ∧ Kept [] w w' := by
  obtain ⟨j0, gi, gz0, gz1, gz2⟩ := info_parts Try.infoR
  have hconv : ∀ (u : World) (s : ByteArray), Sem.run Try.prog (convert 9 40 (.string s)) u = .ok (.slice (some ⟨u.heap.size, 0, none⟩) s.size (grownCap u s.size 0 5)) (Lib.bytesWorld u 5 s) := fun u s => Lib.run_convert_string_bytes u 9 40 5 s Try.underlying9 Try.underlying40 Try.underlying5
  have Hl := Hid.mk hl
  clear hl
  go_enter Try.func11, Try.ntmps11
  go_wp2
  go_loopw [3, 4] (fun v i wr => ∃ (k : Nat) (f : Nat → Value), k ≤ nl ∧ k ≤ 200 ∧ i = .int .i64 (k : Int) ∧ RwI w.heap.size wr v k f (fun i => rowS (S i)) ∧ Kept [] w wr) (fun _ i _ => 200 - (intOf i).toNat)
  case atStart => exact ⟨0, fun _ => .slice none 0 0, by omega, by omega, rfl, ⟨⟨rfl, .inl ⟨rfl, rfl⟩⟩, fun i hi => by omega⟩, Kept.refl _ _⟩
  case round =>
    obtain ⟨k, f, hk, hk2, rfl, hI, hkr⟩ := hrel
    by_cases hlt : k < nl
    · by_cases hlt2 : k < 200
      · obtain ⟨g, off, rfl, hc0⟩ := Hl.out.at hlt
        have hc := cell_keep hkr hc0 (by simp)
        have ix : (k : Int) < (nl : Int) := by omega
        have ix2 : decide ((k : Int) < 200) = true := by simp; omega
        obtain ⟨s, es⟩ : ∃ s, s = S k := ⟨_, rfl⟩
        rw [← es] at hc
        have hite : (if 16777216 < (s.size : Int) then (16777216 : Int) else (s.size : Int)) = ((min s.size 16777216 : Nat) : Int) := by split <;> omega
        have hmn : min s.size 16777216 ≤ s.size := by omega
        have Hq : Hid (byl (s.extract 0 (min s.size 16777216)) = rowS (S k)) := Hid.mk (by rw [es]; rfl)
        have Hqs : Hid ((s.extract 0 (min s.size 16777216)).size = (rowS (S k)).length) := Hid.mk (by rw [← Hq.out, byl_length])
        obtain ⟨mn, emn⟩ : ∃ mn, mn = min s.size 16777216 := ⟨_, rfl⟩
        rw [← emn] at hite hmn Hq Hqs
        have Hsz := Hid.mk hkr.size
        obtain ⟨q, eq⟩ : ∃ q, q = s.extract 0 mn := ⟨_, rfl⟩
        have hqe : s.extract 0 mn = q := eq.symm
        rw [← eq] at Hq Hqs
        clear es emn eq
        have HO : Hid (∀ ob, ((Lib.bytesWorld wr.drew 5 q).alloc ob).ownsRow w.heap.size 40 1 u3 k (fl f k)) := Hid.mk (fun ob => ((((Kept.refl [] wr).drew).trans (bytesWorld_kept wr.drew q)).row hI.own (by simp)).alloc ob)
        have HC : Hid (((Lib.bytesWorld wr.drew 5 q).alloc (.cells #[.slice (some ⟨wr.heap.size, 0, none⟩) q.size (grownCap wr.drew q.size 0 5)] 40)).cell? ⟨(Lib.bytesWorld wr.drew 5 q).heap.size, 0, none⟩ = some (.slice (some ⟨wr.heap.size, 0, none⟩) q.size (grownCap wr.drew q.size 0 5))) := Hid.mk (alloc_cell (Lib.bytesWorld wr.drew 5 q) #[.slice (some ⟨wr.heap.size, 0, none⟩) q.size (grownCap wr.drew q.size 0 5)] 40 0 _ rfl)
        have HBB : Hid (∀ ob, w.heap.size ≤ ((Lib.bytesWorld wr.drew 5 q).alloc ob).heap.size) := Hid.mk (fun ob => by rw [World.size_alloc, Lib.bytesWorld_size]; have := Hsz.out; show w.heap.size ≤ wr.heap.size + 1 + 1; omega)
        have HN : Hid (∀ V' w', w'.ownsRow w.heap.size 40 1 V' (k + 1) (fl f k ++ [.slice (some ⟨wr.heap.size, 0, none⟩) q.size (grownCap wr.drew q.size 0 5)]) → Kept u3.ownBlock.toList ((Lib.bytesWorld wr.drew 5 q).alloc (.cells #[.slice (some ⟨wr.heap.size, 0, none⟩) q.size (grownCap wr.drew q.size 0 5)] 40)) w' → Lies ((Lib.bytesWorld wr.drew 5 q).alloc (.cells #[.slice (some ⟨wr.heap.size, 0, none⟩) q.size (grownCap wr.drew q.size 0 5)] 40)) u3 V' → RwI w.heap.size w' V' (k + 1) (fun i => if i = k then .slice (some ⟨wr.heap.size, 0, none⟩) q.size (grownCap wr.drew q.size 0 5) else f i) (fun i => rowS (S i)) ∧ Kept [] w w') := Hid.mk (fun V' w' q1 q2 q3 => by
          have kA : Kept [] wr ((Lib.bytesWorld wr.drew 5 q).alloc (.cells #[.slice (some ⟨wr.heap.size, 0, none⟩) q.size (grownCap wr.drew q.size 0 5)] 40)) := (((Kept.refl [] wr).drew).trans (bytesWorld_kept wr.drew q)).alloc _
          refine ⟨hI.step Hsz.out kA (by rw [Hqs.out]) (by rw [← Hqs.out]; exact grownCap_ge _ _ _ _) (Nat.le_refl _) (by rw [World.size_alloc, Lib.bytesWorld_size]; show wr.heap.size < wr.heap.size + 1 + 1; omega) ?_ q1 q2 q3, (hkr.trans kA).step q2 (fun x hx => .inr (own_loE hI.own x hx))⟩
          rw [← Hq.out]
          exact (bytesWorld_reads wr.drew q).keep (alloc_kept _ _))
        clear hI hkr hc0
        go_wp2
        go_region_law (refine step_own1 rfl (.tmp 15) (.tmp 28) 34 40 j0 (.slice none 0 0) 24 Try.underlying34 gi gz0 gz1 gz2 rfl (by decide) rfl w.heap.size u3 k (fl f k) (by rfl) (HO.out _) (Lib.bytesWorld wr.drew 5 q).heap.size 1 (by rfl) _ HC.out rfl (by omega) (HBB.out _) ?_; intro v' w' hv1 hv2 hv3)
        all_goals go_wp2
        all_goals (obtain ⟨q1, q2⟩ := HN.out _ _ hv1 hv2 hv3)
        all_goals exact ⟨⟨k + 1, _, by omega, by omega, by go_num, q1, q2⟩, by simp [intOf]; omega⟩
      · have hI' : RwI w.heap.size wr u3 (min nl 200) f (fun i => rowS (S i)) := by rw [show min nl 200 = k by omega]; exact hI
        have HI := Hid.mk hI'
        have Hkr := Hid.mk hkr
        have ix : (k : Int) < (nl : Int) := by omega
        have ix2 : decide ((k : Int) < 200) = false := by simp; omega
        clear hI hkr hI'
        go_wp2
        go_ret
        exact ⟨_, f, rfl, HI.out, Hkr.out⟩
    · have hI' : RwI w.heap.size wr u3 (min nl 200) f (fun i => rowS (S i)) := by rw [show min nl 200 = k by omega]; exact hI
      have HI := Hid.mk hI'
      have Hkr := Hid.mk hkr
      obtain rfl : nl = k := by omega
      clear hI hkr hI'
      go_wp2
      go_ret
      exact ⟨_, f, rfl, HI.out, Hkr.out⟩
end Go.Proofs.Ytmgfapooanpgfaa

import Derived.Test.YtodlkpcbkilglaaDoorPdZ
import Derived.Test.YtodlkpcbkilglaaDoorPo
import Derived.Maps.AppendAt
namespace Go.Proofs.YtodlkpcbkilglaaDoor
open Go.RowKit Go.Shelf

/-- append of two bytes. -/
theorem wpList_two (w : World) {ops : Array Oper} {rest : List Oper} {o : Oper} {a : Act} {Q : Exit → Act → World → Prop} (hgd : o.guard = none) (s x : Operand) (B : Nat)
    (ho : o.op = .call { callee := .builtin .append, args := #[s, x], argTypes := #[37, 37] })
    (v : Value) (l : List Nat) (hs : a.eval s = v) (hown : w.ownsRow B 5 1 v l.length (l.map Bt.byt)) (p q : Nat) (hx : a.eval x = .slice (some ⟨w.heap.size, 0, none⟩) 2 2) (hB : B ≤ w.heap.size) (hb : l.length ≤ 100000000)
    (h : ∀ v' w', w'.ownsRow B 5 1 v' (l ++ [p, q]).length ((l ++ [p, q]).map Bt.byt) → Kept v.ownBlock.toList w w' → wpList Tryd.prog ops Q rest (a.put o.dst v') w') :
    wpList Tryd.prog ops Q (o :: rest) a (w.alloc (.cells #[.int .u8 (p : Int), .int .u8 (q : Int)] 5)) := by
  obtain ⟨j0, gi, gz0, gz1, gz2⟩ := info_parts Bt.Tryd.info5
  have hb2 := heap_alloc_new w (.cells #[.int .u8 (p : Int), .int .u8 (q : Int)] 5)
  refine wpList_append_own_at _ hgd s x 37 ho B 5 j0 (.int .u8 0) 1 1 Tryd.underlying37 gi gz0 gz1 gz2 rfl (by decide) v l.length (l.map Bt.byt) hs (hown.alloc _) ⟨w.heap.size, 0, none⟩ 2 2 [Bt.byt p, Bt.byt q] hx rfl (fun j u hj => ?_) (fun u hu => ?_) (by unfold maxLen; omega) (by omega) (by rw [World.size_alloc]; omega) ?_
  · rw [show (⟨w.heap.size, 0, none⟩ : Addr).add j = ⟨w.heap.size, j, none⟩ by unfold Addr.add; split <;> simp_all, cell_of_row _ _ _ _ _ _ hb2]
    simpa [Bt.byt] using hj
  · simp at hu
    rcases hu with rfl | rfl <;> rfl
  · intro v' w' g2 g3 _ _
    exact h v' w' (by simpa using g2) (((Kept.refl _ w).alloc _).step (Kept.of_grown g3) (fun x hx => .inl hx))
theorem own_low {w : World} {B B' e s n : Nat} {V : Value} {xs : List Value} (h : w.ownsRow B' e s V n xs) (hB : B ≤ B') : w.ownsRow B e s V n xs := by
  refine ⟨h.1, ?_⟩
  rcases h.2 with h1 | ⟨g, cap, cur, e, hb, h2⟩
  · exact .inl h1
  · exact .inr ⟨g, cap, cur, e, Nat.le_trans hB hb, h2⟩
theorem own_lo5 {w : World} {B n : Nat} {V : Value} {xs : List Value} (h : w.ownsRow B 5 1 V n xs) : ∀ x ∈ V.ownBlock.toList, B ≤ x ∧ ∃ cs, w.heap[x]? = some (.cells cs 5 (0, 0)) := fun x hx => by
  rcases h.2 with ⟨e, _⟩ | ⟨g, cap, cur, e, hb, hg, _⟩
  · rw [e] at hx; simp [Value.ownBlock] at hx
  · rw [e] at hx; simp [Value.ownBlock] at hx; subst hx; exact ⟨hb, _, hg⟩
theorem dpl_len {n : Nat} {ln : Nat → Nat} {F : Nat → Nat → Nat} {b : Nat} (h : ∀ p, p < n → ln p ≤ b) : (dpl n ln F).length ≤ n * (2 * b) := by
  unfold dpl
  induction n with
  | zero => simp
  | succ n ih =>
    rw [fm_succ, List.length_append, Nat.add_mul, Nat.one_mul]
    have h1 := ih (fun p hp => h p (by omega))
    have h2 : ∀ k, ((List.range k).flatMap fun i => two (F n i)).length = 2 * k := fun k => by
      induction k with
      | zero => rfl
      | succ k ihk => rw [fm_succ, List.length_append, ihk]; simp [two]; omega
    have h3 := h n (by omega)
    rw [h2]
    omega
set_option maxHeartbeats 8000000 in
set_option maxRecDepth 1000000 in
/-- The document's PackPlanar. -/
theorem rplan_yes (W H D : Int) (A : Bool) (po : Option Addr) (n c : Nat) (ln : Nat → Nat) (F : Nat → Nat → Nat) (w : World) (hr : Pl w po n ln F) (hF : ∀ i, i < n → ∀ j, j < ln i → F i j < 65536) (hn : n ≤ 4) (hln : ∀ i, i < n → ln i ≤ 4194304) (hE : vE W H D A n ln F = 0) :
    Calls Tryd.prog 18 #[frv W H D A po n c] w fun e w' => ∃ V, e = .returned (.tuple #[V, .int .i64 0]) ∧ w'.ownsRow w.heap.size 5 1 V (dpl n ln F).length ((dpl n ln F).map Bt.byt) ∧ Kept [] w w' := by
  have CV := Hid.mk (fun (u : World) (hk : Kept [] w u) => rvalid_any W H D A po n c ln F u (hr.keep hk) (by omega) (fun i hi => by have := hln i hi; omega) hF)
  rw [hE] at CV
  have hB := heap_alloc_new w (.cells #[.int .i64 W, .int .i64 H, .int .i64 D, .bool A, .slice po n c] 31)
  have hk0 := alloc_kept w (.cells #[.int .i64 W, .int .i64 H, .int .i64 D, .bool A, .slice po n c] 31)
  obtain ⟨wa, ewa⟩ : ∃ wa, wa = w.alloc (.cells #[.int .i64 W, .int .i64 H, .int .i64 D, .bool A, .slice po n c] 31) := ⟨_, rfl⟩
  rw [← ewa] at hB hk0
  obtain ⟨b, eb⟩ : ∃ b, b = w.heap.size := ⟨_, rfl⟩
  rw [← eb] at hB
  have HB := Hid.mk (And.intro hB (And.intro hk0 eb))
  have HR := Hid.mk (And.intro hr (And.intro hF hln))
  have HN := Hid.mk hn
  obtain ⟨⟨p0, p1, p2, p3, p4⟩, _⟩ := five hB
  clear hB hk0 hr hF hln
  go_enter Tryd.func18, Tryd.ntmps18
  go_wp2_with (fail)
  rw [← ewa, ← eb]
  clear ewa eb
  refine (CV.out _ HB.out.2.1).mono ?_
  rintro e w1 ⟨rfl, hk1⟩
  have HB1 := Hid.mk (hk1.heap HB.out.1 (by simp))
  have HK1 := Hid.mk (HB.out.2.1.trans hk1)
  obtain ⟨⟨p0, p1, p2, p3, p4⟩, _⟩ := five HB1.out
  clear hk1 CV
  go_wp2_with (fail)
  go_loopw [5, 6] (fun V i wr => ∃ k : Nat, k ≤ n ∧ i = .int .i64 (k : Int) ∧ wr.ownsRow w1.heap.size 5 1 V (dpl k ln F).length ((dpl k ln F).map Bt.byt) ∧ Kept [] w1 wr) (fun _ i _ => n - (intOf i).toNat)
  case atStart => exact ⟨0, by omega, rfl, ⟨rfl, .inl ⟨rfl, rfl⟩⟩, Kept.refl _ _⟩
  case round =>
    obtain ⟨k, hk, rfl, ho, hkr⟩ := hrel
    have HO := Hid.mk ho
    have HKR := Hid.mk hkr
    obtain ⟨⟨p0, p1, p2, p3, p4⟩, _⟩ := five (hkr.heap HB1.out (by simp))
    clear ho hkr
    by_cases hlt : k < n
    · have ix : (k : Int) < (n : Int) := by omega
      obtain ⟨g, off, ro, cr, rfl, hcp, hrd⟩ := HR.out.1.at hlt
      have HRD := Hid.mk hrd
      obtain ⟨L, eL⟩ : ∃ L, ln k = L := ⟨_, rfl⟩
      have hL4 : L ≤ 4194304 := by rw [← eL]; exact HR.out.2.2 k hlt
      have EL := Hid.mk eL
      rw [eL] at hcp HRD
      have HCP := Hid.mk hcp
      have hcp1 := cell_keep (HK1.out.trans HKR.out) hcp (by simp)
      clear hrd eL hcp
      go_wp2_with (fail)
      go_loopw [5, 7, 8] (fun V i _ wq => ∃ t : Nat, t ≤ L ∧ i = .int .i64 (t : Int) ∧ wq.ownsRow w1.heap.size 5 1 V (dpl k ln F ++ (List.range t).flatMap fun i => two (F k i)).length ((dpl k ln F ++ (List.range t).flatMap fun i => two (F k i)).map Bt.byt) ∧ Kept [] w1 wq) (fun _ i _ _ => L - (intOf i).toNat)
      case atStart => exact ⟨0, by omega, rfl, by simpa using HO.out, HKR.out⟩
      case round =>
        obtain ⟨t, ht, rfl, ho2, hk2⟩ := hrel
        have HO2 := Hid.mk ho2
        have HK2 := Hid.mk hk2
        clear p0 p1 p2 p3 p4 hcp1
        obtain ⟨⟨p0, p1, p2, p3, p4⟩, _⟩ := five (hk2.heap HB1.out (by simp))
        have hcp2 := cell_keep (HK1.out.trans hk2) HCP.out (by simp)
        clear ho2 hk2
        by_cases hlt2 : t < L
        · have ix2 : (t : Int) < (L : Int) := by omega
          obtain ⟨g2, off2, rfl, hc3⟩ := (HRD.out.keep (HK1.out.trans HK2.out)).at hlt2
          obtain ⟨x, ex⟩ : ∃ x, F k t = x := ⟨_, rfl⟩
          have hx : x < 65536 := by rw [← ex]; exact HR.out.2.1 k hlt t (by rw [EL.out]; exact hlt2)
          have EX := Hid.mk ex
          rw [ex] at hc3
          have f2 : ((x : Int)).tmod 256 = ((x % 256 : Nat) : Int) := by rw [Int.tmod_eq_emod_of_nonneg (by omega)]; omega
          have f3 : (x : Int) % 256 = ((x % 256 : Nat) : Int) := by omega
          have f4 : ((x : Int)).tdiv 256 = ((x / 256 : Nat) : Int) := by rw [Int.tdiv_eq_ediv_of_nonneg (by omega)]; omega
          have f5 : (x : Int) / 256 = ((x / 256 : Nat) : Int) := by omega
          obtain ⟨a1, ea1⟩ : ∃ a1, x % 256 = a1 := ⟨_, rfl⟩
          obtain ⟨a2, ea2⟩ : ∃ a2, x / 256 = a2 := ⟨_, rfl⟩
          have ha1 : a1 < 256 := by omega
          have ha2 : a2 < 256 := by omega
          rw [ea1] at f2 f3
          rw [ea2] at f4 f5
          have hlen : Hid ((dpl k ln F ++ (List.range t).flatMap fun i => two (F k i)).length ≤ 100000000) := Hid.mk (by
            have h1 := dpl_len (n := k) (F := F) (fun p hp => HR.out.2.2 p (by omega))
            have h2 := dpl_len (n := 1) (ln := fun _ => t) (F := fun _ => F k) (b := t) (fun p hp => Nat.le_refl _)
            have h3 : dpl 1 (fun _ => t) (fun _ => F k) = (List.range t).flatMap fun i => two (F k i) := by simp [dpl]
            rw [h3] at h2
            rw [List.length_append]
            have h4 := HN.out
            have h5 : k * (2 * 4194304) ≤ 4 * (2 * 4194304) := Nat.mul_le_mul_right _ (by omega)
            omega)
          have HA := Hid.mk (And.intro ea1 ea2)
          have i0 : (-9223372036854775808 : Int) ≤ (x : Int) := by omega
          have i1 : (x : Int) ≤ 9223372036854775807 := by omega
          have j1 : (-9223372036854775808 : Int) ≤ (a2 : Int) := by omega
          have j2 : (a2 : Int) ≤ 9223372036854775807 := by omega
          have f9 : (a2 : Int) % 256 = (a2 : Int) := by omega
          have f1 : IntKind.i64.wrap (x : Int) = (x : Int) := wrap_i i0 i1
          have f6 : IntKind.u8.wrap (a1 : Int) = (a1 : Int) := u8_in ha1
          have f7 : IntKind.u8.wrap (a2 : Int) = (a2 : Int) := u8_in ha2
          have f8 : wrap64 (a2 : Int) = (a2 : Int) := w64_of j1 j2
          clear ex hx ea1 ea2 ha1 ha2 i0 i1 j1 j2
          go_wp2_with (at_builtin; refine wpList_two wr rfl _ _ w1.heap.size rfl u5 _ (by rfl) HO2.out a1 a2 (by rfl) HK2.out.size hlen.out ?_; intro V1 w7 ho7 hk7; have HO7 := Hid.mk ho7; have HK7 := Hid.mk hk7; clear ho7 hk7)
          refine ⟨⟨t + 1, by clear f1 f6 f7 f8; omega, by clear f1 f6 f7 f8; go_num, ?_, HK2.out.step HK7.out (fun z hz => .inr (own_lo5 HO2.out z hz).1)⟩, by clear f1 f6 f7 f8; simp [intOf]; omega⟩
          have h9 := HO7.out
          rw [fm_succ, ← List.append_assoc, EX.out]
          unfold two
          rw [HA.out.1, HA.out.2]
          exact h9
        · obtain rfl : t = L := by omega
          have HO3 := HO2.out
          go_wp2_with (fail)
          go_roundw
          case rel => exact ⟨k + 1, by omega, by go_num, by have e9 : dpl (k + 1) ln F = dpl k ln F ++ (List.range t).flatMap fun i => two (F k i) := (by unfold dpl; rw [fm_succ, EL.out]); rw [e9]; exact HO3, HK2.out⟩
          case measure => simp [intOf]; omega
    · obtain rfl : k = n := by omega
      have KE := Hid.mk (HK1.out.trans HKR.out)
      go_wp2_with (fail)
      go_ret2
      exact ⟨_, rfl, own_low HO.out HK1.out.size, KE.out⟩
end Go.Proofs.YtodlkpcbkilglaaDoor

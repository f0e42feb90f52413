import Derived.Test.YtjnmnkheichflabG8
import Derived.Test.YtjnmnkheichflabM7
import Derived.Test.YtjnmnkheichflabQ2
import Derived.Test.YtjnmnkheichflabRT
namespace Go.Proofs.Ytjnmnkheichflab
open Go.RowKit

set_option maxHeartbeats 2000000 in
set_option maxRecDepth 1000000 in
theorem refAdd_any (b n cap f cb : Nat) (bo : Option Addr) (p q : Nat → Nat) (hf : f < 256) (w : World) (hr : Row w b (rg p n)) (hp : ∀ j, j < n → p j < 256) (hq : ∀ j, j < n → q j < 256) (ho : Reads w bo (rg q n)) (hne : 0 < n → ∀ g off, bo = some ⟨g, off, none⟩ → g ≠ b) (hn : n ≤ 140737488355328) :
    Calls Try.prog 36 #[.slice (some ⟨b, 0, none⟩) n cap, .int .u8 (f : Int), .slice bo n cb] w fun e w' => e = .returned (.tuple #[]) ∧ Row w' b (rg (am f p q) n) ∧ Kept [b] w w' := by
  have Hr := Hid.mk hr
  have Ho := Hid.mk ho
  have Hne := Hid.mk hne
  clear hr ho hne
  go_enter Try.func36, Try.ntmps36
  go_wp2
  go_loopw [6] (fun s wr => ∃ k : Nat, k ≤ n ∧ s = .int .i64 (k : Int) ∧ Row wr b (rg (upt k p (am f p q)) n) ∧ Kept [b] w wr) (fun s _ => n - (intOf s).toNat)
  case atStart => exact ⟨0, by omega, rfl, by rw [upt_zero]; exact Hr.out, Kept.refl _ _⟩
  case round =>
    obtain ⟨k, hk, rfl, hrow, hkr⟩ := hrel
    by_cases hlt : k < n
    · have hcell := hrow.at (j := k) (by rw [rg_length]; exact hlt)
      rw [rg_getD _ _ _ hlt, upt_at] at hcell
      obtain ⟨g, off, hg, hco⟩ := (Ho.out.stay hkr (fun hp g off e => by simpa using Hne.out (by rw [rg_length] at hp; exact hp) g off e)).cell (j := k) (by rw [rg_length]; exact hlt)
      rw [rg_getD _ _ _ hlt] at hco
      have hfz := hrow.fz k
      have hx := u8_xor_nat (p k) (mu f (q k)) (hp k hlt) (mu_lt _ _)
      have C0 := Hid.mk (fun w => refMul_any f (q k) hf (hq k hlt) w)
      have Hset := Hid.mk (fun u hu => hrow.set (q := am f p q) (u := u) hu)
      have Hkr := Hid.mk hkr
      have HA : Hid (am f p q k = p k ^^^ mu f (q k)) := Hid.mk rfl
      have lx := hp k hlt
      have ly := hq k hlt
      have lz := mu_lt f (q k)
      obtain ⟨x, ex⟩ : ∃ x, x = p k := ⟨_, rfl⟩
      obtain ⟨y, ey⟩ : ∃ y, y = q k := ⟨_, rfl⟩
      rw [← ex] at hcell hx HA lx
      rw [← ey] at hco hx C0 HA ly lz
      obtain ⟨z, ez⟩ : ∃ z, z = mu f y := ⟨_, rfl⟩
      rw [← ez] at hx C0 HA lz
      clear ex ey ez hrow hkr
      subst hg
      have ix : (k : Int) < (n : Int) := by omega
      go_wp2_with (go_at_call 35; refine (C0.out _).mono ?_; rintro e w' ⟨rfl, hw⟩; obtain rfl := hw.symm)
      go_roundw
      case rel => exact ⟨k + 1, by omega, by go_num, Hset.out _ (by rw [HA.out]; rfl), Hkr.out.setCell (p := ⟨b, k, none⟩) (.inl (by simp)) _⟩
      case measure => simp [intOf]; omega
    · obtain rfl : k = n := by omega
      rw [upt_full] at hrow
      have Hrow := Hid.mk hrow
      have Hkr := Hid.mk hkr
      clear hrow hkr
      go_wp2
      go_end0
      exact ⟨rfl, Hrow.out, Hkr.out⟩

set_option maxHeartbeats 4000000 in
set_option maxRecDepth 1000000 in
theorem refCopied_any (ao : Option Addr) (ca n wd : Nat) (L : List (List Nat)) (w : World) (hL : MR w ao L) (hl : L.length = n) (hn : n ≤ 256) (hw : wd ≤ 140737488355328) (ha : al L wd = true) :
    Calls Try.prog 33 #[.slice ao n ca] w fun e w' => ∃ V bs, e = .returned V ∧ Gl w.heap.size w' V n bs wd (fn L) ∧ Kept [] w w' := by
  obtain ⟨i0, hi, hz0, hz1, hz2⟩ := info_parts Try.info5
  obtain ⟨j0, gi, gz0, gz1, gz2⟩ := info_parts Try.infoR
  have HL := Hid.mk hL
  have Hl := Hid.mk hl
  have Ha := Hid.mk ha
  clear hL hl ha
  obtain ⟨B, eB⟩ : ∃ B, B = w.heap.size := ⟨_, rfl⟩
  rw [← eB]
  have EB := Hid.mk eB
  clear eB
  go_enter Try.func33, Try.ntmps33
  go_wp2
  go_loopw [3, 4] (fun V s wr => ∃ (k : Nat) (bs : Nat → Nat), k ≤ n ∧ s = .int .i64 (k : Int) ∧ Gl B wr V k bs wd (fn L) ∧ Below B w wr ∧ B ≤ wr.heap.size) (fun _ i _ => n - (intOf i).toNat)
  case atStart => exact ⟨0, fun _ => 0, by omega, rfl, Gl.start B w _ _ _, Below.refl _ _, by rw [EB.out]; exact Nat.le_refl _⟩
  case round =>
    obtain ⟨k, bs, hk, rfl, hg, hbw, hsz⟩ := hrel
    by_cases hlt : k < n
    · have HG := Hid.mk hg
      have HB := Hid.mk hbw
      have HS := Hid.mk hsz
      have hkr : Kept [] w wr := Kept.of_below (by have := hbw; rw [EB.out] at this; exact this)
      obtain ⟨ga, offa, ba, cpa, hao, hca0, hra⟩ := HL.out.at (i := k) (by have := Hl.out; omega)
      have hlr : (L.getD k []).length = wd := al_at Ha.out (by have := Hl.out; omega)
      have hca := cell_keep hkr hca0 (by simp)
      rw [hlr] at hca
      have Hra := Hid.mk (hra.keep hkr)
      have Hlr := Hid.mk hlr
      have CA : Hid (∀ w3, Kept [] wr w3 → w3.cell? ⟨ga, offa + k, none⟩ = some (.slice ba wd cpa)) := Hid.mk (fun w3 hk3 => cell_keep hk3 hca (by simp))
      clear hg hbw hsz hkr hca0 hra hlr
      subst hao
      have ix : (k : Int) < (n : Int) := by omega
      go_wp2_with (at_make; refine wpList_make_full _ rfl _ _ 31 rfl 0 5 i0 (.int .u8 0) 1 Try.underlying31 hi hz0 hz1 _ _ _ _ wd rfl rfl (by omega) (by omega) ?b2 ?b3 (by omega) ?_)
      case b2 => rw [hz2]; omega
      case b3 => unfold maxLen; omega
      intro w3 ho3 hg3
      have hk3 := Kept.of_grown hg3
      have hr3 := row_heap ho3 rfl
      rw [toList_madeCells_one, rg_none] at hr3
      have hca3 := CA.out w3 hk3
      obtain ⟨b, hb⟩ : ∃ b, b = wr.heap.size := ⟨_, rfl⟩
      rw [← hb] at hr3 ⊢
      have G3 := Hid.mk (HG.out.keep0 hk3)
      have Blt : Hid (∀ i, i < k → bs i < b) := Hid.mk (fun i hi => by rw [hb]; exact (HG.out.row i hi).lt)
      have Vlt : Hid (∀ g, u3.ownBlock = some g → g ≠ b) := Hid.mk (fun g hg e => by subst e; exact own_row (HG.out.keep0 hk3).own hr3 hg)
      have BB : Hid (B ≤ b) := Hid.mk (by rw [hb]; exact HS.out)
      have HB3 := Hid.mk (HB.out.trans (hk3.below HS.out (by simp)))
      have HS3 : Hid (B ≤ w3.heap.size) := Hid.mk (Nat.le_trans HS.out hk3.size)
      have hsrc := reads_src (Hra.out.keep hk3)
      rw [Hlr.out] at hsrc
      obtain ⟨w4, hrun, hr4, hk4⟩ := copy_run w3 b wd wd ba wd cpa _ ((L.getD k []).map byt) hr3 (by rw [List.length_map, rg_length]) (by rw [List.length_map, Hlr.out]) (Nat.le_refl _) hsrc (bytes_one _)
      have hrow : Row w4 b (rg (fn L k) wd) := by
        unfold Row
        rw [hr4, fn_rg Hlr.out, List.drop_of_length_le (by rw [List.length_map, rg_length]; exact Nat.le_refl _), List.append_nil]
      have G4 := Hid.mk (G3.out.keep hk4 (fun g hg => by simpa using Vlt.out g hg) (fun i hi => by have := Blt.out i hi; simp; omega))
      have HB4 := Hid.mk (HB3.out.trans (hk4.below HS3.out (fun x hx => by simp at hx; subst hx; exact BB.out)))
      have HS4 : Hid (B ≤ w4.heap.size) := Hid.mk (Nat.le_trans HS3.out hk4.size)
      have Hrow := Hid.mk hrow
      clear hr3 hb ho3 hg3 hk3 HG HB HS hsrc hr4 hk4 hrow G3 HB3 HS3 CA hca
      go_wp2_with (at_builtin; refine wpList_append_own_at _ rfl _ _ 22 rfl B 31 j0 (.slice none 0 0) 1 24 Try.underlying22 gi gz0 gz1 gz2 rfl (by decide) _ k (sl bs wd k) rfl (G4.out.own.alloc _) ⟨w4.heap.size, 0, none⟩ 1 1 [.slice (some ⟨b, 0, none⟩) wd wd] rfl rfl (cell_one_new _ _ _) ?c2 ?c3 ?c4 ?c5 ?_)
      case c2 => intro u hu; simp at hu; subst hu; rfl
      case c3 => unfold maxLen; omega
      case c4 => omega
      case c5 => rw [World.size_alloc]; have := HS4.out; omega
      intro V' w5 ho5 hg5 _ _
      have hk5 : Kept u3.ownBlock.toList w4 w5 := ((Kept.refl _ w4).alloc _).step (Kept.of_grown hg5) (fun x hx => .inl hx)
      have G5 := Hid.mk (G4.out.step Hrow.out Blt.out BB.out ho5 hk5)
      have HB5 := Hid.mk (HB4.out.trans (G4.out.below HS4.out hk5))
      have HS5 : Hid (B ≤ w5.heap.size) := Hid.mk (Nat.le_trans HS4.out hk5.size)
      clear ho5 hg5 hk5 G4 HB4 HS4 Hrow Blt Vlt
      go_wp2
      go_roundw
      case rel => exact ⟨k + 1, _, by omega, by go_num, G5.out, HB5.out, HS5.out⟩
      case measure => simp [intOf]; omega
    · obtain rfl : k = n := by omega
      have HG := Hid.mk hg
      have HB := Hid.mk hbw
      clear hg hbw hsz
      go_wp2
      go_ret
      have hb := HB.out
      rw [EB.out] at hb
      exact ⟨_, bs, rfl, HG.out, Kept.of_below hb⟩
end Go.Proofs.Ytjnmnkheichflab

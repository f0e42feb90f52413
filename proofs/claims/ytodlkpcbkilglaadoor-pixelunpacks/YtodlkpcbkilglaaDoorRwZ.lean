import Derived.Test.YtodlkpcbkilglaaDoorPsZ
import Derived.Test.YtodlkpcbkilglaaDoorRo
namespace Go.Proofs.YtodlkpcbkilglaaDoor
open Go.RowKit Go.Shelf

set_option maxHeartbeats 4000000 in
set_option maxRecDepth 1000000 in
/-- rows: a function that holds the format and the frame. -/
theorem rows_any (a1 a2 a3 a4 a5 : Nat) (W H D : Int) (A : Bool) (po : Option Addr) (n c : Nat) (w : World) :
    Calls Tryd.prog 72 #[fmv a1 a2 a3 a4 a5, frv W H D A po n c] w fun e w' => e = .returned (.func (.func 93) #[] #[.pointer (some ⟨w.heap.size, 0, none⟩), .pointer (some ⟨w.heap.size + 1, 0, none⟩)]) ∧ w' = (w.alloc (.cells #[fnv a1, fnv a2, fnv a3, fnv a4, fnv a5] 65)).alloc (.cells #[.int .i64 W, .int .i64 H, .int .i64 D, .bool A, .slice po n c] 31) := by
  go_enter Tryd.func72, Tryd.ntmps72
  go_wp2
  go_ret
  exact ⟨rfl, rfl⟩

/-- The samples of the frame of example 1. -/
def tnF (i : Nat) : Nat := if i = 0 then 1 else if i = 1 then 2 else 769
set_option maxHeartbeats 4000000 in
set_option maxRecDepth 1000000 in
theorem tiny_any (w : World) :
    Calls Tryd.prog 17 #[] w fun e w' => ∃ g, e = .returned (frv 1 1 10 false (some ⟨g, 0, none⟩) 3 3) ∧ (∀ i, i < 3 → ∃ b, w'.cell? ⟨g, i, none⟩ = some (.slice (some ⟨b, 0, none⟩) 1 1) ∧ w'.cell? ⟨b, 0, none⟩ = some (.int .u16 (tnF i : Int))) ∧ Kept [] w w' := by
  go_enter Tryd.func17, Tryd.ntmps17
  go_wp2
  have k1 := alloc_kept w (.cells #[.int .i64 1, .int .i64 1, .int .i64 10, .bool false, .slice (some ⟨w.heap.size + 1 + 1 + 1 + 1, 0, none⟩) 3 3] 31)
  have k2 := alloc_kept (w.alloc (.cells #[.int .i64 1, .int .i64 1, .int .i64 10, .bool false, .slice (some ⟨w.heap.size + 1 + 1 + 1 + 1, 0, none⟩) 3 3] 31)) (.cells #[.int .u16 1] 70)
  have kk := (k2.trans (alloc_kept _ (.cells #[.int .u16 2] 70))).trans ((alloc_kept _ (.cells #[.int .u16 769] 70)).trans (alloc_kept _ (.cells #[.slice (some ⟨w.heap.size + 1, 0, none⟩) 1 1, .slice (some ⟨w.heap.size + 1 + 1, 0, none⟩) 1 1, .slice (some ⟨w.heap.size + 1 + 1 + 1, 0, none⟩) 1 1] 68)))
  have hR := kk.heap (heap_alloc_new w (.cells #[.int .i64 1, .int .i64 1, .int .i64 10, .bool false, .slice (some ⟨w.heap.size + 1 + 1 + 1 + 1, 0, none⟩) 3 3] 31)) (by simp)
  refine bodyPost_ret (v := frv 1 1 10 false (some ⟨w.heap.size + 1 + 1 + 1 + 1, 0, none⟩) 3 3) ?_ rfl ⟨_, rfl, fun i hi => ?_, k1.trans kk⟩
  · exact results_cell_row rfl _ _ w.heap.size 31 _ (0, 0) _ rfl hR Tryd.underlying31 rfl Tryd.info38
  · rcases (by omega : i = 0 ∨ i = 1 ∨ i = 2) with rfl | rfl | rfl
    · refine ⟨w.heap.size + 1, by go_simp, ?_⟩
      show World.cell? _ _ = some (.int .u16 1)
      go_simp
    · refine ⟨w.heap.size + 1 + 1, by go_simp, ?_⟩
      show World.cell? _ _ = some (.int .u16 2)
      go_simp
    · refine ⟨w.heap.size + 1 + 1 + 1, by go_simp, ?_⟩
      show World.cell? _ _ = some (.int .u16 769)
      go_simp
end Go.Proofs.YtodlkpcbkilglaaDoor

namespace Go.Proofs.YtodlkpcbkilglaaDoor
open Go.RowKit Go.Shelf

/-- The group of v210: the plane of its i-th sample, that one's number, and how many the plane has in a group. -/
def gP (i : Nat) : Nat := if i % 2 = 1 then 0 else if i % 4 = 0 then 1 else 2
def gN (i : Nat) : Nat := if i % 2 = 1 then i / 2 else i / 4
def gE (i : Nat) : Nat := if i % 2 = 1 then 6 else 3
/-- The table lies where it was laid. -/
def Tab (w : World) : Prop := ∀ i, i < 12 → w.cell? ⟨0, i * 3, none⟩ = some (.int .i64 (gP i : Int)) ∧ w.cell? ⟨0, i * 3 + 1, none⟩ = some (.int .i64 (gN i : Int)) ∧ w.cell? ⟨0, i * 3 + 2, none⟩ = some (.int .i64 (gE i : Int))
theorem Tab.keep {w w' : World} {ks : List Nat} (h : Tab w) (hk : Kept ks w w') (h0 : 0 ∉ ks) : Tab w' := fun i hi => by
  obtain ⟨a, b, c⟩ := h i hi
  exact ⟨cell_keep hk a h0, cell_keep hk b h0, cell_keep hk c h0⟩

set_option maxHeartbeats 4000000 in
set_option maxRecDepth 1000000 in
theorem where_any (i : Nat) (w : World) (hT : Tab w) (hi : i ≤ 1000000) :
    Calls Tryd.prog 90 #[.int .i64 (i : Int)] w fun e w' => e = .returned (.tuple #[.int .i64 (gP (i % 12) : Int), .int .i64 ((i / 12 * gE (i % 12) + gN (i % 12) : Nat) : Int)]) ∧ Kept [] w w' := by
  have hm : i % 12 < 12 := Nat.mod_lt _ (by decide)
  obtain ⟨c0, c1, c2⟩ := hT _ hm
  have hg : gP (i % 12) ≤ 2 ∧ gN (i % 12) ≤ 5 ∧ gE (i % 12) ≤ 6 := by unfold gP gN gE; split <;> refine ⟨?_, ?_, ?_⟩ <;> first | omega | (split <;> omega)
  obtain ⟨p, ep⟩ : ∃ p, p = gP (i % 12) := ⟨_, rfl⟩
  obtain ⟨q, eq⟩ : ∃ q, q = gN (i % 12) := ⟨_, rfl⟩
  obtain ⟨r, er⟩ : ∃ r, r = gE (i % 12) := ⟨_, rfl⟩
  rw [← ep] at c0 hg ⊢
  rw [← eq] at c1 hg ⊢
  rw [← er] at c2 hg ⊢
  clear ep eq er hT
  obtain ⟨m, em⟩ : ∃ m, m = i % 12 := ⟨_, rfl⟩
  rw [← em] at hm c0 c1 c2
  have hm2 : (i : Int) % 12 = (m : Int) := by omega
  obtain ⟨d, ed⟩ : ∃ d, d = i / 12 := ⟨_, rfl⟩
  have hd : (i : Int) / 12 = (d : Int) := by omega
  have hdr : d * r ≤ 1000000 * 6 := Nat.mul_le_mul (by omega) hg.2.2
  have e2 : (d : Int) * (r : Int) = ((d * r : Nat) : Int) := by rw [Int.natCast_mul]
  have hwr : IntKind.i64.wrap ((i : Int) / 12 * (r : Int)) = ((d * r : Nat) : Int) := by rw [hd, e2]; exact wrap_i (by omega) (by omega)
  have hwr2 : IntKind.i64.wrap (((d * r : Nat) : Int) + (q : Int)) = ((d * r + q : Nat) : Int) := by rw [wrap_i (by omega) (by omega)]; omega
  rw [← ed]
  obtain ⟨z, ez⟩ : ∃ z, z = d * r := ⟨_, rfl⟩
  rw [← ez] at hwr hwr2 hdr ⊢
  clear hd e2 ed ez
  go_enter Tryd.func90, Tryd.ntmps90
  go_wp2
  rw [hm2]
  have hm3 : (m : Int) < 12 := by omega
  clear em hm2
  go_wp2
  go_quiet (fail)
  go_wp2
  go_ret2
  exact ⟨by rw [Int.natCast_add]; rfl, ((Kept.refl _ _).alloc _).drewN _⟩
end Go.Proofs.YtodlkpcbkilglaaDoor

namespace Go.Proofs.YtodlkpcbkilglaaDoor
open Go.RowKit Go.Shelf

/-- The sample that stands at place s in a row of v210 (0, where there is none). -/
def v2S (f : Nat → Nat → Nat) (l : Nat → Nat) (s : Nat) : Nat :=
  if s / 12 * gE (s % 12) + gN (s % 12) < l (gP (s % 12)) then f (gP (s % 12)) (s / 12 * gE (s % 12) + gN (s % 12)) else 0
/-- A word of such a row. -/
def v2W (f : Nat → Nat → Nat) (l : Nat → Nat) (n : Nat) : Nat := v2S f l (3 * n) + 1024 * v2S f l (3 * n + 1) + 1048576 * v2S f l (3 * n + 2)
/-- Its bytes. -/
def v2B (f : Nat → Nat → Nat) (l : Nat → Nat) (t : Nat) : Nat := v2W f l (t / 4) / 256 ^ (t % 4) % 256
theorem v2S_lt {f : Nat → Nat → Nat} {l : Nat → Nat} (hf : ∀ p x, p < 3 → x < l p → f p x < 1024) (s : Nat) : v2S f l s < 1024 := by
  unfold v2S
  split
  · rename_i h
    exact hf _ _ (by unfold gP; split <;> (try split) <;> omega) h
  · decide
theorem v2W_lt {f : Nat → Nat → Nat} {l : Nat → Nat} (hf : ∀ p x, p < 3 → x < l p → f p x < 1024) (n : Nat) : v2W f l n < 1073741824 := by
  have h0 := v2S_lt hf (3 * n)
  have h1 := v2S_lt hf (3 * n + 1)
  have h2 := v2S_lt hf (3 * n + 2)
  unfold v2W
  omega
/-- The words behind j rounds, the last one first, as one number. -/
def wkN (W : Nat → Nat) (N : Nat) : Nat → Nat
  | 0 => 0
  | j + 1 => wkN W N j * 4294967296 + W (N - 1 - j)
theorem wkN_div (W : Nat → Nat) (hW : ∀ i, W i < 4294967296) (n : Nat) : ∀ (j k : Nat), j ≤ k → wkN W n k / 4294967296 ^ j = wkN W n (k - j) := by
  intro j
  induction j with
  | zero => intro k _; simp
  | succ j ih =>
    intro k hk
    obtain ⟨k, rfl⟩ : ∃ m, k = m + 1 := ⟨k - 1, by omega⟩
    rw [Nat.pow_succ', ← Nat.div_div_eq_div_mul, show wkN W n (k + 1) / 4294967296 = wkN W n k by rw [wkN]; have := hW (n - 1 - k); omega, ih k (by omega), show k + 1 - (j + 1) = k - j by omega]
/-- A word's bytes, the lowest one first. -/
theorem wkN_byte (W : Nat → Nat) (hW : ∀ i, W i < 4294967296) (n t : Nat) (ht : t < 4 * n) : wkN W n n / 256 ^ t % 256 = W (t / 4) / 256 ^ (t % 4) % 256 := by
  have h1 : 256 ^ t = 4294967296 ^ (t / 4) * 256 ^ (t % 4) := by
    rw [show 4294967296 = 256 ^ 4 from rfl, ← Nat.pow_mul, ← Nat.pow_add]
    congr 1
    omega
  rw [h1, ← Nat.div_div_eq_div_mul, wkN_div W hW n _ n (by omega)]
  obtain ⟨m, hm⟩ : ∃ m, n - t / 4 = m + 1 := ⟨n - t / 4 - 1, by omega⟩
  rw [hm, wkN, show n - 1 - m = t / 4 by omega]
  have hx := hW (t / 4)
  obtain ⟨x, ex⟩ : ∃ x, x = W (t / 4) := ⟨_, rfl⟩
  rw [← ex] at hx ⊢
  rcases (by omega : t % 4 = 0 ∨ t % 4 = 1 ∨ t % 4 = 2 ∨ t % 4 = 3) with h | h | h | h <;> rw [h] <;> omega
/-- An or of what has no bit in common. -/
theorem or_add (a b k : Nat) (ha : a < 2 ^ k) : a ||| (b * 2 ^ k) = a + b * 2 ^ k := by
  rw [Nat.mul_comm b, Nat.or_comm, ← Nat.two_pow_add_eq_or_of_lt ha, Nat.add_comm]
end Go.Proofs.YtodlkpcbkilglaaDoor

namespace Go.Proofs.YtodlkpcbkilglaaDoor
open Go.RowKit Go.Shelf
attribute [local go_sem] Oper.semAt_some

/-- A word's first samples. -/
def v2P (f : Nat → Nat → Nat) (l : Nat → Nat) (n : Nat) : Nat → Nat
  | 0 => 0
  | k + 1 => v2P f l n k + v2S f l (3 * n + k) * 2 ^ (10 * k)
theorem v2P_three (f : Nat → Nat → Nat) (l : Nat → Nat) (n : Nat) : v2P f l n 3 = v2W f l n := by
  simp only [v2P, v2W]
  rw [Nat.mul_comm 1024, Nat.mul_comm 1048576]
  simp
theorem v2P_lt {f : Nat → Nat → Nat} {l : Nat → Nat} (hf : ∀ p x, p < 3 → x < l p → f p x < 1024) (n : Nat) : ∀ k, v2P f l n k < 2 ^ (10 * k) := by
  intro k
  induction k with
  | zero => exact Nat.one_pos
  | succ k ih =>
    have h := v2S_lt hf (3 * n + k)
    have e : 2 ^ (10 * (k + 1)) = 1024 * 2 ^ (10 * k) := by rw [Nat.mul_add, Nat.pow_add, Nat.mul_comm]
    have := Nat.mul_le_mul_right (2 ^ (10 * k)) (show v2S f l (3 * n + k) ≤ 1023 by omega)
    rw [v2P, e]
    omega
theorem gP_lt (i : Nat) : gP i < 3 := by unfold gP; split <;> (try split) <;> omega

theorem v2_or (a x k : Nat) (ha : a < 2 ^ (10 * k)) (hx : x < 1024) (hk : k < 3) :
    bits .or .u32 (a : Int) ((x : Int) % 4294967296 * 2 ^ (10 * k) % 4294967296) = ((a + x * 2 ^ (10 * k) : Nat) : Int) := by
  have hb : x * 2 ^ (10 * k) < 4294967296 ∧ 2 ^ (10 * k) ≤ 1048576 := by
    rcases (by omega : k = 0 ∨ k = 1 ∨ k = 2) with rfl | rfl | rfl
    · exact ⟨by omega, by decide⟩
    · exact ⟨by have : 2 ^ (10 * 1) = 1024 := rfl; omega, by decide⟩
    · exact ⟨by have : 2 ^ (10 * 2) = 1048576 := rfl; omega, by decide⟩
  have e1 : ((x : Int) % 4294967296 * 2 ^ (10 * k) % 4294967296) = ((x * 2 ^ (10 * k) : Nat) : Int) := by
    rw [Bt.pow_two_int]
    have : (x : Int) % 4294967296 = (x : Int) := by omega
    rw [this, ← Int.natCast_mul]
    omega
  rw [e1, u32_or_nat _ _ (by omega) hb.1, or_add _ _ _ ha]

set_option maxHeartbeats 8000000 in
set_option maxRecDepth 1000000 in
theorem writeV (g1 cr : Nat) (ad : Nat → Option Addr) (l cc : Nat → Nat) (f : Nat → Nat → Nat) (w : World) (N : Nat) (hN : N = (l 0 + 47) / 48 * 32)
    (hrow : ∀ p, p < 3 → w.cell? ⟨g1, p, none⟩ = some (.slice (ad p) (l p) (cc p))) (hr : ∀ p, p < 3 → Rd w (ad p) (l p) (f p)) (hf : ∀ p x, p < 3 → x < l p → f p x < 1024) (hl : ∀ p, p < 3 → l p ≤ 4096) (hT : Tab w) :
    Calls Tryd.prog 69 #[.slice (some ⟨g1, 0, none⟩) 3 cr] w fun e w' => ∃ g c1, e = .returned (.slice (some ⟨g, 0, none⟩) (4 * N) c1) ∧ w.heap.size ≤ g ∧ Cb w' g (4 * N) (v2B f l) ∧ Kept [] w w' := by
  have C1 := Hid.mk (fun u => Bt.newWriter_any u)
  have l0 := hl 0 (by omega)
  have CB := Hid.mk (fun u => byt68 (l 0) u l0)
  have hw0 := hrow 0 (by omega)
  have HR := Hid.mk hr
  have HROW := Hid.mk hrow
  have HF := Hid.mk hf
  have HL := Hid.mk hl
  have HT := Hid.mk hT
  have hN2 : N ≤ 3000 := by omega
  have hNN : Hid ((l 0 + 47) / 48 * 128 * 8 / 32 = N) := Hid.mk (by omega)
  obtain ⟨L0, eL0⟩ : ∃ L0, L0 = l 0 := ⟨_, rfl⟩
  rw [← eL0] at hw0 l0 CB hNN
  have HN := Hid.mk hN
  obtain ⟨M, eM⟩ : ∃ M, M = (L0 + 47) / 48 * 128 := ⟨_, rfl⟩
  have hM : M = 4 * N := by rw [eM, hN, ← eL0]; omega
  rw [← eM] at CB hNN
  clear hr hrow hf hl hT hN eL0 eM
  have hw1 : (w.alloc (.cells #[.slice none 0 0, .int .u64 0, .int .i64 0] 114)).cell? ⟨g1, 0, none⟩ = some (.slice (ad 0) L0 (cc 0)) := cell_keep (alloc_kept w _) hw0 (by simp)
  have hNI : ((M : Int) * 8 / 32 - 1) = (N : Int) - 1 := by omega
  go_enter Tryd.func69, Tryd.ntmps69
  go_wp2_with (first | (go_at_call 79; refine (C1.out _).mono ?_; rintro e w2 ⟨rfl, rfl⟩) | (go_at_call 68; refine (CB.out _).mono ?_; rintro e w3 ⟨rfl, h3⟩; obtain rfl := h3.symm))
  obtain ⟨wb, ewb⟩ : ∃ wb, wb = w.alloc (.cells #[.slice none 0 0, .int .u64 0, .int .i64 0] 114 (0, 0)) := ⟨_, rfl⟩
  have hB := heap_alloc_new w (.cells #[.slice none 0 0, .int .u64 0, .int .i64 0] 114 (0, 0))
  have hKB := alloc_kept w (.cells #[.slice none 0 0, .int .u64 0, .int .i64 0] 114 (0, 0))
  rw [← ewb] at hB hKB hw1 ⊢
  obtain ⟨B, eB⟩ : ∃ B, B = w.heap.size := ⟨_, rfl⟩
  rw [← eB] at hB ⊢
  have EB := Hid.mk eB
  have HB := Hid.mk hB
  have HKB := Hid.mk hKB
  clear eB hB hKB ewb hw0 hw1 C1 CB h3
  go_loopw [4] (fun i wr => ∃ j : Nat, j ≤ N ∧ i = .int .i64 ((N : Int) - 1 - j) ∧ Kept [] w wr ∧ ∃ Vv, Bt.WriterAt wr B Vv (wkN (v2W f l) N j) (32 * j) ∧ (∀ g, Vv.ownBlock = some g → B < g)) (fun i _ => (intOf i + 1).toNat)
  case atStart => exact ⟨0, by omega, by first | (congr 1; omega) | (rw [hNI]; congr 1), HKB.out, .slice none 0 0, ⟨HB.out, ⟨rfl, .inl ⟨rfl, rfl⟩⟩⟩, fun g hg => by simp [Value.ownBlock] at hg⟩
  case round =>
    obtain ⟨j, hj, rfl, hk, Vv, hW, hV⟩ := hrel
    by_cases hlt : j < N
    · obtain ⟨n, hn⟩ : ∃ n : Nat, (N : Int) - 1 - j = (n : Int) := ⟨((N : Int) - 1 - j).toNat, by omega⟩
      have hn2 : N - 1 - j = n := by omega
      have hn3 : n ≤ 3000 := by omega
      rw [hn]
      have HH := Hid.mk (And.intro hk (And.intro hW (And.intro hV (And.intro hn2 hn))))
      obtain ⟨wo, ewo⟩ : ∃ wo, wo = wr := ⟨_, rfl⟩
      rw [← ewo] at HH
      clear hk hW hV hn2 hn
      go_wp2
      go_loopw [5, 22] (fun wd x wq => ∃ k : Nat, k ≤ 3 ∧ x = .int .i64 (k : Int) ∧ wd = .int .u32 (v2P f l n k : Int) ∧ Kept [] wo wq) (fun _ x _ => 3 - (intOf x).toNat)
      case atStart => exact ⟨0, by omega, rfl, rfl, by rw [ewo]; exact Kept.refl _ _⟩
      case round =>
        obtain ⟨k, hk, rfl, rfl, hkq⟩ := hrel
        by_cases hk3 : k < 3
        · obtain ⟨t3, ht3⟩ : ∃ t3 : Int, 3 * (n : Int) = t3 := ⟨_, rfl⟩
          have b3 : 0 ≤ t3 ∧ t3 ≤ 9000 := by omega
          obtain ⟨s, hs⟩ : ∃ s : Nat, t3 + (k : Int) = (s : Int) := ⟨(t3 + (k : Int)).toNat, by omega⟩
          have hs2 : s ≤ 9002 := by omega
          have ES : Hid (s = 3 * n + k) := Hid.mk (by omega)
          have kw : Kept [] w wr := HH.out.1.trans hkq
          have CW := Hid.mk (where_any s wr (HT.out.keep kw (by simp)) (by omega))
          obtain ⟨p, ep⟩ : ∃ p, p = gP (s % 12) := ⟨_, rfl⟩
          obtain ⟨x, ex⟩ : ∃ x, x = s / 12 * gE (s % 12) + gN (s % 12) := ⟨_, rfl⟩
          rw [← ep, ← ex] at CW
          have hp3 : p < 3 := by rw [ep]; exact gP_lt _
          have hV2 : Hid (v2S f l s = if x < l p then f p x else 0) := Hid.mk (by unfold v2S; rw [← ep, ← ex])
          have hrow := HROW.out p hp3
          obtain ⟨Lp, eLp⟩ : ∃ Lp, Lp = l p := ⟨_, rfl⟩
          have hLp := HL.out p hp3
          rw [← eLp] at hrow hLp hV2
          have HKQ := Hid.mk (And.intro kw hkq)
          have ELP := Hid.mk eLp
          clear ep ex kw hkq eLp
          by_cases hx : x < Lp
          · have hx2 : (x : Int) < (Lp : Int) := by omega
            obtain ⟨ga, oa, ea, hc⟩ := (HR.out p hp3).at (i := x) (by rw [← ELP.out]; exact hx)
            rw [ea] at hrow
            go_wp2_with (fail)
            refine CW.out.mono ?_
            rintro e w4 ⟨rfl, hk4⟩
            have hrow4 := cell_keep (HKQ.out.1.trans hk4) hrow (by simp)
            have hc4 := cell_keep (HKQ.out.1.trans hk4) hc (by simp)
            go_wp2
            have hfx := HF.out p x hp3 (by rw [← ELP.out]; exact hx)
            refine ⟨⟨k + 1, by omega, by go_num, ?_, HKQ.out.2.trans hk4⟩, by simp [intOf]; omega⟩
            rw [v2_or _ _ _ (v2P_lt HF.out n k) hfx hk3, v2P, ← ES.out, hV2.out, if_pos hx]
          · have hx2 : ¬ (x : Int) < (Lp : Int) := by omega
            go_wp2_with (fail)
            refine CW.out.mono ?_
            rintro e w4 ⟨rfl, hk4⟩
            have hrow4 := cell_keep (HKQ.out.1.trans hk4) hrow (by simp)
            go_wp2
            refine ⟨⟨k + 1, by omega, by go_num, ?_, HKQ.out.2.trans hk4⟩, by simp [intOf]; omega⟩
            rw [v2P, ← ES.out, hV2.out, if_neg hx, Nat.zero_mul, Nat.add_zero]
        · obtain rfl : k = 3 := by omega
          rw [v2P_three]
          have hWk : wkN (v2W f l) N (j + 1) = wkN (v2W f l) N j * 4294967296 + v2W f l n := by rw [wkN, HH.out.2.2.2.1]
          have hlo := v2W_lt HF.out n
          obtain ⟨x, ex⟩ : ∃ x, x = v2W f l n := ⟨_, rfl⟩
          rw [← ex] at hWk hlo ⊢
          obtain ⟨K0', K1, K2, K3, K4⟩ := HH.out
          have hkr : Kept [] wo wr := hkq
          have nm : ∀ z, z = B ∨ (∃ g, Vv.ownBlock = some g ∧ g = z) → z ∉ ([] : List Nat) := fun z _ => by simp
          have hW2 : Bt.WriterAt wr B Vv (wkN (v2W f l) N j) (32 * j) := ⟨hkr.heap K1.1 (by simp), (kept_to hkr).row K1.2 (by simp)⟩
          have CP := Hid.mk (Bt.put_any B Vv (wkN (v2W f l) N j) (32 * j) (x : Int) 32 wr hW2 (by omega) (by omega) (by omega) (by show (x : Int).toNat < 2 ^ 32; omega) (by omega))
          have HBL : Hid (B < wr.heap.size) := Hid.mk (lt_of_block hW2.1)
          have HQ := Hid.mk (And.intro (K0'.trans hkr) (And.intro K2 (And.intro K4 hWk)))
          clear K0' K1 K2 K3 K4 hkr nm hW2 hWk ex hkq hlo
          go_wp2_with (fail)
          refine CP.out.mono ?_
          rintro e w4 ⟨rfl, V3, hW3, hk3, hl3⟩
          obtain ⟨Q0, Q1, Q2, Q3⟩ := HQ.out
          rw [show (32 : Int).toNat = 32 from rfl, Int.toNat_natCast, show 2 ^ 32 = 4294967296 from rfl, ← Q3, show 32 * j + 32 = 32 * (j + 1) by omega] at hW3
          have hk5 : Kept [] w w4 := Q0.step (kept_of hk3) (fun z hz => by
            right
            rw [← EB.out]
            rcases List.mem_cons.1 hz with h | h
            · omega
            · rw [Option.mem_toList] at h
              have := Q1 z h
              omega)
          have HR4 : Hid (Bt.WriterAt w4 B V3 (wkN (v2W f l) N (j + 1)) (32 * (j + 1)) ∧ (∀ g, V3.ownBlock = some g → B < g) ∧ Kept [] w w4) := Hid.mk ⟨hW3, fun g hg => by
            rcases hl3 with h | ⟨g2, h1, h2⟩
            · rw [h] at hg
              exact Q1 g hg
            · rw [h1] at hg
              cases hg
              have h9 := HBL.out
              have h8 : wr.heap.size ≤ g := h2
              omega, hk5⟩
          clear hW3 hk3 hl3 Q0 Q1 Q2 Q3 hk5
          have hjn := HQ.out.2.2.1
          go_wp2
          exact ⟨⟨j + 1, by omega, by congr 1; omega, HR4.out.2.2, V3, HR4.out.1, HR4.out.2.1⟩, by simp [intOf]; try omega⟩
    · obtain rfl : j = N := by omega
      have e1 : (j : Int) - 1 - j = -1 := by omega
      rw [e1]
      have CY := Hid.mk (Bt.bytes_any B Vv (wkN (v2W f l) j j) (32 * j) wr hW (by omega))
      have HH := Hid.mk hk
      clear hk hW hV e1
      go_wp2_with (fail)
      refine CY.out.mono ?_
      rintro e w3 ⟨rfl, hb3, hk3⟩
      have e2 : (32 * j + 7) / 8 = 4 * j := by omega
      rw [e2, show 8 * (4 * j) - 32 * j = 0 by omega, Nat.pow_zero, Nat.mul_one] at hb3
      rw [e2]
      have hcb : Cb w3 wr.heap.size (4 * j) (fun i => wkN (v2W f l) j j / 256 ^ (4 * j - 1 - i) % 256) := Cb.of_list hb3 _ _ (by rw [Bt.big_length]; exact Nat.le_refl _) (fun i hi => big_at _ _ _ hi)
      have CBk := Hid.mk (backB_any wr.heap.size (4 * j) (4 * j) _ w3 hcb (by omega))
      have HK3 := Hid.mk (HH.out.trans (kept_of hk3))
      clear e2 hb3 hk3 hcb
      go_wp2_with (fail)
      refine CBk.out.mono ?_
      rintro e w4 ⟨g2, c2, rfl, h1, h2, h3, h4, h5⟩
      have HE : Hid (w.heap.size ≤ g2 ∧ Cb w4 g2 (4 * j) (v2B f l) ∧ Kept [] w w4) := Hid.mk ⟨Nat.le_trans HK3.out.size h1, h4.congr (fun t ht => by
        show wkN (v2W f l) j j / 256 ^ (4 * j - 1 - (4 * j - 1 - t)) % 256 = _
        rw [show 4 * j - 1 - (4 * j - 1 - t) = t by omega, wkN_byte _ (fun i => Nat.lt_trans (v2W_lt HF.out i) (by decide)) j t ht]
        rfl), HK3.out.trans h5⟩
      clear h1 h2 h3 h4 h5
      go_wp2
      go_ret
      exact ⟨g2, c2, rfl, HE.out⟩
end Go.Proofs.YtodlkpcbkilglaaDoor

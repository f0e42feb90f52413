import Derived.Test.YthhcihcgefeblaaDoorGaZ
namespace Go.Proofs.YthhcihcgefeblaaDoor
open Go.RowKit

/-- A thing in memory: what holds of it, and the blocks that it lies in. -/
structure Rsc where
  P : World → Prop
  F : List Nat
  lt : ∀ {w : World} {x : Nat}, P w → x ∈ F → x < w.heap.size
  keep : ∀ {w w' : World} {ks : List Nat}, P w → Kept ks w w' → (∀ x ∈ F, x ∉ ks) → P w'

/-- Things that lie apart, in memory that is new to W. -/
structure SepL (W w : World) (l : List Rsc) : Prop where
  old : Kept [] W w
  P : ∀ i (hi : i < l.length), (l[i]).P w
  new : ∀ i (hi : i < l.length), ∀ x ∈ (l[i]).F, W.heap.size ≤ x
  apart : ∀ i j (hi : i < l.length) (hj : j < l.length), i ≠ j → ∀ x ∈ (l[i]).F, x ∉ (l[j]).F

theorem SepL.start {W w : World} (h : Kept [] W w) : SepL W w [] := ⟨h, fun _ hi => absurd hi (Nat.not_lt_zero _), fun _ hi => absurd hi (Nat.not_lt_zero _), fun _ _ hi => absurd hi (Nat.not_lt_zero _)⟩

theorem SepL.keep {W w w' : World} {l : List Rsc} (h : SepL W w l) (hk : Kept [] w w') : SepL W w' l :=
  ⟨h.old.trans hk, fun i hi => (l[i]).keep (h.P i hi) hk (by simp), h.new, h.apart⟩
theorem SepL.drewN {W w : World} {l : List Rsc} (h : SepL W w l) (q : Nat) : SepL W (w.drewN q) l := h.keep ((Kept.refl _ _).drewN q)

/-- Other things in the same places, but one that may lie in new memory too. -/
theorem SepL.gen {W w w' : World} {l l' : List Rsc} (h : SepL W w l) (hl : l'.length = l.length) (i : Nat) (hk : Kept [] W w') (hP : ∀ k (hk : k < l'.length), (l'[k]).P w')
    (sub : ∀ k (hk : k < l'.length) (hk2 : k < l.length), ∀ x ∈ (l'[k]).F, x ∈ (l[k]).F ∨ (k = i ∧ w.heap.size ≤ x)) : SepL W w' l' := by
  have hs := h.old.size
  refine ⟨hk, hP, fun k hk x hx => ?_, fun j k hj hk hjk x hx hx2 => ?_⟩
  · rcases sub k hk (by omega) x hx with h1 | ⟨_, h1⟩
    · exact h.new k (by omega) x h1
    · omega
  · rcases sub j hj (by omega) x hx with h1 | ⟨e1, h1⟩
    · rcases sub k hk (by omega) x hx2 with h2 | ⟨_, h2⟩
      · exact h.apart j k (by omega) (by omega) hjk x h1 h2
      · have := (l[j]).lt (h.P j (by omega)) h1; omega
    · rcases sub k hk (by omega) x hx2 with h2 | ⟨e2, h2⟩
      · have := (l[k]).lt (h.P k (by omega)) h2; omega
      · omega

/-- One of them is changed. -/
theorem SepL.step {W w w' : World} {l : List Rsc} {ks : List Nat} {r : Rsc} (h : SepL W w l) (i : Nat) (hi : i < l.length) (hk : Kept ks w w') (hks : ∀ x ∈ ks, x ∈ (l[i]).F ∨ w.heap.size ≤ x) (hr : r.P w')
    (hF : ∀ x ∈ r.F, x ∈ (l[i]).F ∨ w.heap.size ≤ x) : SepL W w' (l.set i r) := by
  have hs := h.old.size
  refine h.gen (by simp) i (h.old.step hk fun x hx => .inr ?_) (fun k hk2 => ?_) (fun k hk2 hk3 x hx => ?_)
  · rcases hks x hx with h1 | h1
    · exact h.new i hi x h1
    · omega
  · rw [List.getElem_set]
    split
    · exact hr
    · rename_i hne
      have hk3 : k < l.length := by simpa using hk2
      refine (l[k]).keep (h.P k hk3) hk (fun x hx hx2 => ?_)
      rcases hks x hx2 with h1 | h1
      · exact h.apart k i hk3 hi (Ne.symm hne) x hx h1
      · have := (l[k]).lt (h.P k hk3) hx; omega
  · rw [List.getElem_set] at hx
    split at hx
    · rename_i he
      subst he
      rcases hF x hx with h1 | h1
      · exact .inl h1
      · exact .inr ⟨rfl, h1⟩
    · exact .inl hx

/-- Two of them are changed; the second stays where it lies. -/
theorem SepL.step2 {W w w' : World} {l : List Rsc} {ks : List Nat} {r q : Rsc} (h : SepL W w l) (i j : Nat) (hi : i < l.length) (hj : j < l.length) (hk : Kept ks w w') (hks : ∀ x ∈ ks, x ∈ (l[i]).F ∨ x ∈ (l[j]).F ∨ w.heap.size ≤ x) (hr : r.P w')
    (hF : ∀ x ∈ r.F, x ∈ (l[i]).F ∨ w.heap.size ≤ x) (hq : q.P w') (hG : q.F = (l[j]).F) : SepL W w' ((l.set i r).set j q) := by
  have hs := h.old.size
  refine h.gen (by simp) i (h.old.step hk fun x hx => .inr ?_) (fun k hk2 => ?_) (fun k hk2 hk3 x hx => ?_)
  · rcases hks x hx with h1 | h1 | h1
    · exact h.new i hi x h1
    · exact h.new j hj x h1
    · omega
  · rw [List.getElem_set]
    split
    · exact hq
    · rename_i hne
      rw [List.getElem_set]
      split
      · exact hr
      · rename_i hne2
        have hk3 : k < l.length := by simpa using hk2
        refine (l[k]).keep (h.P k hk3) hk (fun x hx hx2 => ?_)
        rcases hks x hx2 with h1 | h1 | h1
        · exact h.apart k i hk3 hi (Ne.symm hne2) x hx h1
        · exact h.apart k j hk3 hj (Ne.symm hne) x hx h1
        · have := (l[k]).lt (h.P k hk3) hx; omega
  · rw [List.getElem_set] at hx
    split at hx
    · rename_i he
      subst he
      rw [hG] at hx
      exact .inl hx
    · rw [List.getElem_set] at hx
      split at hx
      · rename_i he
        subst he
        rcases hF x hx with h1 | h1
        · exact .inl h1
        · exact .inr ⟨rfl, h1⟩
      · exact .inl hx

/-- One more, in new memory. -/
theorem SepL.push {W w w' : World} {l : List Rsc} {r : Rsc} (h : SepL W w l) (hk : Kept [] w w') (hr : r.P w') (hF : ∀ x ∈ r.F, w.heap.size ≤ x) : SepL W w' (l ++ [r]) := by
  have hs := h.old.size
  have h' := h.keep hk
  refine ⟨h'.old, fun k hk2 => ?_, fun k hk2 x hx => ?_, fun j k hj hk2 hjk x hx hx2 => ?_⟩
  · rw [List.getElem_append]
    split
    · exact h'.P k _
    · simpa using hr
  · rw [List.getElem_append] at hx
    split at hx
    · exact h.new k _ x hx
    · have := hF x (by simpa using hx); omega
  · simp at hj hk2
    rw [List.getElem_append] at hx hx2
    split at hx
    · rename_i h1
      split at hx2
      · rename_i h2
        exact h.apart j k h1 h2 hjk x hx hx2
      · have := hF x (by simpa using hx2)
        have := (l[j]).lt (h.P j h1) hx
        omega
    · split at hx2
      · rename_i h2
        have := hF x (by simpa using hx)
        have := (l[k]).lt (h.P k h2) hx2
        omega
      · omega

/-- The first ones alone. -/
theorem SepL.tail {W w : World} {r : Rsc} {l : List Rsc} (h : SepL W w (r :: l)) : SepL W w l :=
  ⟨h.old, fun i hi => h.P (i + 1) (by simp; omega), fun i hi => h.new (i + 1) (by simp; omega), fun i j hi hj hij => h.apart (i + 1) (j + 1) (by simp; omega) (by simp; omega) (by omega)⟩

theorem mem_own {V : Value} {x : Nat} : x ∈ V.ownBlock.toList ↔ V.ownBlock = some x := by simp

theorem ownsRow_lt {w : World} {e : TypeId} {v : Value} {n x : Nat} {xs : List Value} (h : w.ownsRow 0 e 1 v n xs) (hx : v.ownBlock = some x) : x < w.heap.size := (h.lt x hx).2

def wtr (B : Nat) (V : Value) (N len : Nat) : Rsc where
  P := fun w => WriterAt w B V N len
  F := B :: V.ownBlock.toList
  lt := fun {w x} h hx => by
    simp only [List.mem_cons, mem_own] at hx
    rcases hx with rfl | hx
    · exact lt_of_block h.1
    · exact ownsRow_lt h.2 hx
  keep := fun {w w' ks} h hk hF => ⟨hk.heap h.1 (hF _ (by simp)), hk.row h.2 (fun g hg => hF _ (List.mem_cons_of_mem _ (mem_own.2 hg)))⟩

def rdr (B g : Nat) (l : List Nat) (t : Nat) : Rsc where
  P := fun w => ReaderAt w B g l t
  F := [B, g]
  lt := fun {w x} h hx => by
    simp only [List.mem_cons, List.not_mem_nil, or_false] at hx
    rcases hx with rfl | rfl
    · exact lt_of_block h.1
    · exact lt_of_block h.2.1
  keep := fun {w w' ks} h hk hF => reader_kept h hk (hF _ (by simp)) (hF _ (by simp))

def cdr (X r : Nat) : Rsc where
  P := fun w => CoderAt w X r
  F := [X]
  lt := fun {w x} h hx => by simp at hx; subst hx; exact lt_of_block h.1
  keep := fun {w w' ks} h hk hF => h.kept hk (hF _ (by simp))

theorem lies_F {w : World} {B : Nat} {V V' : Value} (h : Lies w V V') : ∀ x ∈ B :: V'.ownBlock.toList, x ∈ B :: V.ownBlock.toList ∨ w.heap.size ≤ x := by
  intro x hx
  rcases List.mem_cons.1 hx with rfl | hx
  · exact .inl (by simp)
  · rcases h.mem x hx with h | h
    · exact .inl (List.mem_cons_of_mem _ h)
    · exact .inr h

section
variable {W w : World} {l : List Rsc}

theorem sep_newWriter (h : SepL W w l) : Calls Tryd.prog 18 #[] w fun e w' => ∃ B, e = .returned (.pointer (some ⟨B, 0, none⟩)) ∧ SepL W w' (l ++ [wtr B (.slice none 0 0) 0 0]) := by
  refine (newWriter_any w).mono ?_
  rintro e w' ⟨rfl, rfl⟩
  exact ⟨_, rfl, h.push ((Kept.refl _ _).alloc _) (newWriter_at w) (by simp [wtr, Value.ownBlock])⟩

theorem sep_newRuns (h : SepL W w l) : Calls Tryd.prog 28 #[] w fun e w' => ∃ X, e = .returned (.pointer (some ⟨X, 0, none⟩)) ∧ SepL W w' (l ++ [cdr X 0]) := by
  refine (newRuns_any w).mono ?_
  rintro e w' ⟨rfl, rfl⟩
  exact ⟨_, rfl, h.push ((Kept.refl _ _).alloc _) (newRuns_at w) (by simp [cdr])⟩

theorem sep_gput (h : SepL W w l) (i : Nat) (hi : i < l.length) {B : Nat} {V : Value} {N len : Nat} (v k wide : Int) (e : l[i] = wtr B V N len) (k0 : 0 ≤ k) (k1 : k ≤ 15) (w0 : 1 ≤ wide) (w1 : wide ≤ 16) (v0 : 0 ≤ v) (hv : v.toNat < 2 ^ wide.toNat) (hl : len / 8 + 16 ≤ 140737488355328) :
    Calls Tryd.prog 21 #[.pointer (some ⟨B, 0, none⟩), .int .i64 v, .int .i64 k, .int .i64 wide] w fun e w' => e = .returned (.int .i64 0) ∧
      ∃ V', SepL W w' (l.set i (wtr B V' (N * 2 ^ gw v.toNat k.toNat wide.toNat + gf v.toNat k.toNat) (len + gw v.toNat k.toNat wide.toNat))) := by
  have hp := h.P i hi
  rw [e] at hp
  refine (gput_any B V N len v k wide w hp k0 k1 w0 w1 v0 hv hl).mono ?_
  rintro _ w' ⟨rfl, V', hw, hk, hL⟩
  exact ⟨rfl, V', h.step i hi hk (fun x hx => .inl (by rw [e]; exact hx)) hw (by rw [e]; exact lies_F hL)⟩

theorem sep_rput (h : SepL W w l) (i j : Nat) (hi : i < l.length) (hj : j < l.length) {X B : Nat} {V : Value} {N len r : Nat} (n room : Int) (e : l[i] = wtr B V N len) (f : l[j] = cdr X r) (hT : Tab W) (r0 : 1 ≤ room) (r1 : room ≤ 4096) (n0 : 0 ≤ n) (n1 : n ≤ room) (hl : len / 8 + 2000 ≤ 140737488355328) :
    Calls Tryd.prog 30 #[.pointer (some ⟨X, 0, none⟩), .pointer (some ⟨B, 0, none⟩), .int .i64 n, .int .i64 room] w fun e w' => e = .returned (.int .i64 0) ∧
      ∃ V', SepL W w' ((l.set i (wtr B V' (N * 2 ^ rw_ r n.toNat room.toNat + rf r n.toNat room.toNat) (len + rw_ r n.toNat room.toNat))).set j (cdr X (rr r n.toNat room.toNat))) := by
  have hp := h.P i hi
  have hq := h.P j hj
  have np := h.new i hi
  have nq := h.new j hj
  have hpos := hT.pos
  rw [e] at hp np
  rw [f] at hq nq
  have hB0 := np B (by simp [wtr])
  have hX0 := nq X (by simp [cdr])
  refine (rput_any X B V N len r n room w hq hp (hT.kept h.old (by simp)) (by omega) (by omega) (fun hh => by have := np 0 (by simp [wtr, hh]); omega) r0 r1 n0 n1 hl).mono ?_
  rintro _ w' ⟨rfl, V', hc, hw, hk, hL⟩
  refine ⟨rfl, V', h.step2 i j hi hj hk (fun x hx => ?_) hw (by rw [e]; exact lies_F hL) hc (by rw [f]; rfl)⟩
  rw [e, f]
  rcases List.mem_cons.1 hx with hx | hx
  · exact .inr (.inl (by simp [cdr, hx]))
  · exact .inl hx

theorem sep_bytes (h : SepL W w l) (i : Nat) (hi : i < l.length) {B : Nat} {V : Value} {N len : Nat} (e : l[i] = wtr B V N len) (hl : len ≤ 2 ^ 50) :
    Calls Tryd.prog 24 #[.pointer (some ⟨B, 0, none⟩)] w fun e w' => ∃ g, e = .returned (.slice (some ⟨g, 0, none⟩) ((len + 7) / 8) ((len + 7) / 8)) ∧
      w'.heap[g]? = some (.cells ((big ((len + 7) / 8) (N * 2 ^ (8 * ((len + 7) / 8) - len))).map byt).toArray 5 (0, 0)) ∧ SepL W w' l := by
  have hp := h.P i hi
  rw [e] at hp
  refine (bytes_any B V N len w hp hl).mono ?_
  rintro _ w' ⟨rfl, hh, hk⟩
  exact ⟨_, rfl, hh, h.keep hk⟩

theorem sep_len (h : SepL W w l) (i : Nat) (hi : i < l.length) {B : Nat} {V : Value} {N len : Nat} (e : l[i] = wtr B V N len) (hl : len ≤ 2 ^ 60) :
    Calls Tryd.prog 22 #[.pointer (some ⟨B, 0, none⟩)] w fun e w' => e = .returned (.int .i64 (len : Int)) ∧ SepL W w' l := by
  have hp := h.P i hi
  rw [e] at hp
  refine (len_any B V N len w hp hl).mono ?_
  rintro _ w' ⟨rfl, q, rfl⟩
  exact ⟨rfl, h.drewN q⟩

theorem sep_newReader (h : SepL W w l) (ao : Option Addr) (cap m : Nat) (bs : List Nat) (hr : Reads w ao bs) (hb : Byts bs) (hm : bs.length = m) (hl : m ≤ 281474976710656) :
    Calls Tryd.prog 23 #[.slice ao m cap] w fun e w' => ∃ B g, e = .returned (.pointer (some ⟨B, 0, none⟩)) ∧ SepL W w' (l ++ [rdr B g bs 0]) := by
  refine (newReader_any ao cap m bs w hr hb hm hl).mono ?_
  rintro _ w' ⟨B, g, rfl, hB, hg, hR, hk⟩
  exact ⟨B, g, rfl, h.push hk hR (by simp [rdr]; exact ⟨hB, hg⟩)⟩

theorem sep_left (h : SepL W w l) (i : Nat) (hi : i < l.length) {B g : Nat} {bs : List Nat} {t : Nat} (e : l[i] = rdr B g bs t) :
    Calls Tryd.prog 49 #[.pointer (some ⟨B, 0, none⟩)] w fun e w' => e = .returned (.int .i64 (8 * (bs.length : Int) - (t : Int))) ∧ SepL W w' l := by
  have hp := h.P i hi
  rw [e] at hp
  refine (left_any B g bs t w hp).mono ?_
  rintro _ w' ⟨rfl, q, rfl⟩
  exact ⟨rfl, h.drewN q⟩

theorem sep_get (h : SepL W w l) (i : Nat) (hi : i < l.length) {B g : Nat} {bs : List Nat} {t t' : Nat} (n Y E : Int) (e : l[i] = rdr B g bs t) (h0 : 0 ≤ n) (h1 : n ≤ 32) (hg : GetRes bs t n.toNat Y E t') :
    Calls Tryd.prog 44 #[.pointer (some ⟨B, 0, none⟩), .int .i64 n] w fun e w' => e = .returned (.tuple #[.int .u32 Y, .int .i64 E]) ∧ SepL W w' (l.set i (rdr B g bs t')) := by
  have hp := h.P i hi
  rw [e] at hp
  refine (get_res B g bs t n Y E t' w hp h0 h1 hg).mono ?_
  rintro _ w' ⟨rfl, hR, hk⟩
  exact ⟨rfl, h.step i hi hk (fun x hx => .inl (by rw [e]; simp at hx; simp [rdr, hx])) hR (fun x hx => .inl (by rw [e]; exact hx))⟩

theorem sep_gget (h : SepL W w l) (i : Nat) (hi : i < l.length) {B g : Nat} {bs : List Nat} {t : Nat} (k wide : Int) (e : l[i] = rdr B g bs t) (k0 : 0 ≤ k) (k1 : k ≤ 15) (w0 : 1 ≤ wide) (w1 : wide ≤ 16) :
    Calls Tryd.prog 25 #[.pointer (some ⟨B, 0, none⟩), .int .i64 k, .int .i64 wide] w fun e w' => ∃ (Y E : Int) (t' : Nat), e = .returned (.tuple #[.int .i64 Y, .int .i64 E]) ∧ NumRes bs t k.toNat wide.toNat Y E t' ∧ SepL W w' (l.set i (rdr B g bs t')) := by
  have hp := h.P i hi
  rw [e] at hp
  refine (gget_any B g bs t k wide w hp k0 k1 w0 w1).mono ?_
  rintro _ w' ⟨Y, E, t', rfl, hR, hk, hres⟩
  exact ⟨Y, E, t', rfl, hres, h.step i hi hk (fun x hx => .inl (by rw [e]; simp at hx; simp [rdr, hx])) hR (fun x hx => .inl (by rw [e]; exact hx))⟩

theorem sep_rget (h : SepL W w l) (i j : Nat) (hi : i < l.length) (hj : j < l.length) {X B g : Nat} {bs : List Nat} {t r : Nat} (room : Int) (e : l[i] = rdr B g bs t) (f : l[j] = cdr X r) (hT : Tab W) (h0 : 1 ≤ room) (h1 : room ≤ 4096) :
    Calls Tryd.prog 32 #[.pointer (some ⟨X, 0, none⟩), .pointer (some ⟨B, 0, none⟩), .int .i64 room] w fun e w' => ∃ (Y E : Int) (t' r' : Nat), e = .returned (.tuple #[.int .i64 Y, .int .i64 E]) ∧ RunRes bs t r room.toNat Y E t' r' ∧ SepL W w' ((l.set i (rdr B g bs t')).set j (cdr X r')) := by
  have hp := h.P i hi
  have hq := h.P j hj
  have np := h.new i hi
  have hpos := hT.pos
  rw [e] at hp np
  rw [f] at hq
  have hB0 := np B (by simp [rdr])
  refine (rget_any X B g bs t r room w hq hp (hT.kept h.old (by simp)) (by omega) h0 h1).mono ?_
  rintro _ w' ⟨Y, E, t', r', rfl, hR, hC, hk, hres⟩
  refine ⟨Y, E, t', r', rfl, hres, h.step2 i j hi hj hk (fun x hx => ?_) hR (fun x hx => .inl (by rw [e]; exact hx)) hC (by rw [f]; rfl)⟩
  rw [e, f]
  simp at hx
  rcases hx with hx | hx
  · exact .inr (.inl (by simp [cdr, hx]))
  · exact .inl (by simp [rdr, hx])

theorem sep_rate (h : SepL W w l) (j : Nat) (hj : j < l.length) {X r : Nat} (f : l[j] = cdr X r) :
    Calls Tryd.prog 31 #[.pointer (some ⟨X, 0, none⟩)] w fun e w' => e = .returned (.int .i64 (r : Int)) ∧ w' = w := by
  have hq := h.P j hj
  rw [f] at hq
  exact rate_any X r w hq

theorem sep_rest (h : SepL W w l) (i : Nat) (hi : i < l.length) {B g : Nat} {bs : List Nat} {t : Nat} (e : l[i] = rdr B g bs t) (h1 : 8 * bs.length < t + 8) (hz : nextN bs t (8 * bs.length - t) = 0) :
    Calls Tryd.prog 26 #[.pointer (some ⟨B, 0, none⟩)] w fun e w' => e = .returned (.int .i64 0) ∧ SepL W w' l := by
  have hp := h.P i hi
  rw [e] at hp
  refine (rest_ok B g bs t w hp h1 hz).mono ?_
  rintro _ w' ⟨rfl, q, rfl⟩
  exact ⟨rfl, h.drewN q⟩
end
end Go.Proofs.YthhcihcgefeblaaDoor

import Derived.Test.YtplpjpijmnglfaaA2
namespace Go.Proofs.Ytplpjpijmnglfaa
open Go.RowKit

/-- A slice all of whose elements are x. -/
def Al (k : IntKind) (w : World) (ao : Option Addr) (n : Nat) (x : Int) : Prop := n = 0 ∨ ∃ G off, ao = some ⟨G, off, none⟩ ∧ ∀ i, i < n → w.cell? ⟨G, off + i, none⟩ = some (.int k x)
theorem Zr.al {k : IntKind} {e : TypeId} {w : World} {G n : Nat} {v : Int} (h : Zr k e w G n v) : Al k w (some ⟨G, 0, none⟩) n v := .inr ⟨G, 0, rfl, fun i hi => by rw [Nat.zero_add]; exact h.at i hi⟩

set_option maxHeartbeats 2000000 in
theorem full_any (ao : Option Addr) (n cap : Nat) (x : Int) (w : World) (h : Al .u8 w ao n x) (hn : n ≤ 1152921504606846976) :
    Calls Try.prog 17 #[.slice ao n cap, .int .u8 x] w fun e w' => e = .returned (.bool true) ∧ w' = w := by
  have HA := Hid.mk h
  clear h
  go_enter Try.func17, Try.ntmps17
  go_wp2
  go_loop [5] (fun i => ∃ k : Nat, k ≤ n ∧ i = .int .i64 (k : Int)) (fun i => n - (intOf i).toNat)
  case atStart => exact ⟨0, by omega, rfl⟩
  case round =>
    obtain ⟨k, hk, rfl⟩ := hrel
    by_cases hlt : k < n
    · rcases HA.out with h0 | ⟨G, off, rfl, hc⟩
      · omega
      · have c0 := hc k hlt
        clear hc
        go_wp2
        go_round
        case rel => exact ⟨k + 1, by omega, by go_num⟩
        case measure => simp [intOf]; omega
    · go_wp2
      go_ret
      exact ⟨rfl, rfl⟩
set_option maxHeartbeats 2000000 in
theorem fulls_any (ao : Option Addr) (n cap : Nat) (x : Int) (w : World) (h : Al .u16 w ao n x) (hn : n ≤ 1152921504606846976) :
    Calls Try.prog 16 #[.slice ao n cap, .int .u16 x] w fun e w' => e = .returned (.bool true) ∧ w' = w := by
  have HA := Hid.mk h
  clear h
  go_enter Try.func16, Try.ntmps16
  go_wp2
  go_loop [5] (fun i => ∃ k : Nat, k ≤ n ∧ i = .int .i64 (k : Int)) (fun i => n - (intOf i).toNat)
  case atStart => exact ⟨0, by omega, rfl⟩
  case round =>
    obtain ⟨k, hk, rfl⟩ := hrel
    by_cases hlt : k < n
    · rcases HA.out with h0 | ⟨G, off, rfl, hc⟩
      · omega
      · have c0 := hc k hlt
        clear hc
        go_wp2
        go_round
        case rel => exact ⟨k + 1, by omega, by go_num⟩
        case measure => simp [intOf]; omega
    · go_wp2
      go_ret
      exact ⟨rfl, rfl⟩

theorem gm0 {m : Int} (h0 : 0 ≤ m) (h1 : m ≤ 1073741824) : Gm m 0 0 := ⟨by omega, by omega, h0, h1⟩
theorem GPost.ok {k : IntKind} {e : TypeId} {P : Nat} {m g t n s : Int} {w w' : World} {r : Ending} (h : GPost k e P m g t n s w r w') (hE : gvE m g n s = 0) :
    ∃ (G : Nat) (c : Nat), n = (c : Int) ∧ r = .returned (.tuple #[.slice (some ⟨G, 0, none⟩) c c, .int .i64 0]) ∧ Ar 62 w' P m (g + n * s) (mx t (g + n * s)) ∧ Zr k e w' G c 0 ∧ w.heap.size ≤ G ∧ Kept [P] w w' := by
  rcases h with ⟨h, _⟩ | ⟨_, h⟩
  · exact absurd hE h
  · exact h
theorem GPost.no {k : IntKind} {e : TypeId} {P : Nat} {m g t n s : Int} {w w' : World} {r : Ending} (h : GPost k e P m g t n s w r w') (hE : gvE m g n s ≠ 0) :
    r = .returned (.tuple #[.slice none 0 0, .int .i64 (gvE m g n s)]) ∧ Ar 62 w' P m g t ∧ Kept [] w w' := by
  rcases h with ⟨_, h⟩ | ⟨h, _⟩
  · exact h
  · exact absurd h hE

set_option maxHeartbeats 4000000 in
set_option maxRecDepth 100000 in
theorem awake_any (w : World) : Calls Try.prog 6 #[] w fun e w' => e = .returned (.bool true) ∧ Kept [] w w' := by
  go_enter Try.func6, Try.ntmps6
  go_wp2_with (fail)
  refine (new_ok 10 w (by omega) (by omega)).mono ?_
  rintro e w1 ⟨P, rfl, A1, hP, k1⟩
  go_wp2_with (fail)
  refine (bytes_any P 10 0 0 4 w1 A1 (gm0 (by omega) (by omega))).mono ?_
  intro e w2 hp
  obtain ⟨G, c, hc, rfl, A2, -, -, k2⟩ := hp.ok rfl
  obtain rfl : c = 4 := by omega
  clear hp
  go_wp2_with (fail)
  refine (samples_any P 10 4 4 3 w2 A2 ⟨by omega, by omega, by omega, by omega⟩).mono ?_
  intro e w3 hp
  obtain ⟨G3, c, hc3, rfl, A3, -, -, k3⟩ := hp.ok rfl
  obtain rfl : c = 3 := by omega
  clear hp
  go_wp2_with (fail)
  refine (bytes_any P 10 10 10 1 w3 A3 ⟨by omega, by omega, by omega, by omega⟩).mono ?_
  intro e w4 hp
  obtain ⟨rfl, A4, k4⟩ := hp.no (by decide)
  clear hp
  rw [show gvE 10 10 1 1 = 111 from rfl]
  have HA4 := Hid.mk A4
  clear A1 A2 A3 A4 hc hc3
  go_wp2_with (go_at_call 15; refine (given_any P 10 10 10 _ HA4.out).mono ?_; rintro e w' ⟨rfl, rfl⟩)
  go_ret
  have hs := k1.size
  exact ⟨rfl, ((k1.step k2 (fun x hx => by simp at hx; subst hx; exact .inr hP)).step k3 (fun x hx => by simp at hx; subst hx; exact .inr hP)).trans k4⟩
end Go.Proofs.Ytplpjpijmnglfaa

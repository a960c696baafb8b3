/- Contracts: add, has. -/
import Derived.Test.YtonnopcafmhaaaaDoorMb
namespace Go.Proofs.YtonnopcafmhaaaaDoor
open Go.RowKit

theorem i64_and63 (i : Nat) (h : i < 128) : bits .and .i64 (i : Int) 63 = ((i % 64 : Nat) : Int) := by
  have : ∀ i : Nat, i < 128 → bits .and .i64 (i : Int) 63 = ((i % 64 : Nat) : Int) := by decide +kernel
  exact this i h
set_option maxHeartbeats 1000000 in
theorem add_raw (g o i : Nat) (S : Nat → Bool) (w : World) (hi : i < 128) (hc : w.cell? ⟨g, o + i / 64, none⟩ = some (sc S (i / 64))) (hf : w.frozen? ⟨g, o + i / 64, none⟩ = false) :
    Calls Tryd.prog 28 #[.pointer (some ⟨g, o, none⟩), .int .i64 (i : Int)] w fun e w' => e = .returned (.tuple #[]) ∧ ∃ q, w' = (w.setCell ⟨g, o + i / 64, none⟩ (sc (upd S i) (i / 64))).drewN q := by
  have h1 := i64_and63 i hi
  have h2 : (i : Int) / 64 = ((i / 64 : Nat) : Int) := by omega
  have h3 := wd_add S i
  have h4 : IntKind.u64.wrap ((2 : Int) ^ (i % 64)) = ((2 ^ (i % 64) : Nat) : Int) := by
    have := wrap64n (pow_lt64 (j := i % 64) (by omega))
    rw [← this]; simp
  have h5 : min (i % 64) 64 = i % 64 := by omega
  unfold sc at *
  have k2 : i / 64 < 2 := by omega
  have i9 : (i : Int) ≤ 127 := by omega
  generalize i / 64 = k at *
  generalize i % 64 = j at *
  generalize hy : wd (upd S i) k = y at *
  generalize wd S k = x at *
  clear hy hi
  generalize ((2 ^ j : Nat) : Int) = P at *
  have k3 : (k : Int) < 2 := by omega
  have k4 : (0 : Int) ≤ k := by omega
  have j4 : (0 : Int) ≤ j := by omega
  go_enter Tryd.func28, Tryd.ntmps28
  go_still_tail 12, (by kernel_rfl)
  go_wp2
  refine bodyPost_end (v := .tuple #[]) (results_none rfl _ _ _) rfl ⟨rfl, 1, rfl⟩
theorem add_st (g i : Nat) (S : Nat → Bool) (w : World) (hi : i < 128) (h : St w g S) :
    Calls Tryd.prog 28 #[.pointer (some ⟨g, 0, none⟩), .int .i64 (i : Int)] w fun e w' => e = .returned (.tuple #[]) ∧ St w' g (upd S i) ∧ Exc (some g) w w' := by
  refine (add_raw g 0 i S w hi (by rw [Nat.zero_add]; exact h.cell (by omega)) (by rw [Nat.zero_add]; exact h.frozen _)).mono ?_
  rintro e w' ⟨rfl, q, rfl⟩
  refine ⟨rfl, ?_, exc_set _ _ _ _ _⟩
  have := st_upd h i q
  rwa [Nat.zero_add]
theorem add_ga (g n i x : Nat) (A B : Nat → Nat → Bool) (w : World) (hi : i < 128) (hx : x < 128) (h : GB w g n A B) :
    Calls Tryd.prog 28 #[.pointer (some ⟨g, 1 + i * 2, none⟩), .int .i64 (x : Int)] w fun e w' => e = .returned (.tuple #[]) ∧ GB w' g n (up2 A i x) B ∧ Exc (some g) w w' := by
  have hc := h.cell (i := 1 + i * 2 + x / 64) (by omega)
  rw [gc_a _ _ _ hi (by omega)] at hc
  refine (add_raw g (1 + i * 2) x (A i) w hx hc (h.frozen _)).mono ?_
  rintro e w' ⟨rfl, q, rfl⟩
  exact ⟨rfl, gb_upa h hi hx q, exc_set _ _ _ _ _⟩
theorem add_gb (g n i x : Nat) (A B : Nat → Nat → Bool) (w : World) (hi : i < 128) (hx : x < 128) (h : GB w g n A B) :
    Calls Tryd.prog 28 #[.pointer (some ⟨g, 257 + i * 2, none⟩), .int .i64 (x : Int)] w fun e w' => e = .returned (.tuple #[]) ∧ GB w' g n A (up2 B i x) ∧ Exc (some g) w w' := by
  have hc := h.cell (i := 257 + i * 2 + x / 64) (by omega)
  rw [gc_b _ _ _ (by omega)] at hc
  refine (add_raw g (257 + i * 2) x (B i) w hx hc (h.frozen _)).mono ?_
  rintro e w' ⟨rfl, q, rfl⟩
  exact ⟨rfl, gb_upb h hx q, exc_set _ _ _ _ _⟩
set_option maxHeartbeats 1000000 in
theorem has_any (g i : Nat) (S : Nat → Bool) (w : World) (hi : i < 128) (h : St w g S) :
    Calls Tryd.prog 31 #[.pointer (some ⟨g, 0, none⟩), .int .i64 (i : Int)] w fun e w' => e = .returned (.bool (S i)) ∧ w = w' := by
  have h1 := i64_and63 i hi
  have h2 : (i : Int) / 64 = ((i / 64 : Nat) : Int) := by omega
  have h3 := wd_has S i
  have h5 : min (i % 64) 64 = i % 64 := by omega
  have hc : w.cell? ⟨g, i / 64, none⟩ = some (sc S (i / 64)) := h.cell (by omega)
  unfold sc at *
  have k3 : ((i / 64 : Nat) : Int) < 2 := by omega
  have i9 : (i : Int) ≤ 127 := by omega
  have h6 : ((wd S (i / 64) : Nat) : Int) / 2 ^ (i % 64) = ((wd S (i / 64) / 2 ^ (i % 64) : Nat) : Int) := by simp
  generalize hz : ((wd S (i / 64) / 2 ^ (i % 64) : Nat) : Int) = z at *
  generalize i / 64 = k at *
  generalize i % 64 = j at *
  generalize wd S k = x at *
  clear hz hi h
  have k4 : (0 : Int) ≤ k := by omega
  have j4 : (0 : Int) ≤ j := by omega
  cases hS : S i with
  | true =>
    rw [hS, if_pos rfl] at h3
    clear hS
    go_enter Tryd.func31, Tryd.ntmps31
    go_wp2
    go_ret
    exact ⟨rfl, rfl⟩
  | false =>
    rw [hS, if_neg (by decide)] at h3
    clear hS
    go_enter Tryd.func31, Tryd.ntmps31
    go_wp2
    go_ret
    exact ⟨rfl, rfl⟩
end Go.Proofs.YtonnopcafmhaaaaDoor

/- Contracts: Within, the reference's Check and Within. -/
import Derived.Test.YtfmgbhaldakpfaaDoorTb
import Derived.Laws.StructEq
namespace Go.Proofs.YtfmgbhaldakpfaaDoor.Typ
open Go.RowKit

theorem bcell {W w1 : World} (hb : Below W.heap.size W w1) : (∀ b o, b < W.heap.size → w1.cell? ⟨b, o, none⟩ = W.cell? ⟨b, o, none⟩) ∧ (∀ b o, b < W.heap.size → w1.frozen? ⟨b, o, none⟩ = W.frozen? ⟨b, o, none⟩) :=
  ⟨fun b o h => hb.cell (p := ⟨b, o, none⟩) h, fun b o h => hb.frozen (p := ⟨b, o, none⟩) h⟩
theorem idx0 (a b c d e f : Int) (w : World) : (Instr.index 106 (.agg #[.int .i64 a, .int .i64 b, .int .i64 c, .int .i64 d, .int .i64 e, .int .i64 f]) (.int .i64 0)).run Tryd.prog w = .ok (ty a b) w := by kernel_rfl
theorem idx1 (a b c d e f : Int) (w : World) : (Instr.index 106 (.agg #[.int .i64 a, .int .i64 b, .int .i64 c, .int .i64 d, .int .i64 e, .int .i64 f]) (.int .i64 1)).run Tryd.prog w = .ok (ty c d) w := by kernel_rfl
theorem idx2 (a b c d e f : Int) (w : World) : (Instr.index 106 (.agg #[.int .i64 a, .int .i64 b, .int .i64 c, .int .i64 d, .int .i64 e, .int .i64 f]) (.int .i64 2)).run Tryd.prog w = .ok (ty e f) w := by kernel_rfl
set_option maxHeartbeats 1000000 in
theorem within_1 (k o : Int) (w : World) (ha : okB k o = true) (hb : okB k o = true) : Calls Tryd.prog 75 #[ty k o, ty k o] w fun e w' => e = .returned (.bool true) ∧ Below w.heap.size w w' := by
  have HA := Lib.hid ha
  have HB := Lib.hid hb
  clear ha hb
  go_enter Tryd.func75, Tryd.ntmps75
  go_wp2_with fail
  refine (may_ok _ _ _ HA.out).mono ?_
  rintro e w1 ⟨rfl, b1⟩
  have B1 := Lib.hid b1
  obtain ⟨hc, hf⟩ := bcell b1
  have hz0 : w.heap.size < w1.heap.size := by have := b1.size; simp at this; omega
  have hz1 : w.heap.size + 1 < w1.heap.size := by have := b1.size; simp at this; omega
  clear b1
  go_wp2_with fail
  refine (may_ok _ _ _ HB.out).mono ?_
  rintro e w2 ⟨rfl, b2⟩
  have B2 := Lib.hid (B1.out.trans (b2.mono B1.out.size))
  clear b2 hc hf hz0 hz1 B1
  obtain ⟨hc, hf⟩ := bcell B2.out
  have hz0 : w.heap.size < w2.heap.size := by have := B2.out.size; simp at this; omega
  have hz1 : w.heap.size + 1 < w2.heap.size := by have := B2.out.size; simp at this; omega
  go_wp2_with fail
  refine (upward_any _ _ _).mono ?_
  rintro e w3 ⟨rfl, b3⟩
  have B3 := Lib.hid (B2.out.trans (b3.mono B2.out.size))
  clear b3 hc hf hz0 hz1 B2
  obtain ⟨hc, hf⟩ := bcell B3.out
  have hz0 : w.heap.size < w3.heap.size := by have := B3.out.size; simp at this; omega
  have hz1 : w.heap.size + 1 < w3.heap.size := by have := B3.out.size; simp at this; omega
  have hb0 : Below w.heap.size w w3 := ((((Below.refl _ _).alloc (Nat.le_refl _) _).alloc (by simp) _).trans (B3.out.mono (by simp; omega)))
  have HB0 := Lib.hid hb0
  clear hb0
  go_wp2
  have i0 := idx0 k o k 0 0 0
  have i1 := idx1 k o k 0 0 0
  have i2 := idx2 k o k 0 0 0
  refine wp_loop_rounds 4 ?_; rw [rounds_succ]
  go_wp2
  all_goals
    go_ret
    exact ⟨rfl, by have := HB0.out.size; repeat (first | exact HB0.out | refine Below.alloc ?_ (by (try simp); omega) _)⟩
set_option maxHeartbeats 1000000 in
theorem within_2 (k o : Int) (w : World) (ha : okB k o = true) (hb : okB k 0 = true) (h0 : (o == 0) = false) : Calls Tryd.prog 75 #[ty k o, ty k 0] w fun e w' => e = .returned (.bool true) ∧ Below w.heap.size w w' := by
  have HA := Lib.hid ha
  have HB := Lib.hid hb
  clear ha hb
  go_enter Tryd.func75, Tryd.ntmps75
  go_wp2_with fail
  refine (may_ok _ _ _ HA.out).mono ?_
  rintro e w1 ⟨rfl, b1⟩
  have B1 := Lib.hid b1
  obtain ⟨hc, hf⟩ := bcell b1
  have hz0 : w.heap.size < w1.heap.size := by have := b1.size; simp at this; omega
  have hz1 : w.heap.size + 1 < w1.heap.size := by have := b1.size; simp at this; omega
  clear b1
  go_wp2_with fail
  refine (may_ok _ _ _ HB.out).mono ?_
  rintro e w2 ⟨rfl, b2⟩
  have B2 := Lib.hid (B1.out.trans (b2.mono B1.out.size))
  clear b2 hc hf hz0 hz1 B1
  obtain ⟨hc, hf⟩ := bcell B2.out
  have hz0 : w.heap.size < w2.heap.size := by have := B2.out.size; simp at this; omega
  have hz1 : w.heap.size + 1 < w2.heap.size := by have := B2.out.size; simp at this; omega
  go_wp2_with fail
  refine (upward_any _ _ _).mono ?_
  rintro e w3 ⟨rfl, b3⟩
  have B3 := Lib.hid (B2.out.trans (b3.mono B2.out.size))
  clear b3 hc hf hz0 hz1 B2
  obtain ⟨hc, hf⟩ := bcell B3.out
  have hz0 : w.heap.size < w3.heap.size := by have := B3.out.size; simp at this; omega
  have hz1 : w.heap.size + 1 < w3.heap.size := by have := B3.out.size; simp at this; omega
  have hb0 : Below w.heap.size w w3 := ((((Below.refl _ _).alloc (Nat.le_refl _) _).alloc (by simp) _).trans (B3.out.mono (by simp; omega)))
  have HB0 := Lib.hid hb0
  clear hb0
  go_wp2
  have i0 := idx0 k o k 0 0 0
  have i1 := idx1 k o k 0 0 0
  have i2 := idx2 k o k 0 0 0
  refine wp_loop_rounds 4 ?_; rw [rounds_succ]
  go_wp2
  all_goals
    rw [rounds_succ]
    go_wp2
  all_goals
    go_ret
    exact ⟨rfl, by have := HB0.out.size; repeat (first | exact HB0.out | refine Below.alloc ?_ (by (try simp); omega) _)⟩
set_option maxHeartbeats 1000000 in
theorem within_3 (k o : Int) (w : World) (ha : okB k o = true) (hb : okB 0 0 = true) (h0 : (k == 0) = false) : Calls Tryd.prog 75 #[ty k o, ty 0 0] w fun e w' => e = .returned (.bool true) ∧ Below w.heap.size w w' := by
  have HA := Lib.hid ha
  have HB := Lib.hid hb
  clear ha hb
  go_enter Tryd.func75, Tryd.ntmps75
  go_wp2_with fail
  refine (may_ok _ _ _ HA.out).mono ?_
  rintro e w1 ⟨rfl, b1⟩
  have B1 := Lib.hid b1
  obtain ⟨hc, hf⟩ := bcell b1
  have hz0 : w.heap.size < w1.heap.size := by have := b1.size; simp at this; omega
  have hz1 : w.heap.size + 1 < w1.heap.size := by have := b1.size; simp at this; omega
  clear b1
  go_wp2_with fail
  refine (may_ok _ _ _ HB.out).mono ?_
  rintro e w2 ⟨rfl, b2⟩
  have B2 := Lib.hid (B1.out.trans (b2.mono B1.out.size))
  clear b2 hc hf hz0 hz1 B1
  obtain ⟨hc, hf⟩ := bcell B2.out
  have hz0 : w.heap.size < w2.heap.size := by have := B2.out.size; simp at this; omega
  have hz1 : w.heap.size + 1 < w2.heap.size := by have := B2.out.size; simp at this; omega
  go_wp2_with fail
  refine (upward_any _ _ _).mono ?_
  rintro e w3 ⟨rfl, b3⟩
  have B3 := Lib.hid (B2.out.trans (b3.mono B2.out.size))
  clear b3 hc hf hz0 hz1 B2
  obtain ⟨hc, hf⟩ := bcell B3.out
  have hz0 : w.heap.size < w3.heap.size := by have := B3.out.size; simp at this; omega
  have hz1 : w.heap.size + 1 < w3.heap.size := by have := B3.out.size; simp at this; omega
  have hb0 : Below w.heap.size w w3 := ((((Below.refl _ _).alloc (Nat.le_refl _) _).alloc (by simp) _).trans (B3.out.mono (by simp; omega)))
  have HB0 := Lib.hid hb0
  clear hb0
  go_wp2
  have i0 := idx0 k o k 0 0 0
  have i1 := idx1 k o k 0 0 0
  have i2 := idx2 k o k 0 0 0
  refine wp_loop_rounds 4 ?_; rw [rounds_succ]
  go_wp2
  all_goals
    rw [rounds_succ]
    go_wp2
  all_goals
    rw [rounds_succ]
    go_wp2
  all_goals
    go_ret
    exact ⟨rfl, by have := HB0.out.size; repeat (first | exact HB0.out | refine Below.alloc ?_ (by (try simp); omega) _)⟩
set_option maxHeartbeats 1000000 in
theorem within_4 (k o o' : Int) (w : World) (ha : okB k o = true) (hb : okB k o' = true) (h0 : (o == o') = false) (h1 : (0 == o') = false) : Calls Tryd.prog 75 #[ty k o, ty k o'] w fun e w' => e = .returned (.bool false) ∧ Below w.heap.size w w' := by
  have HA := Lib.hid ha
  have HB := Lib.hid hb
  clear ha hb
  go_enter Tryd.func75, Tryd.ntmps75
  go_wp2_with fail
  refine (may_ok _ _ _ HA.out).mono ?_
  rintro e w1 ⟨rfl, b1⟩
  have B1 := Lib.hid b1
  obtain ⟨hc, hf⟩ := bcell b1
  have hz0 : w.heap.size < w1.heap.size := by have := b1.size; simp at this; omega
  have hz1 : w.heap.size + 1 < w1.heap.size := by have := b1.size; simp at this; omega
  clear b1
  go_wp2_with fail
  refine (may_ok _ _ _ HB.out).mono ?_
  rintro e w2 ⟨rfl, b2⟩
  have B2 := Lib.hid (B1.out.trans (b2.mono B1.out.size))
  clear b2 hc hf hz0 hz1 B1
  obtain ⟨hc, hf⟩ := bcell B2.out
  have hz0 : w.heap.size < w2.heap.size := by have := B2.out.size; simp at this; omega
  have hz1 : w.heap.size + 1 < w2.heap.size := by have := B2.out.size; simp at this; omega
  go_wp2_with fail
  refine (upward_any _ _ _).mono ?_
  rintro e w3 ⟨rfl, b3⟩
  have B3 := Lib.hid (B2.out.trans (b3.mono B2.out.size))
  clear b3 hc hf hz0 hz1 B2
  obtain ⟨hc, hf⟩ := bcell B3.out
  have hz0 : w.heap.size < w3.heap.size := by have := B3.out.size; simp at this; omega
  have hz1 : w.heap.size + 1 < w3.heap.size := by have := B3.out.size; simp at this; omega
  have hb0 : Below w.heap.size w w3 := ((((Below.refl _ _).alloc (Nat.le_refl _) _).alloc (by simp) _).trans (B3.out.mono (by simp; omega)))
  have HB0 := Lib.hid hb0
  clear hb0
  go_wp2
  have i0 := idx0 k o k 0 0 0
  have i1 := idx1 k o k 0 0 0
  have i2 := idx2 k o k 0 0 0
  refine wp_loop_rounds 4 ?_; rw [rounds_succ]
  go_wp2
  all_goals
    rw [rounds_succ]
    go_wp2
  all_goals
    rw [rounds_succ]
    go_wp2
  all_goals
    rw [rounds_succ]
    go_wp2
  all_goals
    go_ret
    exact ⟨rfl, by have := HB0.out.size; repeat (first | exact HB0.out | refine Below.alloc ?_ (by (try simp); omega) _)⟩
set_option maxHeartbeats 1000000 in
theorem within_5 (k o k' o' : Int) (w : World) (ha : okB k o = true) (hb : okB k' o' = true) (h0 : (k == k') = false) (h1 : (0 == k') = false) : Calls Tryd.prog 75 #[ty k o, ty k' o'] w fun e w' => e = .returned (.bool false) ∧ Below w.heap.size w w' := by
  have HA := Lib.hid ha
  have HB := Lib.hid hb
  clear ha hb
  go_enter Tryd.func75, Tryd.ntmps75
  go_wp2_with fail
  refine (may_ok _ _ _ HA.out).mono ?_
  rintro e w1 ⟨rfl, b1⟩
  have B1 := Lib.hid b1
  obtain ⟨hc, hf⟩ := bcell b1
  have hz0 : w.heap.size < w1.heap.size := by have := b1.size; simp at this; omega
  have hz1 : w.heap.size + 1 < w1.heap.size := by have := b1.size; simp at this; omega
  clear b1
  go_wp2_with fail
  refine (may_ok _ _ _ HB.out).mono ?_
  rintro e w2 ⟨rfl, b2⟩
  have B2 := Lib.hid (B1.out.trans (b2.mono B1.out.size))
  clear b2 hc hf hz0 hz1 B1
  obtain ⟨hc, hf⟩ := bcell B2.out
  have hz0 : w.heap.size < w2.heap.size := by have := B2.out.size; simp at this; omega
  have hz1 : w.heap.size + 1 < w2.heap.size := by have := B2.out.size; simp at this; omega
  go_wp2_with fail
  refine (upward_any _ _ _).mono ?_
  rintro e w3 ⟨rfl, b3⟩
  have B3 := Lib.hid (B2.out.trans (b3.mono B2.out.size))
  clear b3 hc hf hz0 hz1 B2
  obtain ⟨hc, hf⟩ := bcell B3.out
  have hz0 : w.heap.size < w3.heap.size := by have := B3.out.size; simp at this; omega
  have hz1 : w.heap.size + 1 < w3.heap.size := by have := B3.out.size; simp at this; omega
  have hb0 : Below w.heap.size w w3 := ((((Below.refl _ _).alloc (Nat.le_refl _) _).alloc (by simp) _).trans (B3.out.mono (by simp; omega)))
  have HB0 := Lib.hid hb0
  clear hb0
  go_wp2
  have i0 := idx0 k o k 0 0 0
  have i1 := idx1 k o k 0 0 0
  have i2 := idx2 k o k 0 0 0
  refine wp_loop_rounds 4 ?_; rw [rounds_succ]
  go_wp2
  all_goals
    rw [rounds_succ]
    go_wp2
  all_goals
    rw [rounds_succ]
    go_wp2
  all_goals
    rw [rounds_succ]
    go_wp2
  all_goals
    go_ret
    exact ⟨rfl, by have := HB0.out.size; repeat (first | exact HB0.out | refine Below.alloc ?_ (by (try simp); omega) _)⟩
set_option maxHeartbeats 1000000 in
theorem within_6 (k o o' : Int) (w : World) (ha : okB k o = true) (hb : okB 0 o' = true) (h0 : (k == 0) = false) (h1 : (0 == o') = false) : Calls Tryd.prog 75 #[ty k o, ty 0 o'] w fun e w' => e = .returned (.bool false) ∧ Below w.heap.size w w' := by
  have HA := Lib.hid ha
  have HB := Lib.hid hb
  clear ha hb
  go_enter Tryd.func75, Tryd.ntmps75
  go_wp2_with fail
  refine (may_ok _ _ _ HA.out).mono ?_
  rintro e w1 ⟨rfl, b1⟩
  have B1 := Lib.hid b1
  obtain ⟨hc, hf⟩ := bcell b1
  have hz0 : w.heap.size < w1.heap.size := by have := b1.size; simp at this; omega
  have hz1 : w.heap.size + 1 < w1.heap.size := by have := b1.size; simp at this; omega
  clear b1
  go_wp2_with fail
  refine (may_ok _ _ _ HB.out).mono ?_
  rintro e w2 ⟨rfl, b2⟩
  have B2 := Lib.hid (B1.out.trans (b2.mono B1.out.size))
  clear b2 hc hf hz0 hz1 B1
  obtain ⟨hc, hf⟩ := bcell B2.out
  have hz0 : w.heap.size < w2.heap.size := by have := B2.out.size; simp at this; omega
  have hz1 : w.heap.size + 1 < w2.heap.size := by have := B2.out.size; simp at this; omega
  go_wp2_with fail
  refine (upward_any _ _ _).mono ?_
  rintro e w3 ⟨rfl, b3⟩
  have B3 := Lib.hid (B2.out.trans (b3.mono B2.out.size))
  clear b3 hc hf hz0 hz1 B2
  obtain ⟨hc, hf⟩ := bcell B3.out
  have hz0 : w.heap.size < w3.heap.size := by have := B3.out.size; simp at this; omega
  have hz1 : w.heap.size + 1 < w3.heap.size := by have := B3.out.size; simp at this; omega
  have hb0 : Below w.heap.size w w3 := ((((Below.refl _ _).alloc (Nat.le_refl _) _).alloc (by simp) _).trans (B3.out.mono (by simp; omega)))
  have HB0 := Lib.hid hb0
  clear hb0
  go_wp2
  have i0 := idx0 k o k 0 0 0
  have i1 := idx1 k o k 0 0 0
  have i2 := idx2 k o k 0 0 0
  refine wp_loop_rounds 4 ?_; rw [rounds_succ]
  go_wp2
  all_goals
    rw [rounds_succ]
    go_wp2
  all_goals
    rw [rounds_succ]
    go_wp2
  all_goals
    rw [rounds_succ]
    go_wp2
  all_goals
    go_ret
    exact ⟨rfl, by have := HB0.out.size; repeat (first | exact HB0.out | refine Below.alloc ?_ (by (try simp); omega) _)⟩
end Go.Proofs.YtfmgbhaldakpfaaDoor.Typ

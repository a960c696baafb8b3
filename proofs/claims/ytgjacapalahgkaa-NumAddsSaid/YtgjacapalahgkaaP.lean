/- The document's wide numbers: contracts of the reference's functions. -/
import Derived.Test.YtgjacapalahgkaaS
namespace Go.Proofs.Ytgjacapalahgkaa
open Go.ChangeShapes Go.WideShapes Go.ChangeAt Go.RowKit

theorem Below.alloc_of {B : Nat} {a w : World} (h : Below B a w) (hB : a.heap.size = B) (o : Obj) : Below B a (w.alloc o) := h.alloc (hB ▸ h.size) o
theorem Below.set_at {B b o : Nat} {a w : World} (h : Below B a w) (hB : B ≤ b) (u : Value) : Below B a (w.setCell ⟨b, o, none⟩ u) := h.setCell hB u
theorem below_of {B : Nat} (a w : World) (h : Below B a w) : Below B a w := h
/-- what five digits in base 2^32 are worth -/
def V (a0 a1 a2 a3 a4 : Int) : Int := a0 + 4294967296 * a1 + 18446744073709551616 * a2 + 79228162514264337593543950336 * a3 + 340282366920938463463374607431768211456 * a4
/-- a digit -/
def Dg (a : Int) : Prop := 0 ≤ a ∧ a ≤ 4294967295

set_option maxHeartbeats 1000000 in
theorem plus_any (a0 a1 a2 a3 a4 b0 b1 b2 b3 b4 : Int) (w : World) (ha0 : Dg a0) (ha1 : Dg a1) (ha2 : Dg a2) (ha3 : Dg a3) (ha4 : Dg a4) (hb0 : Dg b0) (hb1 : Dg b1) (hb2 : Dg b2) (hb3 : Dg b3) (hb4 : Dg b4) :
    Calls Try.prog 27 #[.agg #[.int .u64 a0, .int .u64 a1, .int .u64 a2, .int .u64 a3, .int .u64 a4], .agg #[.int .u64 b0, .int .u64 b1, .int .u64 b2, .int .u64 b3, .int .u64 b4]] w
      fun e w' => (∃ r0 r1 r2 r3 r4, e = .returned (.agg #[.int .u64 r0, .int .u64 r1, .int .u64 r2, .int .u64 r3, .int .u64 r4]) ∧ Dg r0 ∧ Dg r1 ∧ Dg r2 ∧ Dg r3 ∧ Dg r4 ∧
        (V a0 a1 a2 a3 a4 + V b0 b1 b2 b3 b4 < 1461501637330902918203684832716283019655932542976 → V r0 r1 r2 r3 r4 = V a0 a1 a2 a3 a4 + V b0 b1 b2 b3 b4)) ∧ Below w.heap.size w w' := by
  unfold Dg at *
  go_enter Try.func27, Try.ntmps27
  go_wp2
  refine wp_loop_rounds 6 ?_; rw [rounds_succ]
  go_wp2
  go_quiet (fail)
  go_wp2
  rw [rounds_succ]
  go_wp2
  go_quiet (fail)
  go_wp2
  rw [rounds_succ]
  go_wp2
  go_quiet (fail)
  go_wp2
  rw [rounds_succ]
  go_wp2
  go_quiet (fail)
  go_wp2
  rw [rounds_succ]
  go_wp2
  go_quiet (fail)
  go_wp2
  rw [rounds_succ]
  go_wp2
  refine bodyPost_ret (v := .agg #[.int .u64 ((a0 + b0) % 4294967296), .int .u64 ((a1 + b1 + (a0 + b0) / 4294967296) % 4294967296), .int .u64 ((a2 + b2 + (a1 + b1 + (a0 + b0) / 4294967296) / 4294967296) % 4294967296),
    .int .u64 ((a3 + b3 + (a2 + b2 + (a1 + b1 + (a0 + b0) / 4294967296) / 4294967296) / 4294967296) % 4294967296),
    .int .u64 ((a4 + b4 + (a3 + b3 + (a2 + b2 + (a1 + b1 + (a0 + b0) / 4294967296) / 4294967296) / 4294967296) / 4294967296) % 4294967296)]) (by simp [results, Try.results27, go_sem]) rfl ⟨⟨_, _, _, _, _, rfl, ?_⟩, ?_⟩
  · unfold V
    omega
  · repeat (with_reducible (first | exact Below.refl _ _ | refine below_drewN ?_ _ | refine Below.alloc_of ?_ rfl _ | refine Below.set_at ?_ (by omega) _))

set_option maxHeartbeats 1000000 in
theorem minus_any (a0 a1 a2 a3 a4 b0 b1 b2 b3 b4 : Int) (w : World) (ha0 : Dg a0) (ha1 : Dg a1) (ha2 : Dg a2) (ha3 : Dg a3) (ha4 : Dg a4) (hb0 : Dg b0) (hb1 : Dg b1) (hb2 : Dg b2) (hb3 : Dg b3) (hb4 : Dg b4) (hge : V b0 b1 b2 b3 b4 ≤ V a0 a1 a2 a3 a4) :
    Calls Try.prog 29 #[.agg #[.int .u64 a0, .int .u64 a1, .int .u64 a2, .int .u64 a3, .int .u64 a4], .agg #[.int .u64 b0, .int .u64 b1, .int .u64 b2, .int .u64 b3, .int .u64 b4]] w
      fun e w' => (∃ r0 r1 r2 r3 r4, e = .returned (.agg #[.int .u64 r0, .int .u64 r1, .int .u64 r2, .int .u64 r3, .int .u64 r4]) ∧ Dg r0 ∧ Dg r1 ∧ Dg r2 ∧ Dg r3 ∧ Dg r4 ∧
        V r0 r1 r2 r3 r4 = V a0 a1 a2 a3 a4 - V b0 b1 b2 b3 b4) ∧ Below w.heap.size w w' := by
  unfold Dg at *
  have H := Lib.hid hge
  clear hge
  go_enter Try.func29, Try.ntmps29
  go_wp2
  refine wp_loop_rounds 6 ?_
  rw [rounds_succ]
  go_wp2
  go_quiet (fail)
  go_wp2
  rw [rounds_succ]
  go_wp2
  go_quiet (fail)
  go_wp2
  rw [rounds_succ]
  go_wp2
  go_quiet (fail)
  go_wp2
  rw [rounds_succ]
  go_wp2
  go_quiet (fail)
  go_wp2
  rw [rounds_succ]
  go_wp2
  go_quiet (fail)
  go_wp2
  rw [rounds_succ]
  go_wp2
  have hge := H.out
  refine bodyPost_ret (v := .agg #[.int .u64 ((a0 + 4294967296 - b0) % 4294967296), .int .u64 ((a1 + 4294967296 - b1 - (1 - (a0 + 4294967296 - b0) / 4294967296)) % 4294967296), .int .u64 ((a2 + 4294967296 - b2 - (1 - (a1 + 4294967296 - b1 - (1 - (a0 + 4294967296 - b0) / 4294967296)) / 4294967296)) % 4294967296), .int .u64 ((a3 + 4294967296 - b3 - (1 - (a2 + 4294967296 - b2 - (1 - (a1 + 4294967296 - b1 - (1 - (a0 + 4294967296 - b0) / 4294967296)) / 4294967296)) / 4294967296)) % 4294967296), .int .u64 ((a4 + 4294967296 - b4 - (1 - (a3 + 4294967296 - b3 - (1 - (a2 + 4294967296 - b2 - (1 - (a1 + 4294967296 - b1 - (1 - (a0 + 4294967296 - b0) / 4294967296)) / 4294967296)) / 4294967296)) / 4294967296)) % 4294967296)]) (by simp [results, Try.results29, go_sem]) rfl ⟨⟨_, _, _, _, _, rfl, ?_⟩, ?_⟩
  · unfold V at *
    omega
  · repeat (with_reducible (first | exact Below.refl _ _ | refine below_drewN ?_ _ | refine Below.alloc_of ?_ rfl _ | refine Below.set_at ?_ (by omega) _))

theorem V_lt4 (a0 a1 a2 a3 a4 b0 b1 b2 b3 b4 : Int) (ha0 : Dg a0) (ha1 : Dg a1) (ha2 : Dg a2) (ha3 : Dg a3) (hb0 : Dg b0) (hb1 : Dg b1) (hb2 : Dg b2) (hb3 : Dg b3) (h : a4 ≠ b4) : decide (a4 < b4) = decide (V a0 a1 a2 a3 a4 < V b0 b1 b2 b3 b4) := by
  unfold Dg V at *; rw [decide_eq_decide]; omega
theorem V_lt3 (a0 a1 a2 a3 b0 b1 b2 b3 c : Int) (ha0 : Dg a0) (ha1 : Dg a1) (ha2 : Dg a2) (hb0 : Dg b0) (hb1 : Dg b1) (hb2 : Dg b2) (h : a3 ≠ b3) : decide (a3 < b3) = decide (V a0 a1 a2 a3 c < V b0 b1 b2 b3 c) := by
  unfold Dg V at *; rw [decide_eq_decide]; omega
theorem V_lt2 (a0 a1 a2 b0 b1 b2 d c : Int) (ha0 : Dg a0) (ha1 : Dg a1) (hb0 : Dg b0) (hb1 : Dg b1) (h : a2 ≠ b2) : decide (a2 < b2) = decide (V a0 a1 a2 d c < V b0 b1 b2 d c) := by
  unfold Dg V at *; rw [decide_eq_decide]; omega
theorem V_lt1 (a0 a1 b0 b1 f d c : Int) (ha0 : Dg a0) (hb0 : Dg b0) (h : a1 ≠ b1) : decide (a1 < b1) = decide (V a0 a1 f d c < V b0 b1 f d c) := by
  unfold Dg V at *; rw [decide_eq_decide]; omega
theorem V_lt0 (a0 b0 g f d c : Int) : decide (a0 < b0) = decide (V a0 g f d c < V b0 g f d c) := by
  unfold V at *; rw [decide_eq_decide]; omega

set_option maxHeartbeats 2000000 in
theorem less_any (a0 a1 a2 a3 a4 b0 b1 b2 b3 b4 : Int) (w : World) (ha0 : Dg a0) (ha1 : Dg a1) (ha2 : Dg a2) (ha3 : Dg a3) (hb0 : Dg b0) (hb1 : Dg b1) (hb2 : Dg b2) (hb3 : Dg b3) :
    Calls Try.prog 28 #[.agg #[.int .u64 a0, .int .u64 a1, .int .u64 a2, .int .u64 a3, .int .u64 a4], .agg #[.int .u64 b0, .int .u64 b1, .int .u64 b2, .int .u64 b3, .int .u64 b4]] w
      fun e w' => e = .returned (.bool (decide (V a0 a1 a2 a3 a4 < V b0 b1 b2 b3 b4))) ∧ Below w.heap.size w w' := by
  by_cases h4 : a4 = b4
  · subst h4
    by_cases h3 : a3 = b3
    · subst h3
      by_cases h2 : a2 = b2
      · subst h2
        by_cases h1 : a1 = b1
        · subst h1
          by_cases h0 : a0 = b0
          · subst h0
            have HE := Lib.hid (show false = decide (V a0 a1 a2 a3 a4 < V a0 a1 a2 a3 a4) by simp)
            clear ha0 ha1 ha2 ha3 hb0 hb1 hb2 hb3
            go_enter Try.func28, Try.ntmps28
            go_wp2
            refine wp_loop_rounds 6 ?_
            rw [rounds_succ]
            go_wp2
            go_quiet (fail)
            go_wp2
            rw [rounds_succ]
            go_wp2
            go_quiet (fail)
            go_wp2
            rw [rounds_succ]
            go_wp2
            go_quiet (fail)
            go_wp2
            rw [rounds_succ]
            go_wp2
            go_quiet (fail)
            go_wp2
            rw [rounds_succ]
            go_wp2
            go_quiet (fail)
            go_wp2
            rw [rounds_succ]
            go_wp2
            go_ret
            exact ⟨ret_bool HE.out, below_of w _ (by repeat (with_reducible (first | exact Below.refl _ _ | refine below_drewN ?_ _ | refine Below.alloc_of ?_ rfl _)))⟩
          · have HE := Lib.hid (V_lt0 a0 b0 a1 a2 a3 a4)
            have hn : (a0 != b0) = true := by simpa using h0
            clear ha0 ha1 ha2 ha3 hb0 hb1 hb2 hb3 h0
            go_enter Try.func28, Try.ntmps28
            go_wp2
            refine wp_loop_rounds 6 ?_
            rw [rounds_succ]
            go_wp2
            go_quiet (fail)
            go_wp2
            rw [rounds_succ]
            go_wp2
            go_quiet (fail)
            go_wp2
            rw [rounds_succ]
            go_wp2
            go_quiet (fail)
            go_wp2
            rw [rounds_succ]
            go_wp2
            go_quiet (fail)
            go_wp2
            rw [rounds_succ]
            go_wp2
            go_quiet (fail)
            go_wp2
            go_quiet (fail)
            go_wp2
            go_ret
            exact ⟨ret_bool HE.out, below_of w _ (by repeat (with_reducible (first | exact Below.refl _ _ | refine below_drewN ?_ _ | refine Below.alloc_of ?_ rfl _)))⟩
        · have HE := Lib.hid (V_lt1 a0 a1 b0 b1 a2 a3 a4 ha0 hb0 h1)
          have hn : (a1 != b1) = true := by simpa using h1
          clear ha0 ha1 ha2 ha3 hb0 hb1 hb2 hb3 h1
          go_enter Try.func28, Try.ntmps28
          go_wp2
          refine wp_loop_rounds 6 ?_
          rw [rounds_succ]
          go_wp2
          go_quiet (fail)
          go_wp2
          rw [rounds_succ]
          go_wp2
          go_quiet (fail)
          go_wp2
          rw [rounds_succ]
          go_wp2
          go_quiet (fail)
          go_wp2
          rw [rounds_succ]
          go_wp2
          go_quiet (fail)
          go_wp2
          go_quiet (fail)
          go_wp2
          go_ret
          exact ⟨ret_bool HE.out, below_of w _ (by repeat (with_reducible (first | exact Below.refl _ _ | refine below_drewN ?_ _ | refine Below.alloc_of ?_ rfl _)))⟩
      · have HE := Lib.hid (V_lt2 a0 a1 a2 b0 b1 b2 a3 a4 ha0 ha1 hb0 hb1 h2)
        have hn : (a2 != b2) = true := by simpa using h2
        clear ha0 ha1 ha2 ha3 hb0 hb1 hb2 hb3 h2
        go_enter Try.func28, Try.ntmps28
        go_wp2
        refine wp_loop_rounds 6 ?_
        rw [rounds_succ]
        go_wp2
        go_quiet (fail)
        go_wp2
        rw [rounds_succ]
        go_wp2
        go_quiet (fail)
        go_wp2
        rw [rounds_succ]
        go_wp2
        go_quiet (fail)
        go_wp2
        go_quiet (fail)
        go_wp2
        go_ret
        exact ⟨ret_bool HE.out, below_of w _ (by repeat (with_reducible (first | exact Below.refl _ _ | refine below_drewN ?_ _ | refine Below.alloc_of ?_ rfl _)))⟩
    · have HE := Lib.hid (V_lt3 a0 a1 a2 a3 b0 b1 b2 b3 a4 ha0 ha1 ha2 hb0 hb1 hb2 h3)
      have hn : (a3 != b3) = true := by simpa using h3
      clear ha0 ha1 ha2 ha3 hb0 hb1 hb2 hb3 h3
      go_enter Try.func28, Try.ntmps28
      go_wp2
      refine wp_loop_rounds 6 ?_
      rw [rounds_succ]
      go_wp2
      go_quiet (fail)
      go_wp2
      rw [rounds_succ]
      go_wp2
      go_quiet (fail)
      go_wp2
      go_quiet (fail)
      go_wp2
      go_ret
      exact ⟨ret_bool HE.out, below_of w _ (by repeat (with_reducible (first | exact Below.refl _ _ | refine below_drewN ?_ _ | refine Below.alloc_of ?_ rfl _)))⟩
  · have HE := Lib.hid (V_lt4 a0 a1 a2 a3 a4 b0 b1 b2 b3 b4 ha0 ha1 ha2 ha3 hb0 hb1 hb2 hb3 h4)
    have hn : (a4 != b4) = true := by simpa using h4
    clear ha0 ha1 ha2 ha3 hb0 hb1 hb2 hb3 h4
    go_enter Try.func28, Try.ntmps28
    go_wp2
    refine wp_loop_rounds 6 ?_
    rw [rounds_succ]
    go_wp2
    go_quiet (fail)
    go_wp2
    go_quiet (fail)
    go_wp2
    go_ret
    exact ⟨ret_bool HE.out, below_of w _ (by repeat (with_reducible (first | exact Below.refl _ _ | refine below_drewN ?_ _ | refine Below.alloc_of ?_ rfl _)))⟩
end Go.Proofs.Ytgjacapalahgkaa

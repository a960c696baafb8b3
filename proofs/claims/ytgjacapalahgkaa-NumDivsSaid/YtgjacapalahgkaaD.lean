/- Contracts: Div of the reference. -/
import Derived.Test.YtgjacapalahgkaaQ
import Derived.Handy
namespace Go.Proofs.Ytgjacapalahgkaa
open Go.ChangeShapes Go.WideShapes Go.ChangeAt Go.RowKit
/-- Of a number of a known sign: its size in two digits -/
def OfM (s : Bool) (m : Int) (w : World) (e : Ending) (w' : World) : Prop :=
  (∃ d0 d1, e = .returned (.agg #[.bool s, .int .u64 d0, .int .u64 d1, .int .u64 0, .int .u64 0, .int .u64 0]) ∧ Dg d0 ∧ (0 ≤ d1 ∧ d1 ≤ 2147483648) ∧ d1 * 4294967296 + d0 = m) ∧ Below w.heap.size w w'
theorem of_neg (n m : Int) (w : World) (h1 : -9223372036854775808 ≤ n) (h2 : n < 0) (hm : m = -n) : Calls Try.prog 13 #[.int .i64 n] w (OfM true m w) :=
  (of_any n w h1 (by omega)).mono fun _ _ ⟨⟨d0, d1, he, hw, h⟩, hb⟩ => by
    rw [decide_eq_true h2] at he hw
    obtain ⟨x0, x1, -, -, -, hv⟩ := hw
    refine ⟨⟨d0, d1, he, x0, ⟨by unfold Dg at x1; omega, h⟩, ?_⟩, hb⟩
    rw [sgn_t] at hv; unfold V at hv; omega
theorem of_pos (n : Int) (w : World) (h1 : 0 ≤ n) (h2 : n ≤ 9223372036854775807) : Calls Try.prog 13 #[.int .i64 n] w (OfM false n w) :=
  (of_any n w (by omega) h2).mono fun _ _ ⟨⟨d0, d1, he, hw, h⟩, hb⟩ => by
    rw [decide_eq_false (by omega)] at he hw
    obtain ⟨x0, x1, -, -, -, hv⟩ := hw
    refine ⟨⟨d0, d1, he, x0, ⟨by unfold Dg at x1; omega, h⟩, ?_⟩, hb⟩
    rw [sgn_f] at hv; unfold V at hv; omega
theorem td_nn (m n : Int) (hm : 0 ≤ m) : (-m).tdiv (-n) = m / n ∧ (-m).tmod (-n) = -(m % n) := by
  refine ⟨by rw [Int.neg_tdiv, Int.tdiv_neg, Int.neg_neg, Int.tdiv_eq_ediv_of_nonneg hm], by rw [Int.neg_tmod, Int.tmod_neg, Int.tmod_eq_emod_of_nonneg hm]⟩
theorem td_np (m n : Int) (hm : 0 ≤ m) : (-m).tdiv n = -(m / n) ∧ (-m).tmod n = -(m % n) := by
  refine ⟨by rw [Int.neg_tdiv, Int.tdiv_eq_ediv_of_nonneg hm], by rw [Int.neg_tmod, Int.tmod_eq_emod_of_nonneg hm]⟩
theorem td_pn (m n : Int) (hm : 0 ≤ m) : m.tdiv (-n) = -(m / n) ∧ m.tmod (-n) = m % n := by
  refine ⟨by rw [Int.tdiv_neg, Int.tdiv_eq_ediv_of_nonneg hm], by rw [Int.tmod_neg, Int.tmod_eq_emod_of_nonneg hm]⟩
theorem td_pp (m n : Int) (hm : 0 ≤ m) : m.tdiv n = m / n ∧ m.tmod n = m % n := by
  refine ⟨Int.tdiv_eq_ediv_of_nonneg hm, Int.tmod_eq_emod_of_nonneg hm⟩
theorem ret_int3 {k l o : IntKind} {a b c d x y : Int} (h : a = b) (h' : c = d) (h'' : x = y) : Ending.returned (.tuple #[.int k a, .int l c, .int o x]) = .returned (.tuple #[.int k b, .int l d, .int o y]) := by rw [h, h', h'']
def DivPost (a b : Int) (w : World) (e : Ending) (w' : World) : Prop := e = .returned (.tuple #[.int .i64 (nv (a.tdiv b)), .int .i64 (a.tmod b), .int .i64 (ne (a.tdiv b))]) ∧ Below w.heap.size w w'
set_option maxHeartbeats 1000000 in
theorem rdiv_nn (m n : Int) (w : World) (h1 : 1 ≤ m) (h2 : m ≤ 9223372036854775808) (h3 : 1 ≤ n) (h4 : n ≤ 9223372036854775808) : Calls Try.prog 20 #[.int .i64 (-m), .int .i64 (-n)] w (DivPost (-m) (-n) w) := by
  have OA := fun w => of_neg (-m) m w (by omega) (by omega) (by omega)
  have OB := fun w => of_neg (-n) n w (by omega) (by omega) (by omega)
  have q1 : 0 ≤ m / n := Int.ediv_nonneg (by omega) (by omega)
  have q2 : m / n ≤ m := Int.ediv_le_self _ (by omega)
  have r1 : 0 ≤ m % n := Int.emod_nonneg _ (by omega)
  have r2 : m % n < n := Int.emod_lt_of_pos _ (by omega)
  have TD := Lib.hid (td_nn m n (by omega))
  by_cases ho : m / n ≤ 9223372036854775807
  · go_enter Try.func20, Try.ntmps20
    go_wp2_with fail
    refine (OA _).mono ?_; rintro e v1 ⟨⟨d0, d1, rfl, x0, x1, hx⟩, k1⟩
    go_wp2_with fail
    refine (OB _).mono ?_; rintro e v2 ⟨⟨c0, c1, rfl, y0, y1, hy⟩, k2⟩
    unfold Dg at x0 y0
    go_wp2
    go_quiet (fail)
    go_wp2
    go_quiet (fail)
    go_wp2
    go_ret3
    refine ⟨ret_int3 (by rw [TD.out.1, nv_yes (by omega) (by omega)]; try (unfold wrap64; rw [IntKind.wrap_u64]; omega)) (by rw [TD.out.2]; try (unfold wrap64; rw [IntKind.wrap_u64]; omega)) (by rw [TD.out.1, ne_yes (by omega) (by omega)]), ?_⟩
    have kk := k1.trans (k2.mono k1.size)
    exact below_drewN (Below.alloc (Below.alloc kk kk.size _) (by have := kk.size; simp; omega) _) _
  · go_enter Try.func20, Try.ntmps20
    go_wp2_with fail
    refine (OA _).mono ?_; rintro e v1 ⟨⟨d0, d1, rfl, x0, x1, hx⟩, k1⟩
    go_wp2_with fail
    refine (OB _).mono ?_; rintro e v2 ⟨⟨c0, c1, rfl, y0, y1, hy⟩, k2⟩
    unfold Dg at x0 y0
    go_wp2
    go_quiet (fail)
    go_wp2
    go_quiet (fail)
    go_wp2
    go_ret3
    refine ⟨ret_int3 (by rw [TD.out.1, nv_no (by omega)]; try (unfold wrap64; rw [IntKind.wrap_u64]; omega)) (by rw [TD.out.2]; try (unfold wrap64; rw [IntKind.wrap_u64]; omega)) (by rw [TD.out.1, ne_no (by omega)]), ?_⟩
    have kk := k1.trans (k2.mono k1.size)
    exact below_drewN (Below.alloc (Below.alloc kk kk.size _) (by have := kk.size; simp; omega) _) _
set_option maxHeartbeats 1000000 in
theorem rdiv_np (m n : Int) (w : World) (h1 : 1 ≤ m) (h2 : m ≤ 9223372036854775808) (h3 : 1 ≤ n) (h4 : n ≤ 9223372036854775807) : Calls Try.prog 20 #[.int .i64 (-m), .int .i64 (n)] w (DivPost (-m) (n) w) := by
  have OA := fun w => of_neg (-m) m w (by omega) (by omega) (by omega)
  have OB := fun w => of_pos n w (by omega) (by omega)
  have q1 : 0 ≤ m / n := Int.ediv_nonneg (by omega) (by omega)
  have q2 : m / n ≤ m := Int.ediv_le_self _ (by omega)
  have r1 : 0 ≤ m % n := Int.emod_nonneg _ (by omega)
  have r2 : m % n < n := Int.emod_lt_of_pos _ (by omega)
  have TD := Lib.hid (td_np m n (by omega))
  go_enter Try.func20, Try.ntmps20
  go_wp2_with fail
  refine (OA _).mono ?_; rintro e v1 ⟨⟨d0, d1, rfl, x0, x1, hx⟩, k1⟩
  go_wp2_with fail
  refine (OB _).mono ?_; rintro e v2 ⟨⟨c0, c1, rfl, y0, y1, hy⟩, k2⟩
  unfold Dg at x0 y0
  go_wp2
  go_quiet (fail)
  go_wp2
  go_quiet (fail)
  go_wp2
  go_ret3
  refine ⟨ret_int3 (by rw [TD.out.1, nv_yes (by omega) (by omega)]; try (unfold wrap64; rw [IntKind.wrap_u64]; omega)) (by rw [TD.out.2]; try (unfold wrap64; rw [IntKind.wrap_u64]; omega)) (by rw [TD.out.1, ne_yes (by omega) (by omega)]), ?_⟩
  have kk := k1.trans (k2.mono k1.size)
  exact below_drewN (Below.alloc (Below.alloc kk kk.size _) (by have := kk.size; simp; omega) _) _
set_option maxHeartbeats 1000000 in
theorem rdiv_pn (m n : Int) (w : World) (h1 : 0 ≤ m) (h2 : m ≤ 9223372036854775807) (h3 : 1 ≤ n) (h4 : n ≤ 9223372036854775808) : Calls Try.prog 20 #[.int .i64 (m), .int .i64 (-n)] w (DivPost (m) (-n) w) := by
  have OA := fun w => of_pos m w (by omega) (by omega)
  have OB := fun w => of_neg (-n) n w (by omega) (by omega) (by omega)
  have q1 : 0 ≤ m / n := Int.ediv_nonneg (by omega) (by omega)
  have q2 : m / n ≤ m := Int.ediv_le_self _ (by omega)
  have r1 : 0 ≤ m % n := Int.emod_nonneg _ (by omega)
  have r2 : m % n < n := Int.emod_lt_of_pos _ (by omega)
  have TD := Lib.hid (td_pn m n (by omega))
  go_enter Try.func20, Try.ntmps20
  go_wp2_with fail
  refine (OA _).mono ?_; rintro e v1 ⟨⟨d0, d1, rfl, x0, x1, hx⟩, k1⟩
  go_wp2_with fail
  refine (OB _).mono ?_; rintro e v2 ⟨⟨c0, c1, rfl, y0, y1, hy⟩, k2⟩
  unfold Dg at x0 y0
  go_wp2
  go_quiet (fail)
  go_wp2
  go_quiet (fail)
  go_wp2
  go_ret3
  refine ⟨ret_int3 (by rw [TD.out.1, nv_yes (by omega) (by omega)]; try (unfold wrap64; rw [IntKind.wrap_u64]; omega)) (by rw [TD.out.2]; try (unfold wrap64; rw [IntKind.wrap_u64]; omega)) (by rw [TD.out.1, ne_yes (by omega) (by omega)]), ?_⟩
  have kk := k1.trans (k2.mono k1.size)
  exact below_drewN (Below.alloc (Below.alloc kk kk.size _) (by have := kk.size; simp; omega) _) _
set_option maxHeartbeats 1000000 in
theorem rdiv_pp (m n : Int) (w : World) (h1 : 0 ≤ m) (h2 : m ≤ 9223372036854775807) (h3 : 1 ≤ n) (h4 : n ≤ 9223372036854775807) : Calls Try.prog 20 #[.int .i64 (m), .int .i64 (n)] w (DivPost (m) (n) w) := by
  have OA := fun w => of_pos m w (by omega) (by omega)
  have OB := fun w => of_pos n w (by omega) (by omega)
  have q1 : 0 ≤ m / n := Int.ediv_nonneg (by omega) (by omega)
  have q2 : m / n ≤ m := Int.ediv_le_self _ (by omega)
  have r1 : 0 ≤ m % n := Int.emod_nonneg _ (by omega)
  have r2 : m % n < n := Int.emod_lt_of_pos _ (by omega)
  have TD := Lib.hid (td_pp m n (by omega))
  go_enter Try.func20, Try.ntmps20
  go_wp2_with fail
  refine (OA _).mono ?_; rintro e v1 ⟨⟨d0, d1, rfl, x0, x1, hx⟩, k1⟩
  go_wp2_with fail
  refine (OB _).mono ?_; rintro e v2 ⟨⟨c0, c1, rfl, y0, y1, hy⟩, k2⟩
  unfold Dg at x0 y0
  go_wp2
  go_quiet (fail)
  go_wp2
  go_quiet (fail)
  go_wp2
  go_ret3
  refine ⟨ret_int3 (by rw [TD.out.1, nv_yes (by omega) (by omega)]; try (unfold wrap64; rw [IntKind.wrap_u64]; omega)) (by rw [TD.out.2]; try (unfold wrap64; rw [IntKind.wrap_u64]; omega)) (by rw [TD.out.1, ne_yes (by omega) (by omega)]), ?_⟩
  have kk := k1.trans (k2.mono k1.size)
  exact below_drewN (Below.alloc (Below.alloc kk kk.size _) (by have := kk.size; simp; omega) _) _
theorem rdiv_zero (a : Int) (w : World) : Calls Try.prog 20 #[.int .i64 a, .int .i64 0] w fun e w' => e = .returned (.tuple #[.int .i64 0, .int .i64 0, .int .i64 7]) ∧ w = w' := by
  go_enter Try.func20, Try.ntmps20
  go_wp2
  go_ret3
  exact ⟨rfl, rfl⟩
theorem rdiv_any (a b : Int) (w : World) (h1 : -9223372036854775808 ≤ a) (h2 : a ≤ 9223372036854775807) (h3 : -9223372036854775808 ≤ b) (h4 : b ≤ 9223372036854775807) (hz : b ≠ 0) : Calls Try.prog 20 #[.int .i64 a, .int .i64 b] w (DivPost a b w) := by
  rcases Int.lt_or_le a 0 with ha | ha <;> rcases Int.lt_or_le b 0 with hb | hb
  · have := rdiv_nn (-a) (-b) w (by omega) (by omega) (by omega) (by omega)
    simpa only [Int.neg_neg] using this
  · have := rdiv_np (-a) b w (by omega) (by omega) (by omega) (by omega)
    simpa only [Int.neg_neg] using this
  · have := rdiv_pn a (-b) w (by omega) (by omega) (by omega) (by omega)
    simpa only [Int.neg_neg] using this
  · exact rdiv_pp a b w (by omega) (by omega) (by omega) (by omega)
end Go.Proofs.Ytgjacapalahgkaa

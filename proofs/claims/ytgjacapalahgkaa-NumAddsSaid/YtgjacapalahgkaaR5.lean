/- Contracts: Narrow of the reference. -/
import Derived.Test.YtgjacapalahgkaaQ
namespace Go.Proofs.Ytgjacapalahgkaa
open Go.ChangeShapes Go.WideShapes Go.ChangeAt Go.RowKit
theorem wide_far (s : Bool) (a0 a1 a2 a3 a4 x : Int) (h : IsWide s a0 a1 a2 a3 a4 x) (hn : a2 ≠ 0 ∨ a3 ≠ 0 ∨ a4 ≠ 0) : x < -9223372036854775808 ∨ 9223372036854775807 < x := by
  obtain ⟨h0, h1, h2, h3, h4, rfl⟩ := h
  unfold Dg V at *
  cases s <;> simp only [sgn_t, sgn_f] <;> omega
set_option maxHeartbeats 1000000 in
theorem narrow_any (s : Bool) (a0 a1 a2 a3 a4 x : Int) (w : World) (ha : IsWide s a0 a1 a2 a3 a4 x) :
    Calls Try.prog 11 #[.agg #[.bool s, .int .u64 a0, .int .u64 a1, .int .u64 a2, .int .u64 a3, .int .u64 a4]] w fun e w' => e = .returned (.tuple #[.int .i64 (nv x), .int .i64 (ne x)]) ∧ Below w.heap.size w w' := by
  have F := wide_far s a0 a1 a2 a3 a4 x ha
  by_cases h2 : a2 = 0
  · by_cases h3 : a3 = 0
    · by_cases h4 : a4 = 0
      · subst h2 h3 h4
        obtain ⟨h0, h1, -, -, -, hx⟩ := ha
        unfold Dg at h0 h1
        clear F
        have hV : V a0 a1 0 0 0 = a1 * 4294967296 + a0 := by unfold V; omega
        rw [hV] at hx
        cases s
        · rw [sgn_f] at hx
          by_cases hb : a1 * 4294967296 + a0 ≤ 9223372036854775807
          · have E := Lib.hid (And.intro (nv_yes (n := x) (by omega) (by omega)) (ne_yes (n := x) (by omega) (by omega)))
            have HX := Lib.hid hx
            clear hx hV
            go_enter Try.func11, Try.ntmps11
            go_wp2
            go_ret2
            refine ⟨ret_int2 ?_ E.out.2.symm, ?_⟩
            · rw [E.out.1, ← HX.out]
            · repeat (with_reducible (first | exact Below.refl _ _ | refine below_drewN ?_ _ | refine Below.alloc_of ?_ rfl _ | refine Below.set_at ?_ (by omega) _))
          · have E := Lib.hid (And.intro (nv_no (n := x) (by omega)) (ne_no (n := x) (by omega)))
            clear hx hV
            go_enter Try.func11, Try.ntmps11
            go_wp2
            go_ret2
            refine ⟨ret_int2 E.out.1.symm E.out.2.symm, ?_⟩
            repeat (with_reducible (first | exact Below.refl _ _ | refine below_drewN ?_ _ | refine Below.alloc_of ?_ rfl _ | refine Below.set_at ?_ (by omega) _))
        · rw [sgn_t] at hx
          by_cases hb : a1 * 4294967296 + a0 ≤ 9223372036854775808
          · have E := Lib.hid (And.intro (nv_yes (n := x) (by omega) (by omega)) (ne_yes (n := x) (by omega) (by omega)))
            have HX := Lib.hid hx
            clear hx hV
            go_enter Try.func11, Try.ntmps11
            go_wp2
            go_ret2
            refine ⟨ret_int2 ?_ E.out.2.symm, ?_⟩
            · rw [E.out.1, ← HX.out]
              unfold wrap64; rw [IntKind.wrap_u64]; omega
            · repeat (with_reducible (first | exact Below.refl _ _ | refine below_drewN ?_ _ | refine Below.alloc_of ?_ rfl _ | refine Below.set_at ?_ (by omega) _))
          · have E := Lib.hid (And.intro (nv_no (n := x) (by omega)) (ne_no (n := x) (by omega)))
            clear hx hV
            go_enter Try.func11, Try.ntmps11
            go_wp2
            go_ret2
            refine ⟨ret_int2 E.out.1.symm E.out.2.symm, ?_⟩
            repeat (with_reducible (first | exact Below.refl _ _ | refine below_drewN ?_ _ | refine Below.alloc_of ?_ rfl _ | refine Below.set_at ?_ (by omega) _))
      · have g := F (by omega)
        have E := Lib.hid (And.intro (nv_no g) (ne_no g))
        have t2 : (a2 != 0) = false := by simpa using h2
        have t3 : (a3 != 0) = false := by simpa using h3
        have t4 : (a4 != 0) = true := by simpa using h4
        clear F g ha h2 h3 h4
        go_enter Try.func11, Try.ntmps11
        go_wp2
        go_ret2
        refine ⟨ret_int2 E.out.1.symm E.out.2.symm, ?_⟩
        repeat (with_reducible (first | exact Below.refl _ _ | refine below_drewN ?_ _ | refine Below.alloc_of ?_ rfl _ | refine Below.set_at ?_ (by omega) _))
    · have g := F (by omega)
      have E := Lib.hid (And.intro (nv_no g) (ne_no g))
      have t2 : (a2 != 0) = false := by simpa using h2
      have t3 : (a3 != 0) = true := by simpa using h3
      clear F g ha h2 h3
      go_enter Try.func11, Try.ntmps11
      go_wp2
      go_ret2
      refine ⟨ret_int2 E.out.1.symm E.out.2.symm, ?_⟩
      repeat (with_reducible (first | exact Below.refl _ _ | refine below_drewN ?_ _ | refine Below.alloc_of ?_ rfl _ | refine Below.set_at ?_ (by omega) _))
  · have g := F (by omega)
    have E := Lib.hid (And.intro (nv_no g) (ne_no g))
    have t2 : (a2 != 0) = true := by simpa using h2
    clear F g ha h2
    go_enter Try.func11, Try.ntmps11
    go_wp2
    go_ret2
    refine ⟨ret_int2 E.out.1.symm E.out.2.symm, ?_⟩
    repeat (with_reducible (first | exact Below.refl _ _ | refine below_drewN ?_ _ | refine Below.alloc_of ?_ rfl _ | refine Below.set_at ?_ (by omega) _))
end Go.Proofs.Ytgjacapalahgkaa

/- Same: two rows of bytes are told alike just if they are. -/
import Derived.Test.YtgjacapalahgkaaDoorW
namespace Go.Proofs.YtgjacapalahgkaaDoor
open Go.ChangeShapes Go.WideShapes Go.ChangeAt Go.RowKit

theorem ret_bool {a b : Bool} (h : a = b) : Ending.returned (.bool a) = .returned (.bool b) := by rw [h]
theorem same_ne (a b : Option Addr) (n m ca cb : Nat) (w : World) (h : n ≠ m) :
    Calls Tryd.prog 12 #[.slice a n ca, .slice b m cb] w fun e w' => e = .returned (.bool false) ∧ w' = w := by
  have h' : ((n : Int) != m) = true := by simp; omega
  go_enter Tryd.func12, Tryd.ntmps12
  go_wp2
  go_ret
  exact ⟨rfl, rfl⟩
set_option maxHeartbeats 400000 in
theorem same_eq (a b : Option Addr) (n ca cb : Nat) (f g : Nat → Int) (w : World) (h1 : n ≤ maxLen)
    (ha : ∀ i, i < n → ∃ k o, a = some ⟨k, o, none⟩ ∧ w.cell? ⟨k, o + i, none⟩ = some (.int .u8 (f i)))
    (hb : ∀ i, i < n → ∃ k o, b = some ⟨k, o, none⟩ ∧ w.cell? ⟨k, o + i, none⟩ = some (.int .u8 (g i))) :
    Calls Tryd.prog 12 #[.slice a n ca, .slice b n cb] w fun e w' => e = .returned (.bool (decide (∀ i, i < n → f i = g i))) ∧ ∃ q, w' = w.drewN q := by
  unfold maxLen at h1
  have HA := Lib.hid ha
  have HB := Lib.hid hb
  clear ha hb
  go_enter Tryd.func12, Tryd.ntmps12
  go_wp2
  go_loopw [5] (fun i wr => ∃ k q : Nat, k ≤ n ∧ i = .int .i64 k ∧ wr = w.drewN q ∧ Hid (∀ j, j < k → f j = g j)) (fun i _ => n - (intOf i).toNat)
  case atStart => exact ⟨0, 0, Nat.zero_le _, rfl, rfl, fun j hj => by omega⟩
  case round =>
    obtain ⟨k, q, hk, rfl, rfl, hj⟩ := hrel
    by_cases hlt : k < n
    · obtain ⟨ka, oa, rfl, ca1⟩ := HA.out k hlt
      obtain ⟨kb, ob, rfl, cb1⟩ := HB.out k hlt
      by_cases he : f k = g k
      · have he' : (f k != g k) = false := by simpa using he
        have E := Lib.hid he
        clear he
        go_wp2
        go_quiet (fail)
        go_wp2
        go_roundw
        case rel => exact ⟨k + 1, _, by omega, by go_num, rfl, fun j hjk => by rcases Nat.lt_succ_iff_lt_or_eq.1 hjk with h | rfl; exact hj.out j h; exact E.out⟩
        case measure => simp [intOf]; omega
      · have he' : (f k != g k) = true := by simpa using he
        have E := Lib.hid he
        clear he
        go_wp2
        go_quiet (fail)
        go_wp2
        go_ret
        exact ⟨ret_bool (decide_eq_false (fun h => E.out (h k hlt))).symm, _, World.drewN_drewN _ _ _⟩
    · go_wp2
      go_ret
      exact ⟨ret_bool (decide_eq_true (fun j hjn => hj.out j (by omega))).symm, _, rfl⟩

theorem same_300 (B : Nat) (w1 : World) (hown : w1.ownsRow B 5 1 (.slice (some ⟨B, 0, none⟩) 2 10) 2 [.int .u8 172, .int .u8 2]) :
    Calls Tryd.prog 12 #[.slice (some ⟨B, 0, none⟩) 2 10, .slice (some ⟨w1.heap.size, 0, none⟩) 2 2] (w1.alloc (.cells #[.int .u8 172, .int .u8 2] 5))
      fun e w' => e = .returned (.bool true) ∧ ∃ q, w' = (w1.alloc (.cells #[.int .u8 172, .int .u8 2] 5)).drewN q := by
  have C := World.ownsRow.cells (hown.alloc (.cells #[.int .u8 172, .int .u8 2] 5)) (g := B) rfl
  refine (same_eq (some ⟨B, 0, none⟩) (some ⟨w1.heap.size, 0, none⟩) 2 10 2 (fun i => if i = 0 then 172 else 2) (fun i => if i = 0 then 172 else 2) _ (by decide) ?_ ?_).mono ?_
  · intro i hi
    refine ⟨B, 0, rfl, ?_⟩
    have : i = 0 ∨ i = 1 := by omega
    rcases this with rfl | rfl
    · exact C 0 _ rfl
    · exact C 1 _ rfl
  · intro i hi
    refine ⟨w1.heap.size, 0, rfl, ?_⟩
    have : i = 0 ∨ i = 1 := by omega
    rcases this with rfl | rfl <;> simp
  · rintro e w' ⟨rfl, hw⟩
    exact ⟨ret_bool (by simp), hw⟩
set_option maxHeartbeats 1000000 in
theorem awake_true (w : World) : Calls Tryd.prog 4 #[] w fun e w' => e = .returned (.bool true) ∧ Below w.heap.size w w' := by
  have A := add_any 9223372036854775807 1
  rw [show nv (9223372036854775807 + 1) = 0 by decide, show ne (9223372036854775807 + 1) = 6 by decide] at A
  have D := div_any (-7) 2
  rw [show nv ((-7 : Int).tdiv 2) = -3 by decide, show ne ((-7 : Int).tdiv 2) = 0 by decide] at D
  have M := mod_any (-7) 2
  rw [show ((-7 : Int).tmod 2) = -1 by decide] at M
  go_enter Tryd.func4, Tryd.ntmps4
  go_wp2_with (first | (go_at_call 9; refine (A _ (by decide) (by decide) (by decide) (by decide)).mono ?_; rintro e w' ⟨rfl, rfl⟩) | (go_at_call 10; refine (D _ (by decide) (by decide) (by decide) (by decide) (by decide)).mono ?_; rintro e w' ⟨rfl, n1, rfl⟩) | (go_at_call 11; refine (M _ (by decide) (by decide) (by decide) (by decide) (by decide)).mono ?_; rintro e w' ⟨rfl, n2, rfl⟩) | (go_at_call 6; refine (parse_minus0 _).mono ?_; rintro e w' ⟨rfl, rfl⟩) | (go_at_call 13; refine (put_300 _).mono ?_; rintro e w1 ⟨rfl, hown, hb⟩))
  go_wp2_with fail
  refine (same_300 w.heap.size w1 hown).mono ?_
  rintro e w2 ⟨rfl, n3, rfl⟩
  go_wp2
  go_ret
  have hb' : Below w.heap.size w w1 := (below_drewN (Below.refl _ _) _).trans hb
  exact ⟨rfl, below_drewN (hb'.alloc hb'.size _) _⟩
end Go.Proofs.YtgjacapalahgkaaDoor

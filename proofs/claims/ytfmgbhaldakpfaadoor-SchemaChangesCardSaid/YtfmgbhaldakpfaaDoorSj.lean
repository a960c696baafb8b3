/- The reference's SameTexts. -/
import Derived.Test.YtfmgbhaldakpfaaDoorX
namespace Go.Proofs.YtfmgbhaldakpfaaDoor
open Go.RowKit

set_option maxHeartbeats 1000000 in
theorem sameTexts_any {n : Nat} {a b : List ByteArray} {o o' : Option Addr} {cap cap' : Nat} {w : World} (hR : Row n w o cap a.length 1 (fun j _ => .string (a.getD j default))) (hR' : Row n w o' cap' b.length 1 (fun j _ => .string (b.getD j default))) (hn : n ≤ w.heap.size) :
    Calls Tryd.prog 12 #[.slice o a.length cap, .slice o' b.length cap'] w fun e w' => e = .returned (.bool (eqK a b)) ∧ Below w.heap.size w w' := by
  have l1 := hR.1
  have l2 := hR.2.1
  have l3 := hR'.1
  have l4 := hR'.2.1
  unfold maxLen at l2 l4
  have HR := Lib.hid (And.intro hR hR')
  clear hR hR'
  by_cases hl : a.length = b.length
  · have HL := Lib.hid hl
    have g1 : ((a.length : Int) != (b.length : Int)) = false := by simp [hl]
    clear hl
    go_enter Tryd.func12, Tryd.ntmps12
    go_wp2_with fail
    go_loopw [5] (fun i wr => ∃ j : Nat, j ≤ a.length ∧ i = .int .i64 j ∧ Hid (∀ m, m < j → kk a m = kk b m) ∧ Hid (Below w.heap.size w wr)) (fun i _ => a.length - (intOf i).toNat)
    case atStart => exact ⟨0, Nat.zero_le _, rfl, fun _ h => absurd h (Nat.not_lt_zero _), Below.refl _ _⟩
    case round =>
      obtain ⟨j, hj, rfl, hok, hbr⟩ := hrel
      by_cases hlt : j < a.length
      · have hlt2 : j < b.length := by have := HL.out; omega
        obtain ⟨b1, off, e1, _, y0⟩ := (HR.out.1.below (hbr.out.mono hn)).key hlt
        obtain ⟨b2, off', e2, _, y1⟩ := (HR.out.2.below (hbr.out.mono hn)).key hlt2
        subst e1 e2
        have HBR := hbr
        clear hbr
        by_cases he : kk a j = kk b j
        · have HE := Lib.hid he
          obtain ⟨g2, g3⟩ := str_eq he
          clear he
          go_wp2_with fail
          go_quiet (fail)
          go_wp2_with fail
          go_roundw
          case rel => exact ⟨j + 1, by omega, by go_num, fun m hm => by by_cases e : m = j; subst e; exact HE.out; exact hok.out m (by omega), below_drewN HBR.out _⟩
          case measure => simp [intOf]; omega
        · have HX : Hid (eqK a b = false) := decide_eq_false (fun e => he (by rw [e]))
          obtain ⟨g2, g3⟩ := str_ne he
          clear he
          go_wp2_with fail
          go_quiet (fail)
          go_wp2_with fail
          go_ret
          exact ⟨by rw [HX.out]; rfl, below_drewN HBR.out _⟩
      · have HX : Hid (eqK a b = true) := decide_eq_true (kk_ext HL.out (fun m hm => hok.out m (by omega)))
        go_wp2_with fail
        go_ret
        exact ⟨by rw [HX.out]; rfl, hbr.out⟩
  · have HX : Hid (eqK a b = false) := decide_eq_false (fun e => hl (by rw [e]))
    have g1 : ((a.length : Int) != (b.length : Int)) = true := by simp; omega
    clear hl
    go_enter Tryd.func12, Tryd.ntmps12
    go_wp2_with fail
    go_ret
    exact ⟨by rw [HX.out]; rfl, Below.refl _ _⟩
end Go.Proofs.YtfmgbhaldakpfaaDoor

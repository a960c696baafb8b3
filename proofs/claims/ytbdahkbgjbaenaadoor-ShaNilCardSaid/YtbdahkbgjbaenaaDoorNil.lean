/- The law of a Writer that is none: its walk. -/
import Derived.Test.YtbdahkbgjbaenaaDoorEq
namespace Go.Proofs.YtbdahkbgjbaenaaDoor
open Go.RowKit

theorem sum_none (w : World) (hT : Tab w) : Calls Tryd.prog 11 #[.slice none 0 0] w fun e w' => e = .returned (.agg (mk .u8 32 (dig []))) ∧ Below w.heap.size w w' :=
  sum_any none 0 0 (fun _ => none) (fun _ => []) (fun _ => 0) w ⟨fun i hi => by omega, fun i hi => by omega, fun i hi => by omega, fun i hi => by omega⟩ (by decide) (by unfold maxLen; omega) hT
set_option maxHeartbeats 1000000 in
theorem nil_walk (sp : Option Addr) (n cap : Nat) (w : World) (hT : Tab w) :
    Calls Tryd.prog 6 #[.slice sp n cap] w fun e w' => e = .returned (.bool true) ∧ Below w.heap.size w w' := by
  have AW := awake_true w hT
  have HT := Lib.hid hT
  have A : ∀ W, Tab W → Calls Tryd.prog 16 #[.pointer none] W fun e w' => e = .returned (.agg (mk .u8 32 (dig []))) ∧ Below W.heap.size W w' := fun W h => wsum_any none [] W (.inl ⟨rfl, rfl⟩) (by decide) h
  have B : ∀ W, Tab W → Calls Tryd.prog 11 #[.slice none 0 0] W fun e w' => e = .returned (.agg (mk .u8 32 (dig []))) ∧ Below W.heap.size W w' := sum_none
  clear hT
  generalize dig [] = D at *
  have HA := Lib.hid A
  have HBB := Lib.hid B
  clear A B
  by_cases hb : n ≤ 300
  · go_enter Tryd.func6, Tryd.ntmps6
    go_wp2_with fail
    refine (write_nil _ _).mono ?_
    rintro e w' ⟨rfl, rfl⟩
    go_wp2_with fail
    refine (len_nil _).mono ?_
    rintro e w' ⟨rfl, rfl⟩
    go_wp2_with fail
    refine (HA.out _ HT.out).mono ?_
    rintro e w1 ⟨rfl, b1⟩
    have T1 := Lib.hid (HT.out.below b1 HT.out.1)
    have B1 := Lib.hid b1
    clear b1 AW
    go_wp2_with fail
    refine (HBB.out _ T1.out).mono ?_
    rintro e w2 ⟨rfl, b2⟩
    have T2 := Lib.hid (T1.out.below b2 T1.out.1)
    have B2 := Lib.hid (B1.out.trans (b2.mono B1.out.size))
    clear b2 B1 T1
    go_wp2_with (refine wpList_eql_same rfl (.tmp 16) (.tmp 17) rfl D rfl rfl ?_)
    refine (awake_true _ T2.out).mono ?_
    rintro e w3 ⟨rfl, b3⟩
    have B3 := Lib.hid (B2.out.trans (b3.mono B2.out.size))
    clear b3 B2
    go_wp2
    go_ret
    exact ⟨rfl, B3.out⟩
  · have hb' : 300 < n := by omega
    go_enter Tryd.func6, Tryd.ntmps6
    go_wp2_with fail
    refine AW.mono ?_
    rintro e w' ⟨rfl, b⟩
    go_wp2
    go_ret
    exact ⟨rfl, b⟩
end Go.Proofs.YtbdahkbgjbaenaaDoor

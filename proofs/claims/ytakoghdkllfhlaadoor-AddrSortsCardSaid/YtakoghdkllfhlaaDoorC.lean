/- Contracts: the reference's Word. -/
import Derived.Test.YtakoghdkllfhlaaDoorB
namespace Go.Proofs.YtakoghdkllfhlaaDoor
open Go.RowKit

set_option maxHeartbeats 4000000 in
theorem rword_any (s : ByteArray) (w : World) (hs : s.size ≤ 9223372036854775807) : Calls Tryd.prog 15 #[.string s] w (Is w (wordB s)) := by
  unfold wordB
  by_cases h0 : 0 < s.size
  case neg =>
    obtain rfl := size_zero s (by omega)
    go_enter Tryd.func15, Tryd.ntmps15
    go_wp2
    go_ret
    exact ⟨rfl, rfl⟩
  have h3 : ¬ (s.size : Int) < 1 := by omega
  by_cases h1 : s.size ≤ 24
  case neg =>
    have HX : Hid (okS ofK s = false) := okS_no (.inr (by omega))
    have h2 : 24 < (s.size : Int) := by omega
    go_enter Tryd.func15, Tryd.ntmps15
    go_wp2
    go_ret
    exact ⟨ret_b HX.out.symm, rfl⟩
  have h2 : ¬ 24 < (s.size : Int) := by omega
  have HX : Hid (okS ofK s = allB ofK s) := okS_mk h0 h1
  go_enter Tryd.func15, Tryd.ntmps15
  go_wp2
  go_loop [3] (fun i => ∃ k : Nat, k ≤ s.size ∧ i = .int .i64 k ∧ Hid (∀ j (h : j < s.size), j < k → ofK (s[j].toNat : Int) = true)) (fun i => s.size - (intOf i).toNat)
  case atStart => exact ⟨0, Nat.zero_le _, rfl, fun j h hj => by omega⟩
  case round =>
    obtain ⟨k, hk, rfl, hj⟩ := hrel
    by_cases hlt : k < s.size
    · have C := sm_43 (s[k].toNat : Int) w
      obtain ⟨c, hcc⟩ : ∃ c, (s[k].toNat : Int) = c := ⟨_, rfl⟩
      have HC : Hid ((s[k].toNat : Int) = c) := hcc
      cases hc : sm c with
      | true =>
        have HR := Lib.hid (rel_next (p := ofK) hlt hj.out (by rw [hcc]; unfold ofK ofN; rw [hc]; rfl))
        rw [hcc, hc] at C
        have C := Lib.hid C
        clear hc
        rw [← hcc] at C
        clear hcc
        go_wp2_with fail
        refine C.out.mono ?_
        rintro e w1 ⟨rfl, rfl⟩
        go_wp2
        go_round
        case rel => exact ⟨k + 1, by omega, by go_num, HR⟩
        case measure => simp [intOf]; omega
      | false =>
        have HE : Hid (ofK c = (dg c || c == 95 || gt c || c == 45 || c == 46)) := by unfold Hid ofK ofN; rw [hc]; rfl
        have HY : Hid (∀ b, ofK c = b → (b = true → ∀ j (h : j < s.size), j < k + 1 → ofK (s[j].toNat : Int) = true) ∧ (b = false → allB ofK s = false)) := fun b hb =>
          ⟨fun h => rel_next hlt hj.out (by rw [HC.out, hb, h]), fun h => allB_no hlt (by rw [HC.out, hb, h])⟩
        rw [hcc, hc] at C
        have C := Lib.hid C
        clear hc
        rw [← hcc] at C
        clear hcc
        go_wp2_with fail
        refine C.out.mono ?_
        rintro e w1 ⟨rfl, rfl⟩
        go_wp2
        all_goals
          first
            | (go_ret
               refine ⟨ret_b (by rw [HX.out, (HY.out false (by rw [HE.out, ← HC.out]; unfold dg gt; simp_all; try omega)).2 rfl]), rfl⟩)
            | (go_round
               case rel => exact ⟨k + 1, by omega, by go_num, (HY.out true (by rw [HE.out, ← HC.out]; unfold dg gt; simp_all; try omega)).1 rfl⟩
               case measure => simp [intOf]; omega)
    · have HR : Hid (allB ofK s = true) := (allB_iff ofK s).2 fun j h => hj.out j h (by omega)
      go_wp2
      go_ret
      exact ⟨ret_b (by rw [HX.out, HR.out]), rfl⟩
end Go.Proofs.YtakoghdkllfhlaaDoor

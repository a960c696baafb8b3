/- Contracts: isMadeOf, Name, Word, the reference's Name and Word. -/
import Derived.Test.YtakoghdkllfhlaaDoorA
namespace Go.Proofs.YtakoghdkllfhlaaDoor
open Go.RowKit

theorem rel_next {p : Int → Bool} {s : ByteArray} {k : Nat} (hlt : k < s.size) (h : ∀ j (h : j < s.size), j < k → p (s[j].toNat : Int) = true) (hp : p (s[k].toNat : Int) = true) : ∀ j (h : j < s.size), j < k + 1 → p (s[j].toNat : Int) = true := fun j hj hjk => by
  rcases Nat.lt_succ_iff_lt_or_eq.1 hjk with h' | rfl
  · exact h j hj h'
  · exact hp
theorem okS_mk {p : Int → Bool} {s : ByteArray} (h0 : 0 < s.size) (h1 : s.size ≤ 24) : okS p s = allB p s := by unfold okS; rw [decide_eq_true h0, decide_eq_true h1]; rfl
theorem okS_no {p : Int → Bool} {s : ByteArray} (h : s.size = 0 ∨ 24 < s.size) : okS p s = false := by
  unfold okS
  rcases h with h | h
  · rw [decide_eq_false (by omega)]; rfl
  · rw [decide_eq_false (show ¬ s.size ≤ 24 by omega), Bool.and_false]; rfl
set_option maxHeartbeats 1000000 in
theorem made_41 (s : ByteArray) (w : World) (hs : s.size ≤ 9223372036854775807) : Calls Tryd.prog 40 #[.string s, .func (.func 41) #[] #[]] w (Is w (okS ofN s)) := by
  by_cases h0 : 0 < s.size
  case neg =>
    obtain rfl := size_zero s (by omega)
    go_enter Tryd.func40, Tryd.ntmps40
    go_wp2
    go_ret
    exact ⟨rfl, rfl⟩
  by_cases h1 : s.size ≤ 24
  case neg =>
    have HX : Hid (okS ofN s = false) := okS_no (.inr (by omega))
    obtain ⟨E1, E2⟩ := empty_iff s h0
    have h2 : 24 < (s.size : Int) := by omega
    go_enter Tryd.func40, Tryd.ntmps40
    go_wp2
    go_ret
    exact ⟨ret_b HX.out.symm, rfl⟩
  have HX : Hid (okS ofN s = allB ofN s) := okS_mk h0 h1
  obtain ⟨E1, E2⟩ := empty_iff s h0
  have h2 : ¬ 24 < (s.size : Int) := by omega
  go_enter Tryd.func40, Tryd.ntmps40
  go_wp2
  go_loop [15] (fun i => ∃ k : Nat, k ≤ s.size ∧ i = .int .i64 k ∧ Hid (∀ j (h : j < s.size), j < k → ofN (s[j].toNat : Int) = true)) (fun i => s.size - (intOf i).toNat)
  case atStart => exact ⟨0, Nat.zero_le _, rfl, fun j h hj => by omega⟩
  case round =>
    obtain ⟨k, hk, rfl, hj⟩ := hrel
    by_cases hlt : k < s.size
    · have C := ofN_41 (s[k].toNat : Int) w
      cases hc : ofN (s[k].toNat : Int) with
      | true =>
        have HR := Lib.hid (rel_next hlt hj.out hc)
        rw [hc] at C
        have C := Lib.hid C
        clear hc
        go_wp2_with fail
        refine C.out.mono ?_
        rintro e w1 ⟨rfl, rfl⟩
        go_wp2
        go_round
        case rel => exact ⟨k + 1, by omega, by go_num, HR⟩
        case measure => simp [intOf]; omega
      | false =>
        have HR := Lib.hid (allB_no hlt hc)
        rw [hc] at C
        have C := Lib.hid C
        clear hc
        go_wp2_with fail
        refine C.out.mono ?_
        rintro e w1 ⟨rfl, rfl⟩
        go_wp2
        go_ret
        exact ⟨ret_b (by rw [HX.out, HR.out]), rfl⟩
    · have HR : Hid (allB ofN s = true) := (allB_iff ofN s).2 fun j h => hj.out j h (by omega)
      go_wp2
      go_ret
      exact ⟨ret_b (by rw [HX.out, HR.out]), rfl⟩
set_option maxHeartbeats 1000000 in
theorem made_44 (s : ByteArray) (w : World) (hs : s.size ≤ 9223372036854775807) : Calls Tryd.prog 40 #[.string s, .func (.func 44) #[] #[]] w (Is w (okS ofK s)) := by
  by_cases h0 : 0 < s.size
  case neg =>
    obtain rfl := size_zero s (by omega)
    go_enter Tryd.func40, Tryd.ntmps40
    go_wp2
    go_ret
    exact ⟨rfl, rfl⟩
  by_cases h1 : s.size ≤ 24
  case neg =>
    have HX : Hid (okS ofK s = false) := okS_no (.inr (by omega))
    obtain ⟨E1, E2⟩ := empty_iff s h0
    have h2 : 24 < (s.size : Int) := by omega
    go_enter Tryd.func40, Tryd.ntmps40
    go_wp2
    go_ret
    exact ⟨ret_b HX.out.symm, rfl⟩
  have HX : Hid (okS ofK s = allB ofK s) := okS_mk h0 h1
  obtain ⟨E1, E2⟩ := empty_iff s h0
  have h2 : ¬ 24 < (s.size : Int) := by omega
  go_enter Tryd.func40, Tryd.ntmps40
  go_wp2
  go_loop [15] (fun i => ∃ k : Nat, k ≤ s.size ∧ i = .int .i64 k ∧ Hid (∀ j (h : j < s.size), j < k → ofK (s[j].toNat : Int) = true)) (fun i => s.size - (intOf i).toNat)
  case atStart => exact ⟨0, Nat.zero_le _, rfl, fun j h hj => by omega⟩
  case round =>
    obtain ⟨k, hk, rfl, hj⟩ := hrel
    by_cases hlt : k < s.size
    · have C := ofK_44 (s[k].toNat : Int) w
      cases hc : ofK (s[k].toNat : Int) with
      | true =>
        have HR := Lib.hid (rel_next hlt hj.out hc)
        rw [hc] at C
        have C := Lib.hid C
        clear hc
        go_wp2_with fail
        refine C.out.mono ?_
        rintro e w1 ⟨rfl, rfl⟩
        go_wp2
        go_round
        case rel => exact ⟨k + 1, by omega, by go_num, HR⟩
        case measure => simp [intOf]; omega
      | false =>
        have HR := Lib.hid (allB_no hlt hc)
        rw [hc] at C
        have C := Lib.hid C
        clear hc
        go_wp2_with fail
        refine C.out.mono ?_
        rintro e w1 ⟨rfl, rfl⟩
        go_wp2
        go_ret
        exact ⟨ret_b (by rw [HX.out, HR.out]), rfl⟩
    · have HR : Hid (allB ofK s = true) := (allB_iff ofK s).2 fun j h => hj.out j h (by omega)
      go_wp2
      go_ret
      exact ⟨ret_b (by rw [HX.out, HR.out]), rfl⟩
set_option maxHeartbeats 1000000 in
theorem name_any (s : ByteArray) (w : World) (hs : s.size ≤ 9223372036854775807) : Calls Tryd.prog 12 #[.string s] w (Is w (nameB s)) := by
  have M := made_41 s w hs
  unfold nameB
  cases ho : okS ofN s with
  | false =>
    rw [ho] at M
    have M := Lib.hid M
    clear ho
    go_enter Tryd.func12, Tryd.ntmps12
    go_wp2_with fail
    refine M.out.mono ?_
    rintro e w1 ⟨rfl, rfl⟩
    go_wp2
    go_ret
    exact ⟨rfl, rfl⟩
  | true =>
    have h0 : 0 < s.size := by unfold okS at ho; simp only [Bool.and_eq_true, decide_eq_true_eq] at ho; exact ho.1.1
    rw [ho] at M
    have M := Lib.hid M
    have S := Lib.hid (sm_42 (s[0].toNat : Int) w)
    rw [hd0_is s h0]
    clear ho
    go_enter Tryd.func12, Tryd.ntmps12
    go_wp2_with fail
    refine M.out.mono ?_
    rintro e w1 ⟨rfl, rfl⟩
    go_wp2_with fail
    refine S.out.mono ?_
    rintro e w1 ⟨rfl, rfl⟩
    go_wp2
    go_ret
    exact ⟨rfl, rfl⟩
theorem word_any (s : ByteArray) (w : World) (hs : s.size ≤ 9223372036854775807) : Calls Tryd.prog 14 #[.string s] w (Is w (wordB s)) := by
  have M := Lib.hid (made_44 s w hs)
  unfold wordB
  go_enter Tryd.func14, Tryd.ntmps14
  go_wp2_with fail
  refine M.out.mono ?_
  rintro e w1 ⟨rfl, rfl⟩
  go_wp2
  go_ret
  exact ⟨rfl, rfl⟩
set_option maxHeartbeats 2000000 in
theorem rname_any (s : ByteArray) (w : World) (hs : s.size ≤ 9223372036854775807) : Calls Tryd.prog 13 #[.string s] w (Is w (nameB s)) := by
  by_cases h0 : 0 < s.size
  case neg =>
    obtain rfl := size_zero s (by omega)
    go_enter Tryd.func13, Tryd.ntmps13
    go_wp2
    go_ret
    exact ⟨rfl, rfl⟩
  by_cases h1 : s.size ≤ 24
  case neg =>
    have HX : Hid (nameB s = false) := by unfold Hid nameB; rw [okS_no (.inr (by omega))]; rfl
    have h2 : 24 < (s.size : Int) := by omega
    go_enter Tryd.func13, Tryd.ntmps13
    go_wp2
    go_ret
    exact ⟨ret_b HX.out.symm, rfl⟩
  have h2 : ¬ 24 < (s.size : Int) := by omega
  have h3 : ¬ (s.size : Int) < 1 := by omega
  have S := sm_43 (s[0].toNat : Int) w
  cases hc0 : sm (s[0].toNat : Int) with
  | false =>
    have HX : Hid (nameB s = false) := by unfold Hid nameB; rw [hd0_is s h0, hc0, Bool.and_false]
    rw [hc0] at S
    have S := Lib.hid S
    clear hc0
    go_enter Tryd.func13, Tryd.ntmps13
    go_wp2_with fail
    refine S.out.mono ?_
    rintro e w1 ⟨rfl, rfl⟩
    go_wp2
    go_ret
    exact ⟨ret_b HX.out.symm, rfl⟩
  | true =>
    have HX : Hid (nameB s = allB ofN s) := by unfold Hid nameB; rw [hd0_is s h0, hc0, Bool.and_true, okS_mk h0 h1]
    rw [hc0] at S
    have S := Lib.hid S
    clear hc0
    go_enter Tryd.func13, Tryd.ntmps13
    go_wp2_with fail
    refine S.out.mono ?_
    rintro e w1 ⟨rfl, rfl⟩
    clear S
    go_wp2
    go_loop [3] (fun i => ∃ k : Nat, k ≤ s.size ∧ i = .int .i64 k ∧ Hid (∀ j (h : j < s.size), j < k → ofN (s[j].toNat : Int) = true)) (fun i => s.size - (intOf i).toNat)
    case atStart => exact ⟨0, Nat.zero_le _, rfl, fun j h hj => by omega⟩
    case round =>
      obtain ⟨k, hk, rfl, hj⟩ := hrel
      by_cases hlt : k < s.size
      · have C := sm_43 (s[k].toNat : Int) w
        obtain ⟨c, hcc⟩ : ∃ c, (s[k].toNat : Int) = c := ⟨_, rfl⟩
        have HC : Hid ((s[k].toNat : Int) = c) := hcc
        cases hc : sm c with
        | true =>
          have HR := Lib.hid (rel_next (p := ofN) hlt hj.out (by rw [hcc]; unfold ofN; rw [hc]; rfl))
          rw [hcc, hc] at C
          have C := Lib.hid C
          clear hc
          rw [← hcc] at C
          clear hcc
          go_wp2_with fail
          refine C.out.mono ?_
          rintro e w1 ⟨rfl, rfl⟩
          go_wp2
          go_round
          case rel => exact ⟨k + 1, by omega, by go_num, HR⟩
          case measure => simp [intOf]; omega
        | false =>
          have HE : Hid (ofN c = (dg c || c == 95)) := by unfold Hid ofN; rw [hc]; rfl
          rw [hcc, hc] at C
          have C := Lib.hid C
          clear hc
          rw [← hcc] at C
          clear hcc
          go_wp2_with fail
          refine C.out.mono ?_
          rintro e w1 ⟨rfl, rfl⟩
          go_wp2
          all_goals
            first
              | (go_ret
                 refine ⟨ret_b (by rw [HX.out, allB_no hlt (by rw [HC.out, HE.out, ← HC.out]; unfold dg; simp_all; try omega)]), rfl⟩)
              | (go_round
                 case rel => exact ⟨k + 1, by omega, by go_num, rel_next hlt hj.out (by rw [HC.out, HE.out, ← HC.out]; unfold dg; simp_all; try omega)⟩
                 case measure => simp [intOf]; omega)
      · have HR : Hid (allB ofN s = true) := (allB_iff ofN s).2 fun j h => hj.out j h (by omega)
        go_wp2
        go_ret
        exact ⟨ret_b (by rw [HX.out, HR.out]), rfl⟩
end Go.Proofs.YtakoghdkllfhlaaDoor

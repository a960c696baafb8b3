/- The reference's table. -/
import Derived.Test.YtfmgbhaldakpfaaDoorSb
namespace Go.Proofs.YtfmgbhaldakpfaaDoor
open Go.RowKit

/-- is a letter in a text? -/
def hasB (s : ByteArray) (c : Nat) : Bool := s.data.toList.any fun x => x.toNat == c
theorem hasN_succ (s : ByteArray) (c k : Nat) (h : k < s.size) : ((s.data.toList.take (k + 1)).any fun x => x.toNat == c) = ((s.data.toList.take k).any (fun x => x.toNat == c) || s[k].toNat == c) := by
  rw [List.take_succ_eq_append_getElem (by simpa using h), List.any_append]
  simp
  rfl
set_option maxHeartbeats 1000000 in
theorem has_any (s : ByteArray) (c : Nat) (w : World) (hs : s.size ≤ 100) : Calls Tryd.prog 55 #[.string s, .int .u8 (c : Int)] w fun e w' => e = .returned (.bool (hasB s c)) ∧ w = w' := by
  have HC := Lib.hid (hasN_succ s c)
  have HN : Hid (hasB s c = (s.data.toList.take s.size).any fun x => x.toNat == c) := by
    unfold hasB Hid; rw [List.take_of_length_le (by simp)]
  go_enter Tryd.func55, Tryd.ntmps55
  go_wp2
  go_loop [5] (fun i => ∃ k : Nat, k ≤ s.size ∧ i = .int .i64 k ∧ Hid (((s.data.toList.take k).any fun x => x.toNat == c) = false)) (fun i => s.size - (intOf i).toNat)
  case atStart => exact ⟨0, Nat.zero_le _, rfl, by unfold Hid; simp⟩
  case round =>
    obtain ⟨k, hk, rfl, HK⟩ := hrel
    by_cases hlt : k < s.size
    · have h1 := HC.out k hlt
      rw [HK.out, Bool.false_or] at h1
      by_cases he : s[k].toNat = c
      · have e1 : ((s[k].toNat : Int) == (c : Int)) = true := by rw [beq_iff_eq]; omega
        have HX : Hid (hasB s c = true) := by
          rw [he, BEq.rfl, List.any_eq_true] at h1
          obtain ⟨x, hx, hh⟩ := h1
          unfold hasB Hid
          rw [List.any_eq_true]
          exact ⟨x, List.mem_of_mem_take hx, hh⟩
        clear he
        go_wp2
        go_ret
        exact ⟨by rw [HX.out]; rfl, rfl⟩
      · have e1 : ((s[k].toNat : Int) == (c : Int)) = false := by rw [beq_eq_false_iff_ne]; omega
        have h2 : (s[k].toNat == c) = false := by rw [beq_eq_false_iff_ne]; exact he
        rw [h2] at h1
        have H1 := Lib.hid h1
        clear h1 he h2
        go_wp2
        go_round
        case rel => exact ⟨k + 1, by omega, by go_num, H1.out⟩
        case measure => simp [intOf]; omega
    · have : k = s.size := by omega
      subst this
      have HX : Hid (hasB s c = false) := by unfold Hid; rw [HN.out, HK.out]
      go_wp2
      go_ret
      exact ⟨by rw [HX.out]; rfl, rfl⟩
end Go.Proofs.YtfmgbhaldakpfaaDoor

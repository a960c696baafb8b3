/- Contracts: cmp.Compare and cmp.Or. -/
import Derived.Test.YtakoghdkllfhlaaDoorA
namespace Go.Proofs.YtakoghdkllfhlaaDoor
open Go.RowKit

def cmpI (a b : Int) : Int := if a < b then -1 else if b < a then 1 else 0
/-- a is ahead of b, byte by byte -/
def blt (a b : ByteArray) : Bool := Op.bytesLess a.toList b.toList
def cmpS (a b : ByteArray) : Int := if blt a b = true then -1 else if a = b then 0 else 1
theorem str_eq {s t : ByteArray} (h : s = t) : (s.toList == t.toList) = true := by rw [h]; simp
theorem str_ne {s t : ByteArray} (h : s ≠ t) : (s.toList == t.toList) = false := by
  rw [beq_eq_false_iff_ne, ByteArray.toList_eq, ByteArray.toList_eq]
  intro h1
  apply h
  have := Array.toList_inj.1 h1
  cases s; cases t; simp_all
theorem nan_83 (a : Int) (w : World) : Calls Tryd.prog 83 #[.int .u32 a] w (Is w false) := by
  go_enter Tryd.func83, Tryd.ntmps83
  go_wp2
  go_ret
  exact ⟨rfl, rfl⟩
theorem nan_85 (a : Int) (w : World) : Calls Tryd.prog 85 #[.int .i64 a] w (Is w false) := by
  go_enter Tryd.func85, Tryd.ntmps85
  go_wp2
  go_ret
  exact ⟨rfl, rfl⟩
theorem nan_86 (a : Int) (w : World) : Calls Tryd.prog 86 #[.int .i64 a] w (Is w false) := by
  go_enter Tryd.func86, Tryd.ntmps86
  go_wp2
  go_ret
  exact ⟨rfl, rfl⟩
theorem nan_84 (a : ByteArray) (w : World) : Calls Tryd.prog 84 #[.string a] w (Is w false) := by
  go_enter Tryd.func84, Tryd.ntmps84
  go_wp2
  go_ret
  exact ⟨rfl, rfl⟩
set_option maxHeartbeats 1000000 in
theorem cmp_65 (a b : Int) (w : World) : Calls Tryd.prog 65 #[.int .u32 a, .int .u32 b] w fun e w' => e = .returned (.int .i64 (cmpI a b)) ∧ w = w' := by
  by_cases h1 : a < b
  case pos =>
    have HX : Hid (cmpI a b = -1) := by unfold Hid cmpI; rw [if_pos h1]
    go_enter Tryd.func65, Tryd.ntmps65
    go_wp2_with (go_at_call 83; refine (nan_83 _ _).mono ?_; rintro e w' ⟨rfl, rfl⟩)
    go_ret
    exact ⟨by rw [HX.out]; rfl, rfl⟩
  by_cases h2 : b < a
  case pos =>
    have HX : Hid (cmpI a b = 1) := by unfold Hid cmpI; rw [if_neg h1, if_pos h2]
    go_enter Tryd.func65, Tryd.ntmps65
    go_wp2_with (go_at_call 83; refine (nan_83 _ _).mono ?_; rintro e w' ⟨rfl, rfl⟩)
    go_ret
    exact ⟨by rw [HX.out]; rfl, rfl⟩
  case neg =>
    have HX : Hid (cmpI a b = 0) := by unfold Hid cmpI; rw [if_neg h1, if_neg h2]
    go_enter Tryd.func65, Tryd.ntmps65
    go_wp2_with (go_at_call 83; refine (nan_83 _ _).mono ?_; rintro e w' ⟨rfl, rfl⟩)
    go_ret
    exact ⟨by rw [HX.out]; rfl, rfl⟩
set_option maxHeartbeats 1000000 in
theorem cmp_67 (a b : Int) (w : World) : Calls Tryd.prog 67 #[.int .i64 a, .int .i64 b] w fun e w' => e = .returned (.int .i64 (cmpI a b)) ∧ w = w' := by
  by_cases h1 : a < b
  case pos =>
    have HX : Hid (cmpI a b = -1) := by unfold Hid cmpI; rw [if_pos h1]
    go_enter Tryd.func67, Tryd.ntmps67
    go_wp2_with (go_at_call 85; refine (nan_85 _ _).mono ?_; rintro e w' ⟨rfl, rfl⟩)
    go_ret
    exact ⟨by rw [HX.out]; rfl, rfl⟩
  by_cases h2 : b < a
  case pos =>
    have HX : Hid (cmpI a b = 1) := by unfold Hid cmpI; rw [if_neg h1, if_pos h2]
    go_enter Tryd.func67, Tryd.ntmps67
    go_wp2_with (go_at_call 85; refine (nan_85 _ _).mono ?_; rintro e w' ⟨rfl, rfl⟩)
    go_ret
    exact ⟨by rw [HX.out]; rfl, rfl⟩
  case neg =>
    have HX : Hid (cmpI a b = 0) := by unfold Hid cmpI; rw [if_neg h1, if_neg h2]
    go_enter Tryd.func67, Tryd.ntmps67
    go_wp2_with (go_at_call 85; refine (nan_85 _ _).mono ?_; rintro e w' ⟨rfl, rfl⟩)
    go_ret
    exact ⟨by rw [HX.out]; rfl, rfl⟩
set_option maxHeartbeats 1000000 in
theorem cmp_68 (a b : Int) (w : World) : Calls Tryd.prog 68 #[.int .i64 a, .int .i64 b] w fun e w' => e = .returned (.int .i64 (cmpI a b)) ∧ w = w' := by
  by_cases h1 : a < b
  case pos =>
    have HX : Hid (cmpI a b = -1) := by unfold Hid cmpI; rw [if_pos h1]
    go_enter Tryd.func68, Tryd.ntmps68
    go_wp2_with (go_at_call 86; refine (nan_86 _ _).mono ?_; rintro e w' ⟨rfl, rfl⟩)
    go_ret
    exact ⟨by rw [HX.out]; rfl, rfl⟩
  by_cases h2 : b < a
  case pos =>
    have HX : Hid (cmpI a b = 1) := by unfold Hid cmpI; rw [if_neg h1, if_pos h2]
    go_enter Tryd.func68, Tryd.ntmps68
    go_wp2_with (go_at_call 86; refine (nan_86 _ _).mono ?_; rintro e w' ⟨rfl, rfl⟩)
    go_ret
    exact ⟨by rw [HX.out]; rfl, rfl⟩
  case neg =>
    have HX : Hid (cmpI a b = 0) := by unfold Hid cmpI; rw [if_neg h1, if_neg h2]
    go_enter Tryd.func68, Tryd.ntmps68
    go_wp2_with (go_at_call 86; refine (nan_86 _ _).mono ?_; rintro e w' ⟨rfl, rfl⟩)
    go_ret
    exact ⟨by rw [HX.out]; rfl, rfl⟩
set_option maxHeartbeats 1000000 in
theorem cmp_66 (a b : ByteArray) (w : World) : Calls Tryd.prog 66 #[.string a, .string b] w fun e w' => e = .returned (.int .i64 (cmpS a b)) ∧ w = w' := by
  cases h1 : Op.bytesLess a.toList b.toList
  case true =>
    have HX : Hid (cmpS a b = -1) := by unfold Hid cmpS blt; rw [if_pos h1]
    go_enter Tryd.func66, Tryd.ntmps66
    go_wp2_with (go_at_call 84; refine (nan_84 _ _).mono ?_; rintro e w' ⟨rfl, rfl⟩)
    go_ret
    exact ⟨by rw [HX.out]; rfl, rfl⟩
  by_cases h2 : a = b
  case pos =>
    have HX : Hid (cmpS a b = 0) := by unfold Hid cmpS blt; rw [h1, if_neg (by decide), if_pos h2]
    have h3 := str_eq h2
    clear h2
    go_enter Tryd.func66, Tryd.ntmps66
    go_wp2_with (go_at_call 84; refine (nan_84 _ _).mono ?_; rintro e w' ⟨rfl, rfl⟩)
    go_ret
    exact ⟨by rw [HX.out]; rfl, rfl⟩
  case neg =>
    have HX : Hid (cmpS a b = 1) := by unfold Hid cmpS blt; rw [h1, if_neg (by decide), if_neg h2]
    have h3 := str_ne h2
    clear h2
    go_enter Tryd.func66, Tryd.ntmps66
    go_wp2_with (go_at_call 84; refine (nan_84 _ _).mono ?_; rintro e w' ⟨rfl, rfl⟩)
    go_ret
    exact ⟨by rw [HX.out]; rfl, rfl⟩
/-- the first one that isn't zero -/
def orL : List Int → Int
  | [] => 0
  | a :: r => if a = 0 then orL r else a
theorem orL_at {l : List Int} {j : Nat} (hz : ∀ i, i < j → l.getD i 0 = 0) (hj : j < l.length) (h : l.getD j 0 ≠ 0) : orL l = l.getD j 0 := by
  induction l generalizing j with
  | nil => simp at hj
  | cons a r ih =>
    cases j with
    | zero => simp at h ⊢; rw [orL, if_neg h]
    | succ j =>
      have h0 := hz 0 (by omega)
      simp at h0
      rw [orL, if_pos h0]
      have := ih (j := j) (fun i hi => by have := hz (i + 1) (by omega); simpa using this) (by simpa using hj) (by simpa using h)
      simpa using this
theorem orL_none {l : List Int} (hz : ∀ i, i < l.length → l.getD i 0 = 0) : orL l = 0 := by
  induction l with
  | nil => rfl
  | cons a r ih =>
    have h0 := hz 0 (by simp)
    simp at h0
    rw [orL, if_pos h0]
    exact ih fun i hi => by have := hz (i + 1) (by simpa using hi); simpa using this
set_option maxHeartbeats 1000000 in
theorem or_any (l : List Int) (b : Nat) (w : World) (hl : l.length ≤ 100) (hc : ∀ i, i < l.length → w.cell? ⟨b, i, none⟩ = some (.int .i64 (l.getD i 0))) :
    Calls Tryd.prog 64 #[.slice (some ⟨b, 0, none⟩) l.length l.length] w fun e w' => e = .returned (.int .i64 (orL l)) ∧ w = w' := by
  have HC := Lib.hid hc
  clear hc
  go_enter Tryd.func64, Tryd.ntmps64
  go_wp2
  go_loop [8] (fun i => ∃ k : Nat, k ≤ l.length ∧ i = .int .i64 k ∧ Hid (∀ j, j < k → l.getD j 0 = 0)) (fun i => l.length - (intOf i).toNat)
  case atStart => exact ⟨0, Nat.zero_le _, rfl, fun j hj => by omega⟩
  case round =>
    obtain ⟨k, hk, rfl, hj⟩ := hrel
    by_cases hlt : k < l.length
    · have y0 := HC.out k hlt
      obtain ⟨x, hx⟩ : ∃ x, l.getD k 0 = x := ⟨_, rfl⟩
      rw [hx] at y0
      have HX := Lib.hid hx
      clear hx
      by_cases h : x = 0
      · subst h
        go_wp2
        go_round
        case rel => exact ⟨k + 1, by omega, by go_num, fun j h => by
          by_cases e : j = k
          · rw [e]; exact HX.out
          · exact hj.out j (by omega)⟩
        case measure => simp [intOf]; omega
      · have HO : Hid (orL l = x) := by unfold Hid; rw [orL_at hj.out hlt (by rw [HX.out]; exact h), HX.out]
        have h5 : (x != 0) = true := by rw [bne_iff_ne]; exact h
        clear h
        go_wp2
        go_ret
        exact ⟨by rw [HO.out]; rfl, rfl⟩
    · have HO : Hid (orL l = 0) := orL_none fun i hi => hj.out i (by omega)
      go_wp2
      go_ret
      exact ⟨by rw [HO.out]; rfl, rfl⟩
end Go.Proofs.YtakoghdkllfhlaaDoor

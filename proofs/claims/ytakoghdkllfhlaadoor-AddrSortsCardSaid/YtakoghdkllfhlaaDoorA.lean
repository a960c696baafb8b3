/- Names and keys: the bytes, the texts. -/
import Derived.Test.YtakoghdkllfhlaaDoorProg
import Derived.WalkKit
import Derived.Below
import Derived.WalkSmall
import Derived.LoopTactic
import Derived.RegionTactic
import Derived.ChangeAlike
import Derived.BigGuardPart
import Derived.Deep.QuietTactic
import Derived.BigQuiet
import Derived.Outline
import Derived.Lib.Hide
import Derived.Handy
import Derived.WalkLawsBesides
import Derived.WalkSpells
import Derived.Deep.DeepMust
import Derived.Deep.DeepFit
namespace Go.Proofs.YtakoghdkllfhlaaDoor
open Go.RowKit

theorem ret_b {a b : Bool} (h : a = b) : Ending.returned (.bool a) = .returned (.bool b) := by rw [h]
theorem ret_int {k : IntKind} {a b : Int} (h : a = b) : Ending.returned (.int k a) = .returned (.int k b) := by rw [h]
/-- a small letter, a digit, a great letter -/
def sm (c : Int) : Bool := decide (97 ≤ c) && decide (c ≤ 122)
def dg (c : Int) : Bool := decide (48 ≤ c) && decide (c ≤ 57)
def gt (c : Int) : Bool := decide (65 ≤ c) && decide (c ≤ 90)
def ofN (c : Int) : Bool := sm c || dg c || (c == 95)
def ofK (c : Int) : Bool := ofN c || gt c || (c == 45) || (c == 46)
abbrev Is (w : World) (b : Bool) (e : Ending) (w' : World) : Prop := e = .returned (.bool b) ∧ w = w'
theorem sm_42 (c : Int) (w : World) : Calls Tryd.prog 42 #[.int .u8 c] w (Is w (sm c)) := by
  go_enter Tryd.func42, Tryd.ntmps42
  go_wp2
  all_goals
    go_ret
    exact ⟨ret_b (by simp [sm]; omega), rfl⟩
theorem sm_43 (c : Int) (w : World) : Calls Tryd.prog 43 #[.int .u8 c] w (Is w (sm c)) := by
  go_enter Tryd.func43, Tryd.ntmps43
  go_wp2
  all_goals
    go_ret
    exact ⟨ret_b (by simp [sm]; omega), rfl⟩
theorem dg_62 (c : Int) (w : World) : Calls Tryd.prog 62 #[.int .u8 c] w (Is w (dg c)) := by
  go_enter Tryd.func62, Tryd.ntmps62
  go_wp2
  all_goals
    go_ret
    exact ⟨ret_b (by simp [dg]; omega), rfl⟩
theorem gt_63 (c : Int) (w : World) : Calls Tryd.prog 63 #[.int .u8 c] w (Is w (gt c)) := by
  go_enter Tryd.func63, Tryd.ntmps63
  go_wp2
  all_goals
    go_ret
    exact ⟨ret_b (by simp [gt]; omega), rfl⟩
theorem ofN_41 (c : Int) (w : World) : Calls Tryd.prog 41 #[.int .u8 c] w (Is w (ofN c)) := by
  have S := sm_42 c w
  have D := dg_62 c w
  unfold ofN
  generalize sm c = a at *
  generalize dg c = b at *
  have S := Lib.hid S
  have D := Lib.hid D
  cases a with
  | true =>
    go_enter Tryd.func41, Tryd.ntmps41
    go_wp2_with fail
    refine S.out.mono ?_
    rintro e w1 ⟨rfl, rfl⟩
    go_wp2_with fail
    go_ret
    exact ⟨rfl, rfl⟩
  | false =>
    go_enter Tryd.func41, Tryd.ntmps41
    go_wp2_with fail
    refine S.out.mono ?_
    rintro e w1 ⟨rfl, rfl⟩
    go_wp2_with fail
    refine D.out.mono ?_
    rintro e w1 ⟨rfl, rfl⟩
    cases b
    all_goals
      go_wp2_with fail
      go_ret
      exact ⟨rfl, rfl⟩
theorem ofK_44 (c : Int) (w : World) : Calls Tryd.prog 44 #[.int .u8 c] w (Is w (ofK c)) := by
  have S := ofN_41 c w
  have D := gt_63 c w
  unfold ofK
  generalize ofN c = a at *
  generalize gt c = b at *
  have S := Lib.hid S
  have D := Lib.hid D
  cases a with
  | true =>
    go_enter Tryd.func44, Tryd.ntmps44
    go_wp2_with fail
    refine S.out.mono ?_
    rintro e w1 ⟨rfl, rfl⟩
    go_wp2_with fail
    go_ret
    exact ⟨rfl, rfl⟩
  | false =>
    go_enter Tryd.func44, Tryd.ntmps44
    go_wp2_with fail
    refine S.out.mono ?_
    rintro e w1 ⟨rfl, rfl⟩
    go_wp2_with fail
    refine D.out.mono ?_
    rintro e w1 ⟨rfl, rfl⟩
    cases b
    all_goals
      go_wp2_with fail
      all_goals
        go_ret
        exact ⟨ret_b (by simp_all), rfl⟩
theorem toList_is (s : ByteArray) : s.toList = s.data.toList := by
  obtain ⟨⟨l⟩⟩ := s
  exact ByteArray.toList_mk l
theorem L_get (s : ByteArray) (k : Nat) (h : k < s.size) : s.data.toList[k]'(by simpa using h) = s[k] := by simp; rfl
theorem L_len (s : ByteArray) : s.data.toList.length = s.size := by simp
theorem empty_iff (s : ByteArray) (h : 0 < s.size) : s.toList.isEmpty = false ∧ ¬ s.toList = [] := by
  rw [toList_is]
  cases hd : s.data.toList with
  | nil => have := L_len s; rw [hd] at this; simp at this; omega
  | cons a l => simp
theorem size_zero (s : ByteArray) (h : s.size = 0) : s = ⟨#[]⟩ := by
  have : s = ByteArray.empty := by simpa using h
  rw [this]; rfl
/-- all bytes -/
def allB (p : Int → Bool) (s : ByteArray) : Bool := s.data.toList.all fun c => p (c.toNat : Int)
theorem allB_iff (p : Int → Bool) (s : ByteArray) : allB p s = true ↔ ∀ j (h : j < s.size), p (s[j].toNat : Int) = true := by
  unfold allB
  rw [List.all_eq_true]
  constructor
  · intro h j hj
    have := h (s.data.toList[j]'(by rw [L_len]; exact hj)) (List.getElem_mem _)
    rwa [L_get s j hj] at this
  · intro h c hc
    obtain ⟨j, hj, rfl⟩ := List.mem_iff_getElem.1 hc
    have hj' : j < s.size := by rwa [L_len] at hj
    rw [L_get s j hj']
    exact h j hj'
theorem allB_no {p : Int → Bool} {s : ByteArray} {j : Nat} (h : j < s.size) (hp : p (s[j].toNat : Int) = false) : allB p s = false := by
  cases ha : allB p s with
  | false => rfl
  | true => have := (allB_iff p s).1 ha j h; rw [hp] at this; cases this
/-- from 1 to 24 bytes, p of each -/
def okS (p : Int → Bool) (s : ByteArray) : Bool := decide (0 < s.size) && decide (s.size ≤ 24) && allB p s
/-- the first byte -/
def hd0 (s : ByteArray) : Int := (s.data.toList.head?.map fun c => (c.toNat : Int)).getD 0
theorem hd0_is (s : ByteArray) (h : 0 < s.size) : hd0 s = (s[0].toNat : Int) := by
  unfold hd0
  rw [List.head?_eq_getElem?, List.getElem?_eq_getElem (by rw [L_len]; exact h), L_get s 0 h]; rfl
def nameB (s : ByteArray) : Bool := okS ofN s && sm (hd0 s)
def wordB (s : ByteArray) : Bool := okS ofK s
end Go.Proofs.YtakoghdkllfhlaaDoor

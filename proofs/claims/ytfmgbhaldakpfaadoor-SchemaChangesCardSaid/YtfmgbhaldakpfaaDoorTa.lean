/- Plain mathematics of types: nothing of the program. -/
import Derived.Test.YtfmgbhaldakpfaaDoorProg
import Derived.WalkKit
import Derived.Below
import Derived.WalkSmall
import Derived.LoopTactic
import Derived.RegionTactic
import Derived.ChangeAlike
import Derived.BigGuardPart
import Derived.Deep.QuietTactic
import Derived.BigQuiet
import Derived.Outline
import Derived.Lib.Hide
import Derived.Handy
import Derived.WalkLawsBesides
namespace Go.Proofs.YtfmgbhaldakpfaaDoor.Typ

/-- a type may be -/
def okB (k o : Int) : Bool := decide ((0 ≤ k ∧ k ≤ 3 ∧ o = 0) ∨ ((k = 4 ∨ k = 5) ∧ 0 ≤ o ∧ o ≤ 3))
/-- a type: its Kind and its Of -/
abbrev Ty := Int × Int
/-- all types that may be, by rising codes -/
def all : List Ty := [(0, 0), (1, 0), (2, 0), (3, 0), (4, 0), (4, 1), (4, 2), (4, 3), (5, 0), (5, 1), (5, 2), (5, 3)]
def upB (a b : Ty) : Bool := b == a || b == (a.1, 0) || b == (0, 0)
/-- a is within b -/
def inB (a b : Ty) : Bool := okB a.1 a.2 && okB b.1 b.2 && upB a b
def join (a b : Ty) : Ty :=
  if okB a.1 a.2 && okB b.1 b.2 then
    if upB b a then a else if upB b (a.1, 0) then (a.1, 0) else (0, 0)
  else (0, 0)
def meet (a b : Ty) : Ty × Bool := if inB a b then (a, true) else if inB b a then (b, true) else ((0, 0), false)
def code (a : Ty) : Int := if okB a.1 a.2 then 8 * a.1 + a.2 else 255
/-- the first of all that is over both and under each that is -/
def joinR (a b : Ty) : Ty := (all.find? fun t => (inB a t && inB b t) && all.all fun u => !((inB a u && inB b u) && !inB t u)).getD (0, 0)
def meetR (a b : Ty) : Ty × Bool := match all.find? fun t => (inB t a && inB t b) && all.all fun u => !((inB u a && inB u b) && !inB u t) with
  | some t => (t, true)
  | none => ((0, 0), false)

theorem ok_iff (k o : Int) : okB k o = true ↔ ((0 ≤ k ∧ k ≤ 3 ∧ o = 0) ∨ ((k = 4 ∨ k = 5) ∧ 0 ≤ o ∧ o ≤ 3)) := decide_eq_true_iff
theorem no_iff (k o : Int) : okB k o = false ↔ ¬ ((0 ≤ k ∧ k ≤ 3 ∧ o = 0) ∨ ((k = 4 ∨ k = 5) ∧ 0 ≤ o ∧ o ≤ 3)) := decide_eq_false_iff_not
theorem ok_mem {a : Ty} (h : okB a.1 a.2 = true) : a ∈ all := by
  obtain ⟨k, o⟩ := a
  rw [ok_iff] at h
  simp only at h
  unfold all
  rcases h with ⟨h1, h2, rfl⟩ | ⟨h1, h2, h3⟩
  · obtain rfl | rfl | rfl | rfl : k = 0 ∨ k = 1 ∨ k = 2 ∨ k = 3 := by omega
    all_goals decide
  · obtain rfl | rfl | rfl | rfl : o = 0 ∨ o = 1 ∨ o = 2 ∨ o = 3 := by omega
    all_goals (rcases h1 with rfl | rfl <;> decide)
theorem mem_ok : ∀ a ∈ all, okB a.1 a.2 = true := by decide
theorem in_ok {a b : Ty} (h : inB a b = true) : okB a.1 a.2 = true ∧ okB b.1 b.2 = true := by
  unfold inB at h; simp only [Bool.and_eq_true] at h; exact h.1
theorem in_no1 {a b : Ty} (h : okB a.1 a.2 = false) : inB a b = false := by unfold inB; rw [h]; rfl
theorem in_no2 {a b : Ty} (h : okB b.1 b.2 = false) : inB a b = false := by unfold inB; rw [h]; simp
theorem find_none {α : Type} (p : α → Bool) (l : List α) (h : ∀ x, p x = false) : l.find? p = none := by
  rw [List.find?_eq_none]; intro x _; rw [h x]; decide
theorem join_same (a b : Ty) : joinR a b = join a b := by
  cases ha : okB a.1 a.2
  · unfold joinR join; rw [ha, find_none _ _ (fun x => by rw [in_no1 ha]; rfl)]; rfl
  · cases hb : okB b.1 b.2
    · unfold joinR join; rw [hb, find_none _ _ (fun x => by rw [in_no1 (a := b) hb]; simp)]; simp
    · exact (by decide : ∀ a ∈ all, ∀ b ∈ all, joinR a b = join a b) a (ok_mem ha) b (ok_mem hb)
theorem meet_same (a b : Ty) : meetR a b = meet a b := by
  cases ha : okB a.1 a.2
  · unfold meetR meet; rw [find_none _ _ (fun x => by rw [in_no2 ha]; rfl), in_no1 ha, in_no2 ha]; rfl
  · cases hb : okB b.1 b.2
    · unfold meetR meet; rw [find_none _ _ (fun x => by rw [in_no2 (b := b) hb]; simp), in_no1 hb, in_no2 hb]; rfl
    · exact (by decide : ∀ a ∈ all, ∀ b ∈ all, meetR a b = meet a b) a (ok_mem ha) b (ok_mem hb)
theorem join_comm (a b : Ty) : join a b = join b a := by
  cases ha : okB a.1 a.2
  · unfold join; rw [ha]; simp
  · cases hb : okB b.1 b.2
    · unfold join; rw [hb]; simp
    · exact (by decide : ∀ a ∈ all, ∀ b ∈ all, join a b = join b a) a (ok_mem ha) b (ok_mem hb)
theorem meet_comm (a b : Ty) : meet a b = meet b a := by
  cases ha : okB a.1 a.2
  · unfold meet; rw [in_no1 ha, in_no2 ha]; rfl
  · cases hb : okB b.1 b.2
    · unfold meet; rw [in_no1 hb, in_no2 hb]; rfl
    · exact (by decide : ∀ a ∈ all, ∀ b ∈ all, meet a b = meet b a) a (ok_mem ha) b (ok_mem hb)
theorem join_no {a b : Ty} (h : okB a.1 a.2 = false ∨ okB b.1 b.2 = false) : join a b = (0, 0) := by
  unfold join; rcases h with h | h <;> rw [h] <;> simp
theorem join_any (a : Ty) : join (0, 0) a = (0, 0) := by
  cases ha : okB a.1 a.2
  · exact join_no (.inr ha)
  · exact (by decide : ∀ a ∈ all, join (0, 0) a = (0, 0)) a (ok_mem ha)
theorem join_assoc (a b c : Ty) : join (join a b) c = join a (join b c) := by
  cases ha : okB a.1 a.2
  · rw [join_no (.inl ha), join_no (.inl ha), join_any]
  · cases hb : okB b.1 b.2
    · rw [join_no (.inr hb), join_no (a := b) (.inl hb), join_any, join_comm, join_any]
    · cases hc : okB c.1 c.2
      · rw [join_no (b := c) (.inr hc), join_no (b := c) (.inr hc), join_comm, join_any]
      · exact (by decide : ∀ a ∈ all, ∀ b ∈ all, ∀ c ∈ all, join (join a b) c = join a (join b c)) a (ok_mem ha) b (ok_mem hb) c (ok_mem hc)
theorem in_trans {a b c : Ty} (h1 : inB a b = true) (h2 : inB b c = true) : inB a c = true :=
  (by decide : ∀ a ∈ all, ∀ b ∈ all, ∀ c ∈ all, inB a b = true → inB b c = true → inB a c = true) a (ok_mem (in_ok h1).1) b (ok_mem (in_ok h1).2) c (ok_mem (in_ok h2).2) h1 h2
theorem in_anti {a b : Ty} (h1 : inB a b = true) (h2 : inB b a = true) : a = b :=
  (by decide : ∀ a ∈ all, ∀ b ∈ all, inB a b = true → inB b a = true → a = b) a (ok_mem (in_ok h1).1) b (ok_mem (in_ok h1).2) h1 h2
theorem in_self {a : Ty} (h : okB a.1 a.2 = true) : inB a a = true :=
  (by decide : ∀ a ∈ all, inB a a = true) a (ok_mem h)
end Go.Proofs.YtfmgbhaldakpfaaDoor.Typ

/- Contracts: Check, mayBe, upward, the reference's Check. -/
namespace Go.Proofs.YtfmgbhaldakpfaaDoor.Typ
open Go.RowKit

/-- a type as a value -/
abbrev ty (k o : Int) : Value := .agg #[.int .i64 k, .int .i64 o]
set_option maxHeartbeats 1000000 in
theorem check_ok (k o : Int) (w : World) (h : okB k o = true) : Calls Tryd.prog 84 #[ty k o] w fun e w' => e = .returned (.int .i64 0) ∧ Below w.heap.size w w' := by
  rw [ok_iff] at h
  rcases h with ⟨h1, h2, rfl⟩ | ⟨h1, h2, h3⟩
  · obtain rfl | rfl | rfl | rfl : k = 0 ∨ k = 1 ∨ k = 2 ∨ k = 3 := by omega
    all_goals
      clear h1 h2
      go_enter Tryd.func84, Tryd.ntmps84
      go_wp2
      go_ret
      exact ⟨rfl, (Below.refl _ _).alloc (Nat.le_refl _) _⟩
  · rcases h1 with rfl | rfl
    all_goals
      go_enter Tryd.func84, Tryd.ntmps84
      go_wp2
      go_ret
      exact ⟨rfl, (Below.refl _ _).alloc (Nat.le_refl _) _⟩
set_option maxHeartbeats 1000000 in
theorem check_no (k o : Int) (w : World) (h : okB k o = false) : Calls Tryd.prog 84 #[ty k o] w fun e w' => e = .returned (.int .i64 1) ∧ Below w.heap.size w w' := by
  rw [no_iff] at h
  by_cases h1 : 0 ≤ k ∧ k ≤ 3
  · obtain rfl | rfl | rfl | rfl : k = 0 ∨ k = 1 ∨ k = 2 ∨ k = 3 := by omega
    all_goals
      have h2 : (o == 0) = false := by rw [beq_eq_false_iff_ne]; omega
      clear h h1
      go_enter Tryd.func84, Tryd.ntmps84
      go_wp2
      go_ret
      exact ⟨rfl, (Below.refl _ _).alloc (Nat.le_refl _) _⟩
  · by_cases h3 : k = 4 ∨ k = 5
    · by_cases h4 : o < 0
      · clear h
        have hd : decide (0 ≤ o) = false := by simpa using h4
        rcases h3 with rfl | rfl
        all_goals
          clear h1
          go_enter Tryd.func84, Tryd.ntmps84
          go_wp2
          go_ret
          exact ⟨rfl, (Below.refl _ _).alloc (Nat.le_refl _) _⟩
      · have h5 : 3 < o := by omega
        have h6 : 0 ≤ o := by omega
        clear h h4
        rcases h3 with rfl | rfl
        all_goals
          clear h1
          go_enter Tryd.func84, Tryd.ntmps84
          go_wp2
          go_ret
          exact ⟨rfl, (Below.refl _ _).alloc (Nat.le_refl _) _⟩
    · have e0 : (k == 0) = false := by rw [beq_eq_false_iff_ne]; omega
      have e1 : (k == 1) = false := by rw [beq_eq_false_iff_ne]; omega
      have e2 : (k == 2) = false := by rw [beq_eq_false_iff_ne]; omega
      have e3 : (k == 3) = false := by rw [beq_eq_false_iff_ne]; omega
      have e4 : (k == 4) = false := by rw [beq_eq_false_iff_ne]; omega
      have e5 : (k == 5) = false := by rw [beq_eq_false_iff_ne]; omega
      clear h h1 h3
      go_enter Tryd.func84, Tryd.ntmps84
      go_wp2
      go_ret
      exact ⟨rfl, (Below.refl _ _).alloc (Nat.le_refl _) _⟩
theorem may_ok (k o : Int) (w : World) (h : okB k o = true) : Calls Tryd.prog 85 #[ty k o] w fun e w' => e = .returned (.bool true) ∧ Below w.heap.size w w' := by
  have H := Lib.hid h
  clear h
  go_enter Tryd.func85, Tryd.ntmps85
  go_wp2_with (go_at_call 84; refine (check_ok _ _ _ H.out).mono ?_; rintro e w' ⟨rfl, b⟩)
  go_ret
  exact ⟨rfl, ((Below.refl _ _).alloc (Nat.le_refl _) _).trans (b.mono (by simp))⟩
theorem may_no (k o : Int) (w : World) (h : okB k o = false) : Calls Tryd.prog 85 #[ty k o] w fun e w' => e = .returned (.bool false) ∧ Below w.heap.size w w' := by
  have H := Lib.hid h
  clear h
  go_enter Tryd.func85, Tryd.ntmps85
  go_wp2_with (go_at_call 84; refine (check_no _ _ _ H.out).mono ?_; rintro e w' ⟨rfl, b⟩)
  go_ret
  exact ⟨rfl, ((Below.refl _ _).alloc (Nat.le_refl _) _).trans (b.mono (by simp))⟩
theorem upward_any (k o : Int) (w : World) : Calls Tryd.prog 86 #[ty k o] w fun e w' => e = .returned (.agg #[.int .i64 k, .int .i64 o, .int .i64 k, .int .i64 0, .int .i64 0, .int .i64 0]) ∧ Below w.heap.size w w' := by
  go_enter Tryd.func86, Tryd.ntmps86
  go_wp2
  exact bodyPost_ret (v := .agg #[.int .i64 k, .int .i64 o, .int .i64 k, .int .i64 0, .int .i64 0, .int .i64 0]) (by simp [results, Tryd.results86, go_sem]) rfl ⟨rfl, ((Below.refl _ _).alloc (Nat.le_refl _) _).alloc (by simp) _⟩
end Go.Proofs.YtfmgbhaldakpfaaDoor.Typ

/- Contracts: the reference's order; great. -/
import Derived.Test.YtakoghdkllfhlaaDoorF
import Derived.Laws.StructEq
namespace Go.Proofs.YtakoghdkllfhlaaDoor
open Go.RowKit

set_option maxHeartbeats 2000000 in
theorem rless_any (a b : Adr) (w : World) : Calls Tryd.prog 21 #[av a, av b] w (Tru w (lessA a b)) := by
  have HW := Lib.hid (((Below.refl w.heap.size w).alloc (Nat.le_refl _) (ba a)).alloc (by simp) (ba b))
  by_cases h1 : a.t = b.t
  case neg =>
    have HX : Hid (lessA a b = blt a.t b.t) := by unfold Hid lessA; rw [if_pos h1]
    have e1 := str_ne h1
    clear h1
    go_enter Tryd.func21, Tryd.ntmps21
    go_wp2_with fail
    go_ret
    exact ⟨ret_b (by rw [HX.out] <;> rfl), HW.out⟩
  by_cases h2 : a.n = b.n
  case neg =>
    have HX : Hid (lessA a b = blt a.n b.n) := by unfold Hid lessA; rw [if_neg (fun h => h h1), if_pos h2]
    have e1 := str_eq h1
    have e2 := str_ne h2
    clear h1 h2
    go_enter Tryd.func21, Tryd.ntmps21
    go_wp2_with fail
    go_ret
    exact ⟨ret_b (by rw [HX.out] <;> rfl), HW.out⟩
  by_cases h3 : a.kd = b.kd
  case neg =>
    have HX : Hid (lessA a b = decide (a.kd < b.kd)) := by unfold Hid lessA; rw [if_neg (fun h => h h1), if_neg (fun h => h h2), if_pos h3]
    have e1 := str_eq h1
    have e2 := str_eq h2
    have e3 : (a.kd != b.kd) = true := bne_iff_ne.2 h3
    clear h1 h2 h3
    go_enter Tryd.func21, Tryd.ntmps21
    go_wp2_with fail
    go_ret
    exact ⟨ret_b (by rw [HX.out] <;> rfl), HW.out⟩
  by_cases h4 : a.i = b.i
  case neg =>
    have HX : Hid (lessA a b = decide (a.i < b.i)) := by unfold Hid lessA; rw [if_neg (fun h => h h1), if_neg (fun h => h h2), if_neg (fun h => h h3), if_pos h4]
    have e1 := str_eq h1
    have e2 := str_eq h2
    have e3 : (a.kd != b.kd) = false := by simp [h3]
    have e4 : (a.i != b.i) = true := bne_iff_ne.2 h4
    clear h1 h2 h3 h4
    go_enter Tryd.func21, Tryd.ntmps21
    go_wp2_with fail
    go_ret
    exact ⟨ret_b (by rw [HX.out] <;> rfl), HW.out⟩
  case pos =>
    have HX : Hid (lessA a b = blt a.k b.k) := by unfold Hid lessA; rw [if_neg (fun h => h h1), if_neg (fun h => h h2), if_neg (fun h => h h3), if_neg (fun h => h h4)]
    have e1 := str_eq h1
    have e2 := str_eq h2
    have e3 : (a.kd != b.kd) = false := by simp [h3]
    have e4 : (a.i != b.i) = false := by simp [h4]
    clear h1 h2 h3 h4
    go_enter Tryd.func21, Tryd.ntmps21
    go_wp2_with fail
    go_ret
    exact ⟨ret_b (by rw [HX.out] <;> rfl), HW.out⟩
/-- what the document says of objects -/
noncomputable def lessK (a b : Obt) : Bool := @decide (ordK a b < 0) (Int.decLt _ _)
theorem Adr.ext' {a b : Adr} (h1 : a.t = b.t) (h2 : a.n = b.n) (h3 : a.kd = b.kd) (h4 : a.i = b.i) (h5 : a.k = b.k) : a = b := by cases a; cases b; simp_all
set_option maxHeartbeats 2000000 in
theorem rlessK_any (a b : Obt) (w : World) : Calls Tryd.prog 19 #[kv a, kv b] w (Tru w (lessK a b)) := by
  have HW := Lib.hid (((Below.refl w.heap.size w).alloc (Nat.le_refl _) (bk a)).alloc (by simp) (bk b))
  by_cases h0 : a.a.t = b.a.t
  case neg =>
    have hne : a.a ≠ b.a := fun h => h0 (by rw [h])
    have HX : Hid (lessK a b = lessA a.a b.a) := by unfold Hid lessK; rw [Bool.eq_iff_iff, decide_eq_true_eq]; exact lessK_other hne
    have R := Lib.hid (fun w => rless_any a.a b.a w)
    have e0 : (a.a.t.toList == b.a.t.toList) = false := str_ne h0
    clear hne h0
    go_enter Tryd.func19, Tryd.ntmps19
    go_wp2_with fail
    refine (R.out _).mono ?_
    rintro e w1 ⟨rfl, b1⟩
    have B1 := Lib.hid (HW.out.trans (b1.mono HW.out.size))
    clear b1
    go_wp2_with fail
    go_ret
    exact ⟨ret_b (by rw [HX.out] <;> rfl), B1.out⟩
  by_cases h1 : a.a.n = b.a.n
  case neg =>
    have hne : a.a ≠ b.a := fun h => h1 (by rw [h])
    have HX : Hid (lessK a b = lessA a.a b.a) := by unfold Hid lessK; rw [Bool.eq_iff_iff, decide_eq_true_eq]; exact lessK_other hne
    have R := Lib.hid (fun w => rless_any a.a b.a w)
    have e0 : (a.a.t.toList == b.a.t.toList) = true := str_eq h0
    have e1 : (a.a.n.toList == b.a.n.toList) = false := str_ne h1
    clear hne h0 h1
    go_enter Tryd.func19, Tryd.ntmps19
    go_wp2_with fail
    refine (R.out _).mono ?_
    rintro e w1 ⟨rfl, b1⟩
    have B1 := Lib.hid (HW.out.trans (b1.mono HW.out.size))
    clear b1
    go_wp2_with fail
    go_ret
    exact ⟨ret_b (by rw [HX.out] <;> rfl), B1.out⟩
  by_cases h2 : a.a.kd = b.a.kd
  case neg =>
    have hne : a.a ≠ b.a := fun h => h2 (by rw [h])
    have HX : Hid (lessK a b = lessA a.a b.a) := by unfold Hid lessK; rw [Bool.eq_iff_iff, decide_eq_true_eq]; exact lessK_other hne
    have R := Lib.hid (fun w => rless_any a.a b.a w)
    have e0 : (a.a.t.toList == b.a.t.toList) = true := str_eq h0
    have e1 : (a.a.n.toList == b.a.n.toList) = true := str_eq h1
    have e2 : (a.a.kd == b.a.kd) = false := beq_eq_false_iff_ne.2 h2
    clear hne h0 h1 h2
    go_enter Tryd.func19, Tryd.ntmps19
    go_wp2_with fail
    refine (R.out _).mono ?_
    rintro e w1 ⟨rfl, b1⟩
    have B1 := Lib.hid (HW.out.trans (b1.mono HW.out.size))
    clear b1
    go_wp2_with fail
    go_ret
    exact ⟨ret_b (by rw [HX.out] <;> rfl), B1.out⟩
  by_cases h3 : a.a.i = b.a.i
  case neg =>
    have hne : a.a ≠ b.a := fun h => h3 (by rw [h])
    have HX : Hid (lessK a b = lessA a.a b.a) := by unfold Hid lessK; rw [Bool.eq_iff_iff, decide_eq_true_eq]; exact lessK_other hne
    have R := Lib.hid (fun w => rless_any a.a b.a w)
    have e0 : (a.a.t.toList == b.a.t.toList) = true := str_eq h0
    have e1 : (a.a.n.toList == b.a.n.toList) = true := str_eq h1
    have e2 : (a.a.kd == b.a.kd) = true := by simp [h2]
    have e3 : (a.a.i == b.a.i) = false := beq_eq_false_iff_ne.2 h3
    clear hne h0 h1 h2 h3
    go_enter Tryd.func19, Tryd.ntmps19
    go_wp2_with fail
    refine (R.out _).mono ?_
    rintro e w1 ⟨rfl, b1⟩
    have B1 := Lib.hid (HW.out.trans (b1.mono HW.out.size))
    clear b1
    go_wp2_with fail
    go_ret
    exact ⟨ret_b (by rw [HX.out] <;> rfl), B1.out⟩
  by_cases h4 : a.a.k = b.a.k
  case neg =>
    have hne : a.a ≠ b.a := fun h => h4 (by rw [h])
    have HX : Hid (lessK a b = lessA a.a b.a) := by unfold Hid lessK; rw [Bool.eq_iff_iff, decide_eq_true_eq]; exact lessK_other hne
    have R := Lib.hid (fun w => rless_any a.a b.a w)
    have e0 : (a.a.t.toList == b.a.t.toList) = true := str_eq h0
    have e1 : (a.a.n.toList == b.a.n.toList) = true := str_eq h1
    have e2 : (a.a.kd == b.a.kd) = true := by simp [h2]
    have e3 : (a.a.i == b.a.i) = true := by simp [h3]
    have e4 : (a.a.k.toList == b.a.k.toList) = false := str_ne h4
    clear hne h0 h1 h2 h3 h4
    go_enter Tryd.func19, Tryd.ntmps19
    go_wp2_with fail
    refine (R.out _).mono ?_
    rintro e w1 ⟨rfl, b1⟩
    have B1 := Lib.hid (HW.out.trans (b1.mono HW.out.size))
    clear b1
    go_wp2_with fail
    go_ret
    exact ⟨ret_b (by rw [HX.out] <;> rfl), B1.out⟩
  case pos =>
    have heq : a.a = b.a := Adr.ext' h0 h1 h2 h3 h4
    have HX : Hid (lessK a b = decide (a.N < b.N)) := by unfold Hid lessK; rw [Bool.eq_iff_iff, decide_eq_true_eq, decide_eq_true_eq]; exact lessK_same heq
    have e0 : (a.a.t.toList == b.a.t.toList) = true := str_eq h0
    have e1 : (a.a.n.toList == b.a.n.toList) = true := str_eq h1
    have e2 : (a.a.kd == b.a.kd) = true := by simp [h2]
    have e3 : (a.a.i == b.a.i) = true := by simp [h3]
    have e4 : (a.a.k.toList == b.a.k.toList) = true := str_eq h4
    clear heq h0 h1 h2 h3 h4
    go_enter Tryd.func19, Tryd.ntmps19
    go_wp2_with fail
    go_ret
    exact ⟨ret_b (by rw [HX.out] <;> rfl), HW.out⟩
/-- what great leaves -/
def GtPost (a : Adr) (w : World) (e : Ending) (w' : World) : Prop := ∃ g : Bool, e = .returned (.bool g) ∧ (g = false → a.t.size ≤ 200 ∧ a.n.size ≤ 200 ∧ a.k.size ≤ 200) ∧ Below w.heap.size w w'
set_option maxHeartbeats 1000000 in
theorem great_any (a : Adr) (w : World) : Calls Tryd.prog 8 #[av a] w (GtPost a w) := by
  have HW := Lib.hid ((Below.refl w.heap.size w).alloc (Nat.le_refl _) (ba a))
  by_cases h1 : 200 < (a.t.size : Int)
  case pos =>
    go_enter Tryd.func8, Tryd.ntmps8
    go_wp2_with fail
    go_ret
    exact ⟨true, rfl, (fun h => by cases h), HW.out⟩
  by_cases h2 : 200 < (a.n.size : Int)
  case pos =>
    go_enter Tryd.func8, Tryd.ntmps8
    go_wp2_with fail
    go_ret
    exact ⟨true, rfl, (fun h => by cases h), HW.out⟩
  by_cases h3 : 200 < (a.k.size : Int)
  case pos =>
    go_enter Tryd.func8, Tryd.ntmps8
    go_wp2_with fail
    go_ret
    exact ⟨true, rfl, (fun h => by cases h), HW.out⟩
  case neg =>
    go_enter Tryd.func8, Tryd.ntmps8
    go_wp2_with fail
    go_ret
    exact ⟨false, rfl, fun _ => by omega, HW.out⟩
end Go.Proofs.YtakoghdkllfhlaaDoor

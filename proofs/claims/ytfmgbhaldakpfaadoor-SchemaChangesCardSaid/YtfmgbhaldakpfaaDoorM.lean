/- named, isPlain. -/
import Derived.Test.YtfmgbhaldakpfaaDoorB
import Derived.Laws.StructEq
namespace Go.Proofs.YtfmgbhaldakpfaaDoor
open Go.RowKit

theorem kinds (k : Int) : k = 1 ∨ k = 2 ∨ k = 3 ∨ k = 4 ∨ k = 5 ∨ k = 6 ∨ ((k == 1) = false ∧ (k == 2) = false ∧ (k == 3) = false ∧ (k == 4) = false ∧ (k == 5) = false ∧ (k == 6) = false) := by
  simp only [beq_eq_false_iff_ne]; omega
def NmPost (v' : Value) (w : World) (e : Ending) (w' : World) : Prop := e = .returned v' ∧ Below w.heap.size w w'
set_option maxRecDepth 100000 in
set_option maxHeartbeats 1000000 in
theorem named_1 (i : Int) (s : ByteArray) (oL oK : Option Addr) (nL nK cL cK : Nat) (t1 t2 : Int) (x : Bool) (w : World) :
    Calls Tryd.prog 82 #[vv 1 i s (.slice oL nL cL) (.slice oK nK cK) t1 t2 x] w (NmPost (vv 1 i ⟨#[]⟩ (.slice none 0 0) (.slice none 0 0) 0 0 x) w) := by
  go_enter Tryd.func82, Tryd.ntmps82
  go_wp2
  exact bodyPost_ret (v := vv 1 i ⟨#[]⟩ (.slice none 0 0) (.slice none 0 0) 0 0 x) (by simp [results, Tryd.results82, go_sem]) rfl ⟨rfl, (((Below.refl _ _).alloc (Nat.le_refl _) _).alloc (by simp) _).alloc (by simp; omega) _⟩
set_option maxRecDepth 100000 in
set_option maxHeartbeats 1000000 in
theorem named_2 (i : Int) (s : ByteArray) (oL oK : Option Addr) (nL nK cL cK : Nat) (t1 t2 : Int) (x : Bool) (w : World) :
    Calls Tryd.prog 82 #[vv 2 i s (.slice oL nL cL) (.slice oK nK cK) t1 t2 x] w (NmPost (vv 2 i ⟨#[]⟩ (.slice none 0 0) (.slice none 0 0) 0 0 x) w) := by
  go_enter Tryd.func82, Tryd.ntmps82
  go_wp2
  exact bodyPost_ret (v := vv 2 i ⟨#[]⟩ (.slice none 0 0) (.slice none 0 0) 0 0 x) (by simp [results, Tryd.results82, go_sem]) rfl ⟨rfl, (((Below.refl _ _).alloc (Nat.le_refl _) _).alloc (by simp) _).alloc (by simp; omega) _⟩
set_option maxRecDepth 100000 in
set_option maxHeartbeats 1000000 in
theorem named_3 (i : Int) (s : ByteArray) (oL oK : Option Addr) (nL nK cL cK : Nat) (t1 t2 : Int) (x : Bool) (w : World) :
    Calls Tryd.prog 82 #[vv 3 i s (.slice oL nL cL) (.slice oK nK cK) t1 t2 x] w (NmPost (vv 3 0 s (.slice none 0 0) (.slice none 0 0) 0 0 x) w) := by
  go_enter Tryd.func82, Tryd.ntmps82
  go_wp2
  exact bodyPost_ret (v := vv 3 0 s (.slice none 0 0) (.slice none 0 0) 0 0 x) (by simp [results, Tryd.results82, go_sem]) rfl ⟨rfl, (((Below.refl _ _).alloc (Nat.le_refl _) _).alloc (by simp) _).alloc (by simp; omega) _⟩
set_option maxRecDepth 100000 in
set_option maxHeartbeats 1000000 in
theorem named_4 (i : Int) (s : ByteArray) (oL oK : Option Addr) (nL nK cL cK : Nat) (t1 t2 : Int) (x : Bool) (w : World) :
    Calls Tryd.prog 82 #[vv 4 i s (.slice oL nL cL) (.slice oK nK cK) t1 t2 x] w (NmPost (vv 4 0 ⟨#[]⟩ (.slice oL nL cL) (.slice none 0 0) 0 0 x) w) := by
  go_enter Tryd.func82, Tryd.ntmps82
  go_wp2
  exact bodyPost_ret (v := vv 4 0 ⟨#[]⟩ (.slice oL nL cL) (.slice none 0 0) 0 0 x) (by simp [results, Tryd.results82, go_sem]) rfl ⟨rfl, (((Below.refl _ _).alloc (Nat.le_refl _) _).alloc (by simp) _).alloc (by simp; omega) _⟩
set_option maxRecDepth 100000 in
set_option maxHeartbeats 1000000 in
theorem named_5 (i : Int) (s : ByteArray) (oL oK : Option Addr) (nL nK cL cK : Nat) (t1 t2 : Int) (x : Bool) (w : World) :
    Calls Tryd.prog 82 #[vv 5 i s (.slice oL nL cL) (.slice oK nK cK) t1 t2 x] w (NmPost (vv 5 0 ⟨#[]⟩ (.slice oL nL cL) (.slice oK nK cK) 0 0 x) w) := by
  go_enter Tryd.func82, Tryd.ntmps82
  go_wp2
  exact bodyPost_ret (v := vv 5 0 ⟨#[]⟩ (.slice oL nL cL) (.slice oK nK cK) 0 0 x) (by simp [results, Tryd.results82, go_sem]) rfl ⟨rfl, (((Below.refl _ _).alloc (Nat.le_refl _) _).alloc (by simp) _).alloc (by simp; omega) _⟩
set_option maxRecDepth 100000 in
set_option maxHeartbeats 1000000 in
theorem named_6 (i : Int) (s : ByteArray) (oL oK : Option Addr) (nL nK cL cK : Nat) (t1 t2 : Int) (x : Bool) (w : World) :
    Calls Tryd.prog 82 #[vv 6 i s (.slice oL nL cL) (.slice oK nK cK) t1 t2 x] w (NmPost (vv 6 0 ⟨#[]⟩ (.slice none 0 0) (.slice none 0 0) t1 t2 x) w) := by
  go_enter Tryd.func82, Tryd.ntmps82
  go_wp2
  exact bodyPost_ret (v := vv 6 0 ⟨#[]⟩ (.slice none 0 0) (.slice none 0 0) t1 t2 x) (by simp [results, Tryd.results82, go_sem]) rfl ⟨rfl, (((Below.refl _ _).alloc (Nat.le_refl _) _).alloc (by simp) _).alloc (by simp; omega) _⟩
set_option maxRecDepth 100000 in
set_option maxHeartbeats 1000000 in
theorem named_o (k : Int) (i : Int) (s : ByteArray) (oL oK : Option Addr) (nL nK cL cK : Nat) (t1 t2 : Int) (x : Bool) (w : World) (e1 : (k == 1) = false) (e2 : (k == 2) = false) (e3 : (k == 3) = false) (e4 : (k == 4) = false) (e5 : (k == 5) = false) (e6 : (k == 6) = false) :
    Calls Tryd.prog 82 #[vv k i s (.slice oL nL cL) (.slice oK nK cK) t1 t2 x] w (NmPost (vv k 0 ⟨#[]⟩ (.slice none 0 0) (.slice none 0 0) 0 0 x) w) := by
  go_enter Tryd.func82, Tryd.ntmps82
  go_wp2
  exact bodyPost_ret (v := vv k 0 ⟨#[]⟩ (.slice none 0 0) (.slice none 0 0) 0 0 x) (by simp [results, Tryd.results82, go_sem]) rfl ⟨rfl, (((Below.refl _ _).alloc (Nat.le_refl _) _).alloc (by simp) _).alloc (by simp; omega) _⟩
theorem hd_made (w : World) (k i : Int) (s : ByteArray) (L K : Value) (t1 t2 : Int) (x : Bool) : Hd (w.alloc (.cells #[.int .i64 k, .int .i64 i, .string s, L, K, .int .i64 t1, .int .i64 t2, .bool x] 42)) w.heap.size (.mk k i s [] [] t1 t2 x) L K := Hd.made w (.mk k i s [] [] t1 t2 x) L K
/-- all that the kind doesn't name is zero -/
def pl (k i : Int) (s : ByteArray) (nL nK : Nat) (t1 t2 : Int) : Bool :=
  decide (k = 1 ∨ k = 2 ∨ i = 0) && (decide (k = 3) || s.toList.isEmpty) && decide (k = 4 ∨ k = 5 ∨ nL = 0) && decide (k = 5 ∨ nK = 0) && decide (k = 6 ∨ t1 = 0 ∧ t2 = 0)
theorem ret_b {a b : Bool} (h : a = b) : Ending.returned (.bool a) = .returned (.bool b) := by rw [h]
set_option maxRecDepth 100000 in
set_option maxHeartbeats 1000000 in
theorem plain_1 (i : Int) (s : ByteArray) (oL oK : Option Addr) (nL nK cL cK : Nat) (t1 t2 : Int) (x : Bool) (w : World) :
    Calls Tryd.prog 72 #[vv 1 i s (.slice oL nL cL) (.slice oK nK cK) t1 t2 x] w fun e w' => e = .returned (.bool (pl 1 i s nL nK t1 t2)) ∧ Below w.heap.size w w' := by
  have HB := Lib.hid (hd_made w 1 i s (.slice oL nL cL) (.slice oK nK cK) t1 t2 x)
  have HW := Lib.hid ((Below.refl w.heap.size w).alloc (Nat.le_refl _) (.cells #[.int .i64 1, .int .i64 i, .string s, (.slice oL nL cL), (.slice oK nK cK), .int .i64 t1, .int .i64 t2, .bool x] 42))
  go_enter Tryd.func72, Tryd.ntmps72
  go_wp2_with fail
  refine (named_1 i s oL oK nL nK cL cK t1 t2 x _).mono ?_
  rintro e w1 ⟨rfl, b1⟩
  have z1 := b1.size
  rw [World.size_alloc] at z1
  obtain ⟨q8, q0, q1, q2, q3, q4, q5, q6, q7⟩ := HB.out.kept b1 (by simp)
  simp only [Val.k, Val.i, Val.s, Val.tk, Val.to, Val.x] at q0 q1 q2 q5 q6 q7
  have B := Lib.hid ((HW.out.trans (b1.mono (by simp))).alloc (by omega) (.cells #[.int .i64 1, .int .i64 i, .string ⟨#[]⟩, .slice none 0 0, .slice none 0 0, .int .i64 0, .int .i64 0, .bool x] 42))
  clear b1
  go_wp2
  all_goals
    go_ret
    refine ⟨ret_b ?_, B.out⟩
    clear q8 q0 q1 q2 q3 q4 q5 q6 q7 z1
    first | (simp [pl, *]; done) | (simp_all [pl]; done) | (simp [pl]; omega)
set_option maxRecDepth 100000 in
set_option maxHeartbeats 1000000 in
theorem plain_2 (i : Int) (s : ByteArray) (oL oK : Option Addr) (nL nK cL cK : Nat) (t1 t2 : Int) (x : Bool) (w : World) :
    Calls Tryd.prog 72 #[vv 2 i s (.slice oL nL cL) (.slice oK nK cK) t1 t2 x] w fun e w' => e = .returned (.bool (pl 2 i s nL nK t1 t2)) ∧ Below w.heap.size w w' := by
  have HB := Lib.hid (hd_made w 2 i s (.slice oL nL cL) (.slice oK nK cK) t1 t2 x)
  have HW := Lib.hid ((Below.refl w.heap.size w).alloc (Nat.le_refl _) (.cells #[.int .i64 2, .int .i64 i, .string s, (.slice oL nL cL), (.slice oK nK cK), .int .i64 t1, .int .i64 t2, .bool x] 42))
  go_enter Tryd.func72, Tryd.ntmps72
  go_wp2_with fail
  refine (named_2 i s oL oK nL nK cL cK t1 t2 x _).mono ?_
  rintro e w1 ⟨rfl, b1⟩
  have z1 := b1.size
  rw [World.size_alloc] at z1
  obtain ⟨q8, q0, q1, q2, q3, q4, q5, q6, q7⟩ := HB.out.kept b1 (by simp)
  simp only [Val.k, Val.i, Val.s, Val.tk, Val.to, Val.x] at q0 q1 q2 q5 q6 q7
  have B := Lib.hid ((HW.out.trans (b1.mono (by simp))).alloc (by omega) (.cells #[.int .i64 2, .int .i64 i, .string ⟨#[]⟩, .slice none 0 0, .slice none 0 0, .int .i64 0, .int .i64 0, .bool x] 42))
  clear b1
  go_wp2
  all_goals
    go_ret
    refine ⟨ret_b ?_, B.out⟩
    clear q8 q0 q1 q2 q3 q4 q5 q6 q7 z1
    first | (simp [pl, *]; done) | (simp_all [pl]; done) | (simp [pl]; omega)
set_option maxRecDepth 100000 in
set_option maxHeartbeats 1000000 in
theorem plain_3 (i : Int) (s : ByteArray) (oL oK : Option Addr) (nL nK cL cK : Nat) (t1 t2 : Int) (x : Bool) (w : World) :
    Calls Tryd.prog 72 #[vv 3 i s (.slice oL nL cL) (.slice oK nK cK) t1 t2 x] w fun e w' => e = .returned (.bool (pl 3 i s nL nK t1 t2)) ∧ Below w.heap.size w w' := by
  have HB := Lib.hid (hd_made w 3 i s (.slice oL nL cL) (.slice oK nK cK) t1 t2 x)
  have HW := Lib.hid ((Below.refl w.heap.size w).alloc (Nat.le_refl _) (.cells #[.int .i64 3, .int .i64 i, .string s, (.slice oL nL cL), (.slice oK nK cK), .int .i64 t1, .int .i64 t2, .bool x] 42))
  go_enter Tryd.func72, Tryd.ntmps72
  go_wp2_with fail
  refine (named_3 i s oL oK nL nK cL cK t1 t2 x _).mono ?_
  rintro e w1 ⟨rfl, b1⟩
  have z1 := b1.size
  rw [World.size_alloc] at z1
  obtain ⟨q8, q0, q1, q2, q3, q4, q5, q6, q7⟩ := HB.out.kept b1 (by simp)
  simp only [Val.k, Val.i, Val.s, Val.tk, Val.to, Val.x] at q0 q1 q2 q5 q6 q7
  have B := Lib.hid ((HW.out.trans (b1.mono (by simp))).alloc (by omega) (.cells #[.int .i64 3, .int .i64 0, .string s, .slice none 0 0, .slice none 0 0, .int .i64 0, .int .i64 0, .bool x] 42))
  clear b1
  go_wp2
  all_goals
    go_ret
    refine ⟨ret_b ?_, B.out⟩
    clear q8 q0 q1 q2 q3 q4 q5 q6 q7 z1
    first | (simp [pl, *]; done) | (simp_all [pl]; done) | (simp [pl]; omega)
set_option maxRecDepth 100000 in
set_option maxHeartbeats 1000000 in
theorem plain_4 (i : Int) (s : ByteArray) (oL oK : Option Addr) (nL nK cL cK : Nat) (t1 t2 : Int) (x : Bool) (w : World) :
    Calls Tryd.prog 72 #[vv 4 i s (.slice oL nL cL) (.slice oK nK cK) t1 t2 x] w fun e w' => e = .returned (.bool (pl 4 i s nL nK t1 t2)) ∧ Below w.heap.size w w' := by
  have HB := Lib.hid (hd_made w 4 i s (.slice oL nL cL) (.slice oK nK cK) t1 t2 x)
  have HW := Lib.hid ((Below.refl w.heap.size w).alloc (Nat.le_refl _) (.cells #[.int .i64 4, .int .i64 i, .string s, (.slice oL nL cL), (.slice oK nK cK), .int .i64 t1, .int .i64 t2, .bool x] 42))
  go_enter Tryd.func72, Tryd.ntmps72
  go_wp2_with fail
  refine (named_4 i s oL oK nL nK cL cK t1 t2 x _).mono ?_
  rintro e w1 ⟨rfl, b1⟩
  have z1 := b1.size
  rw [World.size_alloc] at z1
  obtain ⟨q8, q0, q1, q2, q3, q4, q5, q6, q7⟩ := HB.out.kept b1 (by simp)
  simp only [Val.k, Val.i, Val.s, Val.tk, Val.to, Val.x] at q0 q1 q2 q5 q6 q7
  have B := Lib.hid ((HW.out.trans (b1.mono (by simp))).alloc (by omega) (.cells #[.int .i64 4, .int .i64 0, .string ⟨#[]⟩, .slice oL nL cL, .slice none 0 0, .int .i64 0, .int .i64 0, .bool x] 42))
  clear b1
  go_wp2
  all_goals
    go_ret
    refine ⟨ret_b ?_, B.out⟩
    clear q8 q0 q1 q2 q3 q4 q5 q6 q7 z1
    first | (simp [pl, *]; done) | (simp_all [pl]; done) | (simp [pl]; omega)
set_option maxRecDepth 100000 in
set_option maxHeartbeats 1000000 in
theorem plain_5 (i : Int) (s : ByteArray) (oL oK : Option Addr) (nL nK cL cK : Nat) (t1 t2 : Int) (x : Bool) (w : World) :
    Calls Tryd.prog 72 #[vv 5 i s (.slice oL nL cL) (.slice oK nK cK) t1 t2 x] w fun e w' => e = .returned (.bool (pl 5 i s nL nK t1 t2)) ∧ Below w.heap.size w w' := by
  have HB := Lib.hid (hd_made w 5 i s (.slice oL nL cL) (.slice oK nK cK) t1 t2 x)
  have HW := Lib.hid ((Below.refl w.heap.size w).alloc (Nat.le_refl _) (.cells #[.int .i64 5, .int .i64 i, .string s, (.slice oL nL cL), (.slice oK nK cK), .int .i64 t1, .int .i64 t2, .bool x] 42))
  go_enter Tryd.func72, Tryd.ntmps72
  go_wp2_with fail
  refine (named_5 i s oL oK nL nK cL cK t1 t2 x _).mono ?_
  rintro e w1 ⟨rfl, b1⟩
  have z1 := b1.size
  rw [World.size_alloc] at z1
  obtain ⟨q8, q0, q1, q2, q3, q4, q5, q6, q7⟩ := HB.out.kept b1 (by simp)
  simp only [Val.k, Val.i, Val.s, Val.tk, Val.to, Val.x] at q0 q1 q2 q5 q6 q7
  have B := Lib.hid ((HW.out.trans (b1.mono (by simp))).alloc (by omega) (.cells #[.int .i64 5, .int .i64 0, .string ⟨#[]⟩, .slice oL nL cL, .slice oK nK cK, .int .i64 0, .int .i64 0, .bool x] 42))
  clear b1
  go_wp2
  all_goals
    go_ret
    refine ⟨ret_b ?_, B.out⟩
    clear q8 q0 q1 q2 q3 q4 q5 q6 q7 z1
    first | (simp [pl, *]; done) | (simp_all [pl]; done) | (simp [pl]; omega)
set_option maxRecDepth 100000 in
set_option maxHeartbeats 1000000 in
theorem plain_6 (i : Int) (s : ByteArray) (oL oK : Option Addr) (nL nK cL cK : Nat) (t1 t2 : Int) (x : Bool) (w : World) :
    Calls Tryd.prog 72 #[vv 6 i s (.slice oL nL cL) (.slice oK nK cK) t1 t2 x] w fun e w' => e = .returned (.bool (pl 6 i s nL nK t1 t2)) ∧ Below w.heap.size w w' := by
  have HB := Lib.hid (hd_made w 6 i s (.slice oL nL cL) (.slice oK nK cK) t1 t2 x)
  have HW := Lib.hid ((Below.refl w.heap.size w).alloc (Nat.le_refl _) (.cells #[.int .i64 6, .int .i64 i, .string s, (.slice oL nL cL), (.slice oK nK cK), .int .i64 t1, .int .i64 t2, .bool x] 42))
  go_enter Tryd.func72, Tryd.ntmps72
  go_wp2_with fail
  refine (named_6 i s oL oK nL nK cL cK t1 t2 x _).mono ?_
  rintro e w1 ⟨rfl, b1⟩
  have z1 := b1.size
  rw [World.size_alloc] at z1
  obtain ⟨q8, q0, q1, q2, q3, q4, q5, q6, q7⟩ := HB.out.kept b1 (by simp)
  simp only [Val.k, Val.i, Val.s, Val.tk, Val.to, Val.x] at q0 q1 q2 q5 q6 q7
  have B := Lib.hid ((HW.out.trans (b1.mono (by simp))).alloc (by omega) (.cells #[.int .i64 6, .int .i64 0, .string ⟨#[]⟩, .slice none 0 0, .slice none 0 0, .int .i64 t1, .int .i64 t2, .bool x] 42))
  clear b1
  go_wp2
  all_goals
    go_ret
    refine ⟨ret_b ?_, B.out⟩
    clear q8 q0 q1 q2 q3 q4 q5 q6 q7 z1
    first | (simp [pl, *]; done) | (simp_all [pl]; done) | (simp [pl]; omega)
set_option maxRecDepth 100000 in
set_option maxHeartbeats 1000000 in
theorem plain_o (k : Int) (i : Int) (s : ByteArray) (oL oK : Option Addr) (nL nK cL cK : Nat) (t1 t2 : Int) (x : Bool) (w : World) (e1 : (k == 1) = false) (e2 : (k == 2) = false) (e3 : (k == 3) = false) (e4 : (k == 4) = false) (e5 : (k == 5) = false) (e6 : (k == 6) = false) :
    Calls Tryd.prog 72 #[vv k i s (.slice oL nL cL) (.slice oK nK cK) t1 t2 x] w fun e w' => e = .returned (.bool (pl k i s nL nK t1 t2)) ∧ Below w.heap.size w w' := by
  have HB := Lib.hid (hd_made w k i s (.slice oL nL cL) (.slice oK nK cK) t1 t2 x)
  have HW := Lib.hid ((Below.refl w.heap.size w).alloc (Nat.le_refl _) (.cells #[.int .i64 k, .int .i64 i, .string s, (.slice oL nL cL), (.slice oK nK cK), .int .i64 t1, .int .i64 t2, .bool x] 42))
  go_enter Tryd.func72, Tryd.ntmps72
  go_wp2_with fail
  refine (named_o k i s oL oK nL nK cL cK t1 t2 x _ e1 e2 e3 e4 e5 e6).mono ?_
  rintro e w1 ⟨rfl, b1⟩
  have z1 := b1.size
  rw [World.size_alloc] at z1
  obtain ⟨q8, q0, q1, q2, q3, q4, q5, q6, q7⟩ := HB.out.kept b1 (by simp)
  simp only [Val.k, Val.i, Val.s, Val.tk, Val.to, Val.x] at q0 q1 q2 q5 q6 q7
  have B := Lib.hid ((HW.out.trans (b1.mono (by simp))).alloc (by omega) (.cells #[.int .i64 k, .int .i64 0, .string ⟨#[]⟩, .slice none 0 0, .slice none 0 0, .int .i64 0, .int .i64 0, .bool x] 42))
  clear b1
  go_wp2
  all_goals
    go_ret
    refine ⟨ret_b ?_, B.out⟩
    clear q8 q0 q1 q2 q3 q4 q5 q6 q7 z1
    first | (simp [pl, *]; done) | (simp_all [pl]; done) | (simp [pl]; omega)
end Go.Proofs.YtfmgbhaldakpfaaDoor

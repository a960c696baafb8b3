/- The reference's Same of two values that differ at their heads. -/
import Derived.Test.YtpmdkekjoocplaaU
namespace Go.Proofs.Ytpmdkekjoocplaa
open Go.RowKit

theorem str_ne {s t : ByteArray} (h : s ≠ t) : (s.toList == t.toList) = false := by
  rw [beq_eq_false_iff_ne, ByteArray.toList_eq, ByteArray.toList_eq]
  intro h1
  apply h
  have := Array.toList_inj.1 h1
  cases s; cases t; simp_all
/-- what a test that is false leaves -/
def SNo (w : World) (e : Ending) (w' : World) : Prop := e = .returned (.bool false) ∧ Below w.heap.size w w'
set_option maxHeartbeats 1000000 in
theorem same_no_k (k : Int) (i : Int) (s : ByteArray) (tk : Int) (tt : Int) (x : Bool) (nL : Nat) (nK : Nat) (k' : Int) (i' : Int) (s' : ByteArray) (tk' : Int) (tt' : Int) (x' : Bool) (nL' : Nat) (nK' : Nat) (oL oK oL' oK' : Option Addr) (cL cK cL' cK' : Nat) (w : World) (h : k ≠ k') :
    Calls Try.prog 9 #[vv k i s (.slice oL nL cL) (.slice oK nK cK) tk tt x, vv k' i' s' (.slice oL' nL' cL') (.slice oK' nK' cK') tk' tt' x', .bool true] w (SNo w) := by
  have e1 : (k != k') = true := by rw [bne_iff_ne]; exact h
  clear h
  have HW := Lib.hid (((Below.refl w.heap.size w).alloc (Nat.le_refl _) (.cells #[.int .i64 k, .int .i64 i, .string s, .slice oL nL cL, .slice oK nK cK, .int .i64 tk, .int .i64 tt, .bool x] 30)).alloc (by simp) (.cells #[.int .i64 k', .int .i64 i', .string s', .slice oL' nL' cL', .slice oK' nK' cK', .int .i64 tk', .int .i64 tt', .bool x'] 30))
  go_enter Try.func9, Try.ntmps9
  go_wp2_with fail
  go_ret
  exact ⟨rfl, HW.out⟩
set_option maxHeartbeats 1000000 in
theorem same_no_i (k : Int) (i : Int) (s : ByteArray) (tk : Int) (tt : Int) (x : Bool) (nL : Nat) (nK : Nat) (i' : Int) (s' : ByteArray) (tk' : Int) (tt' : Int) (x' : Bool) (nL' : Nat) (nK' : Nat) (oL oK oL' oK' : Option Addr) (cL cK cL' cK' : Nat) (w : World) (h : i ≠ i') :
    Calls Try.prog 9 #[vv k i s (.slice oL nL cL) (.slice oK nK cK) tk tt x, vv k i' s' (.slice oL' nL' cL') (.slice oK' nK' cK') tk' tt' x', .bool true] w (SNo w) := by
  have e1 : (i != i') = true := by rw [bne_iff_ne]; exact h
  clear h
  have HW := Lib.hid (((Below.refl w.heap.size w).alloc (Nat.le_refl _) (.cells #[.int .i64 k, .int .i64 i, .string s, .slice oL nL cL, .slice oK nK cK, .int .i64 tk, .int .i64 tt, .bool x] 30)).alloc (by simp) (.cells #[.int .i64 k, .int .i64 i', .string s', .slice oL' nL' cL', .slice oK' nK' cK', .int .i64 tk', .int .i64 tt', .bool x'] 30))
  go_enter Try.func9, Try.ntmps9
  go_wp2_with fail
  go_ret
  exact ⟨rfl, HW.out⟩
set_option maxHeartbeats 1000000 in
theorem same_no_s (k : Int) (i : Int) (s : ByteArray) (tk : Int) (tt : Int) (x : Bool) (nL : Nat) (nK : Nat) (s' : ByteArray) (tk' : Int) (tt' : Int) (x' : Bool) (nL' : Nat) (nK' : Nat) (oL oK oL' oK' : Option Addr) (cL cK cL' cK' : Nat) (w : World) (h : s ≠ s') :
    Calls Try.prog 9 #[vv k i s (.slice oL nL cL) (.slice oK nK cK) tk tt x, vv k i s' (.slice oL' nL' cL') (.slice oK' nK' cK') tk' tt' x', .bool true] w (SNo w) := by
  have e1 : (s.toList == s'.toList) = false := str_ne h
  clear h
  have HW := Lib.hid (((Below.refl w.heap.size w).alloc (Nat.le_refl _) (.cells #[.int .i64 k, .int .i64 i, .string s, .slice oL nL cL, .slice oK nK cK, .int .i64 tk, .int .i64 tt, .bool x] 30)).alloc (by simp) (.cells #[.int .i64 k, .int .i64 i, .string s', .slice oL' nL' cL', .slice oK' nK' cK', .int .i64 tk', .int .i64 tt', .bool x'] 30))
  go_enter Try.func9, Try.ntmps9
  go_wp2_with fail
  go_ret
  exact ⟨rfl, HW.out⟩
set_option maxHeartbeats 1000000 in
theorem same_no_tk (k : Int) (i : Int) (s : ByteArray) (tk : Int) (tt : Int) (x : Bool) (nL : Nat) (nK : Nat) (tk' : Int) (tt' : Int) (x' : Bool) (nL' : Nat) (nK' : Nat) (oL oK oL' oK' : Option Addr) (cL cK cL' cK' : Nat) (w : World) (h : tk ≠ tk') :
    Calls Try.prog 9 #[vv k i s (.slice oL nL cL) (.slice oK nK cK) tk tt x, vv k i s (.slice oL' nL' cL') (.slice oK' nK' cK') tk' tt' x', .bool true] w (SNo w) := by
  have e1 : (tk == tk') = false := by rw [beq_eq_false_iff_ne]; exact h
  clear h
  have HW := Lib.hid (((Below.refl w.heap.size w).alloc (Nat.le_refl _) (.cells #[.int .i64 k, .int .i64 i, .string s, .slice oL nL cL, .slice oK nK cK, .int .i64 tk, .int .i64 tt, .bool x] 30)).alloc (by simp) (.cells #[.int .i64 k, .int .i64 i, .string s, .slice oL' nL' cL', .slice oK' nK' cK', .int .i64 tk', .int .i64 tt', .bool x'] 30))
  go_enter Try.func9, Try.ntmps9
  go_wp2_with fail
  go_ret
  exact ⟨rfl, HW.out⟩
set_option maxHeartbeats 1000000 in
theorem same_no_to (k : Int) (i : Int) (s : ByteArray) (tk : Int) (tt : Int) (x : Bool) (nL : Nat) (nK : Nat) (tt' : Int) (x' : Bool) (nL' : Nat) (nK' : Nat) (oL oK oL' oK' : Option Addr) (cL cK cL' cK' : Nat) (w : World) (h : tt ≠ tt') :
    Calls Try.prog 9 #[vv k i s (.slice oL nL cL) (.slice oK nK cK) tk tt x, vv k i s (.slice oL' nL' cL') (.slice oK' nK' cK') tk tt' x', .bool true] w (SNo w) := by
  have e1 : (tt == tt') = false := by rw [beq_eq_false_iff_ne]; exact h
  clear h
  have HW := Lib.hid (((Below.refl w.heap.size w).alloc (Nat.le_refl _) (.cells #[.int .i64 k, .int .i64 i, .string s, .slice oL nL cL, .slice oK nK cK, .int .i64 tk, .int .i64 tt, .bool x] 30)).alloc (by simp) (.cells #[.int .i64 k, .int .i64 i, .string s, .slice oL' nL' cL', .slice oK' nK' cK', .int .i64 tk, .int .i64 tt', .bool x'] 30))
  go_enter Try.func9, Try.ntmps9
  go_wp2_with fail
  go_ret
  exact ⟨rfl, HW.out⟩
set_option maxHeartbeats 1000000 in
theorem same_no_x (k : Int) (i : Int) (s : ByteArray) (tk : Int) (tt : Int) (x : Bool) (nL : Nat) (nK : Nat) (x' : Bool) (nL' : Nat) (nK' : Nat) (oL oK oL' oK' : Option Addr) (cL cK cL' cK' : Nat) (w : World) (h : x ≠ x') :
    Calls Try.prog 9 #[vv k i s (.slice oL nL cL) (.slice oK nK cK) tk tt x, vv k i s (.slice oL' nL' cL') (.slice oK' nK' cK') tk tt x', .bool true] w (SNo w) := by
  cases x with
  | false =>
    cases x' with
    | false => exact absurd rfl h
    | true =>
      clear h
      have HW := Lib.hid (((Below.refl w.heap.size w).alloc (Nat.le_refl _) (.cells #[.int .i64 k, .int .i64 i, .string s, .slice oL nL cL, .slice oK nK cK, .int .i64 tk, .int .i64 tt, .bool false] 30)).alloc (by simp) (.cells #[.int .i64 k, .int .i64 i, .string s, .slice oL' nL' cL', .slice oK' nK' cK', .int .i64 tk, .int .i64 tt, .bool true] 30))
      go_enter Try.func9, Try.ntmps9
      go_wp2_with fail
      go_ret
      exact ⟨rfl, HW.out⟩
  | true =>
    cases x' with
    | true => exact absurd rfl h
    | false =>
      clear h
      have HW := Lib.hid (((Below.refl w.heap.size w).alloc (Nat.le_refl _) (.cells #[.int .i64 k, .int .i64 i, .string s, .slice oL nL cL, .slice oK nK cK, .int .i64 tk, .int .i64 tt, .bool true] 30)).alloc (by simp) (.cells #[.int .i64 k, .int .i64 i, .string s, .slice oL' nL' cL', .slice oK' nK' cK', .int .i64 tk, .int .i64 tt, .bool false] 30))
      go_enter Try.func9, Try.ntmps9
      go_wp2_with fail
      go_ret
      exact ⟨rfl, HW.out⟩
set_option maxHeartbeats 1000000 in
theorem same_no_nL (k : Int) (i : Int) (s : ByteArray) (tk : Int) (tt : Int) (x : Bool) (nL : Nat) (nK : Nat) (nL' : Nat) (nK' : Nat) (oL oK oL' oK' : Option Addr) (cL cK cL' cK' : Nat) (w : World) (h : nL ≠ nL') :
    Calls Try.prog 9 #[vv k i s (.slice oL nL cL) (.slice oK nK cK) tk tt x, vv k i s (.slice oL' nL' cL') (.slice oK' nK' cK') tk tt x, .bool true] w (SNo w) := by
  have e1 : ((nL : Int) != (nL' : Int)) = true := by rw [bne_iff_ne]; omega
  clear h
  have HW := Lib.hid (((Below.refl w.heap.size w).alloc (Nat.le_refl _) (.cells #[.int .i64 k, .int .i64 i, .string s, .slice oL nL cL, .slice oK nK cK, .int .i64 tk, .int .i64 tt, .bool x] 30)).alloc (by simp) (.cells #[.int .i64 k, .int .i64 i, .string s, .slice oL' nL' cL', .slice oK' nK' cK', .int .i64 tk, .int .i64 tt, .bool x] 30))
  go_enter Try.func9, Try.ntmps9
  go_wp2_with fail
  go_ret
  exact ⟨rfl, HW.out⟩
set_option maxHeartbeats 1000000 in
theorem same_no_nK (k : Int) (i : Int) (s : ByteArray) (tk : Int) (tt : Int) (x : Bool) (nL : Nat) (nK : Nat) (nK' : Nat) (oL oK oL' oK' : Option Addr) (cL cK cL' cK' : Nat) (w : World) (h : nK ≠ nK') :
    Calls Try.prog 9 #[vv k i s (.slice oL nL cL) (.slice oK nK cK) tk tt x, vv k i s (.slice oL' nL cL') (.slice oK' nK' cK') tk tt x, .bool true] w (SNo w) := by
  have e1 : ((nK : Int) != (nK' : Int)) = true := by rw [bne_iff_ne]; omega
  clear h
  have HW := Lib.hid (((Below.refl w.heap.size w).alloc (Nat.le_refl _) (.cells #[.int .i64 k, .int .i64 i, .string s, .slice oL nL cL, .slice oK nK cK, .int .i64 tk, .int .i64 tt, .bool x] 30)).alloc (by simp) (.cells #[.int .i64 k, .int .i64 i, .string s, .slice oL' nL cL', .slice oK' nK' cK', .int .i64 tk, .int .i64 tt, .bool x] 30))
  go_enter Try.func9, Try.ntmps9
  go_wp2_with fail
  go_ret
  exact ⟨rfl, HW.out⟩
end Go.Proofs.Ytpmdkekjoocplaa

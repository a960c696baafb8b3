/- order. -/
import Derived.Test.YtfgkkccgecnchaaOa
import Derived.Deep.RegionHeld3
namespace Go.Proofs.Ytfgkkccgecnchaa
open Go.RowKit

def ordRaw (q p i i' : Int) (s s' : ByteArray) (t1 t2 t1' t2' R : Int) : Int :=
  if q ≠ p then cmpI q p else if q = 1 ∨ q = 2 then cmpI i i' else if q = 3 then cmpS s s' else
  if q = 4 ∨ q = 5 then R else if q = 6 then cmpI (Typ.code (t1, t2)) (Typ.code (t1', t2')) else 0
theorem below22 (w : World) (a b : Obj) : Below w.heap.size w ((w.alloc a).alloc b) := ((Below.refl w.heap.size w).alloc (Nat.le_refl _) a).alloc (by simp) b
theorem held_next {N : Nat} {W0 W1 W2 : World} (b : Below W1.heap.size W1 W2) (h : (∀ b o, b < N → W1.cell? ⟨b, o, none⟩ = W0.cell? ⟨b, o, none⟩) ∧ Hid (Below N W0 W1) ∧ Hid (N ≤ W1.heap.size)) :
    (∀ b o, b < N → W2.cell? ⟨b, o, none⟩ = W0.cell? ⟨b, o, none⟩) ∧ Hid (Below N W0 W2) ∧ Hid (N ≤ W2.heap.size) := by
  have hB : Below N W0 W2 := h.2.1.out.trans (b.mono h.2.2.out)
  exact ⟨fun b o hb => hB.cell (p := ⟨b, o, none⟩) hb, hB, Nat.le_trans h.2.2.out b.size⟩
theorem held_at {N : Nat} {W0 : World} (h : N = W0.heap.size) : (∀ b o, b < N → W0.drew.cell? ⟨b, o, none⟩ = W0.cell? ⟨b, o, none⟩) ∧ Hid (Below N W0 W0.drew) ∧ Hid (N ≤ W0.drew.heap.size) :=
  ⟨fun _ _ _ => rfl, (Below.refl _ _).drew, Nat.le_of_eq h⟩
set_option maxRecDepth 100000 in
set_option maxHeartbeats 2000000 in
theorem order_ne (q p : Int) (i : Int) (s : ByteArray) (oL oK : Option Addr) (nL nK cL cK : Nat) (t1 t2 : Int) (x : Bool) (i' : Int) (s' : ByteArray) (oL' oK' : Option Addr) (nL' nK' cL' cK' : Nat) (t1' t2' : Int) (x' : Bool) (w : World) (R : Int) (h : q ≠ p) :
    Calls Try.prog 57 #[vv q i s (.slice oL nL cL) (.slice oK nK cK) t1 t2 x, vv p i' s' (.slice oL' nL' cL') (.slice oK' nK' cK') t1' t2' x'] w fun e w' => e = .returned (.int .i64 (ordRaw q p i i' s s' t1 t2 t1' t2' R)) ∧ Below w.heap.size w w' := by
  have HX : Hid (ordRaw q p i i' s s' t1 t2 t1' t2' R = cmpI q p) := by unfold Hid ordRaw; rw [if_pos h]
  have g1 : (q != p) = true := by simpa using h
  clear h
  go_enter Try.func57, Try.ntmps57
  go_wp2_with (go_at_call 79; refine (cmp_79 _ _ _).mono ?_; rintro e w' ⟨rfl, rfl⟩)
  go_ret
  exact ⟨(ret_int HX.out.symm : Ending.returned (.int .i64 _) = _), below22 _ _ _⟩
set_option maxRecDepth 100000 in
set_option maxHeartbeats 2000000 in
theorem order_1 (i : Int) (s : ByteArray) (oL oK : Option Addr) (nL nK cL cK : Nat) (t1 t2 : Int) (x : Bool) (i' : Int) (s' : ByteArray) (oL' oK' : Option Addr) (nL' nK' cL' cK' : Nat) (t1' t2' : Int) (x' : Bool) (w : World) (R : Int) :
    Calls Try.prog 57 #[vv 1 i s (.slice oL nL cL) (.slice oK nK cK) t1 t2 x, vv 1 i' s' (.slice oL' nL' cL') (.slice oK' nK' cK') t1' t2' x'] w fun e w' => e = .returned (.int .i64 (ordRaw 1 1 i i' s s' t1 t2 t1' t2' R)) ∧ Below w.heap.size w w' := by
  have HX : Hid (ordRaw 1 1 i i' s s' t1 t2 t1' t2' R = cmpI i i') := rfl
  go_enter Try.func57, Try.ntmps57
  go_wp2_with (go_at_call 80; refine (cmp_80 _ _ _).mono ?_; rintro e w' ⟨rfl, rfl⟩)
  go_ret
  exact ⟨(ret_int HX.out.symm : Ending.returned (.int .i64 _) = _), below22 _ _ _⟩
set_option maxRecDepth 100000 in
set_option maxHeartbeats 2000000 in
theorem order_2 (i : Int) (s : ByteArray) (oL oK : Option Addr) (nL nK cL cK : Nat) (t1 t2 : Int) (x : Bool) (i' : Int) (s' : ByteArray) (oL' oK' : Option Addr) (nL' nK' cL' cK' : Nat) (t1' t2' : Int) (x' : Bool) (w : World) (R : Int) :
    Calls Try.prog 57 #[vv 2 i s (.slice oL nL cL) (.slice oK nK cK) t1 t2 x, vv 2 i' s' (.slice oL' nL' cL') (.slice oK' nK' cK') t1' t2' x'] w fun e w' => e = .returned (.int .i64 (ordRaw 2 2 i i' s s' t1 t2 t1' t2' R)) ∧ Below w.heap.size w w' := by
  have HX : Hid (ordRaw 2 2 i i' s s' t1 t2 t1' t2' R = cmpI i i') := rfl
  go_enter Try.func57, Try.ntmps57
  go_wp2_with (go_at_call 80; refine (cmp_80 _ _ _).mono ?_; rintro e w' ⟨rfl, rfl⟩)
  go_ret
  exact ⟨(ret_int HX.out.symm : Ending.returned (.int .i64 _) = _), below22 _ _ _⟩
set_option maxRecDepth 100000 in
set_option maxHeartbeats 2000000 in
theorem order_3 (i : Int) (s : ByteArray) (oL oK : Option Addr) (nL nK cL cK : Nat) (t1 t2 : Int) (x : Bool) (i' : Int) (s' : ByteArray) (oL' oK' : Option Addr) (nL' nK' cL' cK' : Nat) (t1' t2' : Int) (x' : Bool) (w : World) (R : Int) :
    Calls Try.prog 57 #[vv 3 i s (.slice oL nL cL) (.slice oK nK cK) t1 t2 x, vv 3 i' s' (.slice oL' nL' cL') (.slice oK' nK' cK') t1' t2' x'] w fun e w' => e = .returned (.int .i64 (ordRaw 3 3 i i' s s' t1 t2 t1' t2' R)) ∧ Below w.heap.size w w' := by
  have HX : Hid (ordRaw 3 3 i i' s s' t1 t2 t1' t2' R = cmpS s s') := rfl
  go_enter Try.func57, Try.ntmps57
  go_wp2_with (go_at_call 81; refine (cmp_81 _ _ _).mono ?_; rintro e w' ⟨rfl, rfl⟩)
  go_ret
  exact ⟨(ret_int HX.out.symm : Ending.returned (.int .i64 _) = _), below22 _ _ _⟩
set_option maxRecDepth 100000 in
set_option maxHeartbeats 2000000 in
theorem order_4 (i : Int) (s : ByteArray) (oL oK : Option Addr) (nL nK cL cK : Nat) (t1 t2 : Int) (x : Bool) (i' : Int) (s' : ByteArray) (oL' oK' : Option Addr) (nL' nK' cL' cK' : Nat) (t1' t2' : Int) (x' : Bool) (w : World) (R : Int) (hE : ∀ w', Below w.heap.size w w' → Calls Try.prog 82 #[vv 4 i s (.slice oL nL cL) (.slice oK nK cK) t1 t2 x, vv 4 i' s' (.slice oL' nL' cL') (.slice oK' nK' cK') t1' t2' x'] w' fun e w2 => e = .returned (.int .i64 R) ∧ Below w'.heap.size w' w2) :
    Calls Try.prog 57 #[vv 4 i s (.slice oL nL cL) (.slice oK nK cK) t1 t2 x, vv 4 i' s' (.slice oL' nL' cL') (.slice oK' nK' cK') t1' t2' x'] w fun e w' => e = .returned (.int .i64 (ordRaw 4 4 i i' s s' t1 t2 t1' t2' R)) ∧ Below w.heap.size w w' := by
  have HX : Hid (ordRaw 4 4 i i' s s' t1 t2 t1' t2' R = R) := rfl
  have HE := Lib.hid hE
  clear hE
  go_enter Try.func57, Try.ntmps57
  go_wp2_with fail
  refine (HE.out _ (below22 _ _ _)).mono ?_
  rintro e w1 ⟨rfl, b1⟩
  have B := Lib.hid ((below22 _ _ _).trans (b1.mono (by simp; omega)))
  clear b1
  go_wp2_with fail
  go_ret
  exact ⟨(ret_int HX.out.symm : Ending.returned (.int .i64 _) = _), B.out⟩
set_option maxRecDepth 100000 in
set_option maxHeartbeats 2000000 in
theorem order_5 (i : Int) (s : ByteArray) (oL oK : Option Addr) (nL nK cL cK : Nat) (t1 t2 : Int) (x : Bool) (i' : Int) (s' : ByteArray) (oL' oK' : Option Addr) (nL' nK' cL' cK' : Nat) (t1' t2' : Int) (x' : Bool) (w : World) (R : Int) (hE : ∀ w', Below w.heap.size w w' → Calls Try.prog 82 #[vv 5 i s (.slice oL nL cL) (.slice oK nK cK) t1 t2 x, vv 5 i' s' (.slice oL' nL' cL') (.slice oK' nK' cK') t1' t2' x'] w' fun e w2 => e = .returned (.int .i64 R) ∧ Below w'.heap.size w' w2) :
    Calls Try.prog 57 #[vv 5 i s (.slice oL nL cL) (.slice oK nK cK) t1 t2 x, vv 5 i' s' (.slice oL' nL' cL') (.slice oK' nK' cK') t1' t2' x'] w fun e w' => e = .returned (.int .i64 (ordRaw 5 5 i i' s s' t1 t2 t1' t2' R)) ∧ Below w.heap.size w w' := by
  have HX : Hid (ordRaw 5 5 i i' s s' t1 t2 t1' t2' R = R) := rfl
  have HE := Lib.hid hE
  clear hE
  go_enter Try.func57, Try.ntmps57
  go_wp2_with fail
  refine (HE.out _ (below22 _ _ _)).mono ?_
  rintro e w1 ⟨rfl, b1⟩
  have B := Lib.hid ((below22 _ _ _).trans (b1.mono (by simp; omega)))
  clear b1
  go_wp2_with fail
  go_ret
  exact ⟨(ret_int HX.out.symm : Ending.returned (.int .i64 _) = _), B.out⟩
set_option maxRecDepth 100000 in
set_option maxHeartbeats 2000000 in
theorem order_o (q : Int) (i : Int) (s : ByteArray) (oL oK : Option Addr) (nL nK cL cK : Nat) (t1 t2 : Int) (x : Bool) (i' : Int) (s' : ByteArray) (oL' oK' : Option Addr) (nL' nK' cL' cK' : Nat) (t1' t2' : Int) (x' : Bool) (w : World) (R : Int) (e1 : (q == 1) = false) (e2 : (q == 2) = false) (e3 : (q == 3) = false) (e4 : (q == 4) = false) (e5 : (q == 5) = false) (e6 : (q == 6) = false) :
    Calls Try.prog 57 #[vv q i s (.slice oL nL cL) (.slice oK nK cK) t1 t2 x, vv q i' s' (.slice oL' nL' cL') (.slice oK' nK' cK') t1' t2' x'] w fun e w' => e = .returned (.int .i64 (ordRaw q q i i' s s' t1 t2 t1' t2' R)) ∧ Below w.heap.size w w' := by
  have HX : Hid (ordRaw q q i i' s s' t1 t2 t1' t2' R = 0) := by unfold Hid; simp only [beq_eq_false_iff_ne] at *; simp [ordRaw, *]
  go_enter Try.func57, Try.ntmps57
  go_wp2_with fail
  go_ret
  exact ⟨(ret_int HX.out.symm : Ending.returned (.int .i64 _) = _), below22 _ _ _⟩
set_option maxRecDepth 100000 in
set_option maxHeartbeats 2000000 in
theorem order_6 (i : Int) (s : ByteArray) (oL oK : Option Addr) (nL nK cL cK : Nat) (t1 t2 : Int) (x : Bool) (i' : Int) (s' : ByteArray) (oL' oK' : Option Addr) (nL' nK' cL' cK' : Nat) (t1' t2' : Int) (x' : Bool) (w : World) (R : Int) :
    Calls Try.prog 57 #[vv 6 i s (.slice oL nL cL) (.slice oK nK cK) t1 t2 x, vv 6 i' s' (.slice oL' nL' cL') (.slice oK' nK' cK') t1' t2' x'] w fun e w' => e = .returned (.int .i64 (ordRaw 6 6 i i' s s' t1 t2 t1' t2' R)) ∧ Below w.heap.size w w' := by
  have HX : Hid (ordRaw 6 6 i i' s s' t1 t2 t1' t2' R = cmpI (Typ.code (t1, t2)) (Typ.code (t1', t2'))) := rfl
  have C := Lib.hid (And.intro (fun w => Typ.code_any t1 t2 w) (fun w => Typ.code_any t1' t2' w))
  go_enter Try.func57, Try.ntmps57
  go_wp2_with fail
  have HB := Lib.hid (below22 w (.cells #[.int .i64 6, .int .i64 i, .string s, .slice oL nL cL, .slice oK nK cK, .int .i64 t1, .int .i64 t2, .bool x] 27) (.cells #[.int .i64 6, .int .i64 i', .string s', .slice oL' nL' cL', .slice oK' nK' cK', .int .i64 t1', .int .i64 t2', .bool x'] 27))
  have HC : ((w.alloc (.cells #[.int .i64 6, .int .i64 i, .string s, .slice oL nL cL, .slice oK nK cK, .int .i64 t1, .int .i64 t2, .bool x] 27)).alloc (.cells #[.int .i64 6, .int .i64 i', .string s', .slice oL' nL' cL', .slice oK' nK' cK', .int .i64 t1', .int .i64 t2', .bool x'] 27)).cell? ⟨w.heap.size, 5, none⟩ = some (.int .i64 t1) ∧
    ((w.alloc (.cells #[.int .i64 6, .int .i64 i, .string s, .slice oL nL cL, .slice oK nK cK, .int .i64 t1, .int .i64 t2, .bool x] 27)).alloc (.cells #[.int .i64 6, .int .i64 i', .string s', .slice oL' nL' cL', .slice oK' nK' cK', .int .i64 t1', .int .i64 t2', .bool x'] 27)).cell? ⟨w.heap.size, 6, none⟩ = some (.int .i64 t2) ∧
    ((w.alloc (.cells #[.int .i64 6, .int .i64 i, .string s, .slice oL nL cL, .slice oK nK cK, .int .i64 t1, .int .i64 t2, .bool x] 27)).alloc (.cells #[.int .i64 6, .int .i64 i', .string s', .slice oL' nL' cL', .slice oK' nK' cK', .int .i64 t1', .int .i64 t2', .bool x'] 27)).cell? ⟨w.heap.size + 1, 5, none⟩ = some (.int .i64 t1') ∧
    ((w.alloc (.cells #[.int .i64 6, .int .i64 i, .string s, .slice oL nL cL, .slice oK nK cK, .int .i64 t1, .int .i64 t2, .bool x] 27)).alloc (.cells #[.int .i64 6, .int .i64 i', .string s', .slice oL' nL' cL', .slice oK' nK' cK', .int .i64 t1', .int .i64 t2', .bool x'] 27)).cell? ⟨w.heap.size + 1, 6, none⟩ = some (.int .i64 t2') := by
    refine ⟨?_, ?_, ?_, ?_⟩ <;> simp [go_sem]
  have HZ : Hid (((w.alloc (.cells #[.int .i64 6, .int .i64 i, .string s, .slice oL nL cL, .slice oK nK cK, .int .i64 t1, .int .i64 t2, .bool x] 27)).alloc (.cells #[.int .i64 6, .int .i64 i', .string s', .slice oL' nL' cL', .slice oK' nK' cK', .int .i64 t1', .int .i64 t2', .bool x'] 27)).heap.size = w.heap.size + 2) := by simp [Hid]
  generalize (w.alloc _).alloc _ = W0 at *
  obtain ⟨k0, k1, k2, k3⟩ := HC
  obtain ⟨N, hN⟩ : ∃ N, N = W0.heap.size := ⟨_, rfl⟩
  have S0 := held_at hN
  have l0 : w.heap.size < N := by have := HZ.out; omega
  have l1 : w.heap.size + 1 < N := by have := HZ.out; omega
  have HN := Lib.hid hN
  clear hN
  go_region_held3 (fun W => (∀ b o, b < N → W.cell? ⟨b, o, none⟩ = W0.cell? ⟨b, o, none⟩) ∧ Hid (Below N W0 W) ∧ Hid (N ≤ W.heap.size))
    (first | assumption | with_reducible exact held_next (by assumption) (by assumption))
    (first
      | (go_at_call 84; (with_reducible refine (C.out.1 _).mono ?_); rintro e W ⟨rfl, b⟩)
      | (go_at_call 84; (with_reducible refine (C.out.2 _).mono ?_); rintro e W ⟨rfl, b⟩)
      | (go_at_call 83; (with_reducible refine (cmp_83 _ _ _).mono ?_); rintro e W ⟨rfl, rfl⟩))
  go_wp2
  go_ret
  rename_i hH
  exact ⟨(ret_int HX.out.symm : Ending.returned (.int .i64 _) = _), HB.out.trans (hH.2.1.out.mono (by rw [HN.out]; exact HB.out.size))⟩
end Go.Proofs.Ytfgkkccgecnchaa

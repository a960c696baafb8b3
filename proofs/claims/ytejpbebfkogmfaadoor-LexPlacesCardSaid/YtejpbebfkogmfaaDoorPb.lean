/- Tokens that came in: Same, the reference's SameTok. -/
import Derived.Test.YtejpbebfkogmfaaDoorPa
namespace Go.Proofs.YtejpbebfkogmfaaDoor
open Go.RowKit

/-- a token that came in -/
structure TA where
  k : Int
  s : ByteArray
  n : Int
  a : Int
  l : Int
  c : Int
  o : Option Addr
  cap : Nat
  ps : List PA
abbrev tav (x : TA) : Value := .agg #[.int .i64 x.k, .string x.s, .int .i64 x.n, .slice x.o x.ps.length x.cap, .int .i64 x.a, .int .i64 x.l, .int .i64 x.c]
abbrev tac (x : TA) : Array Value := #[.int .i64 x.k, .string x.s, .int .i64 x.n, .slice x.o x.ps.length x.cap, .int .i64 x.a, .int .i64 x.l, .int .i64 x.c]
def EqT (A B : TA) : Prop := A.k = B.k ∧ A.s = B.s ∧ A.n = B.n ∧ A.a = B.a ∧ A.l = B.l ∧ A.c = B.c ∧ A.ps = B.ps
def TellsB (w : World) (P : Prop) (e : Ending) (w' : World) : Prop := ∃ b : Bool, e = .returned (.bool b) ∧ (b = true ↔ P) ∧ Below w.heap.size w w'
theorem tellsB_no {w w' : World} {P : Prop} {e : Ending} (he : e = .returned (.bool false)) (h : ¬ P) (hw : Below w.heap.size w w') : TellsB w P e w' := ⟨false, he, by simp [h], hw⟩
theorem tellsB_yes {w w' : World} {P : Prop} {e : Ending} (he : e = .returned (.bool true)) (h : P) (hw : Below w.heap.size w w') : TellsB w P e w' := ⟨true, he, by simp [h], hw⟩
theorem below2 (w : World) (o o' : Obj) : Below w.heap.size w ((w.alloc o).alloc o') := ((Below.refl _ _).alloc (Nat.le_refl _) _).alloc (by simp) _
set_option maxRecDepth 100000 in
set_option maxHeartbeats 4000000 in
theorem same_any {w : World} {A B : TA} (PA' : PR w.heap.size w A.o A.cap A.ps) (PB : PR w.heap.size w B.o B.cap B.ps) : Calls Tryd.prog 10 #[tav A, tav B] w (TellsB w (EqT A B)) := by
  have hb := below2 w (.cells (tac A) 26) (.cells (tac B) 26)
  have C := Lib.hid (equal17 (PA'.kept hb) (PB.kept hb))
  have HB := Lib.hid hb
  clear hb PA' PB
  by_cases h0 : A.k = B.k
  case neg =>
    have HX : Hid (¬ EqT A B) := fun h => h0 h.1
    have e0 : (A.k == B.k) = false := beq_eq_false_iff_ne.2 h0
    have en0 : (A.k != B.k) = true := by rw [bne, e0]; rfl
    clear h0
    go_enter Tryd.func10, Tryd.ntmps10
    go_wp2_with fail
    go_ret
    exact tellsB_no rfl HX.out HB.out
  by_cases h1 : A.s = B.s
  case neg =>
    have HX : Hid (¬ EqT A B) := fun h => h1 h.2.1
    have e0 : (A.k == B.k) = true := by simp [h0]
    have en0 : (A.k != B.k) = false := by rw [bne, e0]; rfl
    have e1 : (A.s.toList == B.s.toList) = false := str_ne h1
    have en1 : (A.s.toList != B.s.toList) = true := by rw [bne, e1]; rfl
    clear h0 h1
    go_enter Tryd.func10, Tryd.ntmps10
    go_wp2_with fail
    go_ret
    exact tellsB_no rfl HX.out HB.out
  by_cases h2 : A.n = B.n
  case neg =>
    have HX : Hid (¬ EqT A B) := fun h => h2 h.2.2.1
    have e0 : (A.k == B.k) = true := by simp [h0]
    have en0 : (A.k != B.k) = false := by rw [bne, e0]; rfl
    have e1 : (A.s.toList == B.s.toList) = true := str_eq h1
    have en1 : (A.s.toList != B.s.toList) = false := by rw [bne, e1]; rfl
    have e2 : (A.n == B.n) = false := beq_eq_false_iff_ne.2 h2
    have en2 : (A.n != B.n) = true := by rw [bne, e2]; rfl
    clear h0 h1 h2
    go_enter Tryd.func10, Tryd.ntmps10
    go_wp2_with fail
    go_ret
    exact tellsB_no rfl HX.out HB.out
  by_cases h3 : A.a = B.a
  case neg =>
    have HX : Hid (¬ EqT A B) := fun h => h3 h.2.2.2.1
    have e0 : (A.k == B.k) = true := by simp [h0]
    have en0 : (A.k != B.k) = false := by rw [bne, e0]; rfl
    have e1 : (A.s.toList == B.s.toList) = true := str_eq h1
    have en1 : (A.s.toList != B.s.toList) = false := by rw [bne, e1]; rfl
    have e2 : (A.n == B.n) = true := by simp [h2]
    have en2 : (A.n != B.n) = false := by rw [bne, e2]; rfl
    have e3 : (A.a == B.a) = false := beq_eq_false_iff_ne.2 h3
    have en3 : (A.a != B.a) = true := by rw [bne, e3]; rfl
    clear h0 h1 h2 h3
    go_enter Tryd.func10, Tryd.ntmps10
    go_wp2_with fail
    go_ret
    exact tellsB_no rfl HX.out HB.out
  by_cases h4 : A.l = B.l
  case neg =>
    have HX : Hid (¬ EqT A B) := fun h => h4 h.2.2.2.2.1
    have e0 : (A.k == B.k) = true := by simp [h0]
    have en0 : (A.k != B.k) = false := by rw [bne, e0]; rfl
    have e1 : (A.s.toList == B.s.toList) = true := str_eq h1
    have en1 : (A.s.toList != B.s.toList) = false := by rw [bne, e1]; rfl
    have e2 : (A.n == B.n) = true := by simp [h2]
    have en2 : (A.n != B.n) = false := by rw [bne, e2]; rfl
    have e3 : (A.a == B.a) = true := by simp [h3]
    have en3 : (A.a != B.a) = false := by rw [bne, e3]; rfl
    have e4 : (A.l == B.l) = false := beq_eq_false_iff_ne.2 h4
    have en4 : (A.l != B.l) = true := by rw [bne, e4]; rfl
    clear h0 h1 h2 h3 h4
    go_enter Tryd.func10, Tryd.ntmps10
    go_wp2_with fail
    go_ret
    exact tellsB_no rfl HX.out HB.out
  by_cases h5 : A.c = B.c
  case neg =>
    have HX : Hid (¬ EqT A B) := fun h => h5 h.2.2.2.2.2.1
    have e0 : (A.k == B.k) = true := by simp [h0]
    have en0 : (A.k != B.k) = false := by rw [bne, e0]; rfl
    have e1 : (A.s.toList == B.s.toList) = true := str_eq h1
    have en1 : (A.s.toList != B.s.toList) = false := by rw [bne, e1]; rfl
    have e2 : (A.n == B.n) = true := by simp [h2]
    have en2 : (A.n != B.n) = false := by rw [bne, e2]; rfl
    have e3 : (A.a == B.a) = true := by simp [h3]
    have en3 : (A.a != B.a) = false := by rw [bne, e3]; rfl
    have e4 : (A.l == B.l) = true := by simp [h4]
    have en4 : (A.l != B.l) = false := by rw [bne, e4]; rfl
    have e5 : (A.c == B.c) = false := beq_eq_false_iff_ne.2 h5
    have en5 : (A.c != B.c) = true := by rw [bne, e5]; rfl
    clear h0 h1 h2 h3 h4 h5
    go_enter Tryd.func10, Tryd.ntmps10
    go_wp2_with fail
    go_ret
    exact tellsB_no rfl HX.out HB.out
  case pos =>
    have HX : Hid (A.ps = B.ps ↔ EqT A B) := ⟨fun h => ⟨h0, h1, h2, h3, h4, h5, h⟩, fun h => h.2.2.2.2.2.2⟩
    have e0 : (A.k == B.k) = true := by simp [h0]
    have en0 : (A.k != B.k) = false := by rw [bne, e0]; rfl
    have e1 : (A.s.toList == B.s.toList) = true := str_eq h1
    have en1 : (A.s.toList != B.s.toList) = false := by rw [bne, e1]; rfl
    have e2 : (A.n == B.n) = true := by simp [h2]
    have en2 : (A.n != B.n) = false := by rw [bne, e2]; rfl
    have e3 : (A.a == B.a) = true := by simp [h3]
    have en3 : (A.a != B.a) = false := by rw [bne, e3]; rfl
    have e4 : (A.l == B.l) = true := by simp [h4]
    have en4 : (A.l != B.l) = false := by rw [bne, e4]; rfl
    have e5 : (A.c == B.c) = true := by simp [h5]
    have en5 : (A.c != B.c) = false := by rw [bne, e5]; rfl
    clear h0 h1 h2 h3 h4 h5
    go_enter Tryd.func10, Tryd.ntmps10
    go_wp2_with fail
    refine C.out.mono ?_
    rintro e w1 ⟨b, rfl, hb, q, rfl⟩
    have HQ := Lib.hid hb
    clear hb
    go_wp2_with fail
    go_ret
    exact ⟨b, rfl, HQ.out.trans HX.out, below_drewN HB.out q⟩
set_option maxRecDepth 100000 in
set_option maxHeartbeats 4000000 in
theorem rsame_any {w : World} {A B : TA} (PA' : PR w.heap.size w A.o A.cap A.ps) (PB : PR w.heap.size w B.o B.cap B.ps) : Calls Tryd.prog 11 #[tav A, tav B] w (TellsB w (EqT A B)) := by
  obtain ⟨N, hN⟩ : ∃ N, N = w.heap.size := ⟨_, rfl⟩
  obtain ⟨w0, hw0⟩ : ∃ w0, w0 = (w.alloc (.cells (tac A) 26)).alloc (.cells (tac B) 26) := ⟨_, rfl⟩
  have hb : Below N w w0 := by rw [hw0, hN]; exact below2 w _ _
  have ra : w0.heap[N]? = some (.cells (tac A) 26 (0, 0)) := by
    rw [hw0, hN]; exact ((Below.refl (w.heap.size + 1) (w.alloc _)).alloc (by simp) _).block _ (Nat.lt_succ_self _) |>.trans (heap_alloc_new w _)
  have rb : w0.heap[N + 1]? = some (.cells (tac B) 26 (0, 0)) := by
    have := heap_alloc_new (w.alloc (.cells (tac A) 26)) (.cells (tac B) 26)
    rw [show (w.alloc (.cells (tac A) 26)).heap.size = N + 1 by simp [hN]] at this
    rw [hw0]; exact this
  rw [← hN] at PA' PB
  have HPA := Lib.hid (PA'.kept hb)
  have HPB := Lib.hid (PB.kept hb)
  have HB := Lib.hid hb
  have HNs : Hid (∀ w', Below N w w' → Below w.heap.size w w') := fun w' h => by rw [← hN]; exact h
  have FNO : Hid (∀ w', ¬ EqT A B → Below N w w' → TellsB w (EqT A B) (.returned (.bool false)) w') := fun w' h1 h2 => tellsB_no rfl h1 (by rw [← hN]; exact h2)
  have FYES : Hid (∀ w', EqT A B → Below N w w' → TellsB w (EqT A B) (.returned (.bool true)) w') := fun w' h1 h2 => tellsB_yes rfl h1 (by rw [← hN]; exact h2)
  obtain ⟨⟨a0, a1, a2, a3, a4, a5, a6⟩, -, la⟩ := rc7 ra
  obtain ⟨⟨b0, b1, b2, b3, b4, b5, b6⟩, -, lb'⟩ := rc7 rb
  have l1 := PA'.le
  have l2 := PA'.cm
  have l3 := PB.le
  have l4 := PB.cm
  unfold maxLen at l2 l4
  clear PA' PB hb ra rb HNs
  by_cases h0 : A.k = B.k
  case neg =>
    have HX : Hid (¬ EqT A B) := fun h => h0 h.1
    have e0 : (A.k == B.k) = false := beq_eq_false_iff_ne.2 h0
    have en0 : (A.k != B.k) = true := by rw [bne, e0]; rfl
    clear h0
    go_enter Tryd.func11, Tryd.ntmps11
    go_upto_region 1 with fail
    rw [← hw0, ← hN]
    clear hw0 hN
    go_wp2_with fail
    go_ret
    exact FNO.out _ HX.out HB.out
  by_cases h1 : A.s = B.s
  case neg =>
    have HX : Hid (¬ EqT A B) := fun h => h1 h.2.1
    have e0 : (A.k == B.k) = true := by simp [h0]
    have en0 : (A.k != B.k) = false := by rw [bne, e0]; rfl
    have e1 : (A.s.toList == B.s.toList) = false := str_ne h1
    have en1 : (A.s.toList != B.s.toList) = true := by rw [bne, e1]; rfl
    clear h0 h1
    go_enter Tryd.func11, Tryd.ntmps11
    go_upto_region 1 with fail
    rw [← hw0, ← hN]
    clear hw0 hN
    go_wp2_with fail
    go_ret
    exact FNO.out _ HX.out HB.out
  by_cases h2 : A.n = B.n
  case neg =>
    have HX : Hid (¬ EqT A B) := fun h => h2 h.2.2.1
    have e0 : (A.k == B.k) = true := by simp [h0]
    have en0 : (A.k != B.k) = false := by rw [bne, e0]; rfl
    have e1 : (A.s.toList == B.s.toList) = true := str_eq h1
    have en1 : (A.s.toList != B.s.toList) = false := by rw [bne, e1]; rfl
    have e2 : (A.n == B.n) = false := beq_eq_false_iff_ne.2 h2
    have en2 : (A.n != B.n) = true := by rw [bne, e2]; rfl
    clear h0 h1 h2
    go_enter Tryd.func11, Tryd.ntmps11
    go_upto_region 1 with fail
    rw [← hw0, ← hN]
    clear hw0 hN
    go_wp2_with fail
    go_ret
    exact FNO.out _ HX.out HB.out
  by_cases h3 : A.a = B.a
  case neg =>
    have HX : Hid (¬ EqT A B) := fun h => h3 h.2.2.2.1
    have e0 : (A.k == B.k) = true := by simp [h0]
    have en0 : (A.k != B.k) = false := by rw [bne, e0]; rfl
    have e1 : (A.s.toList == B.s.toList) = true := str_eq h1
    have en1 : (A.s.toList != B.s.toList) = false := by rw [bne, e1]; rfl
    have e2 : (A.n == B.n) = true := by simp [h2]
    have en2 : (A.n != B.n) = false := by rw [bne, e2]; rfl
    have e3 : (A.a == B.a) = false := beq_eq_false_iff_ne.2 h3
    have en3 : (A.a != B.a) = true := by rw [bne, e3]; rfl
    clear h0 h1 h2 h3
    go_enter Tryd.func11, Tryd.ntmps11
    go_upto_region 1 with fail
    rw [← hw0, ← hN]
    clear hw0 hN
    go_wp2_with fail
    go_ret
    exact FNO.out _ HX.out HB.out
  by_cases h4 : A.l = B.l
  case neg =>
    have HX : Hid (¬ EqT A B) := fun h => h4 h.2.2.2.2.1
    have e0 : (A.k == B.k) = true := by simp [h0]
    have en0 : (A.k != B.k) = false := by rw [bne, e0]; rfl
    have e1 : (A.s.toList == B.s.toList) = true := str_eq h1
    have en1 : (A.s.toList != B.s.toList) = false := by rw [bne, e1]; rfl
    have e2 : (A.n == B.n) = true := by simp [h2]
    have en2 : (A.n != B.n) = false := by rw [bne, e2]; rfl
    have e3 : (A.a == B.a) = true := by simp [h3]
    have en3 : (A.a != B.a) = false := by rw [bne, e3]; rfl
    have e4 : (A.l == B.l) = false := beq_eq_false_iff_ne.2 h4
    have en4 : (A.l != B.l) = true := by rw [bne, e4]; rfl
    clear h0 h1 h2 h3 h4
    go_enter Tryd.func11, Tryd.ntmps11
    go_upto_region 1 with fail
    rw [← hw0, ← hN]
    clear hw0 hN
    go_wp2_with fail
    go_ret
    exact FNO.out _ HX.out HB.out
  by_cases h5 : A.c = B.c
  case neg =>
    have HX : Hid (¬ EqT A B) := fun h => h5 h.2.2.2.2.2.1
    have e0 : (A.k == B.k) = true := by simp [h0]
    have en0 : (A.k != B.k) = false := by rw [bne, e0]; rfl
    have e1 : (A.s.toList == B.s.toList) = true := str_eq h1
    have en1 : (A.s.toList != B.s.toList) = false := by rw [bne, e1]; rfl
    have e2 : (A.n == B.n) = true := by simp [h2]
    have en2 : (A.n != B.n) = false := by rw [bne, e2]; rfl
    have e3 : (A.a == B.a) = true := by simp [h3]
    have en3 : (A.a != B.a) = false := by rw [bne, e3]; rfl
    have e4 : (A.l == B.l) = true := by simp [h4]
    have en4 : (A.l != B.l) = false := by rw [bne, e4]; rfl
    have e5 : (A.c == B.c) = false := beq_eq_false_iff_ne.2 h5
    have en5 : (A.c != B.c) = true := by rw [bne, e5]; rfl
    clear h0 h1 h2 h3 h4 h5
    go_enter Tryd.func11, Tryd.ntmps11
    go_upto_region 1 with fail
    rw [← hw0, ← hN]
    clear hw0 hN
    go_wp2_with fail
    go_ret
    exact FNO.out _ HX.out HB.out
  by_cases h6 : A.ps.length = B.ps.length
  case neg =>
    have HX : Hid (¬ EqT A B) := fun h => h6 (by rw [h.2.2.2.2.2.2])
    have e0 : (A.k == B.k) = true := by simp [h0]
    have en0 : (A.k != B.k) = false := by rw [bne, e0]; rfl
    have e1 : (A.s.toList == B.s.toList) = true := str_eq h1
    have en1 : (A.s.toList != B.s.toList) = false := by rw [bne, e1]; rfl
    have e2 : (A.n == B.n) = true := by simp [h2]
    have en2 : (A.n != B.n) = false := by rw [bne, e2]; rfl
    have e3 : (A.a == B.a) = true := by simp [h3]
    have en3 : (A.a != B.a) = false := by rw [bne, e3]; rfl
    have e4 : (A.l == B.l) = true := by simp [h4]
    have en4 : (A.l != B.l) = false := by rw [bne, e4]; rfl
    have e5 : (A.c == B.c) = true := by simp [h5]
    have en5 : (A.c != B.c) = false := by rw [bne, e5]; rfl
    have e6 : ((A.ps.length : Int) != (B.ps.length : Int)) = true := by rw [bne_iff_ne]; omega
    clear h0 h1 h2 h3 h4 h5 h6
    go_enter Tryd.func11, Tryd.ntmps11
    go_upto_region 1 with fail
    rw [← hw0, ← hN]
    clear hw0 hN
    go_wp2_with fail
    go_ret
    exact FNO.out _ HX.out HB.out
  case pos =>
    have HX : Hid (A.ps = B.ps ↔ EqT A B) := ⟨fun h => ⟨h0, h1, h2, h3, h4, h5, h⟩, fun h => h.2.2.2.2.2.2⟩
    have e0 : (A.k == B.k) = true := by simp [h0]
    have en0 : (A.k != B.k) = false := by rw [bne, e0]; rfl
    have e1 : (A.s.toList == B.s.toList) = true := str_eq h1
    have en1 : (A.s.toList != B.s.toList) = false := by rw [bne, e1]; rfl
    have e2 : (A.n == B.n) = true := by simp [h2]
    have en2 : (A.n != B.n) = false := by rw [bne, e2]; rfl
    have e3 : (A.a == B.a) = true := by simp [h3]
    have en3 : (A.a != B.a) = false := by rw [bne, e3]; rfl
    have e4 : (A.l == B.l) = true := by simp [h4]
    have en4 : (A.l != B.l) = false := by rw [bne, e4]; rfl
    have e5 : (A.c == B.c) = true := by simp [h5]
    have en5 : (A.c != B.c) = false := by rw [bne, e5]; rfl
    obtain ⟨m, hm⟩ : ∃ m, A.ps.length = m := ⟨_, rfl⟩
    have hm' : B.ps.length = m := by omega
    have HM := Lib.hid hm
    have HM' := Lib.hid hm'
    rw [hm] at a3 l1
    rw [hm'] at b3 l3
    clear h0 h1 h2 h3 h4 h5 h6 hm hm'
    go_enter Tryd.func11, Tryd.ntmps11
    go_upto_region 1 with fail
    rw [← hw0, ← hN]
    clear hw0 hN
    go_wp2_with fail
    go_loopw [5] (fun x wr => ∃ k q : Nat, k ≤ m ∧ x = .int .i64 (k : Int) ∧ wr = w0.drewN q ∧ Hid (∀ j, j < k → A.ps[j]? = B.ps[j]?)) (fun x _ => m - (intOf x).toNat)
    case atStart => exact ⟨0, 0, Nat.zero_le _, rfl, rfl, fun j hj => by omega⟩
    case round =>
      obtain ⟨k, q, hk, rfl, rfl, HJ⟩ := hrel
      by_cases hlt : k < m
      · have hlt' : (k : Int) < m := by omega
        obtain ⟨X, hX⟩ : ∃ X, A.ps[k]? = some X := ⟨_, List.getElem?_eq_getElem (by have := HM.out; omega)⟩
        obtain ⟨Y, hY⟩ : ∃ Y, B.ps[k]? = some Y := ⟨_, List.getElem?_eq_getElem (by have := HM'.out; omega)⟩
        obtain ⟨ba, off, eo, hbn, x0, x1, x2, x3, x4⟩ := HPA.out.el k X hX
        obtain ⟨bb, off', eo', hbn', y0, y1, y2, y3, y4⟩ := HPB.out.el k Y hY
        rw [eo] at a3
        rw [eo'] at b3
        have HNE : Hid (X ≠ Y → ¬ EqT A B) := fun h h2 => h (by rw [HX.out.2 h2, hY] at hX; injection hX with hX; exact hX.symm)
        have HEQ : Hid (X = Y → ∀ j, j < k + 1 → A.ps[j]? = B.ps[j]?) := fun h j hj => by
          rcases Nat.lt_succ_iff_lt_or_eq.1 hj with h1 | rfl
          · exact HJ.out j h1
          · rw [hX, hY, h]
        clear hX hY eo eo'
        by_cases g0 : X.ex = Y.ex
        case neg =>
          have HXY : Hid (X ≠ Y) := fun h => g0 (by rw [h])
          have f0 : (X.ex == Y.ex) = false := beq_eq_false_iff_ne.2 g0
          have fn0 : (X.ex != Y.ex) = true := by rw [bne, f0]; rfl
          clear g0
          go_wp2_with fail
          go_quiet (fail)
          go_wp2_with fail
          go_ret
          exact FNO.out _ (HNE.out HXY.out) (below_drewN (below_drewN HB.out _) _)
        by_cases g1 : X.s = Y.s
        case neg =>
          have HXY : Hid (X ≠ Y) := fun h => g1 (by rw [h])
          have f0 : (X.ex == Y.ex) = true := by simp [g0]
          have fn0 : (X.ex != Y.ex) = false := by rw [bne, f0]; rfl
          have f1 : (X.s.toList == Y.s.toList) = false := str_ne g1
          have fn1 : (X.s.toList != Y.s.toList) = true := by rw [bne, f1]; rfl
          clear g0 g1
          go_wp2_with fail
          go_quiet (fail)
          go_wp2_with fail
          go_ret
          exact FNO.out _ (HNE.out HXY.out) (below_drewN (below_drewN HB.out _) _)
        by_cases g2 : X.a = Y.a
        case neg =>
          have HXY : Hid (X ≠ Y) := fun h => g2 (by rw [h])
          have f0 : (X.ex == Y.ex) = true := by simp [g0]
          have fn0 : (X.ex != Y.ex) = false := by rw [bne, f0]; rfl
          have f1 : (X.s.toList == Y.s.toList) = true := str_eq g1
          have fn1 : (X.s.toList != Y.s.toList) = false := by rw [bne, f1]; rfl
          have f2 : (X.a == Y.a) = false := beq_eq_false_iff_ne.2 g2
          have fn2 : (X.a != Y.a) = true := by rw [bne, f2]; rfl
          clear g0 g1 g2
          go_wp2_with fail
          go_quiet (fail)
          go_wp2_with fail
          go_ret
          exact FNO.out _ (HNE.out HXY.out) (below_drewN (below_drewN HB.out _) _)
        by_cases g3 : X.l = Y.l
        case neg =>
          have HXY : Hid (X ≠ Y) := fun h => g3 (by rw [h])
          have f0 : (X.ex == Y.ex) = true := by simp [g0]
          have fn0 : (X.ex != Y.ex) = false := by rw [bne, f0]; rfl
          have f1 : (X.s.toList == Y.s.toList) = true := str_eq g1
          have fn1 : (X.s.toList != Y.s.toList) = false := by rw [bne, f1]; rfl
          have f2 : (X.a == Y.a) = true := by simp [g2]
          have fn2 : (X.a != Y.a) = false := by rw [bne, f2]; rfl
          have f3 : (X.l == Y.l) = false := beq_eq_false_iff_ne.2 g3
          have fn3 : (X.l != Y.l) = true := by rw [bne, f3]; rfl
          clear g0 g1 g2 g3
          go_wp2_with fail
          go_quiet (fail)
          go_wp2_with fail
          go_ret
          exact FNO.out _ (HNE.out HXY.out) (below_drewN (below_drewN HB.out _) _)
        by_cases g4 : X.c = Y.c
        case neg =>
          have HXY : Hid (X ≠ Y) := fun h => g4 (by rw [h])
          have f0 : (X.ex == Y.ex) = true := by simp [g0]
          have fn0 : (X.ex != Y.ex) = false := by rw [bne, f0]; rfl
          have f1 : (X.s.toList == Y.s.toList) = true := str_eq g1
          have fn1 : (X.s.toList != Y.s.toList) = false := by rw [bne, f1]; rfl
          have f2 : (X.a == Y.a) = true := by simp [g2]
          have fn2 : (X.a != Y.a) = false := by rw [bne, f2]; rfl
          have f3 : (X.l == Y.l) = true := by simp [g3]
          have fn3 : (X.l != Y.l) = false := by rw [bne, f3]; rfl
          have f4 : (X.c == Y.c) = false := beq_eq_false_iff_ne.2 g4
          have fn4 : (X.c != Y.c) = true := by rw [bne, f4]; rfl
          clear g0 g1 g2 g3 g4
          go_wp2_with fail
          go_quiet (fail)
          go_wp2_with fail
          go_ret
          exact FNO.out _ (HNE.out HXY.out) (below_drewN (below_drewN HB.out _) _)
        case pos =>
          have HXY : Hid (X = Y) := PA.ext' g0 g1 g2 g3 g4
          have f0 : (X.ex == Y.ex) = true := by simp [g0]
          have fn0 : (X.ex != Y.ex) = false := by rw [bne, f0]; rfl
          have f1 : (X.s.toList == Y.s.toList) = true := str_eq g1
          have fn1 : (X.s.toList != Y.s.toList) = false := by rw [bne, f1]; rfl
          have f2 : (X.a == Y.a) = true := by simp [g2]
          have fn2 : (X.a != Y.a) = false := by rw [bne, f2]; rfl
          have f3 : (X.l == Y.l) = true := by simp [g3]
          have fn3 : (X.l != Y.l) = false := by rw [bne, f3]; rfl
          have f4 : (X.c == Y.c) = true := by simp [g4]
          have fn4 : (X.c != Y.c) = false := by rw [bne, f4]; rfl
          clear g0 g1 g2 g3 g4
          go_wp2_with fail
          go_quiet (fail)
          go_wp2_with fail
          go_roundw
          case rel => exact ⟨k + 1, _, by omega, by go_num, rfl, HEQ.out HXY.out⟩
          case measure => simp [intOf]; omega
      · have hlt' : ¬ (k : Int) < m := by omega
        have HE : Hid (EqT A B) := by
          refine HX.out.1 ?_
          apply List.ext_getElem?
          intro j
          rcases Nat.lt_or_ge j k with h | h
          · exact HJ.out j h
          · rw [List.getElem?_eq_none (by have := HM.out; omega), List.getElem?_eq_none (by have := HM'.out; omega)]
        go_wp2_with fail
        go_ret
        exact FYES.out _ HE.out (below_drewN HB.out _)
end Go.Proofs.YtejpbebfkogmfaaDoor

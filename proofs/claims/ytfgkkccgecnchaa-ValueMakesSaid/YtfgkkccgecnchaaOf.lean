/- TypeOf, of any value. -/
import Derived.Test.YtfgkkccgecnchaaOe
namespace Go.Proofs.Ytfgkkccgecnchaa
open Go.RowKit

set_option maxRecDepth 100000 in
set_option maxHeartbeats 2000000 in
theorem typeOf_1 (i : Int) (s : ByteArray) (oL oK : Option Addr) (nL nK cL cK : Nat) (t1 t2 : Int) (x : Bool) (w : World) :
    Calls Try.prog 27 #[vv 1 i s (.slice oL nL cL) (.slice oK nK cK) t1 t2 x] w fun e w' => e = .returned (Typ.ty 1 0) ∧ Below w.heap.size w w' := by
  go_enter Try.func27, Try.ntmps27
  go_wp2_with fail
  exact bodyPost_ret (v := Typ.ty 1 0) (by simp [results, Try.results27, go_sem]) rfl ⟨rfl, below22 _ _ _⟩
set_option maxRecDepth 100000 in
set_option maxHeartbeats 2000000 in
theorem typeOf_2 (i : Int) (s : ByteArray) (oL oK : Option Addr) (nL nK cL cK : Nat) (t1 t2 : Int) (x : Bool) (w : World) :
    Calls Try.prog 27 #[vv 2 i s (.slice oL nL cL) (.slice oK nK cK) t1 t2 x] w fun e w' => e = .returned (Typ.ty 2 0) ∧ Below w.heap.size w w' := by
  go_enter Try.func27, Try.ntmps27
  go_wp2_with fail
  exact bodyPost_ret (v := Typ.ty 2 0) (by simp [results, Try.results27, go_sem]) rfl ⟨rfl, below22 _ _ _⟩
set_option maxRecDepth 100000 in
set_option maxHeartbeats 2000000 in
theorem typeOf_3 (i : Int) (s : ByteArray) (oL oK : Option Addr) (nL nK cL cK : Nat) (t1 t2 : Int) (x : Bool) (w : World) :
    Calls Try.prog 27 #[vv 3 i s (.slice oL nL cL) (.slice oK nK cK) t1 t2 x] w fun e w' => e = .returned (Typ.ty 3 0) ∧ Below w.heap.size w w' := by
  go_enter Try.func27, Try.ntmps27
  go_wp2_with fail
  exact bodyPost_ret (v := Typ.ty 3 0) (by simp [results, Try.results27, go_sem]) rfl ⟨rfl, below22 _ _ _⟩
set_option maxRecDepth 100000 in
set_option maxHeartbeats 2000000 in
theorem typeOf_6 (i : Int) (s : ByteArray) (oL oK : Option Addr) (nL nK cL cK : Nat) (t1 t2 : Int) (x : Bool) (w : World) :
    Calls Try.prog 27 #[vv 6 i s (.slice oL nL cL) (.slice oK nK cK) t1 t2 x] w fun e w' => e = .returned (Typ.ty t1 t2) ∧ Below w.heap.size w w' := by
  go_enter Try.func27, Try.ntmps27
  go_wp2_with fail
  exact bodyPost_ret (v := Typ.ty t1 t2) (by simp [results, Try.results27, go_sem]) rfl ⟨rfl, below22 _ _ _⟩
set_option maxRecDepth 100000 in
set_option maxHeartbeats 2000000 in
theorem typeOf_o (q : Int) (i : Int) (s : ByteArray) (oL oK : Option Addr) (nL nK cL cK : Nat) (t1 t2 : Int) (x : Bool) (w : World) (e1 : (q == 1) = false) (e2 : (q == 2) = false) (e3 : (q == 3) = false) (e4 : (q == 4) = false) (e5 : (q == 5) = false) (e6 : (q == 6) = false) :
    Calls Try.prog 27 #[vv q i s (.slice oL nL cL) (.slice oK nK cK) t1 t2 x] w fun e w' => e = .returned (Typ.ty 0 0) ∧ Below w.heap.size w w' := by
  go_enter Try.func27, Try.ntmps27
  go_wp2_with fail
  exact bodyPost_ret (v := Typ.ty 0 0) (by simp [results, Try.results27, go_sem]) rfl ⟨rfl, below22 _ _ _⟩
set_option maxRecDepth 100000 in
set_option maxHeartbeats 2000000 in
theorem typeOf_4 (i : Int) (s : ByteArray) (oL oK : Option Addr) (nL nK cL cK : Nat) (t1 t2 : Int) (x : Bool) (w : World) (R : Int) (hE : ∀ w', Below w.heap.size w w' → Calls Try.prog 61 #[vv 4 i s (.slice oL nL cL) (.slice oK nK cK) t1 t2 x] w' fun e w2 => e = .returned (.int .i64 R) ∧ Below w'.heap.size w' w2) :
    Calls Try.prog 27 #[vv 4 i s (.slice oL nL cL) (.slice oK nK cK) t1 t2 x] w fun e w' => e = .returned (Typ.ty 4 R) ∧ Below w.heap.size w w' := by
  have HE := Lib.hid hE
  clear hE
  have HT : Hid (Tb ((w.alloc (.cells #[.int .i64 4, .int .i64 i, .string s, .slice oL nL cL, .slice oK nK cK, .int .i64 t1, .int .i64 t2, .bool x] 27)).alloc (.cells #[.int .i64 0, .int .i64 0] 25)) (w.heap.size + 1) 0 0) := by
    have := heap_alloc_new (w.alloc (.cells #[.int .i64 4, .int .i64 i, .string s, .slice oL nL cL, .slice oK nK cK, .int .i64 t1, .int .i64 t2, .bool x] 27)) (.cells #[.int .i64 0, .int .i64 0] 25)
    rw [World.size_alloc] at this; exact this
  have HZ : Hid (((w.alloc (.cells #[.int .i64 4, .int .i64 i, .string s, .slice oL nL cL, .slice oK nK cK, .int .i64 t1, .int .i64 t2, .bool x] 27)).alloc (.cells #[.int .i64 0, .int .i64 0] 25)).heap.size = w.heap.size + 2) := by simp [Hid]
  have HW := Lib.hid (below22 w (.cells #[.int .i64 4, .int .i64 i, .string s, .slice oL nL cL, .slice oK nK cK, .int .i64 t1, .int .i64 t2, .bool x] 27) (.cells #[.int .i64 0, .int .i64 0] 25))
  go_enter Try.func27, Try.ntmps27
  go_wp2_with fail
  generalize (w.alloc _).alloc _ = w0 at *
  refine (HE.out _ HW.out).mono ?_
  rintro e w1 ⟨rfl, b1⟩
  have hz := HZ.out
  have T1 := HT.out.keep b1 (by omega)
  obtain ⟨p0, p1, p2, p3⟩ := T1.cells
  have T2 := Lib.hid (T1.set 4 R)
  have B := Lib.hid (((HW.out.trans (b1.mono (by omega))).setCell (p := ⟨w.heap.size + 1, 0, none⟩) (by simp) (.int .i64 4)).setCell (p := ⟨w.heap.size + 1, 1, none⟩) (by simp) (.int .i64 R))
  clear b1 T1 hz
  go_wp2_with fail
  clear p0 p1 p2 p3
  generalize World.setCell (World.setCell _ _ _) _ _ = w2 at *
  obtain ⟨p0, p1, p2, p3⟩ := T2.out.cells
  exact bodyPost_ret (v := Typ.ty 4 R) (by simp [results, Try.results27, go_sem, p0, p1]) rfl ⟨rfl, B.out⟩
set_option maxRecDepth 100000 in
set_option maxHeartbeats 2000000 in
theorem typeOf_5 (i : Int) (s : ByteArray) (oL oK : Option Addr) (nL nK cL cK : Nat) (t1 t2 : Int) (x : Bool) (w : World) (R : Int) (hE : ∀ w', Below w.heap.size w w' → Calls Try.prog 61 #[vv 5 i s (.slice oL nL cL) (.slice oK nK cK) t1 t2 x] w' fun e w2 => e = .returned (.int .i64 R) ∧ Below w'.heap.size w' w2) :
    Calls Try.prog 27 #[vv 5 i s (.slice oL nL cL) (.slice oK nK cK) t1 t2 x] w fun e w' => e = .returned (Typ.ty 5 R) ∧ Below w.heap.size w w' := by
  have HE := Lib.hid hE
  clear hE
  have HT : Hid (Tb ((w.alloc (.cells #[.int .i64 5, .int .i64 i, .string s, .slice oL nL cL, .slice oK nK cK, .int .i64 t1, .int .i64 t2, .bool x] 27)).alloc (.cells #[.int .i64 0, .int .i64 0] 25)) (w.heap.size + 1) 0 0) := by
    have := heap_alloc_new (w.alloc (.cells #[.int .i64 5, .int .i64 i, .string s, .slice oL nL cL, .slice oK nK cK, .int .i64 t1, .int .i64 t2, .bool x] 27)) (.cells #[.int .i64 0, .int .i64 0] 25)
    rw [World.size_alloc] at this; exact this
  have HZ : Hid (((w.alloc (.cells #[.int .i64 5, .int .i64 i, .string s, .slice oL nL cL, .slice oK nK cK, .int .i64 t1, .int .i64 t2, .bool x] 27)).alloc (.cells #[.int .i64 0, .int .i64 0] 25)).heap.size = w.heap.size + 2) := by simp [Hid]
  have HW := Lib.hid (below22 w (.cells #[.int .i64 5, .int .i64 i, .string s, .slice oL nL cL, .slice oK nK cK, .int .i64 t1, .int .i64 t2, .bool x] 27) (.cells #[.int .i64 0, .int .i64 0] 25))
  go_enter Try.func27, Try.ntmps27
  go_wp2_with fail
  generalize (w.alloc _).alloc _ = w0 at *
  refine (HE.out _ HW.out).mono ?_
  rintro e w1 ⟨rfl, b1⟩
  have hz := HZ.out
  have T1 := HT.out.keep b1 (by omega)
  obtain ⟨p0, p1, p2, p3⟩ := T1.cells
  have T2 := Lib.hid (T1.set 5 R)
  have B := Lib.hid (((HW.out.trans (b1.mono (by omega))).setCell (p := ⟨w.heap.size + 1, 0, none⟩) (by simp) (.int .i64 5)).setCell (p := ⟨w.heap.size + 1, 1, none⟩) (by simp) (.int .i64 R))
  clear b1 T1 hz
  go_wp2_with fail
  clear p0 p1 p2 p3
  generalize World.setCell (World.setCell _ _ _) _ _ = w2 at *
  obtain ⟨p0, p1, p2, p3⟩ := T2.out.cells
  exact bodyPost_ret (v := Typ.ty 5 R) (by simp [results, Try.results27, go_sem, p0, p1]) rfl ⟨rfl, B.out⟩
def tyRaw (q t1 t2 R : Int) : Typ.Ty := if q = 1 ∨ q = 2 ∨ q = 3 then (q, 0) else if q = 4 ∨ q = 5 then (q, R) else if q = 6 then (t1, t2) else (0, 0)
theorem typeOf_any (N : Nat) : ∀ (n : Nat) (V : Val) (v : Value) (w : World), sz V ≤ N → Lies n w V v → n ≤ w.heap.size → Calls Try.prog 27 #[v] w fun e w' => e = .returned (Typ.ty (typeOf V).1 (typeOf V).2) ∧ Below w.heap.size w w' := by
  induction N with
  | zero => intro n V v w hs; have := sz_pos V; omega
  | succ N ih =>
    intro n V v w hs h hn
    have hE : ∀ w', Below w.heap.size w w' → Calls Try.prog 61 #[v] w' fun e w2 => e = .returned (.int .i64 (tyEl V)) ∧ Below w'.heap.size w' w2 :=
      fun w' bl => tyEl_any N ih n V v w' hs (h.kept (bl.mono hn)) (by have := bl.size; omega)
    rw [show typeOf V = tyRaw V.k V.tk V.to (tyEl V) from typeOf_eq V]
    obtain ⟨oL, oK, cL, cK, c, rfl, O⟩ := h.inv
    clear ih h O
    generalize tyEl V = R at *
    generalize V.k = q at *
    rcases kindsO q with rfl | rfl | rfl | rfl | rfl | rfl | ⟨e1, e2, e3, e4, e5, e6⟩
    · exact typeOf_1 _ _ _ _ _ _ _ _ _ _ _ _
    · exact typeOf_2 _ _ _ _ _ _ _ _ _ _ _ _
    · exact typeOf_3 _ _ _ _ _ _ _ _ _ _ _ _
    · exact typeOf_4 _ _ _ _ _ _ _ _ _ _ _ _ R hE
    · exact typeOf_5 _ _ _ _ _ _ _ _ _ _ _ _ R hE
    · exact typeOf_6 _ _ _ _ _ _ _ _ _ _ _ _
    · have : tyRaw q V.tk V.to R = (0, 0) := by simp only [beq_eq_false_iff_ne] at *; simp [tyRaw, *]
      rw [this]
      exact typeOf_o q _ _ _ _ _ _ _ _ _ _ _ _ e1 e2 e3 e4 e5 e6
end Go.Proofs.Ytfgkkccgecnchaa

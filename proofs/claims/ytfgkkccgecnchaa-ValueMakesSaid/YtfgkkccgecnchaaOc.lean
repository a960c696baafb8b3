/- Refines. -/
import Derived.Test.YtfgkkccgecnchaaOb
import Derived.Test.YtfgkkccgecnchaaY
namespace Go.Proofs.Ytfgkkccgecnchaa
open Go.RowKit

theorem kindsO (k : Int) : k = 1 ∨ k = 2 ∨ k = 3 ∨ k = 4 ∨ k = 5 ∨ k = 6 ∨ ((k == 1) = false ∧ (k == 2) = false ∧ (k == 3) = false ∧ (k == 4) = false ∧ (k == 5) = false ∧ (k == 6) = false) := by
  simp only [beq_eq_false_iff_ne]; omega
theorem ord_any (N : Nat) : ∀ (n : Nat) (A B : Val) (a b : Value) (w : World), sz A + sz B ≤ N → Lies n w A a → Lies n w B b → n ≤ w.heap.size → Calls Try.prog 57 #[a, b] w fun e w' => e = .returned (.int .i64 (ord A B)) ∧ Below w.heap.size w w' := by
  induction N with
  | zero => intro n A B a b w hs; have := sz_pos A; omega
  | succ N ih =>
    intro n A B a b w hs ha hb hn
    have hE : A.k = B.k → ∀ w', Below w.heap.size w w' → Calls Try.prog 82 #[a, b] w' fun e w2 => e = .returned (.int .i64 (ordE A B)) ∧ Below w'.heap.size w' w2 :=
      fun hk w' bl => ordEl_any N ih n A B a b w' hs hk (ha.kept (bl.mono hn)) (hb.kept (bl.mono hn)) (by have := bl.size; omega)
    rw [show ord A B = ordRaw A.k B.k A.i B.i A.s B.s A.tk A.to B.tk B.to (ordE A B) from ord_eq A B]
    obtain ⟨oL, oK, cL, cK, c, rfl, O⟩ := ha.inv
    obtain ⟨oL', oK', cL', cK', c', rfl, O'⟩ := hb.inv
    clear ih ha hb O O'
    generalize ordE A B = R at *
    generalize A.k = q at *
    generalize B.k = p at *
    by_cases hne : q = p
    · subst hne
      have hE := hE rfl
      rcases kindsO q with rfl | rfl | rfl | rfl | rfl | rfl | ⟨e1, e2, e3, e4, e5, e6⟩
      · exact order_1 _ _ _ _ _ _ _ _ _ _ _ _ _ _ _ _ _ _ _ _ _ _ _ _
      · exact order_2 _ _ _ _ _ _ _ _ _ _ _ _ _ _ _ _ _ _ _ _ _ _ _ _
      · exact order_3 _ _ _ _ _ _ _ _ _ _ _ _ _ _ _ _ _ _ _ _ _ _ _ _
      · exact order_4 _ _ _ _ _ _ _ _ _ _ _ _ _ _ _ _ _ _ _ _ _ _ _ _ hE
      · exact order_5 _ _ _ _ _ _ _ _ _ _ _ _ _ _ _ _ _ _ _ _ _ _ _ _ hE
      · exact order_6 _ _ _ _ _ _ _ _ _ _ _ _ _ _ _ _ _ _ _ _ _ _ _ _
      · exact order_o _ _ _ _ _ _ _ _ _ _ _ _ _ _ _ _ _ _ _ _ _ _ _ _ _ e1 e2 e3 e4 e5 e6
    · exact order_ne q p _ _ _ _ _ _ _ _ _ _ _ _ _ _ _ _ _ _ _ _ _ _ _ _ hne
/-- the keys that count -/
def keysH (V : Val) : List ByteArray := V.ks.take (cntK V)
theorem cntK_le (V : Val) : cntK V ≤ V.ks.length := by unfold cntK cnt; split <;> (try split) <;> (try split) <;> omega
theorem keysH_len (V : Val) : (keysH V).length = cntK V := by unfold keysH; rw [List.length_take]; have := cntK_le V; omega
theorem RowP.keysH {P : Nat → Prop} {w : World} {o : Option Addr} {cap : Nat} {V : Val} (h : RowP P w o cap (cntK V) 1 (fun j _ => .string (V.ks.getD j default))) : RowP P w o cap (keysH V).length 1 (fun j _ => .string ((Go.Proofs.Ytfgkkccgecnchaa.keysH V).getD j default)) := by
  rw [keysH_len]
  obtain ⟨h1, h2, h3, h4⟩ := h
  refine ⟨h1, h2, h3, fun h0 => ?_⟩
  obtain ⟨b, off, e, hb, hc⟩ := h4 h0
  refine ⟨b, off, e, hb, fun j hj m hm => (hc j hj m hm).trans ?_⟩
  unfold Go.Proofs.Ytfgkkccgecnchaa.keysH
  simp only [List.getD_eq_getElem?_getD]
  rw [List.getElem?_take_of_lt hj]
/-- the elements of one, each as what it is alike, and those of the other -/
def eqLF : List (Val → Bool) → List Val → Bool
  | [], [] => true
  | f :: x, b :: y => f b && eqLF x y
  | _, _ => false
theorem eqLF_map (r : Val → Val → Bool) : ∀ x y, eqLF (x.map r) y = eqL r x y
  | [], [] => rfl
  | [], _ :: _ => rfl
  | _ :: _, [] => rfl
  | a :: x, b :: y => by rw [List.map_cons, eqLF, eqL, eqLF_map r x y]
/-- A refines B -/
def refV (A B : Val) : Bool :=
  if B.k = 6 then fits A B.tk B.to else if A.k ≠ B.k then false else if A.k = 0 ∨ A.k = 1 ∨ A.k = 2 ∨ A.k = 3 then decide (ord A B = 0) else
  if A.k = 5 then eqK (keysH A) (keysH B) && eqLF ((els A).attach.map fun x => fun Y => refV x.1 Y) (els B) else if A.k = 4 then eqLF ((els A).attach.map fun x => fun Y => refV x.1 Y) (els B) else false
termination_by SizeOf.sizeOf A
decreasing_by all_goals exact sizeOf_mem_l (els_mem x.2)
def refRaw (q p : Int) (F : Bool) (o : Int) (K E : Bool) : Bool :=
  if p = 6 then F else if q ≠ p then false else if q = 0 ∨ q = 1 ∨ q = 2 ∨ q = 3 then decide (o = 0) else if q = 5 then K && E else if q = 4 then E else false
theorem refV_eq (A B : Val) : refV A B = refRaw A.k B.k (fits A B.tk B.to) (ord A B) (eqK (keysH A) (keysH B)) (eqL refV (els A) (els B)) := by
  rw [refV]
  have : ((els A).attach.map fun x => fun Y => refV x.1 Y) = (els A).map refV := by
    rw [show (fun x : { x // x ∈ els A } => fun Y => refV x.1 Y) = fun x => refV x.1 from rfl]
    simp
  rw [this, eqLF_map]
  rfl
set_option maxRecDepth 100000 in
set_option maxHeartbeats 2000000 in
theorem refines_6 (q : Int) (i : Int) (s : ByteArray) (oL oK : Option Addr) (nL nK cL cK : Nat) (t1 t2 : Int) (x : Bool) (i' : Int) (s' : ByteArray) (oL' oK' : Option Addr) (nL' nK' cL' cK' : Nat) (t1' t2' : Int) (x' : Bool) (w : World) (F : Bool) (hF : ∀ w', Below w.heap.size w w' → Calls Try.prog 55 #[vv q i s (.slice oL nL cL) (.slice oK nK cK) t1 t2 x, Typ.ty t1' t2'] w' fun e w2 => e = .returned (.bool F) ∧ Below w'.heap.size w' w2) :
    Calls Try.prog 24 #[vv q i s (.slice oL nL cL) (.slice oK nK cK) t1 t2 x, vv 6 i' s' (.slice oL' nL' cL') (.slice oK' nK' cK') t1' t2' x'] w fun e w' => e = .returned (.bool F) ∧ Below w.heap.size w w' := by
  have HF := Lib.hid hF
  clear hF
  go_enter Try.func24, Try.ntmps24
  go_wp2_with fail
  refine (HF.out _ (below22 _ _ _)).mono ?_
  rintro e w1 ⟨rfl, b1⟩
  have B := Lib.hid ((below22 _ _ _).trans (b1.mono (by simp; omega)))
  clear b1
  go_wp2_with fail
  go_ret
  exact ⟨rfl, B.out⟩
set_option maxRecDepth 100000 in
set_option maxHeartbeats 2000000 in
theorem refines_ne (q p : Int) (i : Int) (s : ByteArray) (oL oK : Option Addr) (nL nK cL cK : Nat) (t1 t2 : Int) (x : Bool) (i' : Int) (s' : ByteArray) (oL' oK' : Option Addr) (nL' nK' cL' cK' : Nat) (t1' t2' : Int) (x' : Bool) (w : World) (hp : p ≠ 6) (h : q ≠ p) :
    Calls Try.prog 24 #[vv q i s (.slice oL nL cL) (.slice oK nK cK) t1 t2 x, vv p i' s' (.slice oL' nL' cL') (.slice oK' nK' cK') t1' t2' x'] w fun e w' => e = .returned (.bool false) ∧ Below w.heap.size w w' := by
  have g0 : (p == 6) = false := by rw [beq_eq_false_iff_ne]; exact hp
  have g1 : (q != p) = true := by simpa using h
  clear hp h
  go_enter Try.func24, Try.ntmps24
  go_wp2_with fail
  go_ret
  exact ⟨rfl, below22 _ _ _⟩
/-- block b is these cells -/
def Wr (w : World) (b : Nat) (cs : Array Value) : Prop := w.heap[b]? = some (.cells cs 27 (0, 0))
theorem wr8 {w w' : World} {b m : Nat} {a0 a1 a2 a3 a4 a5 a6 a7 : Value} (h : Wr w b #[a0, a1, a2, a3, a4, a5, a6, a7]) (e : Below m w w') (hb : b < m) :
    w'.cell? ⟨b, 0, none⟩ = some a0 ∧ w'.cell? ⟨b, 1, none⟩ = some a1 ∧ w'.cell? ⟨b, 2, none⟩ = some a2 ∧ w'.cell? ⟨b, 3, none⟩ = some a3 ∧ w'.cell? ⟨b, 4, none⟩ = some a4 ∧ w'.cell? ⟨b, 5, none⟩ = some a5 ∧ w'.cell? ⟨b, 6, none⟩ = some a6 ∧ w'.cell? ⟨b, 7, none⟩ = some a7 := by
  have h2 : w'.heap[b]? = some (.cells #[a0, a1, a2, a3, a4, a5, a6, a7] 27 (0, 0)) := (e.block b hb).trans h
  refine ⟨?_, ?_, ?_, ?_, ?_, ?_, ?_, ?_⟩ <;> rw [cell_of_row w' b _ _ 27 (0, 0) h2] <;> rfl
set_option maxRecDepth 100000 in
set_option maxHeartbeats 2000000 in
theorem refines_0 (i : Int) (s : ByteArray) (oL oK : Option Addr) (nL nK cL cK : Nat) (t1 t2 : Int) (x : Bool) (i' : Int) (s' : ByteArray) (oL' oK' : Option Addr) (nL' nK' cL' cK' : Nat) (t1' t2' : Int) (x' : Bool) (w : World) (n : Nat) (A B : Val) (ca cb : Nat → Nat → Value) (hn : n ≤ w.heap.size) (hA : ∀ w', Below w.heap.size w w' → Calls Try.prog 56 #[vv 0 i s (.slice oL nL cL) (.slice oK nK cK) t1 t2 x] w' (HeldPost n A ca w')) (hB : ∀ w', Below w.heap.size w w' → Calls Try.prog 56 #[vv 0 i' s' (.slice oL' nL' cL') (.slice oK' nK' cK') t1' t2' x'] w' (HeldPost n B cb w')) (o : Int) (hO : ∀ w', Below w.heap.size w w' → Calls Try.prog 57 #[vv 0 i s (.slice oL nL cL) (.slice oK nK cK) t1 t2 x, vv 0 i' s' (.slice oL' nL' cL') (.slice oK' nK' cK') t1' t2' x'] w' fun e w2 => e = .returned (.int .i64 o) ∧ Below w'.heap.size w' w2) :
    Calls Try.prog 24 #[vv 0 i s (.slice oL nL cL) (.slice oK nK cK) t1 t2 x, vv 0 i' s' (.slice oL' nL' cL') (.slice oK' nK' cK') t1' t2' x'] w fun e w' => e = .returned (.bool (decide (o = 0))) ∧ Below w.heap.size w w' := by
  have HH := Lib.hid (And.intro hA hB)
  have HO := Lib.hid hO
  clear hO
  have HB := Lib.hid (below22 w (.cells #[.int .i64 0, .int .i64 i, .string s, .slice oL nL cL, .slice oK nK cK, .int .i64 t1, .int .i64 t2, .bool x] 27) (.cells #[.int .i64 0, .int .i64 i', .string s', .slice oL' nL' cL', .slice oK' nK' cK', .int .i64 t1', .int .i64 t2', .bool x'] 27))
  have HZ : Hid (((w.alloc (.cells #[.int .i64 0, .int .i64 i, .string s, .slice oL nL cL, .slice oK nK cK, .int .i64 t1, .int .i64 t2, .bool x] 27)).alloc (.cells #[.int .i64 0, .int .i64 i', .string s', .slice oL' nL' cL', .slice oK' nK' cK', .int .i64 t1', .int .i64 t2', .bool x'] 27)).heap.size = w.heap.size + 2) := by simp [Hid]
  have H1 : Hid (Wr ((w.alloc (.cells #[.int .i64 0, .int .i64 i, .string s, .slice oL nL cL, .slice oK nK cK, .int .i64 t1, .int .i64 t2, .bool x] 27)).alloc (.cells #[.int .i64 0, .int .i64 i', .string s', .slice oL' nL' cL', .slice oK' nK' cK', .int .i64 t1', .int .i64 t2', .bool x'] 27)) w.heap.size #[.int .i64 0, .int .i64 i, .string s, .slice oL nL cL, .slice oK nK cK, .int .i64 t1, .int .i64 t2, .bool x]) := (Below.heap_alloc _ _ _ (by simp)).trans (heap_alloc_new w _)
  have H2 : Hid (Wr ((w.alloc (.cells #[.int .i64 0, .int .i64 i, .string s, .slice oL nL cL, .slice oK nK cK, .int .i64 t1, .int .i64 t2, .bool x] 27)).alloc (.cells #[.int .i64 0, .int .i64 i', .string s', .slice oL' nL' cL', .slice oK' nK' cK', .int .i64 t1', .int .i64 t2', .bool x'] 27)) (w.heap.size + 1) #[.int .i64 0, .int .i64 i', .string s', .slice oL' nL' cL', .slice oK' nK' cK', .int .i64 t1', .int .i64 t2', .bool x']) := by
    have := heap_alloc_new (w.alloc (.cells #[.int .i64 0, .int .i64 i, .string s, .slice oL nL cL, .slice oK nK cK, .int .i64 t1, .int .i64 t2, .bool x] 27)) (.cells #[.int .i64 0, .int .i64 i', .string s', .slice oL' nL' cL', .slice oK' nK' cK', .int .i64 t1', .int .i64 t2', .bool x'] 27)
    rw [World.size_alloc] at this; exact this
  clear hA hB
  go_enter Try.func24, Try.ntmps24
  go_wp2_with fail
  generalize (w.alloc _).alloc _ = w0 at *
  refine (HH.out.1 _ HB.out).mono ?_
  rintro e w1 ⟨oL2, oK2, cL2, cK2, rfl, rL, rK, b1⟩
  have R1 := Lib.hid (And.intro rL rK)
  have B1 := Lib.hid b1
  obtain ⟨p0, p1, p2, p3, p4, p5, p6, p7⟩ := wr8 H1.out b1 (by have := HZ.out; omega)
  obtain ⟨v0, v1, v2, v3, v4, v5, v6, v7⟩ := wr8 H2.out b1 (by have := HZ.out; omega)
  clear rL rK b1
  go_wp2_with fail
  refine (HH.out.2 _ (HB.out.trans (B1.out.mono HB.out.size))).mono ?_
  rintro e w2 ⟨oL3, oK3, cL3, cK3, rfl, rL, rK, b2⟩
  have R2 := Lib.hid (And.intro (And.intro (R1.out.1.below (b2.mono (by have := B1.out.size; have := HZ.out; omega))) (R1.out.2.below (b2.mono (by have := B1.out.size; have := HZ.out; omega)))) (And.intro rL rK))
  have B2 := Lib.hid (B1.out.trans (b2.mono B1.out.size))
  have BW := Lib.hid (HB.out.trans (B2.out.mono HB.out.size))
  clear p0 p1 p2 p3 p4 p5 p6 p7 v0 v1 v2 v3 v4 v5 v6 v7 rL rK b2
  obtain ⟨p0, p1, p2, p3, p4, p5, p6, p7⟩ := wr8 H1.out B2.out (by have := HZ.out; omega)
  obtain ⟨v0, v1, v2, v3, v4, v5, v6, v7⟩ := wr8 H2.out B2.out (by have := HZ.out; omega)
  go_wp2_with fail
  refine (HO.out _ BW.out).mono ?_
  rintro e w3 ⟨rfl, b3⟩
  have B3 := Lib.hid (BW.out.trans (b3.mono BW.out.size))
  clear b3
  by_cases ho : o = 0
  · subst ho
    go_wp2_with fail
    go_ret
    exact ⟨rfl, B3.out⟩
  · have g0 : (o == 0) = false := by rw [beq_eq_false_iff_ne]; exact ho
    have HX := Lib.hid (decide_eq_false ho)
    clear ho
    go_wp2_with fail
    go_ret
    exact ⟨by rw [HX.out]; rfl, B3.out⟩
set_option maxRecDepth 100000 in
set_option maxHeartbeats 2000000 in
theorem refines_1 (i : Int) (s : ByteArray) (oL oK : Option Addr) (nL nK cL cK : Nat) (t1 t2 : Int) (x : Bool) (i' : Int) (s' : ByteArray) (oL' oK' : Option Addr) (nL' nK' cL' cK' : Nat) (t1' t2' : Int) (x' : Bool) (w : World) (n : Nat) (A B : Val) (ca cb : Nat → Nat → Value) (hn : n ≤ w.heap.size) (hA : ∀ w', Below w.heap.size w w' → Calls Try.prog 56 #[vv 1 i s (.slice oL nL cL) (.slice oK nK cK) t1 t2 x] w' (HeldPost n A ca w')) (hB : ∀ w', Below w.heap.size w w' → Calls Try.prog 56 #[vv 1 i' s' (.slice oL' nL' cL') (.slice oK' nK' cK') t1' t2' x'] w' (HeldPost n B cb w')) (o : Int) (hO : ∀ w', Below w.heap.size w w' → Calls Try.prog 57 #[vv 1 i s (.slice oL nL cL) (.slice oK nK cK) t1 t2 x, vv 1 i' s' (.slice oL' nL' cL') (.slice oK' nK' cK') t1' t2' x'] w' fun e w2 => e = .returned (.int .i64 o) ∧ Below w'.heap.size w' w2) :
    Calls Try.prog 24 #[vv 1 i s (.slice oL nL cL) (.slice oK nK cK) t1 t2 x, vv 1 i' s' (.slice oL' nL' cL') (.slice oK' nK' cK') t1' t2' x'] w fun e w' => e = .returned (.bool (decide (o = 0))) ∧ Below w.heap.size w w' := by
  have HH := Lib.hid (And.intro hA hB)
  have HO := Lib.hid hO
  clear hO
  have HB := Lib.hid (below22 w (.cells #[.int .i64 1, .int .i64 i, .string s, .slice oL nL cL, .slice oK nK cK, .int .i64 t1, .int .i64 t2, .bool x] 27) (.cells #[.int .i64 1, .int .i64 i', .string s', .slice oL' nL' cL', .slice oK' nK' cK', .int .i64 t1', .int .i64 t2', .bool x'] 27))
  have HZ : Hid (((w.alloc (.cells #[.int .i64 1, .int .i64 i, .string s, .slice oL nL cL, .slice oK nK cK, .int .i64 t1, .int .i64 t2, .bool x] 27)).alloc (.cells #[.int .i64 1, .int .i64 i', .string s', .slice oL' nL' cL', .slice oK' nK' cK', .int .i64 t1', .int .i64 t2', .bool x'] 27)).heap.size = w.heap.size + 2) := by simp [Hid]
  have H1 : Hid (Wr ((w.alloc (.cells #[.int .i64 1, .int .i64 i, .string s, .slice oL nL cL, .slice oK nK cK, .int .i64 t1, .int .i64 t2, .bool x] 27)).alloc (.cells #[.int .i64 1, .int .i64 i', .string s', .slice oL' nL' cL', .slice oK' nK' cK', .int .i64 t1', .int .i64 t2', .bool x'] 27)) w.heap.size #[.int .i64 1, .int .i64 i, .string s, .slice oL nL cL, .slice oK nK cK, .int .i64 t1, .int .i64 t2, .bool x]) := (Below.heap_alloc _ _ _ (by simp)).trans (heap_alloc_new w _)
  have H2 : Hid (Wr ((w.alloc (.cells #[.int .i64 1, .int .i64 i, .string s, .slice oL nL cL, .slice oK nK cK, .int .i64 t1, .int .i64 t2, .bool x] 27)).alloc (.cells #[.int .i64 1, .int .i64 i', .string s', .slice oL' nL' cL', .slice oK' nK' cK', .int .i64 t1', .int .i64 t2', .bool x'] 27)) (w.heap.size + 1) #[.int .i64 1, .int .i64 i', .string s', .slice oL' nL' cL', .slice oK' nK' cK', .int .i64 t1', .int .i64 t2', .bool x']) := by
    have := heap_alloc_new (w.alloc (.cells #[.int .i64 1, .int .i64 i, .string s, .slice oL nL cL, .slice oK nK cK, .int .i64 t1, .int .i64 t2, .bool x] 27)) (.cells #[.int .i64 1, .int .i64 i', .string s', .slice oL' nL' cL', .slice oK' nK' cK', .int .i64 t1', .int .i64 t2', .bool x'] 27)
    rw [World.size_alloc] at this; exact this
  clear hA hB
  go_enter Try.func24, Try.ntmps24
  go_wp2_with fail
  generalize (w.alloc _).alloc _ = w0 at *
  refine (HH.out.1 _ HB.out).mono ?_
  rintro e w1 ⟨oL2, oK2, cL2, cK2, rfl, rL, rK, b1⟩
  have R1 := Lib.hid (And.intro rL rK)
  have B1 := Lib.hid b1
  obtain ⟨p0, p1, p2, p3, p4, p5, p6, p7⟩ := wr8 H1.out b1 (by have := HZ.out; omega)
  obtain ⟨v0, v1, v2, v3, v4, v5, v6, v7⟩ := wr8 H2.out b1 (by have := HZ.out; omega)
  clear rL rK b1
  go_wp2_with fail
  refine (HH.out.2 _ (HB.out.trans (B1.out.mono HB.out.size))).mono ?_
  rintro e w2 ⟨oL3, oK3, cL3, cK3, rfl, rL, rK, b2⟩
  have R2 := Lib.hid (And.intro (And.intro (R1.out.1.below (b2.mono (by have := B1.out.size; have := HZ.out; omega))) (R1.out.2.below (b2.mono (by have := B1.out.size; have := HZ.out; omega)))) (And.intro rL rK))
  have B2 := Lib.hid (B1.out.trans (b2.mono B1.out.size))
  have BW := Lib.hid (HB.out.trans (B2.out.mono HB.out.size))
  clear p0 p1 p2 p3 p4 p5 p6 p7 v0 v1 v2 v3 v4 v5 v6 v7 rL rK b2
  obtain ⟨p0, p1, p2, p3, p4, p5, p6, p7⟩ := wr8 H1.out B2.out (by have := HZ.out; omega)
  obtain ⟨v0, v1, v2, v3, v4, v5, v6, v7⟩ := wr8 H2.out B2.out (by have := HZ.out; omega)
  go_wp2_with fail
  refine (HO.out _ BW.out).mono ?_
  rintro e w3 ⟨rfl, b3⟩
  have B3 := Lib.hid (BW.out.trans (b3.mono BW.out.size))
  clear b3
  by_cases ho : o = 0
  · subst ho
    go_wp2_with fail
    go_ret
    exact ⟨rfl, B3.out⟩
  · have g0 : (o == 0) = false := by rw [beq_eq_false_iff_ne]; exact ho
    have HX := Lib.hid (decide_eq_false ho)
    clear ho
    go_wp2_with fail
    go_ret
    exact ⟨by rw [HX.out]; rfl, B3.out⟩
set_option maxRecDepth 100000 in
set_option maxHeartbeats 2000000 in
theorem refines_2 (i : Int) (s : ByteArray) (oL oK : Option Addr) (nL nK cL cK : Nat) (t1 t2 : Int) (x : Bool) (i' : Int) (s' : ByteArray) (oL' oK' : Option Addr) (nL' nK' cL' cK' : Nat) (t1' t2' : Int) (x' : Bool) (w : World) (n : Nat) (A B : Val) (ca cb : Nat → Nat → Value) (hn : n ≤ w.heap.size) (hA : ∀ w', Below w.heap.size w w' → Calls Try.prog 56 #[vv 2 i s (.slice oL nL cL) (.slice oK nK cK) t1 t2 x] w' (HeldPost n A ca w')) (hB : ∀ w', Below w.heap.size w w' → Calls Try.prog 56 #[vv 2 i' s' (.slice oL' nL' cL') (.slice oK' nK' cK') t1' t2' x'] w' (HeldPost n B cb w')) (o : Int) (hO : ∀ w', Below w.heap.size w w' → Calls Try.prog 57 #[vv 2 i s (.slice oL nL cL) (.slice oK nK cK) t1 t2 x, vv 2 i' s' (.slice oL' nL' cL') (.slice oK' nK' cK') t1' t2' x'] w' fun e w2 => e = .returned (.int .i64 o) ∧ Below w'.heap.size w' w2) :
    Calls Try.prog 24 #[vv 2 i s (.slice oL nL cL) (.slice oK nK cK) t1 t2 x, vv 2 i' s' (.slice oL' nL' cL') (.slice oK' nK' cK') t1' t2' x'] w fun e w' => e = .returned (.bool (decide (o = 0))) ∧ Below w.heap.size w w' := by
  have HH := Lib.hid (And.intro hA hB)
  have HO := Lib.hid hO
  clear hO
  have HB := Lib.hid (below22 w (.cells #[.int .i64 2, .int .i64 i, .string s, .slice oL nL cL, .slice oK nK cK, .int .i64 t1, .int .i64 t2, .bool x] 27) (.cells #[.int .i64 2, .int .i64 i', .string s', .slice oL' nL' cL', .slice oK' nK' cK', .int .i64 t1', .int .i64 t2', .bool x'] 27))
  have HZ : Hid (((w.alloc (.cells #[.int .i64 2, .int .i64 i, .string s, .slice oL nL cL, .slice oK nK cK, .int .i64 t1, .int .i64 t2, .bool x] 27)).alloc (.cells #[.int .i64 2, .int .i64 i', .string s', .slice oL' nL' cL', .slice oK' nK' cK', .int .i64 t1', .int .i64 t2', .bool x'] 27)).heap.size = w.heap.size + 2) := by simp [Hid]
  have H1 : Hid (Wr ((w.alloc (.cells #[.int .i64 2, .int .i64 i, .string s, .slice oL nL cL, .slice oK nK cK, .int .i64 t1, .int .i64 t2, .bool x] 27)).alloc (.cells #[.int .i64 2, .int .i64 i', .string s', .slice oL' nL' cL', .slice oK' nK' cK', .int .i64 t1', .int .i64 t2', .bool x'] 27)) w.heap.size #[.int .i64 2, .int .i64 i, .string s, .slice oL nL cL, .slice oK nK cK, .int .i64 t1, .int .i64 t2, .bool x]) := (Below.heap_alloc _ _ _ (by simp)).trans (heap_alloc_new w _)
  have H2 : Hid (Wr ((w.alloc (.cells #[.int .i64 2, .int .i64 i, .string s, .slice oL nL cL, .slice oK nK cK, .int .i64 t1, .int .i64 t2, .bool x] 27)).alloc (.cells #[.int .i64 2, .int .i64 i', .string s', .slice oL' nL' cL', .slice oK' nK' cK', .int .i64 t1', .int .i64 t2', .bool x'] 27)) (w.heap.size + 1) #[.int .i64 2, .int .i64 i', .string s', .slice oL' nL' cL', .slice oK' nK' cK', .int .i64 t1', .int .i64 t2', .bool x']) := by
    have := heap_alloc_new (w.alloc (.cells #[.int .i64 2, .int .i64 i, .string s, .slice oL nL cL, .slice oK nK cK, .int .i64 t1, .int .i64 t2, .bool x] 27)) (.cells #[.int .i64 2, .int .i64 i', .string s', .slice oL' nL' cL', .slice oK' nK' cK', .int .i64 t1', .int .i64 t2', .bool x'] 27)
    rw [World.size_alloc] at this; exact this
  clear hA hB
  go_enter Try.func24, Try.ntmps24
  go_wp2_with fail
  generalize (w.alloc _).alloc _ = w0 at *
  refine (HH.out.1 _ HB.out).mono ?_
  rintro e w1 ⟨oL2, oK2, cL2, cK2, rfl, rL, rK, b1⟩
  have R1 := Lib.hid (And.intro rL rK)
  have B1 := Lib.hid b1
  obtain ⟨p0, p1, p2, p3, p4, p5, p6, p7⟩ := wr8 H1.out b1 (by have := HZ.out; omega)
  obtain ⟨v0, v1, v2, v3, v4, v5, v6, v7⟩ := wr8 H2.out b1 (by have := HZ.out; omega)
  clear rL rK b1
  go_wp2_with fail
  refine (HH.out.2 _ (HB.out.trans (B1.out.mono HB.out.size))).mono ?_
  rintro e w2 ⟨oL3, oK3, cL3, cK3, rfl, rL, rK, b2⟩
  have R2 := Lib.hid (And.intro (And.intro (R1.out.1.below (b2.mono (by have := B1.out.size; have := HZ.out; omega))) (R1.out.2.below (b2.mono (by have := B1.out.size; have := HZ.out; omega)))) (And.intro rL rK))
  have B2 := Lib.hid (B1.out.trans (b2.mono B1.out.size))
  have BW := Lib.hid (HB.out.trans (B2.out.mono HB.out.size))
  clear p0 p1 p2 p3 p4 p5 p6 p7 v0 v1 v2 v3 v4 v5 v6 v7 rL rK b2
  obtain ⟨p0, p1, p2, p3, p4, p5, p6, p7⟩ := wr8 H1.out B2.out (by have := HZ.out; omega)
  obtain ⟨v0, v1, v2, v3, v4, v5, v6, v7⟩ := wr8 H2.out B2.out (by have := HZ.out; omega)
  go_wp2_with fail
  refine (HO.out _ BW.out).mono ?_
  rintro e w3 ⟨rfl, b3⟩
  have B3 := Lib.hid (BW.out.trans (b3.mono BW.out.size))
  clear b3
  by_cases ho : o = 0
  · subst ho
    go_wp2_with fail
    go_ret
    exact ⟨rfl, B3.out⟩
  · have g0 : (o == 0) = false := by rw [beq_eq_false_iff_ne]; exact ho
    have HX := Lib.hid (decide_eq_false ho)
    clear ho
    go_wp2_with fail
    go_ret
    exact ⟨by rw [HX.out]; rfl, B3.out⟩
set_option maxRecDepth 100000 in
set_option maxHeartbeats 2000000 in
theorem refines_3 (i : Int) (s : ByteArray) (oL oK : Option Addr) (nL nK cL cK : Nat) (t1 t2 : Int) (x : Bool) (i' : Int) (s' : ByteArray) (oL' oK' : Option Addr) (nL' nK' cL' cK' : Nat) (t1' t2' : Int) (x' : Bool) (w : World) (n : Nat) (A B : Val) (ca cb : Nat → Nat → Value) (hn : n ≤ w.heap.size) (hA : ∀ w', Below w.heap.size w w' → Calls Try.prog 56 #[vv 3 i s (.slice oL nL cL) (.slice oK nK cK) t1 t2 x] w' (HeldPost n A ca w')) (hB : ∀ w', Below w.heap.size w w' → Calls Try.prog 56 #[vv 3 i' s' (.slice oL' nL' cL') (.slice oK' nK' cK') t1' t2' x'] w' (HeldPost n B cb w')) (o : Int) (hO : ∀ w', Below w.heap.size w w' → Calls Try.prog 57 #[vv 3 i s (.slice oL nL cL) (.slice oK nK cK) t1 t2 x, vv 3 i' s' (.slice oL' nL' cL') (.slice oK' nK' cK') t1' t2' x'] w' fun e w2 => e = .returned (.int .i64 o) ∧ Below w'.heap.size w' w2) :
    Calls Try.prog 24 #[vv 3 i s (.slice oL nL cL) (.slice oK nK cK) t1 t2 x, vv 3 i' s' (.slice oL' nL' cL') (.slice oK' nK' cK') t1' t2' x'] w fun e w' => e = .returned (.bool (decide (o = 0))) ∧ Below w.heap.size w w' := by
  have HH := Lib.hid (And.intro hA hB)
  have HO := Lib.hid hO
  clear hO
  have HB := Lib.hid (below22 w (.cells #[.int .i64 3, .int .i64 i, .string s, .slice oL nL cL, .slice oK nK cK, .int .i64 t1, .int .i64 t2, .bool x] 27) (.cells #[.int .i64 3, .int .i64 i', .string s', .slice oL' nL' cL', .slice oK' nK' cK', .int .i64 t1', .int .i64 t2', .bool x'] 27))
  have HZ : Hid (((w.alloc (.cells #[.int .i64 3, .int .i64 i, .string s, .slice oL nL cL, .slice oK nK cK, .int .i64 t1, .int .i64 t2, .bool x] 27)).alloc (.cells #[.int .i64 3, .int .i64 i', .string s', .slice oL' nL' cL', .slice oK' nK' cK', .int .i64 t1', .int .i64 t2', .bool x'] 27)).heap.size = w.heap.size + 2) := by simp [Hid]
  have H1 : Hid (Wr ((w.alloc (.cells #[.int .i64 3, .int .i64 i, .string s, .slice oL nL cL, .slice oK nK cK, .int .i64 t1, .int .i64 t2, .bool x] 27)).alloc (.cells #[.int .i64 3, .int .i64 i', .string s', .slice oL' nL' cL', .slice oK' nK' cK', .int .i64 t1', .int .i64 t2', .bool x'] 27)) w.heap.size #[.int .i64 3, .int .i64 i, .string s, .slice oL nL cL, .slice oK nK cK, .int .i64 t1, .int .i64 t2, .bool x]) := (Below.heap_alloc _ _ _ (by simp)).trans (heap_alloc_new w _)
  have H2 : Hid (Wr ((w.alloc (.cells #[.int .i64 3, .int .i64 i, .string s, .slice oL nL cL, .slice oK nK cK, .int .i64 t1, .int .i64 t2, .bool x] 27)).alloc (.cells #[.int .i64 3, .int .i64 i', .string s', .slice oL' nL' cL', .slice oK' nK' cK', .int .i64 t1', .int .i64 t2', .bool x'] 27)) (w.heap.size + 1) #[.int .i64 3, .int .i64 i', .string s', .slice oL' nL' cL', .slice oK' nK' cK', .int .i64 t1', .int .i64 t2', .bool x']) := by
    have := heap_alloc_new (w.alloc (.cells #[.int .i64 3, .int .i64 i, .string s, .slice oL nL cL, .slice oK nK cK, .int .i64 t1, .int .i64 t2, .bool x] 27)) (.cells #[.int .i64 3, .int .i64 i', .string s', .slice oL' nL' cL', .slice oK' nK' cK', .int .i64 t1', .int .i64 t2', .bool x'] 27)
    rw [World.size_alloc] at this; exact this
  clear hA hB
  go_enter Try.func24, Try.ntmps24
  go_wp2_with fail
  generalize (w.alloc _).alloc _ = w0 at *
  refine (HH.out.1 _ HB.out).mono ?_
  rintro e w1 ⟨oL2, oK2, cL2, cK2, rfl, rL, rK, b1⟩
  have R1 := Lib.hid (And.intro rL rK)
  have B1 := Lib.hid b1
  obtain ⟨p0, p1, p2, p3, p4, p5, p6, p7⟩ := wr8 H1.out b1 (by have := HZ.out; omega)
  obtain ⟨v0, v1, v2, v3, v4, v5, v6, v7⟩ := wr8 H2.out b1 (by have := HZ.out; omega)
  clear rL rK b1
  go_wp2_with fail
  refine (HH.out.2 _ (HB.out.trans (B1.out.mono HB.out.size))).mono ?_
  rintro e w2 ⟨oL3, oK3, cL3, cK3, rfl, rL, rK, b2⟩
  have R2 := Lib.hid (And.intro (And.intro (R1.out.1.below (b2.mono (by have := B1.out.size; have := HZ.out; omega))) (R1.out.2.below (b2.mono (by have := B1.out.size; have := HZ.out; omega)))) (And.intro rL rK))
  have B2 := Lib.hid (B1.out.trans (b2.mono B1.out.size))
  have BW := Lib.hid (HB.out.trans (B2.out.mono HB.out.size))
  clear p0 p1 p2 p3 p4 p5 p6 p7 v0 v1 v2 v3 v4 v5 v6 v7 rL rK b2
  obtain ⟨p0, p1, p2, p3, p4, p5, p6, p7⟩ := wr8 H1.out B2.out (by have := HZ.out; omega)
  obtain ⟨v0, v1, v2, v3, v4, v5, v6, v7⟩ := wr8 H2.out B2.out (by have := HZ.out; omega)
  go_wp2_with fail
  refine (HO.out _ BW.out).mono ?_
  rintro e w3 ⟨rfl, b3⟩
  have B3 := Lib.hid (BW.out.trans (b3.mono BW.out.size))
  clear b3
  by_cases ho : o = 0
  · subst ho
    go_wp2_with fail
    go_ret
    exact ⟨rfl, B3.out⟩
  · have g0 : (o == 0) = false := by rw [beq_eq_false_iff_ne]; exact ho
    have HX := Lib.hid (decide_eq_false ho)
    clear ho
    go_wp2_with fail
    go_ret
    exact ⟨by rw [HX.out]; rfl, B3.out⟩
set_option maxRecDepth 100000 in
set_option maxHeartbeats 2000000 in
theorem refines_4 (i : Int) (s : ByteArray) (oL oK : Option Addr) (nL nK cL cK : Nat) (t1 t2 : Int) (x : Bool) (i' : Int) (s' : ByteArray) (oL' oK' : Option Addr) (nL' nK' cL' cK' : Nat) (t1' t2' : Int) (x' : Bool) (w : World) (n : Nat) (A B : Val) (ca cb : Nat → Nat → Value) (hn : n ≤ w.heap.size) (hA : ∀ w', Below w.heap.size w w' → Calls Try.prog 56 #[vv 4 i s (.slice oL nL cL) (.slice oK nK cK) t1 t2 x] w' (HeldPost n A ca w')) (hB : ∀ w', Below w.heap.size w w' → Calls Try.prog 56 #[vv 4 i' s' (.slice oL' nL' cL') (.slice oK' nK' cK') t1' t2' x'] w' (HeldPost n B cb w')) (E : Bool) (hE : ∀ w' o1 c1 o2 c2, Below w.heap.size w w' → Row n w' o1 c1 (cnt A) 8 ca → Row n w' o2 c2 (cnt B) 8 cb → Calls Try.prog 59 #[.slice o1 (cnt A) c1, .slice o2 (cnt B) c2, .func (.func 24) #[] #[]] w' fun e w2 => e = .returned (.bool E) ∧ Below w'.heap.size w' w2) :
    Calls Try.prog 24 #[vv 4 i s (.slice oL nL cL) (.slice oK nK cK) t1 t2 x, vv 4 i' s' (.slice oL' nL' cL') (.slice oK' nK' cK') t1' t2' x'] w fun e w' => e = .returned (.bool E) ∧ Below w.heap.size w w' := by
  have HH := Lib.hid (And.intro hA hB)
  have HE := Lib.hid hE
  clear hE
  have HB := Lib.hid (below22 w (.cells #[.int .i64 4, .int .i64 i, .string s, .slice oL nL cL, .slice oK nK cK, .int .i64 t1, .int .i64 t2, .bool x] 27) (.cells #[.int .i64 4, .int .i64 i', .string s', .slice oL' nL' cL', .slice oK' nK' cK', .int .i64 t1', .int .i64 t2', .bool x'] 27))
  have HZ : Hid (((w.alloc (.cells #[.int .i64 4, .int .i64 i, .string s, .slice oL nL cL, .slice oK nK cK, .int .i64 t1, .int .i64 t2, .bool x] 27)).alloc (.cells #[.int .i64 4, .int .i64 i', .string s', .slice oL' nL' cL', .slice oK' nK' cK', .int .i64 t1', .int .i64 t2', .bool x'] 27)).heap.size = w.heap.size + 2) := by simp [Hid]
  have H1 : Hid (Wr ((w.alloc (.cells #[.int .i64 4, .int .i64 i, .string s, .slice oL nL cL, .slice oK nK cK, .int .i64 t1, .int .i64 t2, .bool x] 27)).alloc (.cells #[.int .i64 4, .int .i64 i', .string s', .slice oL' nL' cL', .slice oK' nK' cK', .int .i64 t1', .int .i64 t2', .bool x'] 27)) w.heap.size #[.int .i64 4, .int .i64 i, .string s, .slice oL nL cL, .slice oK nK cK, .int .i64 t1, .int .i64 t2, .bool x]) := (Below.heap_alloc _ _ _ (by simp)).trans (heap_alloc_new w _)
  have H2 : Hid (Wr ((w.alloc (.cells #[.int .i64 4, .int .i64 i, .string s, .slice oL nL cL, .slice oK nK cK, .int .i64 t1, .int .i64 t2, .bool x] 27)).alloc (.cells #[.int .i64 4, .int .i64 i', .string s', .slice oL' nL' cL', .slice oK' nK' cK', .int .i64 t1', .int .i64 t2', .bool x'] 27)) (w.heap.size + 1) #[.int .i64 4, .int .i64 i', .string s', .slice oL' nL' cL', .slice oK' nK' cK', .int .i64 t1', .int .i64 t2', .bool x']) := by
    have := heap_alloc_new (w.alloc (.cells #[.int .i64 4, .int .i64 i, .string s, .slice oL nL cL, .slice oK nK cK, .int .i64 t1, .int .i64 t2, .bool x] 27)) (.cells #[.int .i64 4, .int .i64 i', .string s', .slice oL' nL' cL', .slice oK' nK' cK', .int .i64 t1', .int .i64 t2', .bool x'] 27)
    rw [World.size_alloc] at this; exact this
  clear hA hB
  go_enter Try.func24, Try.ntmps24
  go_wp2_with fail
  generalize (w.alloc _).alloc _ = w0 at *
  refine (HH.out.1 _ HB.out).mono ?_
  rintro e w1 ⟨oL2, oK2, cL2, cK2, rfl, rL, rK, b1⟩
  have R1 := Lib.hid (And.intro rL rK)
  have B1 := Lib.hid b1
  obtain ⟨p0, p1, p2, p3, p4, p5, p6, p7⟩ := wr8 H1.out b1 (by have := HZ.out; omega)
  obtain ⟨v0, v1, v2, v3, v4, v5, v6, v7⟩ := wr8 H2.out b1 (by have := HZ.out; omega)
  clear rL rK b1
  go_wp2_with fail
  refine (HH.out.2 _ (HB.out.trans (B1.out.mono HB.out.size))).mono ?_
  rintro e w2 ⟨oL3, oK3, cL3, cK3, rfl, rL, rK, b2⟩
  have R2 := Lib.hid (And.intro (And.intro (R1.out.1.below (b2.mono (by have := B1.out.size; have := HZ.out; omega))) (R1.out.2.below (b2.mono (by have := B1.out.size; have := HZ.out; omega)))) (And.intro rL rK))
  have B2 := Lib.hid (B1.out.trans (b2.mono B1.out.size))
  have BW := Lib.hid (HB.out.trans (B2.out.mono HB.out.size))
  clear p0 p1 p2 p3 p4 p5 p6 p7 v0 v1 v2 v3 v4 v5 v6 v7 rL rK b2
  obtain ⟨p0, p1, p2, p3, p4, p5, p6, p7⟩ := wr8 H1.out B2.out (by have := HZ.out; omega)
  obtain ⟨v0, v1, v2, v3, v4, v5, v6, v7⟩ := wr8 H2.out B2.out (by have := HZ.out; omega)
  go_wp2_with fail
  refine (HE.out _ _ _ _ _ BW.out R2.out.1.1 R2.out.2.1).mono ?_
  rintro e w3 ⟨rfl, b3⟩
  have B3 := Lib.hid (BW.out.trans (b3.mono BW.out.size))
  clear b3
  go_wp2_with fail
  go_ret
  exact ⟨rfl, B3.out⟩
set_option maxRecDepth 100000 in
set_option maxHeartbeats 2000000 in
theorem refines_5 (i : Int) (s : ByteArray) (oL oK : Option Addr) (nL nK cL cK : Nat) (t1 t2 : Int) (x : Bool) (i' : Int) (s' : ByteArray) (oL' oK' : Option Addr) (nL' nK' cL' cK' : Nat) (t1' t2' : Int) (x' : Bool) (w : World) (n : Nat) (A B : Val) (ca cb : Nat → Nat → Value) (hn : n ≤ w.heap.size) (hA : ∀ w', Below w.heap.size w w' → Calls Try.prog 56 #[vv 5 i s (.slice oL nL cL) (.slice oK nK cK) t1 t2 x] w' (HeldPost n A ca w')) (hB : ∀ w', Below w.heap.size w w' → Calls Try.prog 56 #[vv 5 i' s' (.slice oL' nL' cL') (.slice oK' nK' cK') t1' t2' x'] w' (HeldPost n B cb w')) (K : Bool) (hK : ∀ w' o1 c1 o2 c2, Below w.heap.size w w' → Row n w' o1 c1 (cntK A) 1 (fun j _ => .string (A.ks.getD j default)) → Row n w' o2 c2 (cntK B) 1 (fun j _ => .string (B.ks.getD j default)) → Calls Try.prog 58 #[.slice o1 (cntK A) c1, .slice o2 (cntK B) c2] w' fun e w2 => e = .returned (.bool K) ∧ Below w'.heap.size w' w2) (E : Bool) (hE : ∀ w' o1 c1 o2 c2, Below w.heap.size w w' → Row n w' o1 c1 (cnt A) 8 ca → Row n w' o2 c2 (cnt B) 8 cb → Calls Try.prog 59 #[.slice o1 (cnt A) c1, .slice o2 (cnt B) c2, .func (.func 24) #[] #[]] w' fun e w2 => e = .returned (.bool E) ∧ Below w'.heap.size w' w2) :
    Calls Try.prog 24 #[vv 5 i s (.slice oL nL cL) (.slice oK nK cK) t1 t2 x, vv 5 i' s' (.slice oL' nL' cL') (.slice oK' nK' cK') t1' t2' x'] w fun e w' => e = .returned (.bool (K && E)) ∧ Below w.heap.size w w' := by
  have HH := Lib.hid (And.intro hA hB)
  have HE := Lib.hid (And.intro hE hK)
  clear hE hK
  have HB := Lib.hid (below22 w (.cells #[.int .i64 5, .int .i64 i, .string s, .slice oL nL cL, .slice oK nK cK, .int .i64 t1, .int .i64 t2, .bool x] 27) (.cells #[.int .i64 5, .int .i64 i', .string s', .slice oL' nL' cL', .slice oK' nK' cK', .int .i64 t1', .int .i64 t2', .bool x'] 27))
  have HZ : Hid (((w.alloc (.cells #[.int .i64 5, .int .i64 i, .string s, .slice oL nL cL, .slice oK nK cK, .int .i64 t1, .int .i64 t2, .bool x] 27)).alloc (.cells #[.int .i64 5, .int .i64 i', .string s', .slice oL' nL' cL', .slice oK' nK' cK', .int .i64 t1', .int .i64 t2', .bool x'] 27)).heap.size = w.heap.size + 2) := by simp [Hid]
  have H1 : Hid (Wr ((w.alloc (.cells #[.int .i64 5, .int .i64 i, .string s, .slice oL nL cL, .slice oK nK cK, .int .i64 t1, .int .i64 t2, .bool x] 27)).alloc (.cells #[.int .i64 5, .int .i64 i', .string s', .slice oL' nL' cL', .slice oK' nK' cK', .int .i64 t1', .int .i64 t2', .bool x'] 27)) w.heap.size #[.int .i64 5, .int .i64 i, .string s, .slice oL nL cL, .slice oK nK cK, .int .i64 t1, .int .i64 t2, .bool x]) := (Below.heap_alloc _ _ _ (by simp)).trans (heap_alloc_new w _)
  have H2 : Hid (Wr ((w.alloc (.cells #[.int .i64 5, .int .i64 i, .string s, .slice oL nL cL, .slice oK nK cK, .int .i64 t1, .int .i64 t2, .bool x] 27)).alloc (.cells #[.int .i64 5, .int .i64 i', .string s', .slice oL' nL' cL', .slice oK' nK' cK', .int .i64 t1', .int .i64 t2', .bool x'] 27)) (w.heap.size + 1) #[.int .i64 5, .int .i64 i', .string s', .slice oL' nL' cL', .slice oK' nK' cK', .int .i64 t1', .int .i64 t2', .bool x']) := by
    have := heap_alloc_new (w.alloc (.cells #[.int .i64 5, .int .i64 i, .string s, .slice oL nL cL, .slice oK nK cK, .int .i64 t1, .int .i64 t2, .bool x] 27)) (.cells #[.int .i64 5, .int .i64 i', .string s', .slice oL' nL' cL', .slice oK' nK' cK', .int .i64 t1', .int .i64 t2', .bool x'] 27)
    rw [World.size_alloc] at this; exact this
  clear hA hB
  go_enter Try.func24, Try.ntmps24
  go_wp2_with fail
  generalize (w.alloc _).alloc _ = w0 at *
  refine (HH.out.1 _ HB.out).mono ?_
  rintro e w1 ⟨oL2, oK2, cL2, cK2, rfl, rL, rK, b1⟩
  have R1 := Lib.hid (And.intro rL rK)
  have B1 := Lib.hid b1
  obtain ⟨p0, p1, p2, p3, p4, p5, p6, p7⟩ := wr8 H1.out b1 (by have := HZ.out; omega)
  obtain ⟨v0, v1, v2, v3, v4, v5, v6, v7⟩ := wr8 H2.out b1 (by have := HZ.out; omega)
  clear rL rK b1
  go_wp2_with fail
  refine (HH.out.2 _ (HB.out.trans (B1.out.mono HB.out.size))).mono ?_
  rintro e w2 ⟨oL3, oK3, cL3, cK3, rfl, rL, rK, b2⟩
  have R2 := Lib.hid (And.intro (And.intro (R1.out.1.below (b2.mono (by have := B1.out.size; have := HZ.out; omega))) (R1.out.2.below (b2.mono (by have := B1.out.size; have := HZ.out; omega)))) (And.intro rL rK))
  have B2 := Lib.hid (B1.out.trans (b2.mono B1.out.size))
  have BW := Lib.hid (HB.out.trans (B2.out.mono HB.out.size))
  clear p0 p1 p2 p3 p4 p5 p6 p7 v0 v1 v2 v3 v4 v5 v6 v7 rL rK b2
  obtain ⟨p0, p1, p2, p3, p4, p5, p6, p7⟩ := wr8 H1.out B2.out (by have := HZ.out; omega)
  obtain ⟨v0, v1, v2, v3, v4, v5, v6, v7⟩ := wr8 H2.out B2.out (by have := HZ.out; omega)
  go_wp2_with fail
  refine (HE.out.2 _ _ _ _ _ BW.out R2.out.1.2 R2.out.2.2).mono ?_
  rintro e w3 ⟨rfl, b3⟩
  have B3 := Lib.hid (BW.out.trans (b3.mono BW.out.size))
  have R3 := Lib.hid (And.intro (R2.out.1.1.below (b3.mono (by have := BW.out.size; omega))) (R2.out.2.1.below (b3.mono (by have := BW.out.size; omega))))
  clear b3 p0 p1 p2 p3 p4 p5 p6 p7 v0 v1 v2 v3 v4 v5 v6 v7
  cases K with
  | false =>
    go_wp2_with fail
    go_ret
    exact ⟨rfl, B3.out⟩
  | true =>
    go_wp2_with fail
    refine (HE.out.1 _ _ _ _ _ B3.out R3.out.1 R3.out.2).mono ?_
    rintro e w4 ⟨rfl, b4⟩
    have B4 := Lib.hid (B3.out.trans (b4.mono B3.out.size))
    clear b4
    go_wp2_with fail
    go_ret
    exact ⟨rfl, B4.out⟩
set_option maxRecDepth 100000 in
set_option maxHeartbeats 2000000 in
theorem refines_o (q : Int) (i : Int) (s : ByteArray) (oL oK : Option Addr) (nL nK cL cK : Nat) (t1 t2 : Int) (x : Bool) (i' : Int) (s' : ByteArray) (oL' oK' : Option Addr) (nL' nK' cL' cK' : Nat) (t1' t2' : Int) (x' : Bool) (w : World) (n : Nat) (A B : Val) (ca cb : Nat → Nat → Value) (hn : n ≤ w.heap.size) (hA : ∀ w', Below w.heap.size w w' → Calls Try.prog 56 #[vv q i s (.slice oL nL cL) (.slice oK nK cK) t1 t2 x] w' (HeldPost n A ca w')) (hB : ∀ w', Below w.heap.size w w' → Calls Try.prog 56 #[vv q i' s' (.slice oL' nL' cL') (.slice oK' nK' cK') t1' t2' x'] w' (HeldPost n B cb w')) (e0 : (q == 0) = false) (e1 : (q == 1) = false) (e2 : (q == 2) = false) (e3 : (q == 3) = false) (e4 : (q == 4) = false) (e5 : (q == 5) = false) (e6 : (q == 6) = false) :
    Calls Try.prog 24 #[vv q i s (.slice oL nL cL) (.slice oK nK cK) t1 t2 x, vv q i' s' (.slice oL' nL' cL') (.slice oK' nK' cK') t1' t2' x'] w fun e w' => e = .returned (.bool false) ∧ Below w.heap.size w w' := by
  have HH := Lib.hid (And.intro hA hB)
  have HB := Lib.hid (below22 w (.cells #[.int .i64 q, .int .i64 i, .string s, .slice oL nL cL, .slice oK nK cK, .int .i64 t1, .int .i64 t2, .bool x] 27) (.cells #[.int .i64 q, .int .i64 i', .string s', .slice oL' nL' cL', .slice oK' nK' cK', .int .i64 t1', .int .i64 t2', .bool x'] 27))
  have HZ : Hid (((w.alloc (.cells #[.int .i64 q, .int .i64 i, .string s, .slice oL nL cL, .slice oK nK cK, .int .i64 t1, .int .i64 t2, .bool x] 27)).alloc (.cells #[.int .i64 q, .int .i64 i', .string s', .slice oL' nL' cL', .slice oK' nK' cK', .int .i64 t1', .int .i64 t2', .bool x'] 27)).heap.size = w.heap.size + 2) := by simp [Hid]
  have H1 : Hid (Wr ((w.alloc (.cells #[.int .i64 q, .int .i64 i, .string s, .slice oL nL cL, .slice oK nK cK, .int .i64 t1, .int .i64 t2, .bool x] 27)).alloc (.cells #[.int .i64 q, .int .i64 i', .string s', .slice oL' nL' cL', .slice oK' nK' cK', .int .i64 t1', .int .i64 t2', .bool x'] 27)) w.heap.size #[.int .i64 q, .int .i64 i, .string s, .slice oL nL cL, .slice oK nK cK, .int .i64 t1, .int .i64 t2, .bool x]) := (Below.heap_alloc _ _ _ (by simp)).trans (heap_alloc_new w _)
  have H2 : Hid (Wr ((w.alloc (.cells #[.int .i64 q, .int .i64 i, .string s, .slice oL nL cL, .slice oK nK cK, .int .i64 t1, .int .i64 t2, .bool x] 27)).alloc (.cells #[.int .i64 q, .int .i64 i', .string s', .slice oL' nL' cL', .slice oK' nK' cK', .int .i64 t1', .int .i64 t2', .bool x'] 27)) (w.heap.size + 1) #[.int .i64 q, .int .i64 i', .string s', .slice oL' nL' cL', .slice oK' nK' cK', .int .i64 t1', .int .i64 t2', .bool x']) := by
    have := heap_alloc_new (w.alloc (.cells #[.int .i64 q, .int .i64 i, .string s, .slice oL nL cL, .slice oK nK cK, .int .i64 t1, .int .i64 t2, .bool x] 27)) (.cells #[.int .i64 q, .int .i64 i', .string s', .slice oL' nL' cL', .slice oK' nK' cK', .int .i64 t1', .int .i64 t2', .bool x'] 27)
    rw [World.size_alloc] at this; exact this
  clear hA hB
  go_enter Try.func24, Try.ntmps24
  go_wp2_with fail
  generalize (w.alloc _).alloc _ = w0 at *
  refine (HH.out.1 _ HB.out).mono ?_
  rintro e w1 ⟨oL2, oK2, cL2, cK2, rfl, rL, rK, b1⟩
  have R1 := Lib.hid (And.intro rL rK)
  have B1 := Lib.hid b1
  obtain ⟨p0, p1, p2, p3, p4, p5, p6, p7⟩ := wr8 H1.out b1 (by have := HZ.out; omega)
  obtain ⟨v0, v1, v2, v3, v4, v5, v6, v7⟩ := wr8 H2.out b1 (by have := HZ.out; omega)
  clear rL rK b1
  go_wp2_with fail
  refine (HH.out.2 _ (HB.out.trans (B1.out.mono HB.out.size))).mono ?_
  rintro e w2 ⟨oL3, oK3, cL3, cK3, rfl, rL, rK, b2⟩
  have R2 := Lib.hid (And.intro (And.intro (R1.out.1.below (b2.mono (by have := B1.out.size; have := HZ.out; omega))) (R1.out.2.below (b2.mono (by have := B1.out.size; have := HZ.out; omega)))) (And.intro rL rK))
  have B2 := Lib.hid (B1.out.trans (b2.mono B1.out.size))
  have BW := Lib.hid (HB.out.trans (B2.out.mono HB.out.size))
  clear p0 p1 p2 p3 p4 p5 p6 p7 v0 v1 v2 v3 v4 v5 v6 v7 rL rK b2
  obtain ⟨p0, p1, p2, p3, p4, p5, p6, p7⟩ := wr8 H1.out B2.out (by have := HZ.out; omega)
  obtain ⟨v0, v1, v2, v3, v4, v5, v6, v7⟩ := wr8 H2.out B2.out (by have := HZ.out; omega)
  go_wp2_with fail
  go_ret
  exact ⟨rfl, BW.out⟩
end Go.Proofs.Ytfgkkccgecnchaa

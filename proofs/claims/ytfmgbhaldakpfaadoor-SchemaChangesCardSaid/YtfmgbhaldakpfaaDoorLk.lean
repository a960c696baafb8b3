/- Like. -/
import Derived.Test.YtfmgbhaldakpfaaDoorX
import Derived.Laws.StructEq
namespace Go.Proofs.YtfmgbhaldakpfaaDoor
open Go.RowKit

theorem below22 (w : World) (a b : Obj) : Below w.heap.size w ((w.alloc a).alloc b) := ((Below.refl w.heap.size w).alloc (Nat.le_refl _) a).alloc (by simp) b
def eqLF : List (Val → Bool) → List Val → Bool
  | [], [] => true
  | f :: x, b :: y => f b && eqLF x y
  | _, _ => false
theorem eqLF_map (r : Val → Val → Bool) : ∀ x y, eqLF (x.map r) y = eqL r x y
  | [], [] => rfl
  | [], _ :: _ => rfl
  | _ :: _, [] => rfl
  | a :: x, b :: y => by rw [List.map_cons, eqLF, eqL, eqLF_map r x y]
def ownB (q i : Int) (s : ByteArray) (t1 t2 : Int) (a : List ByteArray) (q' i' : Int) (s' : ByteArray) (t1' t2' : Int) (b : List ByteArray) : Bool :=
  decide (q = q') && decide (i = i') && decide (s = s') && decide (t1 = t1') && decide (t2 = t2') && eqK a b
theorem ret_b4 {a b : Bool} (h : a = b) : Ending.returned (.bool a) = .returned (.bool b) := by rw [h]
set_option maxRecDepth 100000 in
set_option maxHeartbeats 4000000 in
theorem own_raw (q i : Int) (s : ByteArray) (oL oK : Option Addr) (nL cL cK : Nat) (t1 t2 : Int) (x : Bool) (a : List ByteArray) (q' i' : Int) (s' : ByteArray) (oL' oK' : Option Addr) (nL' cL' cK' : Nat) (t1' t2' : Int) (x' : Bool) (b : List ByteArray) (w : World)
    (hK : ∀ w', Below w.heap.size w w' → Calls Tryd.prog 87 #[.slice oK a.length cK, .slice oK' b.length cK'] w' fun e w2 => e = .returned (.bool (eqK a b)) ∧ Below w'.heap.size w' w2) :
    Calls Tryd.prog 80 #[vv q i s (.slice oL nL cL) (.slice oK a.length cK) t1 t2 x, vv q' i' s' (.slice oL' nL' cL') (.slice oK' b.length cK') t1' t2' x'] w fun e w' => e = .returned (.bool (ownB q i s t1 t2 a q' i' s' t1' t2' b)) ∧ Below w.heap.size w w' := by
  have HK := Lib.hid hK
  clear hK
  by_cases h0 : q = q'
  · subst h0
    by_cases h1 : i = i'
    · subst h1
      by_cases h2 : s = s'
      · subst h2
        by_cases h3 : t1 = t1'
        · subst h3
          by_cases h4 : t2 = t2'
          · subst h4
            have HX : Hid (ownB q i s t1 t2 a q i s t1 t2 b = eqK a b) := by simp [Hid, ownB]
            go_enter Tryd.func80, Tryd.ntmps80
            go_wp2_with fail
            refine (HK.out _ (below22 _ _ _)).mono ?_
            rintro e w1 ⟨rfl, b1⟩
            have B1 := Lib.hid ((below22 _ _ _).trans (b1.mono (by simp; omega)))
            clear b1
            go_wp2_with fail
            go_ret
            exact ⟨ret_b4 HX.out.symm, B1.out⟩
          · have HX : Hid (ownB q i s t1 t2 a q i s t1 t2' b = false) := by simp [Hid, ownB, h4]
            have g : (t2 == t2') = false := by rw [beq_eq_false_iff_ne]; exact h4
            clear h4 HK
            go_enter Tryd.func80, Tryd.ntmps80
            go_wp2_with fail
            all_goals
              go_ret
              exact ⟨ret_b4 (by rw [HX.out]), below22 _ _ _⟩
        · have HX : Hid (ownB q i s t1 t2 a q i s t1' t2' b = false) := by simp [Hid, ownB, h3]
          have g : (t1 == t1') = false := by rw [beq_eq_false_iff_ne]; exact h3
          clear h3 HK
          go_enter Tryd.func80, Tryd.ntmps80
          go_wp2_with fail
          all_goals
            go_ret
            exact ⟨ret_b4 (by rw [HX.out]), below22 _ _ _⟩
      · have HX : Hid (ownB q i s t1 t2 a q i s' t1' t2' b = false) := by simp [Hid, ownB, h2]
        obtain ⟨g, g2⟩ := str_ne h2
        clear h2 HK
        go_enter Tryd.func80, Tryd.ntmps80
        go_wp2_with fail
        all_goals
          go_ret
          exact ⟨ret_b4 (by rw [HX.out]), below22 _ _ _⟩
    · have HX : Hid (ownB q i s t1 t2 a q i' s' t1' t2' b = false) := by simp [Hid, ownB, h1]
      have g : (i == i') = false := by rw [beq_eq_false_iff_ne]; exact h1
      clear h1 HK
      go_enter Tryd.func80, Tryd.ntmps80
      go_wp2_with fail
      all_goals
        go_ret
        exact ⟨ret_b4 (by rw [HX.out]), below22 _ _ _⟩
  · have HX : Hid (ownB q i s t1 t2 a q' i' s' t1' t2' b = false) := by simp [Hid, ownB, h0]
    have g : (q == q') = false := by rw [beq_eq_false_iff_ne]; exact h0
    clear h0 HK
    go_enter Tryd.func80, Tryd.ntmps80
    go_wp2_with fail
    all_goals
      go_ret
      exact ⟨ret_b4 (by rw [HX.out]), below22 _ _ _⟩
/-- alike, marks aside -/
def likeV (A B : Val) : Bool := ownB A.k A.i A.s A.tk A.to A.ks B.k B.i B.s B.tk B.to B.ks && eqLF (A.l.attach.map fun x => fun Y => likeV x.1 Y) B.l
termination_by SizeOf.sizeOf A
decreasing_by exact sizeOf_mem_l x.2
theorem likeV_eq (A B : Val) : likeV A B = (ownB A.k A.i A.s A.tk A.to A.ks B.k B.i B.s B.tk B.to B.ks && eqL likeV A.l B.l) := by
  rw [likeV]
  have : (A.l.attach.map fun x => fun Y => likeV x.1 Y) = A.l.map likeV := by
    rw [show (fun x : { x // x ∈ A.l } => fun Y => likeV x.1 Y) = fun x => likeV x.1 from rfl]
    simp
  rw [this, eqLF_map]
theorem lie8 (w : World) (A B : Val) (oL oK oL' oK' : Option Addr) (cL cK cL' cK' : Nat) : Hd ((w.alloc (bx A oL oK cL cK)).alloc (bx B oL' oK' cL' cK')) w.heap.size A (.slice oL A.l.length cL) (.slice oK A.ks.length cK) ∧ Hd ((w.alloc (bx A oL oK cL cK)).alloc (bx B oL' oK' cL' cK')) (w.heap.size + 1) B (.slice oL' B.l.length cL') (.slice oK' B.ks.length cK') :=
  ⟨(Hd.made w A (.slice oL A.l.length cL) (.slice oK A.ks.length cK)).kept ((Below.refl (w.heap.size + 1) _).alloc (by simp) (bx B oL' oK' cL' cK')) (Nat.lt_succ_self _), by have := Hd.made (w.alloc (bx A oL oK cL cK)) B (.slice oL' B.l.length cL') (.slice oK' B.ks.length cK'); rw [World.size_alloc] at this; exact this⟩
set_option maxRecDepth 100000 in
set_option maxHeartbeats 2000000 in
theorem like_any (N : Nat) : ∀ (n : Nat) (A B : Val) (a b : Value) (w : World), sz A + sz B ≤ N → Lies n w A a → Lies n w B b → n ≤ w.heap.size → Calls Tryd.prog 68 #[a, b] w fun e w' => e = .returned (.bool (likeV A B)) ∧ Below w.heap.size w w' := by
  induction N with
  | zero => intro n A B a b w hs; have := sz_pos A; omega
  | succ N ih =>
    intro n A B a b w hs ha hb hn
    have hsA : szL A.l + 1 ≤ sz A := by rw [sz_eq]; omega
    have hsB : szL B.l + 1 ≤ sz B := by rw [sz_eq]; omega
    obtain ⟨oL, oK, cL, cK, c, rfl, O⟩ := ha.inv
    obtain ⟨oL', oK', cL', cK', c', rfl, O'⟩ := hb.inv
    have hO : ∀ w', Below w.heap.size w w' → Calls Tryd.prog 80 #[vv A.k A.i A.s (.slice oL A.l.length cL) (.slice oK A.ks.length cK) A.tk A.to A.x, vv B.k B.i B.s (.slice oL' B.l.length cL') (.slice oK' B.ks.length cK') B.tk B.to B.x] w' fun e w2 => e = .returned (.bool (ownB A.k A.i A.s A.tk A.to A.ks B.k B.i B.s B.tk B.to B.ks)) ∧ Below w'.heap.size w' w2 :=
      fun w' bl => own_raw _ _ _ _ _ _ _ _ _ _ _ _ _ _ _ _ _ _ _ _ _ _ _ _ w' (fun w2 b2 => equal_any ((O.K.below (bl.mono hn)).below (b2.mono (by have := bl.size; omega))) ((O'.K.below (bl.mono hn)).below (b2.mono (by have := bl.size; omega))) (by have := bl.size; have := b2.size; omega))
    have hE : ∀ w', Below w.heap.size w w' → Calls Tryd.prog 81 #[.slice oL A.l.length cL, .slice oL' B.l.length cL', .func (.func 68) #[] #[]] w' fun e w2 => e = .returned (.bool (eqL likeV A.l B.l)) ∧ Below w'.heap.size w' w2 :=
      fun w' bl => equalFunc_28 likeV N ih (n := n) (by omega) (O.L.below (bl.mono hn)) (O'.L.below (bl.mono hn)) (fun j x hx => (O.el j x hx).kept (bl.mono hn)) (fun j x hx => (O'.el j x hx).kept (bl.mono hn)) (by have := bl.size; omega)
    rw [likeV_eq]
    generalize ownB A.k A.i A.s A.tk A.to A.ks B.k B.i B.s B.tk B.to B.ks = P at *
    generalize eqL likeV A.l B.l = Q at *
    have HH := Lib.hid (And.intro hO hE)
    have HB := Lib.hid (lie8 w A B oL oK oL' oK' cL cK cL' cK')
    have HW := Lib.hid (below22 w (bx A oL oK cL cK) (bx B oL' oK' cL' cK'))
    have HZ : Hid (((w.alloc (bx A oL oK cL cK)).alloc (bx B oL' oK' cL' cK')).heap.size = w.heap.size + 2) := by simp [Hid]
    clear ha hb ih O O' hO hE
    go_enter Tryd.func68, Tryd.ntmps68
    go_wp2_with fail
    generalize (w.alloc _).alloc _ = w0 at *
    refine (HH.out.1 _ HW.out).mono ?_
    rintro e w1 ⟨rfl, b1⟩
    have B1 := Lib.hid (HW.out.trans (b1.mono HW.out.size))
    have hz := HZ.out
    obtain ⟨x8, x0, x1, x2, x3, x4, x5, x6, x7⟩ := HB.out.1.kept b1 (by omega)
    obtain ⟨y8, y0, y1, y2, y3, y4, y5, y6, y7⟩ := HB.out.2.kept b1 (by omega)
    clear b1 hz
    cases P with
    | false =>
      go_wp2_with fail
      go_ret
      exact ⟨rfl, B1.out⟩
    | true =>
      go_wp2_with fail
      refine (HH.out.2 _ B1.out).mono ?_
      rintro e w2 ⟨rfl, b2⟩
      have B2 := Lib.hid (B1.out.trans (b2.mono B1.out.size))
      clear b2
      go_wp2_with fail
      go_ret
      exact ⟨rfl, B2.out⟩
end Go.Proofs.YtfmgbhaldakpfaaDoor

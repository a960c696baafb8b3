import Derived.Test.YtncjncacfagldaaGreatDoorYWPV
import Derived.Test.YtncjncacfagldaaGreatDoorYWI
import Derived.Laws.StructEq
import Derived.BigQuiet
import Derived.BigRegion
import Derived.Deep.Cut
namespace Go.Proofs.YtncjncacfagldaaGreatDoor
open Go.RowKit

theorem below22 (w : World) (a b : Obj) : Below w.heap.size w ((w.alloc a).alloc b) := ((Below.refl w.heap.size w).alloc (Nat.le_refl _) a).alloc (by simp) b
def eqLF : List (Val → Bool) → List Val → Bool
 | [], [] => true
 | f :: x, b :: y => f b && eqLF x y
 | _, _ => false
theorem eqLF_map (r : Val → Val → Bool) : ∀ x y, eqLF (x.map r) y = eqL r x y
 | [], [] => rfl
 | [], _ :: _ => rfl
 | _ :: _, [] => rfl
 | a :: x, b :: y => by rw [List.map_cons, eqLF, eqL, eqLF_map r x y]

def ownB (q i : Int) (s : ByteArray) (t1 t2 : Int) (a : List ByteArray) (q' i' : Int) (s' : ByteArray) (t1' t2' : Int) (b : List ByteArray) : Bool :=
 decide (q = q') && decide (i = i') && decide (s = s') && decide (t1 = t1') && decide (t2 = t2') && eqK a b
theorem ret_b4 {a b : Bool} (h : a = b) : Ending.returned (.bool a) = .returned (.bool b) := by rw [h]
set_option maxRecDepth 100000 in
set_option maxHeartbeats 4000000 in
theorem own_raw (q i : Int) (s : ByteArray) (oL oK : Option Addr) (nL cL cK : Nat) (t1 t2 : Int) (x : Bool) (a : List ByteArray) (q' i' : Int) (s' : ByteArray) (oL' oK' : Option Addr) (nL' cL' cK' : Nat) (t1' t2' : Int) (x' : Bool) (b : List ByteArray) (w : World)
 (hK : ∀ w', Below w.heap.size w w' → Calls Tryz.prog 45 #[.slice oK a.length cK, .slice oK' b.length cK'] w' fun e w2 => e = .returned (.bool (eqK a b)) ∧ Below w'.heap.size w' w2) :
 Calls Tryz.prog 129 #[vv q i s (.slice oL nL cL) (.slice oK a.length cK) t1 t2 x, vv q' i' s' (.slice oL' nL' cL') (.slice oK' b.length cK') t1' t2' x'] w fun e w' => e = .returned (.bool (ownB q i s t1 t2 a q' i' s' t1' t2' b)) ∧ Below w.heap.size w w' := by
 have HK := qh hK
 clear hK
 by_cases h0 : q = q'
 · subst h0
   by_cases h1 : i = i'
   · subst h1
     by_cases h2 : s = s'
     · subst h2
       by_cases h3 : t1 = t1'
       · subst h3
         by_cases h4 : t2 = t2'
         · subst h4
           have HX : Hid (ownB q i s t1 t2 a q i s t1 t2 b = eqK a b) := by simp [Hid, ownB]
           go_enter Tryz.func129, Tryz.ntmps129
           go_wp2_with fail
           refine (HK.out _ (below22 _ _ _)).mono ?_
           rintro e w1 ⟨rfl, b1⟩
           have B1 := qh ((below22 _ _ _).trans (b1.mono (by simp; omega)))
           clear b1
           go_wp2_with fail
           go_ret
           exact ⟨ret_b4 HX.out.symm, B1.out⟩
         · have HX : Hid (ownB q i s t1 t2 a q i s t1 t2' b = false) := by simp [Hid, ownB, h4]
           have g : (t2 == t2') = false := by rw [beq_eq_false_iff_ne]; exact h4
           clear h4 HK
           go_enter Tryz.func129, Tryz.ntmps129
           go_wp2_with fail
           all_goals
            go_ret
            exact ⟨ret_b4 (by rw [HX.out]), below22 _ _ _⟩
       · have HX : Hid (ownB q i s t1 t2 a q i s t1' t2' b = false) := by simp [Hid, ownB, h3]
         have g : (t1 == t1') = false := by rw [beq_eq_false_iff_ne]; exact h3
         clear h3 HK
         go_enter Tryz.func129, Tryz.ntmps129
         go_wp2_with fail
         all_goals
          go_ret
          exact ⟨ret_b4 (by rw [HX.out]), below22 _ _ _⟩
     · have HX : Hid (ownB q i s t1 t2 a q i s' t1' t2' b = false) := by simp [Hid, ownB, h2]
       obtain ⟨g, g2⟩ := str_ne h2
       clear h2 HK
       go_enter Tryz.func129, Tryz.ntmps129
       go_wp2_with fail
       all_goals
        go_ret
        exact ⟨ret_b4 (by rw [HX.out]), below22 _ _ _⟩
   · have HX : Hid (ownB q i s t1 t2 a q i' s' t1' t2' b = false) := by simp [Hid, ownB, h1]
     have g : (i == i') = false := by rw [beq_eq_false_iff_ne]; exact h1
     clear h1 HK
     go_enter Tryz.func129, Tryz.ntmps129
     go_wp2_with fail
     all_goals
      go_ret
      exact ⟨ret_b4 (by rw [HX.out]), below22 _ _ _⟩
 · have HX : Hid (ownB q i s t1 t2 a q' i' s' t1' t2' b = false) := by simp [Hid, ownB, h0]
   have g : (q == q') = false := by rw [beq_eq_false_iff_ne]; exact h0
   clear h0 HK
   go_enter Tryz.func129, Tryz.ntmps129
   go_wp2_with fail
   all_goals
    go_ret
    exact ⟨ret_b4 (by rw [HX.out]), below22 _ _ _⟩
theorem lie8 (w : World) (A B : Val) (oL oK oL' oK' : Option Addr) (cL cK cL' cK' : Nat) : Hd ((w.alloc (bx A oL oK cL cK)).alloc (bx B oL' oK' cL' cK')) w.heap.size A (.slice oL A.l.length cL) (.slice oK A.ks.length cK) ∧ Hd ((w.alloc (bx A oL oK cL cK)).alloc (bx B oL' oK' cL' cK')) (w.heap.size + 1) B (.slice oL' B.l.length cL') (.slice oK' B.ks.length cK') :=
 ⟨(Hd.made w A (.slice oL A.l.length cL) (.slice oK A.ks.length cK)).kept ((Below.refl (w.heap.size + 1) _).alloc (by simp) (bx B oL' oK' cL' cK')) (Nat.lt_succ_self _), by have := Hd.made (w.alloc (bx A oL oK cL cK)) B (.slice oL' B.l.length cL') (.slice oK' B.ks.length cK'); rw [World.size_alloc] at this; exact this⟩
def sameV (m : Bool) (A B : Val) : Bool := (!m || (A.x == B.x)) && (ownB A.k A.i A.s A.tk A.to A.ks B.k B.i B.s B.tk B.to B.ks && eqLF (A.l.attach.map fun x => fun Y => sameV m x.1 Y) B.l)
termination_by SizeOf.sizeOf A
decreasing_by exact sizeOf_mem_l x.2
theorem sameV_eq (m : Bool) (A B : Val) : sameV m A B = ((!m || (A.x == B.x)) && (ownB A.k A.i A.s A.tk A.to A.ks B.k B.i B.s B.tk B.to B.ks && eqL (sameV m) A.l B.l)) := by
 rw [sameV]
 have : (A.l.attach.map fun x => fun Y => sameV m x.1 Y) = A.l.map (sameV m) := by
  rw [show (fun x : { x // x ∈ A.l } => fun Y => sameV m x.1 Y) = fun x => sameV m x.1 from rfl]
  simp
 rw [this, eqLF_map]
set_option maxRecDepth 100000 in
set_option maxHeartbeats 2000000 in
theorem same26_any (N : Nat) : ∀ (n : Nat) (A B : Val) (a b : Value) (w : World), sz A + sz B ≤ N → Lies n w A a → Lies n w B b → n ≤ w.heap.size → Calls Tryz.prog 88 #[a, b] w fun e w' => e = .returned (.bool (sameV true A B)) ∧ Below w.heap.size w w' := by
 induction N with
 | zero => intro n A B a b w hs; have := sz_pos A; omega
 | succ N ih =>
   intro n A B a b w hs ha hb hn
   have hsA : szL A.l + 1 ≤ sz A := by rw [sz_eq]; omega
   have hsB : szL B.l + 1 ≤ sz B := by rw [sz_eq]; omega
   obtain ⟨oL, oK, cL, cK, c, rfl, O⟩ := ha.inv
   obtain ⟨oL', oK', cL', cK', c', rfl, O'⟩ := hb.inv
   have hO : ∀ w', Below w.heap.size w w' → Calls Tryz.prog 129 #[vv A.k A.i A.s (.slice oL A.l.length cL) (.slice oK A.ks.length cK) A.tk A.to A.x, vv B.k B.i B.s (.slice oL' B.l.length cL') (.slice oK' B.ks.length cK') B.tk B.to B.x] w' fun e w2 => e = .returned (.bool (ownB A.k A.i A.s A.tk A.to A.ks B.k B.i B.s B.tk B.to B.ks)) ∧ Below w'.heap.size w' w2 :=
    fun w' bl => own_raw _ _ _ _ _ _ _ _ _ _ _ _ _ _ _ _ _ _ _ _ _ _ _ _ w' (fun w2 b2 => equal_any ((O.K.below (bl.mono hn)).below (b2.mono (by have := bl.size; omega))) ((O'.K.below (bl.mono hn)).below (b2.mono (by have := bl.size; omega))) (by have := bl.size; have := b2.size; omega))
   have hE : ∀ w', Below w.heap.size w w' → Calls Tryz.prog 130 #[.slice oL A.l.length cL, .slice oL' B.l.length cL', .func (.func 88) #[] #[]] w' fun e w2 => e = .returned (.bool (eqL (sameV true) A.l B.l)) ∧ Below w'.heap.size w' w2 :=
    fun w' bl => equalFunc_26 (sameV true) N ih (n := n) (by omega) (O.L.below (bl.mono hn)) (O'.L.below (bl.mono hn)) (fun j x hx => (O.el j x hx).kept (bl.mono hn)) (fun j x hx => (O'.el j x hx).kept (bl.mono hn)) (by have := bl.size; omega)
   rw [sameV_eq]
   generalize ownB A.k A.i A.s A.tk A.to A.ks B.k B.i B.s B.tk B.to B.ks = P at *
   generalize eqL (sameV true) A.l B.l = Q at *
   have HH := qh (And.intro hO hE)
   have HB := qh (lie8 w A B oL oK oL' oK' cL cK cL' cK')
   have HW := qh (below22 w (bx A oL oK cL cK) (bx B oL' oK' cL' cK'))
   have HZ : Hid (((w.alloc (bx A oL oK cL cK)).alloc (bx B oL' oK' cL' cK')).heap.size = w.heap.size + 2) := by simp [Hid]
   clear ha hb ih O O' hO hE
   go_enter Tryz.func88, Tryz.ntmps88
   go_upto_region 1 with fail
   generalize (w.alloc _).alloc _ = w0 at *
   obtain ⟨bx, hbx⟩ : ∃ b, (A.x == B.x) = b := ⟨_, rfl⟩
   obtain ⟨x8, x0, x1, x2, x3, x4, x5, x6, x7⟩ := HB.out.1
   obtain ⟨y8, y0, y1, y2, y3, y4, y5, y6, y7⟩ := HB.out.2
   cases bx with
   | false =>
     have HR : Hid (((!true || (A.x == B.x)) && (P && Q)) = false) := by unfold Hid; rw [hbx]; rfl
     go_wp2_with fail
     go_ret
     exact ⟨ret_b4 HR.out.symm, HW.out⟩
   | true =>
     have HR : Hid (((!true || (A.x == B.x)) && (P && Q)) = (P && Q)) := by unfold Hid; rw [hbx]; rfl
     go_wp2_with fail
     refine (HH.out.1 _ HW.out).mono ?_
     rintro e w1 ⟨rfl, b1⟩
     have B1 := qh (HW.out.trans (b1.mono HW.out.size))
     have hz := HZ.out
     clear x8 x0 x1 x2 x3 x4 x5 x6 x7 y8 y0 y1 y2 y3 y4 y5 y6 y7
     obtain ⟨x8, x0, x1, x2, x3, x4, x5, x6, x7⟩ := HB.out.1.kept b1 (by omega)
     obtain ⟨y8, y0, y1, y2, y3, y4, y5, y6, y7⟩ := HB.out.2.kept b1 (by omega)
     clear b1 hz hbx
     cases P with
     | false =>
       go_wp2_with fail
       go_ret
       exact ⟨ret_b4 HR.out.symm, B1.out⟩
     | true =>
       go_wp2_with fail
       refine (HH.out.2 _ B1.out).mono ?_
       rintro e w2 ⟨rfl, b2⟩
       have B2 := qh (B1.out.trans (b2.mono B1.out.size))
       clear b2
       go_wp2_with fail
       go_ret
       exact ⟨ret_b4 HR.out.symm, B2.out⟩
open Go.RowKit

theorem same_no_own {A B : Val} (h : ownB A.k A.i A.s A.tk A.to A.ks B.k B.i B.s B.tk B.to B.ks = false) : sameV true A B = false := by rw [sameV_eq, h, Bool.false_and, Bool.and_false]
theorem same_no_l {A B : Val} (h : eqL (sameV true) A.l B.l = false) : sameV true A B = false := by rw [sameV_eq, h, Bool.and_false, Bool.and_false]
theorem own_yes {A B : Val} (h0 : A.k = B.k) (h1 : A.i = B.i) (h2 : A.s = B.s) (h3 : A.tk = B.tk) (h4 : A.to = B.to) (h5 : A.ks = B.ks) : ownB A.k A.i A.s A.tk A.to A.ks B.k B.i B.s B.tk B.to B.ks = true := by
 unfold ownB eqK
 simp [h0, h1, h2, h3, h4, h5]
theorem int_eq {a b : Int} (h : a = b) : (a == b) = true ∧ (a != b) = false := by subst h; simp
theorem int_ne {a b : Int} (h : a ≠ b) : (a == b) = false ∧ (a != b) = true := ⟨by rw [beq_eq_false_iff_ne]; exact h, by rw [bne_iff_ne]; exact h⟩
set_option maxHeartbeats 8000000 in
set_option maxRecDepth 100000 in
theorem same24_any (N : Nat) : ∀ (n : Nat) (A B : Val) (a b : Value) (w : World), sz A + sz B ≤ N → Lies n w A a → Lies n w B b → n ≤ w.heap.size →
 Calls Tryz.prog 40 #[a, b, .bool true] w fun e w' => e = .returned (.bool (sameV true A B)) ∧ Below w.heap.size w w' := by
 induction N with
 | zero => intro n A B a b w hs; have := sz_pos A; omega
 | succ N ih =>
   intro n A B a b w hs ha hb hn
   obtain ⟨oL, oK, cL, cK, c, rfl, O⟩ := ha.inv
   obtain ⟨oL', oK', cL', cK', c', rfl, O'⟩ := hb.inv
   have IH := qh ih
   have l1 := O.L.1
   have l2 := O.L.2.1
   have l3 := O.K.1
   have l4 := O.K.2.1
   have l5 := O'.L.1
   have l6 := O'.L.2.1
   have l7 := O'.K.1
   have l8 := O'.K.2.1
   unfold maxLen at l2 l4 l6 l8
   have HB := qh ((Hd.made w A (.slice oL A.l.length cL) (.slice oK A.ks.length cK)).kept ((Below.refl (w.heap.size + 1) _).alloc (by simp) (bx B oL' oK' cL' cK')) (Nat.lt_succ_self _))
   have HB' : Hid (Hd ((w.alloc (bx A oL oK cL cK)).alloc (bx B oL' oK' cL' cK')) (w.heap.size + 1) B (.slice oL' B.l.length cL') (.slice oK' B.ks.length cK')) := by have := Hd.made (w.alloc (bx A oL oK cL cK)) B (.slice oL' B.l.length cL') (.slice oK' B.ks.length cK'); rw [World.size_alloc] at this; exact this
   have HW := qh (((Below.refl w.heap.size w).alloc (Nat.le_refl _) (bx A oL oK cL cK)).alloc (by simp) (bx B oL' oK' cL' cK'))
   have HZ : Hid (((w.alloc (bx A oL oK cL cK)).alloc (bx B oL' oK' cL' cK')).heap.size = w.heap.size + 2) := by simp [Hid]
   have H := qh (And.intro (O.kept (HW.out.mono hn)) (O'.kept (HW.out.mono hn)))
   have HNO := qh (fun h => same_no_own (A := A) (B := B) h)
   have HNX : Hid ((A.x == B.x) = false → sameV true A B = false) := fun h => by rw [sameV_eq, h]; rfl
   have HNL := qh (fun h => same_no_l (A := A) (B := B) h)
   have HYES : Hid (A.k = B.k → A.i = B.i → A.s = B.s → A.tk = B.tk → A.to = B.to → A.ks = B.ks → (A.x == B.x) = true → eqL (sameV true) A.l B.l = true → sameV true A B = true) := fun h0 h1 h2 h3 h4 h5 hx h6 => by rw [sameV_eq, own_yes h0 h1 h2 h3 h4 h5, h6, hx]; rfl
   generalize sameV true A B = R at *
   clear ha hb ih O O'
   go_enter Tryz.func40, Tryz.ntmps40
   go_upto_region 1 with (fail)
   generalize (w.alloc _).alloc _ = w0 at *
   obtain ⟨x8, x0, x1, x2, x3, x4, x5, x6, x7⟩ := HB.out
   obtain ⟨z8, z0, z1, z2, z3, z4, z5, z6, z7⟩ := HB'.out
   by_cases h0 : A.k = B.k
   case neg =>
    have HR : Hid (R = false) := HNO.out (by unfold ownB; rw [decide_eq_false h0]; rfl)
    obtain ⟨g1, g2⟩ := int_ne h0
    clear h0
    go_wp2_with fail
    go_ret
    exact ⟨by rw [HR.out]; rfl, HW.out⟩
   have H0 := qh h0
   obtain ⟨g1, g2⟩ := int_eq h0
   clear h0
   by_cases h0 : A.i = B.i
   case neg =>
    have HR : Hid (R = false) := HNO.out (by unfold ownB; rw [decide_eq_false h0, Bool.and_false]; rfl)
    obtain ⟨g3, g4⟩ := int_ne h0
    clear h0
    go_wp2_with fail
    go_ret
    exact ⟨by rw [HR.out]; rfl, HW.out⟩
   have H1 := qh h0
   obtain ⟨g3, g4⟩ := int_eq h0
   clear h0
   by_cases h0 : A.s = B.s
   case neg =>
    have HR : Hid (R = false) := HNO.out (by unfold ownB; rw [decide_eq_false h0, Bool.and_false]; rfl)
    obtain ⟨g5, g6⟩ := str_ne h0
    clear h0
    go_wp2_with fail
    go_ret
    exact ⟨by rw [HR.out]; rfl, HW.out⟩
   have H2 := qh h0
   obtain ⟨g5, g6⟩ := str_eq h0
   clear h0
   by_cases h0 : A.tk = B.tk
   case neg =>
    have HR : Hid (R = false) := HNO.out (by unfold ownB; rw [decide_eq_false h0, Bool.and_false]; rfl)
    obtain ⟨g7, g8⟩ := int_ne h0
    clear h0
    go_wp2_with fail
    go_ret
    exact ⟨by rw [HR.out]; rfl, HW.out⟩
   have H3 := qh h0
   obtain ⟨g7, g8⟩ := int_eq h0
   clear h0
   by_cases h0 : A.to = B.to
   case neg =>
    have HR : Hid (R = false) := HNO.out (by unfold ownB; rw [decide_eq_false h0, Bool.and_false]; rfl)
    obtain ⟨g9, g10⟩ := int_ne h0
    clear h0
    go_wp2_with fail
    go_ret
    exact ⟨by rw [HR.out]; rfl, HW.out⟩
   have H4 := qh h0
   obtain ⟨g9, g10⟩ := int_eq h0
   clear h0
   by_cases h0 : A.x = B.x
   case neg =>
    have HR : Hid (R = false) := HNX.out (by rw [beq_eq_false_iff_ne]; exact h0)
    have hz : A.x = !B.x := by revert h0; cases A.x <;> cases B.x <;> simp
    rw [hz] at x7
    clear h0 hz
    cases B.x
    · go_wp2_with fail
      go_ret
      exact ⟨by rw [HR.out]; rfl, HW.out⟩
    · go_wp2_with fail
      go_ret
      exact ⟨by rw [HR.out]; rfl, HW.out⟩
   have HXX : Hid ((A.x == B.x) = true) := by unfold Hid; rw [h0]; simp
   rw [h0] at x7
   clear h0
   obtain ⟨bz, hbz⟩ : ∃ b, B.x = b := ⟨_, rfl⟩
   rw [hbz] at x7 z7
   clear hbz
   have g15 : (bz != bz) = false := by simp
   by_cases h0 : A.l.length = B.l.length
   case neg =>
    have HR : Hid (R = false) := HNL.out (eqL_len h0)
    obtain ⟨g11, g12⟩ := int_ne (a := (A.l.length : Int)) (b := (B.l.length : Int)) (by omega)
    clear h0
    go_wp2_with fail
    go_ret
    exact ⟨by rw [HR.out]; rfl, HW.out⟩
   have H5 := qh h0
   obtain ⟨g11, g12⟩ := int_eq (a := (A.l.length : Int)) (b := (B.l.length : Int)) (by omega)
   clear h0
   by_cases h0 : A.ks.length = B.ks.length
   case neg =>
    have HR : Hid (R = false) := HNO.out (by unfold ownB eqK; rw [decide_eq_false (p := A.ks = B.ks) (fun e => h0 (by rw [e])), Bool.and_false])
    obtain ⟨g13, g14⟩ := int_ne (a := (A.ks.length : Int)) (b := (B.ks.length : Int)) (by omega)
    clear h0
    go_wp2_with fail
    go_ret
    exact ⟨by rw [HR.out]; rfl, HW.out⟩
   have H6 := qh h0
   obtain ⟨g13, g14⟩ := int_eq (a := (A.ks.length : Int)) (b := (B.ks.length : Int)) (by omega)
   clear h0
   go_wp2_with fail
   clear x8 x0 x1 x2 x3 x4 x5 x6 x7 z8 z0 z1 z2 z3 z4 z5 z6 z7 g1 g2 g3 g4 g5 g6 g7 g8 g9 g10 g11 g12 g13 g14 g15
   go_loopw [7] (fun i wr => ∃ j : Nat, j ≤ A.ks.length ∧ i = .int .i64 j ∧ Hid (∀ q, q < j → kk A.ks q = kk B.ks q) ∧ Hid (Below (w.heap.size + 2) w0 wr)) (fun i _ => A.ks.length - (intOf i).toNat)
   case atStart => exact ⟨0, by omega, rfl, (fun q hq => absurd hq (Nat.not_lt_zero _)), Below.refl _ _⟩
   case round =>
    obtain ⟨j, hj, rfl, hok, hbr⟩ := hrel
    obtain ⟨x8, x0, x1, x2, x3, x4, x5, x6, x7⟩ := HB.out.kept hbr.out (by omega)
    obtain ⟨z8, z0, z1, z2, z3, z4, z5, z6, z7⟩ := HB'.out.kept hbr.out (by omega)
    by_cases hlt : j < A.ks.length
    · have hlt' : j < B.ks.length := by rw [← H6.out]; exact hlt
      obtain ⟨b, off, e1, hb, y0⟩ := (H.out.1.K.below (hbr.out.mono (by omega))).key hlt
      obtain ⟨b', off', e1', hb', y0'⟩ := (H.out.2.K.below (hbr.out.mono (by omega))).key hlt'
      subst e1 e1'
      have HBR := hbr
      clear hbr
      by_cases he : kk A.ks j = kk B.ks j
      · have HE : Hid (∀ q, q < j + 1 → kk A.ks q = kk B.ks q) := fun q hq => by
         by_cases e : q = j
         · subst e; exact he
         · exact hok.out q (by omega)
        obtain ⟨s1, s2⟩ := str_eq he
        clear he hok
        go_wp2_with fail
        go_quiet (fail)
        go_wp2_with fail
        go_roundw
        case rel => exact ⟨j + 1, by omega, by go_num, HE, below_drewN HBR.out _⟩
        case measure => simp [intOf]; omega
      · have HR : Hid (R = false) := HNO.out (by unfold ownB eqK; rw [decide_eq_false (p := A.ks = B.ks) (fun e => he (by rw [e])), Bool.and_false])
        obtain ⟨s1, s2⟩ := str_ne he
        clear he hok
        go_wp2_with fail
        go_quiet (fail)
        go_wp2_with fail
        go_ret
        exact ⟨by rw [HR.out]; rfl, HW.out.trans (below_drewN (HBR.out.mono (by omega)) _)⟩
    · have HKS := qh (kk_ext H6.out (fun q hq => hok.out q (by omega)))
      clear hok
      go_wp2_with fail
      clear x8 x0 x1 x2 x3 x4 x5 x6 x7 z8 z0 z1 z2 z3 z4 z5 z6 z7
      have HBR := hbr
      clear hbr
      go_loopw [8] (fun i wr => ∃ j : Nat, j ≤ A.l.length ∧ i = .int .i64 j ∧ Hid (∀ m X Y, m < j → A.l[m]? = some X → B.l[m]? = some Y → sameV true X Y = true) ∧ Hid (Below (w.heap.size + 2) w0 wr)) (fun i _ => A.l.length - (intOf i).toNat)
      case atStart => exact ⟨0, by omega, rfl, (fun _ _ _ h => absurd h (Nat.not_lt_zero _)), HBR⟩
      case round =>
       obtain ⟨j2, hj2, rfl, hok, hbr⟩ := hrel
       obtain ⟨x8, x0, x1, x2, x3, x4, x5, x6, x7⟩ := HB.out.kept hbr.out (by omega)
       obtain ⟨z8, z0, z1, z2, z3, z4, z5, z6, z7⟩ := HB'.out.kept hbr.out (by omega)
       by_cases hlt2 : j2 < A.l.length
       · have hlt3 : j2 < B.l.length := by rw [← H5.out]; exact hlt2
         have hO := H.out.1.kept (hbr.out.mono (by omega))
         have hO' := H.out.2.kept (hbr.out.mono (by omega))
         obtain ⟨X, hX⟩ : ∃ X, A.l[j2]? = some X := ⟨_, List.getElem?_eq_getElem hlt2⟩
         obtain ⟨Y, hY⟩ : ∃ Y, B.l[j2]? = some Y := ⟨_, List.getElem?_eq_getElem hlt3⟩
         obtain ⟨b, off, oL3, oK3, cL3, cK3, c3, e1, hb, ⟨y0, y1, y2, y3, y4, y5, y6, y7⟩, OX⟩ := hO.L.elv hlt2 (hO.el j2 X hX)
         obtain ⟨b', off', oL3', oK3', cL3', cK3', c3', e1', hb', ⟨u0, u1, u2, u3, u4, u5, u6, u7⟩, OX'⟩ := hO'.L.elv hlt3 (hO'.el j2 Y hY)
         have hmem := sz_mem (List.mem_of_getElem? hX)
         have hmem' := sz_mem (List.mem_of_getElem? hY)
         have OX2 := qh (And.intro OX OX')
         have HXY := qh (And.intro hX hY)
         have HBR := hbr
         subst e1 e1'
         clear hX hY OX OX' hO hO' hbr
         go_wp2_with fail
         go_still_tail 11, (by kernel_rfl)
         change wpList _ _ _ _ _ wr.drew
         go_wp2_with fail
         with_reducible refine (IH.out n X Y _ _ _ (by omega) (OX2.out.1.kept ((Below.refl n wr).drew)).lies (OX2.out.2.kept ((Below.refl n wr).drew)).lies (by have := HBR.out.size; have := HZ.out; simp; omega)).mono ?_
         rintro e w2 ⟨rfl, b2⟩
         have B2 := qh (HBR.out.drew.trans (b2.mono (by have := HBR.out.size; have := HZ.out; simp; omega)))
         clear b2
         cases hr : sameV true X Y with
         | true =>
           have HE : Hid (∀ m X' Y', m < j2 + 1 → A.l[m]? = some X' → B.l[m]? = some Y' → sameV true X' Y' = true) := fun m X' Y' hm h1 h2 => by
            by_cases e : m = j2
            · subst e; rw [HXY.out.1] at h1; rw [HXY.out.2] at h2; injection h1 with h1; injection h2 with h2; subst h1 h2; exact hr
            · exact hok.out m X' Y' (by omega) h1 h2
           clear hr hok
           go_wp2_with fail
           go_roundw
           case rel => exact ⟨j2 + 1, by omega, by go_num, HE, B2⟩
           case measure => simp [intOf]; omega
         | false =>
           have HR : Hid (R = false) := HNL.out (eqL_no (r := sameV true) j2 HXY.out.1 HXY.out.2 hr)
           clear hr hok
           go_wp2_with fail
           go_ret
           exact ⟨by rw [HR.out]; rfl, HW.out.trans (B2.out.mono (by omega))⟩
       · have HR : Hid (R = true) := HYES.out H0.out H1.out H2.out H3.out H4.out HKS.out HXX.out (eqL_yes H5.out (fun m X Y h1 h2 => hok.out m X Y (by have := (List.getElem?_eq_some_iff.1 h1).1; omega) h1 h2))
         clear hok
         go_wp2_with fail
         go_ret
         exact ⟨by rw [HR.out]; rfl, HW.out.trans (hbr.out.mono (by omega))⟩
open Go.RowKit

def GrPost (V : Val) (w : World) (e : Ending) (w' : World) : Prop := ∃ g : Nat, e = .returned (.int .i64 g) ∧ g ≤ 601 ∧ (g ≤ 600 → sz V ≤ g) ∧ Below w.heap.size w w'
def GrK (V : Val) (g : Nat) : Prop := g ≤ 2300 ∧ 1 + min V.ks.length 700 ≤ g
def GrL (V : Val) (j : Nat) (g : Nat) : Prop := g ≤ 2300 ∧ (g ≤ 600 → 1 + min V.ks.length 700 + szL (V.l.take j) ≤ g)
theorem szL_succ {l : List Val} {j : Nat} {X : Val} (h : l[j]? = some X) : szL (l.take (j + 1)) = szL (l.take j) + sz X := by
 rw [List.take_add_one, h, szL_eq, szL_eq, List.map_append, List.sum_append]; simp
theorem gr_end {V : Val} {g g' : Nat} {j : Nat} (h : GrL V j g) (hx : j = V.l.length ∨ 600 < g) (hg : g' = min g 601) : g' ≤ 601 ∧ (g' ≤ 600 → sz V ≤ g') := by
 refine ⟨by omega, fun h6 => ?_⟩
 have h1 : g ≤ 600 := by omega
 have h2 := h.2 h1
 have h3 : j = V.l.length := by omega
 rw [h3, List.take_length] at h2
 rw [sz_eq]; omega
set_option maxRecDepth 100000 in
set_option maxHeartbeats 4000000 in
theorem great_any (m : Nat) (hm : m ≤ 10) : ∀ (n : Nat) (V : Val) (v : Value) (w : World), Lies n w V v → n ≤ w.heap.size → Calls Tryz.prog 92 #[v, .int .i64 m] w (GrPost V w) := by
 induction m with
 | zero =>
   intro n V v w h hn
   obtain ⟨oL, oK, cL, cK, c, rfl, O⟩ := h.inv
   have l3 := O.K.1
   have l4 := O.K.2.1
   have ws := O.ws
   unfold maxLen at l4 ws
   clear h O
   go_enter Tryz.func92, Tryz.ntmps92
   go_wp2_with fail
   all_goals
    go_ret
    exact ⟨601, rfl, Nat.le_refl _, by omega, (Below.refl _ _).alloc (Nat.le_refl _) _⟩
 | succ m ih =>
   intro n V v w h hn
   obtain ⟨oL, oK, cL, cK, c, rfl, O⟩ := h.inv
   have IH := qh (ih (by omega))
   have l1 := O.L.1
   have l2 := O.L.2.1
   have l3 := O.K.1
   have l4 := O.K.2.1
   have ws := O.ws
   have HB := qh (Hd.made w V (.slice oL V.l.length cL) (.slice oK V.ks.length cK))
   have HW := qh ((Below.refl w.heap.size w).alloc (Nat.le_refl _) (bx V oL oK cL cK))
   have HZ : Hid ((w.alloc (bx V oL oK cL cK)).heap.size = w.heap.size + 1) := by simp [Hid]
   have H := qh (O.kept (HW.out.mono hn))
   unfold maxLen at l2 l4 ws
   clear h ih O
   go_enter Tryz.func92, Tryz.ntmps92
   go_wp2_with fail
   all_goals
    generalize w.alloc _ = w0 at *
    go_loopw [5, 6] (fun s i wr => ∃ j g : Nat, j ≤ V.ks.length ∧ g ≤ 2300 ∧ i = .int .i64 j ∧ s = .int .i64 g ∧ Hid (GrK V g) ∧ Hid (Below (w.heap.size + 1) w0 wr)) (fun _ i _ => V.ks.length - (intOf i).toNat)
    case atStart => exact ⟨0, 1 + min V.s.size 2000 / 4 + min V.ks.length 700, by omega, by omega, rfl, congrArg _ (by omega), ⟨by omega, by omega⟩, Below.refl _ _⟩
    case round =>
     obtain ⟨j, g, hj, hg, rfl, rfl, hrel, hbr⟩ := hrel
     obtain ⟨x8, x0, x1, x2, x3, x4, x5, x6, x7⟩ := HB.out.kept hbr.out (Nat.lt_succ_self _)
     by_cases hlt : j < V.ks.length
     · by_cases hg6 : g ≤ 600
       · have hO := H.out.kept (hbr.out.mono (by omega))
         obtain ⟨b, off, e1, hb, y0⟩ := hO.K.key hlt
         have hz : (kk V.ks j).size ≤ 9223372036854775807 := by have := hO.wks _ (kk_mem hlt); unfold maxLen at this; omega
         subst e1
         clear hO
         go_wp2_with fail
         all_goals
          go_roundw
          case rel => exact ⟨j + 1, g + min (kk V.ks j).size 4000 / 4, by omega, by omega, by go_num, congrArg _ (by omega), ⟨by omega, by have := hrel.out.2; omega⟩, hbr⟩
          case measure => simp [intOf]; omega
       · go_wp2_with fail
         have HG0 : Hid (GrL V 0 g) := ⟨hrel.out.1, fun _ => by have := hrel.out.2; simp [szL]; omega⟩
         have HB1 := hbr
         clear hrel hbr x8 x0 x1 x2 x3 x4 x5 x6 x7
         go_loopw [5, 7] (fun s i wr => ∃ j g : Nat, j ≤ V.l.length ∧ g ≤ 2300 ∧ i = .int .i64 j ∧ s = .int .i64 g ∧ Hid (GrL V j g) ∧ Hid (Below (w.heap.size + 1) w0 wr)) (fun _ i _ => V.l.length - (intOf i).toNat)
         case atStart => exact ⟨0, g, by omega, by omega, rfl, rfl, HG0, HB1⟩
         case round =>
          obtain ⟨j2, g2, hj2, hg2, rfl, rfl, hrel, hbr⟩ := hrel
          obtain ⟨x8, x0, x1, x2, x3, x4, x5, x6, x7⟩ := HB.out.kept hbr.out (Nat.lt_succ_self _)
          by_cases hlt2 : j2 < V.l.length
          · by_cases hg7 : g2 ≤ 600
            · have hO := H.out.kept (hbr.out.mono (by omega))
              obtain ⟨X, hX⟩ : ∃ X, V.l[j2]? = some X := ⟨_, List.getElem?_eq_getElem hlt2⟩
              obtain ⟨b, off, oL3, oK3, cL3, cK3, c3, e1, hb, ⟨y0, y1, y2, y3, y4, y5, y6, y7⟩, OX⟩ := hO.L.elv hlt2 (hO.el j2 X hX)
              have HX := qh hX
              have OX2 := qh OX
              subst e1
              clear hX OX hO
              go_wp2_with fail
              with_reducible refine (IH.out _ X _ _ OX2.out.lies (by have := hbr.out.size; have := HZ.out; omega)).mono ?_
              rintro e w2 ⟨g3, rfl, h601, hsz, b2⟩
              have B2 := qh (hbr.out.trans (b2.mono (by have := hbr.out.size; have := HZ.out; omega)))
              have HR : Hid (GrL V (j2 + 1) (g2 + g3)) := ⟨by omega, fun h6 => by rw [szL_succ HX.out]; have := hrel.out.2 hg7; have := hsz (by omega); omega⟩
              clear b2 hsz
              go_wp2_with fail
              go_roundw
              case rel => exact ⟨j2 + 1, g2 + g3, by omega, by omega, by go_num, by go_num, HR, B2⟩
              case measure => simp [intOf]; omega
            · have HE := qh (gr_end hrel.out (.inr (by omega)) rfl)
              go_wp2_with fail
              all_goals
               go_ret
               exact ⟨min g2 601, (ret_int (by omega) : Ending.returned (.int .i64 _) = _), HE.out.1, HE.out.2, HW.out.trans (hbr.out.mono (by omega))⟩
          · have HE := qh (gr_end hrel.out (.inl (by omega)) rfl)
            go_wp2_with fail
            all_goals
             go_ret
             exact ⟨min g2 601, (ret_int (by omega) : Ending.returned (.int .i64 _) = _), HE.out.1, HE.out.2, HW.out.trans (hbr.out.mono (by omega))⟩
     · go_wp2_with fail
       have HG0 : Hid (GrL V 0 g) := ⟨hrel.out.1, fun _ => by have := hrel.out.2; simp [szL]; omega⟩
       have HB1 := hbr
       clear hrel hbr x8 x0 x1 x2 x3 x4 x5 x6 x7
       go_loopw [5, 7] (fun s i wr => ∃ j g : Nat, j ≤ V.l.length ∧ g ≤ 2300 ∧ i = .int .i64 j ∧ s = .int .i64 g ∧ Hid (GrL V j g) ∧ Hid (Below (w.heap.size + 1) w0 wr)) (fun _ i _ => V.l.length - (intOf i).toNat)
       case atStart => exact ⟨0, g, by omega, by omega, rfl, rfl, HG0, HB1⟩
       case round =>
        obtain ⟨j2, g2, hj2, hg2, rfl, rfl, hrel, hbr⟩ := hrel
        obtain ⟨x8, x0, x1, x2, x3, x4, x5, x6, x7⟩ := HB.out.kept hbr.out (Nat.lt_succ_self _)
        by_cases hlt2 : j2 < V.l.length
        · by_cases hg7 : g2 ≤ 600
          · have hO := H.out.kept (hbr.out.mono (by omega))
            obtain ⟨X, hX⟩ : ∃ X, V.l[j2]? = some X := ⟨_, List.getElem?_eq_getElem hlt2⟩
            obtain ⟨b, off, oL3, oK3, cL3, cK3, c3, e1, hb, ⟨y0, y1, y2, y3, y4, y5, y6, y7⟩, OX⟩ := hO.L.elv hlt2 (hO.el j2 X hX)
            have HX := qh hX
            have OX2 := qh OX
            subst e1
            clear hX OX hO
            go_wp2_with fail
            with_reducible refine (IH.out _ X _ _ OX2.out.lies (by have := hbr.out.size; have := HZ.out; omega)).mono ?_
            rintro e w2 ⟨g3, rfl, h601, hsz, b2⟩
            have B2 := qh (hbr.out.trans (b2.mono (by have := hbr.out.size; have := HZ.out; omega)))
            have HR : Hid (GrL V (j2 + 1) (g2 + g3)) := ⟨by omega, fun h6 => by rw [szL_succ HX.out]; have := hrel.out.2 hg7; have := hsz (by omega); omega⟩
            clear b2 hsz
            go_wp2_with fail
            go_roundw
            case rel => exact ⟨j2 + 1, g2 + g3, by omega, by omega, by go_num, by go_num, HR, B2⟩
            case measure => simp [intOf]; omega
          · have HE := qh (gr_end hrel.out (.inr (by omega)) rfl)
            go_wp2_with fail
            all_goals
             go_ret
             exact ⟨min g2 601, (ret_int (by omega) : Ending.returned (.int .i64 _) = _), HE.out.1, HE.out.2, HW.out.trans (hbr.out.mono (by omega))⟩
        · have HE := qh (gr_end hrel.out (.inl (by omega)) rfl)
          go_wp2_with fail
          all_goals
           go_ret
           exact ⟨min g2 601, (ret_int (by omega) : Ending.returned (.int .i64 _) = _), HE.out.1, HE.out.2, HW.out.trans (hbr.out.mono (by omega))⟩
def GtPost (V : Val) (w : World) (e : Ending) (w' : World) : Prop := ∃ b : Bool, e = .returned (.bool b) ∧ (b = false → sz V ≤ 600) ∧ Below w.heap.size w w'
set_option maxHeartbeats 1000000 in
theorem Great_any {n : Nat} {V : Val} {v : Value} {w : World} (h : Lies n w V v) (hn : n ≤ w.heap.size) : Calls Tryz.prog 50 #[v] w (GtPost V w) := by
 obtain ⟨oL, oK, cL, cK, c, rfl, O⟩ := h.inv
 have HW := qh ((Below.refl w.heap.size w).alloc (Nat.le_refl _) (bx V oL oK cL cK))
 have H := qh (O.kept (HW.out.mono hn))
 have HG : Hid (∀ (n : Nat) (V : Val) (v : Value) (w : World), Lies n w V v → n ≤ w.heap.size → Calls Tryz.prog 92 #[v, .int .i64 10] w (GrPost V w)) := great_any 10 (Nat.le_refl _)
 clear h O
 go_enter Tryz.func50, Tryz.ntmps50
 go_wp2_with fail
 with_reducible refine (HG.out _ V _ _ H.out.lies (by simp; omega)).mono ?_
 rintro e w1 ⟨g, rfl, h1, h2, b1⟩
 have B := qh (HW.out.trans (b1.mono (by simp)))
 by_cases hg : 600 < g
 · clear h2 b1
   go_wp2_with fail
   go_ret
   exact ⟨decide (600 < (g : Int)), rfl, fun h => by simp at h; omega, B.out⟩
 · have h3 := h2 (by omega)
   clear h2 b1
   go_wp2_with fail
   go_ret
   exact ⟨decide (600 < (g : Int)), rfl, fun _ => by omega, B.out⟩
end Go.Proofs.YtncjncacfagldaaGreatDoor

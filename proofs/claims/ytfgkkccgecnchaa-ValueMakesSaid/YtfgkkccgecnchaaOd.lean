/- Refines, of any two values. -/
import Derived.Test.YtfgkkccgecnchaaOc
import Derived.Test.YtfgkkccgecnchaaE
namespace Go.Proofs.Ytfgkkccgecnchaa
open Go.RowKit

theorem els_l {V : Val} {j : Nat} {X : Val} (h : (els V)[j]? = some X) : V.l[j]? = some X := by
  unfold els at h
  have hj : j < cnt V := by
    have := (List.getElem?_eq_some_iff.1 h).1
    rw [List.length_take] at this; omega
  rw [List.getElem?_take_of_lt hj] at h; exact h
theorem refines_any (N : Nat) : ∀ (n : Nat) (A B : Val) (a b : Value) (w : World), sz A + sz B ≤ N → Lies n w A a → Lies n w B b → n ≤ w.heap.size → Calls Try.prog 24 #[a, b] w fun e w' => e = .returned (.bool (refV A B)) ∧ Below w.heap.size w w' := by
  induction N with
  | zero => intro n A B a b w hs; have := sz_pos A; omega
  | succ N ih =>
    intro n A B a b w hs ha hb hn
    have hF : ∀ w', Below w.heap.size w w' → Calls Try.prog 55 #[a, Typ.ty B.tk B.to] w' fun e w2 => e = .returned (.bool (fits A B.tk B.to)) ∧ Below w'.heap.size w' w2 :=
      fun w' bl => fits_all (sz A) n A a w' _ _ (Nat.le_refl _) (ha.kept (bl.mono hn)) (by have := bl.size; omega)
    have hO : ∀ w', Below w.heap.size w w' → Calls Try.prog 57 #[a, b] w' fun e w2 => e = .returned (.int .i64 (ord A B)) ∧ Below w'.heap.size w' w2 :=
      fun w' bl => ord_any (sz A + sz B) n A B a b w' (Nat.le_refl _) (ha.kept (bl.mono hn)) (hb.kept (bl.mono hn)) (by have := bl.size; omega)
    rw [refV_eq A B]
    obtain ⟨oL, oK, cL, cK, c, rfl, O⟩ := ha.inv
    obtain ⟨oL', oK', cL', cK', c', rfl, O'⟩ := hb.inv
    have hA : ∀ w', Below w.heap.size w w' → Calls Try.prog 56 #[vv A.k A.i A.s (.slice oL A.l.length cL) (.slice oK A.ks.length cK) A.tk A.to A.x] w' (HeldPost n A c w') := fun w' bl => held_any (O.kept (bl.mono hn)) (by have := bl.size; omega)
    have hB : ∀ w', Below w.heap.size w w' → Calls Try.prog 56 #[vv B.k B.i B.s (.slice oL' B.l.length cL') (.slice oK' B.ks.length cK') B.tk B.to B.x] w' (HeldPost n B c' w') := fun w' bl => held_any (O'.kept (bl.mono hn)) (by have := bl.size; omega)
    have hE : ∀ w' o1 c1 o2 c2, Below w.heap.size w w' → Row n w' o1 c1 (cnt A) 8 c → Row n w' o2 c2 (cnt B) 8 c' → Calls Try.prog 59 #[.slice o1 (cnt A) c1, .slice o2 (cnt B) c2, .func (.func 24) #[] #[]] w' fun e w2 => e = .returned (.bool (eqL refV (els A) (els B))) ∧ Below w'.heap.size w' w2 := by
      intro w' o1 c1 o2 c2 bl r1 r2
      have hA1 := szL_els A
      have hB1 := szL_els B
      rw [← els_len] at r1 r2
      have := equalFunc_24 refV N ih (n := n) (w := w') (l := els A) (l' := els B) (by omega) r1 r2 (fun j x hx => (O.el j x (els_l hx)).kept (bl.mono hn)) (fun j x hx => (O'.el j x (els_l hx)).kept (bl.mono hn)) (by have := bl.size; omega)
      rw [els_len, els_len] at this
      exact this
    have hK : ∀ w' o1 c1 o2 c2, Below w.heap.size w w' → Row n w' o1 c1 (cntK A) 1 (fun j _ => .string (A.ks.getD j default)) → Row n w' o2 c2 (cntK B) 1 (fun j _ => .string (B.ks.getD j default)) → Calls Try.prog 58 #[.slice o1 (cntK A) c1, .slice o2 (cntK B) c2] w' fun e w2 => e = .returned (.bool (eqK (keysH A) (keysH B))) ∧ Below w'.heap.size w' w2 := by
      intro w' o1 c1 o2 c2 bl r1 r2
      have := equal_any (RowP.keysH r1) (RowP.keysH r2) (by have := bl.size; omega)
      rw [keysH_len, keysH_len] at this
      exact this
    clear ih ha hb O O' hs
    generalize fits A B.tk B.to = F at *
    generalize ord A B = o at *
    generalize eqK (keysH A) (keysH B) = K at *
    generalize eqL refV (els A) (els B) = E at *
    generalize A.k = q at *
    generalize B.k = p at *
    by_cases hp : p = 6
    · subst hp
      rw [show refRaw q 6 F o K E = F from rfl]
      exact refines_6 q _ _ _ _ _ _ _ _ _ _ _ _ _ _ _ _ _ _ _ _ _ _ _ F hF
    · by_cases hne : q = p
      · subst hne
        have kc : q = 0 ∨ q = 1 ∨ q = 2 ∨ q = 3 ∨ q = 4 ∨ q = 5 ∨ ((q == 0) = false ∧ (q == 1) = false ∧ (q == 2) = false ∧ (q == 3) = false ∧ (q == 4) = false ∧ (q == 5) = false ∧ (q == 6) = false) := by
          simp only [beq_eq_false_iff_ne]; omega
        rcases kc with rfl | rfl | rfl | rfl | rfl | rfl | ⟨e0, e1, e2, e3, e4, e5, e6⟩
        · exact refines_0 _ _ _ _ _ _ _ _ _ _ _ _ _ _ _ _ _ _ _ _ _ _ _ n A B c c' hn hA hB o hO
        · exact refines_1 _ _ _ _ _ _ _ _ _ _ _ _ _ _ _ _ _ _ _ _ _ _ _ n A B c c' hn hA hB o hO
        · exact refines_2 _ _ _ _ _ _ _ _ _ _ _ _ _ _ _ _ _ _ _ _ _ _ _ n A B c c' hn hA hB o hO
        · exact refines_3 _ _ _ _ _ _ _ _ _ _ _ _ _ _ _ _ _ _ _ _ _ _ _ n A B c c' hn hA hB o hO
        · exact refines_4 _ _ _ _ _ _ _ _ _ _ _ _ _ _ _ _ _ _ _ _ _ _ _ n A B c c' hn hA hB E hE
        · exact refines_5 _ _ _ _ _ _ _ _ _ _ _ _ _ _ _ _ _ _ _ _ _ _ _ n A B c c' hn hA hB K hK E hE
        · have : refRaw q q F o K E = false := by
            simp only [beq_eq_false_iff_ne] at *
            simp [refRaw, *]
          rw [this]
          exact refines_o q _ _ _ _ _ _ _ _ _ _ _ _ _ _ _ _ _ _ _ _ _ _ _ n A B c c' hn hA hB e0 e1 e2 e3 e4 e5 e6
      · have : refRaw q p F o K E = false := by simp [refRaw, hp, hne]
        rw [this]
        exact refines_ne q p _ _ _ _ _ _ _ _ _ _ _ _ _ _ _ _ _ _ _ _ _ _ _ hp hne
end Go.Proofs.Ytfgkkccgecnchaa

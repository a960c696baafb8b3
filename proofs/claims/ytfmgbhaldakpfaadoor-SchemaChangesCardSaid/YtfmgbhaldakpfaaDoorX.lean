/- slices.Equal of texts; slices.EqualFunc of values. -/
import Derived.Test.YtfmgbhaldakpfaaDoorD
import Derived.StillTailTactics
namespace Go.Proofs.YtfmgbhaldakpfaaDoor
open Go.RowKit

/-- two rows of keys are the same -/
def eqK (a b : List ByteArray) : Bool := decide (a = b)
theorem kk_ext {a b : List ByteArray} (hl : a.length = b.length) (h : ∀ j, j < a.length → kk a j = kk b j) : a = b := by
  apply List.ext_getElem hl
  intro j h1 h2
  have := h j h1
  unfold kk at this
  rw [List.getD_eq_getElem?_getD, List.getD_eq_getElem?_getD, List.getElem?_eq_getElem h1, List.getElem?_eq_getElem h2] at this
  exact this
theorem str_eq {a b : ByteArray} (h : a = b) : (a.toList == b.toList) = true ∧ (a.toList != b.toList) = false := by subst h; simp
theorem toList_inj {a b : ByteArray} (h : a.toList = b.toList) : a = b := by
  rw [ByteArray.toList_eq, ByteArray.toList_eq] at h
  obtain ⟨x⟩ := a; obtain ⟨y⟩ := b
  congr 1
  exact Array.toList_inj.1 h
theorem str_ne {a b : ByteArray} (h : a ≠ b) : (a.toList == b.toList) = false ∧ (a.toList != b.toList) = true := by
  have : a.toList ≠ b.toList := fun e => h (toList_inj e)
  simp [this]
set_option maxHeartbeats 1000000 in
theorem equal_any {n : Nat} {a b : List ByteArray} {o o' : Option Addr} {cap cap' : Nat} {w : World} (hR : Row n w o cap a.length 1 (fun j _ => .string (a.getD j default))) (hR' : Row n w o' cap' b.length 1 (fun j _ => .string (b.getD j default))) (hn : n ≤ w.heap.size) :
    Calls Tryd.prog 87 #[.slice o a.length cap, .slice o' b.length cap'] w fun e w' => e = .returned (.bool (eqK a b)) ∧ Below w.heap.size w w' := by
  have l1 := hR.1
  have l2 := hR.2.1
  have l3 := hR'.1
  have l4 := hR'.2.1
  unfold maxLen at l2 l4
  have HR := Lib.hid (And.intro hR hR')
  clear hR hR'
  by_cases hl : a.length = b.length
  · have HL := Lib.hid hl
    have g1 : ((a.length : Int) != (b.length : Int)) = false := by simp [hl]
    clear hl
    go_enter Tryd.func87, Tryd.ntmps87
    go_wp2_with fail
    go_loopw [13] (fun i wr => ∃ j : Nat, j ≤ a.length ∧ i = .int .i64 j ∧ Hid (∀ m, m < j → kk a m = kk b m) ∧ Hid (Below w.heap.size w wr)) (fun i _ => a.length - (intOf i).toNat)
    case atStart => exact ⟨0, Nat.zero_le _, rfl, fun _ h => absurd h (Nat.not_lt_zero _), Below.refl _ _⟩
    case round =>
      obtain ⟨j, hj, rfl, hok, hbr⟩ := hrel
      by_cases hlt : j < a.length
      · have hlt2 : j < b.length := by have := HL.out; omega
        obtain ⟨b1, off, e1, _, y0⟩ := (HR.out.1.below (hbr.out.mono hn)).key hlt
        obtain ⟨b2, off', e2, _, y1⟩ := (HR.out.2.below (hbr.out.mono hn)).key hlt2
        subst e1 e2
        have HBR := hbr
        clear hbr
        by_cases he : kk a j = kk b j
        · have HE := Lib.hid he
          obtain ⟨g2, g3⟩ := str_eq he
          clear he
          go_wp2_with fail
          go_quiet (fail)
          go_wp2_with fail
          go_roundw
          case rel => exact ⟨j + 1, by omega, by go_num, fun m hm => by by_cases e : m = j; subst e; exact HE.out; exact hok.out m (by omega), below_drewN HBR.out _⟩
          case measure => simp [intOf]; omega
        · have HX : Hid (eqK a b = false) := decide_eq_false (fun e => he (by rw [e]))
          obtain ⟨g2, g3⟩ := str_ne he
          clear he
          go_wp2_with fail
          go_quiet (fail)
          go_wp2_with fail
          go_ret
          exact ⟨by rw [HX.out]; rfl, below_drewN HBR.out _⟩
      · have HX : Hid (eqK a b = true) := decide_eq_true (kk_ext HL.out (fun m hm => hok.out m (by omega)))
        go_wp2_with fail
        go_ret
        exact ⟨by rw [HX.out]; rfl, hbr.out⟩
  · have HX : Hid (eqK a b = false) := decide_eq_false (fun e => hl (by rw [e]))
    have g1 : ((a.length : Int) != (b.length : Int)) = true := by simp; omega
    clear hl
    go_enter Tryd.func87, Tryd.ntmps87
    go_wp2_with fail
    go_ret
    exact ⟨by rw [HX.out]; rfl, Below.refl _ _⟩
/-- two rows of values are alike, one by one -/
def eqL (r : Val → Val → Bool) : List Val → List Val → Bool
  | [], [] => true
  | a :: x, b :: y => r a b && eqL r x y
  | _, _ => false
theorem eqL_len {r : Val → Val → Bool} : ∀ {x y : List Val}, x.length ≠ y.length → eqL r x y = false
  | [], [], h => absurd rfl h
  | [], _ :: _, _ => rfl
  | _ :: _, [], _ => rfl
  | a :: x, b :: y, h => by rw [eqL, eqL_len (x := x) (y := y) (fun e => h (by simp [e]))]; simp
theorem eqL_no {r : Val → Val → Bool} : ∀ {x y : List Val} (j : Nat) {X Y : Val}, x[j]? = some X → y[j]? = some Y → r X Y = false → eqL r x y = false
  | [], _, j, _, _, h, _, _ => by simp at h
  | _ :: _, [], j, _, _, _, h, _ => by simp at h
  | a :: x, b :: y, 0, X, Y, h1, h2, h => by simp at h1 h2; subst h1 h2; rw [eqL, h]; rfl
  | a :: x, b :: y, j + 1, X, Y, h1, h2, h => by rw [eqL, eqL_no (x := x) (y := y) j (by simpa using h1) (by simpa using h2) h]; simp
theorem eqL_yes {r : Val → Val → Bool} : ∀ {x y : List Val}, x.length = y.length → (∀ (j : Nat) (X Y : Val), x[j]? = some X → y[j]? = some Y → r X Y = true) → eqL r x y = true
  | [], [], _, _ => rfl
  | [], _ :: _, h, _ => by simp at h
  | _ :: _, [], h, _ => by simp at h
  | a :: x, b :: y, hl, h => by
    rw [eqL, h 0 a b rfl rfl, eqL_yes (x := x) (y := y) (by simpa using hl) (fun j X Y h1 h2 => h (j + 1) X Y (by simpa using h1) (by simpa using h2))]; rfl
set_option maxRecDepth 100000 in
set_option maxHeartbeats 2000000 in
theorem equalFunc_28 (r : Val → Val → Bool) (N : Nat) (hf : ∀ (n : Nat) (A B : Val) (a b : Value) (w : World), sz A + sz B ≤ N → Lies n w A a → Lies n w B b → n ≤ w.heap.size → Calls Tryd.prog 68 #[a, b] w fun e w' => e = .returned (.bool (r A B)) ∧ Below w.heap.size w w')
    {n : Nat} {w : World} {l l' : List Val} {o o' : Option Addr} {cap cap' : Nat} {c c' : Nat → Nat → Value} (hs : szL l + szL l' ≤ N) (hR : Row n w o cap l.length 8 c) (hR' : Row n w o' cap' l'.length 8 c')
    (hE : ∀ j x, l[j]? = some x → Lies n w x (.agg #[c j 0, c j 1, c j 2, c j 3, c j 4, c j 5, c j 6, c j 7])) (hE' : ∀ j x, l'[j]? = some x → Lies n w x (.agg #[c' j 0, c' j 1, c' j 2, c' j 3, c' j 4, c' j 5, c' j 6, c' j 7])) (hn : n ≤ w.heap.size) :
    Calls Tryd.prog 81 #[.slice o l.length cap, .slice o' l'.length cap', .func (.func 68) #[] #[]] w fun e w' => e = .returned (.bool (eqL r l l')) ∧ Below w.heap.size w w' := by
  have l1 := hR.1
  have l2 := hR.2.1
  have l3 := hR'.1
  have l4 := hR'.2.1
  unfold maxLen at l2 l4
  have HF := Lib.hid hf
  have HR := Lib.hid (And.intro hR (And.intro hR' (And.intro hE hE')))
  clear hR hR' hE hE' hf
  by_cases hl : l.length = l'.length
  · have HL := Lib.hid hl
    have g1 : ((l.length : Int) != (l'.length : Int)) = false := by simp [hl]
    clear hl
    go_enter Tryd.func81, Tryd.ntmps81
    go_wp2_with fail
    go_loopw [17] (fun i wr => ∃ j : Nat, j ≤ l.length ∧ i = .int .i64 j ∧ Hid (∀ m X Y, m < j → l[m]? = some X → l'[m]? = some Y → r X Y = true) ∧ Hid (Below w.heap.size w wr)) (fun i _ => l.length - (intOf i).toNat)
    case atStart => exact ⟨0, Nat.zero_le _, rfl, fun _ _ _ h => absurd h (Nat.not_lt_zero _), Below.refl _ _⟩
    case round =>
      obtain ⟨j, hj, rfl, hok, hbr⟩ := hrel
      by_cases hlt : j < l.length
      · have hlt2 : j < l'.length := by have := HL.out; omega
        obtain ⟨X, hX⟩ : ∃ X, l[j]? = some X := ⟨_, List.getElem?_eq_getElem hlt⟩
        obtain ⟨Y, hY⟩ : ∃ Y, l'[j]? = some Y := ⟨_, List.getElem?_eq_getElem hlt2⟩
        obtain ⟨b1, off, oL, oK, cL, cK, c3, e1, _, ⟨y0, y1, y2, y3, y4, y5, y6, y7⟩, OX⟩ := (HR.out.1.below (hbr.out.mono hn)).elv hlt ((HR.out.2.2.1 j X hX).kept (hbr.out.mono hn))
        obtain ⟨b2, off', oL', oK', cL', cK', c3', e2, hb2, ⟨u0, u1, u2, u3, u4, u5, u6, u7⟩, OY⟩ := (HR.out.2.1.below (hbr.out.mono hn)).elv hlt2 ((HR.out.2.2.2 j Y hY).kept (hbr.out.mono hn))
        have hm1 := szL_mem (List.mem_of_getElem? hX)
        have hm2 := szL_mem (List.mem_of_getElem? hY)
        have HX := Lib.hid (And.intro hX hY)
        have HW := Lib.hid (((Below.refl wr.heap.size wr).alloc (Nat.le_refl _) (bx X oL oK cL cK)).alloc (by simp) (bx Y oL' oK' cL' cK'))
        have hsz := hbr.out.size
        have hb3 : b2 < wr.heap.size := by omega
        have OX2 := Lib.hid (And.intro (OX.kept (HW.out.mono (by omega))) (OY.kept (HW.out.mono (by omega))))
        subst e1 e2
        clear hX hY OX OY
        go_wp2_with fail
        with_reducible refine (HF.out n X Y _ _ _ (by omega) OX2.out.1.lies OX2.out.2.lies (by simp; omega)).mono ?_
        rintro e w2 ⟨rfl, b2⟩
        have B2 := Lib.hid (hbr.out.trans ((HW.out.trans (b2.mono (by simp; omega))).mono hsz))
        clear b2
        cases hr : r X Y with
        | true =>
          have HE := Lib.hid hr
          clear hr
          go_wp2_with fail
          go_roundw
          case rel => exact ⟨j + 1, by omega, by go_num, (fun m X' Y' hm h1 h2 => by
            by_cases e : m = j
            · subst e; rw [HX.out.1] at h1; rw [HX.out.2] at h2; injection h1 with h1; injection h2 with h2; subst h1 h2; exact HE.out
            · exact hok.out m X' Y' (by omega) h1 h2), B2⟩
          case measure => simp [intOf]; omega
        | false =>
          have HE := Lib.hid (eqL_no (r := r) j HX.out.1 HX.out.2 hr)
          clear hr
          go_wp2_with fail
          go_ret
          exact ⟨by rw [HE.out]; rfl, B2.out⟩
      · have HX : Hid (eqL r l l' = true) := eqL_yes HL.out (fun m X Y h1 h2 => hok.out m X Y (by have := (List.getElem?_eq_some_iff.1 h1).1; omega) h1 h2)
        go_wp2_with fail
        go_ret
        exact ⟨by rw [HX.out]; rfl, hbr.out⟩
  · have HX : Hid (eqL r l l' = false) := eqL_len hl
    have g1 : ((l.length : Int) != (l'.length : Int)) = true := by simp; omega
    clear hl
    go_enter Tryd.func81, Tryd.ntmps81
    go_wp2_with fail
    go_ret
    exact ⟨by rw [HX.out]; rfl, Below.refl _ _⟩
end Go.Proofs.YtfmgbhaldakpfaaDoor

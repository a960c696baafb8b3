/- Attributes against keys, and against elements: EqualFunc. -/
import Derived.Test.YtfmgbhaldakpfaaDoorSk
namespace Go.Proofs.YtfmgbhaldakpfaaDoor
open Go.RowKit

def eqP {α β : Type} (r : α → β → Bool) : List α → List β → Bool
  | [], [] => true
  | a :: x, b :: y => r a b && eqP r x y
  | _, _ => false
theorem eqP_len {α β : Type} {r : α → β → Bool} : ∀ {x : List α} {y : List β}, x.length ≠ y.length → eqP r x y = false
  | [], [], h => absurd rfl h
  | [], _ :: _, _ => rfl
  | _ :: _, [], _ => rfl
  | a :: x, b :: y, h => by rw [eqP, eqP_len (x := x) (y := y) (fun e => h (by simp [e]))]; simp
theorem eqP_no {α β : Type} {r : α → β → Bool} : ∀ {x : List α} {y : List β} (j : Nat) {X : α} {Y : β}, x[j]? = some X → y[j]? = some Y → r X Y = false → eqP r x y = false
  | [], _, j, _, _, h, _, _ => by simp at h
  | _ :: _, [], j, _, _, _, h, _ => by simp at h
  | a :: x, b :: y, 0, X, Y, h1, h2, h => by simp at h1 h2; subst h1 h2; rw [eqP, h]; rfl
  | a :: x, b :: y, j + 1, X, Y, h1, h2, h => by rw [eqP, eqP_no (x := x) (y := y) j (by simpa using h1) (by simpa using h2) h]; simp
theorem eqP_yes {α β : Type} {r : α → β → Bool} : ∀ {x : List α} {y : List β}, x.length = y.length → (∀ (j : Nat) (X : α) (Y : β), x[j]? = some X → y[j]? = some Y → r X Y = true) → eqP r x y = true
  | [], [], _, _ => rfl
  | [], _ :: _, h, _ => by simp at h
  | _ :: _, [], h, _ => by simp at h
  | a :: x, b :: y, hl, h => by
    rw [eqP, h 0 a b rfl rfl, eqP_yes (x := x) (y := y) (by simpa using hl) (fun j X Y h1 h2 => h (j + 1) X Y (by simpa using h1) (by simpa using h2))]; rfl
set_option maxHeartbeats 2000000 in
theorem equalFunc_37_38 (r : Atr → Val → Bool) (N : Nat) (hf : ∀ (n : Nat) (A : Atr) (B : Val) (b : Value) (w : World), sz B ≤ N → Lies n w B b → n ≤ w.heap.size → Calls Tryd.prog 38 #[av A, b] w fun e w' => e = .returned (.bool (r A B)) ∧ Below w.heap.size w w')
    {n : Nat} {w : World} {l : List Atr} {l' : List Val} {o o' : Option Addr} {cap cap' : Nat} {c' : Nat → Nat → Value} (hs : szL l' ≤ N) (hR : AtRow (fun b => b < n) w o cap l) (hR' : Row n w o' cap' l'.length 8 c')
    (hE' : ∀ j x, l'[j]? = some x → Lies n w x (.agg #[c' j 0, c' j 1, c' j 2, c' j 3, c' j 4, c' j 5, c' j 6, c' j 7])) (hn : n ≤ w.heap.size) :
    Calls Tryd.prog 37 #[.slice o l.length cap, .slice o' l'.length cap', .func (.func 38) #[] #[]] w fun e w' => e = .returned (.bool (eqP r l l')) ∧ Below w.heap.size w w' := by
  have l1 := hR.1
  have l2 := hR.2.1
  have l3 := hR'.1
  have l4 := hR'.2.1
  unfold maxLen at l2 l4
  have HF := Lib.hid hf
  have HR := Lib.hid (And.intro hR (And.intro hR' hE'))
  clear hR hR' hE' hf
  by_cases hl : l.length = l'.length
  · have HL := Lib.hid hl
    have g1 : ((l.length : Int) != (l'.length : Int)) = false := by simp [hl]
    clear hl
    go_enter Tryd.func37, Tryd.ntmps37
    go_wp2_with fail
    go_loopw [17] (fun i wr => ∃ j : Nat, j ≤ l.length ∧ i = .int .i64 j ∧ Hid (∀ m X Y, m < j → l[m]? = some X → l'[m]? = some Y → r X Y = true) ∧ Hid (Below w.heap.size w wr)) (fun i _ => l.length - (intOf i).toNat)
    case atStart => exact ⟨0, Nat.zero_le _, rfl, fun _ _ _ h => absurd h (Nat.not_lt_zero _), Below.refl _ _⟩
    case round =>
      obtain ⟨j, hj, rfl, hok, hbr⟩ := hrel
      by_cases hlt : j < l.length
      · have hlt2 : j < l'.length := by have := HL.out; omega
        obtain ⟨X, hX⟩ : ∃ X, aa l j = X := ⟨_, rfl⟩
        have hX1 := aa_get hlt
        rw [hX] at hX1
        obtain ⟨Y, hY⟩ : ∃ Y, l'[j]? = some Y := ⟨_, List.getElem?_eq_getElem hlt2⟩
        obtain ⟨b1, off, e1, _, E1⟩ := AtRow.el (RowP.below HR.out.1 (hbr.out.mono hn)) hlt
        rw [hX] at E1
        obtain ⟨y0, y1, y2, y3, y4, y5, y6⟩ := E1
        obtain ⟨b2, off', oL', oK', cL', cK', c3', e2, hb2, ⟨u0, u1, u2, u3, u4, u5, u6, u7⟩, OY⟩ := (HR.out.2.1.below (hbr.out.mono hn)).elv hlt2 ((HR.out.2.2 j Y hY).kept (hbr.out.mono hn))
        have hm2 := szL_mem (List.mem_of_getElem? hY)
        have HX := Lib.hid (And.intro hX1 hY)
        have HW := Lib.hid (((Below.refl wr.heap.size wr).alloc (Nat.le_refl _) (.cells (ac X) 31)).alloc (by simp) (bx Y oL' oK' cL' cK'))
        have hsz := hbr.out.size
        have hb3 : b2 < wr.heap.size := by omega
        have OX2 := Lib.hid (OY.kept (HW.out.mono (by omega)))
        subst e1 e2
        clear hX hX1 hY OY
        go_wp2_with fail
        with_reducible refine (HF.out n X Y _ _ (by omega) OX2.out.lies (by simp; omega)).mono ?_
        rintro e w2 ⟨rfl, b2⟩
        have B2 := Lib.hid (hbr.out.trans ((HW.out.trans (b2.mono (by simp; omega))).mono hsz))
        clear b2
        cases hr : r X Y with
        | true =>
          have HE := Lib.hid hr
          clear hr
          go_wp2_with fail
          go_roundw
          case rel => exact ⟨j + 1, by omega, by go_num, (fun m X' Y' hm h1 h2 => by
            by_cases e : m = j
            · subst e; rw [HX.out.1] at h1; rw [HX.out.2] at h2; injection h1 with h1; injection h2 with h2; subst h1 h2; exact HE.out
            · exact hok.out m X' Y' (by omega) h1 h2), B2⟩
          case measure => simp [intOf]; omega
        | false =>
          have HE := Lib.hid (eqP_no (r := r) j HX.out.1 HX.out.2 hr)
          clear hr
          go_wp2_with fail
          go_ret
          exact ⟨by rw [HE.out]; rfl, B2.out⟩
      · have HX : Hid (eqP r l l' = true) := eqP_yes HL.out (fun m X Y h1 h2 => hok.out m X Y (by have := (List.getElem?_eq_some_iff.1 h1).1; omega) h1 h2)
        go_wp2_with fail
        go_ret
        exact ⟨by rw [HX.out]; rfl, hbr.out⟩
  · have HX : Hid (eqP r l l' = false) := eqP_len hl
    have g1 : ((l.length : Int) != (l'.length : Int)) = true := by simp; omega
    clear hl
    go_enter Tryd.func37, Tryd.ntmps37
    go_wp2_with fail
    go_ret
    exact ⟨by rw [HX.out]; rfl, Below.refl _ _⟩
set_option maxHeartbeats 2000000 in
theorem equalFunc_37_42 (r : Atr → Val → Bool) (N : Nat) (hf : ∀ (n : Nat) (A : Atr) (B : Val) (b : Value) (w : World), sz B ≤ N → Lies n w B b → n ≤ w.heap.size → Calls Tryd.prog 42 #[av A, b] w fun e w' => e = .returned (.bool (r A B)) ∧ Below w.heap.size w w')
    {n : Nat} {w : World} {l : List Atr} {l' : List Val} {o o' : Option Addr} {cap cap' : Nat} {c' : Nat → Nat → Value} (hs : szL l' ≤ N) (hR : AtRow (fun b => b < n) w o cap l) (hR' : Row n w o' cap' l'.length 8 c')
    (hE' : ∀ j x, l'[j]? = some x → Lies n w x (.agg #[c' j 0, c' j 1, c' j 2, c' j 3, c' j 4, c' j 5, c' j 6, c' j 7])) (hn : n ≤ w.heap.size) :
    Calls Tryd.prog 37 #[.slice o l.length cap, .slice o' l'.length cap', .func (.func 42) #[] #[]] w fun e w' => e = .returned (.bool (eqP r l l')) ∧ Below w.heap.size w w' := by
  have l1 := hR.1
  have l2 := hR.2.1
  have l3 := hR'.1
  have l4 := hR'.2.1
  unfold maxLen at l2 l4
  have HF := Lib.hid hf
  have HR := Lib.hid (And.intro hR (And.intro hR' hE'))
  clear hR hR' hE' hf
  by_cases hl : l.length = l'.length
  · have HL := Lib.hid hl
    have g1 : ((l.length : Int) != (l'.length : Int)) = false := by simp [hl]
    clear hl
    go_enter Tryd.func37, Tryd.ntmps37
    go_wp2_with fail
    go_loopw [17] (fun i wr => ∃ j : Nat, j ≤ l.length ∧ i = .int .i64 j ∧ Hid (∀ m X Y, m < j → l[m]? = some X → l'[m]? = some Y → r X Y = true) ∧ Hid (Below w.heap.size w wr)) (fun i _ => l.length - (intOf i).toNat)
    case atStart => exact ⟨0, Nat.zero_le _, rfl, fun _ _ _ h => absurd h (Nat.not_lt_zero _), Below.refl _ _⟩
    case round =>
      obtain ⟨j, hj, rfl, hok, hbr⟩ := hrel
      by_cases hlt : j < l.length
      · have hlt2 : j < l'.length := by have := HL.out; omega
        obtain ⟨X, hX⟩ : ∃ X, aa l j = X := ⟨_, rfl⟩
        have hX1 := aa_get hlt
        rw [hX] at hX1
        obtain ⟨Y, hY⟩ : ∃ Y, l'[j]? = some Y := ⟨_, List.getElem?_eq_getElem hlt2⟩
        obtain ⟨b1, off, e1, _, E1⟩ := AtRow.el (RowP.below HR.out.1 (hbr.out.mono hn)) hlt
        rw [hX] at E1
        obtain ⟨y0, y1, y2, y3, y4, y5, y6⟩ := E1
        obtain ⟨b2, off', oL', oK', cL', cK', c3', e2, hb2, ⟨u0, u1, u2, u3, u4, u5, u6, u7⟩, OY⟩ := (HR.out.2.1.below (hbr.out.mono hn)).elv hlt2 ((HR.out.2.2 j Y hY).kept (hbr.out.mono hn))
        have hm2 := szL_mem (List.mem_of_getElem? hY)
        have HX := Lib.hid (And.intro hX1 hY)
        have HW := Lib.hid (((Below.refl wr.heap.size wr).alloc (Nat.le_refl _) (.cells (ac X) 31)).alloc (by simp) (bx Y oL' oK' cL' cK'))
        have hsz := hbr.out.size
        have hb3 : b2 < wr.heap.size := by omega
        have OX2 := Lib.hid (OY.kept (HW.out.mono (by omega)))
        subst e1 e2
        clear hX hX1 hY OY
        go_wp2_with fail
        with_reducible refine (HF.out n X Y _ _ (by omega) OX2.out.lies (by simp; omega)).mono ?_
        rintro e w2 ⟨rfl, b2⟩
        have B2 := Lib.hid (hbr.out.trans ((HW.out.trans (b2.mono (by simp; omega))).mono hsz))
        clear b2
        cases hr : r X Y with
        | true =>
          have HE := Lib.hid hr
          clear hr
          go_wp2_with fail
          go_roundw
          case rel => exact ⟨j + 1, by omega, by go_num, (fun m X' Y' hm h1 h2 => by
            by_cases e : m = j
            · subst e; rw [HX.out.1] at h1; rw [HX.out.2] at h2; injection h1 with h1; injection h2 with h2; subst h1 h2; exact HE.out
            · exact hok.out m X' Y' (by omega) h1 h2), B2⟩
          case measure => simp [intOf]; omega
        | false =>
          have HE := Lib.hid (eqP_no (r := r) j HX.out.1 HX.out.2 hr)
          clear hr
          go_wp2_with fail
          go_ret
          exact ⟨by rw [HE.out]; rfl, B2.out⟩
      · have HX : Hid (eqP r l l' = true) := eqP_yes HL.out (fun m X Y h1 h2 => hok.out m X Y (by have := (List.getElem?_eq_some_iff.1 h1).1; omega) h1 h2)
        go_wp2_with fail
        go_ret
        exact ⟨by rw [HX.out]; rfl, hbr.out⟩
  · have HX : Hid (eqP r l l' = false) := eqP_len hl
    have g1 : ((l.length : Int) != (l'.length : Int)) = true := by simp; omega
    clear hl
    go_enter Tryd.func37, Tryd.ntmps37
    go_wp2_with fail
    go_ret
    exact ⟨by rw [HX.out]; rfl, Below.refl _ _⟩
set_option maxHeartbeats 2000000 in
theorem equalFunc_35 {n : Nat} {w : World} {l : List Atr} {l' : List ByteArray} {o o' : Option Addr} {cap cap' : Nat} (hR : AtRow (fun b => b < n) w o cap l) (hR' : Row n w o' cap' l'.length 1 (fun j _ => .string (l'.getD j default))) (hn : n ≤ w.heap.size) :
    Calls Tryd.prog 35 #[.slice o l.length cap, .slice o' l'.length cap', .func (.func 36) #[] #[]] w fun e w' => e = .returned (.bool (eqP (fun a s => decide (a.nm = s)) l l')) ∧ Below w.heap.size w w' := by
  have l1 := hR.1
  have l2 := hR.2.1
  have l3 := hR'.1
  have l4 := hR'.2.1
  unfold maxLen at l2 l4
  have HR := Lib.hid (And.intro hR hR')
  obtain ⟨r, hr⟩ : ∃ r : Atr → ByteArray → Bool, r = fun a s => decide (a.nm = s) := ⟨_, rfl⟩
  have HF : Hid (∀ (A : Atr) (s : ByteArray) (w : World), Calls Tryd.prog 36 #[av A, .string s] w fun e w' => e = .returned (.bool (r A s)) ∧ Below w.heap.size w w') := fun A s w => by rw [hr]; exact isNamed_any A s w
  rw [← hr]
  clear hR hR' hr
  by_cases hl : l.length = l'.length
  · have HL := Lib.hid hl
    have g1 : ((l.length : Int) != (l'.length : Int)) = false := by simp [hl]
    clear hl
    go_enter Tryd.func35, Tryd.ntmps35
    go_wp2_with fail
    go_loopw [17] (fun i wr => ∃ j : Nat, j ≤ l.length ∧ i = .int .i64 j ∧ Hid (∀ m X Y, m < j → l[m]? = some X → l'[m]? = some Y → r X Y = true) ∧ Hid (Below w.heap.size w wr)) (fun i _ => l.length - (intOf i).toNat)
    case atStart => exact ⟨0, Nat.zero_le _, rfl, fun _ _ _ h => absurd h (Nat.not_lt_zero _), Below.refl _ _⟩
    case round =>
      obtain ⟨j, hj, rfl, hok, hbr⟩ := hrel
      by_cases hlt : j < l.length
      · have hlt2 : j < l'.length := by have := HL.out; omega
        obtain ⟨X, hX⟩ : ∃ X, aa l j = X := ⟨_, rfl⟩
        have hX1 := aa_get hlt
        rw [hX] at hX1
        obtain ⟨Y, hY⟩ : ∃ Y, l'[j]? = some Y := ⟨_, List.getElem?_eq_getElem hlt2⟩
        obtain ⟨b1, off, e1, _, E1⟩ := AtRow.el (RowP.below HR.out.1 (hbr.out.mono hn)) hlt
        rw [hX] at E1
        obtain ⟨y0, y1, y2, y3, y4, y5, y6⟩ := E1
        obtain ⟨b2, off', e2, hb2, u0⟩ := (HR.out.2.below (hbr.out.mono hn)).key hlt2
        have hYk : kk l' j = Y := by unfold kk; rw [List.getD_eq_getElem?_getD, hY]; rfl
        rw [hYk] at u0
        have HX := Lib.hid (And.intro hX1 hY)
        have HW := Lib.hid ((Below.refl wr.heap.size wr).alloc (Nat.le_refl _) (.cells (ac X) 31))
        have hsz := hbr.out.size
        have hb3 : b2 < wr.heap.size := by omega
        subst e1 e2
        clear hX hX1 hY hYk
        go_wp2_with fail
        with_reducible refine (HF.out X Y _).mono ?_
        rintro e w2 ⟨rfl, b2⟩
        have B2 := Lib.hid (hbr.out.trans ((HW.out.trans (b2.mono HW.out.size)).mono hsz))
        clear b2
        cases hr : r X Y with
        | true =>
          have HE := Lib.hid hr
          clear hr
          go_wp2_with fail
          go_roundw
          case rel => exact ⟨j + 1, by omega, by go_num, (fun m X' Y' hm h1 h2 => by
            by_cases e : m = j
            · subst e; rw [HX.out.1] at h1; rw [HX.out.2] at h2; injection h1 with h1; injection h2 with h2; subst h1 h2; exact HE.out
            · exact hok.out m X' Y' (by omega) h1 h2), B2⟩
          case measure => simp [intOf]; omega
        | false =>
          have HE := Lib.hid (eqP_no (r := r) j HX.out.1 HX.out.2 hr)
          clear hr
          go_wp2_with fail
          go_ret
          exact ⟨by rw [HE.out]; rfl, B2.out⟩
      · have HX : Hid (eqP r l l' = true) := eqP_yes HL.out (fun m X Y h1 h2 => hok.out m X Y (by have := (List.getElem?_eq_some_iff.1 h1).1; omega) h1 h2)
        go_wp2_with fail
        go_ret
        exact ⟨by rw [HX.out]; rfl, hbr.out⟩
  · have HX : Hid (eqP r l l' = false) := eqP_len hl
    have g1 : ((l.length : Int) != (l'.length : Int)) = true := by simp; omega
    clear hl
    go_enter Tryd.func35, Tryd.ntmps35
    go_wp2_with fail
    go_ret
    exact ⟨by rw [HX.out]; rfl, Below.refl _ _⟩
end Go.Proofs.YtfmgbhaldakpfaaDoor

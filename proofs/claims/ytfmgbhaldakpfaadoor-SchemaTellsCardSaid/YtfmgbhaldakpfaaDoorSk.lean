/- Small questions of a value and an attribute. -/
import Derived.Test.YtfmgbhaldakpfaaDoorSi
import Derived.Test.YtfmgbhaldakpfaaDoorO
import Derived.Test.YtfmgbhaldakpfaaDoorY
import Derived.Test.YtfmgbhaldakpfaaDoorNb
namespace Go.Proofs.YtfmgbhaldakpfaaDoor
open Go.RowKit

theorem isNull_any {n : Nat} {V : Val} {v : Value} {w : World} (h : Lies n w V v) : Calls Tryd.prog 63 #[v] w fun e w' => e = .returned (.bool (V.k == 0)) ∧ Below w.heap.size w w' := by
  obtain ⟨oL, oK, cL, cK, c, rfl, O⟩ := h.inv
  clear O h
  go_enter Tryd.func63, Tryd.ntmps63
  go_wp2_with fail
  go_ret
  exact ⟨rfl, (Below.refl _ _).alloc (Nat.le_refl _) _⟩
def lacksB (a : Atr) (V : Val) : Bool := a.nd && V.k == 0
set_option maxHeartbeats 1000000 in
theorem lacks_any {n : Nat} {V : Val} {v : Value} {w : World} (a : Atr) (h : Lies n w V v) (hn : n ≤ w.heap.size) : Calls Tryd.prog 57 #[av a, v] w fun e w' => e = .returned (.bool (lacksB a V)) ∧ Below w.heap.size w w' := by
  obtain ⟨oL, oK, cL, cK, c, rfl, O⟩ := h.inv
  obtain ⟨nm, tk, t2, nd, cm, an, ow⟩ := a
  have HL : Hid (lacksB ⟨nm, tk, t2, nd, cm, an, ow⟩ V = (nd && V.k == 0)) := rfl
  have HO := Lib.hid (O.kept (((Below.refl w.heap.size w).alloc (Nat.le_refl _) (.cells (ac ⟨nm, tk, t2, nd, cm, an, ow⟩) 31)).alloc (by simp) (bx V oL oK cL cK) |>.mono hn)).lies
  have HB : Hid (Below w.heap.size w ((w.alloc (.cells (ac ⟨nm, tk, t2, nd, cm, an, ow⟩) 31)).alloc (bx V oL oK cL cK))) := ((Below.refl w.heap.size w).alloc (Nat.le_refl _) (.cells (ac ⟨nm, tk, t2, nd, cm, an, ow⟩) 31)).alloc (by simp) _
  have HN := Lib.hid (fun W (h : Lies n W V (vv V.k V.i V.s (.slice oL V.l.length cL) (.slice oK V.ks.length cK) V.tk V.to V.x)) => isNull_any h)
  clear O h
  generalize lacksB ⟨nm, tk, t2, nd, cm, an, ow⟩ V = L at *
  cases nd with
  | false =>
    have hl : Hid (L = false) := HL.out
    go_enter Tryd.func57, Tryd.ntmps57
    go_wp2_with fail
    go_ret
    exact ⟨by rw [hl.out]; rfl, HB.out⟩
  | true =>
    have hl : Hid (L = (V.k == 0)) := HL.out
    go_enter Tryd.func57, Tryd.ntmps57
    go_wp2_with fail
    refine (HN.out _ HO.out).mono ?_
    rintro e w1 ⟨rfl, b⟩
    have B := Lib.hid (HB.out.trans (b.mono HB.out.size))
    clear b
    go_wp2_with fail
    go_ret
    exact ⟨by rw [hl.out]; rfl, B.out⟩
def takesB (a : Atr) (V : Val) : Bool := fits V a.tk a.to && !lacksB a V
set_option maxHeartbeats 1000000 in
theorem takes_any {n : Nat} {V : Val} {v : Value} {w : World} (a : Atr) (hs : sz V ≤ 60000) (h : Lies n w V v) (hn : n ≤ w.heap.size) : Calls Tryd.prog 38 #[av a, v] w fun e w' => e = .returned (.bool (takesB a V)) ∧ Below w.heap.size w w' := by
  obtain ⟨oL, oK, cL, cK, c, rfl, O⟩ := h.inv
  have HL : Hid (takesB a V = (fits V a.tk a.to && !lacksB a V)) := rfl
  have b0 : Below w.heap.size w ((w.alloc (.cells (ac a) 31)).alloc (bx V oL oK cL cK)) := ((Below.refl w.heap.size w).alloc (Nat.le_refl _) (.cells (ac a) 31)).alloc (by simp) _
  have HO := Lib.hid (O.kept (b0.mono hn)).lies
  have HB := Lib.hid b0
  have HF := Lib.hid (fits_all 60000 n V _ _ a.tk a.to hs HO.out (by simp; omega))
  have HZ : Hid (∀ W : World, Below ((w.alloc (.cells (ac a) 31)).alloc (bx V oL oK cL cK)).heap.size ((w.alloc (.cells (ac a) 31)).alloc (bx V oL oK cL cK)) W → Calls Tryd.prog 57 #[av a, vv V.k V.i V.s (.slice oL V.l.length cL) (.slice oK V.ks.length cK) V.tk V.to V.x] W fun e w' => e = .returned (.bool (lacksB a V)) ∧ Below W.heap.size W w') :=
    fun W hW => lacks_any a (HO.out.kept (hW.mono (by simp; omega))) (Nat.le_trans (by simp; omega) hW.size)
  generalize takesB a V = L at *
  clear O h b0
  generalize lacksB a V = l0 at *
  generalize fits V a.tk a.to = f0 at *
  cases f0 with
  | false =>
    go_enter Tryd.func38, Tryd.ntmps38
    go_wp2_with fail
    refine HF.out.mono ?_
    rintro e w1 ⟨rfl, b⟩
    have B := Lib.hid (HB.out.trans (b.mono HB.out.size))
    clear b
    go_wp2_with fail
    go_ret
    exact ⟨by rw [HL.out]; rfl, B.out⟩
  | true =>
    go_enter Tryd.func38, Tryd.ntmps38
    go_wp2_with fail
    refine HF.out.mono ?_
    rintro e w1 ⟨rfl, b⟩
    have B := Lib.hid (HB.out.trans (b.mono HB.out.size))
    have B2 := Lib.hid b
    obtain ⟨hc, hfz⟩ := bcell b
    have hz : w.heap.size + 1 < w1.heap.size := by have := b.size; simp at this; omega
    clear b
    go_wp2_with fail
    refine (HZ.out _ B2.out).mono ?_
    rintro e w2 ⟨rfl, b⟩
    have B3 := Lib.hid (B.out.trans (b.mono B.out.size))
    clear b hc hfz hz
    go_wp2_with fail
    go_ret
    exact ⟨by rw [HL.out]; rfl, B3.out⟩
def toldB (a : Atr) (V : Val) : Bool := !a.cm || !(V.k == 0)
set_option maxHeartbeats 1000000 in
theorem isTold_any {n : Nat} {V : Val} {v : Value} {w : World} (a : Atr) (h : Lies n w V v) (hn : n ≤ w.heap.size) : Calls Tryd.prog 42 #[av a, v] w fun e w' => e = .returned (.bool (toldB a V)) ∧ Below w.heap.size w w' := by
  obtain ⟨oL, oK, cL, cK, c, rfl, O⟩ := h.inv
  obtain ⟨nm, tk, t2, nd, cm, an, ow⟩ := a
  have HL : Hid (toldB ⟨nm, tk, t2, nd, cm, an, ow⟩ V = (!cm || !(V.k == 0))) := rfl
  have b0 : Below w.heap.size w ((w.alloc (.cells (ac ⟨nm, tk, t2, nd, cm, an, ow⟩) 31)).alloc (bx V oL oK cL cK)) := ((Below.refl w.heap.size w).alloc (Nat.le_refl _) (.cells (ac ⟨nm, tk, t2, nd, cm, an, ow⟩) 31)).alloc (by simp) _
  have HO := Lib.hid (O.kept (b0.mono hn)).lies
  have HB := Lib.hid b0
  have HN := Lib.hid (isNull_any HO.out)
  generalize toldB ⟨nm, tk, t2, nd, cm, an, ow⟩ V = L at *
  clear O h b0
  cases cm with
  | false =>
    go_enter Tryd.func42, Tryd.ntmps42
    go_wp2_with fail
    go_ret
    exact ⟨by rw [HL.out]; rfl, HB.out⟩
  | true =>
    go_enter Tryd.func42, Tryd.ntmps42
    go_wp2_with fail
    refine HN.out.mono ?_
    rintro e w1 ⟨rfl, b⟩
    have B := Lib.hid (HB.out.trans (b.mono HB.out.size))
    clear b
    go_wp2_with fail
    go_ret
    exact ⟨by rw [HL.out]; rfl, B.out⟩
theorem isNamed_any (a : Atr) (s : ByteArray) (w : World) : Calls Tryd.prog 36 #[av a, .string s] w fun e w' => e = .returned (.bool (decide (a.nm = s))) ∧ Below w.heap.size w w' := by
  by_cases he : a.nm = s
  · have HD : Hid (decide (a.nm = s) = true) := decide_eq_true he
    generalize decide (a.nm = s) = D at *
    obtain ⟨e1, e2⟩ := str_eq he
    clear he
    go_enter Tryd.func36, Tryd.ntmps36
    go_wp2_with fail
    go_ret
    exact ⟨by rw [HD.out]; rfl, (Below.refl _ _).alloc (Nat.le_refl _) _⟩
  · have HD : Hid (decide (a.nm = s) = false) := decide_eq_false he
    generalize decide (a.nm = s) = D at *
    obtain ⟨e1, e2⟩ := str_ne he
    clear he
    go_enter Tryd.func36, Tryd.ntmps36
    go_wp2_with fail
    go_ret
    exact ⟨by rw [HD.out]; rfl, (Below.refl _ _).alloc (Nat.le_refl _) _⟩
def isMapB (V : Val) : Bool := V.k == 5 && chk V
set_option maxHeartbeats 1000000 in
theorem isMap_any {n : Nat} {V : Val} {v : Value} {w : World} (hs : sz V ≤ 50000) (h : Lies n w V v) (hn : n ≤ w.heap.size) : Calls Tryd.prog 34 #[v] w fun e w' => e = .returned (.bool (isMapB V)) ∧ Below w.heap.size w w' := by
  obtain ⟨oL, oK, cL, cK, c, rfl, O⟩ := h.inv
  have HL : Hid (isMapB V = (V.k == 5 && chk V)) := rfl
  have b0 : Below w.heap.size w (w.alloc (bx V oL oK cL cK)) := (Below.refl w.heap.size w).alloc (Nat.le_refl _) _
  have HO := Lib.hid (O.kept (b0.mono hn)).lies
  have HB := Lib.hid b0
  have HN := Lib.hid (check_any n V _ _ hs HO.out (by simp; omega))
  generalize isMapB V = L at *
  clear O h b0
  obtain ⟨k5, hk⟩ : ∃ b, (V.k == 5) = b := ⟨_, rfl⟩
  rw [hk] at HL
  cases k5 with
  | false =>
    go_enter Tryd.func34, Tryd.ntmps34
    go_wp2_with fail
    go_ret
    exact ⟨by rw [HL.out]; rfl, HB.out⟩
  | true =>
    go_enter Tryd.func34, Tryd.ntmps34
    go_wp2_with fail
    refine HN.out.mono ?_
    rintro e w1 ⟨rfl, b⟩
    have B := Lib.hid (HB.out.trans (b.mono HB.out.size))
    clear b
    cases hc : chk V with
    | false =>
      rw [hc] at HL
      have HC := Lib.hid hc
      rw [if_neg (by simp)]
      clear hc
      go_wp2_with fail
      go_ret
      exact ⟨by rw [HL.out]; rfl, B.out⟩
    | true =>
      rw [hc] at HL
      rw [if_pos rfl]
      clear hc
      go_wp2_with fail
      go_ret
      exact ⟨by rw [HL.out]; rfl, B.out⟩
end Go.Proofs.YtfmgbhaldakpfaaDoor

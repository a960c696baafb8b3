/- TypeOf. -/
import Derived.Test.YtfgkkccgecnchaaOd
import Derived.Test.YtfgkkccgecnchaaTj
import Derived.Deep.Cut
namespace Go.Proofs.Ytfgkkccgecnchaa
open Go.RowKit

/-- the Kind of what a list's elements have in common -/
def tyEnd (c : Typ.Ty) : Int := if c.1 = 4 ∨ c.1 = 5 then 0 else c.1
def tyF : Option Typ.Ty → List Typ.Ty → Int
  | c, [] => tyEnd (c.getD (0, 0))
  | c, t :: r => if (Typ.join (c.getD t) t).1 = 0 then 0 else tyF (some (Typ.join (c.getD t) t)) r
/-- the least type that a value fits -/
def typeOf (V : Val) : Typ.Ty :=
  if V.k = 1 ∨ V.k = 2 ∨ V.k = 3 then (V.k, 0) else if V.k = 4 ∨ V.k = 5 then (V.k, tyF none ((els V).attach.map fun x => typeOf x.1)) else if V.k = 6 then (V.tk, V.to) else (0, 0)
termination_by SizeOf.sizeOf V
decreasing_by exact sizeOf_mem_l (els_mem x.2)
def tyEl (V : Val) : Int := tyF none ((els V).map typeOf)
theorem typeOf_eq (V : Val) : typeOf V = if V.k = 1 ∨ V.k = 2 ∨ V.k = 3 then (V.k, 0) else if V.k = 4 ∨ V.k = 5 then (V.k, tyEl V) else if V.k = 6 then (V.tk, V.to) else (0, 0) := by
  rw [typeOf]
  have : ((els V).attach.map fun x => typeOf x.1) = (els V).map typeOf := by simp
  rw [this]; rfl
/-- what is still to come -/
def tyR (V : Val) (j : Nat) (c : Typ.Ty) : Int := tyF (if j = 0 then none else some c) (((els V).map typeOf).drop j)
theorem tyR_at {V X : Val} {j : Nat} {c : Typ.Ty} (h : (els V)[j]? = some X) : tyR V j c = if (Typ.join (if j = 0 then typeOf X else c) (typeOf X)).1 = 0 then 0 else tyR V (j + 1) (Typ.join (if j = 0 then typeOf X else c) (typeOf X)) := by
  obtain ⟨h1, e1⟩ := List.getElem?_eq_some_iff.1 h
  unfold tyR
  rw [List.drop_eq_getElem_cons (by simpa using h1), tyF]
  simp only [List.getElem_map, e1, if_neg (Nat.succ_ne_zero j)]
  by_cases e : j = 0
  · simp only [e, if_true, Option.getD_none]
  · simp only [e, if_false, Option.getD_some]
theorem tyR_end {V : Val} {j : Nat} {c : Typ.Ty} (h : j = cnt V) (h0 : j = 0 → c = (0, 0)) : tyR V j c = tyEnd c := by
  unfold tyR
  have e1 : ((els V).map typeOf).drop j = [] := by rw [List.drop_eq_nil_iff]; simp [els_len]; omega
  rw [e1]
  by_cases e : j = 0
  · rw [if_pos e, h0 e]; rfl
  · rw [if_neg e]; rfl
/-- block b holds a type -/
def Tb (w : World) (b : Nat) (k o : Int) : Prop := w.heap[b]? = some (.cells #[.int .i64 k, .int .i64 o] 25 (0, 0))
theorem Tb.lt {w : World} {b : Nat} {k o : Int} (h : Tb w b k o) : b < w.heap.size := (Array.getElem?_eq_some_iff.1 h).1
theorem Tb.keep {w w' : World} {b m : Nat} {k o : Int} (h : Tb w b k o) (e : Below m w w') (hb : b < m) : Tb w' b k o := by unfold Tb; rw [e.block b hb]; exact h
theorem Tb.cells {w : World} {b : Nat} {k o : Int} (h : Tb w b k o) : w.cell? ⟨b, 0, none⟩ = some (.int .i64 k) ∧ w.cell? ⟨b, 1, none⟩ = some (.int .i64 o) ∧ w.frozen? ⟨b, 0, none⟩ = false ∧ w.frozen? ⟨b, 1, none⟩ = false := by
  refine ⟨?_, ?_, frozen_of_row w b _ _ 25 h, frozen_of_row w b _ _ 25 h⟩ <;> rw [cell_of_row w b _ _ 25 (0, 0) h] <;> rfl
theorem Tb.set {w : World} {b : Nat} {k o : Int} (h : Tb w b k o) (k' o' : Int) : Tb ((w.setCell ⟨b, 0, none⟩ (.int .i64 k')).setCell ⟨b, 1, none⟩ (.int .i64 o')) b k' o' := by
  unfold Tb
  have h1 := heap_setCell_same w b 0 _ 25 (.int .i64 k') h
  rw [heap_setCell_same _ b 1 _ 25 _ h1]; rfl
theorem Tb.other {w : World} {b b' : Nat} {k o : Int} (h : Tb w b k o) (k' o' : Int) (hb : b ≠ b') : Tb ((w.setCell ⟨b', 0, none⟩ (.int .i64 k')).setCell ⟨b', 1, none⟩ (.int .i64 o')) b k o := by
  unfold Tb; rw [heap_setCell_other _ _ b _ hb, heap_setCell_other _ _ b _ hb]; exact h
theorem Exc.set2 {cb : Nat} {a w : World} (h : Exc (some cb) a w) (u v : Value) : Exc (some cb) a ((w.setCell ⟨cb, 0, none⟩ u).setCell ⟨cb, 1, none⟩ v) := by
  have s := fun (x : World) (hx : Exc (some cb) a x) (o : Nat) (v : Value) => (⟨hx.os, hx.tape, hx.output, by rw [World.size_setCell]; exact hx.size, fun k hk hc => (heap_setCell_other x ⟨cb, o, none⟩ k v (fun e => hc (by rw [e]))).trans (hx.block k hk hc)⟩ : Exc (some cb) a (x.setCell ⟨cb, o, none⟩ v))
  exact s _ (s _ h 0 u) 1 v
/-- what is kept of a round -/
theorem Exc.grow {cb : Nat} {a b c : World} (h : Exc (some cb) a b) (x : Below b.heap.size b c) : Exc (some cb) a c := h.trans (Exc.of_below x)
set_option maxRecDepth 100000 in
set_option maxHeartbeats 4000000 in
theorem tyEl_any (N : Nat) (hf : ∀ (n : Nat) (V : Val) (v : Value) (w : World), sz V ≤ N → Lies n w V v → n ≤ w.heap.size → Calls Try.prog 27 #[v] w fun e w' => e = .returned (Typ.ty (typeOf V).1 (typeOf V).2) ∧ Below w.heap.size w w') :
    ∀ (n : Nat) (V : Val) (v : Value) (w : World), sz V ≤ N + 1 → Lies n w V v → n ≤ w.heap.size → Calls Try.prog 61 #[v] w fun e w' => e = .returned (.int .i64 (tyEl V)) ∧ Below w.heap.size w w' := by
  intro n V v w hs h hn
  obtain ⟨oL, oK, cL, cK, c, rfl, O⟩ := h.inv
  obtain ⟨R, hR⟩ : ∃ R, R = tyEl V := ⟨_, rfl⟩
  rw [← hR]
  have HR : Hid (R = tyR V 0 (0, 0)) := hR
  have HF := Lib.hid hf
  have hcnt := cnt_le V
  have HW := Lib.hid ((Below.refl w.heap.size w).alloc (Nat.le_refl _) (bx V oL oK cL cK))
  have HZ : Hid ((w.alloc (bx V oL oK cL cK)).heap.size = w.heap.size + 1) := by simp [Hid]
  have H := Lib.hid (O.kept (HW.out.mono hn))
  clear h O hf hR
  go_enter Try.func61, Try.ntmps61
  go_wp2_with fail
  generalize w.alloc _ = w0 at *
  with_reducible refine (held_any H.out (by have := HZ.out; omega)).mono ?_
  rintro e w1 ⟨oL2, oK2, cL2, cK2, rfl, rL, rK, b1⟩
  have RM := rL.2.1
  have RC := rL.1
  unfold maxLen at RM
  have HW2 := Lib.hid ((b1.mono (Nat.le_refl _)).alloc b1.size (.cells #[.int .i64 0, .int .i64 0] 25))
  have RL := Lib.hid (rL.below ((Below.refl n w1).alloc (by have := b1.size; have := HZ.out; omega) (.cells #[.int .i64 0, .int .i64 0] 25)))
  have H2 := Lib.hid (H.out.kept (HW2.out.mono (by have := HZ.out; omega)))
  have HT : Hid (Tb (w1.alloc (.cells #[.int .i64 0, .int .i64 0] 25)) w1.heap.size 0 0) := heap_alloc_new w1 _
  have HZ2 : Hid (n ≤ w1.heap.size ∧ w.heap.size < w1.heap.size ∧ (w1.alloc (.cells #[.int .i64 0, .int .i64 0] 25)).heap.size = w1.heap.size + 1) := ⟨by have := b1.size; have := HZ.out; omega, by have := b1.size; have := HZ.out; omega, by simp⟩
  clear rL rK b1
  go_wp2_with fail
  generalize w1.alloc _ = w2 at *
  go_loopw [16] (fun i wr => ∃ (j : Nat) (c1 c2 : Int), j ≤ cnt V ∧ i = .int .i64 j ∧ Hid (R = tyR V j (c1, c2)) ∧ Hid (j = 0 → (c1, c2) = (0, 0)) ∧ Hid (Tb wr w1.heap.size c1 c2) ∧ Hid (Exc (some w1.heap.size) w2 wr)) (fun i _ => cnt V - (intOf i).toNat)
  case atStart => exact ⟨0, 0, 0, by omega, rfl, HR, fun _ => rfl, HT, Exc.refl _ _⟩
  case round =>
    obtain ⟨j, c1, c2, hj, rfl, hrel, hz0, htb, hx⟩ := hrel
    have hsz := hx.out.size
    have hb5 := htb.out.lt
    have hzz := HZ2.out.2.2
    by_cases hlt : j < cnt V
    · have hlt2 : j < V.l.length := by omega
      obtain ⟨X, hX⟩ : ∃ X, V.l[j]? = some X := ⟨_, List.getElem?_eq_getElem hlt2⟩
      have BN := Lib.hid (hx.out.below (n := n) (by have := HZ2.out.1; omega) (fun k e => by injection e with e; have := HZ2.out.1; omega))
      obtain ⟨b, off, oL3, oK3, cL3, cK3, c3, e1, hb, ⟨y0, y1, y2, y3, y4, y5, y6, y7⟩, OX⟩ := (RL.out.below BN.out).elv hlt ((H2.out.kept BN.out).el j X hX)
      have hmem := sz_mem (List.mem_of_getElem? hX)
      have HX := Lib.hid (tyR_at (c := (c1, c2)) (els_some hX hlt))
      have HW3 := Lib.hid ((Below.refl wr.heap.size wr).alloc (Nat.le_refl _) (bx X oL3 oK3 cL3 cK3))
      have hnr : n ≤ wr.heap.size := by have := HZ2.out.1; omega
      have OX2 := Lib.hid (OX.kept (HW3.out.mono hnr))
      subst e1
      clear hX OX
      go_wp2_with fail
      with_reducible refine (HF.out n X _ _ (by omega) OX2.out.lies (by simp; omega)).mono ?_
      obtain ⟨ta, tb, ht⟩ : ∃ ta tb, typeOf X = (ta, tb) := ⟨_, _, rfl⟩
      rw [ht] at HX ⊢
      rintro e w3 ⟨rfl, b3⟩
      have B3 := Lib.hid (HW3.out.trans (b3.mono (by simp)))
      have z3 := B3.out.size
      have T5 := Lib.hid ((htb.out.keep B3.out hb5).keep ((Below.refl w3.heap.size w3).alloc (Nat.le_refl _) (.cells #[.int .i64 ta, .int .i64 tb] 25)) (by omega))
      have T8 : Hid (Tb (w3.alloc (.cells #[.int .i64 ta, .int .i64 tb] 25)) w3.heap.size ta tb) := heap_alloc_new w3 _
      have X4 := Lib.hid ((hx.out.grow B3.out).grow ((Below.refl w3.heap.size w3).alloc (Nat.le_refl _) (.cells #[.int .i64 ta, .int .i64 tb] 25)))
      have hn8 : w1.heap.size < w3.heap.size := by omega
      have Z4 : Hid ((w3.alloc (.cells #[.int .i64 ta, .int .i64 tb] 25)).heap.size = w3.heap.size + 1) := by simp [Hid]
      have HN8 := Lib.hid hn8
      clear b3 y0 y1 y2 y3 y4 y5 y6 y7 hn8 z3
      go_upto_region 7 with fail
      generalize w3.alloc _ = w4 at *
      obtain ⟨p0, p1, p2, p3⟩ := T5.out.cells
      obtain ⟨q0, q1, q2, q3⟩ := T8.out.cells
      by_cases h0 : j = 0
      · rw [if_pos h0] at HX
        obtain ⟨xa, xb, hjn⟩ : ∃ xa xb, Typ.join (ta, tb) (ta, tb) = (xa, xb) := ⟨_, _, rfl⟩
        have HJ := Lib.hid hjn
        rw [hjn] at HX
        clear hjn
        have T5b := Lib.hid (T5.out.set ta tb)
        have T8b := Lib.hid (T8.out.other ta tb (show w3.heap.size ≠ w1.heap.size by have := HN8.out; omega))
        have X5 := Lib.hid (X4.out.set2 (.int .i64 ta) (.int .i64 tb))
        have H0 := Lib.hid h0
        have g0 : ((j : Int) == 0) = true := by simp [h0]
        clear h0
        go_upto_region 9 with fail
        generalize World.setCell (World.setCell _ _ _) _ _ = w5 at *
        clear p0 p1 p2 p3 q0 q1 q2 q3
        obtain ⟨p0, p1, p2, p3⟩ := T5b.out.cells
        obtain ⟨q0, q1, q2, q3⟩ := T8b.out.cells
        go_wp2_with fail
        with_reducible refine (Typ.join_is ta tb ta tb xa xb HJ.out _).mono ?_
        rintro e w6 ⟨rfl, b6⟩
        have z6 := b6.size
        have T6 := T5b.out.keep b6 (by have := X5.out.size; omega)
        have T7 := Lib.hid (T6.set xa xb)
        have X7 := Lib.hid ((X5.out.grow b6).set2 (.int .i64 xa) (.int .i64 xb))
        obtain ⟨s0, s1, s2, s3⟩ := T6.cells
        clear b6 T6 z6
        go_upto_region 10 with fail
        generalize World.setCell (World.setCell _ _ _) _ _ = w7 at *
        clear s0 s1 s2 s3
        obtain ⟨s0, s1, s2, s3⟩ := T7.out.cells
        by_cases hxa : xa = 0
        · have HE : Hid (R = 0) := by unfold Hid; rw [hrel.out, HX.out, if_pos hxa]
          subst hxa
          have BW : Hid (Below w.heap.size w w7) := HW.out.trans ((HW2.out.mono (by have := HZ.out; omega)).trans (X7.out.below (by have := HZ2.out.2.1; omega) (fun k e => by injection e with e; have := HZ2.out.2.1; omega)))
          go_wp2_with fail
          go_ret
          exact ⟨(ret_int HE.out.symm : Ending.returned (.int .i64 _) = _), BW.out⟩
        · have HE : Hid (R = tyR V (j + 1) (xa, xb)) := by unfold Hid; rw [hrel.out, HX.out, if_neg hxa]
          have g0 : (xa == 0) = false := by rw [beq_eq_false_iff_ne]; exact hxa
          clear hxa
          go_wp2_with fail
          go_roundw
          case rel => exact ⟨j + 1, xa, xb, by omega, by go_num, HE, fun h => absurd h (Nat.succ_ne_zero _), T7, X7⟩
          case measure => simp [intOf]; omega
      · rw [if_neg h0] at HX
        obtain ⟨xa, xb, hjn⟩ : ∃ xa xb, Typ.join (c1, c2) (ta, tb) = (xa, xb) := ⟨_, _, rfl⟩
        have HJ := Lib.hid hjn
        rw [hjn] at HX
        clear hjn
        have T5b := T5
        have X5 := X4
        have g0 : ((j : Int) == 0) = false := by rw [beq_eq_false_iff_ne]; omega
        have H0 := Lib.hid h0
        clear h0
        go_wp2_with fail
        with_reducible refine (Typ.join_is c1 c2 ta tb xa xb HJ.out _).mono ?_
        rintro e w6 ⟨rfl, b6⟩
        have z6 := b6.size
        have T6 := T5b.out.keep b6 (by have := X5.out.size; omega)
        have T7 := Lib.hid (T6.set xa xb)
        have X7 := Lib.hid ((X5.out.grow b6).set2 (.int .i64 xa) (.int .i64 xb))
        obtain ⟨s0, s1, s2, s3⟩ := T6.cells
        clear b6 T6 z6
        go_upto_region 10 with fail
        generalize World.setCell (World.setCell _ _ _) _ _ = w7 at *
        clear s0 s1 s2 s3
        obtain ⟨s0, s1, s2, s3⟩ := T7.out.cells
        by_cases hxa : xa = 0
        · have HE : Hid (R = 0) := by unfold Hid; rw [hrel.out, HX.out, if_pos hxa]
          subst hxa
          have BW : Hid (Below w.heap.size w w7) := HW.out.trans ((HW2.out.mono (by have := HZ.out; omega)).trans (X7.out.below (by have := HZ2.out.2.1; omega) (fun k e => by injection e with e; have := HZ2.out.2.1; omega)))
          go_wp2_with fail
          go_ret
          exact ⟨(ret_int HE.out.symm : Ending.returned (.int .i64 _) = _), BW.out⟩
        · have HE : Hid (R = tyR V (j + 1) (xa, xb)) := by unfold Hid; rw [hrel.out, HX.out, if_neg hxa]
          have g0 : (xa == 0) = false := by rw [beq_eq_false_iff_ne]; exact hxa
          clear hxa
          go_wp2_with fail
          go_roundw
          case rel => exact ⟨j + 1, xa, xb, by omega, by go_num, HE, fun h => absurd h (Nat.succ_ne_zero _), T7, X7⟩
          case measure => simp [intOf]; omega
    · have HX := Lib.hid (tyR_end (V := V) (j := j) (c := (c1, c2)) (by omega) hz0.out)
      obtain ⟨p0, p1, p2, p3⟩ := htb.out.cells
      have BW : Hid (Below w.heap.size w wr) := HW.out.trans ((HW2.out.mono (by have := HZ.out; omega)).trans (hx.out.below (by have := HZ2.out.2.1; omega) (fun k e => by injection e with e; have := HZ2.out.2.1; omega)))
      by_cases h4 : c1 = 4
      · have HE : Hid (R = 0) := by unfold Hid; rw [hrel.out, HX.out]; unfold tyEnd; rw [if_pos (Or.inl h4)]
        subst h4
        go_wp2_with fail
        go_ret
        exact ⟨(ret_int HE.out.symm : Ending.returned (.int .i64 _) = _), BW.out⟩
      · have g4 : (c1 == 4) = false := by rw [beq_eq_false_iff_ne]; exact h4
        by_cases h5 : c1 = 5
        · have HE : Hid (R = 0) := by unfold Hid; rw [hrel.out, HX.out]; unfold tyEnd; rw [if_pos (Or.inr h5)]
          subst h5
          clear g4 h4
          go_wp2_with fail
          go_ret
          exact ⟨(ret_int HE.out.symm : Ending.returned (.int .i64 _) = _), BW.out⟩
        · have g5 : (c1 == 5) = false := by rw [beq_eq_false_iff_ne]; exact h5
          have HE : Hid (R = c1) := by unfold Hid; rw [hrel.out, HX.out]; unfold tyEnd; rw [if_neg (by simp only; omega)]
          clear h4 h5
          go_wp2_with fail
          go_ret
          exact ⟨(ret_int HE.out.symm : Ending.returned (.int .i64 _) = _), BW.out⟩
end Go.Proofs.Ytfgkkccgecnchaa

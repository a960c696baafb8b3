/- The reference's Computed. -/
import Derived.Test.YtfmgbhaldakpfaaDoorCg
import Derived.Test.YtfmgbhaldakpfaaDoorCd
namespace Go.Proofs.YtfmgbhaldakpfaaDoor
open Go.RowKit

/-- values in the call's own row; they lie in old memory -/
def OwnV (n lo : Nat) (F : Nat → Val) (j : Nat) (v : Value) (cs : List Value) (c : Nat → Nat → Value) (wr : World) : Prop :=
  wr.ownsRow lo 42 8 v j cs ∧ cs.length = j * 8 ∧ (∀ i, i < j → ∀ m, m < 8 → cs[i * 8 + m]? = some (c i m)) ∧ ∀ i, i < j → LiesP (fun b => b < n) wr (F i) (agg8 c i)
def RvRel (n : Nat) (F : Nat → Val) (w1 : World) (j : Nat) (v : Value) (wr : World) : Prop := ∃ cs c, OwnV n w1.heap.size F j v cs c wr ∧ Below w1.heap.size w1 wr
theorem OwnV.step {n j g cap : Nat} {F : Nat → Val} {w1 wr w2 w3 : World} {v : Value} {cs : List Value} {c : Nat → Nat → Value} {a0 a1 a2 a3 a4 a5 a6 a7 : Value} (h : OwnV n w1.heap.size F j v cs c wr) (hB : Below w1.heap.size w1 wr) (hn : n ≤ w1.heap.size) (hb : Below wr.heap.size wr w2)
    (hown : w3.ownsRow w1.heap.size 42 8 (.slice (some ⟨g, 0, none⟩) (j + 1) cap) (j + 1) (cs ++ [a0, a1, a2, a3, a4, a5, a6, a7])) (hg : w2.grownBy w3 v.ownBlock) (hX : LiesP (fun b => b < n) w2 (F j) (.agg #[a0, a1, a2, a3, a4, a5, a6, a7])) : RvRel n F w1 (j + 1) (.slice (some ⟨g, 0, none⟩) (j + 1) cap) w3 := by
  obtain ⟨h1, h2, h3, h4⟩ := h
  have hB3 := (hB.trans (hb.mono hB.size)).grown hg (Nat.le_trans hB.size hb.size) (fun g hg => (h1.lt g hg).1)
  have hB23 : Below w1.heap.size w2 w3 := (Below.refl w1.heap.size w2).grown hg (Nat.le_trans hB.size hb.size) (fun g hg => (h1.lt g hg).1)
  have hBr3 : Below w1.heap.size wr w3 := (hb.mono hB.size).trans hB23
  refine ⟨cs ++ [a0, a1, a2, a3, a4, a5, a6, a7], fun i m => if i = j then ([a0, a1, a2, a3, a4, a5, a6, a7] : List Value).getD m undef else c i m, ⟨hown, by simp [h2]; omega, fun i hi m hm => ?_, fun i hi => ?_⟩, hB3⟩
  · by_cases e : i = j
    · subst e
      dsimp only
      rw [if_pos rfl, List.getElem?_append_right (by rw [h2]; omega), h2, Nat.add_sub_cancel_left]
      have : m < ([a0, a1, a2, a3, a4, a5, a6, a7] : List Value).length := by simpa using hm
      rw [List.getD_eq_getElem?_getD, List.getElem?_eq_getElem this]; rfl
    · dsimp only
      rw [if_neg e, List.getElem?_append_left (by rw [h2]; omega)]
      exact h3 i (by omega) m hm
  · by_cases e : i = j
    · subst e
      simp only [agg8, if_true]
      exact hX.keptP fun q hq => ⟨hq, hB23.block q (by omega)⟩
    · simp only [agg8, if_neg e]
      exact (h4 i (by omega)).keptP fun q hq => ⟨hq, hBr3.block q (by omega)⟩
theorem OwnV.row {n lo j : Nat} {F : Nat → Val} {w : World} {v : Value} {cs : List Value} {c : Nat → Nat → Value} (h : OwnV n lo F j v cs c w) : ∃ o cap, v = .slice o j cap ∧ RowP (fun b => lo ≤ b ∧ b < w.heap.size) w o cap j 8 c := by
  obtain ⟨h1, h2, h3, h4⟩ := h
  rcases h1.2 with ⟨rfl, h0⟩ | ⟨g, cap, cur, rfl, hg, hgg, rest⟩
  · have hj : j = 0 := by rw [h0] at h2; simp at h2; omega
    subst hj
    exact ⟨none, 0, rfl, RowP.nil _ _ _ _⟩
  · have hlt := (h1.lt g rfl).2
    refine ⟨some ⟨g, 0, none⟩, cap, rfl, rest.1, rest.2.1, fun e => (by cases e), fun hl => ⟨g, 0, rfl, ⟨hg, hlt⟩, fun i hi m hm => ?_⟩⟩
    have := h1.cells (g := g) rfl (i * 8 + m) _ (h3 i hi m hm)
    have ea : (⟨g, 0, none⟩ : Addr).add (i * 8 + m) = ⟨g, 0 + i * 8 + m, none⟩ := by unfold Addr.add; split <;> simp_all <;> omega
    rw [ea] at this
    exact this
/-- what the reference's Computed answers -/
def RcPost (Y : Val) (w : World) (e : Ending) (w' : World) : Prop :=
  ∃ (oL oK : Option Addr) (cL cK : Nat) (c : Nat → Nat → Value), e = .returned (vv Y.k Y.i Y.s (.slice oL Y.l.length cL) (.slice oK Y.ks.length cK) Y.tk Y.to Y.x) ∧ OpnP (fun b => b < w'.heap.size) w' Y oL oK cL cK c ∧ Below w.heap.size w w'
theorem eltE_none {V : Val} {s : ByteArray} (h : At V.ks V.ks.length s (-1)) : eltE V s ≠ 0 := by
  unfold eltE
  split
  · rw [ixK_none h]; decide
  · decide
theorem eltE_some {V : Val} {s : ByteArray} {j : Nat} (h5 : V.k = 5) (h : At V.ks V.ks.length s j) : eltE V s = 0 := by unfold eltE; rw [if_pos h5, ixK_some h]
theorem eltE_not {V : Val} {s : ByteArray} (h : V.k ≠ 5) : eltE V s ≠ 0 := by unfold eltE; rw [if_neg h]; decide
theorem find39_any {n : Nat} {V : Val} {v : Value} {w : World} (s : ByteArray) (hkl : V.k = 5 → V.ks.length = V.l.length) (h : Lies n w V v) (hn : n ≤ w.heap.size) :
    Calls Tryd.prog 39 #[v, .string s] w fun e w' => (∃ r : Int, e = .returned (.int .i64 r) ∧ ((r = -1 ∧ eltE V s ≠ 0) ∨ ∃ (j : Nat) (X : Val), r = j ∧ V.l[j]? = some X ∧ elt V s = X.sx (X.x || V.x) ∧ eltE V s = 0)) ∧ Below w.heap.size w w' := by
  by_cases h5 : V.k = 5
  · refine (find_any s h5 (hkl h5) h hn).mono ?_
    rintro e w' ⟨⟨r, rfl, hA⟩, hb⟩
    refine ⟨⟨r, rfl, ?_⟩, hb⟩
    have hA2 := hA
    rcases hA with ⟨rfl, _⟩ | ⟨j, rfl, hj, _⟩
    · exact .inl ⟨rfl, eltE_none hA2⟩
    · have hjl : j < V.l.length := by rw [← hkl h5]; exact hj
      exact .inr ⟨j, V.l[j], rfl, List.getElem?_eq_getElem hjl, elt_some h5 hA2 (List.getElem?_eq_getElem hjl), eltE_some h5 hA2⟩
  · refine (find_not s h5 h hn).mono ?_
    rintro e w' ⟨rfl, hb⟩
    exact ⟨⟨-1, rfl, .inl ⟨rfl, eltE_not h5⟩⟩, hb⟩
/-- what Find answers, in one form -/
theorem rfind2_any (t nm : ByteArray) (w : World) : Calls Tryd.prog 10 #[.string t, .string nm] w fun e w' => ∃ (a : Atr) (fb : Bool), e = .returned (.tuple #[av a, .bool fb]) ∧ Below w.heap.size w w' ∧ (match find t nm with | none => fb = false | some b => fb = true ∧ a = b) := by
  refine (rfind_any t nm w).mono ?_
  rintro e w' ⟨hb, h⟩
  cases hf : find t nm with
  | none => rw [hf] at h; exact ⟨zAt, false, h, hb, rfl⟩
  | some b => rw [hf] at h; exact ⟨b, true, h, hb, rfl, rfl⟩
theorem cp_opnR {t : ByteArray} {A B : Val} {P Q : Nat → Prop} {w w1 : World} {o oL o3 : Option Addr} {c1 cL c3 : Nat} {cc C : Nat → Nat → Value} (h5 : A.k = 5) (O : OpnP P w1 A oL o3 cL c3 cc)
    (hL : RowP Q w o c1 A.l.length 8 C) (hE : ∀ m, m < A.l.length → LiesP Q w (cpF A B (attrs t) m) (agg8 C m)) (hK : RowP Q w o3 c3 A.ks.length 1 fun j _ => .string (A.ks.getD j default)) :
    OpnP Q w (cpV t A B) o o3 c1 c3 C := by
  have e : cpV t A B = A.sl ((List.range A.l.length).map (cpF A B (attrs t))) := by unfold cpV; rw [if_pos h5]
  have el : (A.sl ((List.range A.l.length).map (cpF A B (attrs t)))).l.length = A.l.length := by rw [sl_l, List.length_map, List.length_range]
  rw [e]
  refine ⟨O.wk, O.wi, O.wtk, O.wto, O.ws, O.wks, by rw [el]; exact hL, hK, fun j x hx => ?_⟩
  rw [sl_l, List.getElem?_map] at hx
  obtain ⟨i, hi, rfl⟩ := Option.map_eq_some_iff.1 hx
  have hj : j < A.l.length := by have := (List.getElem?_eq_some_iff.1 hi).1; simpa using this
  rw [List.getElem?_range hj] at hi
  injection hi with hi
  subst hi
  exact hE j hj
end Go.Proofs.YtfmgbhaldakpfaaDoor

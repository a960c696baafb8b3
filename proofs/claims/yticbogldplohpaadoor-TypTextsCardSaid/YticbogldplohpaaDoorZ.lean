/- What the laid table gives; a type by value, opened and shut. -/
import Derived.Test.YticbogldplohpaaDoorT
import Derived.Test.YticbogldplohpaaDoorRows
import Derived.WalkKit
import Derived.ProofKit
import Derived.LaidMore
import Derived.Lib.LaidTab
import Derived.Lib.SmallJoins
import Derived.OpenShut
import Derived.Stop.Joined
import Derived.Stop.LaidErr
import Derived.ShutString
import Derived.Below
import Derived.Carry
import Derived.SizedLaws
namespace Go.Proofs.YticbogldplohpaaDoor
open Go.ChangeShapes Go.WideShapes Go.ChangeAt Go.RowKit Go.Joins

theorem own : ownKnob Tryd.prog.godebug = none := by kernel_rfl
theorem cells23 : Tryd.prog.cellsOf 23 = 2 := by kernel_rfl
section
variable {H : Type} {enc : TypeId × Value → H} {w : World} {base : Nat} {spare : Nat → Bool} {held : Bool}
theorem open_ty {r : Reach} {b0 : Nat} {v : Value} {d : DataW H} {p : List MemPlace} (hv : Value.okWide Tryd.prog w r b0 23 v) (h : DataW.Trod enc Tryd.prog w base spare held 23 v d p) :
    ∃ k o, v = ty k o ∧ d = .agg [.lit (.int .i64 k), .lit (.int .i64 o)] ∧ p = [] ∧ (Lit.int .i64 k).wf = true ∧ (Lit.int .i64 o).wf = true := by
  obtain ⟨c0, c1, y0, y1, m, rfl, rfl, rfl, hy0, hy1⟩ := open_agg2 Tryd.underlying23 (by kernel_rfl) cells23 hv h
  obtain ⟨a, e0, rfl, wa⟩ := DataW.trod_int Tryd.underlying3 hy0
  obtain ⟨b, e1, rfl, wb⟩ := DataW.trod_int Tryd.underlying3 hy1
  simp at e0 e1
  subst e0 e1
  exact ⟨a, b, rfl, rfl, rfl, wa, wb⟩
theorem shut_ty {k o : Int} (wa : (Lit.int .i64 k).wf = true) (wb : (Lit.int .i64 o).wf = true) : DataW.Trod enc Tryd.prog w base spare held 23 (ty k o) (.agg [.lit (.int .i64 k), .lit (.int .i64 o)]) [] :=
  shut_agg2 (y0 := (.lit (.int .i64 k), [])) (y1 := (.lit (.int .i64 o), [])) Tryd.underlying23 (by kernel_rfl) cells23 ⟨1, by simp [DataW.trod, Tryd.underlying3, wa]⟩ ⟨1, by simp [DataW.trod, Tryd.underlying3, wb]⟩
end
/-- a table of texts, as a row lists it -/
def strData {H : Type} (zs : List ByteArray) : DataW H := .agg (zs.map fun z => .lit (.string z.data.toList))
theorem cells_of_str {H : Type} {enc : TypeId × Value → H} {P : Program} {w : World} {base : Nat} {sp : Nat → Bool} {held : Bool} {fuel : Nat} {t e : TypeId} {n : Nat} {cs : List Value} {zs : List ByteArray} {p : List MemPlace}
    (ht : P.underlying t = some (.array n e)) (he : P.underlying e = some .string) (hce : P.cellsOf e = 1) (hct : P.cellsOf t = n)
    (h : DataW.trod enc P w base sp held fuel t cs = some (strData zs, p)) : cs = zs.map fun z => Value.string z := by
  cases fuel with
  | zero => simp [DataW.trod] at h
  | succ fuel =>
    simp only [DataW.trod, ht, hce, hct, Nat.mul_one] at h
    split at h
    · rename_i hl
      obtain ⟨xs, hm, hx⟩ := Option.map_eq_some_iff.1 h
      have hxs : xs.map (·.1) = zs.map fun z => (DataW.lit (.string z.data.toList) : DataW H) := by
        have := congrArg Prod.fst hx
        simpa [strData] using this
      have hxl : xs.length = n := by simpa using Lib.mapM_length hm
      have hzl : zs.length = n := by
        have := congrArg List.length hxs
        simp at this
        omega
      apply List.ext_getElem?
      intro i
      by_cases hi : i < n
      · obtain ⟨b, hb, hf⟩ := Lib.mapM_at hm i i (by simp [hi])
        obtain ⟨z, hc, rfl, _⟩ := DataW.trod_string he hf
        have h1 : cs[i]? = some (.string z) := by
          have := congrArg (·[0]?) hc
          simpa [List.getElem?_take, List.getElem?_drop] using this
        have h2 : (xs.map (·.1))[i]? = some (DataW.lit (.string z.data.toList) : DataW H) := by simp [hb]
        rw [hxs] at h2
        simp only [List.getElem?_map, Option.map_eq_some_iff, DataW.lit.injEq, Lit.string.injEq] at h2
        obtain ⟨z', hz', e⟩ := h2
        have : z' = z := ByteArray.ext (Array.toList_inj.1 e)
        subst this
        simp [h1, hz']
      · rw [List.getElem?_eq_none (by omega), List.getElem?_eq_none (by simp; omega)]
    · cases h
theorem gW : Tryd.prog.globalNamed "surety/typ.words" = some 0 := by kernel_rfl
theorem tW : (Tryd.prog.globals[0]?).map (·.type) = some 42 := by kernel_rfl
theorem cW : Tryd.prog.cellsOf 42 = 6 := by kernel_rfl
theorem cS : Tryd.prog.cellsOf 9 = 1 := by kernel_rfl
def wordL : List ByteArray := [wordB 0, wordB 1, wordB 2, wordB 3, wordB 4, wordB 5]
theorem dW : (Rows.laid_surety_typ_words : DataW Unit) = strData wordL := by kernel_rfl
/-- what the condition gives the walk -/
theorem of_laid {W : World} {l : List (String × DataW Unit)} (hl : l = [("surety/typ.words", Rows.laid_surety_typ_words)]) (h : laidMet Tryd.prog l W) : Wd W := by
  subst hl
  rw [dW] at h
  obtain ⟨ps, ⟨g', t', cs, fuel, p, q, hg', ht', hvar, hd, _, _⟩, _⟩ := h
  obtain rfl := Option.some.inj (gW.symm.trans hg')
  obtain rfl := Option.some.inj (tW.symm.trans ht')
  have e := cells_of_str Tryd.underlying42 Tryd.underlying9 cS cW hd
  have c : ∀ i, i < 6 → W.cell? ⟨0, i, none⟩ = some (.string (wordB i)) := by
    intro i hi
    have := World.var?_cell gW hvar i
    rw [this, ← Array.getElem?_toList, e]
    obtain rfl | rfl | rfl | rfl | rfl | rfl : i = 0 ∨ i = 1 ∨ i = 2 ∨ i = 3 ∨ i = 4 ∨ i = 5 := by omega
    all_goals rfl
  exact ⟨World.block_lt_of_cell? _ _ (c 0 (by omega)), c⟩
end Go.Proofs.YticbogldplohpaaDoor

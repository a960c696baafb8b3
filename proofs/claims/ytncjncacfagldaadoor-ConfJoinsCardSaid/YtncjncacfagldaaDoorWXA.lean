/- Trees: the same; EqualFunc of trees, expr.Same. -/
import Derived.Test.YtncjncacfagldaaDoorWI
import Derived.Laws.StructEq
import Derived.BigQuiet
import Derived.BigRegion
import Derived.Deep.Cut
import Derived.Test.YtncjncacfagldaaDoorWZe
import Derived.ProofKit
import Derived.OpenShut
import Derived.Lib.SmallJoins
import Derived.Carry
import Derived.Deep.Slices
import Derived.Test.YtncjncacfagldaaDoorRows
import Derived.WalkKit
import Derived.LaidMore
import Derived.Lib.LaidTab
import Derived.Stop.Joined
import Derived.Stop.LaidErr
import Derived.ShutString
import Derived.Below
import Derived.SizedLaws
namespace Go.Proofs.YtncjncacfagldaaDoor
open Go.RowKit Go.Lib

abbrev XL (n : Nat) (w : World) (X : Ex) (v : Value) : Prop := XP (fun b => b < n) w X v
end Go.Proofs.YtncjncacfagldaaDoor
/- A value that came in, opened. -/
namespace Go.Proofs.YtncjncacfagldaaDoor
open Go.ChangeShapes Go.WideShapes Go.ChangeAt Go.RowKit Go.Joins Go.Deep

instance : Inhabited Val := ⟨.mk 0 0 ⟨#[]⟩ [] [] 0 0 false⟩
instance : Inhabited Ex := ⟨zeroX⟩
section
variable {H : Type} {enc : TypeId × Value → H} {w : World} {base : Nat} {spare : Nat → Bool} {held : Bool}
end
end Go.Proofs.YtncjncacfagldaaDoor
/- What the laid tables give; a text that came in. -/
namespace Go.Proofs.YtncjncacfagldaaDoor
open Go.ChangeShapes Go.WideShapes Go.ChangeAt Go.RowKit

theorem own : ownKnob Tryd.prog.godebug = none := by kernel_rfl
theorem laidOut : laidOutB Tryd.prog = true := by kernel_rfl
theorem gCls : Tryd.prog.globalNamed "surety/lex.classes" = some 0 := by kernel_rfl
theorem tCls : (Tryd.prog.globals[0]?).map (·.type) = some 115 := by kernel_rfl
theorem gLev : Tryd.prog.globalNamed "surety/expr.levels" = some 1 := by kernel_rfl
theorem tLev : (Tryd.prog.globals[1]?).map (·.type) = some 130 := by kernel_rfl
theorem c115 : Tryd.prog.cellsOf 115 = 28 := by kernel_rfl
theorem c114 : Tryd.prog.cellsOf 114 = 4 := by kernel_rfl
theorem c113 : Tryd.prog.cellsOf 113 = 1 := by kernel_rfl
theorem c130 : Tryd.prog.cellsOf 130 = 27 := by kernel_rfl
theorem c3x : Tryd.prog.cellsOf 3 = 1 := by kernel_rfl
def clsR : List (List Int) := [[4294968832, 0, 0, 0], [0, 576460745860972544, 0, 0], [287948901175001088, 0, 0, 0], [287948901175001088, 576460745860972544, 0, 0], [17582333466748387328, 2882303762188206080, 0, 0], [18446744056529681407, 15564440312192434175, 18446744073709551615, 18446744073709551615], [18446744073709550591, 18446744073709551615, 18446744073709551615, 18446744073709551615]]
def levR : List Int := [0, 0, 0, 0, 0, 0, 0, 0, 5, 5, 5, 4, 4, 3, 3, 3, 3, 3, 3, 2, 1, 0, 0, 0, 0, 0, 0]
theorem dCls : (Rows.laid_surety_lex_classes : DataW Unit) = .agg (clsR.map (Lib.tabData .u64)) := by kernel_rfl
theorem dLev : (Rows.laid_surety_expr_levels : DataW Unit) = Lib.tabData .i64 levR := by kernel_rfl
/-- an array of tables, cell for cell -/
theorem cells_of_tab2 {H : Type} {enc : TypeId × Value → H} {w : World} {base : Nat} {sp : Nat → Bool} {held : Bool} {fuel : Nat} {cs : List Value} {zss : List (List Int)} {p : List MemPlace}
    (h : DataW.trod enc Tryd.prog w base sp held fuel 115 cs = some (.agg (zss.map (Lib.tabData .u64)), p)) : ∀ i zs, zss[i]? = some zs → i < 7 → (cs.drop (i * 4)).take 4 = zs.map fun z => Value.int .u64 z := by
  cases fuel with
  | zero => simp [DataW.trod] at h
  | succ fuel =>
    simp only [DataW.trod, Tryd.underlying115, c114, c115] at h
    split at h
    · obtain ⟨xs, hm, hx⟩ := Option.map_eq_some_iff.1 h
      have hxs : xs.map (·.1) = zss.map (Lib.tabData .u64) := by
        have := congrArg Prod.fst hx
        simpa using this
      intro i zs hz hi
      obtain ⟨b, hb, hf⟩ := Lib.mapM_at hm i i (by simp [hi])
      have h2 : (xs.map (·.1))[i]? = some b.1 := by simp [hb]
      rw [hxs] at h2
      simp only [List.getElem?_map, hz, Option.map_some, Option.some.injEq] at h2
      refine Lib.cells_of_tab (p := b.2) Tryd.underlying114 Tryd.underlying113 c113 c114 (by rw [hf]; exact congrArg some (Prod.ext h2.symm rfl))
    · cases h
set_option maxRecDepth 100000 in
/-- what the condition gives the walk -/
theorem of_laid {W : World} {l : List (String × DataW Unit)} (hl : l = [("surety/lex.classes", Rows.laid_surety_lex_classes), ("surety/expr.levels", Rows.laid_surety_expr_levels)]) (h : laidMet Tryd.prog l W) : Tab W ∧ Lev W ∧ 2 ≤ W.heap.size := by
  subst hl
  rw [dCls, dLev] at h
  obtain ⟨ps, ⟨g', t', cs, fuel, p, q, hg', ht', hvar, hd, ⟨g2, t2, cs2, fuel2, p2, q2, hg2, ht2, hvar2, hd2, _, _⟩, _⟩, _⟩ := h
  obtain rfl := Option.some.inj (gCls.symm.trans hg')
  obtain rfl := Option.some.inj (tCls.symm.trans ht')
  obtain rfl := Option.some.inj (gLev.symm.trans hg2)
  obtain rfl := Option.some.inj (tLev.symm.trans ht2)
  have hc := cells_of_tab2 hd
  have cell : ∀ i, i < 28 → W.cell? ⟨0, i, none⟩ = some (.int .u64 (clsT.getD i 0)) := fun i hi => by
    have h1 := World.var?_cell gCls hvar i
    rw [h1]
    have hr : clsR[i / 4]? = some (clsR[i / 4]'(by show i / 4 < 7; omega)) := List.getElem?_eq_getElem _
    have h2 := congrArg (fun l => l[i % 4]?) (hc (i / 4) _ hr (by omega))
    simp only [List.getElem?_take, List.getElem?_drop, List.getElem?_map] at h2
    rw [if_pos (by omega), show i / 4 * 4 + i % 4 = i by omega] at h2
    have h3 : cs[i]? = cs.toList[i]? := by simp
    rw [h3, h2]
    have key : (List.range 28).all (fun i => (clsR.getD (i / 4) [])[i % 4]? == some (clsT.getD i 0)) = true := by kernel_rfl
    rw [List.all_eq_true] at key
    have k1 := eq_of_beq (key i (List.mem_range.2 hi))
    rw [List.getD_eq_getElem?_getD, hr, Option.getD_some] at k1
    rw [k1]; rfl
  have hc2 := Lib.cells_of_tab Tryd.underlying130 Tryd.underlying3 c3x c130 hd2
  have cell2 : ∀ i, i < 21 → W.cell? ⟨1, i, none⟩ = some (.int .i64 (lvl i)) := fun i hi => by
    have h1 := World.var?_cell gLev hvar2 i
    rw [h1]
    have h3 : cs2[i]? = cs2.toList[i]? := by simp
    rw [h3, hc2, List.getElem?_map]
    have key : (List.range 21).all (fun i => levR[i]? == some ((lvl i : Nat) : Int)) = true := by kernel_rfl
    rw [List.all_eq_true] at key
    have k1 := eq_of_beq (key i (List.mem_range.2 hi))
    rw [k1]; rfl
  have h1 := World.block_lt_of_cell? _ _ (cell2 0 (by omega))
  exact ⟨⟨World.block_lt_of_cell? _ _ (cell 0 (by omega)), cell⟩, cell2, h1⟩
section
variable {H : Type} {enc : TypeId × Value → H} {w : World} {base : Nat} {spare : Nat → Bool} {held : Bool}
set_option maxRecDepth 100000 in
/-- a text that came in -/
theorem open_str {r : Reach} {b0 : Nat} {v : Value} {d : DataW H} {p : List MemPlace} (hv : Value.okWide Tryd.prog w r b0 9 v) (h : DataW.Trod enc Tryd.prog w base spare held 9 v d p) : ∃ s : ByteArray, v = .string s ∧ s.size ≤ maxLen := by
  obtain ⟨s, rfl, rfl, rfl, hs⟩ := Go.ChangeMaps.open_string Tryd.underlying9 hv h
  exact ⟨s, rfl, hs⟩
end
end Go.Proofs.YtncjncacfagldaaDoor
/- A number that came in. -/
namespace Go.Proofs.YtncjncacfagldaaDoor
open Go.ChangeShapes Go.WideShapes Go.ChangeAt Go.RowKit
set_option maxRecDepth 100000 in
theorem open_i64 {H : Type} {enc : TypeId × Value → H} {w : World} {base : Nat} {spare : Nat → Bool} {held : Bool} {r : Reach} {b0 : Nat} {v : Value} {d : DataW H} {p : List MemPlace} (hv : Value.okWide Tryd.prog w r b0 3 v) (h : DataW.Trod enc Tryd.prog w base spare held 3 v d p) : ∃ n : Int, v = .int .i64 n ∧ (-9223372036854775808 ≤ n ∧ n ≤ 9223372036854775807) := by
  obtain ⟨a0, rfl, rfl, rfl, w0⟩ := open_int Tryd.underlying3 hv h
  have h1 : IntKind.i64.min ≤ a0 ∧ a0 ≤ IntKind.i64.max := by simpa [Lit.wf] using w0
  have h2 : -9223372036854775808 ≤ a0 ∧ a0 ≤ 9223372036854775807 := h1
  exact ⟨a0, rfl, h2⟩
end Go.Proofs.YtncjncacfagldaaDoor

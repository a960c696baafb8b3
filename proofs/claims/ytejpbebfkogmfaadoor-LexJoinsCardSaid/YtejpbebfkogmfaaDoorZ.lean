/- What the laid table of classes gives; a text that came in. -/
import Derived.Test.YtejpbebfkogmfaaDoorL
import Derived.Test.YtejpbebfkogmfaaDoorRows
import Derived.WalkKit
import Derived.ProofKit
import Derived.LaidMore
import Derived.Lib.LaidTab
import Derived.OpenShut
import Derived.Stop.Joined
import Derived.Stop.LaidErr
import Derived.ShutString
import Derived.Below
import Derived.Carry
import Derived.SizedLaws
namespace Go.Proofs.YtejpbebfkogmfaaDoor
open Go.ChangeShapes Go.WideShapes Go.ChangeAt Go.RowKit

theorem own : ownKnob Tryd.prog.godebug = none := by kernel_rfl
theorem laidOut : laidOutB Tryd.prog = true := by kernel_rfl
theorem gCls : Tryd.prog.globalNamed "surety/lex.classes" = some 0 := by kernel_rfl
theorem tCls : (Tryd.prog.globals[0]?).map (·.type) = some 57 := by kernel_rfl
theorem c57 : Tryd.prog.cellsOf 57 = 28 := by kernel_rfl
theorem c56 : Tryd.prog.cellsOf 56 = 4 := by kernel_rfl
theorem c52 : Tryd.prog.cellsOf 52 = 1 := by kernel_rfl
def clsR : List (List Int) := [[4294968832, 0, 0, 0], [0, 576460745860972544, 0, 0], [287948901175001088, 0, 0, 0], [287948901175001088, 576460745860972544, 0, 0], [17582333466748387328, 2882303762188206080, 0, 0], [18446744056529681407, 15564440312192434175, 18446744073709551615, 18446744073709551615], [18446744073709550591, 18446744073709551615, 18446744073709551615, 18446744073709551615]]
theorem dCls : (Rows.laid_surety_lex_classes : DataW Unit) = .agg (clsR.map (Lib.tabData .u64)) := by kernel_rfl
/-- an array of tables, cell for cell -/
theorem cells_of_tab2 {H : Type} {enc : TypeId × Value → H} {w : World} {base : Nat} {sp : Nat → Bool} {held : Bool} {fuel : Nat} {cs : List Value} {zss : List (List Int)} {p : List MemPlace}
    (h : DataW.trod enc Tryd.prog w base sp held fuel 57 cs = some (.agg (zss.map (Lib.tabData .u64)), p)) : ∀ i zs, zss[i]? = some zs → i < 7 → (cs.drop (i * 4)).take 4 = zs.map fun z => Value.int .u64 z := by
  cases fuel with
  | zero => simp [DataW.trod] at h
  | succ fuel =>
    simp only [DataW.trod, Tryd.underlying57, c56, c57] at h
    split at h
    · obtain ⟨xs, hm, hx⟩ := Option.map_eq_some_iff.1 h
      have hxs : xs.map (·.1) = zss.map (Lib.tabData .u64) := by
        have := congrArg Prod.fst hx
        simpa using this
      intro i zs hz hi
      obtain ⟨b, hb, hf⟩ := Lib.mapM_at hm i i (by simp [hi])
      have h2 : (xs.map (·.1))[i]? = some b.1 := by simp [hb]
      rw [hxs] at h2
      simp only [List.getElem?_map, hz, Option.map_some, Option.some.injEq] at h2
      refine Lib.cells_of_tab (p := b.2) Tryd.underlying56 Tryd.underlying52 c52 c56 (by rw [hf]; exact congrArg some (Prod.ext h2.symm rfl))
    · cases h
/-- what the condition gives the walk -/
theorem of_laid {W : World} {l : List (String × DataW Unit)} (hl : l = [("surety/lex.classes", Rows.laid_surety_lex_classes)]) (h : laidMet Tryd.prog l W) : Tab W := by
  subst hl
  rw [dCls] at h
  obtain ⟨ps, ⟨g', t', cs, fuel, p, q, hg', ht', hvar, hd, _, _⟩, _⟩ := h
  obtain rfl := Option.some.inj (gCls.symm.trans hg')
  obtain rfl := Option.some.inj (tCls.symm.trans ht')
  have hc := cells_of_tab2 hd
  have cell : ∀ i, i < 28 → W.cell? ⟨0, i, none⟩ = some (.int .u64 (clsT.getD i 0)) := fun i hi => by
    have h1 := World.var?_cell gCls hvar i
    rw [h1]
    have hr : clsR[i / 4]? = some (clsR[i / 4]'(by show i / 4 < 7; omega)) := List.getElem?_eq_getElem _
    have h2 := congrArg (fun l => l[i % 4]?) (hc (i / 4) _ hr (by omega))
    simp only [List.getElem?_take, List.getElem?_drop, List.getElem?_map] at h2
    rw [if_pos (by omega), show i / 4 * 4 + i % 4 = i by omega] at h2
    have h3 : cs[i]? = cs.toList[i]? := by simp
    rw [h3, h2]
    have key : (List.range 28).all (fun i => (clsR.getD (i / 4) [])[i % 4]? == some (clsT.getD i 0)) = true := by kernel_rfl
    rw [List.all_eq_true] at key
    have k1 := eq_of_beq (key i (List.mem_range.2 hi))
    rw [List.getD_eq_getElem?_getD, hr, Option.getD_some] at k1
    rw [k1]; rfl
  exact ⟨World.block_lt_of_cell? _ _ (cell 0 (by omega)), cell⟩
section
variable {H : Type} {enc : TypeId × Value → H} {w : World} {base : Nat} {spare : Nat → Bool} {held : Bool}
/-- a text that came in -/
theorem open_str {r : Reach} {b0 : Nat} {v : Value} {d : DataW H} {p : List MemPlace} (hv : Value.okWide Tryd.prog w r b0 9 v) (h : DataW.Trod enc Tryd.prog w base spare held 9 v d p) : ∃ s : ByteArray, v = .string s ∧ s.size ≤ maxLen := by
  obtain ⟨s, rfl, rfl, rfl, hs⟩ := Go.ChangeMaps.open_string Tryd.underlying9 hv h
  exact ⟨s, rfl, hs⟩
end
end Go.Proofs.YtejpbebfkogmfaaDoor

/- What the laid table gives; rows of rows that came in. -/
import Derived.Test.YtonnopcafmhaaaaDoorC4
import Derived.Test.YtonnopcafmhaaaaDoorRows
import Derived.WalkKit
import Derived.ProofKit
import Derived.LaidMore
import Derived.Lib.LaidTab
import Derived.OpenShut
import Derived.Stop.Joined
import Derived.Stop.LaidErr
import Derived.ShutString
import Derived.Below
import Derived.Carry
import Derived.SizedLaws
import Derived.Deep.Matrix
namespace Go.Proofs.YtonnopcafmhaaaaDoor
open Go.ChangeShapes Go.WideShapes Go.ChangeAt Go.RowKit

theorem own : ownKnob Tryd.prog.godebug = none := by kernel_rfl
theorem laidOut : laidOutB Tryd.prog = true := by kernel_rfl
theorem gTab : Tryd.prog.globalNamed "math/bits.deBruijn64tab" = some 0 := by kernel_rfl
theorem tTab : (Tryd.prog.globals[0]?).map (·.type) = some 63 := by kernel_rfl
theorem c63 : Tryd.prog.cellsOf 63 = 64 := by kernel_rfl
theorem c5 : Tryd.prog.cellsOf 5 = 1 := by kernel_rfl
theorem c3 : Tryd.prog.cellsOf 3 = 1 := by kernel_rfl
theorem c23 : Tryd.prog.cellsOf 23 = 1 := by kernel_rfl
theorem dTab : (Rows.laid_math_bits_deBruijn64tab : DataW Unit) = Lib.tabData .u8 Kt := by kernel_rfl
/-- what the condition gives the walk -/
theorem of_laid {W : World} {l : List (String × DataW Unit)} (hl : l = [("math/bits.deBruijn64tab", Rows.laid_math_bits_deBruijn64tab)]) (h : laidMet Tryd.prog l W) : Tab W := by
  subst hl
  rw [dTab] at h
  have t := Lib.tabIs_of_head gTab tTab Tryd.underlying63 Tryd.underlying5 c5 c63 h
  have c := fun i (hi : i < 64) => t.cell gTab i (show i < Kt.length from hi)
  exact ⟨World.block_lt_of_cell? _ _ (c 0 (by omega)), c⟩
theorem open_i64 {H : Type} {enc : TypeId × Value → H} {w : World} {base : Nat} {spare : Nat → Bool} {held : Bool} {r : Reach} {b0 : Nat} {v : Value} {d : DataW H} {p : List MemPlace} (hv : Value.okWide Tryd.prog w r b0 3 v) (h : DataW.Trod enc Tryd.prog w base spare held 3 v d p) : ∃ n : Int, v = .int .i64 n ∧ (-9223372036854775808 ≤ n ∧ n ≤ 9223372036854775807) := by
  obtain ⟨a0, rfl, rfl, rfl, w0⟩ := open_int Tryd.underlying3 hv h
  have h1 : IntKind.i64.min ≤ a0 ∧ a0 ≤ IntKind.i64.max := by simpa [Lit.wf] using w0
  have h2 : -9223372036854775808 ≤ a0 ∧ a0 ≤ 9223372036854775807 := h1
  exact ⟨a0, rfl, h2⟩
/-- one row of numbers that came in -/
theorem open_nums {H : Type} {enc : TypeId × Value → H} {w : World} {base : Nat} {spare : Nat → Bool} {held : Bool} {r : Reach} {b0 : Nat} {v : Value} {d : DataW H} {p : List MemPlace}
    (hv : Value.okWide Tryd.prog w r b0 23 v) (h : DataW.Trod enc Tryd.prog w base spare held 23 v d p) :
    ∃ sp M cap, v = .slice sp (List.length M) cap ∧ Rd w sp M ∧ M.length ≤ cap ∧ cap ≤ maxLen := by
  obtain ⟨sp, len, cap, rfl⟩ := okWide_slice Tryd.underlying23 hv
  obtain ⟨fuel, hf⟩ := h
  have hf' : DataW.trod enc Tryd.prog w base spare held fuel 23 [.slice sp len cap] = some (d, p) := hf
  rcases open_ints Tryd.underlying23 Tryd.underlying3 c3 hf' with ⟨hcs, _⟩ | ⟨a, len', cap', zs, hcs, _, hl, hm, hz, _, hcell, hwz⟩
  · injection hcs with e _
    injection e with e1 e2 e3
    subst e1 e2 e3
    exact ⟨none, [], 0, rfl, (fun i hi => by simp at hi), Nat.le_refl _, by unfold maxLen; omega⟩
  · injection hcs with e _
    injection e with e1 e2 e3
    subst e1 e2 e3
    have hsp : a.spot = none := by
      simp only [Value.okWide, Cell.okWide, Cell.ok, Tryd.underlying23] at hv
      exact hv.2.2.2.1
    obtain ⟨b, o, spot⟩ := a
    simp only at hsp
    subst hsp
    have hlen : (zs.take len).length = len := by
      rw [List.length_take, hz]; split <;> omega
    refine ⟨some ⟨b, o, none⟩, zs.take len, cap, by rw [hlen], (fun i hi => ?_), by omega, hm⟩
    have hi' : i < len := by omega
    have hi2 : i < zs.length := by rw [hz]; split <;> omega
    have c := hcell i hi2
    have ea : (⟨b, o, none⟩ : Addr).add i = ⟨b, o + i, none⟩ := by unfold Addr.add; split <;> simp_all
    rw [ea] at c
    refine ⟨b, o, rfl, World.block_lt_of_cell? _ _ c, ?_⟩
    rw [c]
    simp [List.getD, hi']
/-- the same by its cells alone -/
def NumsIs (w : World) (v : Value) (t : Option Addr × List Int × Nat) : Prop := v = .slice t.1 t.2.1.length t.2.2 ∧ Rd w t.1 t.2.1 ∧ t.2.1.length ≤ t.2.2 ∧ t.2.2 ≤ maxLen
theorem open_num {H : Type} {enc : TypeId × Value → H} {w : World} {base : Nat} {spare : Nat → Bool} {held : Bool} {fuel : Nat} {v : Value} {x : DataW H × List MemPlace}
    (h : DataW.trod enc Tryd.prog w base spare held fuel 23 [v] = some x) : ∃ t, NumsIs w v t := by
  rcases open_ints Tryd.underlying23 Tryd.underlying3 c3 h with ⟨hcs, _⟩ | ⟨a, len, cap, zs, hcs, _, hl, hm, hz, _, hcell, hwz⟩
  · injection hcs with e _
    subst e
    exact ⟨(none, [], 0), rfl, fun i hi => absurd hi (Nat.not_lt_zero _), Nat.le_refl _, by show 0 ≤ maxLen; exact Nat.zero_le _⟩
  · injection hcs with e _
    subst e
    have hlen : (zs.take len).length = len := by
      rw [List.length_take, hz]; split <;> omega
    refine ⟨(some a, zs.take len, cap), by rw [hlen], (fun i hi => ?_), (by show (zs.take len).length ≤ cap; omega), hm⟩
    have hi' : i < len := by simp only at hi; omega
    have hi2 : i < zs.length := by rw [hz]; split <;> omega
    have hsp : a.spot = none := by
      have c0 := hcell 0 (by omega)
      have : a.add 0 = a := by unfold Addr.add; simp
      rw [this] at c0
      exact World.cell?_spot c0
    obtain ⟨b, o, spot⟩ := a
    simp only at hsp
    subst hsp
    have c := hcell i hi2
    have ea : (⟨b, o, none⟩ : Addr).add i = ⟨b, o + i, none⟩ := by unfold Addr.add; split <;> simp_all
    rw [ea] at c
    refine ⟨b, o, rfl, World.block_lt_of_cell? _ _ c, ?_⟩
    rw [c]
    simp [List.getD, hi']
/-- rows of rows that came in -/
theorem open_rows {H : Type} {enc : TypeId × Value → H} {w : World} {base : Nat} {spare : Nat → Bool} {held : Bool} {r : Reach} {b0 : Nat} {v : Value} {d : DataW H} {p : List MemPlace}
    (hv : Value.okWide Tryd.prog w r b0 22 v) (h : DataW.Trod enc Tryd.prog w base spare held 22 v d p) :
    ∃ pp m cap S M C, v = .slice pp m cap ∧ m ≤ maxLen ∧ Pt w pp m S M C := by
  obtain ⟨pp, len, cap, rfl⟩ := okWide_slice Tryd.underlying22 hv
  obtain ⟨fuel, hf⟩ := h
  have hf' : DataW.trod enc Tryd.prog w base spare held fuel 22 [.slice pp len cap] = some (d, p) := hf
  rcases Go.Deep.open_slice1 Tryd.underlying22 c23 hf' with ⟨hcs, _⟩ | ⟨a, len', cap', m, n, V, D, Pl, hcs, _, hl, hm, hmm, _, hx⟩
  · injection hcs with e _
    injection e with e1 e2 e3
    subst e1 e2 e3
    exact ⟨none, 0, 0, fun _ => none, fun _ => [], fun _ => 0, rfl, (by unfold maxLen; omega), ⟨(fun i hi => by omega), (fun i hi => by omega), (fun i hi => by omega)⟩⟩
  · injection hcs with e _
    injection e with e1 e2 e3
    subst e1 e2 e3
    have hsp : a.spot = none := by
      simp only [Value.okWide, Cell.okWide, Cell.ok, Tryd.underlying22] at hv
      exact hv.2.2.2.1
    obtain ⟨b, o, spot⟩ := a
    simp only at hsp
    subst hsp
    have hlm : len ≤ m := by rw [hmm]; split <;> omega
    have each : ∀ i : Nat, ∃ t : Option Addr × List Int × Nat, i < len → NumsIs w (V i) t := fun i => by
      by_cases hi : i < len
      · obtain ⟨t, ht⟩ := open_num (hx i (by omega)).2
        exact ⟨t, fun _ => ht⟩
      · exact ⟨(none, [], 0), fun h => absurd h hi⟩
    obtain ⟨f, hfn⟩ := Classical.axiomOfChoice each
    refine ⟨some ⟨b, o, none⟩, len, cap, fun i => (f i).1, fun i => (f i).2.1, fun i => (f i).2.2, rfl, Nat.le_trans hl hm, ⟨(fun i hi => ?_), (fun i hi => (hfn i hi).2.1), (fun i hi => (hfn i hi).2.2)⟩⟩
    have c := (hx i (by omega)).1
    have ea : (⟨b, o, none⟩ : Addr).add i = ⟨b, o + i, none⟩ := by unfold Addr.add; split <;> simp_all
    rw [ea] at c
    exact ⟨b, o, rfl, World.block_lt_of_cell? _ _ c, by rw [c, (hfn i hi).1]⟩
end Go.Proofs.YtonnopcafmhaaaaDoor

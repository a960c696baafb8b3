/- Contracts: Both. -/
import Derived.Test.YtonnopcafmhaaaaDoorCB
import Derived.Laws.Tables
import Derived.Deep.WholeRow
namespace Go.Proofs.YtonnopcafmhaaaaDoor
open Go.RowKit

theorem info52 (c : Array Value) (h : c.size = 513) : (Tryd.prog.info? 52).map (·.size) = some c.size := by rw [h]; kernel_rfl
theorem wpList_alloc52 {ops : Array Oper} {rest : List Oper} {o : Oper} {a : Act} {w : World} {Q : Exit → Act → World → Prop} (hg : o.guard = none) (ho : o.op = .alloc 52)
    (h : wpList Tryd.prog ops Q rest (a.put o.dst (.pointer (some ⟨w.heap.size, 0, none⟩))) (w.alloc (.cells z52 52))) : wpList Tryd.prog ops Q (o :: rest) a w := by
  refine wpList_plain hg fun _ hK => ?_
  have h1 := zero52
  cases hi : Tryd.prog.info? 52 with
  | none => rw [hi] at h1; cases h1
  | some it =>
    rw [hi] at h1
    have h1 : Option.map (fun z => z.cells.toList) it.zero = _ := Option.some.inj h1
    cases hz : it.zero with
    | none => rw [hz] at h1; cases h1
    | some z =>
      rw [hz] at h1
      have h1 : z.cells.toList = _ := Option.some.inj h1
      have hzc : z.cells = z52 := by unfold z52; rw [← h1]
      clear h1
      have hr : (Instr.alloc 52 true (.tuple #[])).run Tryd.prog w = .ok (.pointer (some ⟨w.heap.size, 0, none⟩)) (w.alloc (.cells z52 52)) := by
        simp [Instr.alloc, zeroValue, typeInfo, hi, hz, newVar, newRow, hzc]
      unfold Oper.wp execOp
      simp only [ho, Sem.run_bind, hr, Result.andThen_ok, Sem.run_pure]
      exact hK _ _ h
theorem gb_open {w : World} {g n : Nat} {A B : Nat → Nat → Bool} (h : GB w g n A B) : ∃ c : Array Value, w.heap[g]? = some (.cells c 52 (0, 0)) ∧ c.size = 513 ∧ (∀ i, i < 513 → c[i]? = some (gc n A B i)) ∧ c.all (·.oneCell') = true := by
  obtain ⟨c, hb, hn, hc⟩ := h
  refine ⟨c, hb, hn, hc, ?_⟩
  rw [Array.all_eq_true]
  intro i hi
  have := hc i (by omega)
  rw [Array.getElem?_eq_getElem hi] at this
  rw [Option.some.inj this]
  unfold gc sc
  split
  · rfl
  · split <;> rfl
theorem gb_copy {w : World} {n0 n : Nat} {A B : Nat → Nat → Bool} {c : Array Value} (hw : w.heap.size = n0) (hc : c.size = 513) (hg : ∀ i, i < 513 → c[i]? = some (gc n A B i)) :
    GB ((w.alloc (.cells z52 52)).setRow n0 c) n0 n A B ∧ Below n0 w ((w.alloc (.cells z52 52)).setRow n0 c) := by
  subst hw
  rw [World.setRow_alloc_new]
  have h := World.rowIs_alloc w c 52 (gc n A B) fun i hi => hg i (by omega)
  rw [hc] at h
  exact ⟨h, (Below.refl _ _).alloc (Nat.le_refl _) _⟩
/-- rows joined, the first i of them -/
def bo (i : Nat) (A A2 : Nat → Nat → Bool) : Nat → Nat → Bool := fun a => if a < i then uni (A a) (A2 a) else A a
def bothA (A A2 : Nat → Nat → Bool) : Nat → Nat → Bool := fun i k => A i k || A2 i k
theorem bo_0 (A A2 : Nat → Nat → Bool) : bo 0 A A2 = A := by funext a; unfold bo; rw [if_neg (Nat.not_lt_zero _)]
theorem bo_step (i : Nat) (A A2 : Nat → Nat → Bool) : tk2 (bo i A A2) i (A2 i) = bo (i + 1) A A2 := by
  funext a
  unfold tk2 bo
  by_cases e : a = i
  · subst e
    rw [if_pos rfl, if_neg (Nat.lt_irrefl _), if_pos (by omega)]
  · rw [if_neg e]
    by_cases h : a < i
    · rw [if_pos h, if_pos (by omega)]
    · rw [if_neg h, if_neg (by omega)]
theorem bo_end {n : Nat} {A A2 : Nat → Nat → Bool} (h1 : ∀ i k, A i k = true → i < n) (h2 : ∀ i k, A2 i k = true → i < n) : bo n A A2 = bothA A A2 := by
  funext a k
  unfold bo bothA
  by_cases h : a < n
  · rw [if_pos h]; rfl
  · rw [if_neg h]
    cases ha : A a k with
    | true => exact absurd (h1 a k ha) h
    | false =>
      cases hb : A2 a k with
      | true => exact absurd (h2 a k hb) h
      | false => rfl
theorem both_none (v : Value) (w : World) : Calls Tryd.prog 26 #[.pointer none, v] w fun e w' => e = .returned (.pointer none) ∧ Below w.heap.size w w' := by
  go_enter Tryd.func26, Tryd.ntmps26
  go_wp2
  go_quiet (fail)
  go_wp2
  go_ret
  exact ⟨rfl, below_drewN (Below.refl _ _) _⟩
theorem both_ne {w : World} {g h n m : Nat} {A A2 : Nat → Nat → Bool} (hg : GR w g n A) (hh : GR w h m A2) (hne : n ≠ m) :
    Calls Tryd.prog 26 #[.pointer (some ⟨g, 0, none⟩), .pointer (some ⟨h, 0, none⟩)] w fun e w' => e = .returned (.pointer none) ∧ Below w.heap.size w w' := by
  have c0 := World.rowIs.cell hg.blk (i := 0) (by omega)
  have c1 := World.rowIs.cell hh.blk (i := 0) (by omega)
  rw [gc_0] at c0 c1
  have hb : ((n : Int) != (m : Int)) = true := by
    have : (n : Int) ≠ m := by omega
    simpa using this
  clear hg hh hne
  go_enter Tryd.func26, Tryd.ntmps26
  go_wp2
  go_quiet (fail)
  go_wp2
  go_ret
  exact ⟨rfl, below_drewN (Below.refl _ _) _⟩
set_option maxRecDepth 20000 in
set_option maxHeartbeats 4000000 in
theorem both_any {w : World} {g h n : Nat} {A A2 : Nat → Nat → Bool} (hg : GR w g n A) (hh : GR w h n A2) :
    Calls Tryd.prog 26 #[.pointer (some ⟨g, 0, none⟩), .pointer (some ⟨h, 0, none⟩)] w fun e w' => e = .returned (.pointer (some ⟨w.heap.size, 0, none⟩)) ∧ GR w' w.heap.size n (bothA A A2) ∧ Below w.heap.size w w' := by
  have hn := hg.le
  have hlt := hh.lt
  have k0 := World.rowIs.cell hg.blk (i := 0) (by omega)
  have k1 := World.rowIs.cell hh.blk (i := 0) (by omega)
  rw [gc_0] at k0 k1
  obtain ⟨c, hc1, hc2, hc3, hc4⟩ := gb_open hg.blk
  obtain ⟨n0, hn0⟩ : ∃ k, w.heap.size = k := ⟨_, rfl⟩
  rw [hn0] at hlt
  have HN0 := Lib.hid hn0
  have FA := Lib.hid hg.fit
  have FB := Lib.hid hh.fit
  have HH : Hid (∀ W, Below n0 w W → ∀ i, i < 128 → (W.cell? ⟨h, 1 + i * 2, none⟩ = some (.int .u64 (wd (A2 i) 0 : Int)) ∧ W.cell? ⟨h, 1 + i * 2 + 1, none⟩ = some (.int .u64 (wd (A2 i) 1 : Int))) ∧ W.cell? ⟨h, 257 + i * 2, none⟩ = some (.int .u64 (wd (turnA A2 i) 0 : Int)) ∧ W.cell? ⟨h, 257 + i * 2 + 1, none⟩ = some (.int .u64 (wd (turnA A2 i) 1 : Int))) :=
    fun W b i hi => ⟨rows_a (below_row b hh.blk hlt) i hi, rows_b (below_row b hh.blk hlt) i hi⟩
  have HC2 := Lib.hid hc2
  have HC3 := Lib.hid hc3
  have HC4 := Lib.hid hc4
  clear hg hh hc2 hc3 hc4
  go_enter Tryd.func26, Tryd.ntmps26
  go_wp2
  go_quiet (fail)
  have hd1 : (w.drewN nq).heap[g]? = some (.cells c 52 (0, 0)) := hc1
  have hd2 : (w.drewN nq).heap.size = n0 := hn0
  have HBD : Hid (Below n0 w (w.drewN nq)) := below_drewN (Below.refl _ _) _
  clear hc1 k0 k1 hn0
  generalize w.drewN nq = wq at *
  go_wp2_with (first | (refine wpList_load_row rfl 52 (.tmp 25) rfl g rfl 52 c (0, 0) _ hd1 Tryd.underlying52 rfl (info52 c HC2.out) ?_) | (refine wpList_alloc52 rfl rfl ?_; rw [hd2]) | (refine Go.wpList_store_row rfl 52 (.tmp 5) (.tmp 26) rfl n0 c rfl rfl 52 z52 (hd2 ▸ heap_alloc_new wq _) (info52 c HC2.out) (by rw [z52_size, HC2.out]) HC4.out ?_; have hgc := gb_copy (n := n) (A := A) (B := turnA A) hd2 HC2.out HC3.out; have RB := Lib.hid hgc.1; have HB0 := Lib.hid (HBD.out.trans hgc.2); have c0 := RB.out.cell (i := 0) (by omega); rw [gc_0] at c0; clear hgc; generalize ((wq.alloc (.cells z52 52)).setRow n0 c) = w5 at *))
  go_loopg [29] n (fun k cc wr => ∃ i : Nat, i ≤ n ∧ k = n - i ∧ cc = .int .i64 i ∧ Hid (GB wr n0 n (bo i A A2) (bo i (turnA A) (turnA A2))) ∧ Hid (Below n0 w wr))
  case atStart => exact ⟨0, by omega, by omega, rfl, by rw [bo_0, bo_0]; exact RB.out, HB0.out⟩
  case round =>
    clear RB HB0 HBD hd1 hd2 c0
    obtain ⟨i, hi, rfl, rfl, HG, HB⟩ := hrel
    by_cases hlt2 : i < n
    · obtain ⟨⟨d0, d1⟩, d2, d3⟩ := HH.out wr HB.out i (by omega)
      have T1 := take_ga n0 n i _ (bo i (turnA A) (turnA A2)) (A2 i) (wr.drewN 1) (by omega) (show GB (wr.drewN 1) n0 n (bo i A A2) _ from HG.out)
      rw [bo_step] at T1
      have T1 := Lib.hid T1
      have i0 : (0 : Int) ≤ i := by omega
      have i1 : (i : Int) < n := by omega
      have i8 : (i : Int) < 128 := by omega
      clear d2 d3
      go_wp2
      go_still_tail 9, (by kernel_rfl)
      go_wp2_with fail
      refine T1.out.mono ?_
      rintro e w3 ⟨rfl, g3, x3⟩
      have hsz : n0 ≤ wr.heap.size := Nat.le_of_lt (World.rowIs.lt HG.out)
      have HB3 : Hid (Below n0 w w3) := (below_drewN HB.out 1).trans (x3.below1 hsz (Nat.le_refl _))
      obtain ⟨-, d2, d3⟩ := HH.out w3 HB3.out i (by omega)
      have T2 := take_gb n0 n i _ (bo i (turnA A) (turnA A2)) (turnA A2 i) (w3.drewN 1) (by omega) (show GB (w3.drewN 1) n0 n (bo (i + 1) A A2) _ from g3)
      rw [bo_step] at T2
      have T2 := Lib.hid T2
      have hsz3 : Hid (n0 ≤ w3.heap.size) := Nat.le_of_lt (World.rowIs.lt g3)
      clear T1 g3 x3 hsz HG HB d0 d1
      go_wp2_with fail
      go_still_tail 9, (by kernel_rfl)
      go_wp2_with fail
      refine T2.out.mono ?_
      rintro e w4 ⟨rfl, g4, x4⟩
      have HG4 := Lib.hid g4
      have HB4 : Hid (Below n0 w w4) := (below_drewN HB3.out 1).trans (x4.below1 hsz3.out (Nat.le_refl _))
      clear T2 g4 x4 hsz3 HB3 d2 d3
      go_wp2_with fail
      go_roundg (n - (i + 1))
      case rel => exact ⟨i + 1, by omega, rfl, by go_num, HG4.out, HB4.out⟩
      case measure => omega
    · have hin : i = n := by omega
      subst hin
      have HE : Hid (GR wr n0 i (bothA A A2)) := by
        have h1 := HG.out
        rw [bo_end (fun a k h => (FA.out a k h).1) (fun a k h => (FB.out a k h).1), bo_end (A := turnA A) (A2 := turnA A2) (fun a k h => (FA.out k a h).2) (fun a k h => (FB.out k a h).2)] at h1
        refine ⟨h1, hn, fun a k h => ?_⟩
        unfold bothA at h
        rw [Bool.or_eq_true] at h
        rcases h with h | h
        · exact FA.out a k h
        · exact FB.out a k h
      have HB2 : Hid (Below w.heap.size w wr) := by unfold Hid; rw [HN0.out]; exact HB.out
      clear HG HB
      go_wp2
      go_ret
      exact ⟨by rw [HN0.out]; rfl, by rw [HN0.out]; exact HE.out, HB2.out⟩
end Go.Proofs.YtonnopcafmhaaaaDoor

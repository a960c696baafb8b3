/-
  Whatever is written, piece by piece, the fingerprint that is told is that of all of it, and it may go on behind that. Conditions: the table of the rounds' words (surety/sha.roots) reads as the program's text lays it; the card ties it.
-/
import Derived.Test.YtbdahkbgjbaenaaDoorWw
import Derived.Test.YtbdahkbgjbaenaaDoorSwP
import Derived.Deep.Slices
namespace Go.Proofs.YtbdahkbgjbaenaaDoor
open Go.ChangeShapes Go.WideShapes Go.ChangeAt Go.RowKit

theorem cells22 : Tryd.prog.cellsOf 22 = 1 := by kernel_rfl
/-- a piece that came in -/
def PieceIs (w : World) (v : Value) (t : Option Addr × List Int × Nat) : Prop :=
  v = .slice t.1 t.2.1.length t.2.2 ∧ Rd w t.1 t.2.1 ∧ (t.1 = none → t.2.1 = [] ∧ t.2.2 = 0) ∧ isB t.2.1 ∧ t.2.1.length ≤ t.2.2 ∧ t.2.2 ≤ maxLen
theorem open_piece {H : Type} {enc : TypeId × Value → H} {w : World} {base : Nat} {spare : Nat → Bool} {held : Bool} {fuel : Nat} {v : Value} {x : DataW H × List MemPlace}
    (hf : DataW.trod enc Tryd.prog w base spare held fuel 22 [v] = some x) : ∃ t, PieceIs w v t := by
  rcases open_ints Tryd.underlying22 Tryd.underlying5 cells5 hf with ⟨hcs, _⟩ | ⟨a, len, cap, zs, hcs, _, hl, hm, hz, _, hcell, hwz⟩
  · injection hcs with e _
    subst e
    exact ⟨(none, [], 0), rfl, (fun i hi => by simp at hi), (fun _ => ⟨rfl, rfl⟩), (fun i => by simp), Nat.le_refl _, Nat.zero_le _⟩
  · injection hcs with e _
    subst e
    have hlen : (zs.take len).length = len := by
      rw [List.length_take, hz]; split <;> omega
    refine ⟨(some a, zs.take len, cap), by rw [hlen], (fun i hi => ?_), (fun h => by cases h), (fun i => ?_), (by show (zs.take len).length ≤ cap; omega), hm⟩
    · have hi' : i < len := by simp only at hi; omega
      have hi2 : i < zs.length := by rw [hz]; split <;> omega
      have hsp : a.spot = none := by
        have c0 := hcell 0 (by omega)
        have : a.add 0 = a := by unfold Addr.add; simp
        rw [this] at c0
        exact World.cell?_spot c0
      obtain ⟨b, o, spot⟩ := a
      simp only at hsp
      subst hsp
      have c := hcell i hi2
      have ea : (⟨b, o, none⟩ : Addr).add i = ⟨b, o + i, none⟩ := by unfold Addr.add; split <;> simp_all
      rw [ea] at c
      refine ⟨b, o, rfl, World.block_lt_of_cell? _ _ c, ?_⟩
      rw [c]
      simp [List.getD, hi']
    · show _ ∧ _
      rw [List.getD_eq_getElem?_getD]
      cases hq : (zs.take len)[i]? with
      | none => simp
      | some z =>
        have hm' := List.mem_of_mem_take (List.mem_of_getElem? hq)
        have := u8_bd (hwz z hm')
        simpa using this
/-- pieces that came in -/
theorem open_pieces {H : Type} {enc : TypeId × Value → H} {w : World} {base : Nat} {spare : Nat → Bool} {held : Bool} {r : Reach} {b0 : Nat} {v : Value} {d : DataW H} {p : List MemPlace}
    (hv : Value.okWide Tryd.prog w r b0 32 v) (h : DataW.Trod enc Tryd.prog w base spare held 32 v d p) :
    ∃ pp m cap S M C, v = .slice pp m cap ∧ m ≤ maxLen ∧ Pt w pp m S M C ∧ (∀ i, isB (M i)) ∧ ∀ i, i < m → S i = none → M i = [] ∧ C i = 0 := by
  obtain ⟨pp, len, cap, rfl⟩ := okWide_slice Tryd.underlying32 hv
  obtain ⟨fuel, hf⟩ := h
  have hf' : DataW.trod enc Tryd.prog w base spare held fuel 32 [.slice pp len cap] = some (d, p) := hf
  rcases Go.Deep.open_slice1 Tryd.underlying32 cells22 hf' with ⟨hcs, _⟩ | ⟨a, len', cap', m, n, V, D, Pl, hcs, _, hl, hm, hmm, _, hx⟩
  · injection hcs with e _
    injection e with e1 e2 e3
    subst e1 e2 e3
    exact ⟨none, 0, 0, fun _ => none, fun _ => [], fun _ => 0, rfl, (by unfold maxLen; omega), ⟨(fun i hi => by omega), (fun i hi => by omega), (fun i hi => by omega), (fun i hi => by omega)⟩, (fun i j => by simp), (fun i hi => by omega)⟩
  · injection hcs with e _
    injection e with e1 e2 e3
    subst e1 e2 e3
    have hsp : a.spot = none := by
      simp only [Value.okWide, Cell.okWide, Cell.ok, Tryd.underlying32] at hv
      exact hv.2.2.2.1
    obtain ⟨b, o, spot⟩ := a
    simp only at hsp
    subst hsp
    have hlm : len ≤ m := by rw [hmm]; split <;> omega
    have each : ∀ i : Nat, ∃ t : Option Addr × List Int × Nat, (i < len → PieceIs w (V i) t) ∧ (¬ i < len → t = (none, [], 0)) := fun i => by
      by_cases hi : i < len
      · obtain ⟨t, ht⟩ := open_piece (hx i (by omega)).2
        exact ⟨t, (fun _ => ht), (fun h => absurd hi h)⟩
      · exact ⟨(none, [], 0), (fun h => absurd h hi), (fun _ => rfl)⟩
    obtain ⟨f, hfn⟩ := Classical.axiomOfChoice each
    refine ⟨some ⟨b, o, none⟩, len, cap, fun i => (f i).1, fun i => (f i).2.1, fun i => (f i).2.2, rfl, Nat.le_trans hl hm, ⟨(fun i hi => ?_), (fun i hi => ((hfn i).1 hi).2.1), (fun i hi => ((hfn i).1 hi).2.2.2.1), (fun i hi => ((hfn i).1 hi).2.2.2.2)⟩, (fun i => ?_), (fun i hi => ((hfn i).1 hi).2.2.1)⟩
    · have c := (hx i (by omega)).1
      have ea : (⟨b, o, none⟩ : Addr).add i = ⟨b, o + i, none⟩ := by unfold Addr.add; split <;> simp_all
      rw [ea] at c
      exact ⟨b, o, rfl, World.block_lt_of_cell? _ _ c, by rw [c, ((hfn i).1 hi).1]⟩
    · by_cases hi : i < len
      · exact ((hfn i).1 hi).2.2.2.1
      · show isB (f i).2.1
        rw [(hfn i).2 hi]; intro j; simp
end Go.Proofs.YtbdahkbgjbaenaaDoor
namespace Go.Proofs.YtbdahkbgjbaenaaDoor.shaWrites
open Go.ChangeShapes Go.WideShapes Go.ChangeAt Go.RowKit
open Go.ChangeMaps (open_string shut_string)

/-- The door's own heap meets the condition: closed facts. -/
theorem door_met (os : Os) (args : Array Value) : laidMetH Tryd.prog Rows.shaWritesRow.laid ((World.doorLaid Tryd.prog 58 os).forCall (fun _ _ => 0) ⟨#[], args, []⟩).memory :=
  laidMetH_of_parts3 (fuel := 8) (laidMet_of_run' 8 (by kernel_rfl) (by kernel_rfl)) (by kernel_rfl) (by kernel_rfl)
theorem tab_of {W : World} (h : laidMetH Tryd.prog Rows.shaWritesRow.laid W) : Tab W := by
  rw [MakeChecks.laidMetH_plain _ _ _ (by kernel_rfl)] at h
  exact of_laid rfl h
set_option maxRecDepth 100000 in
theorem lifted (os : Os) (started : os.Started) (H : Type) (enc : TypeId × Value → H) :
    ReturnsInHanded {} Tryd.checked os 4 .any (fun w args => (Rows.shaWritesSpec.pre enc Tryd.prog Tryd.f4 [] false w args ∧ laidMetH Tryd.prog Rows.shaWritesRow.laid w) ∧ sizedMet enc Tryd.prog Tryd.f4 (OpenSpec.ofChange Rows.shaWritesSpec) false w args)
      (Rows.shaWritesSpec.post enc Tryd.prog Tryd.f4 false true false false) := by
  refine returnsInHanded_of_change_and (C := Tryd.checked) (X := fun w _ => laidMetH Tryd.prog Rows.shaWritesRow.laid w) (fun _ _ _ hh h => h.of_heap hh) own started (by kernel_rfl) Tryd.func4
    (ChangeSpec.witness_shaped (enc := enc) (C := Tryd.checked) (os := os) (X := fun w _ => laidMetH Tryd.prog Rows.shaWritesRow.laid w) false (World.doorLaid Tryd.prog 58 os) #[.slice none 0 0] 8 rfl (World.shaped_of_RefB (by kernel_rfl) (by kernel_rfl)) (by kernel_rfl) (by kernel_rfl) (by kernel_rfl) (door_met os _)) ?_
  intro W base args ds gs before hval0 hW _ _ hL _
  have hval : ∀ (j : Nat) t v, Tryd.f4.params[j]? = some t → args[j]? = some v → Value.okWide Tryd.prog W .any base t v := hval0
  have hW' := hW
  obtain ⟨p, q, hA0, hV, rfl, hfz, hnd⟩ := hW
  have hA : DataW.TrodAll enc Tryd.prog W 0 (fun _ => true) true Tryd.f4.params.toList args.toList ds p := hA0
  rw [Tryd.params4] at hA hval
  obtain ⟨v0, d0, rfl, rfl, h0⟩ := trodAll_one hA
  obtain ⟨rfl, rfl⟩ := trodVars_none hV
  obtain ⟨pp, m, cap, S, M, C, rfl, hm, hP, hM, hS⟩ := open_pieces (hval 0 32 v0 rfl rfl) h0
  have tab := tab_of hL
  clear hA0 hval0
  simp only [List.append_nil] at hW'
  have hlt : ∀ x ∈ p, x.block < W.heap.size := fun x hx => by simpa using hW'.lt x hx
  refine (writes_walk pp m cap S M C W hP hM hS hm tab).mono fun e W' ⟨he, bel⟩ => ?_
  subst he
  exact ⟨_, rfl, _, _, _, [], p, [], hW', trodAll_mk1 (shut_bool Tryd.underlying4 _), trodAll_mk1 (Below.trod laidOut (by kernel_rfl) (of_decide_eq_true (by kernel_rfl)) h0 bel hlt), rfl, bel.frame _, fun h => by cases h⟩
theorem holds : Rows.ShaWritesSaid :=
  OpenClaim.holds_of_wide 4 Tryd.f4 rfl rfl rfl rfl rfl rfl rfl ⟨rfl, rfl, rfl, rfl, rfl⟩ rfl rfl rfl rfl rfl (by kernel_rfl) Tryd.func4 (by kernel_rfl)
    (of_decide_eq_true (by kernel_rfl)) (by unfold Func.isWrapper; first | (rw [if_pos (by decide +kernel)]; kernel_rfl) | (rw [if_neg (by decide +kernel)]; exact ⟨rfl, rfl⟩))
    (fun os started H enc _ => lifted os started H enc)
end Go.Proofs.YtbdahkbgjbaenaaDoor.shaWrites

/-
  Any bytes are read as the value whose form they begin with, or refused, as the document says; they stay. No conditions.
-/
import Derived.Test.YtpmdkekjoocplaaHj
import Derived.Test.YtpmdkekjoocplaaGo
import Derived.Test.YtpmdkekjoocplaaRows
import Derived.ProofKit
import Derived.OpenShut
import Derived.Lib.SmallJoins
import Derived.Carry
import Derived.Deep.Slices
namespace Go.Proofs.Ytpmdkekjoocplaa
open Go.ChangeShapes Go.WideShapes Go.ChangeAt Go.RowKit Go.Joins Go.Deep

theorem laidOut : laidOutB Try.prog = true := by kernel_rfl
theorem cells5 : Try.prog.cellsOf 5 = 1 := by kernel_rfl
/-- bytes that came in -/
theorem open_bytes {H : Type} {enc : TypeId × Value → H} {w : World} {base : Nat} {spare : Nat → Bool} {held : Bool} {r : Reach} {b0 : Nat} {v : Value} {d : DataW H} {p : List MemPlace}
    (hv : Value.okWide Try.prog w r b0 22 v) (h : DataW.Trod enc Try.prog w base spare held 22 v d p) :
    ∃ sp M cap, v = .slice sp (List.length M) cap ∧ Bts w.heap.size w sp cap M := by
  obtain ⟨sp, len, cap, rfl⟩ := okWide_slice Try.underlying22 hv
  obtain ⟨fuel, hf⟩ := h
  have hf' : DataW.trod enc Try.prog w base spare held fuel 22 [.slice sp len cap] = some (d, p) := hf
  rcases open_ints Try.underlying22 Try.underlying5 cells5 hf' with ⟨hcs, _⟩ | ⟨a, len', cap', zs, hcs, _, hl, hm, hz, _, hcell, hwz⟩
  · injection hcs with e _
    injection e with e1 e2 e3
    subst e1 e2 e3
    exact ⟨none, [], 0, rfl, RowP.nil _ _ _ _, (fun c h => by cases h), (fun a h => by cases h)⟩
  · injection hcs with e _
    injection e with e1 e2 e3
    subst e1 e2 e3
    have hsp : a.spot = none := by
      simp only [Value.okWide, Cell.okWide, Cell.ok, Try.underlying22] at hv
      exact hv.2.2.2.1
    obtain ⟨b, o, spot⟩ := a
    simp only at hsp
    subst hsp
    have hlen : (zs.take len).length = len := by
      rw [List.length_take, hz]; split <;> omega
    have hbd : ∀ z, z ∈ zs.take len → 0 ≤ z ∧ z < 256 := fun z hz1 => by
      have h5 := hwz z (List.mem_of_mem_take hz1)
      simp [Lit.wf, IntKind.min, IntKind.max, IntKind.signed, IntKind.bits] at h5
      omega
    have hM : ((zs.take len).map Int.toNat).length = len := by rw [List.length_map, hlen]
    refine ⟨some ⟨b, o, none⟩, (zs.take len).map Int.toNat, cap, by rw [hM], ⟨⟨by rw [hM]; exact hl, hm, (fun h => by cases h), fun h0 => ?_⟩, fun c hc => ?_, fun a h => by injection h with h; rw [← h]⟩⟩
    · rw [hM] at h0
      have cellat : ∀ j, j < len → w.cell? ⟨b, o + j, none⟩ = some (.int .u8 (zs.getD j 0)) := fun j hj => by
        have hi2 : j < zs.length := by rw [hz]; split <;> omega
        have c := hcell j hi2
        have ea : (⟨b, o, none⟩ : Addr).add j = ⟨b, o + j, none⟩ := by unfold Addr.add; split <;> simp_all
        rw [ea] at c
        rw [c]
      refine ⟨b, o, rfl, World.block_lt_of_cell? _ _ (cellat 0 h0), fun j hj m hm2 => ?_⟩
      rw [hM] at hj
      obtain rfl : m = 0 := by omega
      rw [Nat.mul_one, Nat.add_zero, cellat j hj]
      have hi2 : j < zs.length := by rw [hz]; split <;> omega
      have hmem : zs.getD j 0 ∈ zs.take len := by
        rw [List.getD_eq_getElem?_getD, List.getElem?_eq_getElem hi2]
        exact List.mem_iff_getElem.2 ⟨j, by omega, List.getElem_take⟩
      have h5 := hbd _ hmem
      congr 2
      rw [List.getD_eq_getElem?_getD, List.getD_eq_getElem?_getD, List.getElem?_map, List.getElem?_take_of_lt hj] at *
      rw [List.getElem?_eq_getElem hi2] at *
      simp only [Option.map_some, Option.getD_some] at *
      omega
    · obtain ⟨z, hz1, rfl⟩ := List.mem_map.1 hc
      have := hbd z hz1; omega
end Go.Proofs.Ytpmdkekjoocplaa
namespace Go.Proofs.Ytpmdkekjoocplaa.codeGets
open Go.ChangeShapes Go.WideShapes Go.ChangeAt Go.RowKit Go.Joins

theorem own : ownKnob Try.prog.godebug = none := by kernel_rfl
set_option maxRecDepth 100000 in
theorem lifted (os : Os) (started : os.Started) (H : Type) (enc : TypeId × Value → H) :
    ReturnsInHanded {} Try.checked os 3 .any (Rows.codeGetsSpec.pre6 enc Try.prog Try.f3 Rows.codeGetsRow.domain false) (Rows.codeGetsSpec.post enc Try.prog Try.f3 false true false false) := by
  refine returnsInHanded_of_change (C := Try.checked) own started (by kernel_rfl) Try.func3
    (ChangeSpec.witness6 (enc := enc) (C := Try.checked) false ⟨#[], #[.slice none 0 0], []⟩ 8 (by kernel_rfl) (by kernel_rfl) (by kernel_rfl) (by kernel_rfl)) ?_
  intro W base args ds gs before hval0 hW hcnd _
  have hval : ∀ (j : Nat) t v, Try.f3.params[j]? = some t → args[j]? = some v → Value.okWide Try.prog W .any base t v := hval0
  have hW' := hW
  obtain ⟨p, q, hA0, hV, rfl, hfz, hnd⟩ := hW
  have hA : DataW.TrodAll enc Try.prog W 0 (fun _ => true) true Try.f3.params.toList args.toList ds p := hA0
  rw [Try.params3] at hA hval
  obtain ⟨v0, vs0, d0, ds0, p0, q0, hargs, rfl, rfl, h0, r0⟩ := trodAll_cons hA
  obtain ⟨rfl, rfl, rfl⟩ := trodAll_nil r0
  obtain rfl : args = #[v0] := by cases args; simp_all
  obtain ⟨rfl, rfl⟩ := trodVars_none hV
  obtain ⟨sp, M, cap, rfl, B⟩ := open_bytes (hval 0 22 v0 rfl rfl) h0
  clear hA0 hval0
  simp only [List.append_nil] at hW'
  have hlt : ∀ x ∈ p0, x.block < W.heap.size := fun x hx => hW'.lt x (by simpa using hx)
  have WK : Calls Try.prog 3 #[.slice sp M.length cap] W fun e w' => e = .returned (.bool true) ∧ Below W.heap.size W w' := by
    by_cases hl : M.length ≤ 1000
    · exact gets_near (rget_all 8 (Nat.le_refl _)) B (Nat.le_refl _) hl
    · exact gets_far sp _ cap W (by omega)
  refine WK.mono fun e W' ⟨he, bel⟩ => ?_
  subst he
  exact ⟨_, rfl, _, _, _, [], p0, [], hW', trodAll_mk1 (shut_bool Try.underlying4 _), by
    have := (trodAll_cons_mk (Below.trod laidOut (by kernel_rfl) (of_decide_eq_true (by kernel_rfl)) h0 bel hlt) trodAll_mk0)
    simp only [List.append_nil] at this
    exact this, rfl, bel.frame _, fun h => by cases h⟩
theorem over : Rows.codeGetsRow.holds Try.pinned (OpenSpec.ofChange Rows.codeGetsSpec) :=
  OpenClaim.holds_of_wide 3 Try.f3 rfl rfl rfl rfl rfl rfl rfl ⟨rfl, rfl, rfl, rfl, rfl⟩ rfl rfl rfl rfl rfl (by kernel_rfl) Try.func3 (by kernel_rfl)
    (of_decide_eq_true (by kernel_rfl)) (by unfold Func.isWrapper; first | (rw [if_pos (by decide +kernel)]; kernel_rfl) | (rw [if_neg (by decide +kernel)]; exact ⟨rfl, rfl⟩))
    (fun os started H enc _ => lifted os started H enc)
theorem proved : Rows.CodeGetsSaid := over
#print axioms proved
end Go.Proofs.Ytpmdkekjoocplaa.codeGets

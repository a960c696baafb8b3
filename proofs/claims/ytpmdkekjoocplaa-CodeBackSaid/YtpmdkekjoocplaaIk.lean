/-
  What is laid is read as it was, whatever stands behind it; unlike values have unlike forms, and none is the beginning of another one. No conditions.
-/
import Derived.Test.YtpmdkekjoocplaaPo
import Derived.Test.YtpmdkekjoocplaaIc
import Derived.Test.YtpmdkekjoocplaaRows
namespace Go.Proofs.Ytpmdkekjoocplaa
open Go.ChangeShapes Go.WideShapes Go.ChangeAt Go.RowKit Go.Joins Go.Deep

theorem laidOut : laidOutB Try.prog = true := by kernel_rfl
theorem cells5 : Try.prog.cellsOf 5 = 1 := by kernel_rfl
/-- bytes that came in -/
theorem open_bytes {H : Type} {enc : TypeId × Value → H} {w : World} {base : Nat} {spare : Nat → Bool} {held : Bool} {r : Reach} {b0 : Nat} {v : Value} {d : DataW H} {p : List MemPlace}
    (hv : Value.okWide Try.prog w r b0 22 v) (h : DataW.Trod enc Try.prog w base spare held 22 v d p) :
    ∃ sp M cap, v = .slice sp (List.length M) cap ∧ Bts w.heap.size w sp cap M := by
  obtain ⟨sp, len, cap, rfl⟩ := okWide_slice Try.underlying22 hv
  obtain ⟨fuel, hf⟩ := h
  have hf' : DataW.trod enc Try.prog w base spare held fuel 22 [.slice sp len cap] = some (d, p) := hf
  rcases open_ints Try.underlying22 Try.underlying5 cells5 hf' with ⟨hcs, _⟩ | ⟨a, len', cap', zs, hcs, _, hl, hm, hz, _, hcell, hwz⟩
  · injection hcs with e _
    injection e with e1 e2 e3
    subst e1 e2 e3
    exact ⟨none, [], 0, rfl, RowP.nil _ _ _ _, (fun c h => by cases h), (fun a h => by cases h)⟩
  · injection hcs with e _
    injection e with e1 e2 e3
    subst e1 e2 e3
    have hsp : a.spot = none := by
      simp only [Value.okWide, Cell.okWide, Cell.ok, Try.underlying22] at hv
      exact hv.2.2.2.1
    obtain ⟨b, o, spot⟩ := a
    simp only at hsp
    subst hsp
    have hlen : (zs.take len).length = len := by
      rw [List.length_take, hz]; split <;> omega
    have hbd : ∀ z, z ∈ zs.take len → 0 ≤ z ∧ z < 256 := fun z hz1 => by
      have h5 := hwz z (List.mem_of_mem_take hz1)
      simp [Lit.wf, IntKind.min, IntKind.max, IntKind.signed, IntKind.bits] at h5
      omega
    have hM : ((zs.take len).map Int.toNat).length = len := by rw [List.length_map, hlen]
    refine ⟨some ⟨b, o, none⟩, (zs.take len).map Int.toNat, cap, by rw [hM], ⟨⟨by rw [hM]; exact hl, hm, (fun h => by cases h), fun h0 => ?_⟩, fun c hc => ?_, fun a h => by injection h with h; rw [← h]⟩⟩
    · rw [hM] at h0
      have cellat : ∀ j, j < len → w.cell? ⟨b, o + j, none⟩ = some (.int .u8 (zs.getD j 0)) := fun j hj => by
        have hi2 : j < zs.length := by rw [hz]; split <;> omega
        have c := hcell j hi2
        have ea : (⟨b, o, none⟩ : Addr).add j = ⟨b, o + j, none⟩ := by unfold Addr.add; split <;> simp_all
        rw [ea] at c
        rw [c]
      refine ⟨b, o, rfl, World.block_lt_of_cell? _ _ (cellat 0 h0), fun j hj m hm2 => ?_⟩
      rw [hM] at hj
      obtain rfl : m = 0 := by omega
      rw [Nat.mul_one, Nat.add_zero, cellat j hj]
      have hi2 : j < zs.length := by rw [hz]; split <;> omega
      have hmem : zs.getD j 0 ∈ zs.take len := by
        rw [List.getD_eq_getElem?_getD, List.getElem?_eq_getElem hi2]
        exact List.mem_iff_getElem.2 ⟨j, by omega, List.getElem_take⟩
      have h5 := hbd _ hmem
      congr 2
      rw [List.getD_eq_getElem?_getD, List.getD_eq_getElem?_getD, List.getElem?_map, List.getElem?_take_of_lt hj] at *
      rw [List.getElem?_eq_getElem hi2] at *
      simp only [Option.map_some, Option.getD_some] at *
      omega
    · obtain ⟨z, hz1, rfl⟩ := List.mem_map.1 hc
      have := hbd z hz1; omega
end Go.Proofs.Ytpmdkekjoocplaa
namespace Go.Proofs.Ytpmdkekjoocplaa.codeBack
open Go.ChangeShapes Go.WideShapes Go.ChangeAt Go.RowKit Go.Joins

theorem own : ownKnob Try.prog.godebug = none := by kernel_rfl
set_option maxRecDepth 100000 in
theorem lifted (os : Os) (started : os.Started) (H : Type) (enc : TypeId × Value → H) :
    ReturnsInHanded {} Try.checked os 4 .any (Rows.codeBackSpec.pre6 enc Try.prog Try.f4 Rows.codeBackRow.domain false) (Rows.codeBackSpec.post enc Try.prog Try.f4 false true false false) := by
  refine returnsInHanded_of_change (C := Try.checked) own started (by kernel_rfl) Try.func4
    (ChangeSpec.witness6 (enc := enc) (C := Try.checked) false ⟨#[], #[vv 0 0 ⟨#[]⟩ (.slice none 0 0) (.slice none 0 0) 0 0 false, vv 0 0 ⟨#[]⟩ (.slice none 0 0) (.slice none 0 0) 0 0 false, .slice none 0 0], []⟩ 8 (by kernel_rfl) (by kernel_rfl) (by kernel_rfl) (by kernel_rfl)) ?_
  intro W base args ds gs before hval0 hW hcnd _
  have hval : ∀ (j : Nat) t v, Try.f4.params[j]? = some t → args[j]? = some v → Value.okWide Try.prog W .any base t v := hval0
  have hW' := hW
  obtain ⟨p, q, hA0, hV, rfl, hfz, hnd⟩ := hW
  have hA : DataW.TrodAll enc Try.prog W 0 (fun _ => true) true Try.f4.params.toList args.toList ds p := hA0
  rw [Try.params4] at hA hval
  obtain ⟨v0, vs0, d0, ds0, p0, q0, hargs, rfl, rfl, h0, r0⟩ := trodAll_cons hA
  obtain ⟨v1, vs1, d1, ds1, p1, q1, rfl, rfl, rfl, h1, r1⟩ := trodAll_cons r0
  obtain ⟨v2, vs2, d2, ds2, p2, q2, rfl, rfl, rfl, h2, r2⟩ := trodAll_cons r1
  obtain ⟨rfl, rfl, rfl⟩ := trodAll_nil r2
  obtain rfl : args = #[v0, v1, v2] := by cases args; simp_all
  obtain ⟨rfl, rfl⟩ := trodVars_none hV
  obtain ⟨V0, L0⟩ := open_val (hval 0 30 v0 rfl rfl) h0
  obtain ⟨V1, L1⟩ := open_val (hval 1 30 v1 rfl rfl) h1
  obtain ⟨sp, M, cap, rfl, B⟩ := open_bytes (hval 2 22 v2 rfl rfl) h2
  clear hA0 hval0
  simp only [List.append_nil] at hW'
  have hlt : ∀ x ∈ p0 ++ (p1 ++ p2), x.block < W.heap.size := fun x hx => hW'.lt x (by simpa using hx)
  refine (lback_any B L0 L1 (Nat.le_refl _)).mono fun e W' ⟨he, bel⟩ => ?_
  subst he
  exact ⟨_, rfl, _, _, _, [], p0 ++ (p1 ++ p2), [], hW', trodAll_mk1 (shut_bool Try.underlying4 _), by
    have := (trodAll_cons_mk (Below.trod laidOut (by kernel_rfl) (of_decide_eq_true (by kernel_rfl)) h0 bel (fun x hx => hlt x (by simp [hx]))) (trodAll_cons_mk (Below.trod laidOut (by kernel_rfl) (of_decide_eq_true (by kernel_rfl)) h1 bel (fun x hx => hlt x (by simp [hx]))) (trodAll_cons_mk (Below.trod laidOut (by kernel_rfl) (of_decide_eq_true (by kernel_rfl)) h2 bel (fun x hx => hlt x (by simp [hx]))) trodAll_mk0)))
    simp only [List.append_nil] at this
    exact this, rfl, bel.frame _, fun h => by cases h⟩
theorem over : Rows.codeBackRow.holds Try.pinned (OpenSpec.ofChange Rows.codeBackSpec) :=
  OpenClaim.holds_of_wide 4 Try.f4 rfl rfl rfl rfl rfl rfl rfl ⟨rfl, rfl, rfl, rfl, rfl⟩ rfl rfl rfl rfl rfl (by kernel_rfl) Try.func4 (by kernel_rfl)
    (of_decide_eq_true (by kernel_rfl)) (by unfold Func.isWrapper; first | (rw [if_pos (by decide +kernel)]; kernel_rfl) | (rw [if_neg (by decide +kernel)]; exact ⟨rfl, rfl⟩))
    (fun os started H enc _ => lifted os started H enc)
theorem proved : Rows.CodeBackSaid := over
#print axioms proved
end Go.Proofs.Ytpmdkekjoocplaa.codeBack

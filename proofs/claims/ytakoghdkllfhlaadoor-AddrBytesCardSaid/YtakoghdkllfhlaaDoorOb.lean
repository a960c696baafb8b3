/- Bytes that came in, opened. -/
import Derived.Test.YtakoghdkllfhlaaDoorO
import Derived.Test.YtakoghdkllfhlaaDoorRf
namespace Go.Proofs.YtakoghdkllfhlaaDoor
open Go.ChangeShapes Go.WideShapes Go.ChangeAt Go.RowKit Go.Joins Go.Deep

theorem co5 : Tryd.prog.cellsOf 5 = 1 := by kernel_rfl
set_option maxRecDepth 100000 in
theorem open_bytes {H : Type} {enc : TypeId × Value → H} {w : World} {base : Nat} {spare : Nat → Bool} {held : Bool} {r : Reach} {b0 : Nat} {v : Value} {d : DataW H} {p : List MemPlace}
    (hv : Value.okWide Tryd.prog w r b0 49 v) (h : DataW.Trod enc Tryd.prog w base spare held 49 v d p) :
    ∃ sp M cap, v = .slice sp (List.length M) cap ∧ Bts w.heap.size w sp cap M := by
  obtain ⟨sp, len, cap, rfl⟩ := okWide_slice Tryd.underlying49 hv
  obtain ⟨fuel, hf⟩ := h
  have hf' : DataW.trod enc Tryd.prog w base spare held fuel 49 [.slice sp len cap] = some (d, p) := hf
  rcases open_ints Tryd.underlying49 Tryd.underlying5 co5 hf' with ⟨hcs, _⟩ | ⟨a, len', cap', zs, hcs, _, hl, hm, hz, _, hcell, hwz⟩
  · injection hcs with e _
    injection e with e1 e2 e3
    subst e1 e2 e3
    exact ⟨none, [], 0, rfl, RowP.nil _ _ _ _, (fun c h => by cases h), (fun a h => by cases h)⟩
  · injection hcs with e _
    injection e with e1 e2 e3
    subst e1 e2 e3
    have hsp : a.spot = none := by
      simp only [Value.okWide, Cell.okWide, Cell.ok, Tryd.underlying49] at hv
      exact hv.2.2.2.1
    obtain ⟨b, o, spot⟩ := a
    simp only at hsp
    subst hsp
    have hlen : (zs.take len).length = len := by
      rw [List.length_take, hz]; split <;> omega
    have hbd : ∀ z, z ∈ zs.take len → 0 ≤ z ∧ z < 256 := fun z hz1 => by
      have h5 := hwz z (List.mem_of_mem_take hz1)
      simp [Lit.wf, IntKind.min, IntKind.max, IntKind.signed, IntKind.bits] at h5
      omega
    have hM : ((zs.take len).map Int.toNat).length = len := by rw [List.length_map, hlen]
    refine ⟨some ⟨b, o, none⟩, (zs.take len).map Int.toNat, cap, by rw [hM], ⟨⟨by rw [hM]; exact hl, hm, (fun h => by cases h), fun h0 => ?_⟩, fun c hc => ?_, fun a h => by injection h with h; rw [← h]⟩⟩
    · rw [hM] at h0
      have cellat : ∀ j, j < len → w.cell? ⟨b, o + j, none⟩ = some (.int .u8 (zs.getD j 0)) := fun j hj => by
        have hi2 : j < zs.length := by rw [hz]; split <;> omega
        have c := hcell j hi2
        have ea : (⟨b, o, none⟩ : Addr).add j = ⟨b, o + j, none⟩ := by unfold Addr.add; split <;> simp_all
        rw [ea] at c
        rw [c]
      refine ⟨b, o, rfl, World.block_lt_of_cell? _ _ (cellat 0 h0), fun j hj m hm2 => ?_⟩
      rw [hM] at hj
      obtain rfl : m = 0 := by omega
      rw [Nat.mul_one, Nat.add_zero, cellat j hj]
      have hi2 : j < zs.length := by rw [hz]; split <;> omega
      have hmem : zs.getD j 0 ∈ zs.take len := by
        rw [List.getD_eq_getElem?_getD, List.getElem?_eq_getElem hi2]
        exact List.mem_iff_getElem.2 ⟨j, by omega, List.getElem_take⟩
      have h5 := hbd _ hmem
      congr 2
      rw [List.getD_eq_getElem?_getD, List.getD_eq_getElem?_getD, List.getElem?_map, List.getElem?_take_of_lt hj] at *
      rw [List.getElem?_eq_getElem hi2] at *
      simp only [Option.map_some, Option.getD_some] at *
      omega
    · obtain ⟨z, hz1, rfl⟩ := List.mem_map.1 hc
      have := hbd z hz1; omega

end Go.Proofs.YtakoghdkllfhlaaDoor

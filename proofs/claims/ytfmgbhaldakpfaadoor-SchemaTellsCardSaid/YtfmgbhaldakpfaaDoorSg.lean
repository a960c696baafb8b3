/- The reference's attr. -/
import Derived.Test.YtfmgbhaldakpfaaDoorSf
import Derived.StillTailTactics
namespace Go.Proofs.YtfmgbhaldakpfaaDoor
open Go.RowKit

theorem isBB_has : ∀ nd cm an ow : Bool, hasB (isBB nd cm an ow) 110 = nd ∧ hasB (isBB nd cm an ow) 99 = cm ∧ hasB (isBB nd cm an ow) 97 = an ∧ hasB (isBB nd cm an ow) 111 = ow ∧ (isBB nd cm an ow).size ≤ 4 := by decide
set_option maxHeartbeats 1000000 in
set_option maxRecDepth 100000 in
theorem attr_any (r : ByteArray × Atr) (w : World) : Calls Tryd.prog 30 #[.agg (tcell r)] w fun e w' => e = .returned (av r.2) ∧ Below w.heap.size w w' := by
  obtain ⟨q1, q2, q3, q4, hs⟩ := isBB_has r.2.nd r.2.cm r.2.an r.2.ow
  change hasB (isB r.2) 110 = _ at q1
  change hasB (isB r.2) 99 = _ at q2
  change hasB (isB r.2) 97 = _ at q3
  change hasB (isB r.2) 111 = _ at q4
  change (isB r.2).size ≤ 4 at hs
  have H1 := Lib.hid (fun W => (has_any (isB r.2) 110 W (by omega)).mono (R' := fun e w' => e = .returned (.bool (hasB (isB r.2) 110)) ∧ w' = W) fun _ _ h => ⟨h.1, h.2.symm⟩)
  have H2 := Lib.hid (fun W => (has_any (isB r.2) 99 W (by omega)).mono (R' := fun e w' => e = .returned (.bool (hasB (isB r.2) 99)) ∧ w' = W) fun _ _ h => ⟨h.1, h.2.symm⟩)
  have H3 := Lib.hid (fun W => (has_any (isB r.2) 97 W (by omega)).mono (R' := fun e w' => e = .returned (.bool (hasB (isB r.2) 97)) ∧ w' = W) fun _ _ h => ⟨h.1, h.2.symm⟩)
  have H4 := Lib.hid (fun W => (has_any (isB r.2) 111 W (by omega)).mono (R' := fun e w' => e = .returned (.bool (hasB (isB r.2) 111)) ∧ w' = W) fun _ _ h => ⟨h.1, h.2.symm⟩)
  rw [q1] at H1
  rw [q2] at H2
  rw [q3] at H3
  rw [q4] at H4
  clear q1 q2 q3 q4 hs
  go_enter Tryd.func30, Tryd.ntmps30
  go_wp2_with fail
  have HB := Lib.hid (bal (bal (Below.refl w.heap.size w) (.cells (tcell r) 61)) (.cells az 31))
  have HR : Hid (((w.alloc (.cells (tcell r) 61)).alloc (.cells az 31)).heap[w.heap.size + 1]? = some (.cells az 31 (0, 0))) := at_top _ _ _ (by simp)
  have h5 : ((w.alloc (.cells (tcell r) 61)).alloc (.cells az 31)).heap[w.heap.size]? = some (.cells (tcell r) 61 (0, 0)) := ((Below.refl (w.heap.size + 1) (w.alloc (.cells (tcell r) 61))).alloc (by simp) _).block _ (Nat.lt_succ_self _) |>.trans (heap_alloc_new _ _)
  generalize (w.alloc _).alloc _ = w0 at *
  have c1 := cell_of_row w0 w.heap.size 1 _ _ _ h5
  have c2 := cell_of_row w0 w.heap.size 2 _ _ _ h5
  have c3 := cell_of_row w0 w.heap.size 3 _ _ _ h5
  have c4 := cell_of_row w0 w.heap.size 4 _ _ _ h5
  clear h5
  simp only [List.getElem?_toArray, List.getElem?_cons_succ, List.getElem?_cons_zero] at c1 c2 c3 c4
  go_still_tail 17, (by kernel_rfl)
  still_call (H1.out _)
  repeat still_step
  still_call (H2.out _)
  repeat still_step
  still_call (H3.out _)
  repeat still_step
  still_call (H4.out _)
  repeat still_step
  refine wpStill_nil ?_
  change wpList _ _ _ _ _ (World.drew _)
  generalize hw : World.drew _ = w2
  have Q1 : Hid (w2.heap[w.heap.size + 1]? = some (.cells az 31 (0, 0))) := by rw [← hw]; exact HR.out
  have B0 : Below w.heap.size w w2 := by rw [← hw]; exact HB.out.drew
  have R := Lib.hid (store_box' Q1.out (ac r.2) rfl)
  have BW := Lib.hid (below_setRow B0 (Nat.le_succ _) (over az (ac r.2)))
  clear hw B0
  go_wp2_with ((with_reducible refine wpList_store_at rfl 31 (.tmp 2) (.tmp 19) rfl (w.heap.size + 1) 0 rfl _ rfl 31 az Q1.out ?st1 ?st2 ?st3 ?st4); case' st4 => generalize World.setRow _ _ _ = w5 at *)
  case st1 => simp
  case st2 => have := size31; simpa using this
  case st3 => simp [Value.oneCell']
  obtain ⟨p0, p1, p2, p3, p4, p5, p6, p7⟩ := rc7 (show w5.heap[w.heap.size + 1]? = some (.cells (ac r.2) 31 (0, 0)) from R.out)
  exact bodyPost_ret (v := av r.2) (by simp [results, Tryd.results30, go_sem, p0, p1, p2, p3, p4, p5, p6]) rfl ⟨rfl, BW.out⟩
end Go.Proofs.YtfmgbhaldakpfaaDoor

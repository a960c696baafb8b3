/- The reference's table. -/
import Derived.Test.YtfmgbhaldakpfaaDoorSb
import Derived.Test.YtfmgbhaldakpfaaDoorSd
import Derived.StillTailTactics
namespace Go.Proofs.YtfmgbhaldakpfaaDoor
open Go.RowKit

/-- is a letter in a text? -/
def hasB (s : ByteArray) (c : Nat) : Bool := s.data.toList.any fun x => x.toNat == c
theorem hasN_succ (s : ByteArray) (c k : Nat) (h : k < s.size) : ((s.data.toList.take (k + 1)).any fun x => x.toNat == c) = ((s.data.toList.take k).any (fun x => x.toNat == c) || s[k].toNat == c) := by
  rw [List.take_succ_eq_append_getElem (by simpa using h), List.any_append]
  simp
  rfl
set_option maxHeartbeats 1000000 in
theorem has_any (s : ByteArray) (c : Nat) (w : World) (hs : s.size ≤ 100) : Calls Tryd.prog 55 #[.string s, .int .u8 (c : Int)] w fun e w' => e = .returned (.bool (hasB s c)) ∧ w = w' := by
  have HC := Lib.hid (hasN_succ s c)
  have HN : Hid (hasB s c = (s.data.toList.take s.size).any fun x => x.toNat == c) := by
    unfold hasB Hid; rw [List.take_of_length_le (by simp)]
  go_enter Tryd.func55, Tryd.ntmps55
  go_wp2
  go_loop [5] (fun i => ∃ k : Nat, k ≤ s.size ∧ i = .int .i64 k ∧ Hid (((s.data.toList.take k).any fun x => x.toNat == c) = false)) (fun i => s.size - (intOf i).toNat)
  case atStart => exact ⟨0, Nat.zero_le _, rfl, by unfold Hid; simp⟩
  case round =>
    obtain ⟨k, hk, rfl, HK⟩ := hrel
    by_cases hlt : k < s.size
    · have h1 := HC.out k hlt
      rw [HK.out, Bool.false_or] at h1
      by_cases he : s[k].toNat = c
      · have e1 : ((s[k].toNat : Int) == (c : Int)) = true := by rw [beq_iff_eq]; omega
        have HX : Hid (hasB s c = true) := by
          rw [he, BEq.rfl, List.any_eq_true] at h1
          obtain ⟨x, hx, hh⟩ := h1
          unfold hasB Hid
          rw [List.any_eq_true]
          exact ⟨x, List.mem_of_mem_take hx, hh⟩
        clear he
        go_wp2
        go_ret
        exact ⟨by rw [HX.out]; rfl, rfl⟩
      · have e1 : ((s[k].toNat : Int) == (c : Int)) = false := by rw [beq_eq_false_iff_ne]; omega
        have h2 : (s[k].toNat == c) = false := by rw [beq_eq_false_iff_ne]; exact he
        rw [h2] at h1
        have H1 := Lib.hid h1
        clear h1 he h2
        go_wp2
        go_round
        case rel => exact ⟨k + 1, by omega, by go_num, H1.out⟩
        case measure => simp [intOf]; omega
    · have : k = s.size := by omega
      subst this
      have HX : Hid (hasB s c = false) := by unfold Hid; rw [HN.out, HK.out]
      go_wp2
      go_ret
      exact ⟨by rw [HX.out]; rfl, rfl⟩
end Go.Proofs.YtfmgbhaldakpfaaDoor

/- The reference's table: Table, attr. -/
namespace Go.Proofs.YtfmgbhaldakpfaaDoor
open Go.RowKit

/-- what it is, in letters -/
def isBB (nd cm an ow : Bool) : ByteArray := ⟨((if nd then [(110 : UInt8)] else []) ++ (if cm then [99] else []) ++ (if an then [97] else []) ++ (if ow then [111] else [])).toArray⟩
def isB (a : Atr) : ByteArray := isBB a.nd a.cm a.an a.ow
abbrev tcell (r : ByteArray × Atr) : Array Value := #[.string r.1, .string r.2.nm, .int .i64 r.2.tk, .int .i64 r.2.to, .string (isB r.2)]
def tcs : List Value := tab.flatMap fun r => (tcell r).toList
theorem bal {w w1 : World} (h : Below w.heap.size w w1) (o : Obj) : Below w.heap.size w (w1.alloc o) := h.alloc h.size o
theorem at_top (w : World) (o : Obj) (g : Nat) (h : g = w.heap.size) : (w.alloc o).heap[g]? = some o := by subst h; exact heap_alloc_new _ _
set_option maxHeartbeats 1000000 in
set_option maxRecDepth 100000 in
theorem table_any (w : World) : Calls Tryd.prog 29 #[] w fun e w' => ∃ g, e = .returned (.slice (some ⟨g, 0, none⟩) 19 19) ∧ w.heap.size ≤ g ∧ (∃ cs, cs = tcs.toArray ∧ w'.heap[g]? = some (.cells cs 61 (0, 0))) ∧ Below w.heap.size w w' := by
  go_enter Tryd.func29, Tryd.ntmps29
  go_wp2
  go_ret
  refine ⟨_, rfl, ?_, ⟨_, ?_, at_top _ _ _ (by simp)⟩, ?_⟩
  · omega
  · kernel_rfl
  · exact bal (bal (bal (bal (bal (bal (bal (Below.refl _ _) _) _) _) _) _) _) _
end Go.Proofs.YtfmgbhaldakpfaaDoor

/- The reference's attr. -/
namespace Go.Proofs.YtfmgbhaldakpfaaDoor
open Go.RowKit

theorem isBB_has : ∀ nd cm an ow : Bool, hasB (isBB nd cm an ow) 110 = nd ∧ hasB (isBB nd cm an ow) 99 = cm ∧ hasB (isBB nd cm an ow) 97 = an ∧ hasB (isBB nd cm an ow) 111 = ow ∧ (isBB nd cm an ow).size ≤ 4 := by decide
set_option maxHeartbeats 1000000 in
set_option maxRecDepth 100000 in
theorem attr_any (r : ByteArray × Atr) (w : World) : Calls Tryd.prog 30 #[.agg (tcell r)] w fun e w' => e = .returned (av r.2) ∧ Below w.heap.size w w' := by
  obtain ⟨q1, q2, q3, q4, hs⟩ := isBB_has r.2.nd r.2.cm r.2.an r.2.ow
  change hasB (isB r.2) 110 = _ at q1
  change hasB (isB r.2) 99 = _ at q2
  change hasB (isB r.2) 97 = _ at q3
  change hasB (isB r.2) 111 = _ at q4
  change (isB r.2).size ≤ 4 at hs
  have H1 := Lib.hid (fun W => (has_any (isB r.2) 110 W (by omega)).mono (R' := fun e w' => e = .returned (.bool (hasB (isB r.2) 110)) ∧ w' = W) fun _ _ h => ⟨h.1, h.2.symm⟩)
  have H2 := Lib.hid (fun W => (has_any (isB r.2) 99 W (by omega)).mono (R' := fun e w' => e = .returned (.bool (hasB (isB r.2) 99)) ∧ w' = W) fun _ _ h => ⟨h.1, h.2.symm⟩)
  have H3 := Lib.hid (fun W => (has_any (isB r.2) 97 W (by omega)).mono (R' := fun e w' => e = .returned (.bool (hasB (isB r.2) 97)) ∧ w' = W) fun _ _ h => ⟨h.1, h.2.symm⟩)
  have H4 := Lib.hid (fun W => (has_any (isB r.2) 111 W (by omega)).mono (R' := fun e w' => e = .returned (.bool (hasB (isB r.2) 111)) ∧ w' = W) fun _ _ h => ⟨h.1, h.2.symm⟩)
  rw [q1] at H1
  rw [q2] at H2
  rw [q3] at H3
  rw [q4] at H4
  clear q1 q2 q3 q4 hs
  go_enter Tryd.func30, Tryd.ntmps30
  go_wp2_with fail
  have HB := Lib.hid (bal (bal (Below.refl w.heap.size w) (.cells (tcell r) 61)) (.cells az 31))
  have HR : Hid (((w.alloc (.cells (tcell r) 61)).alloc (.cells az 31)).heap[w.heap.size + 1]? = some (.cells az 31 (0, 0))) := at_top _ _ _ (by simp)
  have h5 : ((w.alloc (.cells (tcell r) 61)).alloc (.cells az 31)).heap[w.heap.size]? = some (.cells (tcell r) 61 (0, 0)) := ((Below.refl (w.heap.size + 1) (w.alloc (.cells (tcell r) 61))).alloc (by simp) _).block _ (Nat.lt_succ_self _) |>.trans (heap_alloc_new _ _)
  generalize (w.alloc _).alloc _ = w0 at *
  have c1 := cell_of_row w0 w.heap.size 1 _ _ _ h5
  have c2 := cell_of_row w0 w.heap.size 2 _ _ _ h5
  have c3 := cell_of_row w0 w.heap.size 3 _ _ _ h5
  have c4 := cell_of_row w0 w.heap.size 4 _ _ _ h5
  clear h5
  simp only [List.getElem?_toArray, List.getElem?_cons_succ, List.getElem?_cons_zero] at c1 c2 c3 c4
  go_still_tail 17, (by kernel_rfl)
  still_call (H1.out _)
  repeat still_step
  still_call (H2.out _)
  repeat still_step
  still_call (H3.out _)
  repeat still_step
  still_call (H4.out _)
  repeat still_step
  refine wpStill_nil ?_
  change wpList _ _ _ _ _ (World.drew _)
  generalize hw : World.drew _ = w2
  have Q1 : Hid (w2.heap[w.heap.size + 1]? = some (.cells az 31 (0, 0))) := by rw [← hw]; exact HR.out
  have B0 : Below w.heap.size w w2 := by rw [← hw]; exact HB.out.drew
  have R := Lib.hid (store_box' Q1.out (ac r.2) rfl)
  have BW := Lib.hid (below_setRow B0 (Nat.le_succ _) (over az (ac r.2)))
  clear hw B0
  go_wp2_with ((with_reducible refine wpList_store_at rfl 31 (.tmp 2) (.tmp 19) rfl (w.heap.size + 1) 0 rfl _ rfl 31 az Q1.out ?st1 ?st2 ?st3 ?st4); case' st4 => generalize World.setRow _ _ _ = w5 at *)
  case st1 => simp
  case st2 => have := size31; simpa using this
  case st3 => simp [Value.oneCell']
  obtain ⟨p0, p1, p2, p3, p4, p5, p6, p7⟩ := rc7 (show w5.heap[w.heap.size + 1]? = some (.cells (ac r.2) 31 (0, 0)) from R.out)
  exact bodyPost_ret (v := av r.2) (by simp [results, Tryd.results30, go_sem, p0, p1, p2, p3, p4, p5, p6]) rfl ⟨rfl, BW.out⟩
end Go.Proofs.YtfmgbhaldakpfaaDoor

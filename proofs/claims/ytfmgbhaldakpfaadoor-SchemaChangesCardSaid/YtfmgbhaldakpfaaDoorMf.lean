/- marked, Mark, Bare. -/
import Derived.Test.YtfmgbhaldakpfaaDoorK
namespace Go.Proofs.YtfmgbhaldakpfaaDoor
open Go.RowKit

set_option maxHeartbeats 2000000 in
set_option maxRecDepth 100000 in
theorem marked_any {n : Nat} {V : Val} {v : Value} {w : World} (y : Bool) (hs : sz V ≤ 60000) (h : Lies n w V v) (hn : n ≤ w.heap.size) : Calls Tryd.prog 67 #[v, .bool y] w (CpPost (V.sx (V.x || y)) w) := by
  obtain ⟨oL, oK, cL, cK, c, rfl, O⟩ := h.inv
  have HF := Lib.hid O
  have HB0 := Lib.hid ((Wb.made w V (.slice oL V.l.length cL) (.slice oK V.ks.length cK)).alloc (.cells zc 42))
  have HB1 : Hid (((w.alloc (bx V oL oK cL cK)).alloc (.cells zc 42)).heap[w.heap.size + 1]? = some (.cells zc 42 (0, 0))) := by have := heap_alloc_new (w.alloc (bx V oL oK cL cK)) (.cells zc 42); rw [World.size_alloc] at this; exact this
  have HW := Lib.hid (((Below.refl w.heap.size w).alloc (Nat.le_refl _) (bx V oL oK cL cK)).alloc (by simp) (.cells zc 42))
  have HZ : Hid (((w.alloc (bx V oL oK cL cK)).alloc (.cells zc 42)).heap.size = w.heap.size + 2) := by simp [Hid]
  clear h O
  go_enter Tryd.func67, Tryd.ntmps67
  go_wp2_with fail
  generalize (w.alloc _).alloc _ = w0 at *
  refine (copy_any 60000 (Nat.le_refl _) n V _ _ hs (HF.out.kept (HW.out.mono hn)).lies (by have := HZ.out; omega)).mono ?_
  rintro e w1 ⟨o1, o3, cap1, cap3, c1, rfl, O1, m1, m3, b1⟩
  have z1 := b1.size
  have hz := HZ.out
  have W1 : Hid (w1.heap[w.heap.size]? = some (.cells (c8 V (.slice oL V.l.length cL) (.slice oK V.ks.length cK)) 42 (0, 0))) := HB0.out.keep b1 (by omega)
  have R1 := Lib.hid (store_box W1.out (c8 V (.slice o1 V.l.length cap1) (.slice o3 V.ks.length cap3)) rfl)
  have A1 := Lib.hid (Aft.setRow w1 w.heap.size (over (c8 V (.slice oL V.l.length cL) (.slice oK V.ks.length cK)) (c8 V (.slice o1 V.l.length cap1) (.slice o3 V.ks.length cap3))) (Nat.lt_succ_self _))
  have B1 := Lib.hid (below_setRow (HW.out.trans (b1.mono (by omega))) (Nat.le_refl _) (over (c8 V (.slice oL V.l.length cL) (.slice oK V.ks.length cK)) (c8 V (.slice o1 V.l.length cap1) (.slice o3 V.ks.length cap3))))
  have Q1 : Hid ((w1.setRow w.heap.size (over (c8 V (.slice oL V.l.length cL) (.slice oK V.ks.length cK)) (c8 V (.slice o1 V.l.length cap1) (.slice o3 V.ks.length cap3)))).heap[w.heap.size + 1]? = some (.cells zc 42 (0, 0))) := by
    unfold Hid; rw [setRow_other _ _ _ _ (by omega), b1.block _ (by omega)]; exact HB1.out
  have M := Lib.hid (And.intro O1 (And.intro m1 m3))
  clear b1 O1 m1 m3 HB0 HB1
  go_upto_region 2 with ((with_reducible refine wpList_store_at rfl 42 (.tmp 2) (.tmp 6) rfl w.heap.size 0 rfl _ rfl 42 (c8 V (.slice oL V.l.length cL) (.slice oK V.ks.length cK)) W1.out ?st1 ?st2 ?st3 ?st4); case' st4 => generalize World.setRow _ _ _ = w2 at *)
  case st1 => simp
  case st2 => have := size42; simpa using this
  case st3 => simp [Value.oneCell']
  have W2 : Hid (Wb w2 w.heap.size V (.slice o1 V.l.length cap1) (.slice o3 V.ks.length cap3)) := R1.out
  obtain ⟨q8, q0, q1, q2, q3, q4, q5, q6, q7⟩ := W2.out.hd
  have f7 := W2.out.free 7
  clear R1 W1
  by_cases hx : V.x = true
  · rw [hx, Bool.true_or]
    have W3 := Lib.hid (W2.out.set7 true)
    have A2 := Lib.hid (Aft.setCell w2 ⟨w.heap.size, 7, none⟩ (.bool true) (Nat.lt_succ_self _))
    have B2 := Lib.hid (B1.out.setCell (p := ⟨w.heap.size, 7, none⟩) (Nat.le_refl _) (.bool true))
    have Q2 : Hid ((w2.setCell ⟨w.heap.size, 7, none⟩ (.bool true)).heap[w.heap.size + 1]? = some (.cells zc 42 (0, 0))) := by unfold Hid; rw [heap_setCell_other _ _ _ _ (by simp)]; exact Q1.out
    go_upto_region 3 with fail
    generalize World.setCell _ _ _ = w3 at *
    clear q8 q0 q1 q2 q3 q4 q5 q6 q7 f7
    obtain ⟨q8, q0, q1, q2, q3, q4, q5, q6, q7⟩ := W3.out.hd
    have R := Lib.hid (store_box Q2.out (c8 (V.sx true) (.slice o1 V.l.length cap1) (.slice o3 V.ks.length cap3)) rfl)
    have A3 := Lib.hid (Aft.setRow w3 (w.heap.size + 1) (over zc (c8 (V.sx true) (.slice o1 V.l.length cap1) (.slice o3 V.ks.length cap3))) (Nat.lt_succ_self _))
    have B3 := Lib.hid (below_setRow B2.out (Nat.le_succ _) (over zc (c8 (V.sx true) (.slice o1 V.l.length cap1) (.slice o3 V.ks.length cap3))))
    go_wp2_with ((with_reducible refine wpList_store_at rfl 42 (.tmp 4) (.tmp 13) rfl (w.heap.size + 1) 0 rfl _ rfl 42 zc Q2.out ?sa1 ?sa2 ?sa3 ?sa4); case' sa4 => generalize World.setRow _ _ _ = w4 at *)
    case sa2 => have := size42; simpa using this
    case sa3 => simp [Value.oneCell']
    clear q8 q0 q1 q2 q3 q4 q5 q6 q7
    obtain ⟨p8, p0, p1, p2, p3, p4, p5, p6, p7⟩ := (show Wb w4 (w.heap.size + 1) (V.sx true) (.slice o1 V.l.length cap1) (.slice o3 V.ks.length cap3) from R.out).hd
    refine bodyPost_ret (v := vv V.k V.i V.s (.slice o1 V.l.length cap1) (.slice o3 V.ks.length cap3) V.tk V.to true) (by simp [results, Tryd.results67, go_sem, p0, p1, p2, p3, p4, p5, p6, p7, Val.sx, Val.k, Val.i, Val.s, Val.l, Val.ks, Val.tk, Val.to, Val.x]) rfl ?_
    exact cp_shift (V := V.sx true) (M.out.1.sx true) M.out.2.1 M.out.2.2 (((A1.out.mono (lo' := w.heap.size + 2) (by omega)).trans (A2.out.mono (by omega))).trans A3.out) (by have := HZ.out; omega) (by have := HZ.out; omega) B3.out rfl
  · have hx : V.x = false := by simpa using hx
    rw [hx, Bool.false_or]
    have W3 := Lib.hid (W2.out.set7 y)
    have A2 := Lib.hid (Aft.setCell w2 ⟨w.heap.size, 7, none⟩ (.bool y) (Nat.lt_succ_self _))
    have B2 := Lib.hid (B1.out.setCell (p := ⟨w.heap.size, 7, none⟩) (Nat.le_refl _) (.bool y))
    have Q2 : Hid ((w2.setCell ⟨w.heap.size, 7, none⟩ (.bool y)).heap[w.heap.size + 1]? = some (.cells zc 42 (0, 0))) := by unfold Hid; rw [heap_setCell_other _ _ _ _ (by simp)]; exact Q1.out
    go_upto_region 3 with fail
    generalize World.setCell _ _ _ = w3 at *
    clear q8 q0 q1 q2 q3 q4 q5 q6 q7 f7
    obtain ⟨q8, q0, q1, q2, q3, q4, q5, q6, q7⟩ := W3.out.hd
    have R := Lib.hid (store_box Q2.out (c8 (V.sx y) (.slice o1 V.l.length cap1) (.slice o3 V.ks.length cap3)) rfl)
    have A3 := Lib.hid (Aft.setRow w3 (w.heap.size + 1) (over zc (c8 (V.sx y) (.slice o1 V.l.length cap1) (.slice o3 V.ks.length cap3))) (Nat.lt_succ_self _))
    have B3 := Lib.hid (below_setRow B2.out (Nat.le_succ _) (over zc (c8 (V.sx y) (.slice o1 V.l.length cap1) (.slice o3 V.ks.length cap3))))
    go_wp2_with ((with_reducible refine wpList_store_at rfl 42 (.tmp 4) (.tmp 13) rfl (w.heap.size + 1) 0 rfl _ rfl 42 zc Q2.out ?sb1 ?sb2 ?sb3 ?sb4); case' sb4 => generalize World.setRow _ _ _ = w4 at *)
    case sb2 => have := size42; simpa using this
    case sb3 => simp [Value.oneCell']
    clear q8 q0 q1 q2 q3 q4 q5 q6 q7
    obtain ⟨p8, p0, p1, p2, p3, p4, p5, p6, p7⟩ := (show Wb w4 (w.heap.size + 1) (V.sx y) (.slice o1 V.l.length cap1) (.slice o3 V.ks.length cap3) from R.out).hd
    refine bodyPost_ret (v := vv V.k V.i V.s (.slice o1 V.l.length cap1) (.slice o3 V.ks.length cap3) V.tk V.to y) (by simp [results, Tryd.results67, go_sem, p0, p1, p2, p3, p4, p5, p6, p7, Val.sx, Val.k, Val.i, Val.s, Val.l, Val.ks, Val.tk, Val.to, Val.x]) rfl ?_
    exact cp_shift (V := V.sx y) (M.out.1.sx y) M.out.2.1 M.out.2.2 (((A1.out.mono (lo' := w.heap.size + 2) (by omega)).trans (A2.out.mono (by omega))).trans A3.out) (by have := HZ.out; omega) (by have := HZ.out; omega) B3.out rfl
set_option maxHeartbeats 2000000 in
set_option maxRecDepth 100000 in
theorem mark_any {n : Nat} {V : Val} {v : Value} {w : World} (hs : sz V ≤ 60000) (h : Lies n w V v) (hn : n ≤ w.heap.size) : Calls Tryd.prog 70 #[v] w (CpPost (V.sx true) w) := by
  obtain ⟨oL, oK, cL, cK, c, rfl, O⟩ := h.inv
  have HF := Lib.hid O
  have HB0 := Lib.hid ((Wb.made w V (.slice oL V.l.length cL) (.slice oK V.ks.length cK)).alloc (.cells zc 42))
  have HB1 : Hid (((w.alloc (bx V oL oK cL cK)).alloc (.cells zc 42)).heap[w.heap.size + 1]? = some (.cells zc 42 (0, 0))) := by have := heap_alloc_new (w.alloc (bx V oL oK cL cK)) (.cells zc 42); rw [World.size_alloc] at this; exact this
  have HW := Lib.hid (((Below.refl w.heap.size w).alloc (Nat.le_refl _) (bx V oL oK cL cK)).alloc (by simp) (.cells zc 42))
  have HZ : Hid (((w.alloc (bx V oL oK cL cK)).alloc (.cells zc 42)).heap.size = w.heap.size + 2) := by simp [Hid]
  clear h O
  go_enter Tryd.func70, Tryd.ntmps70
  go_wp2_with fail
  generalize (w.alloc _).alloc _ = w0 at *
  refine (marked_any true hs (HF.out.kept (HW.out.mono hn)).lies (by have := HZ.out; omega)).mono ?_
  rw [Bool.or_true]
  rintro e w1 ⟨o1, o3, cap1, cap3, c1, rfl, O1, m1, m3, b1⟩
  have Q1 : Hid (w1.heap[w.heap.size + 1]? = some (.cells zc 42 (0, 0))) := by unfold Hid; rw [b1.block _ (by have := HZ.out; omega)]; exact HB1.out
  have R := Lib.hid (store_box Q1.out (c8 (V.sx true) (.slice o1 (V.sx true).l.length cap1) (.slice o3 (V.sx true).ks.length cap3)) rfl)
  have B1 := HW.out.trans (b1.mono (by have := HZ.out; omega))
  have A4 := Lib.hid (Aft.setRow w1 (w.heap.size + 1) (over zc (c8 (V.sx true) (.slice o1 (V.sx true).l.length cap1) (.slice o3 (V.sx true).ks.length cap3))) (Nat.lt_succ_self _))
  have B4 := Lib.hid (below_setRow B1 (Nat.le_succ _) (over zc (c8 (V.sx true) (.slice o1 (V.sx true).l.length cap1) (.slice o3 (V.sx true).ks.length cap3))))
  have M := Lib.hid (And.intro O1 (And.intro m1 m3))
  clear B1 b1 O1 m1 m3
  go_wp2_with ((with_reducible refine wpList_store_at rfl 42 (.tmp 2) (.tmp 4) rfl (w.heap.size + 1) 0 rfl _ rfl 42 zc Q1.out ?st1 ?st2 ?st3 ?st4); case' st4 => generalize World.setRow _ _ _ = w5 at *)
  case st1 => simp
  case st2 => have := size42; simpa using this
  case st3 => simp [Value.oneCell']
  obtain ⟨p8, p0, p1, p2, p3, p4, p5, p6, p7⟩ := (show Wb w5 (w.heap.size + 1) (V.sx true) (.slice o1 (V.sx true).l.length cap1) (.slice o3 (V.sx true).ks.length cap3) from R.out).hd
  refine bodyPost_ret (v := vv (V.sx true).k (V.sx true).i (V.sx true).s (.slice o1 (V.sx true).l.length cap1) (.slice o3 (V.sx true).ks.length cap3) (V.sx true).tk (V.sx true).to (V.sx true).x) (by simp [results, Tryd.results70, go_sem, p0, p1, p2, p3, p4, p5, p6, p7]) rfl ?_
  exact cp_shift M.out.1 M.out.2.1 M.out.2.2 A4.out (by have := HZ.out; omega) (by have := HZ.out; omega) B4.out rfl
end Go.Proofs.YtfmgbhaldakpfaaDoor

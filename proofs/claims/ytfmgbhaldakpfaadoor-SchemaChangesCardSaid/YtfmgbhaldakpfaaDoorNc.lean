/- From. -/
import Derived.Test.YtfmgbhaldakpfaaDoorNb
import Derived.Test.YtfmgbhaldakpfaaDoorSu
namespace Go.Proofs.YtfmgbhaldakpfaaDoor
open Go.RowKit

def FrPost (n : Nat) (Y : Val) (w : World) (e : Ending) (w' : World) : Prop :=
  ∃ (oL oK : Option Addr) (cL cK : Nat) (c : Nat → Nat → Value), e = .returned (vv Y.k Y.i Y.s (.slice oL Y.l.length cL) (.slice oK Y.ks.length cK) Y.tk Y.to Y.x) ∧ Opn n w' Y oL oK cL cK c ∧ Below w.heap.size w w'
set_option maxRecDepth 100000 in
set_option maxHeartbeats 4000000 in
theorem from_any {n : Nat} {V X : Val} {v : Value} {w : World} {j : Nat} (hX : V.l[j]? = some X) (h : Lies n w V v) (hn : n ≤ w.heap.size) : Calls Tryd.prog 50 #[v, .int .i64 j] w (FrPost n (X.sx (X.x || V.x)) w) := by
  obtain ⟨oL, oK, cL, cK, c, rfl, O⟩ := h.inv
  have l1 := O.L.1
  have l2 := O.L.2.1
  unfold maxLen at l2
  have HB := Lib.hid ((lie8z w V oL oK cL cK))
  have HB1 : Hid (((w.alloc (bx V oL oK cL cK)).alloc (.cells zc 42)).heap[w.heap.size + 1]? = some (.cells zc 42 (0, 0))) := by have := heap_alloc_new (w.alloc (bx V oL oK cL cK)) (.cells zc 42); rw [World.size_alloc] at this; exact this
  have HW := Lib.hid (((Below.refl w.heap.size w).alloc (Nat.le_refl _) (bx V oL oK cL cK)).alloc (by simp) (.cells zc 42))
  have HZ : Hid (((w.alloc (bx V oL oK cL cK)).alloc (.cells zc 42)).heap.size = w.heap.size + 2) := by simp [Hid]
  have H := Lib.hid (O.kept (HW.out.mono hn))
  clear h O
  have hj := (List.getElem?_eq_some_iff.1 hX).1
  have j0 : (0 : Int) ≤ j := by omega
  have j1 : (j : Int) < V.l.length := by omega
  by_cases hx : X.x = true
  · rw [hx, Bool.true_or]
    go_enter Tryd.func50, Tryd.ntmps50
    go_upto_region 1 with fail
    generalize (w.alloc _).alloc _ = w0 at *
    obtain ⟨x8, x0, x1, x2, x3, x4, x5, x6, x7⟩ := HB.out
    obtain ⟨b', off', oL3, oK3, cL3, cK3, c3, e1, hb', ⟨y0, y1, y2, y3, y4, y5, y6, y7⟩, OX⟩ := H.out.L.elv hj (H.out.el j X hX)
    subst e1
    have OX2 := Lib.hid OX
    clear hX OX
    have C4 := cells8 (heap_alloc_new w0 (.cells (#[.int .i64 X.k, .int .i64 X.i, .string X.s, .slice oL3 X.l.length cL3, .slice oK3 X.ks.length cK3, .int .i64 X.tk, .int .i64 X.to, .bool true]) 42))
    have B4 := Lib.hid ((Below.refl w0.heap.size w0).alloc (Nat.le_refl _) (.cells (#[.int .i64 X.k, .int .i64 X.i, .string X.s, .slice oL3 X.l.length cL3, .slice oK3 X.ks.length cK3, .int .i64 X.tk, .int .i64 X.to, .bool true]) 42))
    have Q4 : Hid ((w0.alloc (.cells (#[.int .i64 X.k, .int .i64 X.i, .string X.s, .slice oL3 X.l.length cL3, .slice oK3 X.ks.length cK3, .int .i64 X.tk, .int .i64 X.to, .bool true]) 42)).heap[w.heap.size + 1]? = some (.cells zc 42 (0, 0))) := (B4.out.block _ (by have := HZ.out; omega)).trans HB1.out
    have S4 : Hid ((w0.alloc (.cells (#[.int .i64 X.k, .int .i64 X.i, .string X.s, .slice oL3 X.l.length cL3, .slice oK3 X.ks.length cK3, .int .i64 X.tk, .int .i64 X.to, .bool true]) 42)).heap.size = w0.heap.size + 1) := by simp [Hid]
    have HC4 := Lib.hid C4
    clear C4
    go_upto_region 3 with fail
    generalize w0.alloc _ = w4 at *
    obtain ⟨q0, q1, q2, q3, q4, q5, q6, q7⟩ := HC4.out
    have R := Lib.hid (store_box Q4.out (#[.int .i64 X.k, .int .i64 X.i, .string X.s, .slice oL3 X.l.length cL3, .slice oK3 X.ks.length cK3, .int .i64 X.tk, .int .i64 X.to, .bool true]) rfl)
    have B9 := Lib.hid (below_setRow (HW.out.trans (B4.out.mono HW.out.size)) (Nat.le_succ _) (over zc (#[.int .i64 X.k, .int .i64 X.i, .string X.s, .slice oL3 X.l.length cL3, .slice oK3 X.ks.length cK3, .int .i64 X.tk, .int .i64 X.to, .bool true])))
    have B8 := Lib.hid (below_setRow (B4.out.mono (show n ≤ w0.heap.size by have := HZ.out; omega)) (show n ≤ w.heap.size + 1 by omega) (over zc (#[.int .i64 X.k, .int .i64 X.i, .string X.s, .slice oL3 X.l.length cL3, .slice oK3 X.ks.length cK3, .int .i64 X.tk, .int .i64 X.to, .bool true])))
    go_wp2_with ((with_reducible refine wpList_store_at rfl 42 (.tmp 4) (.tmp 18) rfl (w.heap.size + 1) 0 rfl _ rfl 42 zc Q4.out ?sa1 ?sa2 ?sa3 ?sa4); case' sa4 => generalize World.setRow _ _ _ = w9 at *)
    case sa2 => have := size42; simpa using this
    case sa3 => simp [Value.oneCell']
    clear q0 q1 q2 q3 q4 q5 q6 q7
    obtain ⟨p0, p1, p2, p3, p4, p5, p6, p7⟩ := cells8 R.out
    refine bodyPost_ret (v := vv X.k X.i X.s (.slice oL3 X.l.length cL3) (.slice oK3 X.ks.length cK3) X.tk X.to true) (by simp [results, Tryd.results50, go_sem, p0, p1, p2, p3, p4, p5, p6, p7]) rfl ?_
    exact ⟨oL3, oK3, cL3, cK3, c3, rfl, (OX2.out.sx _).kept B8.out, B9.out⟩
  · have hx : X.x = false := by simpa using hx
    rw [hx, Bool.false_or]
    go_enter Tryd.func50, Tryd.ntmps50
    go_upto_region 1 with fail
    generalize (w.alloc _).alloc _ = w0 at *
    obtain ⟨x8, x0, x1, x2, x3, x4, x5, x6, x7⟩ := HB.out
    obtain ⟨b', off', oL3, oK3, cL3, cK3, c3, e1, hb', ⟨y0, y1, y2, y3, y4, y5, y6, y7⟩, OX⟩ := H.out.L.elv hj (H.out.el j X hX)
    subst e1
    have OX2 := Lib.hid OX
    clear hX OX
    have C4 := cells8 (heap_alloc_new w0 (.cells (#[.int .i64 X.k, .int .i64 X.i, .string X.s, .slice oL3 X.l.length cL3, .slice oK3 X.ks.length cK3, .int .i64 X.tk, .int .i64 X.to, .bool V.x]) 42))
    have B4 := Lib.hid ((Below.refl w0.heap.size w0).alloc (Nat.le_refl _) (.cells (#[.int .i64 X.k, .int .i64 X.i, .string X.s, .slice oL3 X.l.length cL3, .slice oK3 X.ks.length cK3, .int .i64 X.tk, .int .i64 X.to, .bool V.x]) 42))
    have Q4 : Hid ((w0.alloc (.cells (#[.int .i64 X.k, .int .i64 X.i, .string X.s, .slice oL3 X.l.length cL3, .slice oK3 X.ks.length cK3, .int .i64 X.tk, .int .i64 X.to, .bool V.x]) 42)).heap[w.heap.size + 1]? = some (.cells zc 42 (0, 0))) := (B4.out.block _ (by have := HZ.out; omega)).trans HB1.out
    have S4 : Hid ((w0.alloc (.cells (#[.int .i64 X.k, .int .i64 X.i, .string X.s, .slice oL3 X.l.length cL3, .slice oK3 X.ks.length cK3, .int .i64 X.tk, .int .i64 X.to, .bool V.x]) 42)).heap.size = w0.heap.size + 1) := by simp [Hid]
    have HC4 := Lib.hid C4
    clear C4
    go_upto_region 3 with fail
    generalize w0.alloc _ = w4 at *
    obtain ⟨q0, q1, q2, q3, q4, q5, q6, q7⟩ := HC4.out
    have R := Lib.hid (store_box Q4.out (#[.int .i64 X.k, .int .i64 X.i, .string X.s, .slice oL3 X.l.length cL3, .slice oK3 X.ks.length cK3, .int .i64 X.tk, .int .i64 X.to, .bool V.x]) rfl)
    have B9 := Lib.hid (below_setRow (HW.out.trans (B4.out.mono HW.out.size)) (Nat.le_succ _) (over zc (#[.int .i64 X.k, .int .i64 X.i, .string X.s, .slice oL3 X.l.length cL3, .slice oK3 X.ks.length cK3, .int .i64 X.tk, .int .i64 X.to, .bool V.x])))
    have B8 := Lib.hid (below_setRow (B4.out.mono (show n ≤ w0.heap.size by have := HZ.out; omega)) (show n ≤ w.heap.size + 1 by omega) (over zc (#[.int .i64 X.k, .int .i64 X.i, .string X.s, .slice oL3 X.l.length cL3, .slice oK3 X.ks.length cK3, .int .i64 X.tk, .int .i64 X.to, .bool V.x])))
    go_wp2_with ((with_reducible refine wpList_store_at rfl 42 (.tmp 4) (.tmp 18) rfl (w.heap.size + 1) 0 rfl _ rfl 42 zc Q4.out ?sb1 ?sb2 ?sb3 ?sb4); case' sb4 => generalize World.setRow _ _ _ = w9 at *)
    case sb2 => have := size42; simpa using this
    case sb3 => simp [Value.oneCell']
    clear q0 q1 q2 q3 q4 q5 q6 q7
    obtain ⟨p0, p1, p2, p3, p4, p5, p6, p7⟩ := cells8 R.out
    refine bodyPost_ret (v := vv X.k X.i X.s (.slice oL3 X.l.length cL3) (.slice oK3 X.ks.length cK3) X.tk X.to V.x) (by simp [results, Tryd.results50, go_sem, p0, p1, p2, p3, p4, p5, p6, p7]) rfl ?_
    exact ⟨oL3, oK3, cL3, cK3, c3, rfl, (OX2.out.sx _).kept B8.out, B9.out⟩
end Go.Proofs.YtfmgbhaldakpfaaDoor

/- The reference's Element. -/
namespace Go.Proofs.YtfmgbhaldakpfaaDoor
open Go.RowKit

set_option maxHeartbeats 1000000 in
theorem find_not {n : Nat} {V : Val} {v : Value} {w : World} (s : ByteArray) (h5 : V.k ≠ 5) (h : Lies n w V v) (hn : n ≤ w.heap.size) :
    Calls Tryd.prog 39 #[v, .string s] w fun e w' => e = .returned (.int .i64 (-1)) ∧ Below w.heap.size w w' := by
  obtain ⟨oL, oK, cL, cK, c, rfl, O⟩ := h.inv
  have b0 : Below w.heap.size w (w.alloc (bx V oL oK cL cK)) := bal (Below.refl _ _) _
  have HB := Lib.hid b0
  have HX := Lib.hid (Hd.made w V (.slice oL V.l.length cL) (.slice oK V.ks.length cK))
  have HL := Lib.hid (len_any (O.kept (b0.mono hn)).lies)
  have g5 : (V.k == 5) = false := by rw [beq_eq_false_iff_ne]; exact h5
  have HS : Hid ((w.alloc (bx V oL oK cL cK)).heap.size = w.heap.size + 1) := by simp [Hid]
  clear h O b0 h5
  go_enter Tryd.func39, Tryd.ntmps39
  go_upto_region 1 with (fail)
  generalize w.alloc _ = w0 at *
  obtain ⟨x8, x0, x1, x2, x3, x4, x5, x6, x7⟩ := HX.out
  go_wp2_with fail
  refine wp_loop_rounds 1 ?_
  rw [rounds_succ]
  go_wp2_with fail
  refine HL.out.mono ?_
  rintro e w1 ⟨rfl, hb⟩
  have BZ := Lib.hid (HB.out.trans (hb.mono HB.out.size))
  clear x8 x0 x1 x2 x3 x4 x5 x6 x7
  obtain ⟨x8, x0, x1, x2, x3, x4, x5, x6, x7⟩ := HX.out.kept hb (by rw [HS.out]; omega)
  clear hb
  by_cases hc : 0 < cnt V
  · have hc' : (0 : Int) < (cnt V : Int) := by omega
    go_wp2_with fail
    go_ret
    exact ⟨rfl, BZ.out⟩
  · have hc' : ¬ (0 : Int) < (cnt V : Int) := by omega
    go_wp2_with fail
    go_ret
    exact ⟨rfl, BZ.out⟩
theorem elt_not {V : Val} {s : ByteArray} (h : V.k ≠ 5) : elt V s = nul := by unfold elt; rw [if_neg h]
theorem elt_none {V : Val} {s : ByteArray} (h : At V.ks V.ks.length s (-1)) : elt V s = nul := by
  unfold elt
  split
  · rw [ixK_none h]
  · rfl
theorem elt_some {V X : Val} {s : ByteArray} {j : Nat} (h5 : V.k = 5) (h : At V.ks V.ks.length s j) (hX : V.l[j]? = some X) : elt V s = X.sx (X.x || V.x) := by
  unfold elt; rw [if_pos h5, ixK_some h]; simp only; rw [hX]
set_option maxHeartbeats 2000000 in
set_option maxRecDepth 100000 in
theorem relem_any {n : Nat} {V : Val} {v : Value} {w : World} (s : ByteArray) (hkl : V.k = 5 → V.ks.length = V.l.length) (h : Lies n w V v) (hn : n ≤ w.heap.size) :
    Calls Tryd.prog 28 #[v, .string s] w (FrPost n (elt V s) w) := by
  obtain ⟨oL, oK, cL, cK, c, rfl, O⟩ := h.inv
  have b0 : Below w.heap.size w ((w.alloc (bx V oL oK cL cK)).alloc (.cells zc 42)) := bal (bal (Below.refl _ _) _) _
  have HB := Lib.hid b0
  have HO := Lib.hid (O.kept (b0.mono hn)).lies
  have HX := Lib.hid ((Hd.made w V (.slice oL V.l.length cL) (.slice oK V.ks.length cK)).kept ((Below.refl (w.heap.size + 1) _).alloc (by simp) (.cells zc 42)) (Nat.lt_succ_self _))
  have HZC : Hid (((w.alloc (bx V oL oK cL cK)).alloc (.cells zc 42)).heap[w.heap.size + 1]? = some (.cells zc 42 (0, 0))) := at_top _ _ _ (by simp)
  have HS : Hid (((w.alloc (bx V oL oK cL cK)).alloc (.cells zc 42)).heap.size = w.heap.size + 2) := by simp [Hid]
  have FIND : Hid (Calls Tryd.prog 39 #[vv V.k V.i V.s (.slice oL V.l.length cL) (.slice oK V.ks.length cK) V.tk V.to V.x, .string s] ((w.alloc (bx V oL oK cL cK)).alloc (.cells zc 42)) fun e w' => (∃ r : Int, e = .returned (.int .i64 r) ∧ ((r = -1 ∧ elt V s = nul) ∨ ∃ (j : Nat) (X : Val), r = j ∧ V.l[j]? = some X ∧ elt V s = X.sx (X.x || V.x))) ∧ Below ((w.alloc (bx V oL oK cL cK)).alloc (.cells zc 42)).heap.size ((w.alloc (bx V oL oK cL cK)).alloc (.cells zc 42)) w') := by
    by_cases h5 : V.k = 5
    · refine (find_any s h5 (hkl h5) HO.out (by simp; omega)).mono ?_
      rintro e w' ⟨⟨r, rfl, hA⟩, hb⟩
      refine ⟨⟨r, rfl, ?_⟩, hb⟩
      have hA2 := hA
      rcases hA with ⟨rfl, _⟩ | ⟨j, rfl, hj, _⟩
      · exact .inl ⟨rfl, elt_none hA2⟩
      · have hjl : j < V.l.length := by rw [← hkl h5]; exact hj
        exact .inr ⟨j, V.l[j], rfl, List.getElem?_eq_getElem hjl, elt_some h5 hA2 (List.getElem?_eq_getElem hjl)⟩
    · refine (find_not s h5 HO.out (by simp; omega)).mono ?_
      rintro e w' ⟨rfl, hb⟩
      exact ⟨⟨-1, rfl, .inl ⟨rfl, elt_not h5⟩⟩, hb⟩
  have FROM : Hid (∀ (W : World) (j : Nat) (X : Val), V.l[j]? = some X → Below w.heap.size ((w.alloc (bx V oL oK cL cK)).alloc (.cells zc 42)) W → Calls Tryd.prog 50 #[vv V.k V.i V.s (.slice oL V.l.length cL) (.slice oK V.ks.length cK) V.tk V.to V.x, .int .i64 j] W (FrPost n (X.sx (X.x || V.x)) W)) := fun W j X hX hW =>
    from_any hX (HO.out.kept (hW.mono hn)) (by have := hW.size; simp at this; omega)
  generalize elt V s = Y at *
  clear b0 h O hkl
  go_enter Tryd.func28, Tryd.ntmps28
  go_upto_region 1 with (fail)
  generalize (w.alloc _).alloc _ = w0 at *
  have hwl : w.heap.size < w0.heap.size := by rw [HS.out]; omega
  obtain ⟨x8, x0, x1, x2, x3, x4, x5, x6, x7⟩ := HX.out
  go_wp2_with fail
  refine FIND.out.mono ?_
  rintro e w1 ⟨⟨r, rfl, hr⟩, hb1⟩
  have B1 := Lib.hid hb1
  clear hb1 x8 x0 x1 x2 x3 x4 x5 x6 x7
  obtain ⟨x8, x0, x1, x2, x3, x4, x5, x6, x7⟩ := HX.out.kept B1.out hwl
  rcases hr with ⟨rfl, rfl⟩ | ⟨j, X, rfl, hX, rfl⟩
  · have Q1 : Hid (w1.heap[w.heap.size + 1]? = some (.cells zc 42 (0, 0))) := (B1.out.block _ (by rw [HS.out]; omega)).trans HZC.out
    have R1 := Lib.hid (store_box' Q1.out zc rfl)
    have BZ := Lib.hid (below_setRow (HB.out.trans (B1.out.mono (Nat.le_of_lt hwl))) (Nat.le_succ _) (over zc zc) : Below w.heap.size w (w1.setRow (w.heap.size + 1) (over zc zc)))
    go_wp2_with ((with_reducible refine wpList_store_at rfl 42 (.tmp 4) (.tmp 14) rfl (w.heap.size + 1) 0 rfl _ rfl 42 zc Q1.out ?sa1 ?sa2 ?sa3 ?sa4); case' sa4 => generalize World.setRow _ _ _ = w5 at *)
    case sa1 => simp
    case sa2 => have := size42; simpa using this
    case sa3 => simp [Value.oneCell']
    obtain ⟨p0, p1, p2, p3, p4, p5, p6, p7⟩ := cells8 (show w5.heap[w.heap.size + 1]? = some (.cells zc 42 (0, 0)) from R1.out)
    exact bodyPost_ret (v := zv) (by simp [results, Tryd.results28, go_sem, p0, p1, p2, p3, p4, p5, p6, p7]) rfl ⟨none, none, 0, 0, _, rfl, nul_opn _ _, BZ.out⟩
  · have hjj : (0 : Int) ≤ (j : Int) := by omega
    have FR := Lib.hid (FROM.out w1 j X hX (B1.out.mono (Nat.le_of_lt hwl)))
    generalize X.sx (X.x || V.x) = Y at *
    clear hX
    go_wp2_with fail
    refine FR.out.mono ?_
    rintro e w2 ⟨o1, o3, c1, c3, cc, rfl, OY, hb2⟩
    have B2 := Lib.hid (B1.out.trans (hb2.mono B1.out.size))
    have Q1 : Hid (w2.heap[w.heap.size + 1]? = some (.cells zc 42 (0, 0))) := (B2.out.block _ (by rw [HS.out]; omega)).trans HZC.out
    have R1 := Lib.hid (store_box' Q1.out (c8 Y (.slice o1 Y.l.length c1) (.slice o3 Y.ks.length c3)) rfl)
    have BZ := Lib.hid (below_setRow (HB.out.trans (B2.out.mono (Nat.le_of_lt hwl))) (Nat.le_succ _) (over zc (c8 Y (.slice o1 Y.l.length c1) (.slice o3 Y.ks.length c3))) : Below w.heap.size w (w2.setRow (w.heap.size + 1) (over zc (c8 Y (.slice o1 Y.l.length c1) (.slice o3 Y.ks.length c3)))))
    have OZ := Lib.hid (OY.keptP (w' := w2.setRow (w.heap.size + 1) (over zc (c8 Y (.slice o1 Y.l.length c1) (.slice o3 Y.ks.length c3)))) (P' := fun b => b < n) fun q hq => ⟨hq, setRow_other _ _ _ _ (by omega)⟩)
    clear OY hb2
    go_wp2_with ((with_reducible refine wpList_store_at rfl 42 (.tmp 4) (.tmp 13) rfl (w.heap.size + 1) 0 rfl _ rfl 42 zc Q1.out ?sb1 ?sb2 ?sb3 ?sb4); case' sb4 => generalize World.setRow _ _ _ = w5 at *)
    case sb1 => simp
    case sb2 => have := size42; simpa using this
    case sb3 => simp [Value.oneCell']
    obtain ⟨p0, p1, p2, p3, p4, p5, p6, p7⟩ := cells8 (show w5.heap[w.heap.size + 1]? = some (.cells (c8 Y (.slice o1 Y.l.length c1) (.slice o3 Y.ks.length c3)) 42 (0, 0)) from R1.out)
    exact bodyPost_ret (v := vv Y.k Y.i Y.s (.slice o1 Y.l.length c1) (.slice o3 Y.ks.length c3) Y.tk Y.to Y.x) (by simp [results, Tryd.results28, go_sem, p0, p1, p2, p3, p4, p5, p6, p7]) rfl ⟨o1, o3, c1, c3, cc, rfl, OZ.out, BZ.out⟩
end Go.Proofs.YtfmgbhaldakpfaaDoor

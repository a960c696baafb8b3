/- From. -/
import Derived.Test.YtfmgbhaldakpfaaDoorNb
namespace Go.Proofs.YtfmgbhaldakpfaaDoor
open Go.RowKit

def FrPost (n : Nat) (Y : Val) (w : World) (e : Ending) (w' : World) : Prop :=
  ∃ (oL oK : Option Addr) (cL cK : Nat) (c : Nat → Nat → Value), e = .returned (vv Y.k Y.i Y.s (.slice oL Y.l.length cL) (.slice oK Y.ks.length cK) Y.tk Y.to Y.x) ∧ Opn n w' Y oL oK cL cK c ∧ Below w.heap.size w w'
set_option maxRecDepth 100000 in
set_option maxHeartbeats 4000000 in
theorem from_any {n : Nat} {V X : Val} {v : Value} {w : World} {j : Nat} (hX : V.l[j]? = some X) (h : Lies n w V v) (hn : n ≤ w.heap.size) : Calls Tryd.prog 50 #[v, .int .i64 j] w (FrPost n (X.sx (X.x || V.x)) w) := by
  obtain ⟨oL, oK, cL, cK, c, rfl, O⟩ := h.inv
  have l1 := O.L.1
  have l2 := O.L.2.1
  unfold maxLen at l2
  have HB := Lib.hid ((lie8z w V oL oK cL cK))
  have HB1 : Hid (((w.alloc (bx V oL oK cL cK)).alloc (.cells zc 42)).heap[w.heap.size + 1]? = some (.cells zc 42 (0, 0))) := by have := heap_alloc_new (w.alloc (bx V oL oK cL cK)) (.cells zc 42); rw [World.size_alloc] at this; exact this
  have HW := Lib.hid (((Below.refl w.heap.size w).alloc (Nat.le_refl _) (bx V oL oK cL cK)).alloc (by simp) (.cells zc 42))
  have HZ : Hid (((w.alloc (bx V oL oK cL cK)).alloc (.cells zc 42)).heap.size = w.heap.size + 2) := by simp [Hid]
  have H := Lib.hid (O.kept (HW.out.mono hn))
  clear h O
  have hj := (List.getElem?_eq_some_iff.1 hX).1
  have j0 : (0 : Int) ≤ j := by omega
  have j1 : (j : Int) < V.l.length := by omega
  by_cases hx : X.x = true
  · rw [hx, Bool.true_or]
    go_enter Tryd.func50, Tryd.ntmps50
    go_upto_region 1 with fail
    generalize (w.alloc _).alloc _ = w0 at *
    obtain ⟨x8, x0, x1, x2, x3, x4, x5, x6, x7⟩ := HB.out
    obtain ⟨b', off', oL3, oK3, cL3, cK3, c3, e1, hb', ⟨y0, y1, y2, y3, y4, y5, y6, y7⟩, OX⟩ := H.out.L.elv hj (H.out.el j X hX)
    subst e1
    have OX2 := Lib.hid OX
    clear hX OX
    have C4 := cells8 (heap_alloc_new w0 (.cells (#[.int .i64 X.k, .int .i64 X.i, .string X.s, .slice oL3 X.l.length cL3, .slice oK3 X.ks.length cK3, .int .i64 X.tk, .int .i64 X.to, .bool true]) 42))
    have B4 := Lib.hid ((Below.refl w0.heap.size w0).alloc (Nat.le_refl _) (.cells (#[.int .i64 X.k, .int .i64 X.i, .string X.s, .slice oL3 X.l.length cL3, .slice oK3 X.ks.length cK3, .int .i64 X.tk, .int .i64 X.to, .bool true]) 42))
    have Q4 : Hid ((w0.alloc (.cells (#[.int .i64 X.k, .int .i64 X.i, .string X.s, .slice oL3 X.l.length cL3, .slice oK3 X.ks.length cK3, .int .i64 X.tk, .int .i64 X.to, .bool true]) 42)).heap[w.heap.size + 1]? = some (.cells zc 42 (0, 0))) := (B4.out.block _ (by have := HZ.out; omega)).trans HB1.out
    have S4 : Hid ((w0.alloc (.cells (#[.int .i64 X.k, .int .i64 X.i, .string X.s, .slice oL3 X.l.length cL3, .slice oK3 X.ks.length cK3, .int .i64 X.tk, .int .i64 X.to, .bool true]) 42)).heap.size = w0.heap.size + 1) := by simp [Hid]
    have HC4 := Lib.hid C4
    clear C4
    go_upto_region 3 with fail
    generalize w0.alloc _ = w4 at *
    obtain ⟨q0, q1, q2, q3, q4, q5, q6, q7⟩ := HC4.out
    have R := Lib.hid (store_box Q4.out (#[.int .i64 X.k, .int .i64 X.i, .string X.s, .slice oL3 X.l.length cL3, .slice oK3 X.ks.length cK3, .int .i64 X.tk, .int .i64 X.to, .bool true]) rfl)
    have B9 := Lib.hid (below_setRow (HW.out.trans (B4.out.mono HW.out.size)) (Nat.le_succ _) (over zc (#[.int .i64 X.k, .int .i64 X.i, .string X.s, .slice oL3 X.l.length cL3, .slice oK3 X.ks.length cK3, .int .i64 X.tk, .int .i64 X.to, .bool true])))
    have B8 := Lib.hid (below_setRow (B4.out.mono (show n ≤ w0.heap.size by have := HZ.out; omega)) (show n ≤ w.heap.size + 1 by omega) (over zc (#[.int .i64 X.k, .int .i64 X.i, .string X.s, .slice oL3 X.l.length cL3, .slice oK3 X.ks.length cK3, .int .i64 X.tk, .int .i64 X.to, .bool true])))
    go_wp2_with ((with_reducible refine wpList_store_at rfl 42 (.tmp 4) (.tmp 18) rfl (w.heap.size + 1) 0 rfl _ rfl 42 zc Q4.out ?sa1 ?sa2 ?sa3 ?sa4); case' sa4 => generalize World.setRow _ _ _ = w9 at *)
    case sa2 => have := size42; simpa using this
    case sa3 => simp [Value.oneCell']
    clear q0 q1 q2 q3 q4 q5 q6 q7
    obtain ⟨p0, p1, p2, p3, p4, p5, p6, p7⟩ := cells8 R.out
    refine bodyPost_ret (v := vv X.k X.i X.s (.slice oL3 X.l.length cL3) (.slice oK3 X.ks.length cK3) X.tk X.to true) (by simp [results, Tryd.results50, go_sem, p0, p1, p2, p3, p4, p5, p6, p7]) rfl ?_
    exact ⟨oL3, oK3, cL3, cK3, c3, rfl, (OX2.out.sx _).kept B8.out, B9.out⟩
  · have hx : X.x = false := by simpa using hx
    rw [hx, Bool.false_or]
    go_enter Tryd.func50, Tryd.ntmps50
    go_upto_region 1 with fail
    generalize (w.alloc _).alloc _ = w0 at *
    obtain ⟨x8, x0, x1, x2, x3, x4, x5, x6, x7⟩ := HB.out
    obtain ⟨b', off', oL3, oK3, cL3, cK3, c3, e1, hb', ⟨y0, y1, y2, y3, y4, y5, y6, y7⟩, OX⟩ := H.out.L.elv hj (H.out.el j X hX)
    subst e1
    have OX2 := Lib.hid OX
    clear hX OX
    have C4 := cells8 (heap_alloc_new w0 (.cells (#[.int .i64 X.k, .int .i64 X.i, .string X.s, .slice oL3 X.l.length cL3, .slice oK3 X.ks.length cK3, .int .i64 X.tk, .int .i64 X.to, .bool V.x]) 42))
    have B4 := Lib.hid ((Below.refl w0.heap.size w0).alloc (Nat.le_refl _) (.cells (#[.int .i64 X.k, .int .i64 X.i, .string X.s, .slice oL3 X.l.length cL3, .slice oK3 X.ks.length cK3, .int .i64 X.tk, .int .i64 X.to, .bool V.x]) 42))
    have Q4 : Hid ((w0.alloc (.cells (#[.int .i64 X.k, .int .i64 X.i, .string X.s, .slice oL3 X.l.length cL3, .slice oK3 X.ks.length cK3, .int .i64 X.tk, .int .i64 X.to, .bool V.x]) 42)).heap[w.heap.size + 1]? = some (.cells zc 42 (0, 0))) := (B4.out.block _ (by have := HZ.out; omega)).trans HB1.out
    have S4 : Hid ((w0.alloc (.cells (#[.int .i64 X.k, .int .i64 X.i, .string X.s, .slice oL3 X.l.length cL3, .slice oK3 X.ks.length cK3, .int .i64 X.tk, .int .i64 X.to, .bool V.x]) 42)).heap.size = w0.heap.size + 1) := by simp [Hid]
    have HC4 := Lib.hid C4
    clear C4
    go_upto_region 3 with fail
    generalize w0.alloc _ = w4 at *
    obtain ⟨q0, q1, q2, q3, q4, q5, q6, q7⟩ := HC4.out
    have R := Lib.hid (store_box Q4.out (#[.int .i64 X.k, .int .i64 X.i, .string X.s, .slice oL3 X.l.length cL3, .slice oK3 X.ks.length cK3, .int .i64 X.tk, .int .i64 X.to, .bool V.x]) rfl)
    have B9 := Lib.hid (below_setRow (HW.out.trans (B4.out.mono HW.out.size)) (Nat.le_succ _) (over zc (#[.int .i64 X.k, .int .i64 X.i, .string X.s, .slice oL3 X.l.length cL3, .slice oK3 X.ks.length cK3, .int .i64 X.tk, .int .i64 X.to, .bool V.x])))
    have B8 := Lib.hid (below_setRow (B4.out.mono (show n ≤ w0.heap.size by have := HZ.out; omega)) (show n ≤ w.heap.size + 1 by omega) (over zc (#[.int .i64 X.k, .int .i64 X.i, .string X.s, .slice oL3 X.l.length cL3, .slice oK3 X.ks.length cK3, .int .i64 X.tk, .int .i64 X.to, .bool V.x])))
    go_wp2_with ((with_reducible refine wpList_store_at rfl 42 (.tmp 4) (.tmp 18) rfl (w.heap.size + 1) 0 rfl _ rfl 42 zc Q4.out ?sb1 ?sb2 ?sb3 ?sb4); case' sb4 => generalize World.setRow _ _ _ = w9 at *)
    case sb2 => have := size42; simpa using this
    case sb3 => simp [Value.oneCell']
    clear q0 q1 q2 q3 q4 q5 q6 q7
    obtain ⟨p0, p1, p2, p3, p4, p5, p6, p7⟩ := cells8 R.out
    refine bodyPost_ret (v := vv X.k X.i X.s (.slice oL3 X.l.length cL3) (.slice oK3 X.ks.length cK3) X.tk X.to V.x) (by simp [results, Tryd.results50, go_sem, p0, p1, p2, p3, p4, p5, p6, p7]) rfl ?_
    exact ⟨oL3, oK3, cL3, cK3, c3, rfl, (OX2.out.sx _).kept B8.out, B9.out⟩
end Go.Proofs.YtfmgbhaldakpfaaDoor

/- Contracts: Times of the reference. -/
import Derived.Test.YtgjacapalahgkaaT0
namespace Go.Proofs.Ytgjacapalahgkaa
open Go.ChangeShapes Go.WideShapes Go.ChangeAt Go.RowKit
theorem Tm_start (u s t : Bool) (a0 a1 b0 b1 : Int) (w : World) : Tm w.heap.size u a0 a1 b0 b1 0 0 0 0 0 w
    ((((w.alloc (.cells #[.bool s, .int .u64 a0, .int .u64 a1, .int .u64 0, .int .u64 0, .int .u64 0] 31)).alloc (.cells #[.bool t, .int .u64 b0, .int .u64 b1, .int .u64 0, .int .u64 0, .int .u64 0] 31)).alloc
      (.cells #[.bool false, .int .u64 0, .int .u64 0, .int .u64 0, .int .u64 0, .int .u64 0] 31)).alloc (.cells #[.bool u, .int .u64 0, .int .u64 0, .int .u64 0, .int .u64 0, .int .u64 0] 31)) :=
  { zs := by simp, bel := by repeat (with_reducible (first | exact Below.refl _ _ | refine Below.alloc_of ?_ rfl _)), x0 := by simp [go_sem], x1 := by simp [go_sem], y0 := by simp [go_sem], y1 := by simp [go_sem], p0 := by simp [go_sem], p1 := by simp [go_sem], p2 := by simp [go_sem], p3 := by simp [go_sem], p4 := by simp [go_sem], p5 := by simp [go_sem], o0 := by simp [go_sem], o1 := by simp [go_sem], o2 := by simp [go_sem], o3 := by simp [go_sem], o4 := by simp [go_sem], o5 := by simp [go_sem], f0 := by simp [go_sem], f1 := by simp [go_sem], f2 := by simp [go_sem], f3 := by simp [go_sem], f4 := by simp [go_sem], f5 := by simp [go_sem], g0 := by simp [go_sem], g1 := by simp [go_sem], g2 := by simp [go_sem], g3 := by simp [go_sem], g4 := by simp [go_sem], g5 := by simp [go_sem] }
theorem Tm_drawn {n : Nat} {u : Bool} {a0 a1 b0 b1 r0 r1 r2 r3 r4 : Int} {w W W' : World} {q : Nat} (T : Tm n u a0 a1 b0 b1 r0 r1 r2 r3 r4 w W) (h : W.drewN q = W') : Tm n u a0 a1 b0 b1 r0 r1 r2 r3 r4 w W' :=
  h ▸ Tm_mono T (below_drewN (Below.refl _ _) _)
theorem sgn_mul (s t u : Bool) (x y z : Int) (hu : (!s == t) = u) (h : z = x * y) : sgn u z = sgn s x * sgn t y := by
  subst hu h; cases s <;> cases t <;> simp [sgn, Int.mul_neg, Int.neg_mul]
theorem dg_mod (x : Int) : Dg (x % 4294967296) := by unfold Dg; omega
theorem dg_div (x : Int) (h : 0 ≤ x) (h2 : x ≤ 18446744065119617025) : Dg (x / 4294967296) := by unfold Dg; omega
theorem dg_zero : Dg 0 := by unfold Dg; omega
theorem times_sum (a0 a1 b0 b1 A B C D : Int) (hA : A = V (a0 * b0 % 4294967296) (a0 * b0 / 4294967296) 0 0 0) (hB : B = A + V 0 (a0 * b1 % 4294967296) (a0 * b1 / 4294967296) 0 0)
    (hC : C = B + V 0 (a1 * b0 % 4294967296) (a1 * b0 / 4294967296) 0 0) (hD : D = C + V 0 0 (a1 * b1 % 4294967296) (a1 * b1 / 4294967296) 0) : D = V a0 a1 0 0 0 * V b0 b1 0 0 0 := by
  subst hA hB hC hD
  have e : V a0 a1 0 0 0 * V b0 b1 0 0 0 = a0 * b0 + 4294967296 * (a0 * b1) + 4294967296 * (a1 * b0) + 18446744073709551616 * (a1 * b1) := by unfold V; grind
  rw [e]
  unfold V
  generalize a0 * b0 = p
  generalize a0 * b1 = q
  generalize a1 * b0 = r
  generalize a1 * b1 = s
  omega
set_option maxHeartbeats 4000000 in
theorem times_any (s t : Bool) (a0 a1 b0 b1 x y : Int) (w : World) (ha : IsWide s a0 a1 0 0 0 x) (hb : IsWide t b0 b1 0 0 0 y) :
    Calls Try.prog 17 #[.agg #[.bool s, .int .u64 a0, .int .u64 a1, .int .u64 0, .int .u64 0, .int .u64 0], .agg #[.bool t, .int .u64 b0, .int .u64 b1, .int .u64 0, .int .u64 0, .int .u64 0]] w (SumPost (x * y) w) := by
  obtain ⟨ha0, ha1, -, -, -, rfl⟩ := ha
  obtain ⟨hb0, hb1, -, -, -, rfl⟩ := hb
  unfold Dg at ha0 ha1 hb0 hb1
  have P00 := mul_bd a0 b0 ha0.1 ha0.2 hb0.1 hb0.2
  have P01 := mul_bd a0 b1 ha0.1 ha0.2 hb1.1 hb1.2
  have P10 := mul_bd a1 b0 ha1.1 ha1.2 hb0.1 hb0.2
  have P11 := mul_bd a1 b1 ha1.1 ha1.2 hb1.1 hb1.2
  have HB := Lib.hid (And.intro ha0 (And.intro ha1 (And.intro hb0 hb1)))
  clear ha0 ha1 hb0 hb1
  obtain ⟨u, hu⟩ : ∃ u, (!s == t) = u := ⟨_, rfl⟩
  have T := Lib.hid (Tm_start u s t a0 a1 b0 b1 w)
  go_enter Try.func17, Try.ntmps17
  go_wp2
  generalize hW : ((((w.alloc _).alloc _).alloc _).alloc _) = W
  rw [hW] at T
  have HU := Lib.hid hu
  clear hW hu
  obtain ⟨zs, x0, x1, y0, y1, p0, p1, p2, p3, p4, p5, o0, o1, o2, o3, o4, o5, f0, f1, f2, f3, f4, f5, g0, g1, g2, g3, g4, g5, bel⟩ := T.out
  have z0 : w.heap.size < W.heap.size := by omega
  have z1 : w.heap.size + 1 < W.heap.size := by omega
  have z2 : w.heap.size + 1 + 1 < W.heap.size := by omega
  have z3 : w.heap.size + 1 + 1 + 1 < W.heap.size := by omega
  refine wp_loop_rounds 3 ?_; rw [rounds_succ]
  go_wp2
  refine wp_loop_rounds 3 ?_; rw [rounds_succ]
  go_wp2
  go_quiet (fail)
  generalize hW : W.drewN _ = Q0
  have D0 := Lib.hid (Tm_drawn T.out hW)
  clear hW zs x0 x1 y0 y1 p0 p1 p2 p3 p4 p5 o0 o1 o2 o3 o4 o5 f0 f1 f2 f3 f4 f5 g0 g1 g2 g3 g4 g5 bel z0 z1 z2 z3
  obtain ⟨zs, x0, x1, y0, y1, p0, p1, p2, p3, p4, p5, o0, o1, o2, o3, o4, o5, f0, f1, f2, f3, f4, f5, g0, g1, g2, g3, g4, g5, bel⟩ := D0.out
  have z0 : w.heap.size < Q0.heap.size := by omega
  have z1 : w.heap.size + 1 < Q0.heap.size := by omega
  have z2 : w.heap.size + 1 + 1 < Q0.heap.size := by omega
  have z3 : w.heap.size + 1 + 1 + 1 < Q0.heap.size := by omega
  go_wp2_with fail
  refine (plus_any _ _ _ _ _ _ _ _ _ _ _ dg_zero dg_zero dg_zero dg_zero dg_zero (dg_mod _) (dg_div _ P00.1 P00.2) dg_zero dg_zero dg_zero).mono ?_
  rintro e w0 ⟨⟨r00, r01, r02, r03, r04, rfl, h0⟩, hb0⟩
  have H0 := Lib.hid h0
  have T0 := Lib.hid (Tm_mono D0.out (Below.trans (Below.alloc (Below.refl _ _) (Nat.le_refl _) _) (hb0.mono (by simp))))
  clear h0 hb0 zs x0 x1 y0 y1 p0 p1 p2 p3 p4 p5 o0 o1 o2 o3 o4 o5 f0 f1 f2 f3 f4 f5 g0 g1 g2 g3 g4 g5 bel z0 z1 z2 z3
  obtain ⟨zs, x0, x1, y0, y1, p0, p1, p2, p3, p4, p5, o0, o1, o2, o3, o4, o5, f0, f1, f2, f3, f4, f5, g0, g1, g2, g3, g4, g5, bel⟩ := T0.out
  have z0 : w.heap.size < w0.heap.size := by omega
  have z1 : w.heap.size + 1 < w0.heap.size := by omega
  have z2 : w.heap.size + 1 + 1 < w0.heap.size := by omega
  have z3 : w.heap.size + 1 + 1 + 1 < w0.heap.size := by omega
  go_wp2
  generalize hW : (((((World.setCell w0 _ _).setCell _ _).setCell _ _).setCell _ _).setCell _ _) = V0
  have S0 := Lib.hid (Tm_set T0.out r00 r01 r02 r03 r04)
  rw [hW] at S0
  clear hW zs x0 x1 y0 y1 p0 p1 p2 p3 p4 p5 o0 o1 o2 o3 o4 o5 f0 f1 f2 f3 f4 f5 g0 g1 g2 g3 g4 g5 bel z0 z1 z2 z3
  obtain ⟨zs, x0, x1, y0, y1, p0, p1, p2, p3, p4, p5, o0, o1, o2, o3, o4, o5, f0, f1, f2, f3, f4, f5, g0, g1, g2, g3, g4, g5, bel⟩ := S0.out
  have z0 : w.heap.size < V0.heap.size := by omega
  have z1 : w.heap.size + 1 < V0.heap.size := by omega
  have z2 : w.heap.size + 1 + 1 < V0.heap.size := by omega
  have z3 : w.heap.size + 1 + 1 + 1 < V0.heap.size := by omega
  rw [rounds_succ]
  go_wp2
  go_quiet (fail)
  generalize hW : V0.drewN _ = Q1
  have D1 := Lib.hid (Tm_drawn S0.out hW)
  clear hW zs x0 x1 y0 y1 p0 p1 p2 p3 p4 p5 o0 o1 o2 o3 o4 o5 f0 f1 f2 f3 f4 f5 g0 g1 g2 g3 g4 g5 bel z0 z1 z2 z3
  obtain ⟨zs, x0, x1, y0, y1, p0, p1, p2, p3, p4, p5, o0, o1, o2, o3, o4, o5, f0, f1, f2, f3, f4, f5, g0, g1, g2, g3, g4, g5, bel⟩ := D1.out
  have z0 : w.heap.size < Q1.heap.size := by omega
  have z1 : w.heap.size + 1 < Q1.heap.size := by omega
  have z2 : w.heap.size + 1 + 1 < Q1.heap.size := by omega
  have z3 : w.heap.size + 1 + 1 + 1 < Q1.heap.size := by omega
  go_wp2_with fail
  refine (plus_any _ _ _ _ _ _ _ _ _ _ _ H0.out.1 H0.out.2.1 H0.out.2.2.1 H0.out.2.2.2.1 H0.out.2.2.2.2.1 dg_zero (dg_mod _) (dg_div _ P01.1 P01.2) dg_zero dg_zero).mono ?_
  rintro e w1 ⟨⟨r10, r11, r12, r13, r14, rfl, h1⟩, hb1⟩
  have H1 := Lib.hid h1
  have T1 := Lib.hid (Tm_mono D1.out (Below.trans (Below.alloc (Below.refl _ _) (Nat.le_refl _) _) (hb1.mono (by simp))))
  clear h1 hb1 zs x0 x1 y0 y1 p0 p1 p2 p3 p4 p5 o0 o1 o2 o3 o4 o5 f0 f1 f2 f3 f4 f5 g0 g1 g2 g3 g4 g5 bel z0 z1 z2 z3
  obtain ⟨zs, x0, x1, y0, y1, p0, p1, p2, p3, p4, p5, o0, o1, o2, o3, o4, o5, f0, f1, f2, f3, f4, f5, g0, g1, g2, g3, g4, g5, bel⟩ := T1.out
  have z0 : w.heap.size < w1.heap.size := by omega
  have z1 : w.heap.size + 1 < w1.heap.size := by omega
  have z2 : w.heap.size + 1 + 1 < w1.heap.size := by omega
  have z3 : w.heap.size + 1 + 1 + 1 < w1.heap.size := by omega
  go_wp2
  generalize hW : (((((World.setCell w1 _ _).setCell _ _).setCell _ _).setCell _ _).setCell _ _) = V1
  have S1 := Lib.hid (Tm_set T1.out r10 r11 r12 r13 r14)
  rw [hW] at S1
  clear hW zs x0 x1 y0 y1 p0 p1 p2 p3 p4 p5 o0 o1 o2 o3 o4 o5 f0 f1 f2 f3 f4 f5 g0 g1 g2 g3 g4 g5 bel z0 z1 z2 z3
  obtain ⟨zs, x0, x1, y0, y1, p0, p1, p2, p3, p4, p5, o0, o1, o2, o3, o4, o5, f0, f1, f2, f3, f4, f5, g0, g1, g2, g3, g4, g5, bel⟩ := S1.out
  have z0 : w.heap.size < V1.heap.size := by omega
  have z1 : w.heap.size + 1 < V1.heap.size := by omega
  have z2 : w.heap.size + 1 + 1 < V1.heap.size := by omega
  have z3 : w.heap.size + 1 + 1 + 1 < V1.heap.size := by omega
  rw [rounds_succ]
  go_wp2
  rw [rounds_succ]
  go_wp2
  refine wp_loop_rounds 3 ?_; rw [rounds_succ]
  go_wp2
  go_quiet (fail)
  generalize hW : V1.drewN _ = Q2
  have D2 := Lib.hid (Tm_drawn S1.out hW)
  clear hW zs x0 x1 y0 y1 p0 p1 p2 p3 p4 p5 o0 o1 o2 o3 o4 o5 f0 f1 f2 f3 f4 f5 g0 g1 g2 g3 g4 g5 bel z0 z1 z2 z3
  obtain ⟨zs, x0, x1, y0, y1, p0, p1, p2, p3, p4, p5, o0, o1, o2, o3, o4, o5, f0, f1, f2, f3, f4, f5, g0, g1, g2, g3, g4, g5, bel⟩ := D2.out
  have z0 : w.heap.size < Q2.heap.size := by omega
  have z1 : w.heap.size + 1 < Q2.heap.size := by omega
  have z2 : w.heap.size + 1 + 1 < Q2.heap.size := by omega
  have z3 : w.heap.size + 1 + 1 + 1 < Q2.heap.size := by omega
  go_wp2_with fail
  refine (plus_any _ _ _ _ _ _ _ _ _ _ _ H1.out.1 H1.out.2.1 H1.out.2.2.1 H1.out.2.2.2.1 H1.out.2.2.2.2.1 dg_zero (dg_mod _) (dg_div _ P10.1 P10.2) dg_zero dg_zero).mono ?_
  rintro e w2 ⟨⟨r20, r21, r22, r23, r24, rfl, h2⟩, hb2⟩
  have H2 := Lib.hid h2
  have T2 := Lib.hid (Tm_mono D2.out (Below.trans (Below.alloc (Below.refl _ _) (Nat.le_refl _) _) (hb2.mono (by simp))))
  clear h2 hb2 zs x0 x1 y0 y1 p0 p1 p2 p3 p4 p5 o0 o1 o2 o3 o4 o5 f0 f1 f2 f3 f4 f5 g0 g1 g2 g3 g4 g5 bel z0 z1 z2 z3
  obtain ⟨zs, x0, x1, y0, y1, p0, p1, p2, p3, p4, p5, o0, o1, o2, o3, o4, o5, f0, f1, f2, f3, f4, f5, g0, g1, g2, g3, g4, g5, bel⟩ := T2.out
  have z0 : w.heap.size < w2.heap.size := by omega
  have z1 : w.heap.size + 1 < w2.heap.size := by omega
  have z2 : w.heap.size + 1 + 1 < w2.heap.size := by omega
  have z3 : w.heap.size + 1 + 1 + 1 < w2.heap.size := by omega
  go_wp2
  generalize hW : (((((World.setCell w2 _ _).setCell _ _).setCell _ _).setCell _ _).setCell _ _) = V2
  have S2 := Lib.hid (Tm_set T2.out r20 r21 r22 r23 r24)
  rw [hW] at S2
  clear hW zs x0 x1 y0 y1 p0 p1 p2 p3 p4 p5 o0 o1 o2 o3 o4 o5 f0 f1 f2 f3 f4 f5 g0 g1 g2 g3 g4 g5 bel z0 z1 z2 z3
  obtain ⟨zs, x0, x1, y0, y1, p0, p1, p2, p3, p4, p5, o0, o1, o2, o3, o4, o5, f0, f1, f2, f3, f4, f5, g0, g1, g2, g3, g4, g5, bel⟩ := S2.out
  have z0 : w.heap.size < V2.heap.size := by omega
  have z1 : w.heap.size + 1 < V2.heap.size := by omega
  have z2 : w.heap.size + 1 + 1 < V2.heap.size := by omega
  have z3 : w.heap.size + 1 + 1 + 1 < V2.heap.size := by omega
  rw [rounds_succ]
  go_wp2
  go_quiet (fail)
  generalize hW : V2.drewN _ = Q3
  have D3 := Lib.hid (Tm_drawn S2.out hW)
  clear hW zs x0 x1 y0 y1 p0 p1 p2 p3 p4 p5 o0 o1 o2 o3 o4 o5 f0 f1 f2 f3 f4 f5 g0 g1 g2 g3 g4 g5 bel z0 z1 z2 z3
  obtain ⟨zs, x0, x1, y0, y1, p0, p1, p2, p3, p4, p5, o0, o1, o2, o3, o4, o5, f0, f1, f2, f3, f4, f5, g0, g1, g2, g3, g4, g5, bel⟩ := D3.out
  have z0 : w.heap.size < Q3.heap.size := by omega
  have z1 : w.heap.size + 1 < Q3.heap.size := by omega
  have z2 : w.heap.size + 1 + 1 < Q3.heap.size := by omega
  have z3 : w.heap.size + 1 + 1 + 1 < Q3.heap.size := by omega
  go_wp2_with fail
  refine (plus_any _ _ _ _ _ _ _ _ _ _ _ H2.out.1 H2.out.2.1 H2.out.2.2.1 H2.out.2.2.2.1 H2.out.2.2.2.2.1 dg_zero dg_zero (dg_mod _) (dg_div _ P11.1 P11.2) dg_zero).mono ?_
  rintro e w3 ⟨⟨r30, r31, r32, r33, r34, rfl, h3⟩, hb3⟩
  have H3 := Lib.hid h3
  have T3 := Lib.hid (Tm_mono D3.out (Below.trans (Below.alloc (Below.refl _ _) (Nat.le_refl _) _) (hb3.mono (by simp))))
  clear h3 hb3 zs x0 x1 y0 y1 p0 p1 p2 p3 p4 p5 o0 o1 o2 o3 o4 o5 f0 f1 f2 f3 f4 f5 g0 g1 g2 g3 g4 g5 bel z0 z1 z2 z3
  obtain ⟨zs, x0, x1, y0, y1, p0, p1, p2, p3, p4, p5, o0, o1, o2, o3, o4, o5, f0, f1, f2, f3, f4, f5, g0, g1, g2, g3, g4, g5, bel⟩ := T3.out
  have z0 : w.heap.size < w3.heap.size := by omega
  have z1 : w.heap.size + 1 < w3.heap.size := by omega
  have z2 : w.heap.size + 1 + 1 < w3.heap.size := by omega
  have z3 : w.heap.size + 1 + 1 + 1 < w3.heap.size := by omega
  go_wp2
  generalize hW : (((((World.setCell w3 _ _).setCell _ _).setCell _ _).setCell _ _).setCell _ _) = V3
  have S3 := Lib.hid (Tm_set T3.out r30 r31 r32 r33 r34)
  rw [hW] at S3
  clear hW zs x0 x1 y0 y1 p0 p1 p2 p3 p4 p5 o0 o1 o2 o3 o4 o5 f0 f1 f2 f3 f4 f5 g0 g1 g2 g3 g4 g5 bel z0 z1 z2 z3
  obtain ⟨zs, x0, x1, y0, y1, p0, p1, p2, p3, p4, p5, o0, o1, o2, o3, o4, o5, f0, f1, f2, f3, f4, f5, g0, g1, g2, g3, g4, g5, bel⟩ := S3.out
  have z0 : w.heap.size < V3.heap.size := by omega
  have z1 : w.heap.size + 1 < V3.heap.size := by omega
  have z2 : w.heap.size + 1 + 1 < V3.heap.size := by omega
  have z3 : w.heap.size + 1 + 1 + 1 < V3.heap.size := by omega
  rw [rounds_succ]
  go_wp2
  rw [rounds_succ]
  go_wp2
  have e0 := H0.out.2.2.2.2.2 (by unfold V; omega)
  have e1 := H1.out.2.2.2.2.2 (by rw [e0]; unfold V; omega)
  have e2 := H2.out.2.2.2.2.2 (by rw [e1, e0]; unfold V; omega)
  have e3 := H3.out.2.2.2.2.2 (by rw [e2, e1, e0]; unfold V; omega)
  have ev := times_sum a0 a1 b0 b1 _ _ _ _ (by rw [e0]; unfold V; omega) e1 e2 e3
  have bb := S3.out.bel
  refine bodyPost_ret (v := .agg #[.bool u, .int .u64 r30, .int .u64 r31, .int .u64 r32, .int .u64 r33, .int .u64 r34]) (by simp [results, Try.results17, go_sem, p0, p1, p2, p3, p4, p5]) rfl ⟨⟨_, _, _, _, _, _, rfl, H3.out.1, H3.out.2.1, H3.out.2.2.1, H3.out.2.2.2.1, H3.out.2.2.2.2.1, sgn_mul s t u _ _ _ HU.out ev⟩, ?_⟩
  exact Below.set_at (Below.set_at (Below.set_at (Below.set_at (Below.set_at (Below.set_at bb (by omega) _) (by omega) _) (by omega) _) (by omega) _) (by omega) _) (by omega) _
end Go.Proofs.Ytgjacapalahgkaa

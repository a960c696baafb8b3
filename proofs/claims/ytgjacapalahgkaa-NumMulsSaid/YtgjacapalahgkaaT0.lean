/- Contracts: Times of the reference. -/
import Derived.Test.YtgjacapalahgkaaR
namespace Go.Proofs.Ytgjacapalahgkaa
open Go.ChangeShapes Go.WideShapes Go.ChangeAt Go.RowKit
/-- what is held in memory while Times goes round -/
structure Tm (n : Nat) (u : Bool) (a0 a1 b0 b1 r0 r1 r2 r3 r4 : Int) (w W : World) : Prop where
  zs : n + 1 + 1 + 1 + 1 ≤ W.heap.size
  x0 : W.cell? ⟨n, 1, none⟩ = some (.int .u64 a0)
  x1 : W.cell? ⟨n, 2, none⟩ = some (.int .u64 a1)
  y0 : W.cell? ⟨n + 1, 1, none⟩ = some (.int .u64 b0)
  y1 : W.cell? ⟨n + 1, 2, none⟩ = some (.int .u64 b1)
  p0 : W.cell? ⟨n + 1 + 1, 0, none⟩ = some (.bool false)
  p1 : W.cell? ⟨n + 1 + 1, 1, none⟩ = some (.int .u64 0)
  p2 : W.cell? ⟨n + 1 + 1, 2, none⟩ = some (.int .u64 0)
  p3 : W.cell? ⟨n + 1 + 1, 3, none⟩ = some (.int .u64 0)
  p4 : W.cell? ⟨n + 1 + 1, 4, none⟩ = some (.int .u64 0)
  p5 : W.cell? ⟨n + 1 + 1, 5, none⟩ = some (.int .u64 0)
  o0 : W.cell? ⟨n + 1 + 1 + 1, 0, none⟩ = some (.bool u)
  o1 : W.cell? ⟨n + 1 + 1 + 1, 1, none⟩ = some (.int .u64 r0)
  o2 : W.cell? ⟨n + 1 + 1 + 1, 2, none⟩ = some (.int .u64 r1)
  o3 : W.cell? ⟨n + 1 + 1 + 1, 3, none⟩ = some (.int .u64 r2)
  o4 : W.cell? ⟨n + 1 + 1 + 1, 4, none⟩ = some (.int .u64 r3)
  o5 : W.cell? ⟨n + 1 + 1 + 1, 5, none⟩ = some (.int .u64 r4)
  f0 : W.frozen? ⟨n + 1 + 1, 0, none⟩ = false
  f1 : W.frozen? ⟨n + 1 + 1, 1, none⟩ = false
  f2 : W.frozen? ⟨n + 1 + 1, 2, none⟩ = false
  f3 : W.frozen? ⟨n + 1 + 1, 3, none⟩ = false
  f4 : W.frozen? ⟨n + 1 + 1, 4, none⟩ = false
  f5 : W.frozen? ⟨n + 1 + 1, 5, none⟩ = false
  g0 : W.frozen? ⟨n + 1 + 1 + 1, 0, none⟩ = false
  g1 : W.frozen? ⟨n + 1 + 1 + 1, 1, none⟩ = false
  g2 : W.frozen? ⟨n + 1 + 1 + 1, 2, none⟩ = false
  g3 : W.frozen? ⟨n + 1 + 1 + 1, 3, none⟩ = false
  g4 : W.frozen? ⟨n + 1 + 1 + 1, 4, none⟩ = false
  g5 : W.frozen? ⟨n + 1 + 1 + 1, 5, none⟩ = false
  bel : Below n w W

theorem Tm_mono {n : Nat} {u : Bool} {a0 a1 b0 b1 r0 r1 r2 r3 r4 : Int} {w W W' : World} (T : Tm n u a0 a1 b0 b1 r0 r1 r2 r3 r4 w W) (h : Below W.heap.size W W') : Tm n u a0 a1 b0 b1 r0 r1 r2 r3 r4 w W' := by
  have z := T.zs
  have c : ∀ b o, b < W.heap.size → W'.cell? ⟨b, o, none⟩ = W.cell? ⟨b, o, none⟩ := fun b o hb => h.cell (p := ⟨b, o, none⟩) hb
  have f : ∀ b o, b < W.heap.size → W'.frozen? ⟨b, o, none⟩ = W.frozen? ⟨b, o, none⟩ := fun b o hb => h.frozen (p := ⟨b, o, none⟩) hb
  exact { zs := Nat.le_trans z h.size, x0 := (c _ _ (by omega)).trans T.x0, x1 := (c _ _ (by omega)).trans T.x1, y0 := (c _ _ (by omega)).trans T.y0, y1 := (c _ _ (by omega)).trans T.y1, p0 := (c _ _ (by omega)).trans T.p0, p1 := (c _ _ (by omega)).trans T.p1, p2 := (c _ _ (by omega)).trans T.p2, p3 := (c _ _ (by omega)).trans T.p3, p4 := (c _ _ (by omega)).trans T.p4, p5 := (c _ _ (by omega)).trans T.p5, o0 := (c _ _ (by omega)).trans T.o0, o1 := (c _ _ (by omega)).trans T.o1, o2 := (c _ _ (by omega)).trans T.o2, o3 := (c _ _ (by omega)).trans T.o3, o4 := (c _ _ (by omega)).trans T.o4, o5 := (c _ _ (by omega)).trans T.o5, f0 := (f _ _ (by omega)).trans T.f0, f1 := (f _ _ (by omega)).trans T.f1, f2 := (f _ _ (by omega)).trans T.f2, f3 := (f _ _ (by omega)).trans T.f3, f4 := (f _ _ (by omega)).trans T.f4, f5 := (f _ _ (by omega)).trans T.f5, g0 := (f _ _ (by omega)).trans T.g0, g1 := (f _ _ (by omega)).trans T.g1, g2 := (f _ _ (by omega)).trans T.g2, g3 := (f _ _ (by omega)).trans T.g3, g4 := (f _ _ (by omega)).trans T.g4, g5 := (f _ _ (by omega)).trans T.g5, bel := T.bel.trans (h.mono (by omega)) }
theorem Tm_set {n : Nat} {u : Bool} {a0 a1 b0 b1 r0 r1 r2 r3 r4 : Int} {w W : World} (T : Tm n u a0 a1 b0 b1 r0 r1 r2 r3 r4 w W) (s0 s1 s2 s3 s4 : Int) :
    Tm n u a0 a1 b0 b1 s0 s1 s2 s3 s4 w (((((W.setCell ⟨n + 1 + 1 + 1, 1, none⟩ (.int .u64 s0)).setCell ⟨n + 1 + 1 + 1, 2, none⟩ (.int .u64 s1)).setCell ⟨n + 1 + 1 + 1, 3, none⟩ (.int .u64 s2)).setCell ⟨n + 1 + 1 + 1, 4, none⟩ (.int .u64 s3)).setCell ⟨n + 1 + 1 + 1, 5, none⟩ (.int .u64 s4)) := by
  obtain ⟨zs, x0, x1, y0, y1, p0, p1, p2, p3, p4, p5, o0, o1, o2, o3, o4, o5, f0, f1, f2, f3, f4, f5, g0, g1, g2, g3, g4, g5, bel⟩ := T
  exact { zs := by simpa using zs, bel := Below.set_at (Below.set_at (Below.set_at (Below.set_at (Below.set_at bel (by omega) _) (by omega) _) (by omega) _) (by omega) _) (by omega) _, x0 := by simp [go_sem, *], x1 := by simp [go_sem, *], y0 := by simp [go_sem, *], y1 := by simp [go_sem, *], p0 := by simp [go_sem, *], p1 := by simp [go_sem, *], p2 := by simp [go_sem, *], p3 := by simp [go_sem, *], p4 := by simp [go_sem, *], p5 := by simp [go_sem, *], o0 := by simp [go_sem, *], o1 := by simp [go_sem, *], o2 := by simp [go_sem, *], o3 := by simp [go_sem, *], o4 := by simp [go_sem, *], o5 := by simp [go_sem, *], f0 := by simp [go_sem, *], f1 := by simp [go_sem, *], f2 := by simp [go_sem, *], f3 := by simp [go_sem, *], f4 := by simp [go_sem, *], f5 := by simp [go_sem, *], g0 := by simp [go_sem, *], g1 := by simp [go_sem, *], g2 := by simp [go_sem, *], g3 := by simp [go_sem, *], g4 := by simp [go_sem, *], g5 := by simp [go_sem, *] }
end Go.Proofs.Ytgjacapalahgkaa

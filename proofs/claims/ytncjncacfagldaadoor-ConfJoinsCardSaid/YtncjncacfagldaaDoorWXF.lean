/- awake. -/
import Derived.Test.YtncjncacfagldaaDoorWZg
import Derived.Test.YtncjncacfagldaaDoorWXA
import Derived.StillTailTactics
import Derived.Laws.Concat
namespace Go.Proofs.YtncjncacfagldaaDoor
open Go.RowKit Go.Lib

def hd1 (X : Ex) : Int := match X.l[1]? with | some y => y.op | none => 0
def hd0 (X : Ex) : Int := match X.l[0]? with | some y => y.op | none => 0
/-- what a call of Parse leaves, kept in two boxes -/
structure PB (w0 w : World) (n : Nat) (b : Nat) (M : Ex × Nat × Ps) (o : Option Addr) (cap : Nat) : Prop where
  x : ∃ oV cV oK cK, w.heap[b]? = some (.cells (xc M.1 oV cV oK cK o cap) 33 (0, 0)) ∧ XL n w M.1 (.agg (xc M.1 oV cV oK cK o cap))
  d : ∃ q : Ps, w.heap[b + 1]? = some (.cells #[.int .i64 M.2.1, .int .i64 q.a, .int .i64 q.l, .int .i64 q.c, .string ⟨#[]⟩] 36 (0, 0))
  n : n ≤ w.heap.size
  b : Below w0.heap.size w0 w
theorem PB.kept {w0 w w' : World} {n b : Nat} {M : Ex × Nat × Ps} {o : Option Addr} {cap : Nat} (h : PB w0 w n b M o cap) (k : Below w.heap.size w w') : PB w0 w' n b M o cap := by
  obtain ⟨⟨oV, cV, oK, cK, h1, h2⟩, ⟨q, h3⟩, h4, h5⟩ := h
  exact ⟨⟨oV, cV, oK, cK, (k.block _ (Array.getElem?_eq_some_iff.1 h1).1).trans h1, h2.bl (fun i hi => hi) (k.mono h4)⟩, ⟨q, (k.block _ (Array.getElem?_eq_some_iff.1 h3).1).trans h3⟩, Nat.le_trans h4 k.size, h5.trans (k.mono h5.size)⟩
theorem PB.mk' {w0 w w1 : World} {M : Ex × Nat × Ps} {oV : Option Addr} {cV : Nat} {oK : Option Addr} {cK : Nat} {o : Option Addr} {cap : Nat} (h0 : Below w0.heap.size w0 w) (hx : XP (Nw w w1) w1 M.1 (.agg (xc M.1 oV cV oK cK o cap))) (hb : Below w.heap.size w w1) :
    PB w0 ((w1.alloc (.cells (xc M.1 oV cV oK cK o cap) 33)).alloc (.cells #[.int .i64 M.2.1, .int .i64 M.2.2.a, .int .i64 M.2.2.l, .int .i64 M.2.2.c, .string ⟨#[]⟩] 36)) w1.heap.size w1.heap.size M o cap := by
  have B : Below w1.heap.size w1 ((w1.alloc (.cells (xc M.1 oV cV oK cK o cap) 33)).alloc (.cells #[.int .i64 M.2.1, .int .i64 M.2.2.a, .int .i64 M.2.2.l, .int .i64 M.2.2.c, .string ⟨#[]⟩] 36)) := ((Below.refl _ _).alloc (Nat.le_refl _) _).alloc (by simp) _
  refine ⟨⟨oV, cV, oK, cK, (heap_alloc_old _ _ (by simp)).trans (heap_alloc_new w1 _), (hx.mono fun k hk => hk.2).bl (fun k hk => hk) B⟩, ⟨M.2.2, ?_⟩, by simp; omega, (h0.trans (hb.mono h0.size)).trans (B.mono (Nat.le_trans h0.size hb.size))⟩
  have := heap_alloc_new (w1.alloc (.cells (xc M.1 oV cV oK cK o cap) 33)) (.cells #[.int .i64 M.2.1, .int .i64 M.2.2.a, .int .i64 M.2.2.l, .int .i64 M.2.2.c, .string ⟨#[]⟩] 36)
  rw [World.size_alloc] at this
  exact this
end Go.Proofs.YtncjncacfagldaaDoor
/- ExprSame: the law's walk. -/
namespace Go.Proofs.YtncjncacfagldaaDoor
open Go.RowKit Go.Lib

theorem held_next {N : Nat} {W0 W1 W2 : World} (b : Below W1.heap.size W1 W2) (h : (∀ b o, b < N → W1.cell? ⟨b, o, none⟩ = W0.cell? ⟨b, o, none⟩) ∧ Hid (Below N W0 W1) ∧ Hid (N ≤ W1.heap.size)) :
    (∀ b o, b < N → W2.cell? ⟨b, o, none⟩ = W0.cell? ⟨b, o, none⟩) ∧ Hid (Below N W0 W2) ∧ Hid (N ≤ W2.heap.size) := by
  have hB : Below N W0 W2 := h.2.1.out.trans (b.mono h.2.2.out)
  exact ⟨fun b o hb => hB.cell (p := ⟨b, o, none⟩) hb, hB, Nat.le_trans h.2.2.out b.size⟩
theorem held_at {N : Nat} {W0 : World} (h : N = W0.heap.size) : (∀ b o, b < N → W0.drew.cell? ⟨b, o, none⟩ = W0.cell? ⟨b, o, none⟩) ∧ Hid (Below N W0 W0.drew) ∧ Hid (N ≤ W0.drew.heap.size) :=
  ⟨fun _ _ _ => rfl, (Below.refl _ _).drew, Nat.le_of_eq h⟩
end Go.Proofs.YtncjncacfagldaaDoor
/- ExprLoose: what the model answers for two signs; joined texts in a region; a parser's answer kept in two boxes. -/
namespace Go.Proofs.YtncjncacfagldaaDoor
open Go.RowKit Go.Lib

theorem tx_sz (a : List UInt8) : (tx a).size = a.length := by show a.toArray.size = _; simp
/-- what a call of Parse leaves, kept in two boxes -/
def PK (N : Nat) (W0 w : World) (g1 g2 : Nat) (M : Ex × Nat × Ps) : Prop := ∃ oV cV oK cK o cap n, w.heap[g1]? = some (.cells (xc M.1 oV cV oK cK o cap) 33 (0, 0)) ∧ w.heap[g2]? = some (.cells #[.int .i64 (M.2.1 : Int), .int .i64 M.2.2.a, .int .i64 M.2.2.l, .int .i64 M.2.2.c, .string ⟨#[]⟩] 36 (0, 0)) ∧ XL n w M.1 (.agg (xc M.1 oV cV oK cK o cap)) ∧ n ≤ w.heap.size ∧ Below N W0 w
theorem PK.kept {N : Nat} {W0 w w' : World} {g1 g2 : Nat} {M : Ex × Nat × Ps} (h : PK N W0 w g1 g2 M) {K : Nat} (k : Below K w w') (hk : w.heap.size ≤ K) (hN : N ≤ K) : PK N W0 w' g1 g2 M := by
  obtain ⟨oV, cV, oK, cK, o, cap, n, h1, h2, h3, h4, h5⟩ := h
  exact ⟨oV, cV, oK, cK, o, cap, n, (k.block _ (Nat.lt_of_lt_of_le (Array.getElem?_eq_some_iff.1 h1).1 hk)).trans h1, (k.block _ (Nat.lt_of_lt_of_le (Array.getElem?_eq_some_iff.1 h2).1 hk)).trans h2, h3.bl (fun i hi => hi) (k.mono (Nat.le_trans h4 hk)), Nat.le_trans h4 k.size, h5.trans (k.mono hN)⟩
end Go.Proofs.YtncjncacfagldaaDoor

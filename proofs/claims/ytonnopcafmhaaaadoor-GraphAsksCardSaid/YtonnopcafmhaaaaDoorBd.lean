/- A graph's block as it is built. -/
import Derived.Test.YtonnopcafmhaaaaDoorC4
import Derived.Laws.Tables
namespace Go.Proofs.YtonnopcafmhaaaaDoor
open Go.RowKit

theorem fold_get (off i : Nat) : ∀ (l : List Value) (k : Nat) (cs : Array Value), off + k + l.length ≤ cs.size →
    ((l.zipIdx k).foldl (fun (cs : Array Value) (x : Value × Nat) => cs.setIfInBounds (off + x.2) x.1) cs)[i]? = if off + k ≤ i ∧ i < off + k + l.length then l[i - (off + k)]? else cs[i]?
  | [], k, cs, _ => by rw [if_neg (by simp only [List.length_nil]; omega)]; rfl
  | v :: r, k, cs, h => by
    simp only [List.length_cons] at h
    rw [List.zipIdx_cons, List.foldl_cons, fold_get off i r (k + 1) _ (by simp only [Array.size_setIfInBounds]; omega), Array.getElem?_setIfInBounds]
    simp only [List.length_cons]
    by_cases h1 : i = off + k
    · subst h1
      rw [if_neg (by omega), if_pos rfl, if_pos (by omega), if_pos (by omega), Nat.sub_self]; rfl
    · by_cases h2 : off + (k + 1) ≤ i ∧ i < off + (k + 1) + r.length
      · rw [if_pos h2, if_pos (by omega), show i - (off + k) = (i - (off + (k + 1))) + 1 by omega, List.getElem?_cons_succ]
      · rw [if_neg h2, if_neg (fun e => h1 e.symm), if_neg (by omega)]
theorem fold_size (off : Nat) : ∀ (l : List Value) (k : Nat) (cs : Array Value), ((l.zipIdx k).foldl (fun (cs : Array Value) (x : Value × Nat) => cs.setIfInBounds (off + x.2) x.1) cs).size = cs.size
  | [], _, _ => rfl
  | v :: r, k, cs => by rw [List.zipIdx_cons, List.foldl_cons, fold_size off r, Array.size_setIfInBounds]
/-- what a part leaves behind -/
def putPart (off : Nat) (v cs : Array Value) : Array Value := v.zipIdx.foldl (fun cs (c, j) => cs.setIfInBounds (off + j) c) cs
theorem putPart_eq (off : Nat) (v cs : Array Value) : putPart off v cs = (v.toList.zipIdx 0).foldl (fun (cs : Array Value) (x : Value × Nat) => cs.setIfInBounds (off + x.2) x.1) cs := by
  unfold putPart
  rw [← Array.foldl_toList, Array.toList_zipIdx]
theorem putPart_get (off i : Nat) (v cs : Array Value) (h : off + v.size ≤ cs.size) : (putPart off v cs)[i]? = if off ≤ i ∧ i < off + v.size then v[i - off]? else cs[i]? := by
  rw [putPart_eq, fold_get off i v.toList 0 cs (by simpa using h)]
  simp
theorem putPart_size (off : Nat) (v cs : Array Value) : (putPart off v cs).size = cs.size := by rw [putPart_eq, fold_size]
set_option maxRecDepth 100000 in
theorem zero52 : (Tryd.prog.info? 52).map (fun i => i.zero.map (fun z => z.cells.toList)) = some (some (.int .i64 0 :: List.replicate 512 (.int .u64 0))) := by kernel_rfl
def z52 : Array Value := (Value.int .i64 0 :: List.replicate 512 (.int .u64 0)).toArray
theorem z52_size : z52.size = 513 := by unfold z52; rw [List.size_toArray, List.length_cons, List.length_replicate]
theorem places52 : (match Tryd.prog.underlying 52 with | some (.struct fields) => fields.toList.mapM (fun f => (Tryd.prog.info? f.type).map fun i => (f.offset, i.size)) | _ => none) = some [(0, 1), (1, 256), (257, 256)] := by kernel_rfl
theorem built52_eq (parts : List (Nat × Value)) : Tryd.prog.built 52 parts = Instr.fill ([(0, 1), (1, 256), (257, 256)].toArray[·]?) z52 parts := by
  have h1 := zero52
  have h2 := places52
  unfold Program.built
  cases hi : Tryd.prog.info? 52 with
  | none => rw [hi] at h1; cases h1
  | some it =>
    rw [hi] at h1
    have h1 : Option.map (fun z => z.cells.toList) it.zero = _ := Option.some.inj h1
    cases hz : it.zero with
    | none => rw [hz] at h1; cases h1
    | some z =>
      rw [hz] at h1
      have h1 : z.cells.toList = _ := Option.some.inj h1
      have hzc : z.cells = z52 := by unfold z52; rw [← h1]
      clear h1
      split at h2
      · rename_i fields hu
        simp only [hu, h2, hz, hzc]
      · cases h2
theorem fill_put (place : Nat → Option (Nat × Nat)) (cells : Array Value) (i : Nat) (v : Value) (rest : List (Nat × Value)) (off size : Nat) (hp : place i = some (off, size)) (h1 : v.cells.size = size) (h2 : off + size ≤ cells.size) :
    Instr.fill place cells ((i, v) :: rest) = Instr.fill place (putPart off v.cells cells) rest := by
  rw [Instr.fill, hp]
  simp only []
  rw [if_neg (by simp [h1]; omega)]
  rfl
/-- a graph of no row -/
def g0 (n : Int) : Array Value := putPart 0 #[.int .i64 n] z52
theorem built_one (n : Int) : Tryd.prog.built 52 [(0, .int .i64 n)] = some (g0 n) := by
  rw [built52_eq, fill_put _ _ _ _ _ 0 1 rfl rfl (by rw [z52_size]; omega)]
  rfl
/-- a graph of a number and two arrays -/
def g3 (n : Int) (a b : Array Value) : Array Value := putPart 257 b (putPart 1 a (putPart 0 #[.int .i64 n] z52))
theorem built_three (n : Int) (a b : Array Value) (ha : a.size = 256) (hb : b.size = 256) : Tryd.prog.built 52 [(0, .int .i64 n), (1, .agg a), (2, .agg b)] = some (g3 n a b) := by
  rw [built52_eq, fill_put _ _ _ _ _ 0 1 rfl rfl (by rw [z52_size]; omega), fill_put _ _ 1 (.agg a) _ 1 256 rfl ha (by rw [putPart_size, z52_size]; omega), fill_put _ _ 2 (.agg b) _ 257 256 rfl hb (by rw [putPart_size, putPart_size, z52_size]; omega)]
  rfl
theorem g0_get (n : Int) (i : Nat) (hi : i < 513) : (g0 n)[i]? = some (if i = 0 then .int .i64 n else .int .u64 0) := by
  unfold g0
  rw [putPart_get _ _ _ _ (by rw [z52_size]; exact Nat.le_add_left _ _)]
  cases i with
  | zero => rfl
  | succ i =>
    rw [if_neg (fun h => by have h2 : i + 1 < 0 + 1 := h.2; omega), if_neg (by omega)]
    unfold z52
    rw [List.getElem?_toArray, List.getElem?_cons_succ, List.getElem?_replicate, if_pos (by omega)]
theorem g0_size (n : Int) : (g0 n).size = 513 := by unfold g0; rw [putPart_size, z52_size]
theorem g3_get (n : Int) (a b : Array Value) (ha : a.size = 256) (hb : b.size = 256) (i : Nat) : (g3 n a b)[i]? = if i = 0 then some (.int .i64 n) else if i < 257 then a[i - 1]? else if i < 513 then b[i - 257]? else none := by
  unfold g3
  rw [putPart_get _ _ _ _ (by rw [putPart_size, putPart_size, z52_size, hb]; omega), putPart_get _ _ _ _ (by rw [putPart_size, z52_size, ha]; omega), putPart_get _ _ _ _ (by rw [z52_size]; exact Nat.le_add_left _ _), ha, hb]
  by_cases h0 : i = 0
  · subst h0; rfl
  · rw [if_neg h0]
    by_cases h1 : i < 257
    · rw [if_neg (by omega), if_pos (by omega), if_pos h1]
    · rw [if_neg h1]
      by_cases h2 : i < 513
      · rw [if_pos (by omega), if_pos h2]
      · rw [if_neg (by omega), if_neg (by omega), if_neg (fun h => by have h2 : i < 0 + 1 := h.2; omega), if_neg h2]
        have := z52_size
        rw [Array.getElem?_eq_none (by omega)]
theorem g3_size (n : Int) (a b : Array Value) : (g3 n a b).size = 513 := by unfold g3; rw [putPart_size, putPart_size, putPart_size, z52_size]
theorem gb_new (w : World) (n : Nat) : GB (w.alloc (.cells (g0 n) 52)) w.heap.size n (fun _ _ => false) (fun _ _ => false) := by
  have := World.rowIs_alloc w (g0 n) 52 (gc n (fun _ _ => false) (fun _ _ => false)) fun i hi => by
    rw [g0_size] at hi
    rw [g0_get n i hi]
    unfold gc sc
    rw [wd_nil, wd_nil]
    by_cases h : i = 0
    · rw [if_pos h, if_pos h]
    · rw [if_neg h, if_neg h]; split <;> rfl
  rwa [g0_size] at this
theorem wpList_built {P : Program} {ops : Array Oper} {rest : List Oper} {o : Oper} {a : Act} {w : World} {Q : Exit → Act → World → Prop} (hg : o.guard = none) (t : TypeId) (parts : Array (Nat × Operand)) (ho : o.op = .build t parts)
    (ps : List (Nat × Value)) (hp : (parts.map fun (i, x) => (i, a.eval x)).toList = ps) (cells : Array Value) (hb : P.built t ps = some cells)
    (h : wpList P ops Q rest (a.put o.dst (.agg cells)) w) : wpList P ops Q (o :: rest) a w := by
  subst hp
  refine wpList_plain hg fun _ hK => ?_
  unfold Oper.wp execOp
  simp only [ho, Sem.run_bind, run_build w t _ _ hb, Result.andThen_ok]
  exact hK _ _ h
theorem build_g0 {ops : Array Oper} {rest : List Oper} {o : Oper} {a : Act} {w : World} {Q : Exit → Act → World → Prop} (hg : o.guard = none) (x : Operand) (ho : o.op = .build 52 #[(0, x)]) (n : Int) (hx : a.eval x = .int .i64 n)
    (h : wpList Tryd.prog ops Q rest (a.put o.dst (.agg (g0 n))) w) : wpList Tryd.prog ops Q (o :: rest) a w :=
  wpList_built hg 52 _ ho [(0, .int .i64 n)] (by simp [hx]) _ (built_one n) h
theorem build_g3 {ops : Array Oper} {rest : List Oper} {o : Oper} {a : Act} {w : World} {Q : Exit → Act → World → Prop} (hg : o.guard = none) (x y z : Operand) (ho : o.op = .build 52 #[(0, x), (1, y), (2, z)]) (n : Int) (A B : Array Value) (hx : a.eval x = .int .i64 n) (hy : a.eval y = .agg A) (hz : a.eval z = .agg B)
    (hA : A.size = 256) (hB : B.size = 256) (h : wpList Tryd.prog ops Q rest (a.put o.dst (.agg (g3 n A B))) w) : wpList Tryd.prog ops Q (o :: rest) a w :=
  wpList_built hg 52 _ ho [(0, .int .i64 n), (1, .agg A), (2, .agg B)] (by simp [hx, hy, hz]) _ (built_three n A B hA hB) h
end Go.Proofs.YtonnopcafmhaaaaDoor

/- Two fingerprints are told alike if they are one. -/
import Derived.Test.YtbdahkbgjbaenaaDoorY
import Derived.Laws.StructEq
namespace Go.Proofs.YtbdahkbgjbaenaaDoor
open Go.RowKit
theorem size5' (w : World) : (sizeOf 5).run Tryd.prog w = .ok 1 w := by
  cases hq : Tryd.prog.info? 5 with
  | none => have := size5; simp [hq] at this
  | some i => have := size5; simp [hq] at this; simp [sizeOf, typeInfo, hq, this]
theorem part5 (F : Nat → Int) (i : Nat) (hi : i < 32) (w : World) : (part 5 (mk .u8 32 F) i).run Tryd.prog w = .ok (.int .u8 (F i)) w := by
  have e := mk_get .u8 32 F i hi
  simp [part, isAgg, run_underlying Tryd.underlying5, e]
theorem forIn_yes {P : Program} {w : World} {β : Type} (r : β) (f : Nat → β → Sem (ForInStep β)) (l : List Nat) (h : ∀ i ∈ l, (f i r).run P w = .ok (.yield r) w) :
    (forIn l r f).run P w = .ok r w := by
  induction l with
  | nil => simp [Sem.run_pure]
  | cons a l ih =>
    simp only [List.forIn_cons, Sem.run_bind, h a (by simp), Result.andThen_ok]
    exact ih fun i hi => h i (by simp [hi])
theorem eq_step (d : Nat) (F : Nat → Int) (w : World) (h : ∀ a w, (Op.equalIn d 5 (.int .u8 a) (.int .u8 a)).run Tryd.prog w = .ok true w) : (Op.equalIn (d + 1) 27 (.agg (mk .u8 32 F)) (.agg (mk .u8 32 F))).run Tryd.prog w = .ok true w := by
  rw [Op.equalIn]
  simp only [Sem.run_bind, run_underlying Tryd.underlying27, Result.andThen_ok, size5']
  rw [Std.Legacy.Range.forIn_eq_forIn_range', forIn_yes]
  · rfl
  · intro i hi
    have hi' : i < 32 := by
      have := List.mem_range'.1 hi
      obtain ⟨j, hj, rfl⟩ := this
      have : j < 32 := hj
      show 0 + 1 * j < 32
      omega
    simp only [Sem.run_bind, Nat.mul_one, part5 F i hi', Result.andThen_ok, h]
    rfl
theorem eq_same (F : Nat → Int) (w : World) : (Op.equalIn 10000 27 (.agg (mk .u8 32 F)) (.agg (mk .u8 32 F))).run Tryd.prog w = .ok true w :=
  eq_step 9999 F w fun a w => by
    have := run_equalIn_int (P := Tryd.prog) w 9998 5 .u8 .u8 a a Tryd.underlying5
    simpa using this
theorem equal_same (F : Nat → Int) (w : World) : (Op.equal 27 (.agg (mk .u8 32 F)) (.agg (mk .u8 32 F))).run Tryd.prog w = .ok true w := by
  unfold Op.equal Op.maxDepth
  exact eq_same F w
theorem run_guard (op : BinOp) (x y : Operand) (a b : Array Value) (w : World) : (eqGuard op 27 x y (.agg a) (.agg b)).run Tryd.prog w = .ok () w := by
  unfold eqGuard
  cases op <;> simp [Sem.run_pure]
theorem run_eql_same (F : Nat → Int) (w : World) : (binOp .eql 27 (.agg (mk .u8 32 F)) (.agg (mk .u8 32 F))).run Tryd.prog w = .ok (.bool true) w := by
  simp only [binOp, Sem.run_bind, equal_same, Result.andThen_ok, Sem.run_pure]
theorem run_neq_same (F : Nat → Int) (w : World) : (binOp .neq 27 (.agg (mk .u8 32 F)) (.agg (mk .u8 32 F))).run Tryd.prog w = .ok (.bool false) w := by
  simp only [binOp, Sem.run_bind, equal_same, Result.andThen_ok, Sem.run_pure, Bool.not_true]
/-- one fingerprint compared with itself -/
theorem wpList_eql_same {ops : Array Oper} {rest : List Oper} {o : Oper} {a : Act} {w : World} {Q : Exit → Act → World → Prop} (hw : Region.wanted o (yielded ops a.tmps) = true) (x y : Operand) (ho : o.op = .binOp .eql 27 x y 27)
    (F : Nat → Int) (hx : a.eval x = .agg (mk .u8 32 F)) (hy : a.eval y = .agg (mk .u8 32 F)) (h : wpList Tryd.prog ops Q rest (a.put o.dst (.bool true)) w) : wpList Tryd.prog ops Q (o :: rest) a w := by
  refine BigFrame.wpList_want hw fun K hK => ?_
  unfold Oper.wp execOp
  simp only [ho, hx, hy, Sem.run_bind, run_guard, run_eql_same, Result.andThen_ok, Sem.run_pure]
  exact hK _ _ h
theorem wpList_neq_same {ops : Array Oper} {rest : List Oper} {o : Oper} {a : Act} {w : World} {Q : Exit → Act → World → Prop} (hw : Region.wanted o (yielded ops a.tmps) = true) (x y : Operand) (ho : o.op = .binOp .neq 27 x y 27)
    (F : Nat → Int) (hx : a.eval x = .agg (mk .u8 32 F)) (hy : a.eval y = .agg (mk .u8 32 F)) (h : wpList Tryd.prog ops Q rest (a.put o.dst (.bool false)) w) : wpList Tryd.prog ops Q (o :: rest) a w := by
  refine BigFrame.wpList_want hw fun K hK => ?_
  unfold Oper.wp execOp
  simp only [ho, hx, hy, Sem.run_bind, run_guard, run_neq_same, Result.andThen_ok, Sem.run_pure]
  exact hK _ _ h
end Go.Proofs.YtbdahkbgjbaenaaDoor

/- Addresses and objects compared. -/
import Derived.Test.YtakoghdkllfhlaaDoorG
namespace Go.Proofs.YtakoghdkllfhlaaDoor
open Go.RowKit

theorem Obt.ext' {a b : Obt} (h1 : a.a = b.a) (h2 : a.N = b.N) : a = b := by cases a; cases b; simp_all
set_option maxHeartbeats 2000000 in
theorem equal_23 (A B : Adr) (b : Bool) (hb : b = true ↔ A = B) (w : World) : (Op.equalIn 10000 23 (av A) (av B)).run Tryd.prog w = .ok b w := by
  by_cases h0 : A.t = B.t
  case neg =>
    have h : b = false := by
      cases b with
      | false => rfl
      | true => exact absurd (by rw [hb.1 rfl]) h0
    subst h
    clear hb
    have e0 : (A.t.toList == B.t.toList) = false := str_ne h0
    clear h0
    go_simp
  by_cases h1 : A.n = B.n
  case neg =>
    have h : b = false := by
      cases b with
      | false => rfl
      | true => exact absurd (by rw [hb.1 rfl]) h1
    subst h
    clear hb
    have e0 : (A.t.toList == B.t.toList) = true := str_eq h0
    have e1 : (A.n.toList == B.n.toList) = false := str_ne h1
    clear h0 h1
    go_simp
  by_cases h2 : A.kd = B.kd
  case neg =>
    have h : b = false := by
      cases b with
      | false => rfl
      | true => exact absurd (by rw [hb.1 rfl]) h2
    subst h
    clear hb
    have e0 : (A.t.toList == B.t.toList) = true := str_eq h0
    have e1 : (A.n.toList == B.n.toList) = true := str_eq h1
    have e2 : (A.kd == B.kd) = false := beq_eq_false_iff_ne.2 h2
    clear h0 h1 h2
    go_simp
  by_cases h3 : A.i = B.i
  case neg =>
    have h : b = false := by
      cases b with
      | false => rfl
      | true => exact absurd (by rw [hb.1 rfl]) h3
    subst h
    clear hb
    have e0 : (A.t.toList == B.t.toList) = true := str_eq h0
    have e1 : (A.n.toList == B.n.toList) = true := str_eq h1
    have e2 : (A.kd == B.kd) = true := by simp [h2]
    have e3 : (A.i == B.i) = false := beq_eq_false_iff_ne.2 h3
    clear h0 h1 h2 h3
    go_simp
  by_cases h4 : A.k = B.k
  case neg =>
    have h : b = false := by
      cases b with
      | false => rfl
      | true => exact absurd (by rw [hb.1 rfl]) h4
    subst h
    clear hb
    have e0 : (A.t.toList == B.t.toList) = true := str_eq h0
    have e1 : (A.n.toList == B.n.toList) = true := str_eq h1
    have e2 : (A.kd == B.kd) = true := by simp [h2]
    have e3 : (A.i == B.i) = true := by simp [h3]
    have e4 : (A.k.toList == B.k.toList) = false := str_ne h4
    clear h0 h1 h2 h3 h4
    go_simp
  case pos =>
    have h : b = true := hb.2 (Adr.ext' h0 h1 h2 h3 h4)
    subst h
    clear hb
    have e0 : (A.t.toList == B.t.toList) = true := str_eq h0
    have e1 : (A.n.toList == B.n.toList) = true := str_eq h1
    have e2 : (A.kd == B.kd) = true := by simp [h2]
    have e3 : (A.i == B.i) = true := by simp [h3]
    have e4 : (A.k.toList == B.k.toList) = true := str_eq h4
    clear h0 h1 h2 h3 h4
    go_simp
theorem exec_eql23 {a : Act} {o : Oper} {x y : Operand} {A B : Adr} {W : World} (ho : o.op = .binOp .eql 23 x y 23) (hx : a.eval x = av A) (hy : a.eval y = av B) (b : Bool) (hb : b = true ↔ A = B) :
    (execOp a.eval o).run Tryd.prog W = .ok (.value (.bool (b))) W := by
  have E := equal_23 A B b hb W
  unfold execOp
  simp only [ho, hx, hy, Sem.run_bind, Sem.run_pure]
  rw [run_eqGuard_agg _ _ _ _ _ _ _ (by kernel_rfl)]
  simp only [Result.andThen_ok]
  rw [run_eql_struct, E]; rfl
theorem wpList_eql23 {ops : Array Oper} {rest : List Oper} {o : Oper} {a : Act} {w : World} {Q : Exit → Act → World → Prop} (hw : Region.wanted o (yielded ops a.tmps) = true) (x y : Operand) (ho : o.op = .binOp .eql 23 x y 23)
    (A B : Adr) (b : Bool) (hb : b = true ↔ A = B) (hx : a.eval x = av A) (hy : a.eval y = av B) (h : wpList Tryd.prog ops Q rest (a.put o.dst (.bool (b))) w) : wpList Tryd.prog ops Q (o :: rest) a w := by
  refine BigFrame.wpList_want hw fun K hK => ?_
  unfold Oper.wp
  rw [exec_eql23 ho hx hy b hb]
  exact hK _ _ h
theorem exec_neq23 {a : Act} {o : Oper} {x y : Operand} {A B : Adr} {W : World} (ho : o.op = .binOp .neq 23 x y 23) (hx : a.eval x = av A) (hy : a.eval y = av B) (b : Bool) (hb : b = true ↔ A = B) :
    (execOp a.eval o).run Tryd.prog W = .ok (.value (.bool (!b))) W := by
  have E := equal_23 A B b hb W
  unfold execOp
  simp only [ho, hx, hy, Sem.run_bind, Sem.run_pure]
  rw [run_eqGuard_agg _ _ _ _ _ _ _ (by kernel_rfl)]
  simp only [Result.andThen_ok]
  rw [run_neq_struct, E]; rfl
theorem wpList_neq23 {ops : Array Oper} {rest : List Oper} {o : Oper} {a : Act} {w : World} {Q : Exit → Act → World → Prop} (hw : Region.wanted o (yielded ops a.tmps) = true) (x y : Operand) (ho : o.op = .binOp .neq 23 x y 23)
    (A B : Adr) (b : Bool) (hb : b = true ↔ A = B) (hx : a.eval x = av A) (hy : a.eval y = av B) (h : wpList Tryd.prog ops Q rest (a.put o.dst (.bool (!b))) w) : wpList Tryd.prog ops Q (o :: rest) a w := by
  refine BigFrame.wpList_want hw fun K hK => ?_
  unfold Oper.wp
  rw [exec_neq23 ho hx hy b hb]
  exact hK _ _ h
set_option maxHeartbeats 2000000 in
theorem equal_26 (A B : Obt) (b : Bool) (hb : b = true ↔ A = B) (w : World) : (Op.equalIn 10000 26 (kv A) (kv B)).run Tryd.prog w = .ok b w := by
  by_cases h0 : A.a.t = B.a.t
  case neg =>
    have h : b = false := by
      cases b with
      | false => rfl
      | true => exact absurd (by rw [hb.1 rfl]) h0
    subst h
    clear hb
    have e0 : (A.a.t.toList == B.a.t.toList) = false := str_ne h0
    clear h0
    go_simp
  by_cases h1 : A.a.n = B.a.n
  case neg =>
    have h : b = false := by
      cases b with
      | false => rfl
      | true => exact absurd (by rw [hb.1 rfl]) h1
    subst h
    clear hb
    have e0 : (A.a.t.toList == B.a.t.toList) = true := str_eq h0
    have e1 : (A.a.n.toList == B.a.n.toList) = false := str_ne h1
    clear h0 h1
    go_simp
  by_cases h2 : A.a.kd = B.a.kd
  case neg =>
    have h : b = false := by
      cases b with
      | false => rfl
      | true => exact absurd (by rw [hb.1 rfl]) h2
    subst h
    clear hb
    have e0 : (A.a.t.toList == B.a.t.toList) = true := str_eq h0
    have e1 : (A.a.n.toList == B.a.n.toList) = true := str_eq h1
    have e2 : (A.a.kd == B.a.kd) = false := beq_eq_false_iff_ne.2 h2
    clear h0 h1 h2
    go_simp
  by_cases h3 : A.a.i = B.a.i
  case neg =>
    have h : b = false := by
      cases b with
      | false => rfl
      | true => exact absurd (by rw [hb.1 rfl]) h3
    subst h
    clear hb
    have e0 : (A.a.t.toList == B.a.t.toList) = true := str_eq h0
    have e1 : (A.a.n.toList == B.a.n.toList) = true := str_eq h1
    have e2 : (A.a.kd == B.a.kd) = true := by simp [h2]
    have e3 : (A.a.i == B.a.i) = false := beq_eq_false_iff_ne.2 h3
    clear h0 h1 h2 h3
    go_simp
  by_cases h4 : A.a.k = B.a.k
  case neg =>
    have h : b = false := by
      cases b with
      | false => rfl
      | true => exact absurd (by rw [hb.1 rfl]) h4
    subst h
    clear hb
    have e0 : (A.a.t.toList == B.a.t.toList) = true := str_eq h0
    have e1 : (A.a.n.toList == B.a.n.toList) = true := str_eq h1
    have e2 : (A.a.kd == B.a.kd) = true := by simp [h2]
    have e3 : (A.a.i == B.a.i) = true := by simp [h3]
    have e4 : (A.a.k.toList == B.a.k.toList) = false := str_ne h4
    clear h0 h1 h2 h3 h4
    go_simp
  by_cases h5 : A.N = B.N
  case neg =>
    have h : b = false := by
      cases b with
      | false => rfl
      | true => exact absurd (by rw [hb.1 rfl]) h5
    subst h
    clear hb
    have e0 : (A.a.t.toList == B.a.t.toList) = true := str_eq h0
    have e1 : (A.a.n.toList == B.a.n.toList) = true := str_eq h1
    have e2 : (A.a.kd == B.a.kd) = true := by simp [h2]
    have e3 : (A.a.i == B.a.i) = true := by simp [h3]
    have e4 : (A.a.k.toList == B.a.k.toList) = true := str_eq h4
    have e5 : (A.N == B.N) = false := beq_eq_false_iff_ne.2 h5
    clear h0 h1 h2 h3 h4 h5
    go_simp
  case pos =>
    have h : b = true := hb.2 (Obt.ext' (Adr.ext' h0 h1 h2 h3 h4) h5)
    subst h
    clear hb
    have e0 : (A.a.t.toList == B.a.t.toList) = true := str_eq h0
    have e1 : (A.a.n.toList == B.a.n.toList) = true := str_eq h1
    have e2 : (A.a.kd == B.a.kd) = true := by simp [h2]
    have e3 : (A.a.i == B.a.i) = true := by simp [h3]
    have e4 : (A.a.k.toList == B.a.k.toList) = true := str_eq h4
    have e5 : (A.N == B.N) = true := by simp [h5]
    clear h0 h1 h2 h3 h4 h5
    go_simp
theorem exec_eql26 {a : Act} {o : Oper} {x y : Operand} {A B : Obt} {W : World} (ho : o.op = .binOp .eql 26 x y 26) (hx : a.eval x = kv A) (hy : a.eval y = kv B) (b : Bool) (hb : b = true ↔ A = B) :
    (execOp a.eval o).run Tryd.prog W = .ok (.value (.bool (b))) W := by
  have E := equal_26 A B b hb W
  unfold execOp
  simp only [ho, hx, hy, Sem.run_bind, Sem.run_pure]
  rw [run_eqGuard_agg _ _ _ _ _ _ _ (by kernel_rfl)]
  simp only [Result.andThen_ok]
  rw [run_eql_struct, E]; rfl
theorem wpList_eql26 {ops : Array Oper} {rest : List Oper} {o : Oper} {a : Act} {w : World} {Q : Exit → Act → World → Prop} (hw : Region.wanted o (yielded ops a.tmps) = true) (x y : Operand) (ho : o.op = .binOp .eql 26 x y 26)
    (A B : Obt) (b : Bool) (hb : b = true ↔ A = B) (hx : a.eval x = kv A) (hy : a.eval y = kv B) (h : wpList Tryd.prog ops Q rest (a.put o.dst (.bool (b))) w) : wpList Tryd.prog ops Q (o :: rest) a w := by
  refine BigFrame.wpList_want hw fun K hK => ?_
  unfold Oper.wp
  rw [exec_eql26 ho hx hy b hb]
  exact hK _ _ h
theorem exec_neq26 {a : Act} {o : Oper} {x y : Operand} {A B : Obt} {W : World} (ho : o.op = .binOp .neq 26 x y 26) (hx : a.eval x = kv A) (hy : a.eval y = kv B) (b : Bool) (hb : b = true ↔ A = B) :
    (execOp a.eval o).run Tryd.prog W = .ok (.value (.bool (!b))) W := by
  have E := equal_26 A B b hb W
  unfold execOp
  simp only [ho, hx, hy, Sem.run_bind, Sem.run_pure]
  rw [run_eqGuard_agg _ _ _ _ _ _ _ (by kernel_rfl)]
  simp only [Result.andThen_ok]
  rw [run_neq_struct, E]; rfl
theorem wpList_neq26 {ops : Array Oper} {rest : List Oper} {o : Oper} {a : Act} {w : World} {Q : Exit → Act → World → Prop} (hw : Region.wanted o (yielded ops a.tmps) = true) (x y : Operand) (ho : o.op = .binOp .neq 26 x y 26)
    (A B : Obt) (b : Bool) (hb : b = true ↔ A = B) (hx : a.eval x = kv A) (hy : a.eval y = kv B) (h : wpList Tryd.prog ops Q rest (a.put o.dst (.bool (!b))) w) : wpList Tryd.prog ops Q (o :: rest) a w := by
  refine BigFrame.wpList_want hw fun K hK => ?_
  unfold Oper.wp
  rw [exec_neq26 ho hx hy b hb]
  exact hK _ _ h
end Go.Proofs.YtakoghdkllfhlaaDoor

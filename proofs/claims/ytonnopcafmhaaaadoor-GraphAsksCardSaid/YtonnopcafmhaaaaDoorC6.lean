/- Contracts: great; sets compared. -/
import Derived.Test.YtonnopcafmhaaaaDoorC5
namespace Go.Proofs.YtonnopcafmhaaaaDoor
open Go.RowKit

/-- more than is looked at -/
def greatB (n : Int) (m : Nat) (M : Nat → List Int) : Bool := (List.range m).any (fun i => decide (40 < (M i).length)) || (decide (200 < n) || decide (200 < m))
theorem great_no {n : Int} {m : Nat} {M : Nat → List Int} (h : greatB n m M = false) : (∀ i, i < m → (M i).length ≤ 40) ∧ n ≤ 200 ∧ m ≤ 200 := by
  unfold greatB at h
  simp only [Bool.or_eq_false_iff, List.any_eq_false, List.mem_range, decide_eq_true_eq, decide_eq_false_iff_not] at h
  exact ⟨fun i hi => by have := h.1 i hi; omega, by omega, by omega⟩
set_option maxHeartbeats 1000000 in
theorem great_any (n : Int) (pp : Option Addr) (m cap : Nat) (S : Nat → Option Addr) (M : Nat → List Int) (C : Nat → Nat) (w : World) (h : Pt w pp m S M C) (hm : m ≤ maxLen) :
    Calls Tryd.prog 8 #[.int .i64 n, .slice pp m cap] w fun e w' => e = .returned (.bool (greatB n m M)) ∧ w = w' := by
  have HP := Lib.hid h
  clear h
  unfold maxLen at hm
  go_enter Tryd.func8, Tryd.ntmps8
  go_wp2
  go_loopw [5] (fun c wr => ∃ i : Nat, i ≤ m ∧ c = .int .i64 i ∧ Hid (∀ j, j < i → (M j).length ≤ 40) ∧ w = wr) (fun c _ => m - (intOf c).toNat)
  case atStart => exact ⟨0, by omega, rfl, fun j h => absurd h (Nat.not_lt_zero _), rfl⟩
  case round =>
    obtain ⟨i, hi, rfl, HL, rfl⟩ := hrel
    by_cases hlt : i < m
    · obtain ⟨b1, o1, rfl, g1, c1⟩ := HP.out.at_ i hlt
      have i0 : (0 : Int) ≤ i := by omega
      have im : (i : Int) < m := by omega
      have hcp := HP.out.cp i hlt
      unfold maxLen at hcp
      by_cases hq : 40 < (M i).length
      · have E : Hid (greatB n m M = true) := by
          unfold Hid greatB
          rw [Bool.or_eq_true, List.any_eq_true]
          exact .inl ⟨i, List.mem_range.2 hlt, decide_eq_true hq⟩
        generalize (M i).length = l at *
        clear HL hcp
        go_wp2
        go_ret
        exact ⟨by rw [E.out]; rfl, rfl⟩
      · have HL2 : Hid (∀ j, j < i + 1 → (M j).length ≤ 40) := fun j hj => by
          by_cases e : j = i
          · subst e; omega
          · exact HL.out j (by omega)
        generalize (M i).length = l at *
        clear HL hcp
        go_wp2
        go_roundw
        case rel => exact ⟨i + 1, by omega, by go_num, HL2.out, trivial⟩
        case measure => simp [intOf]; omega
    · have him : i = m := by omega
      subst him
      have E : Hid (greatB n i M = (decide (200 < n) || decide (200 < i))) := by
        unfold Hid greatB
        have : (List.range i).any (fun i => decide (40 < (M i).length)) = false := by
          rw [List.any_eq_false]
          intro k hk
          have := HL.out k (List.mem_range.1 hk)
          simp; omega
        rw [this, Bool.false_or]
      clear HL
      by_cases h1 : 200 < n
      · rw [decide_eq_true h1] at E
        go_wp2
        go_ret
        exact ⟨by rw [E.out]; rfl, rfl⟩
      · rw [decide_eq_false h1] at E
        have h1d : decide (200 < n) = false := decide_eq_false h1
        by_cases h2 : 200 < i
        · rw [decide_eq_true h2] at E
          have h2d : decide ((200 : Int) < (i : Int)) = true := decide_eq_true (by omega)
          go_wp2
          go_ret
          exact ⟨by rw [E.out]; rfl, rfl⟩
        · rw [decide_eq_false h2] at E
          have h2d : decide ((200 : Int) < (i : Int)) = false := decide_eq_false (by omega)
          go_wp2
          go_ret
          exact ⟨by rw [E.out]; rfl, rfl⟩
theorem size47c : (Tryd.prog.info? 47).map (·.size) = some 1 := by kernel_rfl
theorem size47 (w : World) : (sizeOf 47).run Tryd.prog w = .ok 1 w := by
  have := size47c
  cases hq : Tryd.prog.info? 47 with
  | none => simp [hq] at this
  | some i => simp [hq] at this; simp [sizeOf, typeInfo, hq, this]
theorem part47 (cs : Array Value) (i : Nat) (x : Int) (h : cs[i]? = some (.int .u64 x)) (w : World) : (part 47 cs i).run Tryd.prog w = .ok (.int .u64 x) w := by
  simp [part, isAgg, run_underlying Tryd.underlying47, h]
theorem eq_int (d : Nat) (a b : Int) (w : World) : (Op.equalIn (d + 1) 47 (.int .u64 a) (.int .u64 b)).run Tryd.prog w = .ok (a == b) w :=
  run_equalIn_int (P := Tryd.prog) w d 47 .u64 .u64 a b Tryd.underlying47
theorem eq49 (x y : Int) (w : World) : (Op.equalIn 10000 49 (.agg #[.int .u64 x, .int .u64 y]) (.agg #[.int .u64 0, .int .u64 0])).run Tryd.prog w = .ok (decide (x = 0) && decide (y = 0)) w := by
  rw [show 10000 = 9998 + 1 + 1 from rfl, Op.equalIn]
  simp only [Sem.run_bind, run_underlying Tryd.underlying49, Result.andThen_ok, size47]
  rw [Std.Legacy.Range.forIn_eq_forIn_range']
  have h1 := fun w => part47 #[.int .u64 x, .int .u64 y] 0 x rfl w
  have h2 := fun w => part47 #[.int .u64 x, .int .u64 y] 1 y rfl w
  have h3 := fun w => part47 #[.int .u64 0, .int .u64 0] 0 0 rfl w
  have h4 := fun w => part47 #[.int .u64 0, .int .u64 0] 1 0 rfl w
  have h5 := fun a b w => eq_int 9998 a b w
  rw [show List.range' [:2].start [:2].size [:2].step = [0, 1] from rfl]
  by_cases hx : x = 0
  · have e1 : (x == 0) = true := by simpa using hx
    by_cases hy : y = 0
    · have e2 : (y == 0) = true := by simpa using hy
      simp only [List.forIn_cons, List.forIn_nil, Sem.run_bind, Nat.mul_one, h1, h2, h3, h4, h5, Result.andThen_ok, e1, e2, Bool.not_true, Bool.false_eq_true, if_false, Sem.run_pure, decide_eq_true hx, decide_eq_true hy]
      rfl
    · have e2 : (y == 0) = false := by simpa using hy
      simp only [List.forIn_cons, List.forIn_nil, Sem.run_bind, Nat.mul_one, h1, h2, h3, h4, h5, Result.andThen_ok, e1, e2, Bool.not_true, Bool.false_eq_true, if_false, Bool.not_false, if_true, Sem.run_pure, decide_eq_true hx, decide_eq_false hy]
      rfl
  · have e1 : (x == 0) = false := by simpa using hx
    simp only [List.forIn_cons, List.forIn_nil, Sem.run_bind, Nat.mul_one, h1, h3, h5, Result.andThen_ok, e1, Bool.not_false, if_true, Sem.run_pure, decide_eq_false hx]
    rfl
theorem equal49 (x y : Int) (w : World) : (Op.equal 49 (.agg #[.int .u64 x, .int .u64 y]) (.agg #[.int .u64 0, .int .u64 0])).run Tryd.prog w = .ok (decide (x = 0) && decide (y = 0)) w := by
  unfold Op.equal Op.maxDepth
  exact eq49 x y w
theorem run_eql49 (x y : Int) (w : World) : (binOp .eql 49 (.agg #[.int .u64 x, .int .u64 y]) (.agg #[.int .u64 0, .int .u64 0])).run Tryd.prog w = .ok (.bool (decide (x = 0) && decide (y = 0))) w := by
  simp only [binOp, Sem.run_bind, equal49, Result.andThen_ok, Sem.run_pure]
theorem run_neq49 (x y : Int) (w : World) : (binOp .neq 49 (.agg #[.int .u64 x, .int .u64 y]) (.agg #[.int .u64 0, .int .u64 0])).run Tryd.prog w = .ok (.bool (!(decide (x = 0) && decide (y = 0)))) w := by
  simp only [binOp, Sem.run_bind, equal49, Result.andThen_ok, Sem.run_pure]
theorem run_guard49 (op : BinOp) (x y : Operand) (a b : Array Value) (w : World) : (eqGuard op 49 x y (.agg a) (.agg b)).run Tryd.prog w = .ok () w := by
  unfold eqGuard
  cases op <;> simp [Sem.run_pure]
theorem wpList_neq49 {ops : Array Oper} {rest : List Oper} {o : Oper} {a : Act} {w : World} {Q : Exit → Act → World → Prop} (hw : Region.wanted o (yielded ops a.tmps) = true) (s t : Operand) (ho : o.op = .binOp .neq 49 s t 49)
    (x y : Int) (hx : a.eval s = .agg #[.int .u64 x, .int .u64 y]) (hy : a.eval t = .agg #[.int .u64 0, .int .u64 0]) (h : wpList Tryd.prog ops Q rest (a.put o.dst (.bool (!(decide (x = 0) && decide (y = 0))))) w) : wpList Tryd.prog ops Q (o :: rest) a w := by
  refine BigFrame.wpList_want hw fun K hK => ?_
  unfold Oper.wp execOp
  simp only [ho, hx, hy, Sem.run_bind, run_guard49, run_neq49, Result.andThen_ok, Sem.run_pure]
  exact hK _ _ h
theorem exec_eql49 (a : Act) (s t : Operand) (x y : Int) (hx : a.eval s = .agg #[.int .u64 x, .int .u64 y]) (hy : a.eval t = .agg #[.int .u64 0, .int .u64 0]) (w : World) :
    (eqGuard .eql 49 s t (a.eval s) (a.eval t)).run Tryd.prog w = .ok () w ∧ (binOp .eql 49 (a.eval s) (a.eval t)).run Tryd.prog w = .ok (.bool (decide (x = 0) && decide (y = 0))) w := by
  rw [hx, hy]
  exact ⟨run_guard49 _ _ _ _ _ _, run_eql49 x y w⟩
theorem eql_all (a : Act) (s t : Operand) (x y : Int) (hx : a.eval s = .agg #[.int .u64 x, .int .u64 y]) (hy : a.eval t = .agg #[.int .u64 0, .int .u64 0]) (W : World) :
    ((((eqGuard .eql 49 s t (a.eval s) (a.eval t)).run Tryd.prog W).andThen fun _ w' => (binOp .eql 49 (a.eval s) (a.eval t)).run Tryd.prog w').andThen fun v w' => .ok (Next.value v) w') = .ok (Next.value (.bool (decide (x = 0) && decide (y = 0)))) W := by
  rw [(exec_eql49 a s t x y hx hy W).1, Result.andThen_ok, (exec_eql49 a s t x y hx hy W).2, Result.andThen_ok]
/-- a set has nothing -/
theorem set_zero (S : Nat → Bool) : (decide ((wd S 0 : Int) = 0) && decide ((wd S 1 : Int) = 0)) = (List.range 128).all (fun i => !S i) := by
  have h : (List.range 128).all (fun i => !S i) = true ↔ ((wd S 0 : Int) = 0 ∧ (wd S 1 : Int) = 0) := by
    rw [List.all_eq_true]
    constructor
    · intro h
      refine ⟨?_, ?_⟩
      · have := wd_zero' (S := S) (k := 0) fun j hj => by simpa using h (64 * 0 + j) (List.mem_range.2 (by omega))
        omega
      · have := wd_zero' (S := S) (k := 1) fun j hj => by simpa using h (64 * 1 + j) (List.mem_range.2 (by omega))
        omega
    · rintro ⟨h0, h1⟩ i hi
      have hi := List.mem_range.1 hi
      have : S i = false := by
        by_cases h : i < 64
        · have := wd_zero (S := S) (k := 0) (by omega) i h
          simpa using this
        · have := wd_zero (S := S) (k := 1) (by omega) (i - 64) (by omega)
          rwa [show 64 * 1 + (i - 64) = i by omega] at this
      rw [this]; rfl
  by_cases hq : (wd S 0 : Int) = 0 ∧ (wd S 1 : Int) = 0
  · rw [h.2 hq, decide_eq_true hq.1, decide_eq_true hq.2]; rfl
  · have h2 : (List.range 128).all (fun i => !S i) = false := by
      cases hb : (List.range 128).all (fun i => !S i) with
      | false => rfl
      | true => exact absurd (h.1 hb) hq
    rw [h2, Bool.and_eq_false_iff]
    by_cases h0 : (wd S 0 : Int) = 0
    · exact .inr (decide_eq_false fun e => hq ⟨h0, e⟩)
    · exact .inl (decide_eq_false h0)
end Go.Proofs.YtonnopcafmhaaaaDoor

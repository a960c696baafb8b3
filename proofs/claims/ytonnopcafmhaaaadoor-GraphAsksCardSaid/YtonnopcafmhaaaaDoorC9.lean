/- Contracts: Turned. -/
import Derived.Test.YtonnopcafmhaaaaDoorC8
namespace Go.Proofs.YtonnopcafmhaaaaDoor
open Go.RowKit

section
variable {P : Program}
/-- a whole array (or struct) out of the middle of a block -/
theorem run_loadVar_at (w : World) (g o : Nat) (ty t : TypeId) (cs : Array Value) (d : TypeDesc) (part : Array Value) (hg : w.heap[g]? = some (.cells cs t (0, 0)))
    (hp : ∀ j, j < part.size → cs[o + j]? = part[j]?)
    (hu : P.underlying ty = some d) (hd : (match d with | .struct _ | .array _ _ => true | _ => false) = true) (hi : (P.info? ty).map (·.size) = some part.size) :
    (loadVar ty ⟨g, o, none⟩).run P w = .ok (.agg part) w := by
  have hl : (loadCells ⟨g, o, none⟩ part.toList.length).run P w = .ok part.toList.toArray w :=
    run_loadCells_list (P := P) w ⟨g, o, none⟩ part.toList (fun j v hv => by
      have hadd : (⟨g, o, none⟩ : Addr).add j = ⟨g, o + j, none⟩ := by unfold Addr.add; split <;> simp_all
      have hlt : j < part.size := by
        have := List.getElem?_eq_some_iff.1 hv
        obtain ⟨h, _⟩ := this
        simpa using h
      rw [hadd, cell_of_row w g (o + j) cs t (0, 0) hg, hp j hlt]
      simpa using hv)
  cases hq : P.info? ty with
  | none => simp [hq] at hi
  | some i =>
    have hs : i.size = part.size := by simpa [hq] using hi
    have hagg : (isAgg ty).run P w = .ok true w := by
      unfold isAgg
      rw [Sem.run_bind, run_underlying hu w]
      cases d <;> simp_all
    simp only [Array.length_toList, Array.toArray_toList] at hl
    simp [loadVar, Sem.run_bind, hagg, sizeOf, typeInfo, hq, hs, hl]
theorem run_loadAt_at (w : World) (g o : Nat) (ty t : TypeId) (cs : Array Value) (d : TypeDesc) (part : Array Value) (hg : w.heap[g]? = some (.cells cs t (0, 0)))
    (hp : ∀ j, j < part.size → cs[o + j]? = part[j]?)
    (hu : P.underlying ty = some d) (hd : (match d with | .struct _ | .array _ _ => true | _ => false) = true) (hi : (P.info? ty).map (·.size) = some part.size) :
    (Instr.loadAt ty (.pointer (some ⟨g, o, none⟩))).run P w = .ok (.agg part) w := by
  simp only [Instr.loadAt, Instr.sureAddr, Sem.run_bind, Sem.run_pure, Result.andThen]
  exact run_loadVar_at w g o ty t cs d part hg hp hu hd hi
end
/-- 256 words of a graph, from the o-th cell on -/
noncomputable def half256 (n : Nat) (A B : Nat → Nat → Bool) (o : Nat) : Array Value := Array.ofFn fun j : Fin 256 => gc n A B (o + j)
theorem half_size (n : Nat) (A B : Nat → Nat → Bool) (o : Nat) : (half256 n A B o).size = 256 := by unfold half256; exact Array.size_ofFn
theorem half_get (n : Nat) (A B : Nat → Nat → Bool) (o j : Nat) (hj : j < 256) : (half256 n A B o)[j]? = some (gc n A B (o + j)) := by
  unfold half256
  rw [Array.getElem?_ofFn, dif_pos hj]
theorem load_half {w : World} {g n : Nat} {A B : Nat → Nat → Bool} (h : GB w g n A B) (o : Nat) (ho : o + 256 ≤ 513) : (Instr.loadAt 50 (.pointer (some ⟨g, o, none⟩))).run Tryd.prog w = .ok (.agg (half256 n A B o)) w := by
  obtain ⟨c, hb, hn, hc⟩ := h
  refine run_loadAt_at (P := Tryd.prog) w g o 50 52 c _ (half256 n A B o) hb (fun j hj => ?_) Tryd.underlying50 rfl ?_
  · rw [half_size] at hj
    rw [half_get _ _ _ _ _ hj, hc (o + j) (by omega)]
  · rw [half_size]; kernel_rfl
theorem exec_half {w : World} {g n : Nat} {A B : Nat → Nat → Bool} (h : GB w g n A B) (ev : Operand → Value) (op : Oper) (x : Operand) (hop : op.op = .load 50 x) (o : Nat) (hx : ev x = .pointer (some ⟨g, o, none⟩)) (ho : o + 256 ≤ 513) :
    (execOp ev op).run Tryd.prog w = .ok (.value (.agg (half256 n A B o))) w := by
  unfold execOp
  simp only [hop, hx, Sem.run_bind, load_half h o ho, Result.andThen_ok, Sem.run_pure]
theorem gb_turn (w : World) (n : Nat) (A B : Nat → Nat → Bool) : GB (w.alloc (.cells (g3 n (half256 n A B 257) (half256 n A B 1)) 52)) w.heap.size n B A := by
  have := World.rowIs_alloc w (g3 n (half256 n A B 257) (half256 n A B 1)) 52 (gc n B A) fun i hi => by
    rw [g3_size] at hi
    rw [g3_get _ _ _ (half_size _ _ _ _) (half_size _ _ _ _)]
    by_cases h0 : i = 0
    · rw [if_pos h0, h0]; rfl
    · rw [if_neg h0]
      by_cases h1 : i < 257
      · rw [if_pos h1, half_get _ _ _ _ _ (by omega)]
        unfold gc
        rw [if_neg (by omega), if_neg (by omega), if_neg h0, if_pos h1, show (257 + (i - 1) - 257) = i - 1 by omega]
      · rw [if_neg h1, if_pos hi, half_get _ _ _ _ _ (by omega)]
        unfold gc
        rw [if_neg (by omega), if_pos (by omega), if_neg h0, if_neg h1, show (1 + (i - 257) - 1) = i - 257 by omega]
  rwa [g3_size] at this
theorem turned_nil (w : World) : Calls Tryd.prog 23 #[.pointer none] w fun e w' => e = .returned (.pointer none) ∧ w = w' := by
  go_enter Tryd.func23, Tryd.ntmps23
  go_wp2
  go_ret
  exact ⟨rfl, rfl⟩
theorem exec_g3 {a : Act} (x y z : Operand) (n : Int) (A B : Array Value) (hx : a.eval x = .int .i64 n) (hy : a.eval y = .agg A) (hz : a.eval z = .agg B) (hA : A.size = 256) (hB : B.size = 256) (w : World) :
    (Instr.build 52 (#[(0, x), (1, y), (2, z)].map fun (i, x) => (i, a.eval x))).run Tryd.prog w = .ok (.agg (g3 n A B)) w := by
  have e : (#[(0, x), (1, y), (2, z)].map fun (i, x) => (i, a.eval x)) = #[(0, .int .i64 n), (1, .agg A), (2, .agg B)] := by simp [hx, hy, hz]
  rw [e]
  exact run_build (P := Tryd.prog) w 52 _ _ (built_three n A B hA hB)
set_option maxHeartbeats 4000000 in
theorem turned_any {w : World} {g n : Nat} {A : Nat → Nat → Bool} (h : GR w g n A) :
    Calls Tryd.prog 23 #[.pointer (some ⟨g, 0, none⟩)] w fun e w' => e = .returned (.pointer (some ⟨w.heap.size, 0, none⟩)) ∧ GR w' w.heap.size n (turnA A) ∧ Below w.heap.size w w' := by
  have HG := Lib.hid h
  have hb := h.blk
  clear h
  go_enter Tryd.func23, Tryd.ntmps23
  go_wp2
  go_upto_region 3 with fail
  refine wp_region_noPanic ?_
  refine wp_region_held_drew (S := (fun W => GB W g n A (turnA A))) (by kernel_rfl) ?_ (fun hH => ?_)
  · exact hb
  refine wpAnyH_take (i := 0) (oi := { dst := some 5, op := Op.move (Operand.tmp 0), type := 26, pos := "graph.go:60", after := #[], guard := none }) (v := ?_) rfl (by kernel_rfl) (by kernel_rfl) (by kernel_rfl) (fun _ _ _ h => h) (Or.inl ⟨by rfl, ?_⟩) (by assumption) ?_
  rotate_left
  · (intro w hSw; (try dsimp only at hSw); go_simp; try with_reducible rfl)
  try simp only [Act.put, List.setIfInBounds_toArray, List.set_cons_zero, List.set_cons_succ]
  refine wpAnyH_take (i := 1) (oi := { dst := some 6, op := Op.nilCheck (Operand.tmp 5), type := 0, pos := "graph.go:60", after := #[{ on := 0, ground := Ground.data }], guard := none }) (v := ?_) rfl (by kernel_rfl) (by kernel_rfl) (by kernel_rfl) (fun _ _ _ h => h) (Or.inl ⟨by rfl, ?_⟩) (by assumption) ?_
  rotate_left
  · (intro w hSw; (try dsimp only at hSw); go_simp; try with_reducible rfl)
  try simp only [Act.put, List.setIfInBounds_toArray, List.set_cons_zero, List.set_cons_succ]
  refine wpAnyH_take (i := 2) (oi := { dst := some 7, op := Op.fieldAddr 52 (Operand.tmp 6) 0, type := 0, pos := "graph.go:60", after := #[{ on := 1, ground := Ground.data }], guard := none }) (v := ?_) rfl (by kernel_rfl) (by kernel_rfl) (by kernel_rfl) (fun _ _ _ h => h) (Or.inl ⟨by rfl, ?_⟩) (by assumption) ?_
  rotate_left
  · (intro w hSw; (try dsimp only at hSw); go_simp; try with_reducible rfl)
  try simp only [Act.put, List.setIfInBounds_toArray, List.set_cons_zero, List.set_cons_succ]
  refine wpAnyH_take (i := 3) (oi := { dst := some 8, op := Op.load 3 (Operand.tmp 7), type := 3, pos := "graph.go:60", after := #[{ on := 2, ground := Ground.data }], guard := none }) (v := .int .i64 (n : Int)) rfl (by kernel_rfl) (by kernel_rfl) (by kernel_rfl) (fun _ _ _ h => h) (Or.inl ⟨by rfl, ?_⟩) (by assumption) ?_
  · (intro W hSw; have c0 := World.rowIs.cell hSw (i := 0) (by omega); rw [gc_0] at c0; go_simp)
  try simp only [Act.put, List.setIfInBounds_toArray, List.set_cons_zero, List.set_cons_succ]
  refine wpAnyH_take (i := 4) (oi := { dst := some 9, op := Op.move (Operand.tmp 0), type := 26, pos := "graph.go:60", after := #[], guard := none }) (v := ?_) rfl (by kernel_rfl) (by kernel_rfl) (by kernel_rfl) (fun _ _ _ h => h) (Or.inl ⟨by rfl, ?_⟩) (by assumption) ?_
  rotate_left
  · (intro w hSw; (try dsimp only at hSw); go_simp; try with_reducible rfl)
  try simp only [Act.put, List.setIfInBounds_toArray, List.set_cons_zero, List.set_cons_succ]
  refine wpAnyH_take (i := 5) (oi := { dst := some 10, op := Op.nilCheck (Operand.tmp 9), type := 0, pos := "graph.go:60", after := #[{ on := 4, ground := Ground.data }], guard := none }) (v := ?_) rfl (by kernel_rfl) (by kernel_rfl) (by kernel_rfl) (fun _ _ _ h => h) (Or.inl ⟨by rfl, ?_⟩) (by assumption) ?_
  rotate_left
  · (intro w hSw; (try dsimp only at hSw); go_simp; try with_reducible rfl)
  try simp only [Act.put, List.setIfInBounds_toArray, List.set_cons_zero, List.set_cons_succ]
  refine wpAnyH_take (i := 6) (oi := { dst := some 11, op := Op.fieldAddr 52 (Operand.tmp 10) 2, type := 0, pos := "graph.go:60", after := #[{ on := 5, ground := Ground.data }], guard := none }) (v := ?_) rfl (by kernel_rfl) (by kernel_rfl) (by kernel_rfl) (fun _ _ _ h => h) (Or.inl ⟨by rfl, ?_⟩) (by assumption) ?_
  rotate_left
  · (intro w hSw; (try dsimp only at hSw); go_simp; try with_reducible rfl)
  try simp only [Act.put, List.setIfInBounds_toArray, List.set_cons_zero, List.set_cons_succ]
  refine wpAnyH_take (i := 7) (oi := { dst := some 12, op := Op.load 50 (Operand.tmp 11), type := 50, pos := "graph.go:60", after := #[{ on := 6, ground := Ground.data }], guard := none }) (v := .agg (half256 n A (turnA A) 257)) rfl (by kernel_rfl) (by kernel_rfl) (by kernel_rfl) (fun _ _ _ h => h) (Or.inl ⟨by rfl, ?_⟩) (by assumption) ?_
  · (intro W hSw; exact exec_half hSw _ _ (.tmp 11) rfl 257 rfl (by omega))
  try simp only [Act.put, List.setIfInBounds_toArray, List.set_cons_zero, List.set_cons_succ]
  refine wpAnyH_take (i := 8) (oi := { dst := some 13, op := Op.move (Operand.tmp 0), type := 26, pos := "graph.go:60", after := #[], guard := none }) (v := ?_) rfl (by kernel_rfl) (by kernel_rfl) (by kernel_rfl) (fun _ _ _ h => h) (Or.inl ⟨by rfl, ?_⟩) (by assumption) ?_
  rotate_left
  · (intro w hSw; (try dsimp only at hSw); go_simp; try with_reducible rfl)
  try simp only [Act.put, List.setIfInBounds_toArray, List.set_cons_zero, List.set_cons_succ]
  refine wpAnyH_take (i := 9) (oi := { dst := some 14, op := Op.nilCheck (Operand.tmp 13), type := 0, pos := "graph.go:60", after := #[{ on := 8, ground := Ground.data }], guard := none }) (v := ?_) rfl (by kernel_rfl) (by kernel_rfl) (by kernel_rfl) (fun _ _ _ h => h) (Or.inl ⟨by rfl, ?_⟩) (by assumption) ?_
  rotate_left
  · (intro w hSw; (try dsimp only at hSw); go_simp; try with_reducible rfl)
  try simp only [Act.put, List.setIfInBounds_toArray, List.set_cons_zero, List.set_cons_succ]
  refine wpAnyH_take (i := 10) (oi := { dst := some 15, op := Op.fieldAddr 52 (Operand.tmp 14) 1, type := 0, pos := "graph.go:60", after := #[{ on := 9, ground := Ground.data }], guard := none }) (v := ?_) rfl (by kernel_rfl) (by kernel_rfl) (by kernel_rfl) (fun _ _ _ h => h) (Or.inl ⟨by rfl, ?_⟩) (by assumption) ?_
  rotate_left
  · (intro w hSw; (try dsimp only at hSw); go_simp; try with_reducible rfl)
  try simp only [Act.put, List.setIfInBounds_toArray, List.set_cons_zero, List.set_cons_succ]
  refine wpAnyH_take (i := 11) (oi := { dst := some 16, op := Op.load 50 (Operand.tmp 15), type := 50, pos := "graph.go:60", after := #[{ on := 10, ground := Ground.data }], guard := none }) (v := .agg (half256 n A (turnA A) 1)) rfl (by kernel_rfl) (by kernel_rfl) (by kernel_rfl) (fun _ _ _ h => h) (Or.inl ⟨by rfl, ?_⟩) (by assumption) ?_
  · (intro W hSw; exact exec_half hSw _ _ (.tmp 15) rfl 1 rfl (by omega))
  try simp only [Act.put, List.setIfInBounds_toArray, List.set_cons_zero, List.set_cons_succ]
  refine wpAnyH_take (i := 12) (oi := { dst := some 17, op := Op.build 52 #[(0, Operand.tmp 8), (1, Operand.tmp 12), (2, Operand.tmp 16)], type := 52, pos := "graph.go:60", after := #[{ on := 3, ground := Ground.data }, { on := 7, ground := Ground.data }, { on := 11, ground := Ground.data }], guard := none }) (v := .agg (g3 (n : Int) (half256 n A (turnA A) 257) (half256 n A (turnA A) 1))) rfl (by kernel_rfl) (by kernel_rfl) (by kernel_rfl) (fun _ _ _ h => h) (Or.inl ⟨by rfl, ?_⟩) (by assumption) ?_
  · (intro W hSw; unfold execOp; simp only [Sem.run_bind, Sem.run_pure]; rw [exec_g3 (.tmp 8) (.tmp 12) (.tmp 16) (n : Int) (half256 n A (turnA A) 257) (half256 n A (turnA A) 1) rfl rfl rfl (half_size _ _ _ _) (half_size _ _ _ _)]; rfl)
  try simp only [Act.put, List.setIfInBounds_toArray, List.set_cons_zero, List.set_cons_succ]
  refine wpAnyH_ready (rs := [13]) (by kernel_rfl) (by simp) ?_
  refine AllReadyH.cons (o := { dst := some 18, op := Op.box 52 (Operand.tmp 17), type := 26, pos := "graph.go:60", after := #[{ on := 12, ground := Ground.data }], guard := none }) rfl (fun K hK => ?_) AllReadyH.nil
  go_simp
  refine hK.out _ _ ?_ (fun hH' => ?_)
  · exact hH.alloc _
  clear hK K hH
  have hH := hH'
  clear hH'
  try simp only [Act.put, List.setIfInBounds_toArray, List.set_cons_zero, List.set_cons_succ]
  refine wpAnyH_take (i := 14) (oi := { dst := some 2, op := Op.assign (Operand.tmp 18), type := 26, pos := "graph.go:60", after := #[{ on := 13, ground := Ground.data }, { on := 0, ground := Ground.phase }, { on := 1, ground := Ground.phase }, { on := 2, ground := Ground.phase }, { on := 3, ground := Ground.phase }, { on := 4, ground := Ground.phase }, { on := 5, ground := Ground.phase }, { on := 6, ground := Ground.phase }, { on := 7, ground := Ground.phase }, { on := 8, ground := Ground.phase }, { on := 9, ground := Ground.phase }, { on := 10, ground := Ground.phase }, { on := 11, ground := Ground.phase }, { on := 12, ground := Ground.phase }, { on := 13, ground := Ground.phase }], guard := none }) (v := ?_) rfl (by kernel_rfl) (by kernel_rfl) (by kernel_rfl) (fun _ _ _ h => h) (Or.inl ⟨by rfl, ?_⟩) (by assumption) ?_
  rotate_left
  · (intro w hSw; (try dsimp only at hSw); go_simp; try with_reducible rfl)
  try simp only [Act.put, List.setIfInBounds_toArray, List.set_cons_zero, List.set_cons_succ]
  refine wpAnyH_done (by kernel_rfl) ?_ _
  refine NoPanic.normal ?_
  go_wp2_with fail
  go_ret
  refine ⟨rfl, ⟨?_, HG.out.le, fun i k hk => ?_⟩, ((Below.refl _ w).alloc (Nat.le_refl _) _).drew⟩
  · exact World.rowIs.drew (gb_turn w n A (turnA A))
  · have := HG.out.fit k i hk
    exact ⟨this.2, this.1⟩
end Go.Proofs.YtonnopcafmhaaaaDoor

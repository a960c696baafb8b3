/- The law of fingerprints' texts: its walk. -/
import Derived.Test.YtbdahkbgjbaenaaDoorTx
import Derived.Deep.RegionWith
import Derived.Test.YtbdahkbgjbaenaaDoorEq
import Derived.Deep.RegionHeld3
import Derived.Deep.DrawnRows
namespace Go.Proofs.YtbdahkbgjbaenaaDoor
open Go.RowKit
attribute [local go_sem ↓] Go.wp_at_zero Go.wp_at_succ

/-- fingerprints that are held, and what stands below -/
structure Gq (w W : World) (L : List (Nat × (Nat → Int))) : Prop where
  bel : Below w.heap.size w W
  tab : Tab W
  row : ∀ x ∈ L, Row W x.1 27 .u8 32 x.2
theorem Gq.below {w W W' : World} {L : List (Nat × (Nat → Int))} (h : Gq w W L) (b : Below W.heap.size W W') : Gq w W' L :=
  ⟨h.bel.trans (b.mono h.bel.size), h.tab.below b h.tab.1, fun x hx => (h.row x hx).below b (h.row x hx).lt⟩
theorem row_set_other {w : World} {g n : Nat} {T : TypeId} {k : IntKind} {m : Nat} {F : Nat → Int} {cs : Array Value} (h : Row w g T k m F) (hn : g ≠ n) : Row (w.setRow n cs) g T k m F := by
  unfold Row; rw [setRow_other _ _ _ _ hn]; exact h
theorem gq_store_ {w W : World} {L : List (Nat × (Nat → Int))} (h : Gq w W L) (R : Nat → Int) : Gq w ((W.alloc (.cells (mk .u8 32 fun _ => 0) 27)).setRow W.heap.size (mk .u8 32 R)) ((W.heap.size, R) :: L) := by
  have a : Gq w (W.alloc (.cells (mk .u8 32 fun _ => 0) 27)) L := h.below ((Below.refl _ _).alloc (Nat.le_refl _) _)
  refine ⟨below_setRow a.bel h.bel.size _, ⟨by rw [setRow_size]; exact a.tab.1, fun i hi => ?_⟩, fun x hx => ?_⟩
  · rw [cell_setRow_other _ _ _ _ (by have := h.tab.1; show 0 ≠ _; omega)]; exact a.tab.2 i hi
  · rcases List.mem_cons.1 hx with rfl | hx
    · exact (Row.made W 27 .u8 32 fun _ => 0).setRow _ _ _
    · exact row_set_other (a.row x hx) (by have := (h.row x hx).lt; omega)
theorem gq_store {w W : World} {L : List (Nat × (Nat → Int))} (h : Gq w W L) (R : Nat → Int) : Gq w ((W.alloc (.cells #[.int .u8 0, .int .u8 0, .int .u8 0, .int .u8 0, .int .u8 0, .int .u8 0, .int .u8 0, .int .u8 0, .int .u8 0, .int .u8 0, .int .u8 0, .int .u8 0, .int .u8 0, .int .u8 0, .int .u8 0, .int .u8 0, .int .u8 0, .int .u8 0, .int .u8 0, .int .u8 0, .int .u8 0, .int .u8 0, .int .u8 0, .int .u8 0, .int .u8 0, .int .u8 0, .int .u8 0, .int .u8 0, .int .u8 0, .int .u8 0, .int .u8 0, .int .u8 0] 27)).setRow W.heap.size (mk .u8 32 R)) ((W.heap.size, R) :: L) := by
  have := gq_store_ h R
  rw [Z27] at this
  exact this
theorem made27 (W : World) : (W.alloc (.cells #[.int .u8 0, .int .u8 0, .int .u8 0, .int .u8 0, .int .u8 0, .int .u8 0, .int .u8 0, .int .u8 0, .int .u8 0, .int .u8 0, .int .u8 0, .int .u8 0, .int .u8 0, .int .u8 0, .int .u8 0, .int .u8 0, .int .u8 0, .int .u8 0, .int .u8 0, .int .u8 0, .int .u8 0, .int .u8 0, .int .u8 0, .int .u8 0, .int .u8 0, .int .u8 0, .int .u8 0, .int .u8 0, .int .u8 0, .int .u8 0, .int .u8 0, .int .u8 0] 27)).heap[W.heap.size]? = some (.cells (mk .u8 32 fun _ => 0) 27 (0, 0)) := by
  rw [Z27]; exact heap_alloc_new W _
theorem isAgg27 (w : World) : (isAgg 27).run Tryd.prog w = .ok true w := by kernel_rfl
theorem size27 (w : World) : (sizeOf 27).run Tryd.prog w = .ok 32 w := by kernel_rfl
theorem size27e (w : World) : (sizeOf (Tryd.prog.elem 27)).run Tryd.prog w = .ok 1 w := by kernel_rfl
theorem load27 (F : Nat → Int) (g : Nat) (W : World) (h : Row W g 27 .u8 32 F) : (loadCellsFrom ⟨g, 0, none⟩ 0 32 #[]).run Tryd.prog W = .ok (mk .u8 32 F) W := by
  have := run_loadCells_list (P := Tryd.prog) W ⟨g, 0, none⟩ (mk .u8 32 F).toList (fun j v hv => by
    have hadd : (⟨g, 0, none⟩ : Addr).add j = ⟨g, j, none⟩ := by unfold Addr.add; split <;> simp_all
    rw [hadd, cell_of_row _ _ j _ 27 (0, 0) h]
    simpa using hv)
  simpa [loadCells, mk_size] using this
theorem slice27h (g : Nat) (W : World) : (Instr.sliceAt 27 (.pointer (some ⟨g, 0, none⟩)) none (some (.int .i64 8)) none).run Tryd.prog W = .ok (.slice (some ⟨g, 0, none⟩) 8 32) W := by
  have hal : Tryd.prog.arrayLen 27 = 32 := by kernel_rfl
  rw [run_sliceAt_array_h W 27 ⟨g, 0, none⟩ (by simp [Program.arrayLen, Program.elem, Tryd.underlying27]) .i64 8 (by omega) (by rw [hal]; omega)]
  rw [size27e, Result.andThen_ok, hal]
  unfold slicedAt
  simp [Addr.add]
theorem exec_load27 {a : Act} {o : Oper} {x : Operand} {g : Nat} {F : Nat → Int} {W : World} (ho : o.op = .load 27 x) (hx : a.eval x = .pointer (some ⟨g, 0, none⟩)) (h : Row W g 27 .u8 32 F) :
    (execOp a.eval o).run Tryd.prog W = .ok (.value (.agg (mk .u8 32 F))) W := by
  unfold execOp
  simp only [ho, hx, Instr.loadAt, Instr.sureAddr, Sem.run_bind, Sem.run_pure, Result.andThen_ok]
  rw [run_loadVar_at (P := Tryd.prog) W g 0 27 27 (mk .u8 32 F) _ (mk .u8 32 F) h (fun j _ => by rw [Nat.zero_add]) Tryd.underlying27 rfl (info27 _)]
  rfl
theorem exec_eql27 {a : Act} {o : Oper} {x y : Operand} {F : Nat → Int} {W : World} (ho : o.op = .binOp .eql 27 x y 27) (hx : a.eval x = .agg (mk .u8 32 F)) (hy : a.eval y = .agg (mk .u8 32 F)) :
    (execOp a.eval o).run Tryd.prog W = .ok (.value (.bool true)) W := by
  unfold execOp
  simp only [ho, hx, hy, Sem.run_bind, run_guard, run_eql_same, Result.andThen_ok, Sem.run_pure]
set_option maxRecDepth 100000 in
set_option maxHeartbeats 8000000 in
theorem texts_walk (F : Nat → Int) (s : ByteArray) (w : World) (hF : ∀ j, j < 32 → 0 ≤ F j ∧ F j < 256) (hT : Tab w) :
    Calls Tryd.prog 5 #[.agg (mk .u8 32 F), .string s] w fun e w' => e = .returned (.bool true) ∧ Below w.heap.size w w' := by
  have b0 : Below w.heap.size w (w.alloc (.cells (mk .u8 32 F) 27)) := (Below.refl w.heap.size w).alloc (Nat.le_refl _) (.cells (mk .u8 32 F) 27)
  have r0 := Row.made w 27 .u8 32 F
  have G0 : Hid (Gq w (w.alloc (.cells (mk .u8 32 F) 27)) [(w.heap.size, F)]) := ⟨b0, hT.below b0 hT.1, fun x hx => by simp at hx; subst hx; exact r0⟩
  clear b0
  by_cases hb : s.size ≤ 200
  · obtain ⟨R, re, P, Q⟩ := unhex_both s
    have HP := Lib.hid P
    have HQ := Lib.hid Q
    have HX := Lib.hid (fun w => hex_any F w hF)
    have HU := Lib.hid (fun w => unhex_hex F hF w)
    have HR := Lib.hid (fun w => rhex_any F w hF)
    have HS := Lib.hid (fun w => short_any F w hF)
    have hb' : (s.size : Int) ≤ 200 := by omega
    have HF := Lib.hid hF
    clear P Q hF hT
    generalize hexStr F = h at *
    go_enter Tryd.func5, Tryd.ntmps5
    go_wp2_with (refine wpList_load_at rfl 27 (.tmp 2) rfl w.heap.size 0 rfl 27 _ (mk .u8 32 F) _ r0 (fun j _ => by rw [Nat.zero_add]) Tryd.underlying27 rfl (info27 _) ?_)
    clear r0
    generalize World.alloc _ _ = W0 at *
    refine (HX.out _).mono ?_
    rintro e W1 ⟨rfl, b1⟩
    have G1 := Lib.hid (G0.out.below b1)
    clear b1 G0
    go_wp2_with fail
    refine (HP.out _).mono ?_
    rintro e W2 ⟨rfl, b2⟩
    have G2 := Lib.hid (gq_store (G1.out.below b2) R)
    have m2 := made27 W2
    clear b2 G1
    go_wp2_with (refine wpList_store_row rfl 27 (.tmp 6) (.tmp 21) rfl W2.heap.size rfl (mk .u8 32 R) rfl 27 _ m2 (by simp [mk_size]) (info27 _) (mk_one _ _ _) ?_)
    clear m2
    generalize World.setRow _ _ _ = W3 at *
    refine (HQ.out _).mono ?_
    rintro e W4 ⟨rfl, b4⟩
    have G4 := Lib.hid (gq_store (G2.out.below b4) R)
    have m4 := made27 W4
    clear b4 G2
    go_wp2_with (refine wpList_store_row rfl 27 (.tmp 8) (.tmp 26) rfl W4.heap.size rfl (mk .u8 32 R) rfl 27 _ m4 (by simp [mk_size]) (info27 _) (mk_one _ _ _) ?_)
    clear m4
    generalize World.setRow _ _ _ = W5 at *
    refine (HU.out _).mono ?_
    rintro e W6 ⟨rfl, b6⟩
    have G6 := Lib.hid (gq_store (G4.out.below b6) F)
    have m6 := made27 W6
    clear b6 G4
    go_wp2_with (refine wpList_store_row rfl 27 (.tmp 10) (.tmp 31) rfl W6.heap.size rfl (mk .u8 32 F) rfl 27 _ m6 (by simp [mk_size]) (info27 _) (mk_one _ _ _) ?_)
    clear m6
    generalize World.setRow _ _ _ = W7 at *
    have AW := Lib.hid (fun W (h : Tab W) => awake_true W h)
    have NU := Lib.hid (fun W (h : Row W w.heap.size 27 .u8 32 F) => number_any (some ⟨w.heap.size, 0, none⟩) 8 32 F W (by omega) (fun j hj => HF.out j (by omega)) (fun j hj => ⟨w.heap.size, 0, rfl, by rw [Nat.zero_add]; exact h.cell j (by omega)⟩))
    have hsl := slice27h w.heap.size
    have n2 : Row W7 w.heap.size 27 .u8 32 F ∧ Row W7 W2.heap.size 27 .u8 32 R ∧ Row W7 W4.heap.size 27 .u8 32 R ∧ Row W7 W6.heap.size 27 .u8 32 F := ⟨G6.out.row (w.heap.size, F) (by simp), G6.out.row (W2.heap.size, R) (by simp), G6.out.row (W4.heap.size, R) (by simp), G6.out.row (W6.heap.size, F) (by simp)⟩
    have KK : Hid (∀ W W', (Gq w W [(W6.heap.size, F), (W4.heap.size, R), (W2.heap.size, R), (w.heap.size, F)]) → Below W.heap.size W W' → Gq w W' [(W6.heap.size, F), (W4.heap.size, R), (W2.heap.size, R), (w.heap.size, F)]) := fun W W' h b => h.below b
    have K2 : Hid (∀ W, Gq w W [(W6.heap.size, F), (W4.heap.size, R), (W2.heap.size, R), (w.heap.size, F)] → Row W w.heap.size 27 .u8 32 F ∧ Row W W2.heap.size 27 .u8 32 R ∧ Row W W4.heap.size 27 .u8 32 R ∧ Row W W6.heap.size 27 .u8 32 F ∧ Tab W ∧ Below w.heap.size w W) := fun W h => ⟨h.row (w.heap.size, F) (by simp), h.row (W2.heap.size, R) (by simp), h.row (W4.heap.size, R) (by simp), h.row (W6.heap.size, F) (by simp), h.tab, h.bel⟩
    have G7 : Hid (Gq w W7.drew [(W6.heap.size, F), (W4.heap.size, R), (W2.heap.size, R), (w.heap.size, F)]) := G6.out.below (Below.refl _ _).drew
    clear G6 n2
    generalize [(W6.heap.size, F), (W4.heap.size, R), (W2.heap.size, R), (w.heap.size, F)] = LL at *
    generalize W6.heap.size = g6 at *
    generalize W4.heap.size = g4 at *
    generalize W2.heap.size = g2 at *
    go_wp2_with fail
    refine wp_region_noPanic ?_
    refine wp_region_held_drew (S := (fun W => Hid (Gq w W LL))) (by kernel_rfl) ?_ (fun hH => ?_)
    · exact G7.out
    refine wpAnyH_take (i := 0) (oi := { dst := some 33, op := Op.move (Operand.tmp 5), type := 9, pos := "law.go:57", after := #[], guard := none }) (v := ?_) rfl (by kernel_rfl) (by kernel_rfl) (by kernel_rfl) (fun _ _ _ h => h) (Or.inl ⟨by rfl, ?_⟩) (by assumption) ?_
    rotate_left
    · (intro w hSw; (try dsimp only at hSw); go_simp; try with_reducible rfl)
    try simp only [Act.put, List.setIfInBounds_toArray, List.set_cons_zero, List.set_cons_succ]
    refine wpAnyH_take (i := 1) (oi := { dst := some 34, op := Op.load 27 (Operand.tmp 2), type := 27, pos := "law.go:57", after := #[], guard := none }) (v := .agg (mk .u8 32 F)) rfl (by kernel_rfl) (by kernel_rfl) (by kernel_rfl) (fun _ _ _ h => h) (Or.inl ⟨by rfl, ?_⟩) (by assumption) ?_
    · (intro W hSw; exact exec_load27 rfl rfl (K2.out _ hSw.out).1)
    try simp only [Act.put, List.setIfInBounds_toArray, List.set_cons_zero, List.set_cons_succ]
    refine wpAnyH_ready (rs := [2]) (by kernel_rfl) (by simp) ?_
    refine AllReadyH.cons (o := { dst := some 35, op := Op.call { callee := Callee.value (Operand.func 20), args := #[Operand.tmp 34], argTypes := #[27] }, type := 9, pos := "law.go:57", after := #[{ on := 1, ground := Ground.data }], guard := none }) rfl (fun K hK => ?_) AllReadyH.nil
    go_simp
    refine (HR.out _).mono ?_
    rintro e W_0 ⟨rfl, b⟩
    refine hK.out _ _ ?_ (fun hH' => ?_)
    · exact KK.out _ _ hH.out b
    clear hK K hH
    have hH := hH'
    clear hH'
    try simp only [Act.put, List.setIfInBounds_toArray, List.set_cons_zero, List.set_cons_succ]
    refine wpAnyH_take (i := 3) (oi := { dst := some 36, op := Op.binOp BinOp.eql 9 (Operand.tmp 33) (Operand.tmp 35) 9, type := 4, pos := "law.go:57", after := #[{ on := 0, ground := Ground.data }, { on := 2, ground := Ground.data }], guard := none }) (v := ?_) rfl (by kernel_rfl) (by kernel_rfl) (by kernel_rfl) (fun _ _ _ h => h) (Or.inl ⟨by rfl, ?_⟩) (by assumption) ?_
    rotate_left
    · (intro w hSw; (try dsimp only at hSw); go_simp; try with_reducible rfl)
    try simp only [Act.put, List.setIfInBounds_toArray, List.set_cons_zero, List.set_cons_succ]
    refine wpAnyH_take (i := 4) (oi := { dst := some 37, op := Op.move (Operand.tmp 36), type := 4, pos := "law.go:57", after := #[{ on := 3, ground := Ground.data }, { on := 2, ground := Ground.chain }], guard := none }) (v := ?_) rfl (by kernel_rfl) (by kernel_rfl) (by kernel_rfl) (fun _ _ _ h => h) (Or.inl ⟨by rfl, ?_⟩) (by assumption) ?_
    rotate_left
    · (intro w hSw; (try dsimp only at hSw); go_simp; try with_reducible rfl)
    try simp only [Act.put, List.setIfInBounds_toArray, List.set_cons_zero, List.set_cons_succ]
    refine wpAnyH_take (i := 5) (oi := { dst := some 38, op := Op.load 27 (Operand.tmp 6), type := 27, pos := "law.go:57", after := #[{ on := 4, ground := Ground.guard }], guard := some (4, true) }) (v := .agg (mk .u8 32 R)) rfl (by kernel_rfl) (by kernel_rfl) (by kernel_rfl) (fun _ _ _ h => h) (Or.inl ⟨by rfl, ?_⟩) (by assumption) ?_
    · (intro W hSw; exact exec_load27 rfl rfl (K2.out _ hSw.out).2.1)
    try simp only [Act.put, List.setIfInBounds_toArray, List.set_cons_zero, List.set_cons_succ]
    refine wpAnyH_take (i := 6) (oi := { dst := some 39, op := Op.load 27 (Operand.tmp 8), type := 27, pos := "law.go:57", after := #[{ on := 4, ground := Ground.guard }], guard := some (4, true) }) (v := .agg (mk .u8 32 R)) rfl (by kernel_rfl) (by kernel_rfl) (by kernel_rfl) (fun _ _ _ h => h) (Or.inl ⟨by rfl, ?_⟩) (by assumption) ?_
    · (intro W hSw; exact exec_load27 rfl rfl (K2.out _ hSw.out).2.2.1)
    try simp only [Act.put, List.setIfInBounds_toArray, List.set_cons_zero, List.set_cons_succ]
    refine wpAnyH_take (i := 7) (oi := { dst := some 40, op := Op.binOp BinOp.eql 27 (Operand.tmp 38) (Operand.tmp 39) 27, type := 4, pos := "law.go:57", after := #[{ on := 5, ground := Ground.data }, { on := 6, ground := Ground.data }, { on := 4, ground := Ground.guard }], guard := some (4, true) }) (v := .bool true) rfl (by kernel_rfl) (by kernel_rfl) (by kernel_rfl) (fun _ _ _ h => h) (Or.inl ⟨by rfl, ?_⟩) (by assumption) ?_
    · (intro W hSw; exact exec_eql27 (F := R) rfl rfl rfl)
    try simp only [Act.put, List.setIfInBounds_toArray, List.set_cons_zero, List.set_cons_succ]
    refine wpAnyH_take (i := 8) (oi := { dst := some 41, op := Op.pick (Operand.tmp 37) (Operand.tmp 40) (Operand.const (Value.bool false)), type := 4, pos := "law.go:57", after := #[{ on := 4, ground := Ground.data }, { on := 7, ground := Ground.data }], guard := none }) (v := ?_) rfl (by kernel_rfl) (by kernel_rfl) (by kernel_rfl) (fun _ _ _ h => h) (Or.inl ⟨by rfl, ?_⟩) (by assumption) ?_
    rotate_left
    · (intro w hSw; (try dsimp only at hSw); go_simp; try with_reducible rfl)
    try simp only [Act.put, List.setIfInBounds_toArray, List.set_cons_zero, List.set_cons_succ]
    refine wpAnyH_take (i := 9) (oi := { dst := some 42, op := Op.move (Operand.tmp 41), type := 4, pos := "law.go:57", after := #[{ on := 8, ground := Ground.data }, { on := 4, ground := Ground.chain }], guard := none }) (v := ?_) rfl (by kernel_rfl) (by kernel_rfl) (by kernel_rfl) (fun _ _ _ h => h) (Or.inl ⟨by rfl, ?_⟩) (by assumption) ?_
    rotate_left
    · (intro w hSw; (try dsimp only at hSw); go_simp; try with_reducible rfl)
    try simp only [Act.put, List.setIfInBounds_toArray, List.set_cons_zero, List.set_cons_succ]
    refine wpAnyH_take (i := 10) (oi := { dst := some 43, op := Op.move (Operand.tmp 7), type := 41, pos := "law.go:57", after := #[{ on := 9, ground := Ground.guard }], guard := some (9, true) }) (v := ?_) rfl (by kernel_rfl) (by kernel_rfl) (by kernel_rfl) (fun _ _ _ h => h) (Or.inl ⟨by rfl, ?_⟩) (by assumption) ?_
    rotate_left
    · (intro w hSw; (try dsimp only at hSw); go_simp; try with_reducible rfl)
    try simp only [Act.put, List.setIfInBounds_toArray, List.set_cons_zero, List.set_cons_succ]
    refine wpAnyH_take (i := 11) (oi := { dst := some 44, op := Op.move (Operand.tmp 9), type := 3, pos := "law.go:57", after := #[{ on := 9, ground := Ground.guard }], guard := some (9, true) }) (v := ?_) rfl (by kernel_rfl) (by kernel_rfl) (by kernel_rfl) (fun _ _ _ h => h) (Or.inl ⟨by rfl, ?_⟩) (by assumption) ?_
    rotate_left
    · (intro w hSw; (try dsimp only at hSw); go_simp; try with_reducible rfl)
    try simp only [Act.put, List.setIfInBounds_toArray, List.set_cons_zero, List.set_cons_succ]
    refine wpAnyH_take (i := 12) (oi := { dst := some 45, op := Op.binOp BinOp.eql 3 (Operand.tmp 43) (Operand.tmp 44) 3, type := 4, pos := "law.go:57", after := #[{ on := 10, ground := Ground.data }, { on := 11, ground := Ground.data }, { on := 9, ground := Ground.guard }], guard := some (9, true) }) (v := ?_) rfl (by kernel_rfl) (by kernel_rfl) (by kernel_rfl) (fun _ _ _ h => h) (Or.inl ⟨by rfl, ?_⟩) (by assumption) ?_
    rotate_left
    · (intro w hSw; (try dsimp only at hSw); go_simp; try with_reducible rfl)
    try simp only [Act.put, List.setIfInBounds_toArray, List.set_cons_zero, List.set_cons_succ]
    refine wpAnyH_take (i := 13) (oi := { dst := some 46, op := Op.pick (Operand.tmp 42) (Operand.tmp 45) (Operand.const (Value.bool false)), type := 4, pos := "law.go:57", after := #[{ on := 9, ground := Ground.data }, { on := 12, ground := Ground.data }], guard := none }) (v := ?_) rfl (by kernel_rfl) (by kernel_rfl) (by kernel_rfl) (fun _ _ _ h => h) (Or.inl ⟨by rfl, ?_⟩) (by assumption) ?_
    rotate_left
    · (intro w hSw; (try dsimp only at hSw); go_simp; try with_reducible rfl)
    try simp only [Act.put, List.setIfInBounds_toArray, List.set_cons_zero, List.set_cons_succ]
    refine wpAnyH_take (i := 14) (oi := { dst := some 47, op := Op.move (Operand.tmp 46), type := 4, pos := "law.go:57", after := #[{ on := 13, ground := Ground.data }, { on := 9, ground := Ground.chain }], guard := none }) (v := ?_) rfl (by kernel_rfl) (by kernel_rfl) (by kernel_rfl) (fun _ _ _ h => h) (Or.inl ⟨by rfl, ?_⟩) (by assumption) ?_
    rotate_left
    · (intro w hSw; (try dsimp only at hSw); go_simp; try with_reducible rfl)
    try simp only [Act.put, List.setIfInBounds_toArray, List.set_cons_zero, List.set_cons_succ]
    refine wpAnyH_take (i := 15) (oi := { dst := some 48, op := Op.load 27 (Operand.tmp 10), type := 27, pos := "law.go:57", after := #[{ on := 14, ground := Ground.guard }], guard := some (14, true) }) (v := .agg (mk .u8 32 F)) rfl (by kernel_rfl) (by kernel_rfl) (by kernel_rfl) (fun _ _ _ h => h) (Or.inl ⟨by rfl, ?_⟩) (by assumption) ?_
    · (intro W hSw; exact exec_load27 rfl rfl (K2.out _ hSw.out).2.2.2.1)
    try simp only [Act.put, List.setIfInBounds_toArray, List.set_cons_zero, List.set_cons_succ]
    refine wpAnyH_take (i := 16) (oi := { dst := some 49, op := Op.load 27 (Operand.tmp 2), type := 27, pos := "law.go:57", after := #[{ on := 14, ground := Ground.guard }], guard := some (14, true) }) (v := .agg (mk .u8 32 F)) rfl (by kernel_rfl) (by kernel_rfl) (by kernel_rfl) (fun _ _ _ h => h) (Or.inl ⟨by rfl, ?_⟩) (by assumption) ?_
    · (intro W hSw; exact exec_load27 rfl rfl (K2.out _ hSw.out).1)
    try simp only [Act.put, List.setIfInBounds_toArray, List.set_cons_zero, List.set_cons_succ]
    refine wpAnyH_take (i := 17) (oi := { dst := some 50, op := Op.binOp BinOp.eql 27 (Operand.tmp 48) (Operand.tmp 49) 27, type := 4, pos := "law.go:57", after := #[{ on := 15, ground := Ground.data }, { on := 16, ground := Ground.data }, { on := 14, ground := Ground.guard }], guard := some (14, true) }) (v := .bool true) rfl (by kernel_rfl) (by kernel_rfl) (by kernel_rfl) (fun _ _ _ h => h) (Or.inl ⟨by rfl, ?_⟩) (by assumption) ?_
    · (intro W hSw; exact exec_eql27 (F := F) rfl rfl rfl)
    try simp only [Act.put, List.setIfInBounds_toArray, List.set_cons_zero, List.set_cons_succ]
    refine wpAnyH_take (i := 18) (oi := { dst := some 51, op := Op.pick (Operand.tmp 47) (Operand.tmp 50) (Operand.const (Value.bool false)), type := 4, pos := "law.go:57", after := #[{ on := 14, ground := Ground.data }, { on := 17, ground := Ground.data }], guard := none }) (v := ?_) rfl (by kernel_rfl) (by kernel_rfl) (by kernel_rfl) (fun _ _ _ h => h) (Or.inl ⟨by rfl, ?_⟩) (by assumption) ?_
    rotate_left
    · (intro w hSw; (try dsimp only at hSw); go_simp; try with_reducible rfl)
    try simp only [Act.put, List.setIfInBounds_toArray, List.set_cons_zero, List.set_cons_succ]
    refine wpAnyH_take (i := 19) (oi := { dst := some 52, op := Op.move (Operand.tmp 51), type := 4, pos := "law.go:57", after := #[{ on := 18, ground := Ground.data }, { on := 14, ground := Ground.chain }], guard := none }) (v := ?_) rfl (by kernel_rfl) (by kernel_rfl) (by kernel_rfl) (fun _ _ _ h => h) (Or.inl ⟨by rfl, ?_⟩) (by assumption) ?_
    rotate_left
    · (intro w hSw; (try dsimp only at hSw); go_simp; try with_reducible rfl)
    try simp only [Act.put, List.setIfInBounds_toArray, List.set_cons_zero, List.set_cons_succ]
    refine wpAnyH_take (i := 20) (oi := { dst := some 53, op := Op.move (Operand.tmp 11), type := 41, pos := "law.go:57", after := #[{ on := 19, ground := Ground.guard }], guard := some (19, true) }) (v := ?_) rfl (by kernel_rfl) (by kernel_rfl) (by kernel_rfl) (fun _ _ _ h => h) (Or.inl ⟨by rfl, ?_⟩) (by assumption) ?_
    rotate_left
    · (intro w hSw; (try dsimp only at hSw); go_simp; try with_reducible rfl)
    try simp only [Act.put, List.setIfInBounds_toArray, List.set_cons_zero, List.set_cons_succ]
    refine wpAnyH_take (i := 21) (oi := { dst := some 54, op := Op.binOp BinOp.eql 41 (Operand.tmp 53) (Operand.const (Value.int IntKind.i64 0)) 41, type := 4, pos := "law.go:57", after := #[{ on := 20, ground := Ground.data }, { on := 19, ground := Ground.guard }], guard := some (19, true) }) (v := ?_) rfl (by kernel_rfl) (by kernel_rfl) (by kernel_rfl) (fun _ _ _ h => h) (Or.inl ⟨by rfl, ?_⟩) (by assumption) ?_
    rotate_left
    · (intro w hSw; (try dsimp only at hSw); go_simp; try with_reducible rfl)
    try simp only [Act.put, List.setIfInBounds_toArray, List.set_cons_zero, List.set_cons_succ]
    refine wpAnyH_take (i := 22) (oi := { dst := some 55, op := Op.pick (Operand.tmp 52) (Operand.tmp 54) (Operand.const (Value.bool false)), type := 4, pos := "law.go:57", after := #[{ on := 19, ground := Ground.data }, { on := 21, ground := Ground.data }], guard := none }) (v := ?_) rfl (by kernel_rfl) (by kernel_rfl) (by kernel_rfl) (fun _ _ _ h => h) (Or.inl ⟨by rfl, ?_⟩) (by assumption) ?_
    rotate_left
    · (intro w hSw; (try dsimp only at hSw); go_simp; try with_reducible rfl)
    try simp only [Act.put, List.setIfInBounds_toArray, List.set_cons_zero, List.set_cons_succ]
    refine wpAnyH_take (i := 23) (oi := { dst := some 56, op := Op.move (Operand.tmp 55), type := 4, pos := "law.go:57", after := #[{ on := 22, ground := Ground.data }, { on := 19, ground := Ground.chain }], guard := none }) (v := ?_) rfl (by kernel_rfl) (by kernel_rfl) (by kernel_rfl) (fun _ _ _ h => h) (Or.inl ⟨by rfl, ?_⟩) (by assumption) ?_
    rotate_left
    · (intro w hSw; (try dsimp only at hSw); go_simp; try with_reducible rfl)
    try simp only [Act.put, List.setIfInBounds_toArray, List.set_cons_zero, List.set_cons_succ]
    refine wpAnyH_take (i := 24) (oi := { dst := some 57, op := Op.load 27 (Operand.tmp 2), type := 27, pos := "law.go:57", after := #[{ on := 23, ground := Ground.guard }], guard := some (23, true) }) (v := .agg (mk .u8 32 F)) rfl (by kernel_rfl) (by kernel_rfl) (by kernel_rfl) (fun _ _ _ h => h) (Or.inl ⟨by rfl, ?_⟩) (by assumption) ?_
    · (intro W hSw; exact exec_load27 rfl rfl (K2.out _ hSw.out).1)
    try simp only [Act.put, List.setIfInBounds_toArray, List.set_cons_zero, List.set_cons_succ]
    refine wpAnyH_take (i := 26) (oi := { dst := some 59, op := Op.slice 27 (Operand.tmp 2) none (some (Operand.const (Value.int IntKind.i64 8))) none, type := 22, pos := "law.go:57", after := #[{ on := 23, ground := Ground.guard }], guard := some (23, true) }) (v := ?_) rfl (by kernel_rfl) (by kernel_rfl) (by kernel_rfl) (fun _ _ _ h => h) (Or.inl ⟨by rfl, ?_⟩) (by assumption) ?_
    rotate_left
    · (intro w hSw; (try dsimp only at hSw); go_simp; try with_reducible rfl)
    try simp only [Act.put, List.setIfInBounds_toArray, List.set_cons_zero, List.set_cons_succ]
    refine wpAnyH_ready (rs := [25]) (by kernel_rfl) (by simp) ?_
    refine AllReadyH.cons (o := { dst := some 58, op := Op.call { callee := Callee.value (Operand.func 21), args := #[Operand.tmp 57], argTypes := #[27] }, type := 36, pos := "law.go:57", after := #[{ on := 24, ground := Ground.data }, { on := 23, ground := Ground.chain }, { on := 23, ground := Ground.guard }], guard := some (23, true) }) rfl (fun K hK => ?_) AllReadyH.nil
    go_simp
    refine (HS.out _).mono ?_
    rintro e W_1 ⟨rfl, b⟩
    refine hK.out _ _ ?_ (fun hH' => ?_)
    · exact KK.out _ _ hH.out b
    clear hK K hH
    have hH := hH'
    clear hH'
    try simp only [Act.put, List.setIfInBounds_toArray, List.set_cons_zero, List.set_cons_succ]
    refine wpAnyH_ready (rs := [27]) (by kernel_rfl) (by simp) ?_
    refine AllReadyH.cons (o := { dst := some 60, op := Op.call { callee := Callee.value (Operand.func 22), args := #[Operand.tmp 59], argTypes := #[22] }, type := 36, pos := "law.go:57", after := #[{ on := 26, ground := Ground.data }, { on := 25, ground := Ground.chain }, { on := 23, ground := Ground.guard }], guard := some (23, true) }) rfl (fun K hK => ?_) AllReadyH.nil
    go_simp
    refine (NU.out _ (K2.out _ hH.out).1).mono ?_
    rintro e W_2 ⟨rfl, rfl⟩
    refine hK.out _ _ ?_ (fun hH' => ?_)
    · exact hH
    clear hK K hH
    have hH := hH'
    clear hH'
    try simp only [Act.put, List.setIfInBounds_toArray, List.set_cons_zero, List.set_cons_succ]
    refine wpAnyH_take (i := 28) (oi := { dst := some 61, op := Op.binOp BinOp.eql 36 (Operand.tmp 58) (Operand.tmp 60) 36, type := 4, pos := "law.go:57", after := #[{ on := 25, ground := Ground.data }, { on := 27, ground := Ground.data }, { on := 23, ground := Ground.guard }], guard := some (23, true) }) (v := ?_) rfl (by kernel_rfl) (by kernel_rfl) (by kernel_rfl) (fun _ _ _ h => h) (Or.inl ⟨by rfl, ?_⟩) (by assumption) ?_
    rotate_left
    · (intro w hSw; (try dsimp only at hSw); go_simp; try with_reducible rfl)
    try simp only [Act.put, List.setIfInBounds_toArray, List.set_cons_zero, List.set_cons_succ]
    refine wpAnyH_take (i := 29) (oi := { dst := some 62, op := Op.pick (Operand.tmp 56) (Operand.tmp 61) (Operand.const (Value.bool false)), type := 4, pos := "law.go:57", after := #[{ on := 23, ground := Ground.data }, { on := 28, ground := Ground.data }], guard := none }) (v := ?_) rfl (by kernel_rfl) (by kernel_rfl) (by kernel_rfl) (fun _ _ _ h => h) (Or.inl ⟨by rfl, ?_⟩) (by assumption) ?_
    rotate_left
    · (intro w hSw; (try dsimp only at hSw); go_simp; try with_reducible rfl)
    try simp only [Act.put, List.setIfInBounds_toArray, List.set_cons_zero, List.set_cons_succ]
    refine wpAnyH_take (i := 30) (oi := { dst := some 63, op := Op.move (Operand.tmp 62), type := 4, pos := "law.go:57", after := #[{ on := 29, ground := Ground.data }, { on := 27, ground := Ground.chain }], guard := none }) (v := ?_) rfl (by kernel_rfl) (by kernel_rfl) (by kernel_rfl) (fun _ _ _ h => h) (Or.inl ⟨by rfl, ?_⟩) (by assumption) ?_
    rotate_left
    · (intro w hSw; (try dsimp only at hSw); go_simp; try with_reducible rfl)
    try simp only [Act.put, List.setIfInBounds_toArray, List.set_cons_zero, List.set_cons_succ]
    refine wpAnyH_ready (rs := [31]) (by kernel_rfl) (by simp) ?_
    refine AllReadyH.cons (o := { dst := some 64, op := Op.call { callee := Callee.value (Operand.func 7), args := #[], argTypes := #[] }, type := 4, pos := "law.go:57", after := #[{ on := 30, ground := Ground.chain }, { on := 30, ground := Ground.guard }], guard := some (30, true) }) rfl (fun K hK => ?_) AllReadyH.nil
    go_simp
    refine (AW.out _ (K2.out _ hH.out).2.2.2.2.1).mono ?_
    rintro e W_3 ⟨rfl, b⟩
    refine hK.out _ _ ?_ (fun hH' => ?_)
    · exact KK.out _ _ hH.out b
    clear hK K hH
    have hH := hH'
    clear hH'
    try simp only [Act.put, List.setIfInBounds_toArray, List.set_cons_zero, List.set_cons_succ]
    refine wpAnyH_take (i := 32) (oi := { dst := some 65, op := Op.pick (Operand.tmp 63) (Operand.tmp 64) (Operand.const (Value.bool false)), type := 4, pos := "law.go:57", after := #[{ on := 30, ground := Ground.data }, { on := 31, ground := Ground.data }], guard := none }) (v := ?_) rfl (by kernel_rfl) (by kernel_rfl) (by kernel_rfl) (fun _ _ _ h => h) (Or.inl ⟨by rfl, ?_⟩) (by assumption) ?_
    rotate_left
    · (intro w hSw; (try dsimp only at hSw); go_simp; try with_reducible rfl)
    try simp only [Act.put, List.setIfInBounds_toArray, List.set_cons_zero, List.set_cons_succ]
    refine wpAnyH_take (i := 33) (oi := { dst := some 4, op := Op.assign (Operand.tmp 65), type := 4, pos := "law.go:57", after := #[{ on := 32, ground := Ground.data }, { on := 31, ground := Ground.chain }, { on := 0, ground := Ground.phase }, { on := 1, ground := Ground.phase }, { on := 2, ground := Ground.phase }, { on := 3, ground := Ground.phase }, { on := 4, ground := Ground.phase }, { on := 5, ground := Ground.phase }, { on := 6, ground := Ground.phase }, { on := 7, ground := Ground.phase }, { on := 8, ground := Ground.phase }, { on := 9, ground := Ground.phase }, { on := 10, ground := Ground.phase }, { on := 11, ground := Ground.phase }, { on := 12, ground := Ground.phase }, { on := 13, ground := Ground.phase }, { on := 14, ground := Ground.phase }, { on := 15, ground := Ground.phase }, { on := 16, ground := Ground.phase }, { on := 17, ground := Ground.phase }, { on := 18, ground := Ground.phase }, { on := 19, ground := Ground.phase }, { on := 20, ground := Ground.phase }, { on := 21, ground := Ground.phase }, { on := 22, ground := Ground.phase }, { on := 23, ground := Ground.phase }, { on := 24, ground := Ground.phase }, { on := 25, ground := Ground.phase }, { on := 26, ground := Ground.phase }, { on := 27, ground := Ground.phase }, { on := 28, ground := Ground.phase }, { on := 29, ground := Ground.phase }, { on := 30, ground := Ground.phase }, { on := 31, ground := Ground.phase }, { on := 32, ground := Ground.phase }], guard := none }) (v := ?_) rfl (by kernel_rfl) (by kernel_rfl) (by kernel_rfl) (fun _ _ _ h => h) (Or.inl ⟨by rfl, ?_⟩) (by assumption) ?_
    rotate_left
    · (intro w hSw; (try dsimp only at hSw); go_simp; try with_reducible rfl)
    try simp only [Act.put, List.setIfInBounds_toArray, List.set_cons_zero, List.set_cons_succ]
    refine wpAnyH_done (by kernel_rfl) ?_ _
    refine NoPanic.normal ?_
    go_wp2
    go_ret
    exact ⟨rfl, (K2.out _ hH.out).2.2.2.2.2⟩
  · have AW := Lib.hid (awake_true (w.alloc (.cells (mk .u8 32 F) 27)) (hT.below ((Below.refl w.heap.size w).alloc (Nat.le_refl _) (.cells (mk .u8 32 F) 27)) hT.1))
    have hb' : 200 < s.size := by omega
    clear r0 G0 hF hT
    go_enter Tryd.func5, Tryd.ntmps5
    go_wp2_with fail
    refine AW.out.mono ?_
    rintro e w' ⟨rfl, b⟩
    go_wp2
    go_ret
    exact ⟨rfl, ((Below.refl _ _).alloc (Nat.le_refl _) _).trans (b.mono (by simp))⟩
end Go.Proofs.YtbdahkbgjbaenaaDoor

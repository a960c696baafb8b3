import Derived.Test.YtncjncacfagldaaGreatDoorYWXN
import Derived.Laws.Tables
import Derived.Laws.Rows
import Derived.StillTailTactics
namespace Go.Proofs.YtncjncacfagldaaGreatDoor
open Go.RowKit Go.Lib

theorem set7_0 {w : World} {b : Nat} {c0 c1 c2 c3 c4 c5 c6 : Value} {t : TypeId} (h : w.heap[b]? = some (.cells #[c0, c1, c2, c3, c4, c5, c6] t (0, 0))) (v : Value) : (w.setCell ⟨b, 0, none⟩ v).heap[b]? = some (.cells #[v, c1, c2, c3, c4, c5, c6] t (0, 0)) := by
 rw [heap_setCell_same _ b 0 _ _ _ h]; rfl
theorem set7_1 {w : World} {b : Nat} {c0 c1 c2 c3 c4 c5 c6 : Value} {t : TypeId} (h : w.heap[b]? = some (.cells #[c0, c1, c2, c3, c4, c5, c6] t (0, 0))) (v : Value) : (w.setCell ⟨b, 1, none⟩ v).heap[b]? = some (.cells #[c0, v, c2, c3, c4, c5, c6] t (0, 0)) := by
 rw [heap_setCell_same _ b 1 _ _ _ h]; rfl
theorem set7_2 {w : World} {b : Nat} {c0 c1 c2 c3 c4 c5 c6 : Value} {t : TypeId} (h : w.heap[b]? = some (.cells #[c0, c1, c2, c3, c4, c5, c6] t (0, 0))) (v : Value) : (w.setCell ⟨b, 2, none⟩ v).heap[b]? = some (.cells #[c0, c1, v, c3, c4, c5, c6] t (0, 0)) := by
 rw [heap_setCell_same _ b 2 _ _ _ h]; rfl
theorem set7_3 {w : World} {b : Nat} {c0 c1 c2 c3 c4 c5 c6 : Value} {t : TypeId} (h : w.heap[b]? = some (.cells #[c0, c1, c2, c3, c4, c5, c6] t (0, 0))) (v : Value) : (w.setCell ⟨b, 3, none⟩ v).heap[b]? = some (.cells #[c0, c1, c2, v, c4, c5, c6] t (0, 0)) := by
 rw [heap_setCell_same _ b 3 _ _ _ h]; rfl
theorem set7_4 {w : World} {b : Nat} {c0 c1 c2 c3 c4 c5 c6 : Value} {t : TypeId} (h : w.heap[b]? = some (.cells #[c0, c1, c2, c3, c4, c5, c6] t (0, 0))) (v : Value) : (w.setCell ⟨b, 4, none⟩ v).heap[b]? = some (.cells #[c0, c1, c2, c3, v, c5, c6] t (0, 0)) := by
 rw [heap_setCell_same _ b 4 _ _ _ h]; rfl
theorem set7_5 {w : World} {b : Nat} {c0 c1 c2 c3 c4 c5 c6 : Value} {t : TypeId} (h : w.heap[b]? = some (.cells #[c0, c1, c2, c3, c4, c5, c6] t (0, 0))) (v : Value) : (w.setCell ⟨b, 5, none⟩ v).heap[b]? = some (.cells #[c0, c1, c2, c3, c4, v, c6] t (0, 0)) := by
 rw [heap_setCell_same _ b 5 _ _ _ h]; rfl
theorem set7_6 {w : World} {b : Nat} {c0 c1 c2 c3 c4 c5 c6 : Value} {t : TypeId} (h : w.heap[b]? = some (.cells #[c0, c1, c2, c3, c4, c5, c6] t (0, 0))) (v : Value) : (w.setCell ⟨b, 6, none⟩ v).heap[b]? = some (.cells #[c0, c1, c2, c3, c4, c5, v] t (0, 0)) := by
 rw [heap_setCell_same _ b 6 _ _ _ h]; rfl
theorem set7 {w : World} {b : Nat} {c0 c1 c2 c3 c4 c5 c6 : Value} {t : TypeId} (h : w.heap[b]? = some (.cells #[c0, c1, c2, c3, c4, c5, c6] t (0, 0))) (v0 v1 v2 v3 v4 v5 v6 : Value) : (((((((w.setCell ⟨b, 0, none⟩ v0).setCell ⟨b, 1, none⟩ v1).setCell ⟨b, 2, none⟩ v2).setCell ⟨b, 3, none⟩ v3).setCell ⟨b, 4, none⟩ v4).setCell ⟨b, 5, none⟩ v5).setCell ⟨b, 6, none⟩ v6).heap[b]? = some (.cells #[v0, v1, v2, v3, v4, v5, v6] t (0, 0)) :=
 (set7_6 (set7_5 (set7_4 (set7_3 (set7_2 (set7_1 (set7_0 h v0) v1) v2) v3) v4) v5) v6)
theorem set7_ot {w : World} {b k : Nat} (h : k ≠ b) (v0 v1 v2 v3 v4 v5 v6 : Value) : (((((((w.setCell ⟨b, 0, none⟩ v0).setCell ⟨b, 1, none⟩ v1).setCell ⟨b, 2, none⟩ v2).setCell ⟨b, 3, none⟩ v3).setCell ⟨b, 4, none⟩ v4).setCell ⟨b, 5, none⟩ v5).setCell ⟨b, 6, none⟩ v6).heap[k]? = w.heap[k]? := by
 rw [heap_setCell_other _ _ _ _ h, heap_setCell_other _ _ _ _ h, heap_setCell_other _ _ _ _ h, heap_setCell_other _ _ _ _ h, heap_setCell_other _ _ _ _ h, heap_setCell_other _ _ _ _ h, heap_setCell_other _ _ _ _ h]
theorem set7_b {w0 w : World} {b n : Nat} (h : Below n w0 w) (hb : n ≤ b) (v0 v1 v2 v3 v4 v5 v6 : Value) : Below n w0 (((((((w.setCell ⟨b, 0, none⟩ v0).setCell ⟨b, 1, none⟩ v1).setCell ⟨b, 2, none⟩ v2).setCell ⟨b, 3, none⟩ v3).setCell ⟨b, 4, none⟩ v4).setCell ⟨b, 5, none⟩ v5).setCell ⟨b, 6, none⟩ v6) := (((((((h.setCell (p := ⟨b, 0, none⟩) hb _).setCell (p := ⟨b, 1, none⟩) hb _).setCell (p := ⟨b, 2, none⟩) hb _).setCell (p := ⟨b, 3, none⟩) hb _).setCell (p := ⟨b, 4, none⟩) hb _).setCell (p := ⟨b, 5, none⟩) hb _).setCell (p := ⟨b, 6, none⟩) hb _)
open Go.RowKit Go.Lib

theorem step_store_row {ops : Array Oper} {o : Oper} {a : Act} {w : World} {KK : Act → World → Prop} {Q : Exit → Act → World → Prop} {E : Prop} (hgd : o.guard = none) (ty : TypeId) (x y : Operand) (ho : o.op = .store ty x y)
 (g : Nat) (hx : a.eval x = .pointer (some ⟨g, 0, none⟩)) (cells : Array Value) (hy : a.eval y = .agg cells) (t : TypeId) (old : Array Value) (hg : w.heap[g]? = some (.cells old t (0, 0)))
 (hi : (Tryz.prog.info? ty).map (·.size) = some cells.size) (hold : old.size = cells.size) (h1 : cells.all (·.oneCell') = true)
 (h : KK (a.put o.dst undef) (w.setRow g cells)) : if Region.wanted o (yielded ops a.tmps) = true then Oper.wp Tryz.prog o a w KK Q else E := by
 have hw : Region.wanted o (yielded ops a.tmps) = true := by simp [Region.wanted, hgd]
 rw [if_pos hw]
 unfold Oper.wp execOp
 simp only [ho, hx, hy, Instr.storeAt, Instr.sureAddr, Sem.run_bind, Sem.run_pure, Result.andThen_ok, run_storeVar_row w g t ty old cells hg hi hold h1]
 exact h
theorem Below.row {n : Nat} {w0 w : World} {b : Nat} (h : Below n w0 w) (hb : n ≤ b) (cs : Array Value) : Below n w0 (w.setRow b cs) :=
 ⟨h.os, h.tape, h.output, by rw [size_setRow]; exact h.size, fun k hk => (setRow_other w b k cs (by omega)).trans (h.block k hk)⟩
theorem info22 {c : Array Value} (h : c.size = 22) : (Tryz.prog.info? 40).map (·.size) = some c.size := by rw [h]; kernel_rfl
theorem info36 {c : Array Value} (h : c.size = 5) : (Tryz.prog.info? 53).map (·.size) = some c.size := by rw [h]; kernel_rfl
theorem results_rows {fn : Func} {p q : Tmp} (h : fn.results = #[.cell p 40, .cell q 53]) (tmps : Array Value) (w : World) (g g2 : Nat) (cs ds : Array Value)
 (hp : tmps.getD p undef = .pointer (some ⟨g, 0, none⟩)) (hq : tmps.getD q undef = .pointer (some ⟨g2, 0, none⟩)) (hg : w.heap[g]? = some (.cells cs 40 (0, 0))) (hg2 : w.heap[g2]? = some (.cells ds 53 (0, 0)))
 (hi : cs.size = 22) (hi2 : ds.size = 5) :
 (results fn tmps).run Tryz.prog w = .ok (.tuple #[.agg cs, .agg ds]) w := by
 have hp' : tmps[p]?.getD undef = .pointer (some ⟨g, 0, none⟩) := by simpa using hp
 have hq' : tmps[q]?.getD undef = .pointer (some ⟨g2, 0, none⟩) := by simpa using hq
 have e1 := run_loadVar_row (P := Tryz.prog) w g 40 40 cs (0, 0) _ hg Tryz.underlying40 rfl (info22 hi)
 have e2 := run_loadVar_row (P := Tryz.prog) w g2 53 53 ds (0, 0) _ hg2 Tryz.underlying53 rfl (info36 hi2)
 simp [results, h, hp', hq', asAddr, e1, e2, Sem.run_bind, Result.andThen]
open Go.RowKit Go.Lib
attribute [local go_sem] field66_0 field66_1 field66_3 field66_4

set_option maxRecDepth 100000 in
set_option maxHeartbeats 1000000 in
theorem kat_any {w : World} {R : Nat} {K : Kz} (h : Kt w R K) (hw : K.n0 ≤ w.heap.size) {i : Nat} (hi : i < K.acc.length) : Calls Tryz.prog 156 #[K.vl, .int .i64 i] w fun e w' => e = .returned (tv (K.tz i)) ∧ Below w.heap.size w w' := by
 obtain ⟨b, o, cap, e, hb, h1, h2, c0, c1, c2, c3, c4, c5, c6⟩ := h.at hi
 rw [e]
 have HB := qh hb
 unfold maxLen at h2
 have k1 : (i : Int) < (K.acc.length : Int) := by omega
 have k2 : ¬ (i : Int) < 0 := by omega
 have hb1 : b < w.heap.size := Nat.lt_of_lt_of_le hb.1 hw
 generalize K.tz i = x at *
 generalize K.acc.length = n at *
 clear hb h e
 go_enter Tryz.func156, Tryz.ntmps156
 go_wp2
 exact bodyPost_ret (v := tv x) (by simp [results, Tryz.results156, go_sem]) rfl ⟨rfl, (Below.refl _ _).alloc (Nat.le_refl _) _⟩
set_option maxRecDepth 100000 in
set_option maxHeartbeats 1000000 in
theorem next_any {w : World} {R : Nat} {K : Kz} {p : Nat} (h : Kd w R K p) (hi : p < K.acc.length) : Calls Tryz.prog 124 #[.pointer (some ⟨R, 0, none⟩)] w fun e w' => e = .returned (tv (K.tz p)) ∧ Below w.heap.size w w' := by
 have AT : Hid (∀ W, Below w.heap.size w W → Calls Tryz.prog 156 #[K.vl, .int .i64 p] W fun e w' => e = .returned (tv (K.tz p)) ∧ Below W.heap.size W w') := fun W hW => kat_any (h.below hW).kt (h.below hW).nn hi
 obtain ⟨⟨r0, r1⟩, -, hR⟩ := rc2 h.blk
 clear h hi
 generalize K.vl = vl at *
 generalize K.tz p = x at *
 have B1 : Below w.heap.size w (w.alloc (.cells #[.int .i64 0, .string ⟨#[]⟩, .int .i64 0, .slice none 0 0, .int .i64 0, .int .i64 0, .int .i64 0] 89)) := (Below.refl _ _).alloc (Nat.le_refl _) _
 have R1 := qh (heap_alloc_new w (.cells #[.int .i64 0, .string ⟨#[]⟩, .int .i64 0, .slice none 0 0, .int .i64 0, .int .i64 0, .int .i64 0] 89))
 have HB1 := qh B1
 have rr0 := (B1.cell (p := ⟨R, 0, none⟩) hR).trans r0
 have rr1 := (B1.cell (p := ⟨R, 1, none⟩) hR).trans r1
 have hR1 : R < (w.alloc (.cells #[.int .i64 0, .string ⟨#[]⟩, .int .i64 0, .slice none 0 0, .int .i64 0, .int .i64 0, .int .i64 0] 89)).heap.size := Nat.lt_of_lt_of_le hR B1.size
 clear B1
 have HR0 := qh hR
 go_enter Tryz.func124, Tryz.ntmps124
 go_upto_region 1 with fail
 clear r0 r1 hR
 generalize w.alloc (Obj.cells #[.int .i64 0, .string ⟨#[]⟩, .int .i64 0, .slice none 0 0, .int .i64 0, .int .i64 0, .int .i64 0] 89) = w1 at *
 have HRG0 : Hid (R ≠ w.heap.size) := Nat.ne_of_lt HR0.out
 obtain ⟨g, hg⟩ : ∃ g, w.heap.size = g := ⟨_, rfl⟩
 have HGE := qh hg
 rw [hg] at R1 ⊢
 have HRG : Hid (R ≠ g) := by rw [← hg]; exact HRG0.out
 clear HRG0 HR0 hg
 refine wp_region_noPanic ?_
 refine wp_region_held_drew (S := (fun W => (∀ o, W.cell? ⟨R, o, none⟩ = w1.cell? ⟨R, o, none⟩) ∧ R < W.heap.size ∧ Hid (Below w.heap.size w W) ∧ Hid (∃ c0 c1 c2 c3 c4 c5 c6, W.heap[g]? = some (.cells #[c0, c1, c2, c3, c4, c5, c6] 89 (0, 0))))) (by kernel_rfl) ?_ (fun hH => ?_)
 · exact ⟨fun _ => rfl, hR1, HB1.out.drew, ⟨_, _, _, _, _, _, _, R1.out⟩⟩
 refine wpAnyH_take (i := 0) (oi := { dst := some 3, op := Op.move (Operand.tmp 0), type := 132, pos := _, after := _, guard := none }) (v := ?_) rfl (by kernel_rfl) (by kernel_rfl) (by kernel_rfl) (fun _ _ _ h => h) (Or.inl ⟨by rfl, ?_⟩) (by assumption) ?_
 rotate_left
 · (intro w hSw; (try dsimp only at hSw); go_simp; try with_reducible rfl)
 try simp only [Act.put, sqa, sqb, sqc]
 refine wpAnyH_take (i := 1) (oi := { dst := some 4, op := Op.nilCheck (Operand.tmp 3), type := 0, pos := _, after := _, guard := none }) (v := ?_) rfl (by kernel_rfl) (by kernel_rfl) (by kernel_rfl) (fun _ _ _ h => h) (Or.inl ⟨by rfl, ?_⟩) (by assumption) ?_
 rotate_left
 · (intro w hSw; (try dsimp only at hSw); go_simp; try with_reducible rfl)
 try simp only [Act.put, sqa, sqb, sqc]
 refine wpAnyH_take (i := 2) (oi := { dst := some 5, op := Op.fieldAddr 95 (Operand.tmp 4) 0, type := 0, pos := _, after := _, guard := none }) (v := ?_) rfl (by kernel_rfl) (by kernel_rfl) (by kernel_rfl) (fun _ _ _ h => h) (Or.inl ⟨by rfl, ?_⟩) (by assumption) ?_
 rotate_left
 · (intro w hSw; (try dsimp only at hSw); go_simp; try with_reducible rfl)
 try simp only [Act.put, sqa, sqb, sqc]
 refine wpAnyH_take (i := 3) (oi := { dst := some 6, op := Op.load 92 (Operand.tmp 5), type := 92, pos := _, after := _, guard := none }) (v := ?_) rfl (by kernel_rfl) (by kernel_rfl) (by kernel_rfl) (fun _ _ _ h => h) (Or.inl ⟨by rfl, ?_⟩) (by assumption) ?_
 rotate_left
 · (intro w hSw; (try dsimp only at hSw); go_simp; try with_reducible rfl)
 try simp only [Act.put, sqa, sqb, sqc]
 refine wpAnyH_take (i := 4) (oi := { dst := some 7, op := Op.move (Operand.tmp 0), type := 132, pos := _, after := _, guard := none }) (v := ?_) rfl (by kernel_rfl) (by kernel_rfl) (by kernel_rfl) (fun _ _ _ h => h) (Or.inl ⟨by rfl, ?_⟩) (by assumption) ?_
 rotate_left
 · (intro w hSw; (try dsimp only at hSw); go_simp; try with_reducible rfl)
 try simp only [Act.put, sqa, sqb, sqc]
 refine wpAnyH_take (i := 5) (oi := { dst := some 8, op := Op.nilCheck (Operand.tmp 7), type := 0, pos := _, after := _, guard := none }) (v := ?_) rfl (by kernel_rfl) (by kernel_rfl) (by kernel_rfl) (fun _ _ _ h => h) (Or.inl ⟨by rfl, ?_⟩) (by assumption) ?_
 rotate_left
 · (intro w hSw; (try dsimp only at hSw); go_simp; try with_reducible rfl)
 try simp only [Act.put, sqa, sqb, sqc]
 refine wpAnyH_take (i := 6) (oi := { dst := some 9, op := Op.fieldAddr 95 (Operand.tmp 8) 1, type := 0, pos := _, after := _, guard := none }) (v := ?_) rfl (by kernel_rfl) (by kernel_rfl) (by kernel_rfl) (fun _ _ _ h => h) (Or.inl ⟨by rfl, ?_⟩) (by assumption) ?_
 rotate_left
 · (intro w hSw; (try dsimp only at hSw); go_simp; try with_reducible rfl)
 try simp only [Act.put, sqa, sqb, sqc]
 refine wpAnyH_take (i := 7) (oi := { dst := some 10, op := Op.load 93 (Operand.tmp 9), type := 93, pos := _, after := _, guard := none }) (v := ?_) rfl (by kernel_rfl) (by kernel_rfl) (by kernel_rfl) (fun _ _ _ h => h) (Or.inl ⟨by rfl, ?_⟩) (by assumption) ?_
 rotate_left
 · (intro w hSw; (try dsimp only at hSw); go_simp; try with_reducible rfl)
 try simp only [Act.put, sqa, sqb, sqc]
 refine wpAnyH_ready (rs := [8]) (by kernel_rfl) (by simp) ?_
 refine AllReadyH.cons (o := { dst := some 11, op := Op.call { callee := Callee.value (Operand.func 156), args := #[Operand.tmp 6, Operand.tmp 10], argTypes := #[92, 93] }, type := 89, pos := _, after := _, guard := none }) rfl (fun K hK => ?_) AllReadyH.nil
 go_simp
 refine (AT.out _ hH.2.2.1.out).mono ?_
 rintro e0 w2 ⟨rfl, b2⟩
 refine hK.out _ _ ?_ (fun hH' => ?_)
 · obtain ⟨c0, c1, c2, c3, c4, c5, c6, hc⟩ := hH.2.2.2.out; exact ⟨fun o => (b2.cell (p := ⟨R, o, none⟩) hH.2.1).trans (hH.1 o), Nat.lt_of_lt_of_le hH.2.1 b2.size, hH.2.2.1.out.trans (b2.mono hH.2.2.1.out.size), ⟨c0, c1, c2, c3, c4, c5, c6, (b2.block _ (Array.getElem?_eq_some_iff.1 hc).1).trans hc⟩⟩
 clear b2
 clear hK K hH
 have hH := hH'
 clear hH'
 try simp only [Act.put, sqa, sqb, sqc]
 refine wpAnyH_ready (rs := [9]) (by kernel_rfl) (by simp) ?_
 refine AllReadyH.cons (o := { dst := none, op := Op.store 89 (Operand.tmp 2) (Operand.tmp 11), type := 0, pos := _, after := _, guard := none }) rfl (fun K hK => ?_) AllReadyH.nil
 obtain ⟨c0, c1, c2, c3, c4, c5, c6, hc⟩ := hH.2.2.2.out
 obtain ⟨⟨y0, y1, y2, y3, y4, y5, y6⟩, ⟨gy0, gy1, gy2, gy3, gy4, gy5, gy6⟩, hby⟩ := rc7 hc
 go_simp
 have SB : Below w.heap.size w (((((((w2.setCell ⟨g, 0, none⟩ (.int .i64 x.1.k)).setCell ⟨g, 1, none⟩ (.string (tx x.1.s))).setCell ⟨g, 2, none⟩ (.int .i64 x.1.n)).setCell ⟨g, 3, none⟩ (.slice x.2.1 x.1.ps.length x.2.2)).setCell ⟨g, 4, none⟩ (.int .i64 x.1.p.a)).setCell ⟨g, 5, none⟩ (.int .i64 x.1.p.l)).setCell ⟨g, 6, none⟩ (.int .i64 x.1.p.c)) := set7_b hH.2.2.1.out (Nat.le_of_eq HGE.out) (.int .i64 x.1.k) (.string (tx x.1.s)) (.int .i64 x.1.n) (.slice x.2.1 x.1.ps.length x.2.2) (.int .i64 x.1.p.a) (.int .i64 x.1.p.l) (.int .i64 x.1.p.c)
 have S9 := set7 hc (.int .i64 x.1.k) (.string (tx x.1.s)) (.int .i64 x.1.n) (.slice x.2.1 x.1.ps.length x.2.2) (.int .i64 x.1.p.a) (.int .i64 x.1.p.l) (.int .i64 x.1.p.c)
 have hne : R ≠ g := by intro e; exact HRG.out e
 have S8 : (((((((w2.setCell ⟨g, 0, none⟩ (.int .i64 x.1.k)).setCell ⟨g, 1, none⟩ (.string (tx x.1.s))).setCell ⟨g, 2, none⟩ (.int .i64 x.1.n)).setCell ⟨g, 3, none⟩ (.slice x.2.1 x.1.ps.length x.2.2)).setCell ⟨g, 4, none⟩ (.int .i64 x.1.p.a)).setCell ⟨g, 5, none⟩ (.int .i64 x.1.p.l)).setCell ⟨g, 6, none⟩ (.int .i64 x.1.p.c)).heap[R]? = w2.heap[R]? := set7_ot hne (.int .i64 x.1.k) (.string (tx x.1.s)) (.int .i64 x.1.n) (.slice x.2.1 x.1.ps.length x.2.2) (.int .i64 x.1.p.a) (.int .i64 x.1.p.l) (.int .i64 x.1.p.c)
 have SS : w2.heap.size ≤ (((((((w2.setCell ⟨g, 0, none⟩ (.int .i64 x.1.k)).setCell ⟨g, 1, none⟩ (.string (tx x.1.s))).setCell ⟨g, 2, none⟩ (.int .i64 x.1.n)).setCell ⟨g, 3, none⟩ (.slice x.2.1 x.1.ps.length x.2.2)).setCell ⟨g, 4, none⟩ (.int .i64 x.1.p.a)).setCell ⟨g, 5, none⟩ (.int .i64 x.1.p.l)).setCell ⟨g, 6, none⟩ (.int .i64 x.1.p.c)).heap.size := (set7_b (b := g) (Below.refl 0 w2) (Nat.zero_le _) (.int .i64 x.1.k) (.string (tx x.1.s)) (.int .i64 x.1.n) (.slice x.2.1 x.1.ps.length x.2.2) (.int .i64 x.1.p.a) (.int .i64 x.1.p.l) (.int .i64 x.1.p.c)).size
 have HS9 := qh S9
 have HSB := qh SB
 clear y0 y1 y2 y3 y4 y5 y6 gy0 gy1 gy2 gy3 gy4 gy5 gy6 hby S9
 generalize (((((((w2.setCell ⟨g, 0, none⟩ (.int .i64 x.1.k)).setCell ⟨g, 1, none⟩ (.string (tx x.1.s))).setCell ⟨g, 2, none⟩ (.int .i64 x.1.n)).setCell ⟨g, 3, none⟩ (.slice x.2.1 x.1.ps.length x.2.2)).setCell ⟨g, 4, none⟩ (.int .i64 x.1.p.a)).setCell ⟨g, 5, none⟩ (.int .i64 x.1.p.l)).setCell ⟨g, 6, none⟩ (.int .i64 x.1.p.c)) = w3 at *
 refine hK.out _ _ ?_ (fun hH' => ?_)
 · exact ⟨fun o => (World.cell?_of_block (w := w2) (w' := w3) S8).trans (hH.1 o), Nat.lt_of_lt_of_le hH.2.1 SS, SB, ⟨_, _, _, _, _, _, _, HS9.out⟩⟩
 clear hK K hH
 have hH := hH'
 clear hH'
 try simp only [Act.put, sqa, sqb, sqc]
 refine wpAnyH_done (by kernel_rfl) ?_ _
 refine NoPanic.normal ?_
 obtain ⟨⟨y0, y1, y2, y3, y4, y5, y6⟩, -, hby⟩ := rc7 HS9.out
 clear hH rr0 rr1 hR1
 go_wp2_with fail
 exact bodyPost_ret (v := tv x) (by simp [results, Tryz.results124, go_sem, y0, y1, y2, y3, y4, y5, y6]) rfl ⟨rfl, HSB.out⟩
end Go.Proofs.YtncjncacfagldaaGreatDoor

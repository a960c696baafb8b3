/- Contracts: Parse. -/
import Derived.Test.YtncjncacfagldaaDoorZd
import Derived.Test.YtncjncacfagldaaDoorZa
import Derived.Test.YtncjncacfagldaaDoorZe
import Derived.Deep.DeepCutAuto
namespace Go.Proofs.YtncjncacfagldaaDoor
open Go.RowKit Go.Lib

def MaxNest : Nat := 24
/-- the parser in plain words: the tree, what is wrong (0: nothing), where -/
noncomputable def parseM (L : List UInt8) : Ex × Nat × Ps :=
  match lexL L with
  | .error (e, p) => (zeroX, e, p.ps)
  | .ok ts => if (judgeC (wholeM ⟨ts, ps0, innM⟩).1 (wholeM ⟨ts, ps0, innM⟩).2 ((ts[0]?).getD tk0).p.ps).1 = 0 then ((wholeM ⟨ts, ps0, innM⟩).1, 0, ps0) else (zeroX, judgeC (wholeM ⟨ts, ps0, innM⟩).1 (wholeM ⟨ts, ps0, innM⟩).2 ((ts[0]?).getD tk0).p.ps)
theorem parseM_err {l : List UInt8} {e : Nat} {p : Plc} (h : lexL l = .error (e, p)) : parseM l = (zeroX, e, p.ps) := by unfold parseM; rw [h]
theorem parseM_ok {l : List UInt8} {ts : List Tkn} (h : lexL l = .ok ts) : parseM l = if (judgeC (wholeM ⟨ts, ps0, innM⟩).1 (wholeM ⟨ts, ps0, innM⟩).2 ((ts[0]?).getD tk0).p.ps).1 = 0 then ((wholeM ⟨ts, ps0, innM⟩).1, 0, ps0) else (zeroX, judgeC (wholeM ⟨ts, ps0, innM⟩).1 (wholeM ⟨ts, ps0, innM⟩).2 ((ts[0]?).getD tk0).p.ps) := by unfold parseM; rw [h]
/-- blocks laid since -/
def Nw (w w' : World) (k : Nat) : Prop := w.heap.size ≤ k ∧ k < w'.heap.size
/-- a tree and what is wrong, as answers -/
def PPost (w : World) (m : Ex × Nat × Ps) (e : Ending) (w' : World) : Prop := ∃ oV cV oK cK o cap, e = .returned (.tuple #[.agg (xc m.1 oV cV oK cK o cap), .agg #[.int .i64 m.2.1, .int .i64 m.2.2.a, .int .i64 m.2.2.l, .int .i64 m.2.2.c, .string ⟨#[]⟩]]) ∧ XP (Nw w w') w' m.1 (.agg (xc m.1 oV cV oK cK o cap)) ∧ Below w.heap.size w w'
theorem xp_zero (P : Nat → Prop) (w : World) : XP P w zeroX (.agg (xc zeroX none 0 none 0 none 0)) := xp_mk 0 ⟨#[]⟩ ⟨#[]⟩ (by decide) (by decide) (by decide) [] 0 0 0 (rowP_nil _ _ _ (fun _ _ => undef)) (fun j x h => by cases h)
theorem inq_lex {n : Nat} {a : List (Tkn × Option Addr × Nat)} {ts : List Tkn} (e : a.map (·.1) = ts) (g : LexG n ts) (vl : Value) (sg n0 : Nat) : Inq ⟨a, vl, sg, ps0, n0⟩ := by
  refine ⟨fun X hX x hx hex => ?_, (by show (-100000000000 : Int) ≤ 0 ∧ (0 : Int) ≤ 100000000000; decide), (by show (-100000000000 : Int) ≤ 0 ∧ (0 : Int) ≤ 100000000000; decide), (by show (-100000000000 : Int) ≤ 0 ∧ (0 : Int) ≤ 100000000000; decide)⟩
  have k := g.el X.1 (by rw [← e]; exact List.mem_map_of_mem hX)
  exact ⟨(k.el x hx).i hex, Nat.le_trans (flat_le hx) (Nat.le_trans k.flat (by decide))⟩
set_option maxRecDepth 100000 in
set_option maxHeartbeats 4000000 in
theorem parse_err {w : World} {s : ByteArray} (hT : Tab w) (hV : Lev w) (h2 : 2 ≤ w.heap.size) (hs : s.size ≤ 32768) {ep : Nat × Plc} (hl : lexL (lb s) = .error ep) : Calls Tryd.prog 9 #[.string s] w (PPost w (parseM (lb s))) := by
  have O1 : Hid ((w.alloc (.cells #[.int .i64 0, .string ⟨#[]⟩, .string ⟨#[]⟩, .int .i64 0, .int .i64 0, .string ⟨#[]⟩, .slice none 0 0, .slice none 0 0, .int .i64 0, .int .i64 0, .bool false, .slice none 0 0, .int .i64 0, .int .i64 0, .int .i64 0] 33)).heap.size = w.heap.size + 1) := by unfold Hid; simp
  have B0 : Below w.heap.size w ((w.alloc (.cells #[.int .i64 0, .string ⟨#[]⟩, .string ⟨#[]⟩, .int .i64 0, .int .i64 0, .string ⟨#[]⟩, .slice none 0 0, .slice none 0 0, .int .i64 0, .int .i64 0, .bool false, .slice none 0 0, .int .i64 0, .int .i64 0, .int .i64 0] 33)).alloc (.cells #[.int .i64 0, .int .i64 0, .int .i64 0, .int .i64 0, .string ⟨#[]⟩] 36)) := ((Below.refl _ _).alloc (Nat.le_refl _) _).alloc (by simp) _
  have k2 : Hid (((w.alloc (.cells #[.int .i64 0, .string ⟨#[]⟩, .string ⟨#[]⟩, .int .i64 0, .int .i64 0, .string ⟨#[]⟩, .slice none 0 0, .slice none 0 0, .int .i64 0, .int .i64 0, .bool false, .slice none 0 0, .int .i64 0, .int .i64 0, .int .i64 0] 33)).alloc (.cells #[.int .i64 0, .int .i64 0, .int .i64 0, .int .i64 0, .string ⟨#[]⟩] 36)).heap[w.heap.size]? = some (.cells #[.int .i64 0, .string ⟨#[]⟩, .string ⟨#[]⟩, .int .i64 0, .int .i64 0, .string ⟨#[]⟩, .slice none 0 0, .slice none 0 0, .int .i64 0, .int .i64 0, .bool false, .slice none 0 0, .int .i64 0, .int .i64 0, .int .i64 0] 33 (0, 0))) := (heap_alloc_old _ _ (by simp)).trans (heap_alloc_new w _)
  have k3 : Hid (((w.alloc (.cells #[.int .i64 0, .string ⟨#[]⟩, .string ⟨#[]⟩, .int .i64 0, .int .i64 0, .string ⟨#[]⟩, .slice none 0 0, .slice none 0 0, .int .i64 0, .int .i64 0, .bool false, .slice none 0 0, .int .i64 0, .int .i64 0, .int .i64 0] 33)).alloc (.cells #[.int .i64 0, .int .i64 0, .int .i64 0, .int .i64 0, .string ⟨#[]⟩] 36)).heap[w.heap.size + 1]? = some (.cells #[.int .i64 0, .int .i64 0, .int .i64 0, .int .i64 0, .string ⟨#[]⟩] 36 (0, 0))) := by rw [← O1.out]; exact heap_alloc_new _ _
  have HB0 := Lib.hid B0
  have HT0 : Hid (Tab ((w.alloc (.cells #[.int .i64 0, .string ⟨#[]⟩, .string ⟨#[]⟩, .int .i64 0, .int .i64 0, .string ⟨#[]⟩, .slice none 0 0, .slice none 0 0, .int .i64 0, .int .i64 0, .bool false, .slice none 0 0, .int .i64 0, .int .i64 0, .int .i64 0] 33)).alloc (.cells #[.int .i64 0, .int .i64 0, .int .i64 0, .int .i64 0, .string ⟨#[]⟩] 36)) ∧ Lev ((w.alloc (.cells #[.int .i64 0, .string ⟨#[]⟩, .string ⟨#[]⟩, .int .i64 0, .int .i64 0, .string ⟨#[]⟩, .slice none 0 0, .slice none 0 0, .int .i64 0, .int .i64 0, .bool false, .slice none 0 0, .int .i64 0, .int .i64 0, .int .i64 0] 33)).alloc (.cells #[.int .i64 0, .int .i64 0, .int .i64 0, .int .i64 0, .string ⟨#[]⟩] 36)) ∧ 2 ≤ w.heap.size) := ⟨hT.at (B0.block 0 (by omega)), hV.at (B0.block 1 (by omega)), h2⟩
  have HS := Lib.hid hs
  clear hT hV h2 hs B0 O1
  go_enter Tryd.func9, Tryd.ntmps9
  go_upto_region 1 with fail
  generalize (w.alloc (Obj.cells #[.int .i64 0, .string ⟨#[]⟩, .string ⟨#[]⟩, .int .i64 0, .int .i64 0, .string ⟨#[]⟩, .slice none 0 0, .slice none 0 0, .int .i64 0, .int .i64 0, .bool false, .slice none 0 0, .int .i64 0, .int .i64 0, .int .i64 0] 33)).alloc (Obj.cells #[.int .i64 0, .int .i64 0, .int .i64 0, .int .i64 0, .string ⟨#[]⟩] 36) = w0 at *
  go_wp2_with fail
  refine (all_any HT0.out.1 HS.out).mono ?_
  rintro e w1 ⟨b1, hm⟩
  have HB1 := Lib.hid (HB0.out.trans (b1.mono HB0.out.size))
  have k2' := Lib.hid ((b1.block _ (Array.getElem?_eq_some_iff.1 k2.out).1).trans k2.out)
  have k3' := Lib.hid ((b1.block _ (Array.getElem?_eq_some_iff.1 k3.out).1).trans k3.out)
  have HT1 : Hid (Tab w1 ∧ Lev w1 ∧ 2 ≤ w1.heap.size) := ⟨HT0.out.1.at (b1.block 0 (by have := HB0.out.size; have := HT0.out.2.2; omega)), HT0.out.2.1.at (b1.block 1 (by have := HB0.out.size; have := HT0.out.2.2; omega)), by have := HB1.out.size; have := HT0.out.2.2; omega⟩
  clear k2 k3 HB0 HT0 b1
  have k2 := k2'
  have k3 := k3'
  clear k2' k3'
  obtain ⟨e, p⟩ := ep
  rw [hl] at hm
  dsimp only at hm
  subst hm
  have HI : Hid (parseM (lb s) = (zeroX, e, p.ps)) := parseM_err hl
  have HNZ := Lib.hid (lexL_nz hl)
  clear hl
  have en : ((e : Int) != 0) = true := by rw [bne_iff_ne]; have := HNZ.out.1; omega
  generalize parseM (lb s) = PM at *
  go_upto_region 2 with fail
  have c4 := heap_alloc_new w1 (.cells #[.int .i64 (e : Int), .int .i64 p.a, .int .i64 p.l, .int .i64 p.c, .string ⟨#[]⟩] 36)
  have B4 : Below w1.heap.size w1 (w1.alloc (.cells #[.int .i64 (e : Int), .int .i64 p.a, .int .i64 p.l, .int .i64 p.c, .string ⟨#[]⟩] 36)) := (Below.refl _ _).alloc (Nat.le_refl _) _
  have HB4 := Lib.hid (HB1.out.trans (B4.mono HB1.out.size))
  have HX4 := Lib.hid B4
  have j2 := Lib.hid ((B4.block _ (Array.getElem?_eq_some_iff.1 k2.out).1).trans k2.out)
  have j3 := Lib.hid ((B4.block _ (Array.getElem?_eq_some_iff.1 k3.out).1).trans k3.out)
  have HD4 := Lib.hid c4
  have HL1 : Hid (w.heap.size ≤ w1.heap.size) := HB1.out.size
  have hN1 : w.heap.size < w1.heap.size ∧ w.heap.size + 1 < w1.heap.size := ⟨(Array.getElem?_eq_some_iff.1 k2.out).1, (Array.getElem?_eq_some_iff.1 k3.out).1⟩
  have HN1 := Lib.hid hN1
  clear hN1 k2 k3 c4 B4 HB1
  generalize w1.alloc (Obj.cells #[.int .i64 (e : Int), .int .i64 p.a, .int .i64 p.l, .int .i64 p.c, .string ⟨#[]⟩] 36) = w4 at *
  generalize w1.heap.size = b5 at *
  obtain ⟨⟨d0, d1, d2, d3, d4⟩, -, hbd⟩ := rc5 HD4.out
  obtain ⟨⟨x0, x1, x2, x3, x4, x5, x6, x7, x8, x9, x10, x11, x12, x13, x14⟩, gx, hb2⟩ := rc15 j2.out
  obtain ⟨⟨y0, y1, y2, y3, y4⟩, ⟨gy0, gy1, gy2, gy3, gy4⟩, hb3⟩ := rc5 j3.out
  have gx0 := gx 0
  have gx1 := gx 1
  have gx2 := gx 2
  have gx3 := gx 3
  have gx4 := gx 4
  have gx5 := gx 5
  have gx6 := gx 6
  have gx7 := gx 7
  have gx8 := gx 8
  have gx9 := gx 9
  have gx10 := gx 10
  have gx11 := gx 11
  have gx12 := gx 12
  have gx13 := gx 13
  have gx14 := gx 14
  clear gx
  go_wp2_with fail
  have nb1 := HN1.out.1
  have nb2 := HN1.out.2
  go_region
  clear d0 d1 d2 d3 d4 hbd x0 x1 x2 x3 x4 x5 x6 x7 x8 x9 x10 x11 x12 x13 x14 hb2 y0 y1 y2 y3 y4 hb3 gy0 gy1 gy2 gy3 gy4 gx0 gx1 gx2 gx3 gx4 gx5 gx6 gx7 gx8 gx9 gx10 gx11 gx12 gx13 gx14
  have r33 := (set5_o (show w.heap.size ≠ w.heap.size + 1 by omega) (.int .i64 (e : Int)) (.int .i64 p.a) (.int .i64 p.l) (.int .i64 p.c) (.string ⟨#[]⟩)).trans (set15 j2.out (.int .i64 0) (.string ⟨#[]⟩) (.string ⟨#[]⟩) (.int .i64 0) (.int .i64 0) (.string ⟨#[]⟩) (.slice none 0 0) (.slice none 0 0) (.int .i64 0) (.int .i64 0) (.bool false) (.slice none 0 0) (.int .i64 0) (.int .i64 0) (.int .i64 0))
  have r36 := set5 ((set15_o (show w.heap.size + 1 ≠ w.heap.size by omega) (.int .i64 0) (.string ⟨#[]⟩) (.string ⟨#[]⟩) (.int .i64 0) (.int .i64 0) (.string ⟨#[]⟩) (.slice none 0 0) (.slice none 0 0) (.int .i64 0) (.int .i64 0) (.bool false) (.slice none 0 0) (.int .i64 0) (.int .i64 0) (.int .i64 0)).trans j3.out) (.int .i64 (e : Int)) (.int .i64 p.a) (.int .i64 p.l) (.int .i64 p.c) (.string ⟨#[]⟩)
  have b5 := (set5_b (set15_b HB4.out (Nat.le_refl _) (.int .i64 0) (.string ⟨#[]⟩) (.string ⟨#[]⟩) (.int .i64 0) (.int .i64 0) (.string ⟨#[]⟩) (.slice none 0 0) (.slice none 0 0) (.int .i64 0) (.int .i64 0) (.bool false) (.slice none 0 0) (.int .i64 0) (.int .i64 0) (.int .i64 0)) (Nat.le_succ _) (.int .i64 (e : Int)) (.int .i64 p.a) (.int .i64 p.l) (.int .i64 p.c) (.string ⟨#[]⟩))
  generalize ((((((((((((((((((((w4.setCell ⟨w.heap.size, 0, none⟩ (.int .i64 0)).setCell ⟨w.heap.size, 1, none⟩ (.string ⟨#[]⟩)).setCell ⟨w.heap.size, 2, none⟩ (.string ⟨#[]⟩)).setCell ⟨w.heap.size, 3, none⟩ (.int .i64 0)).setCell ⟨w.heap.size, 4, none⟩ (.int .i64 0)).setCell ⟨w.heap.size, 5, none⟩ (.string ⟨#[]⟩)).setCell ⟨w.heap.size, 6, none⟩ (.slice none 0 0)).setCell ⟨w.heap.size, 7, none⟩ (.slice none 0 0)).setCell ⟨w.heap.size, 8, none⟩ (.int .i64 0)).setCell ⟨w.heap.size, 9, none⟩ (.int .i64 0)).setCell ⟨w.heap.size, 10, none⟩ (.bool false)).setCell ⟨w.heap.size, 11, none⟩ (.slice none 0 0)).setCell ⟨w.heap.size, 12, none⟩ (.int .i64 0)).setCell ⟨w.heap.size, 13, none⟩ (.int .i64 0)).setCell ⟨w.heap.size, 14, none⟩ (.int .i64 0)).setCell ⟨(w.heap.size + 1), 0, none⟩ (.int .i64 (e : Int))).setCell ⟨(w.heap.size + 1), 1, none⟩ (.int .i64 p.a)).setCell ⟨(w.heap.size + 1), 2, none⟩ (.int .i64 p.l)).setCell ⟨(w.heap.size + 1), 3, none⟩ (.int .i64 p.c)).setCell ⟨(w.heap.size + 1), 4, none⟩ (.string ⟨#[]⟩)) = w5x at *
  have r33' : w5x.drew.heap[w.heap.size]? = some (.cells #[.int .i64 0, .string ⟨#[]⟩, .string ⟨#[]⟩, .int .i64 0, .int .i64 0, .string ⟨#[]⟩, .slice none 0 0, .slice none 0 0, .int .i64 0, .int .i64 0, .bool false, .slice none 0 0, .int .i64 0, .int .i64 0, .int .i64 0] 33 (0, 0)) := r33
  have r36' : w5x.drew.heap[w.heap.size + 1]? = some (.cells #[.int .i64 (e : Int), .int .i64 p.a, .int .i64 p.l, .int .i64 p.c, .string ⟨#[]⟩] 36 (0, 0)) := r36
  have HB5 := Lib.hid b5.drew
  clear r33 r36 b5
  generalize w5x.drew = w5 at *
  have r33 := r33'
  have r36 := r36'
  clear r33' r36'
  obtain ⟨⟨x0, x1, x2, x3, x4, x5, x6, x7, x8, x9, x10, x11, x12, x13, x14⟩, -, hb2⟩ := rc15 r33
  obtain ⟨⟨y0, y1, y2, y3, y4⟩, -, hb3⟩ := rc5 r36
  go_wp2_with fail
  exact bodyPost_ret (v := .tuple #[.agg #[.int .i64 0, .string ⟨#[]⟩, .string ⟨#[]⟩, .int .i64 0, .int .i64 0, .string ⟨#[]⟩, .slice none 0 0, .slice none 0 0, .int .i64 0, .int .i64 0, .bool false, .slice none 0 0, .int .i64 0, .int .i64 0, .int .i64 0], .agg #[.int .i64 e, .int .i64 p.a, .int .i64 p.l, .int .i64 p.c, .string ⟨#[]⟩]]) (by simp [results, Tryd.results9, go_sem, x0, x1, x2, x3, x4, x5, x6, x7, x8, x9, x10, x11, x12, x13, x14, y0, y1, y2, y3, y4]) rfl (by rw [HI.out]; exact ⟨none, 0, none, 0, none, 0, rfl, xp_zero _ _, HB5.out⟩)
set_option maxRecDepth 100000 in
set_option maxHeartbeats 4000000 in
theorem parse_ok {w : World} {s : ByteArray} (hT : Tab w) (hV : Lev w) (h2 : 2 ≤ w.heap.size) (hs : s.size ≤ 32768) {ts : List Tkn} (hl : lexL (lb s) = .ok ts) : Calls Tryd.prog 9 #[.string s] w (PPost w (parseM (lb s))) := by
  have O1 : Hid ((w.alloc (.cells #[.int .i64 0, .string ⟨#[]⟩, .string ⟨#[]⟩, .int .i64 0, .int .i64 0, .string ⟨#[]⟩, .slice none 0 0, .slice none 0 0, .int .i64 0, .int .i64 0, .bool false, .slice none 0 0, .int .i64 0, .int .i64 0, .int .i64 0] 33)).heap.size = w.heap.size + 1) := by unfold Hid; simp
  have B0 : Below w.heap.size w ((w.alloc (.cells #[.int .i64 0, .string ⟨#[]⟩, .string ⟨#[]⟩, .int .i64 0, .int .i64 0, .string ⟨#[]⟩, .slice none 0 0, .slice none 0 0, .int .i64 0, .int .i64 0, .bool false, .slice none 0 0, .int .i64 0, .int .i64 0, .int .i64 0] 33)).alloc (.cells #[.int .i64 0, .int .i64 0, .int .i64 0, .int .i64 0, .string ⟨#[]⟩] 36)) := ((Below.refl _ _).alloc (Nat.le_refl _) _).alloc (by simp) _
  have k2 : Hid (((w.alloc (.cells #[.int .i64 0, .string ⟨#[]⟩, .string ⟨#[]⟩, .int .i64 0, .int .i64 0, .string ⟨#[]⟩, .slice none 0 0, .slice none 0 0, .int .i64 0, .int .i64 0, .bool false, .slice none 0 0, .int .i64 0, .int .i64 0, .int .i64 0] 33)).alloc (.cells #[.int .i64 0, .int .i64 0, .int .i64 0, .int .i64 0, .string ⟨#[]⟩] 36)).heap[w.heap.size]? = some (.cells #[.int .i64 0, .string ⟨#[]⟩, .string ⟨#[]⟩, .int .i64 0, .int .i64 0, .string ⟨#[]⟩, .slice none 0 0, .slice none 0 0, .int .i64 0, .int .i64 0, .bool false, .slice none 0 0, .int .i64 0, .int .i64 0, .int .i64 0] 33 (0, 0))) := (heap_alloc_old _ _ (by simp)).trans (heap_alloc_new w _)
  have k3 : Hid (((w.alloc (.cells #[.int .i64 0, .string ⟨#[]⟩, .string ⟨#[]⟩, .int .i64 0, .int .i64 0, .string ⟨#[]⟩, .slice none 0 0, .slice none 0 0, .int .i64 0, .int .i64 0, .bool false, .slice none 0 0, .int .i64 0, .int .i64 0, .int .i64 0] 33)).alloc (.cells #[.int .i64 0, .int .i64 0, .int .i64 0, .int .i64 0, .string ⟨#[]⟩] 36)).heap[w.heap.size + 1]? = some (.cells #[.int .i64 0, .int .i64 0, .int .i64 0, .int .i64 0, .string ⟨#[]⟩] 36 (0, 0))) := by rw [← O1.out]; exact heap_alloc_new _ _
  have HB0 := Lib.hid B0
  have HT0 : Hid (Tab ((w.alloc (.cells #[.int .i64 0, .string ⟨#[]⟩, .string ⟨#[]⟩, .int .i64 0, .int .i64 0, .string ⟨#[]⟩, .slice none 0 0, .slice none 0 0, .int .i64 0, .int .i64 0, .bool false, .slice none 0 0, .int .i64 0, .int .i64 0, .int .i64 0] 33)).alloc (.cells #[.int .i64 0, .int .i64 0, .int .i64 0, .int .i64 0, .string ⟨#[]⟩] 36)) ∧ Lev ((w.alloc (.cells #[.int .i64 0, .string ⟨#[]⟩, .string ⟨#[]⟩, .int .i64 0, .int .i64 0, .string ⟨#[]⟩, .slice none 0 0, .slice none 0 0, .int .i64 0, .int .i64 0, .bool false, .slice none 0 0, .int .i64 0, .int .i64 0, .int .i64 0] 33)).alloc (.cells #[.int .i64 0, .int .i64 0, .int .i64 0, .int .i64 0, .string ⟨#[]⟩] 36)) ∧ 2 ≤ w.heap.size) := ⟨hT.at (B0.block 0 (by omega)), hV.at (B0.block 1 (by omega)), h2⟩
  have HS := Lib.hid hs
  clear hT hV h2 hs B0 O1
  go_enter Tryd.func9, Tryd.ntmps9
  go_upto_region 1 with fail
  generalize (w.alloc (Obj.cells #[.int .i64 0, .string ⟨#[]⟩, .string ⟨#[]⟩, .int .i64 0, .int .i64 0, .string ⟨#[]⟩, .slice none 0 0, .slice none 0 0, .int .i64 0, .int .i64 0, .bool false, .slice none 0 0, .int .i64 0, .int .i64 0, .int .i64 0] 33)).alloc (Obj.cells #[.int .i64 0, .int .i64 0, .int .i64 0, .int .i64 0, .string ⟨#[]⟩] 36) = w0 at *
  go_wp2_with fail
  refine (all_any HT0.out.1 HS.out).mono ?_
  rintro e w1 ⟨b1, hm⟩
  have HB1 := Lib.hid (HB0.out.trans (b1.mono HB0.out.size))
  have k2' := Lib.hid ((b1.block _ (Array.getElem?_eq_some_iff.1 k2.out).1).trans k2.out)
  have k3' := Lib.hid ((b1.block _ (Array.getElem?_eq_some_iff.1 k3.out).1).trans k3.out)
  have HT1 : Hid (Tab w1 ∧ Lev w1 ∧ 2 ≤ w1.heap.size) := ⟨HT0.out.1.at (b1.block 0 (by have := HB0.out.size; have := HT0.out.2.2; omega)), HT0.out.2.1.at (b1.block 1 (by have := HB0.out.size; have := HT0.out.2.2; omega)), by have := HB1.out.size; have := HT0.out.2.2; omega⟩
  clear k2 k3 HB0 HT0 b1
  have k2 := k2'
  have k3 := k3'
  clear k2' k3'
  rw [hl] at hm
  obtain ⟨vl, acc, ha, rfl, ht⟩ := hm
  obtain ⟨a, ha2, hrow, hel⟩ := toks_row ht
  have hrow2 := hrow
  obtain ⟨o, cap, rfl, -⟩ := hrow
  have HRO := Lib.hid hrow2
  have HEL := Lib.hid hel
  have hat : a.map (·.1) = ts := ha2.trans ha
  have HAT := Lib.hid hat
  have HI : Hid (parseM (lb s) = if (judgeC (wholeM ⟨ts, ps0, innM⟩).1 (wholeM ⟨ts, ps0, innM⟩).2 ((ts[0]?).getD tk0).p.ps).1 = 0 then ((wholeM ⟨ts, ps0, innM⟩).1, 0, ps0) else (zeroX, judgeC (wholeM ⟨ts, ps0, innM⟩).1 (wholeM ⟨ts, ps0, innM⟩).2 ((ts[0]?).getD tk0).p.ps)) := parseM_ok hl
  have HIQ : Hid (∀ sg n0, Inq ⟨a, .slice o a.length cap, sg, ps0, n0⟩) := fun sg n0 => inq_lex HAT.out (lexL_g hl).1 _ _ _
  have HSZ : Hid (∀ sg n0, Sz ⟨a, .slice o a.length cap, sg, ps0, n0⟩) := fun sg n0 => sz_mk HAT.out (lexL_g hl).1 (lexL_g hl).2.1 (lexL_g hl).2.2 _ _ _ (by show (-1000000000000 : Int) ≤ 0 ∧ (0 : Int) ≤ 1000000000000; decide) (by show (-1000000000000 : Int) ≤ 0 ∧ (0 : Int) ≤ 1000000000000; decide) (by show (-1000000000000 : Int) ≤ 0 ∧ (0 : Int) ≤ 1000000000000; decide)
  have HNE : Hid (0 < a.length ∧ ts.length ≤ 40000) := ⟨by have := (lexL_g hl).1.ne; rw [← HAT.out, List.length_map] at this; exact this, by have := lexL_g hl; omega⟩
  clear hl ha ha2 hrow2 hel hat ht acc
  generalize parseM (lb s) = PM at *
  go_upto_region 4 with fail
  have c4 := heap_alloc_new w1 (.cells #[.int .i64 0, .int .i64 0, .int .i64 0, .int .i64 0, .string ⟨#[]⟩] 36)
  have B4 : Below w1.heap.size w1 (w1.alloc (.cells #[.int .i64 0, .int .i64 0, .int .i64 0, .int .i64 0, .string ⟨#[]⟩] 36)) := (Below.refl _ _).alloc (Nat.le_refl _) _
  have HB4 := Lib.hid (HB1.out.trans (B4.mono HB1.out.size))
  have HX4 := Lib.hid B4
  have j2 := Lib.hid ((B4.block _ (Array.getElem?_eq_some_iff.1 k2.out).1).trans k2.out)
  have j3 := Lib.hid ((B4.block _ (Array.getElem?_eq_some_iff.1 k3.out).1).trans k3.out)
  have HD4 := Lib.hid c4
  have HL1 : Hid (w.heap.size ≤ w1.heap.size) := HB1.out.size
  have hN1 : w.heap.size < w1.heap.size ∧ w.heap.size + 1 < w1.heap.size := ⟨(Array.getElem?_eq_some_iff.1 k2.out).1, (Array.getElem?_eq_some_iff.1 k3.out).1⟩
  have HN1 := Lib.hid hN1
  clear hN1 k2 k3 c4 B4 HB1
  generalize w1.alloc (Obj.cells #[.int .i64 0, .int .i64 0, .int .i64 0, .int .i64 0, .string ⟨#[]⟩] 36) = w4 at *
  have HW14 : Hid (w1.heap.size ≤ w4.heap.size) := HX4.out.size
  go_wp2_with fail
  refine (newReader_any o a.length cap w4).mono ?_
  rintro e w5 ⟨R, g, rfl, hg1, hg2, hg3, hblk, hsz, b5⟩
  have HRN : Hid (Rd w5 R ⟨a, .slice o a.length cap, g, ps0, R⟩ ⟨0, 0, ps0⟩) := rd_new (w3 := w1) HRO.out HEL.out (by have := HW14.out; omega) (HX4.out.trans (b5.mono HX4.out.size)) (Nat.le_refl _) hg3 hg2 HT1.out.1 HT1.out.2.1 HT1.out.2.2 (HSZ.out _ _) hblk (by omega)
  have HB5 := Lib.hid (HB4.out.trans (b5.mono HB4.out.size))
  have i2 := Lib.hid ((b5.block _ (Array.getElem?_eq_some_iff.1 j2.out).1).trans j2.out)
  have i3 := Lib.hid ((b5.block _ (Array.getElem?_eq_some_iff.1 j3.out).1).trans j3.out)
  have HR5 : Hid (w.heap.size + 1 < w5.heap.size ∧ w.heap.size + 1 < R) := by have := HN1.out; have := HW14.out; exact ⟨by omega, by omega⟩
  clear hg1 hg2 hg3 hblk hsz b5 HB4 HD4 HRO HEL HT1 HX4 j2 j3
  have HWH := Lib.hid (whole_any (inn := innM) HRN.out (text_any (inner_any (HIQ.out g R))))
  have ecx : (⟨a, .slice o a.length cap, g, ps0, R⟩ : Cz).cx innM = ⟨ts, ps0, innM⟩ := by unfold Cz.cx; rw [HAT.out]
  rw [ecx] at HWH
  clear ecx
  have HDP : Hid (xdp (wholeM ⟨ts, ps0, innM⟩).1 ≤ 9000000000000000000) := Nat.le_trans (wholeM_d (C := ⟨ts, ps0, innM⟩) innM_d (by decide) HNE.out.2) (by decide)
  have HTZ : Hid (((ts[0]?).getD tk0).p.ps = ((⟨a, .slice o a.length cap, g, ps0, R⟩ : Cz).tz 0).1.p.ps) := by unfold Cz.tz; rw [← HAT.out]; unfold Hid; rw [List.getElem?_map]; cases a[0]? <;> rfl
  rw [HTZ.out] at HI
  generalize wholeM ⟨ts, ps0, innM⟩ = RW at *
  clear HRN HTZ HAT HSZ HIQ
  go_wp2_with fail
  refine HWH.out.mono ?_
  rintro e w6 ⟨b, rfl, hx, hr, hf, -⟩
  obtain ⟨oV, cV, oK, cK, o', cap', hb, hX, hbR, hnb⟩ := hx
  have HX6 := Lib.hid (And.intro hX (And.intro hr (Below.fm HB5.out (by have := HR5.out; omega) hf)))
  have f2 := Lib.hid ((hf.block _ (by have := HR5.out; omega) (fun e => by have := Option.some.inj e; have := HR5.out; omega)).trans i2.out)
  have f3 := Lib.hid ((hf.block _ (by have := HR5.out; omega) (fun e => by have := Option.some.inj e; have := HR5.out; omega)).trans i3.out)
  have HS56 : Hid (w5.heap.size ≤ w6.heap.size) := hf.size
  obtain ⟨⟨c0, c1, c2, c3, c4, c5, c6, c7, c8, c9, c10, c11, c12, c13, c14⟩, -, hbl⟩ := rc15 hb
  clear hX hr hf hb hbR hnb HWH i2 i3
  go_upto_region 6 with fail
  clear c0 c1 c2 c3 c4 c5 c6 c7 c8 c9 c10 c11 c12 c13 c14 hbl
  have c7 := heap_alloc_new w6 (.cells (xc RW.1 oV cV oK cK o' cap') 33)
  have B7 : Below w6.heap.size w6 (w6.alloc (.cells (xc RW.1 oV cV oK cK o' cap') 33)) := (Below.refl _ _).alloc (Nat.le_refl _) _
  have HB7 := Lib.hid (HX6.out.2.2.trans (B7.mono HX6.out.2.2.size))
  have HR7 := Lib.hid (HX6.out.2.1.below B7)
  have HX7 := Lib.hid (HX6.out.1.bl (fun k hk => hk.2.1) B7)
  have e2 := Lib.hid ((B7.block _ (Array.getElem?_eq_some_iff.1 f2.out).1).trans f2.out)
  have e3 := Lib.hid ((B7.block _ (Array.getElem?_eq_some_iff.1 f3.out).1).trans f3.out)
  have HC7 := Lib.hid c7
  have HS7 := Lib.hid B7.size
  have HN6 : Hid (w.heap.size + 1 < w6.heap.size ∧ w.heap.size ≤ w5.heap.size) := ⟨Nat.lt_of_lt_of_le HR5.out.1 HS56.out, HB5.out.size⟩
  clear c7 B7 f2 f3
  generalize w6.alloc (Obj.cells (xc RW.1 oV cV oK cK o' cap') 33) = w7 at *
  have HPX : Hid (∀ k, Nu w5.heap.size w6 R k → k < w7.heap.size) := fun k hk => Nat.lt_of_lt_of_le hk.2.1 HS7.out
  obtain ⟨b7, hb7⟩ : ∃ b, w6.heap.size = b := ⟨_, rfl⟩
  rw [hb7] at HC7 HN6 ⊢
  clear hb7
  obtain ⟨bt, ot, cap2, hvl, hokb, -, -, -, -, -, -, t4, t5, t6⟩ := HR7.out.zt.at (i := 0) HNE.out.1
  have hbtX : Hid (bt < w7.heap.size) := Nat.lt_of_lt_of_le hokb.1 HR7.out.nn
  clear hokb
  have hvl2 : Value.slice o a.length cap = .slice (some ⟨bt, ot, none⟩) a.length cap2 := hvl
  simp only [Value.slice.injEq, true_and] at hvl2
  obtain ⟨rfl, rfl⟩ := hvl2
  clear hvl
  generalize hT0 : ((⟨a, .slice (some ⟨bt, ot, none⟩) a.length cap, g, ps0, R⟩ : Cz).tz 0).1.p = T at *
  have HJ : Hid (∀ W, Below w7.heap.size w7 W → Calls Tryd.prog 23 #[.pointer (some ⟨R, 0, none⟩), .agg (xc RW.1 oV cV oK cK o' cap'), .agg #[.int .i64 T.a, .int .i64 T.l, .int .i64 T.c]] W fun e w' => e = .returned (.agg #[.int .i64 (judgeC RW.1 RW.2 T.ps).1, .int .i64 (judgeC RW.1 RW.2 T.ps).2.a, .int .i64 (judgeC RW.1 RW.2 T.ps).2.l, .int .i64 (judgeC RW.1 RW.2 T.ps).2.c, .string ⟨#[]⟩]) ∧ Below W.heap.size W w') := fun W hW => judge_any (HR7.out.below hW) (HX7.out.bl HPX.out hW) (fun k hk => Nat.lt_of_lt_of_le (HPX.out k hk) hW.size) HDP.out T.ps
  generalize judgeC RW.1 RW.2 T.ps = J at *
  obtain ⟨⟨c0, c1, c2, c3, c4, c5, c6, c7, c8, c9, c10, c11, c12, c13, c14⟩, -, hbl⟩ := rc15 HC7.out
  have ha0 : (0 : Int) < (a.length : Int) := by have := HNE.out.1; omega
  have ha1 : 0 < a.length := HNE.out.1
  simp only [Nat.zero_mul, Nat.add_zero] at t4 t5 t6
  have hbt : bt < w7.heap.size := hbtX.out
  skip
  go_cut [8] (fun p wx => ∃ g : Nat, p = .pointer (some ⟨g, 0, none⟩) ∧ Hid (Below w7.heap.size w7 wx) ∧ Hid (wx.heap[g]? = some (.cells #[.int .i64 (J.1 : Int), .int .i64 J.2.a, .int .i64 J.2.l, .int .i64 J.2.c, .string ⟨#[]⟩] 36 (0, 0))) ∧ Hid (w7.heap.size ≤ g))
  case first =>
    refine wp_region_noPanic ?_
    refine wp_region_held_drew (S := (fun W => (∀ o, W.cell? ⟨b7, o, none⟩ = w7.cell? ⟨b7, o, none⟩) ∧ b7 < W.heap.size ∧ (∀ o, W.cell? ⟨bt, o, none⟩ = w7.cell? ⟨bt, o, none⟩) ∧ bt < W.heap.size)) (by kernel_rfl) ?_ (fun hH => ?_)
    · exact ⟨fun _ => rfl, hbl, fun _ => rfl, hbt⟩
    refine wpAnyH_take (i := 0) (oi := { dst := some 25, op := Op.move (Operand.tmp 6), type := 59, pos := "expr.go:20", after := #[], guard := none }) (v := ?_) rfl (by kernel_rfl) (by kernel_rfl) (by kernel_rfl) (fun _ _ _ h => h) (Or.inl ⟨by rfl, ?_⟩) (by assumption) ?_
    rotate_left
    · (intro w hSw; (try dsimp only at hSw); go_simp; try with_reducible rfl)
    try simp only [Act.put, List.setIfInBounds_toArray, List.set_cons_zero, List.set_cons_succ]
    refine wpAnyH_take (i := 1) (oi := { dst := some 26, op := Op.load 33 (Operand.tmp 7), type := 33, pos := "expr.go:20", after := #[], guard := none }) (v := ?_) rfl (by kernel_rfl) (by kernel_rfl) (by kernel_rfl) (fun _ _ _ h => h) (Or.inl ⟨by rfl, ?_⟩) (by assumption) ?_
    rotate_left
    · (intro w hSw; (try dsimp only at hSw); go_simp; try with_reducible rfl)
    try simp only [Act.put, List.setIfInBounds_toArray, List.set_cons_zero, List.set_cons_succ]
    refine wpAnyH_take (i := 2) (oi := { dst := some 27, op := Op.move (Operand.tmp 4), type := 56, pos := "expr.go:20", after := #[], guard := none }) (v := ?_) rfl (by kernel_rfl) (by kernel_rfl) (by kernel_rfl) (fun _ _ _ h => h) (Or.inl ⟨by rfl, ?_⟩) (by assumption) ?_
    rotate_left
    · (intro w hSw; (try dsimp only at hSw); go_simp; try with_reducible rfl)
    try simp only [Act.put, List.setIfInBounds_toArray, List.set_cons_zero, List.set_cons_succ]
    refine wpAnyH_take (i := 3) (oi := { dst := some 28, op := Op.indexAddr 56 (Operand.tmp 27) (Operand.const (Value.int IntKind.i64 0)), type := 0, pos := "expr.go:20", after := #[{ on := 2, ground := Ground.data }], guard := none }) (v := ?_) rfl (by kernel_rfl) (by kernel_rfl) (by kernel_rfl) (fun _ _ _ h => h) (Or.inl ⟨by rfl, ?_⟩) (by assumption) ?_
    rotate_left
    · (intro w hSw; (try dsimp only at hSw); go_simp; try with_reducible rfl)
    try simp only [Act.put, List.setIfInBounds_toArray, List.set_cons_zero, List.set_cons_succ]
    refine wpAnyH_take (i := 4) (oi := { dst := some 29, op := Op.fieldAddr 66 (Operand.tmp 28) 4, type := 0, pos := "expr.go:20", after := #[{ on := 3, ground := Ground.data }], guard := none }) (v := ?_) rfl (by kernel_rfl) (by kernel_rfl) (by kernel_rfl) (fun _ _ _ h => h) (Or.inl ⟨by rfl, ?_⟩) (by assumption) ?_
    rotate_left
    · (intro w hSw; (try dsimp only at hSw); go_simp; try with_reducible rfl)
    try simp only [Act.put, List.setIfInBounds_toArray, List.set_cons_zero, List.set_cons_succ]
    refine wpAnyH_take (i := 5) (oi := { dst := some 30, op := Op.load 31 (Operand.tmp 29), type := 31, pos := "expr.go:20", after := #[{ on := 4, ground := Ground.data }], guard := none }) (v := ?_) rfl (by kernel_rfl) (by kernel_rfl) (by kernel_rfl) (fun _ _ _ h => h) (Or.inl ⟨by rfl, ?_⟩) (by assumption) ?_
    rotate_left
    · (intro w hSw; (try dsimp only at hSw); go_simp; try with_reducible rfl)
    try simp only [Act.put, List.setIfInBounds_toArray, List.set_cons_zero, List.set_cons_succ]
    refine wpAnyH_ready (rs := [6, 7]) (by kernel_rfl) (by simp) ?_
    refine AllReadyH.cons (o := { dst := some 31, op := Op.call { callee := Callee.value (Operand.func 23), args := #[Operand.tmp 25, Operand.tmp 26, Operand.tmp 30], argTypes := #[59, 33, 31] }, type := 36, pos := "expr.go:20", after := #[{ on := 0, ground := Ground.data }, { on := 1, ground := Ground.data }, { on := 5, ground := Ground.data }], guard := none }) rfl (fun K hK => ?_) (AllReadyH.cons (o := { dst := some 8, op := Op.alloc 36, type := 0, pos := "expr.go:20", after := #[], guard := none }) rfl (fun K hK => ?_) AllReadyH.nil)
    rotate_left
    focus (
      go_simp
      refine hK.out _ _ ?_ (fun hH' => ?_)
      · exact ⟨fun o' => (World.cell?_of_block (heap_alloc_old w7.drew (.cells #[.int .i64 0, .int .i64 0, .int .i64 0, .int .i64 0, .string ⟨#[]⟩] 36) hH.2.1)).trans (hH.1 o'), Nat.lt_of_lt_of_le hH.2.1 (by simp), fun o' => (World.cell?_of_block (heap_alloc_old w7.drew (.cells #[.int .i64 0, .int .i64 0, .int .i64 0, .int .i64 0, .string ⟨#[]⟩] 36) hH.2.2.2)).trans (hH.2.2.1 o'), Nat.lt_of_lt_of_le hH.2.2.2 (by simp)⟩
      clear hK K hH
      have hH := hH'
      clear hH'
      try simp only [Act.put, List.setIfInBounds_toArray, List.set_cons_zero, List.set_cons_succ]
      refine wpAnyH_ready (rs := [6]) (by kernel_rfl) (by simp) ?_
      refine AllReadyH.cons (o := { dst := some 31, op := Op.call { callee := Callee.value (Operand.func 23), args := #[Operand.tmp 25, Operand.tmp 26, Operand.tmp 30], argTypes := #[59, 33, 31] }, type := 36, pos := "expr.go:20", after := #[{ on := 0, ground := Ground.data }, { on := 1, ground := Ground.data }, { on := 5, ground := Ground.data }], guard := none }) rfl (fun K hK => ?_) AllReadyH.nil
      go_simp
      refine (HJ.out _ ((Below.refl w7.heap.size w7).drew.alloc (Nat.le_refl _) (.cells #[.int .i64 0, .int .i64 0, .int .i64 0, .int .i64 0, .string ⟨#[]⟩] 36))).mono ?_
      rintro e0 WA ⟨rfl, b8⟩
      have F1 := Lib.hid b8
      refine hK.out _ _ ?_ (fun hH' => ?_)
      · exact ⟨fun o1 => (World.cell?_of_block (w := (w7.drew.alloc (.cells #[.int .i64 0, .int .i64 0, .int .i64 0, .int .i64 0, .string ⟨#[]⟩] 36))) (b8.block b7 (Nat.lt_of_lt_of_le hbl (by simp)))).trans (hH.1 o1), Nat.lt_of_lt_of_le hH.2.1 b8.size, fun o1 => (World.cell?_of_block (w := (w7.drew.alloc (.cells #[.int .i64 0, .int .i64 0, .int .i64 0, .int .i64 0, .string ⟨#[]⟩] 36))) (b8.block bt (Nat.lt_of_lt_of_le hbt (by simp)))).trans (hH.2.2.1 o1), Nat.lt_of_lt_of_le hH.2.2.2 b8.size⟩
      clear hK K hH
      have hH := hH'
      clear hH'
      try simp only [Act.put, List.setIfInBounds_toArray, List.set_cons_zero, List.set_cons_succ]
      have HE1 : Hid (WA.heap[w7.heap.size]? = some (.cells #[.int .i64 0, .int .i64 0, .int .i64 0, .int .i64 0, .string ⟨#[]⟩] 36 (0, 0))) := (F1.out.block w7.drew.heap.size (by simp)).trans (heap_alloc_new w7.drew (.cells #[.int .i64 0, .int .i64 0, .int .i64 0, .int .i64 0, .string ⟨#[]⟩] 36))
      have HE2 : Hid (Below w7.heap.size w7 WA) := ((Below.refl w7.heap.size w7).drew.alloc (Nat.le_refl _) (.cells #[.int .i64 0, .int .i64 0, .int .i64 0, .int .i64 0, .string ⟨#[]⟩] 36)).trans (F1.out.mono (by show w7.heap.size ≤ (w7.drew.alloc (.cells #[.int .i64 0, .int .i64 0, .int .i64 0, .int .i64 0, .string ⟨#[]⟩] 36)).heap.size; simp))
      clear F1 b8
      generalize WA = WE at *
      obtain ⟨g, hg⟩ : ∃ b, w7.heap.size = b := ⟨_, rfl⟩
      have HEG : Hid (w7.heap.size ≤ g) := Nat.le_of_eq hg
      rw [hg] at HE1 ⊢
      clear hg
      )
    rotate_left
    focus (
      go_simp
      refine (HJ.out _ (Below.refl w7.heap.size w7).drew).mono ?_
      rintro e0 WA ⟨rfl, b8⟩
      have F1 := Lib.hid b8
      refine hK.out _ _ ?_ (fun hH' => ?_)
      · exact ⟨fun o1 => (World.cell?_of_block (w := w7.drew) (b8.block b7 (Nat.lt_of_lt_of_le hbl (Nat.le_refl _)))).trans (hH.1 o1), Nat.lt_of_lt_of_le hH.2.1 b8.size, fun o1 => (World.cell?_of_block (w := w7.drew) (b8.block bt (Nat.lt_of_lt_of_le hbt (Nat.le_refl _)))).trans (hH.2.2.1 o1), Nat.lt_of_lt_of_le hH.2.2.2 b8.size⟩
      clear hK K hH
      have hH := hH'
      clear hH'
      try simp only [Act.put, List.setIfInBounds_toArray, List.set_cons_zero, List.set_cons_succ]
      refine wpAnyH_ready (rs := [7]) (by kernel_rfl) (by simp) ?_
      refine AllReadyH.cons (o := { dst := some 8, op := Op.alloc 36, type := 0, pos := "expr.go:20", after := #[], guard := none }) rfl (fun K hK => ?_) AllReadyH.nil
      go_simp
      refine hK.out _ _ ?_ (fun hH' => ?_)
      · exact ⟨fun o' => (World.cell?_of_block (heap_alloc_old WA (.cells #[.int .i64 0, .int .i64 0, .int .i64 0, .int .i64 0, .string ⟨#[]⟩] 36) hH.2.1)).trans (hH.1 o'), Nat.lt_of_lt_of_le hH.2.1 (by simp), fun o' => (World.cell?_of_block (heap_alloc_old WA (.cells #[.int .i64 0, .int .i64 0, .int .i64 0, .int .i64 0, .string ⟨#[]⟩] 36) hH.2.2.2)).trans (hH.2.2.1 o'), Nat.lt_of_lt_of_le hH.2.2.2 (by simp)⟩
      clear hK K hH
      have hH := hH'
      clear hH'
      try simp only [Act.put, List.setIfInBounds_toArray, List.set_cons_zero, List.set_cons_succ]
      have HE1 : Hid ((WA.alloc (.cells #[.int .i64 0, .int .i64 0, .int .i64 0, .int .i64 0, .string ⟨#[]⟩] 36)).heap[WA.heap.size]? = some (.cells #[.int .i64 0, .int .i64 0, .int .i64 0, .int .i64 0, .string ⟨#[]⟩] 36 (0, 0))) := heap_alloc_new WA (.cells #[.int .i64 0, .int .i64 0, .int .i64 0, .int .i64 0, .string ⟨#[]⟩] 36)
      have HE2 : Hid (Below w7.heap.size w7 (WA.alloc (.cells #[.int .i64 0, .int .i64 0, .int .i64 0, .int .i64 0, .string ⟨#[]⟩] 36))) := ((Below.refl w7.heap.size w7).drew.trans F1.out).alloc F1.out.size (.cells #[.int .i64 0, .int .i64 0, .int .i64 0, .int .i64 0, .string ⟨#[]⟩] 36)
      have HEG : Hid (w7.heap.size ≤ WA.heap.size) := F1.out.size
      clear F1 b8
      generalize WA.alloc (.cells #[.int .i64 0, .int .i64 0, .int .i64 0, .int .i64 0, .string ⟨#[]⟩] 36) = WE at *
      generalize WA.heap.size = g at *
      )
    all_goals (
      obtain ⟨⟨q0, q1, q2, q3, q4⟩, ⟨gq0, gq1, gq2, gq3, gq4⟩, hq⟩ := rc5 HE1.out
      have hbb7 : b7 ≠ g := Nat.ne_of_lt (Nat.lt_of_lt_of_le hbl HEG.out)
      have hbbt : bt ≠ g := Nat.ne_of_lt (Nat.lt_of_lt_of_le hbt HEG.out)
      have hk7 : (((((WE.setCell ⟨g, 0, none⟩ (.int .i64 (J.1 : Int))).setCell ⟨g, 1, none⟩ (.int .i64 J.2.a)).setCell ⟨g, 2, none⟩ (.int .i64 J.2.l)).setCell ⟨g, 3, none⟩ (.int .i64 J.2.c)).setCell ⟨g, 4, none⟩ (.string ⟨#[]⟩)).heap[b7]? = WE.heap[b7]? := set5_o hbb7 (.int .i64 (J.1 : Int)) (.int .i64 J.2.a) (.int .i64 J.2.l) (.int .i64 J.2.c) (.string ⟨#[]⟩)
      have hkt : (((((WE.setCell ⟨g, 0, none⟩ (.int .i64 (J.1 : Int))).setCell ⟨g, 1, none⟩ (.int .i64 J.2.a)).setCell ⟨g, 2, none⟩ (.int .i64 J.2.l)).setCell ⟨g, 3, none⟩ (.int .i64 J.2.c)).setCell ⟨g, 4, none⟩ (.string ⟨#[]⟩)).heap[bt]? = WE.heap[bt]? := set5_o hbbt (.int .i64 (J.1 : Int)) (.int .i64 J.2.a) (.int .i64 J.2.l) (.int .i64 J.2.c) (.string ⟨#[]⟩)
      have hks : WE.heap.size ≤ (((((WE.setCell ⟨g, 0, none⟩ (.int .i64 (J.1 : Int))).setCell ⟨g, 1, none⟩ (.int .i64 J.2.a)).setCell ⟨g, 2, none⟩ (.int .i64 J.2.l)).setCell ⟨g, 3, none⟩ (.int .i64 J.2.c)).setCell ⟨g, 4, none⟩ (.string ⟨#[]⟩)).heap.size := (set5_b (b := g) (Below.refl 0 WE) (Nat.zero_le _) (.int .i64 (J.1 : Int)) (.int .i64 J.2.a) (.int .i64 J.2.l) (.int .i64 J.2.c) (.string ⟨#[]⟩)).size
      refine wpAnyH_ready (rs := [8]) (by kernel_rfl) (by simp) ?_
      refine AllReadyH.cons (o := { dst := none, op := Op.store 36 (Operand.tmp 8) (Operand.tmp 31), type := 0, pos := "expr.go:20", after := #[{ on := 7, ground := Ground.data }, { on := 6, ground := Ground.data }, { on := 6, ground := Ground.chain }, { on := 0, ground := Ground.phase }, { on := 1, ground := Ground.phase }, { on := 2, ground := Ground.phase }, { on := 3, ground := Ground.phase }, { on := 4, ground := Ground.phase }, { on := 5, ground := Ground.phase }, { on := 6, ground := Ground.phase }, { on := 7, ground := Ground.phase }], guard := none }) rfl (fun K hK => ?_) AllReadyH.nil
      go_simp
      refine hK.out _ _ ?_ (fun hH' => ?_)
      · generalize (((((WE.setCell ⟨g, 0, none⟩ (.int .i64 (J.1 : Int))).setCell ⟨g, 1, none⟩ (.int .i64 J.2.a)).setCell ⟨g, 2, none⟩ (.int .i64 J.2.l)).setCell ⟨g, 3, none⟩ (.int .i64 J.2.c)).setCell ⟨g, 4, none⟩ (.string ⟨#[]⟩)) = w9 at hk7 hkt hks ⊢; exact ⟨fun o1 => (World.cell?_of_block (w := WE) (w' := w9) hk7).trans (hH.1 o1), Nat.lt_of_lt_of_le hH.2.1 hks, fun o1 => (World.cell?_of_block (w := WE) (w' := w9) hkt).trans (hH.2.2.1 o1), Nat.lt_of_lt_of_le hH.2.2.2 hks⟩
      clear hK K hH
      have hH := hH'
      clear hH'
      try simp only [Act.put, List.setIfInBounds_toArray, List.set_cons_zero, List.set_cons_succ]
      )
    all_goals refine wpAnyH_done (by kernel_rfl) ?_ _
    all_goals refine NoPanic.normal ?_
    all_goals (
      have HB9 := Lib.hid (set5_b HE2.out HEG.out (.int .i64 (J.1 : Int)) (.int .i64 J.2.a) (.int .i64 J.2.l) (.int .i64 J.2.c) (.string ⟨#[]⟩))
      have R9 := Lib.hid (set5 HE1.out (.int .i64 (J.1 : Int)) (.int .i64 J.2.a) (.int .i64 J.2.l) (.int .i64 J.2.c) (.string ⟨#[]⟩))
      clear q0 q1 q2 q3 q4 gq0 gq1 gq2 gq3 gq4 hq hbb7 hbbt hH hk7 hkt hks c0 c1 c2 c3 c4 c5 c6 c7 c8 c9 c10 c11 c12 c13 c14 t4 t5 t6
      generalize (((((WE.setCell ⟨g, 0, none⟩ (.int .i64 (J.1 : Int))).setCell ⟨g, 1, none⟩ (.int .i64 J.2.a)).setCell ⟨g, 2, none⟩ (.int .i64 J.2.l)).setCell ⟨g, 3, none⟩ (.int .i64 J.2.c)).setCell ⟨g, 4, none⟩ (.string ⟨#[]⟩)) = w9 at *
      go_wp2_with fail
      go_meet
      exact ⟨g, rfl, HB9, R9, HEG⟩
      )
  case rest =>
    obtain ⟨g, rfl, HB9, R9, HEG⟩ := hcut
    generalize wc = w9 at *
    clear c0 c1 c2 c3 c4 c5 c6 c7 c8 c9 c10 c11 c12 c13 c14 t4 t5 t6
    have b2 := Lib.hid ((HB9.out.block _ (Array.getElem?_eq_some_iff.1 e2.out).1).trans e2.out)
    have b3 := Lib.hid ((HB9.out.block _ (Array.getElem?_eq_some_iff.1 e3.out).1).trans e3.out)
    have b7r := Lib.hid ((HB9.out.block b7 hbl).trans HC7.out)
    have HXX := Lib.hid (HX7.out.bl HPX.out HB9.out)
    have HB10 := Lib.hid (HB7.out.trans (HB9.out.mono HB7.out.size))
    have hge : w.heap.size + 1 < g ∧ w.heap.size < g := by have := HEG.out; have := HN6.out; omega
    obtain ⟨hge1, hge2⟩ := hge
    have hg7 : w.heap.size + 1 < b7 ∧ w.heap.size < b7 := by have := HN6.out; omega
    obtain ⟨hg71, hg72⟩ := hg7
    clear hbl hbt e2 e3 HC7 HX7 HB7 ha0 ha1 HJ HR7 HX6 HDP
    obtain ⟨⟨q0, q1, q2, q3, q4⟩, -, hq⟩ := rc5 R9.out
    obtain ⟨⟨x0, x1, x2, x3, x4, x5, x6, x7, x8, x9, x10, x11, x12, x13, x14⟩, gx, hb2⟩ := rc15 b2.out
    obtain ⟨⟨y0, y1, y2, y3, y4⟩, ⟨gy0, gy1, gy2, gy3, gy4⟩, hb3⟩ := rc5 b3.out
    have gx0 := gx 0
    have gx1 := gx 1
    have gx2 := gx 2
    have gx3 := gx 3
    have gx4 := gx 4
    have gx5 := gx 5
    have gx6 := gx 6
    have gx7 := gx 7
    have gx8 := gx 8
    have gx9 := gx 9
    have gx10 := gx 10
    have gx11 := gx 11
    have gx12 := gx 12
    have gx13 := gx 13
    have gx14 := gx 14
    clear gx
    obtain ⟨⟨c0, c1, c2, c3, c4, c5, c6, c7, c8, c9, c10, c11, c12, c13, c14⟩, -, hbl9⟩ := rc15 b7r.out
    by_cases h0 : J.1 = 0
    · have en : ((J.1 : Int) != 0) = false := by simp [h0]
      have HPM : Hid (PM = (RW.1, 0, ps0)) := by unfold Hid; rw [HI.out, if_pos h0]
      clear h0 HI
      go_wp2_with fail
      have r33 := (set5_o (show w.heap.size ≠ w.heap.size + 1 by omega) (.int .i64 0) (.int .i64 0) (.int .i64 0) (.int .i64 0) (.string ⟨#[]⟩)).trans (set15 b2.out (.int .i64 RW.1.op) (.string RW.1.s) (.string RW.1.s2) (.int .i64 RW.1.v.k) (.int .i64 RW.1.v.i) (.string RW.1.v.s) (.slice oV RW.1.v.l.length cV) (.slice oK RW.1.v.ks.length cK) (.int .i64 RW.1.v.tk) (.int .i64 RW.1.v.to) (.bool RW.1.v.x) (.slice o' RW.1.l.length cap') (.int .i64 RW.1.a) (.int .i64 RW.1.ln) (.int .i64 RW.1.c))
      have r36 := set5 ((set15_o (show w.heap.size + 1 ≠ w.heap.size by omega) (.int .i64 RW.1.op) (.string RW.1.s) (.string RW.1.s2) (.int .i64 RW.1.v.k) (.int .i64 RW.1.v.i) (.string RW.1.v.s) (.slice oV RW.1.v.l.length cV) (.slice oK RW.1.v.ks.length cK) (.int .i64 RW.1.v.tk) (.int .i64 RW.1.v.to) (.bool RW.1.v.x) (.slice o' RW.1.l.length cap') (.int .i64 RW.1.a) (.int .i64 RW.1.ln) (.int .i64 RW.1.c)).trans b3.out) (.int .i64 0) (.int .i64 0) (.int .i64 0) (.int .i64 0) (.string ⟨#[]⟩)
      have b11 := set5_b (set15_b HB10.out (Nat.le_refl _) (.int .i64 RW.1.op) (.string RW.1.s) (.string RW.1.s2) (.int .i64 RW.1.v.k) (.int .i64 RW.1.v.i) (.string RW.1.v.s) (.slice oV RW.1.v.l.length cV) (.slice oK RW.1.v.ks.length cK) (.int .i64 RW.1.v.tk) (.int .i64 RW.1.v.to) (.bool RW.1.v.x) (.slice o' RW.1.l.length cap') (.int .i64 RW.1.a) (.int .i64 RW.1.ln) (.int .i64 RW.1.c)) (Nat.le_succ _) (.int .i64 0) (.int .i64 0) (.int .i64 0) (.int .i64 0) (.string ⟨#[]⟩)
      have hxx := HXX.out.keptP (P' := Nu w5.heap.size w6 R) fun k hk => ⟨hk, (set5_o (show k ≠ w.heap.size + 1 by have := hk.1; have := HR5.out; omega) (.int .i64 0) (.int .i64 0) (.int .i64 0) (.int .i64 0) (.string ⟨#[]⟩)).trans (set15_o (show k ≠ w.heap.size by have := hk.1; have := HR5.out; omega) (.int .i64 RW.1.op) (.string RW.1.s) (.string RW.1.s2) (.int .i64 RW.1.v.k) (.int .i64 RW.1.v.i) (.string RW.1.v.s) (.slice oV RW.1.v.l.length cV) (.slice oK RW.1.v.ks.length cK) (.int .i64 RW.1.v.tk) (.int .i64 RW.1.v.to) (.bool RW.1.v.x) (.slice o' RW.1.l.length cap') (.int .i64 RW.1.a) (.int .i64 RW.1.ln) (.int .i64 RW.1.c))⟩
      have hsz9 := (set5_b (b := w.heap.size + 1) (set15_b (b := w.heap.size) (Below.refl 0 w9) (Nat.zero_le _) (.int .i64 RW.1.op) (.string RW.1.s) (.string RW.1.s2) (.int .i64 RW.1.v.k) (.int .i64 RW.1.v.i) (.string RW.1.v.s) (.slice oV RW.1.v.l.length cV) (.slice oK RW.1.v.ks.length cK) (.int .i64 RW.1.v.tk) (.int .i64 RW.1.v.to) (.bool RW.1.v.x) (.slice o' RW.1.l.length cap') (.int .i64 RW.1.a) (.int .i64 RW.1.ln) (.int .i64 RW.1.c)) (Nat.zero_le _) (.int .i64 0) (.int .i64 0) (.int .i64 0) (.int .i64 0) (.string ⟨#[]⟩)).size
      clear x0 x1 x2 x3 x4 x5 x6 x7 x8 x9 x10 x11 x12 x13 x14 hb2 y0 y1 y2 y3 y4 hb3 gy0 gy1 gy2 gy3 gy4 gx0 gx1 gx2 gx3 gx4 gx5 gx6 gx7 gx8 gx9 gx10 gx11 gx12 gx13 gx14 q0 q1 q2 q3 q4 hq c0 c1 c2 c3 c4 c5 c6 c7 c8 c9 c10 c11 c12 c13 c14 hbl9
      generalize ((((((((((((((((((((w9.setCell ⟨w.heap.size, 0, none⟩ (.int .i64 RW.1.op)).setCell ⟨w.heap.size, 1, none⟩ (.string RW.1.s)).setCell ⟨w.heap.size, 2, none⟩ (.string RW.1.s2)).setCell ⟨w.heap.size, 3, none⟩ (.int .i64 RW.1.v.k)).setCell ⟨w.heap.size, 4, none⟩ (.int .i64 RW.1.v.i)).setCell ⟨w.heap.size, 5, none⟩ (.string RW.1.v.s)).setCell ⟨w.heap.size, 6, none⟩ (.slice oV RW.1.v.l.length cV)).setCell ⟨w.heap.size, 7, none⟩ (.slice oK RW.1.v.ks.length cK)).setCell ⟨w.heap.size, 8, none⟩ (.int .i64 RW.1.v.tk)).setCell ⟨w.heap.size, 9, none⟩ (.int .i64 RW.1.v.to)).setCell ⟨w.heap.size, 10, none⟩ (.bool RW.1.v.x)).setCell ⟨w.heap.size, 11, none⟩ (.slice o' RW.1.l.length cap')).setCell ⟨w.heap.size, 12, none⟩ (.int .i64 RW.1.a)).setCell ⟨w.heap.size, 13, none⟩ (.int .i64 RW.1.ln)).setCell ⟨w.heap.size, 14, none⟩ (.int .i64 RW.1.c)).setCell ⟨(w.heap.size + 1), 0, none⟩ (.int .i64 0)).setCell ⟨(w.heap.size + 1), 1, none⟩ (.int .i64 0)).setCell ⟨(w.heap.size + 1), 2, none⟩ (.int .i64 0)).setCell ⟨(w.heap.size + 1), 3, none⟩ (.int .i64 0)).setCell ⟨(w.heap.size + 1), 4, none⟩ (.string ⟨#[]⟩)) = w10 at *
      have HF := Lib.hid (And.intro b11 (And.intro hxx hsz9))
      clear b11 hxx hsz9
      obtain ⟨⟨x0, x1, x2, x3, x4, x5, x6, x7, x8, x9, x10, x11, x12, x13, x14⟩, -, hb2⟩ := rc15 r33
      obtain ⟨⟨y0, y1, y2, y3, y4⟩, -, hb3⟩ := rc5 r36
      exact bodyPost_ret (v := .tuple #[.agg #[.int .i64 RW.1.op, .string RW.1.s, .string RW.1.s2, .int .i64 RW.1.v.k, .int .i64 RW.1.v.i, .string RW.1.v.s, .slice oV RW.1.v.l.length cV, .slice oK RW.1.v.ks.length cK, .int .i64 RW.1.v.tk, .int .i64 RW.1.v.to, .bool RW.1.v.x, .slice o' RW.1.l.length cap', .int .i64 RW.1.a, .int .i64 RW.1.ln, .int .i64 RW.1.c], .agg #[.int .i64 0, .int .i64 0, .int .i64 0, .int .i64 0, .string ⟨#[]⟩]]) (by simp [results, Tryd.results9, go_sem, x0, x1, x2, x3, x4, x5, x6, x7, x8, x9, x10, x11, x12, x13, x14, y0, y1, y2, y3, y4]) rfl (by rw [HPM.out]; exact ⟨oV, cV, oK, cK, o', cap', rfl, HF.out.2.1.mono fun k hk => ⟨Nat.le_trans HN6.out.2 hk.1, Nat.lt_of_lt_of_le (Nat.lt_of_lt_of_le (HPX.out k hk) HB9.out.size) HF.out.2.2⟩, HF.out.1⟩)
    · have en : ((J.1 : Int) != 0) = true := by rw [bne_iff_ne]; omega
      have HPM : Hid (PM = (zeroX, J)) := by unfold Hid; rw [HI.out, if_neg h0]
      clear h0 HI
      go_wp2_with fail
      go_region
      have r33 := (set5_o (show w.heap.size ≠ w.heap.size + 1 by omega) (.int .i64 (J.1 : Int)) (.int .i64 J.2.a) (.int .i64 J.2.l) (.int .i64 J.2.c) (.string ⟨#[]⟩)).trans (set15 b2.out (.int .i64 0) (.string ⟨#[]⟩) (.string ⟨#[]⟩) (.int .i64 0) (.int .i64 0) (.string ⟨#[]⟩) (.slice none 0 0) (.slice none 0 0) (.int .i64 0) (.int .i64 0) (.bool false) (.slice none 0 0) (.int .i64 0) (.int .i64 0) (.int .i64 0))
      have r36 := set5 ((set15_o (show w.heap.size + 1 ≠ w.heap.size by omega) (.int .i64 0) (.string ⟨#[]⟩) (.string ⟨#[]⟩) (.int .i64 0) (.int .i64 0) (.string ⟨#[]⟩) (.slice none 0 0) (.slice none 0 0) (.int .i64 0) (.int .i64 0) (.bool false) (.slice none 0 0) (.int .i64 0) (.int .i64 0) (.int .i64 0)).trans b3.out) (.int .i64 (J.1 : Int)) (.int .i64 J.2.a) (.int .i64 J.2.l) (.int .i64 J.2.c) (.string ⟨#[]⟩)
      have b11 := set5_b (set15_b HB10.out (Nat.le_refl _) (.int .i64 0) (.string ⟨#[]⟩) (.string ⟨#[]⟩) (.int .i64 0) (.int .i64 0) (.string ⟨#[]⟩) (.slice none 0 0) (.slice none 0 0) (.int .i64 0) (.int .i64 0) (.bool false) (.slice none 0 0) (.int .i64 0) (.int .i64 0) (.int .i64 0)) (Nat.le_succ _) (.int .i64 (J.1 : Int)) (.int .i64 J.2.a) (.int .i64 J.2.l) (.int .i64 J.2.c) (.string ⟨#[]⟩)
      have hxx := HXX.out.keptP (P' := Nu w5.heap.size w6 R) fun k hk => ⟨hk, (set5_o (show k ≠ w.heap.size + 1 by have := hk.1; have := HR5.out; omega) (.int .i64 (J.1 : Int)) (.int .i64 J.2.a) (.int .i64 J.2.l) (.int .i64 J.2.c) (.string ⟨#[]⟩)).trans (set15_o (show k ≠ w.heap.size by have := hk.1; have := HR5.out; omega) (.int .i64 0) (.string ⟨#[]⟩) (.string ⟨#[]⟩) (.int .i64 0) (.int .i64 0) (.string ⟨#[]⟩) (.slice none 0 0) (.slice none 0 0) (.int .i64 0) (.int .i64 0) (.bool false) (.slice none 0 0) (.int .i64 0) (.int .i64 0) (.int .i64 0))⟩
      have hsz9 := (set5_b (b := w.heap.size + 1) (set15_b (b := w.heap.size) (Below.refl 0 w9) (Nat.zero_le _) (.int .i64 0) (.string ⟨#[]⟩) (.string ⟨#[]⟩) (.int .i64 0) (.int .i64 0) (.string ⟨#[]⟩) (.slice none 0 0) (.slice none 0 0) (.int .i64 0) (.int .i64 0) (.bool false) (.slice none 0 0) (.int .i64 0) (.int .i64 0) (.int .i64 0)) (Nat.zero_le _) (.int .i64 (J.1 : Int)) (.int .i64 J.2.a) (.int .i64 J.2.l) (.int .i64 J.2.c) (.string ⟨#[]⟩)).size
      clear x0 x1 x2 x3 x4 x5 x6 x7 x8 x9 x10 x11 x12 x13 x14 hb2 y0 y1 y2 y3 y4 hb3 gy0 gy1 gy2 gy3 gy4 gx0 gx1 gx2 gx3 gx4 gx5 gx6 gx7 gx8 gx9 gx10 gx11 gx12 gx13 gx14 q0 q1 q2 q3 q4 hq c0 c1 c2 c3 c4 c5 c6 c7 c8 c9 c10 c11 c12 c13 c14 hbl9
      generalize ((((((((((((((((((((w9.setCell ⟨w.heap.size, 0, none⟩ (.int .i64 0)).setCell ⟨w.heap.size, 1, none⟩ (.string ⟨#[]⟩)).setCell ⟨w.heap.size, 2, none⟩ (.string ⟨#[]⟩)).setCell ⟨w.heap.size, 3, none⟩ (.int .i64 0)).setCell ⟨w.heap.size, 4, none⟩ (.int .i64 0)).setCell ⟨w.heap.size, 5, none⟩ (.string ⟨#[]⟩)).setCell ⟨w.heap.size, 6, none⟩ (.slice none 0 0)).setCell ⟨w.heap.size, 7, none⟩ (.slice none 0 0)).setCell ⟨w.heap.size, 8, none⟩ (.int .i64 0)).setCell ⟨w.heap.size, 9, none⟩ (.int .i64 0)).setCell ⟨w.heap.size, 10, none⟩ (.bool false)).setCell ⟨w.heap.size, 11, none⟩ (.slice none 0 0)).setCell ⟨w.heap.size, 12, none⟩ (.int .i64 0)).setCell ⟨w.heap.size, 13, none⟩ (.int .i64 0)).setCell ⟨w.heap.size, 14, none⟩ (.int .i64 0)).setCell ⟨(w.heap.size + 1), 0, none⟩ (.int .i64 (J.1 : Int))).setCell ⟨(w.heap.size + 1), 1, none⟩ (.int .i64 J.2.a)).setCell ⟨(w.heap.size + 1), 2, none⟩ (.int .i64 J.2.l)).setCell ⟨(w.heap.size + 1), 3, none⟩ (.int .i64 J.2.c)).setCell ⟨(w.heap.size + 1), 4, none⟩ (.string ⟨#[]⟩)) = w10 at *
      have r33' : w10.drew.heap[w.heap.size]? = some (.cells #[.int .i64 0, .string ⟨#[]⟩, .string ⟨#[]⟩, .int .i64 0, .int .i64 0, .string ⟨#[]⟩, .slice none 0 0, .slice none 0 0, .int .i64 0, .int .i64 0, .bool false, .slice none 0 0, .int .i64 0, .int .i64 0, .int .i64 0] 33 (0, 0)) := r33
      have r36' : w10.drew.heap[w.heap.size + 1]? = some (.cells #[.int .i64 (J.1 : Int), .int .i64 J.2.a, .int .i64 J.2.l, .int .i64 J.2.c, .string ⟨#[]⟩] 36 (0, 0)) := r36
      have b12 := b11.drew
      have hxx' : XP (Nu w5.heap.size w6 R) w10.drew RW.1 _ := hxx.keptP fun k hk => ⟨hk, rfl⟩
      have hsz9' : w9.heap.size ≤ w10.drew.heap.size := hsz9
      clear r33 r36 b11 hxx hsz9
      generalize w10.drew = w11 at *
      have r33 := r33'
      have r36 := r36'
      have b11 := b12
      have hxx := hxx'
      have hsz9 := hsz9'
      clear r33' r36' b12 hxx' hsz9'
      have HF := Lib.hid (And.intro b11 (And.intro hxx hsz9))
      clear b11 hxx hsz9
      obtain ⟨⟨x0, x1, x2, x3, x4, x5, x6, x7, x8, x9, x10, x11, x12, x13, x14⟩, -, hb2⟩ := rc15 r33
      obtain ⟨⟨y0, y1, y2, y3, y4⟩, -, hb3⟩ := rc5 r36
      go_wp2_with fail
      exact bodyPost_ret (v := .tuple #[.agg #[.int .i64 0, .string ⟨#[]⟩, .string ⟨#[]⟩, .int .i64 0, .int .i64 0, .string ⟨#[]⟩, .slice none 0 0, .slice none 0 0, .int .i64 0, .int .i64 0, .bool false, .slice none 0 0, .int .i64 0, .int .i64 0, .int .i64 0], .agg #[.int .i64 (J.1 : Int), .int .i64 J.2.a, .int .i64 J.2.l, .int .i64 J.2.c, .string ⟨#[]⟩]]) (by simp [results, Tryd.results9, go_sem, x0, x1, x2, x3, x4, x5, x6, x7, x8, x9, x10, x11, x12, x13, x14, y0, y1, y2, y3, y4]) rfl (by rw [HPM.out]; exact ⟨none, 0, none, 0, none, 0, rfl, xp_zero _ _, HF.out.1⟩)
theorem parse_any {w : World} {s : ByteArray} (hT : Tab w) (hV : Lev w) (h2 : 2 ≤ w.heap.size) (hs : s.size ≤ 32768) : Calls Tryd.prog 9 #[.string s] w (PPost w (parseM (lb s))) := by
  cases hl : lexL (lb s) with
  | error ep => exact parse_err hT hV h2 hs hl
  | ok ts => exact parse_ok hT hV h2 hs hl
end Go.Proofs.YtncjncacfagldaaDoor

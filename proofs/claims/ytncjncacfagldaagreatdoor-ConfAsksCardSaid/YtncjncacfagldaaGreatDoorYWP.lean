import Derived.Test.YtncjncacfagldaaGreatDoorYWK
namespace Go.Proofs.YtncjncacfagldaaGreatDoor
open Go.RowKit
attribute [local go_sem] field66_0 field66_1 field66_3 field66_4

set_option maxRecDepth 100000 in
set_option maxHeartbeats 1000000 in
theorem brackets_any {w : World} {R : Nat} {Z : Cz} {s : St} {inn : List UInt8 → Ps → Ex × Nat × Ps} {F : Fs} (h : Rd w R Z s) (hlt : s.p < Z.acc.length) (he : ExOk R Z F (s.p + 1)) : Calls Tryz.prog 114 #[.pointer (some ⟨R, 0, none⟩)] w (EP w R Z (s.p + 1) (bracketsM (Z.cx inn) F s)) := by
 have H := qh h
 have HE := qh (fun W hW => he W s.pass hW (Nat.le_refl _))
 have HM : Hid (bracketsM (Z.cx inn) F s = ((F.ex s.pass).1, Z.wants (F.ex s.pass).2 4 [41])) := by unfold Hid bracketsM; rw [wants_eq]
 have HP := qh (pass_any h hlt)
 generalize bracketsM (Z.cx inn) F s = M at *
 generalize F.ex s.pass = X at *
 clear h he
 go_enter Tryz.func114, Tryz.ntmps114
 go_wp2_with fail
 refine HP.out.mono ?_
 rintro e w1 ⟨rfl, h1, f1⟩
 have H1 := qh (And.intro h1 f1)
 clear h1 f1 HP
 go_wp2_with fail
 refine (HE.out _ H1.out.1).mono ?_
 rintro e w2 ⟨b, rfl, hx, hr, hf, hp⟩
 have H2 := qh (And.intro (hx.le H1.out.2.size) (And.intro hr (And.intro (H1.out.2.tr hf) hp)))
 clear hx hr hf hp
 go_wp2_with fail
 refine (wantsSign_any H2.out.2.1 [41]).mono ?_
 rintro e w3 ⟨rfl, h3, f3⟩
 have H3 := qh (And.intro h3 (And.intro (H2.out.2.2.1.tr f3) (H2.out.1.fr f3)))
 clear h3 f3
 have HWP := qh (wants_p (H2.out.2.1.le) 4 [41])
 go_wp2_with fail
 go_ret
 exact ⟨b, rfl, by rw [HM.out]; exact H3.out.2.2, by rw [HM.out]; exact H3.out.1, H3.out.2.1, by rw [HM.out]; exact Nat.le_trans H2.out.2.2.2 HWP.out⟩

theorem OE.kept {n : Nat} {w w' : World} {R : Nat} {v : Value} {l : List Ex} (h : OE n w R v l) (hs : w.heap.size ≤ w'.heap.size) (hb : ∀ k, n ≤ k → k < w.heap.size → k ≠ R → w'.heap[k]? = w.heap[k]?) : OE n w' R v l := by
 obtain ⟨cs, h1, h2, h3, h4, h5⟩ := h
 refine ⟨cs, h1, fun j X c hX hc => (h2 j X c hX hc).keptP fun k hk => ⟨⟨⟨hk.1.1, Nat.lt_of_lt_of_le hk.1.2.1 hs, hk.1.2.2⟩, hk.2⟩, hb k hk.1.1 hk.1.2.1 hk.1.2.2⟩, h3, ?_, h5⟩
 refine ⟨h4.1, ?_⟩
 rcases h4.2 with hn | ⟨g, cap, cur, hv, hbg, hgb, r⟩
 · exact .inl hn
 · refine .inr ⟨g, cap, cur, hv, hbg, (hb g hbg (Array.getElem?_eq_some_iff.1 hgb).1 (fun e => h5 ?_)).trans hgb, r⟩
   rw [hv, ← e]; rfl
theorem Fm.fn {n R : Nat} {w W W' : World} (h : Fm R w W) (k : Fn n R W W') (hn : w.heap.size ≤ n) : Fm R w W' :=
 ⟨k.os.trans h.os, k.tape.trans h.tape, k.output.trans h.output, Nat.le_trans h.size k.size, fun i hi hR => (k.block i (Nat.lt_of_lt_of_le hi hn) (fun e => hR (by rw [e]))).trans (h.block i hi hR)⟩
abbrev lpc (op : Nat) (s s2 : ByteArray) (v : Value) (p : Ps) : Array Value := #[.int .i64 op, .string s, .string s2, .int .i64 0, .int .i64 0, .string ⟨#[]⟩, .slice none 0 0, .slice none 0 0, .int .i64 0, .int .i64 0, .bool false, v, .int .i64 p.a, .int .i64 p.l, .int .i64 p.c]
structure Lp (w W : World) (R : Nat) (Z : Cz) (n b op : Nat) (s s2 : ByteArray) (v : Value) (l : List Ex) (p : Ps) (t : St) : Prop where
 blk : W.heap[b]? = some (.cells (lpc op s s2 v p) 38 (0, 0))
 row : OE n W R v l
 rd : Rd W R Z t
 fm : Fm R w W
 bn : b < n
 nb : w.heap.size ≤ b
 nw : n ≤ W.heap.size
 bR : b ≠ R
 zn : Z.n0 ≤ b
theorem Lp.go {w W W2 : World} {R : Nat} {Z : Cz} {n b op : Nat} {s s2 : ByteArray} {v : Value} {l : List Ex} {p : Ps} {t t2 : St} (h : Lp w W R Z n b op s s2 v l p t) (hr : Rd W2 R Z t2) (f : Fm R W W2) : Lp w W2 R Z n b op s s2 v l p t2 :=
 ⟨(f.block b (Nat.lt_of_lt_of_le h.bn h.nw) (fun e => h.bR (Option.some.inj e))).trans h.blk, h.row.fr f, hr, h.fm.tr f, h.bn, h.nb, Nat.le_trans h.nw f.size, h.bR, h.zn⟩
theorem Lp.mid {w W W2 : World} {R : Nat} {Z : Cz} {n b op : Nat} {s s2 : ByteArray} {v : Value} {l : List Ex} {p : Ps} {t : St} (h : Lp w W R Z n b op s s2 v l p t) (f : Fn n R W W2) : W2.heap[b]? = some (.cells (lpc op s s2 v p) 38 (0, 0)) := (f.block b h.bn h.bR).trans h.blk
theorem Rd.at {w : World} {R b : Nat} {Z : Cz} {s : St} (h : Rd w R Z s) (hR : b ≠ R) (hz : Z.n0 ≤ b) (i : Nat) (u : Value) : Rd (w.setCell ⟨b, i, none⟩ u) R Z s := by
 have hb : ∀ k, k ≠ b → (w.setCell ⟨b, i, none⟩ u).heap[k]? = w.heap[k]? := fun k hk => heap_setCell_other w ⟨b, i, none⟩ k u hk
 exact ⟨(hb R (fun e => hR e.symm)).trans h.blk, h.zt.kept fun k hk _ => hb k (by omega), h.sz, h.le, by simp [World.setCell]; exact h.nn⟩
theorem Lp.st {w W : World} {R : Nat} {Z : Cz} {n b op : Nat} {s s2 : ByteArray} {v : Value} {l : List Ex} {p : Ps} {t : St} (h : Lp w W R Z n b op s s2 v l p t) {s' s2' : ByteArray} {v' : Value} {l' : List Ex} {t' : St} (i : Nat) (u : Value) {W2 : World} (f : Fn n R W W2) (ho : OE n W2 R v' l') (hr : Rd W2 R Z t') (hc : (lpc op s s2 v p).setIfInBounds i u = lpc op s' s2' v' p) : Lp w (W2.setCell ⟨b, i, none⟩ u) R Z n b op s' s2' v' l' p t' := by
 have hb : ∀ k, k ≠ b → (W2.setCell ⟨b, i, none⟩ u).heap[k]? = W2.heap[k]? := fun k hk => heap_setCell_other W2 ⟨b, i, none⟩ k u hk
 have hsz : (W2.setCell ⟨b, i, none⟩ u).heap.size = W2.heap.size := by simp [World.setCell]
 refine ⟨?_, ho.kept (Nat.le_of_eq hsz.symm) (fun k hk _ _ => hb k (by have := h.bn; omega)), hr.at h.bR h.zn i u, (h.fm.fn f (by have := h.nb; have := h.bn; omega)).hi h.nb i u, h.bn, h.nb, by rw [hsz]; exact Nat.le_trans h.nw f.size, h.bR, h.zn⟩
 rw [heap_setCell_same W2 b i _ 38 u (h.mid f), hc]
theorem Lp.ep {w W : World} {R : Nat} {Z : Cz} {n b op : Nat} {s s2 : ByteArray} {v : Value} {l : List Ex} {p : Ps} {t : St} (h : Lp w W R Z n b op s s2 v l p t) {q : Nat} (hq : q ≤ t.p) : EP w R Z q (.mk op s s2 vNull l p.a p.l p.c, t) (.returned (.pointer (some ⟨b, 0, none⟩))) W := by
 obtain ⟨o, cap, d, hv, hrow, hel⟩ := oe_row h.row
 have hn : w.heap.size ≤ n := Nat.le_of_lt (Nat.lt_of_le_of_lt h.nb h.bn)
 have hm : ∀ k, Nu n W R k → Nu w.heap.size W R k := fun k hk => ⟨Nat.le_trans hn hk.1, hk.2⟩
 refine ⟨b, rfl, ⟨none, 0, none, 0, o, cap, ?_, ?_, h.bR, h.nb⟩, h.rd, h.fm, hq⟩
 · rw [h.blk, hv]; rfl
 · exact xp_mk (sv := ⟨#[]⟩) op s s2 (by decide) (by decide) (by decide) l p.a p.l p.c (hrow.keptP fun k hk => ⟨hm k hk, rfl⟩) (fun j x hx => (hel j x hx).mono hm)
theorem Lp.put {w W : World} {R : Nat} {Z : Cz} {n b op : Nat} {s s2 : ByteArray} {v : Value} {l : List Ex} {p : Ps} {t : St} (h : Lp w W R Z n b op s s2 v l p t) {F : Fs} {q : Nat} (he : ExOk R Z F q) (hq : q ≤ t.p) (hl : l.length ≤ 100000) {r : List Ex × St} (hr : r = putE F l t) : Calls Tryz.prog 150 #[.pointer (some ⟨R, 0, none⟩), v] W (LP n W R Z t.p r) := by
 subst hr
 exact putExpr_any (he W t h.rd hq) h.row (Nat.le_trans h.zn (Nat.le_of_lt h.bn)) h.nw h.rd.lt hl
theorem putE_len (F : Fs) (l : List Ex) (s : St) : (putE F l s).1.length = l.length + 1 := by simp [putE]
theorem loop_eq (Z : Cz) (inn : List UInt8 → Ps → Ex × Nat × Ps) (F : Fs) (op : Nat) (p : Ps) (x : List UInt8) (s : St) : ∃ n m sc r1 r2 r3 r4, n = Z.freeName s ∧ m = (if Z.is n.2 4 [44] then Z.freeName n.2.pass else n) ∧ sc = (if Z.is n.2 4 [44] then tx n.1 else ⟨#[]⟩) ∧ r1 = putE F [] (Z.wants m.2 1 sIn) ∧ r2 = putE F r1.1 (Z.wants r1.2 4 [58]) ∧ r3 = (if op = 25 then putE F r2.1 (Z.wants r2.2 4 [61, 62]) else r2) ∧ r4 = (if Z.is r3.2 1 sIf then putE F r3.1 r3.2.pass else r3) ∧ loopM (Z.cx inn) F op p x s = (.mk op (tx m.1) sc vNull r4.1 p.a p.l p.c, Z.wants r4.2 4 x) := by
 refine ⟨_, _, _, _, _, _, _, rfl, rfl, rfl, rfl, rfl, rfl, rfl, ?_⟩
 unfold loopM
 simp only [freeName_eq, is_eq, wants_eq]
set_option maxRecDepth 100000 in
set_option maxHeartbeats 4000000 in
theorem loop_any {w : World} {R : Nat} {Z : Cz} {s : St} {inn : List UInt8 → Ps → Ex × Nat × Ps} {F : Fs} (h : Rd w R Z s) (he : ExOk R Z F s.p) {op : Nat} (hop : op = 24 ∨ op = 25) (p : Ps) (x : List UInt8) :
 Calls Tryz.prog 148 #[.pointer (some ⟨R, 0, none⟩), .int .i64 op, .agg #[.int .i64 p.a, .int .i64 p.l, .int .i64 p.c], .string (tx x)] w (EP w R Z s.p (loopM (Z.cx inn) F op p x s)) := by
 have H := qh h
 have HE := qh he
 have HOP := qh hop
 obtain ⟨n, m, sc, r1, r2, r3, r4, en, em, es, e1, e2, e3, e4, eM⟩ := loop_eq Z inn F op p x s
 generalize loopM (Z.cx inn) F op p x s = M at *
 have HN := qh en
 have HMm := qh em
 have HSC := qh es
 have HR1 := qh e1
 have HR2 := qh e2
 have HR3 := qh e3
 have HR4 := qh e4
 have HM := qh eM
 have HFN : Hid (∀ W t, Rd W R Z t → Calls Tryz.prog 175 #[.pointer (some ⟨R, 0, none⟩)] W (SnP W R Z (Z.freeName t))) := fun W t hW => freeName_any hW
 clear h he hop en em es e1 e2 e3 e4 eM
 go_enter Tryz.func148, Tryz.ntmps148
 go_upto_region 1 with fail
 have hb1 : (w.alloc (Obj.cells #[.int .i64 p.a, .int .i64 p.l, .int .i64 p.c] 36)).heap[w.heap.size]? = some (.cells #[.int .i64 p.a, .int .i64 p.l, .int .i64 p.c] 36 (0, 0)) := heap_alloc_new _ _
 have c1 : Below w.heap.size w (w.alloc (Obj.cells #[.int .i64 p.a, .int .i64 p.l, .int .i64 p.c] 36)) := (Below.refl _ _).alloc (Nat.le_refl _) _
 have hbR : w.heap.size ≠ R := Nat.ne_of_gt H.out.lt
 have H1 := qh (And.intro (H.out.below c1) (Fm.of (R := R) c1))
 clear c1
 generalize w.alloc (Obj.cells #[.int .i64 p.a, .int .i64 p.l, .int .i64 p.c] 36) = w1 at *
 obtain ⟨bx, hbx⟩ : ∃ bx, bx = w.heap.size := ⟨_, rfl⟩
 rw [← hbx] at hb1 hbR ⊢
 have HBX := qh hbx
 clear hbx
 obtain ⟨⟨k0, k1, k2⟩, ⟨g0, g1, g2⟩, l1⟩ := rc3 hb1
 clear hb1
 refine wp_region_noPanic ?_
 refine wp_region_held_drew (S := (fun W => (∀ o, W.cell? ⟨bx, o, none⟩ = w1.cell? ⟨bx, o, none⟩) ∧ bx < W.heap.size)) (by kernel_rfl) ?_ (fun hH => ?_)
 · exact ⟨fun _ => rfl, l1⟩
 refine wpAnyH_take (i := 0) (oi := { dst := some 10, op := Op.move (Operand.tmp 1), type := 3, pos := _, after := _, guard := none }) (v := ?_) rfl (by kernel_rfl) (by kernel_rfl) (by kernel_rfl) (fun _ _ _ h => h) (Or.inl ⟨by rfl, ?_⟩) (by assumption) ?_
 rotate_left
 · (intro w hSw; (try dsimp only at hSw); go_simp; try with_reducible rfl)
 try simp only [Act.put, sqa, sqb, sqc]
 refine wpAnyH_take (i := 1) (oi := { dst := some 11, op := Op.move (Operand.tmp 0), type := 82, pos := _, after := _, guard := none }) (v := ?_) rfl (by kernel_rfl) (by kernel_rfl) (by kernel_rfl) (fun _ _ _ h => h) (Or.inl ⟨by rfl, ?_⟩) (by assumption) ?_
 rotate_left
 · (intro w hSw; (try dsimp only at hSw); go_simp; try with_reducible rfl)
 try simp only [Act.put, sqa, sqb, sqc]
 refine wpAnyH_take (i := 3) (oi := { dst := some 13, op := Op.load 36 (Operand.tmp 6), type := 36, pos := _, after := _, guard := none }) (v := ?_) rfl (by kernel_rfl) (by kernel_rfl) (by kernel_rfl) (fun _ _ _ h => h) (Or.inl ⟨by rfl, ?_⟩) (by assumption) ?_
 rotate_left
 · (intro w hSw; (try dsimp only at hSw); go_simp; try with_reducible rfl)
 try simp only [Act.put, sqa, sqb, sqc]
 refine wpAnyH_ready (rs := [2]) (by kernel_rfl) (by simp) ?_
 refine AllReadyH.cons (o := { dst := some 12, op := Op.call { callee := Callee.value (Operand.func 175), args := #[Operand.tmp 11], argTypes := #[82] }, type := 9, pos := _, after := _, guard := none }) rfl (fun K hK => ?_) AllReadyH.nil
 go_simp
 refine (HFN.out _ s (H1.out.1.below (Below.refl _ _).drew)).mono ?_
 rintro e W_0 ⟨rfl, h2, f2⟩
 refine hK.out _ _ ?_ (fun hH' => ?_)
 · exact ⟨fun o => (World.cell?_of_block (w := w1) (f2.block bx l1 (fun e => hbR (Option.some.inj e)))), Nat.lt_of_lt_of_le l1 f2.size⟩
 clear hK K hH
 have hH := hH'
 clear hH'
 try simp only [Act.put, sqa, sqb, sqc]
 refine wpAnyH_take (i := 4) (oi := { dst := some 14, op := Op.build 38 #[(0, Operand.tmp 10), (1, Operand.tmp 12), (5, Operand.tmp 13)], type := 38, pos := _, after := _, guard := none }) (v := ?_) rfl (by kernel_rfl) (by kernel_rfl) (by kernel_rfl) (fun _ _ _ h => h) (Or.inl ⟨by rfl, ?_⟩) (by assumption) ?_
 rotate_left
 · (intro w hSw; (try dsimp only at hSw); go_simp; try with_reducible rfl)
 try simp only [Act.put, sqa, sqb, sqc]
 refine wpAnyH_ready (rs := [5]) (by kernel_rfl) (by simp) ?_
 refine AllReadyH.cons (o := { dst := some 15, op := Op.box 38 (Operand.tmp 14), type := 84, pos := _, after := _, guard := none }) rfl (fun K hK => ?_) AllReadyH.nil
 go_simp
 refine hK.out _ _ ?_ (fun hH' => ?_)
 · exact ⟨fun o => (World.cell?_of_block (heap_alloc_old W_0 _ hH.2)).trans (hH.1 o), Nat.lt_of_lt_of_le hH.2 (by simp)⟩
 clear hK K hH
 have hH := hH'
 clear hH'
 try simp only [Act.put, sqa, sqb, sqc]
 refine wpAnyH_take (i := 6) (oi := { dst := some 9, op := Op.assign (Operand.tmp 15), type := 84, pos := _, after := _, guard := none }) (v := ?_) rfl (by kernel_rfl) (by kernel_rfl) (by kernel_rfl) (fun _ _ _ h => h) (Or.inl ⟨by rfl, ?_⟩) (by assumption) ?_
 rotate_left
 · (intro w hSw; (try dsimp only at hSw); go_simp; try with_reducible rfl)
 try simp only [Act.put, sqa, sqb, sqc]
 all_goals refine wpAnyH_done (by kernel_rfl) ?_ _
 all_goals refine NoPanic.normal ?_
 go_upto_region 2 with fail
 have lw0 : w.heap.size ≤ W_0.heap.size := (H1.out.2.dr.tr f2).size
 have lR0 : R < w.heap.size := H.out.lt
 have lz0 : Z.n0 ≤ w.heap.size := H.out.nn
 have hl0 : Lp w (W_0.alloc (Obj.cells #[Value.int IntKind.i64 ↑op, Value.string (tx (Z.freeName s).fst), Value.string { data := #[] }, Value.int IntKind.i64 0, Value.int IntKind.i64 0, Value.string { data := #[] }, Value.slice none 0 0, Value.slice none 0 0, Value.int IntKind.i64 0, Value.int IntKind.i64 0, Value.bool false, Value.slice none 0 0, Value.int IntKind.i64 p.a, Value.int IntKind.i64 p.l, Value.int IntKind.i64 p.c] 38)) R Z (W_0.heap.size + 1) W_0.heap.size op (tx (Z.freeName s).1) ⟨#[]⟩ (.slice none 0 0) [] p (Z.freeName s).2 := ⟨heap_alloc_new _ _, OE.nil _ _ _, h2.below ((Below.refl _ _).alloc (Nat.le_refl _) _), (H1.out.2.dr.tr f2).al _, Nat.lt_succ_self _, lw0, (by simp), by omega, by omega⟩
 rw [← HN.out] at hl0 ⊢
 have HPn : Hid (s.p ≤ n.2.p) := by rw [HN.out]; exact freeName_p H.out.le
 have HL0 := qh hl0
 clear hl0
 generalize W_0.alloc _ = w2 at HL0 ⊢
 generalize hnn : W_0.heap.size + 1 = nn at HL0
 generalize W_0.heap.size = b at HL0 ⊢
 clear hnn lw0 h2 f2 hH k0 k1 k2 g0 g1 g2 l1 hbR HBX H1 W_0 w1 HN lz0
 have HT := qh (takesSign_any HL0.out.rd [44])
 have HD : Hid (Z.takes n.2 4 [44] = if Z.is n.2 4 [44] then n.2.pass else n.2) := rfl
 generalize Z.is n.2 4 [44] = b2 at *
 generalize Z.takes n.2 4 [44] = s3 at *
 go_wp2_with fail
 refine HT.out.mono ?_
 rintro e w3 ⟨rfl, h3, f3⟩
 have HL1 := qh (HL0.out.go h3 f3)
 clear h3 f3 HT HL0
 cases b2
 case' false => (
  obtain rfl : s3 = n.2 := HD.out
  obtain rfl : m = n := HMm.out
  obtain rfl : sc = ⟨#[]⟩ := HSC.out
  have HL := qh HL1.out
  have HP := qh HPn.out
  clear HL1 HD HMm HSC HPn
  go_upto_region 5 with fail
  generalize w3 = w6 at *
  )
 case' true => (
  obtain rfl : s3 = n.2.pass := HD.out
  have hm : Hid (m = Z.freeName n.2.pass) := HMm.out
  obtain rfl : sc = tx n.1 := HSC.out
  have HP : Hid (s.p ≤ m.2.p) := by rw [hm.out]; exact Nat.le_trans HPn.out (Nat.le_trans (Nat.le_succ _) (freeName_p (s := n.2.pass) HL1.out.rd.le))
  obtain ⟨⟨c0, c1, c2, c3, c4, c5, c6, c7, c8, c9, c10, c11, c12, c13, c14⟩, gf, hbl⟩ := rc15 HL1.out.blk
  go_upto_region 4 with fail
  have HL2 := qh (HL1.out.st 2 (.string (tx n.1)) (Fn.of (Fm.rf _ _) HL1.out.nw) HL1.out.row HL1.out.rd (s' := tx n.1) (s2' := tx n.1) rfl)
  generalize World.setCell w3 _ _ = w4 at *
  clear c0 c1 c2 c3 c4 c5 c6 c7 c8 c9 c10 c11 c12 c13 c14 gf hbl
  clear HL1
  go_wp2_with fail
  refine (HFN.out _ _ HL2.out.rd).mono ?_
  rintro e w5 ⟨rfl, h5, f5⟩
  rw [← hm.out] at h5 ⊢
  have HL3 := qh (HL2.out.go h5 f5)
  clear h5 f5 HL2
  obtain ⟨⟨c0, c1, c2, c3, c4, c5, c6, c7, c8, c9, c10, c11, c12, c13, c14⟩, gf, hbl⟩ := rc15 HL3.out.blk
  go_upto_region 5 with fail
  have HL := qh (HL3.out.st 1 (.string (tx m.1)) (Fn.of (Fm.rf _ _) HL3.out.nw) HL3.out.row HL3.out.rd (s' := tx m.1) (s2' := tx n.1) rfl)
  generalize World.setCell w5 _ _ = w6 at *
  clear c0 c1 c2 c3 c4 c5 c6 c7 c8 c9 c10 c11 c12 c13 c14 gf hbl
  clear HL3 hm HMm HSC HD HPn
  )
 all_goals (
  go_wp2_with fail
  refine (wantsWord_any HL.out.rd sIn).mono ?_
  rintro e w7 ⟨rfl, ha, fa⟩
  have HL' := qh (HL.out.go ha fa)
  have HP' := qh (Nat.le_trans HP.out (wants_p HL.out.rd.le 1 sIn))
  clear ha fa HL HP
  have HL := HL'
  have HP := HP'
  clear HL' HP'
  have hl1 : Hid (r1.1.length = 1) := by unfold Hid; rw [HR1.out]; rfl
  have HQ := qh (HL.out.put HE.out HP.out (by exact Nat.zero_le _) HR1.out)
  obtain ⟨⟨c0, c1, c2, c3, c4, c5, c6, c7, c8, c9, c10, c11, c12, c13, c14⟩, gf, hbl⟩ := rc15 HL.out.blk
  go_wp2_with fail
  refine HQ.out.mono ?_
  rintro e w8 ⟨vv5, rfl, o5, q5, f5, p5⟩
  obtain ⟨oo, cap, d, rfl, -, -⟩ := oe_row o5
  clear c0 c1 c2 c3 c4 c5 c6 c7 c8 c9 c10 c11 c12 c13 c14 gf hbl
  obtain ⟨⟨c0, c1, c2, c3, c4, c5, c6, c7, c8, c9, c10, c11, c12, c13, c14⟩, gf, hbl⟩ := rc15 (HL.out.mid f5)
  go_upto_region 7 with fail
  have HL' := qh (HL.out.st 11 _ f5 o5 q5 rfl)
  have HP' := qh (Nat.le_trans HP.out p5)
  generalize World.setCell w8 _ _ = w9 at *
  clear c0 c1 c2 c3 c4 c5 c6 c7 c8 c9 c10 c11 c12 c13 c14 gf hbl
  clear HQ HL HP o5 q5 f5 p5
  have HL := HL'
  have HP := HP'
  clear HL' HP'
  go_wp2_with fail
  refine (wantsSign_any HL.out.rd [58]).mono ?_
  rintro e w10 ⟨rfl, ha, fa⟩
  have HL' := qh (HL.out.go ha fa)
  have HP' := qh (Nat.le_trans HP.out (wants_p HL.out.rd.le 4 [58]))
  clear ha fa HL HP
  have HL := HL'
  have HP := HP'
  clear HL' HP'
  have hl2 : Hid (r2.1.length = 2) := by unfold Hid; rw [HR2.out, putE_len, hl1.out]
  have HQ := qh (HL.out.put HE.out HP.out (by rw [hl1.out]; decide) HR2.out)
  obtain ⟨⟨c0, c1, c2, c3, c4, c5, c6, c7, c8, c9, c10, c11, c12, c13, c14⟩, gf, hbl⟩ := rc15 HL.out.blk
  go_wp2_with fail
  refine HQ.out.mono ?_
  rintro e w11 ⟨vv5, rfl, o5, q5, f5, p5⟩
  obtain ⟨oo, cap, d, rfl, -, -⟩ := oe_row o5
  clear c0 c1 c2 c3 c4 c5 c6 c7 c8 c9 c10 c11 c12 c13 c14 gf hbl
  obtain ⟨⟨c0, c1, c2, c3, c4, c5, c6, c7, c8, c9, c10, c11, c12, c13, c14⟩, gf, hbl⟩ := rc15 (HL.out.mid f5)
  go_upto_region 9 with fail
  have HL' := qh (HL.out.st 11 _ f5 o5 q5 rfl)
  have HP' := qh (Nat.le_trans HP.out p5)
  generalize World.setCell w11 _ _ = w12 at *
  clear c0 c1 c2 c3 c4 c5 c6 c7 c8 c9 c10 c11 c12 c13 c14 gf hbl
  clear HQ HL HP o5 q5 f5 p5
  have HL := HL'
  have HP := HP'
  clear HL' HP'
  rcases HOP.out with ho | ho
  case' inl => (
   have eop : ((op : Int) == 25) = false := by rw [ho]; rfl
   obtain rfl : r3 = r2 := by rw [HR3.out, if_neg (by omega)]
   have hl3 : Hid (r3.1.length ≤ 3) := by unfold Hid; rw [hl2.out]; decide
   clear ho HR3
   go_upto_region 12 with fail
   generalize w12 = w15 at *
   )
  case' inr => (
   have eop : ((op : Int) == 25) = true := by rw [ho]; rfl
   have HR3' : Hid (r3 = putE F r2.1 (Z.wants r2.2 4 [61, 62])) := by unfold Hid; rw [HR3.out, if_pos ho]
   have hl3 : Hid (r3.1.length ≤ 3) := by unfold Hid; rw [HR3'.out, putE_len, hl2.out]; decide
   clear ho HR3
   go_wp2_with fail
   refine (wantsSign_any HL.out.rd [61, 62]).mono ?_
   rintro e w13 ⟨rfl, ha, fa⟩
   have HL' := qh (HL.out.go ha fa)
   have HP' := qh (Nat.le_trans HP.out (wants_p HL.out.rd.le 4 [61, 62]))
   clear ha fa HL HP
   have HL := HL'
   have HP := HP'
   clear HL' HP'
   have HQ := qh (HL.out.put HE.out HP.out (by rw [hl2.out]; decide) HR3'.out)
   obtain ⟨⟨c0, c1, c2, c3, c4, c5, c6, c7, c8, c9, c10, c11, c12, c13, c14⟩, gf, hbl⟩ := rc15 HL.out.blk
   go_wp2_with fail
   refine HQ.out.mono ?_
   rintro e w14 ⟨vv5, rfl, o5, q5, f5, p5⟩
   obtain ⟨oo, cap, d, rfl, -, -⟩ := oe_row o5
   clear c0 c1 c2 c3 c4 c5 c6 c7 c8 c9 c10 c11 c12 c13 c14 gf hbl
   obtain ⟨⟨c0, c1, c2, c3, c4, c5, c6, c7, c8, c9, c10, c11, c12, c13, c14⟩, gf, hbl⟩ := rc15 (HL.out.mid f5)
   go_upto_region 12 with fail
   have HL' := qh (HL.out.st 11 _ f5 o5 q5 rfl)
   have HP' := qh (Nat.le_trans HP.out p5)
   generalize World.setCell w14 _ _ = w15 at *
   clear c0 c1 c2 c3 c4 c5 c6 c7 c8 c9 c10 c11 c12 c13 c14 gf hbl
   clear HQ HL HP o5 q5 f5 p5
   have HL := HL'
   have HP := HP'
   clear HL' HP'
   )
  all_goals (
   have HT := qh (takesWord_any HL.out.rd sIf)
   have HD : Hid (Z.takes r3.2 1 sIf = if Z.is r3.2 1 sIf then r3.2.pass else r3.2) := rfl
   have HPT := qh (takes_p Z r3.2 1 sIf)
   generalize Z.is r3.2 1 sIf = b4 at *
   generalize Z.takes r3.2 1 sIf = s4 at *
   go_wp2_with fail
   refine HT.out.mono ?_
   rintro e w16 ⟨rfl, ha, fa⟩
   have HL' := qh (HL.out.go ha fa)
   have HP' := qh (Nat.le_trans HP.out HPT.out)
   clear ha fa HL HP HT HPT
   have HL := HL'
   have HP := HP'
   clear HL' HP'
   cases b4
   case' false => (
    obtain rfl : s4 = r3.2 := HD.out
    obtain rfl : r4 = r3 := HR4.out
    clear HD HR4
    go_upto_region 14 with fail
    generalize w16 = w18 at *
    )
   case' true => (
    obtain rfl : s4 = r3.2.pass := HD.out
    have HR4' : Hid (r4 = putE F r3.1 r3.2.pass) := HR4.out
    clear HD HR4
    have HQ := qh (HL.out.put HE.out HP.out (by have := hl3.out; omega) HR4'.out)
    obtain ⟨⟨c0, c1, c2, c3, c4, c5, c6, c7, c8, c9, c10, c11, c12, c13, c14⟩, gf, hbl⟩ := rc15 HL.out.blk
    go_wp2_with fail
    refine HQ.out.mono ?_
    rintro e w17 ⟨vv5, rfl, o5, q5, f5, p5⟩
    obtain ⟨oo, cap, d, rfl, -, -⟩ := oe_row o5
    clear c0 c1 c2 c3 c4 c5 c6 c7 c8 c9 c10 c11 c12 c13 c14 gf hbl
    obtain ⟨⟨c0, c1, c2, c3, c4, c5, c6, c7, c8, c9, c10, c11, c12, c13, c14⟩, gf, hbl⟩ := rc15 (HL.out.mid f5)
    go_upto_region 14 with fail
    have HL' := qh (HL.out.st 11 _ f5 o5 q5 rfl)
    have HP' := qh (Nat.le_trans HP.out p5)
    generalize World.setCell w17 _ _ = w18 at *
    clear c0 c1 c2 c3 c4 c5 c6 c7 c8 c9 c10 c11 c12 c13 c14 gf hbl
    clear HQ HL HP o5 q5 f5 p5
    have HL := HL'
    have HP := HP'
    clear HL' HP'
    )
   all_goals (
    have hwp := qh (Nat.le_trans HP.out (wants_p HL.out.rd.le 4 x))
    go_wp2_with fail
    refine (wantsSign_any HL.out.rd x).mono ?_
    rintro e w19 ⟨rfl, ha, fa⟩
    have HL' := qh (HL.out.go ha fa)
    clear ha fa HL
    go_wp2_with fail
    go_ret
    rw [HM.out]
    exact HL'.out.ep hwp.out
    )
   )
  )
end Go.Proofs.YtncjncacfagldaaGreatDoor

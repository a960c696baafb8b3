import Derived.Test.YtncjncacfagldaaGreatDoorYWT
namespace Go.Proofs.YtncjncacfagldaaGreatDoor
open Go.RowKit
attribute [local go_sem] field66_0 field66_1 field66_2 field66_3 field66_4 field101_0 field101_1 field101_2

abbrev xc3 (X Y W : Ex) (oV : Option Addr) (cV : Nat) (oK : Option Addr) (cK : Nat) (o : Option Addr) (cap : Nat) (oV' : Option Addr) (cV' : Nat) (oK' : Option Addr) (cK' : Nat) (o' : Option Addr) (cap' : Nat) (oV'' : Option Addr) (cV'' : Nat) (oK'' : Option Addr) (cK'' : Nat) (o'' : Option Addr) (cap'' : Nat) : Array Value :=
 #[.int .i64 X.op, .string X.s, .string X.s2, .int .i64 X.v.k, .int .i64 X.v.i, .string X.v.s, .slice oV X.v.l.length cV, .slice oK X.v.ks.length cK, .int .i64 X.v.tk, .int .i64 X.v.to, .bool X.v.x, .slice o X.l.length cap, .int .i64 X.a, .int .i64 X.ln, .int .i64 X.c,
  .int .i64 Y.op, .string Y.s, .string Y.s2, .int .i64 Y.v.k, .int .i64 Y.v.i, .string Y.v.s, .slice oV' Y.v.l.length cV', .slice oK' Y.v.ks.length cK', .int .i64 Y.v.tk, .int .i64 Y.v.to, .bool Y.v.x, .slice o' Y.l.length cap', .int .i64 Y.a, .int .i64 Y.ln, .int .i64 Y.c,
  .int .i64 W.op, .string W.s, .string W.s2, .int .i64 W.v.k, .int .i64 W.v.i, .string W.v.s, .slice oV'' W.v.l.length cV'', .slice oK'' W.v.ks.length cK'', .int .i64 W.v.tk, .int .i64 W.v.to, .bool W.v.x, .slice o'' W.l.length cap'', .int .i64 W.a, .int .i64 W.ln, .int .i64 W.c]
theorem xb_three {n : Nat} {w : World} {R g b op : Nat} {s s2 : ByteArray} {p : Ps} {X Y V : Ex} {oV : Option Addr} {cV : Nat} {oK : Option Addr} {cK : Nat} {o : Option Addr} {cap : Nat} {oV' : Option Addr} {cV' : Nat} {oK' : Option Addr} {cK' : Nat} {o' : Option Addr} {cap' : Nat} {oV'' : Option Addr} {cV'' : Nat} {oK'' : Option Addr} {cK'' : Nat} {o'' : Option Addr} {cap'' : Nat} (hX : XP (Nu n w R) w X (.agg (xc X oV cV oK cK o cap))) (hY : XP (Nu n w R) w Y (.agg (xc Y oV' cV' oK' cK' o' cap'))) (hV : XP (Nu n w R) w V (.agg (xc V oV'' cV'' oK'' cK'' o'' cap''))) (hg : w.heap[g]? = some (.cells (xc3 X Y V oV cV oK cK o cap oV' cV' oK' cK' o' cap' oV'' cV'' oK'' cK'' o'' cap'') 38 (0, 0))) (hgn : n ≤ g) (hgR : g ≠ R) (hb : w.heap[b]? = some (.cells (lpc op s s2 (.slice (some ⟨g, 0, none⟩) 3 3) p) 38 (0, 0))) (hR : b ≠ R) (hn : n ≤ b) : Xb n w R b (.mk op s s2 vNull [X, Y, V] p.a p.l p.c) := by
 refine xb_mk rfl hb (rowP_cells hg ⟨hgn, (Array.getElem?_eq_some_iff.1 hg).1, hgR⟩ rfl (by decide)) (fun j x hx => ?_) hR hn
 rcases j with _ | _ | _ | j
 · simp only [List.getElem?_cons_zero, Option.some.injEq] at hx
   subst hx
   exact hX
 · simp only [List.getElem?_cons_succ, List.getElem?_cons_zero, Option.some.injEq] at hx
   subst hx
   exact hY
 · simp only [List.getElem?_cons_succ, List.getElem?_cons_zero, Option.some.injEq] at hx
   subst hx
   exact hV
 · simp at hx
theorem expr_eq (Z : Cz) (inn : List UInt8 → Ps → Ex × Nat × Ps) (F : Fs) (s : St) : exprM (Z.cx inn) F s = if Z.is (F.jo 1 s).2 4 [63] then (treeX 21 (Z.pl (F.jo 1 s).2) [(F.jo 1 s).1, (F.ex (F.jo 1 s).2.pass).1, (F.ex (Z.wants (F.ex (F.jo 1 s).2.pass).2 4 [58])).1], (F.ex (Z.wants (F.ex (F.jo 1 s).2.pass).2 4 [58])).2) else F.jo 1 s := by
 unfold exprM
 simp only [is_eq, pl_eq, wants_eq]
theorem is_lt' {Z : Cz} {s : St} {k : Nat} {x : List UInt8} (h : Z.is s k x = true) (hk : k ≠ 0) : s.p < Z.acc.length := by
 refine kind_lt fun e => hk ?_
 unfold Cz.is at h
 rw [e] at h
 simp at h
 exact h.1.symm
set_option maxRecDepth 100000 in
set_option maxHeartbeats 4000000 in
theorem expr_any {w : World} {R : Nat} {Z : Cz} {s : St} {inn : List UInt8 → Ps → Ex × Nat × Ps} {F : Fs} (h : Rd w R Z s) (hj : JoOk R Z F s.p) (he : ExOk R Z F (s.p + 1)) : Calls Tryz.prog 75 #[.pointer (some ⟨R, 0, none⟩)] w (EP w R Z s.p (exprM (Z.cx inn) F s)) := by
 have H0 := qh h
 have HE := qh he
 have HJ := qh (hj w s 1 h (Nat.le_refl _) (by decide) (by decide))
 have HI := qh (expr_eq Z inn F s)
 generalize exprM (Z.cx inn) F s = M at *
 generalize F.jo 1 s = E at *
 clear h hj he
 go_enter Tryz.func75, Tryz.ntmps75
 go_wp2_with fail
 refine HJ.out.mono ?_
 rintro e w1 ⟨be, rfl, hx0, hr0, hf0, hp0⟩
 have H1 := qh (And.intro hx0 (And.intro hr0 (And.intro hf0 hp0)))
 clear hx0 hr0 hf0 hp0 HJ
 have HIS := qh (is_any H1.out.2.1 4 [63])
 have HLT : Hid (Z.is E.2 4 [63] = true → E.2.p < Z.acc.length) := fun h => is_lt' h (by decide)
 generalize Z.is E.2 4 [63] = b2 at *
 go_wp2_with fail
 refine HIS.out.mono ?_
 rintro e w2 ⟨rfl, c2⟩
 have H2 := qh (And.intro (H1.out.1.fr (Fm.of c2)) (And.intro (H1.out.2.1.below c2) (And.intro (H1.out.2.2.1.tr (Fm.of c2)) H1.out.2.2.2)))
 clear c2 HIS H1
 cases b2 with
 | false =>
   have HM : Hid (M = E) := HI.out
   go_wp2_with fail
   go_ret
   rw [HM.out]
   exact ⟨be, rfl, H2.out⟩
 | true =>
   have hlt := HLT.out rfl
   have HPS := qh (pass_any H2.out.2.1 hlt)
   have HM : Hid (M = (treeX 21 (Z.pl E.2) [E.1, (F.ex E.2.pass).1, (F.ex (Z.wants (F.ex E.2.pass).2 4 [58])).1], (F.ex (Z.wants (F.ex E.2.pass).2 4 [58])).2)) := HI.out
   have HQ : Hid (∀ W, Rd W R Z E.2.pass → Calls Tryz.prog 75 #[.pointer (some ⟨R, 0, none⟩)] W (EP W R Z (E.2.p + 1) (F.ex E.2.pass))) := fun W hW => HE.out W E.2.pass hW (Nat.succ_le_succ H2.out.2.2.2)
   generalize Z.pl E.2 = P at *
   generalize F.ex E.2.pass = Y at *
   clear HI HLT hlt
   have HQ2 : Hid (∀ W t, Rd W R Z t → s.p + 1 ≤ t.p → Calls Tryz.prog 75 #[.pointer (some ⟨R, 0, none⟩)] W (EP W R Z t.p (F.ex t))) := fun W t hW ht => HE.out W t hW ht
   go_wp2_with fail
   refine HPS.out.mono ?_
   rintro e w3 ⟨rfl, h3, f3⟩
   have H3 := qh (And.intro h3 (And.intro (H2.out.2.2.1.tr f3) (H2.out.1.fr f3)))
   have HP3 := qh H2.out.2.2.2
   clear h3 f3 H2 HPS
   go_upto_region 5 with fail
   have hb1 : (w3.alloc (Obj.cells #[Value.int IntKind.i64 P.a, Value.int IntKind.i64 P.l, Value.int IntKind.i64 P.c] 36)).heap[w3.heap.size]? = some (.cells #[Value.int IntKind.i64 P.a, Value.int IntKind.i64 P.l, Value.int IntKind.i64 P.c] 36 (0, 0)) := heap_alloc_new _ _
   have HB := qh hb1
   have hbR : Hid (w3.heap.size ≠ R) := Nat.ne_of_gt H3.out.1.lt
   have H4 := qh (And.intro (H3.out.1.below ((Below.refl _ _).alloc (Nat.le_refl _) (Obj.cells #[Value.int IntKind.i64 P.a, Value.int IntKind.i64 P.l, Value.int IntKind.i64 P.c] 36))) (And.intro (H3.out.2.1.al (Obj.cells #[Value.int IntKind.i64 P.a, Value.int IntKind.i64 P.l, Value.int IntKind.i64 P.c] 36)) (H3.out.2.2.fr ((Fm.rf R w3).al (Obj.cells #[Value.int IntKind.i64 P.a, Value.int IntKind.i64 P.l, Value.int IntKind.i64 P.c] 36)))))
   clear hb1 H3
   generalize w3.alloc (Obj.cells #[Value.int IntKind.i64 P.a, Value.int IntKind.i64 P.l, Value.int IntKind.i64 P.c] 36) = w4 at *
   generalize w3.heap.size = bx at *
   go_wp2_with fail
   refine (HQ.out _ H4.out.1).mono ?_
   rintro e w5 ⟨bY, rfl, hx, hr, hf, hp⟩
   have H5 := qh (And.intro hr (And.intro (H4.out.2.1.tr hf) (And.intro (H4.out.2.2.fr hf) (And.intro (hx.le H4.out.2.1.size) hp))))
   have HB5 := qh ((hf.block bx (rc3 HB.out).2.2 (fun e => hbR.out (Option.some.inj e))).trans HB.out)
   clear hx hr hf hp HB H4 HQ
   go_wp2_with fail
   refine (wantsSign_any H5.out.1 [58]).mono ?_
   rintro e w6 ⟨rfl, h6, f6⟩
   have HWP := qh (wants_p H5.out.1.le 4 [58])
   have H6 := qh (And.intro h6 (And.intro (H5.out.2.1.tr f6) (And.intro (H5.out.2.2.1.fr f6) (H5.out.2.2.2.1.fr f6))))
   have hb6 := (f6.block bx (rc3 HB5.out).2.2 (fun e => hbR.out (Option.some.inj e))).trans HB5.out
   have HP5 := qh H5.out.2.2.2.2
   clear h6 f6 HB5 H5
   generalize Z.wants Y.2 4 [58] = t at *
   have HZQ := qh (fun W hW => HQ2.out W t hW (Nat.le_trans (Nat.succ_le_succ HP3.out) (Nat.le_trans HP5.out HWP.out)))
   generalize F.ex t = X at *
   obtain ⟨oV, cV, oK, cK, o, cap, hb, hX, hbe, hnb⟩ := H6.out.2.2.1
   obtain ⟨oV', cV', oK', cK', o', cap', hb', hX', hbe', hnb'⟩ := H6.out.2.2.2
   have HNE := qh hbe
   have HNE' := qh hbe'
   have HX := qh hX
   have HX' := qh hX'
   clear hX hX' hbe hbe' hnb hnb'
   have hb2 := rc15 hb
   have hb2' := rc15 hb'
   clear hb hb'
   go_upto_region 7 with fail
   obtain ⟨⟨k0, k1, k2⟩, ⟨g0, g1, g2⟩, lx⟩ := rc3 hb6
   clear hb6
   obtain ⟨⟨d0, d1, d2, d3, d4, d5, d6, d7, d8, d9, d10, d11, d12, d13, d14⟩, -, lbe⟩ := hb2
   obtain ⟨⟨f0, f1, f2, f3, f4, f5, f6, f7, f8, f9, f10, f11, f12, f13, f14⟩, -, lbY⟩ := hb2'
   refine wp_region_noPanic ?_
   refine wp_region_held_drew (S := (fun W => (∀ o, W.cell? ⟨bx, o, none⟩ = w6.cell? ⟨bx, o, none⟩) ∧ bx < W.heap.size ∧ (∀ o, W.cell? ⟨be, o, none⟩ = w6.cell? ⟨be, o, none⟩) ∧ be < W.heap.size ∧ (∀ o, W.cell? ⟨bY, o, none⟩ = w6.cell? ⟨bY, o, none⟩) ∧ bY < W.heap.size)) (by kernel_rfl) ?_ (fun hH => ?_)
   · exact ⟨fun _ => rfl, lx, fun _ => rfl, lbe, fun _ => rfl, lbY⟩
   refine wpAnyH_take (i := 0) (oi := { dst := some 18, op := Op.load 36 (Operand.tmp 4), type := 36, pos := _, after := _, guard := none }) (v := ?_) rfl (by kernel_rfl) (by kernel_rfl) (by kernel_rfl) (fun _ _ _ h => h) (Or.inl ⟨by rfl, ?_⟩) (by assumption) ?_
   rotate_left
   · (intro w hSw; (try dsimp only at hSw); go_simp; try with_reducible rfl)
   try simp only [Act.put, sqa, sqb, sqc]
   refine wpAnyH_take (i := 1) (oi := { dst := some 19, op := Op.move (Operand.tmp 3), type := 84, pos := _, after := _, guard := none }) (v := ?_) rfl (by kernel_rfl) (by kernel_rfl) (by kernel_rfl) (fun _ _ _ h => h) (Or.inl ⟨by rfl, ?_⟩) (by assumption) ?_
   rotate_left
   · (intro w hSw; (try dsimp only at hSw); go_simp; try with_reducible rfl)
   try simp only [Act.put, sqa, sqb, sqc]
   refine wpAnyH_take (i := 2) (oi := { dst := some 20, op := Op.nilCheck (Operand.tmp 19), type := 0, pos := _, after := _, guard := none }) (v := ?_) rfl (by kernel_rfl) (by kernel_rfl) (by kernel_rfl) (fun _ _ _ h => h) (Or.inl ⟨by rfl, ?_⟩) (by assumption) ?_
   rotate_left
   · (intro w hSw; (try dsimp only at hSw); go_simp; try with_reducible rfl)
   try simp only [Act.put, sqa, sqb, sqc]
   refine wpAnyH_take (i := 3) (oi := { dst := some 21, op := Op.load 38 (Operand.tmp 20), type := 38, pos := _, after := _, guard := none }) (v := ?_) rfl (by kernel_rfl) (by kernel_rfl) (by kernel_rfl) (fun _ _ _ h => h) (Or.inl ⟨by rfl, ?_⟩) (by assumption) ?_
   rotate_left
   · (intro w hSw; (try dsimp only at hSw); go_simp; try with_reducible rfl)
   try simp only [Act.put, sqa, sqb, sqc]
   refine wpAnyH_take (i := 4) (oi := { dst := some 22, op := Op.move (Operand.tmp 5), type := 84, pos := _, after := _, guard := none }) (v := ?_) rfl (by kernel_rfl) (by kernel_rfl) (by kernel_rfl) (fun _ _ _ h => h) (Or.inl ⟨by rfl, ?_⟩) (by assumption) ?_
   rotate_left
   · (intro w hSw; (try dsimp only at hSw); go_simp; try with_reducible rfl)
   try simp only [Act.put, sqa, sqb, sqc]
   refine wpAnyH_take (i := 5) (oi := { dst := some 23, op := Op.nilCheck (Operand.tmp 22), type := 0, pos := _, after := _, guard := none }) (v := ?_) rfl (by kernel_rfl) (by kernel_rfl) (by kernel_rfl) (fun _ _ _ h => h) (Or.inl ⟨by rfl, ?_⟩) (by assumption) ?_
   rotate_left
   · (intro w hSw; (try dsimp only at hSw); go_simp; try with_reducible rfl)
   try simp only [Act.put, sqa, sqb, sqc]
   refine wpAnyH_take (i := 6) (oi := { dst := some 24, op := Op.load 38 (Operand.tmp 23), type := 38, pos := _, after := _, guard := none }) (v := ?_) rfl (by kernel_rfl) (by kernel_rfl) (by kernel_rfl) (fun _ _ _ h => h) (Or.inl ⟨by rfl, ?_⟩) (by assumption) ?_
   rotate_left
   · (intro w hSw; (try dsimp only at hSw); go_simp; try with_reducible rfl)
   try simp only [Act.put, sqa, sqb, sqc]
   refine wpAnyH_take (i := 7) (oi := { dst := some 25, op := Op.move (Operand.tmp 0), type := 82, pos := _, after := _, guard := none }) (v := ?_) rfl (by kernel_rfl) (by kernel_rfl) (by kernel_rfl) (fun _ _ _ h => h) (Or.inl ⟨by rfl, ?_⟩) (by assumption) ?_
   rotate_left
   · (intro w hSw; (try dsimp only at hSw); go_simp; try with_reducible rfl)
   try simp only [Act.put, sqa, sqb, sqc]
   refine wpAnyH_ready (rs := [8]) (by kernel_rfl) (by simp) ?_
   refine AllReadyH.cons (o := { dst := some 26, op := Op.call { callee := Callee.value (Operand.func 75), args := #[Operand.tmp 25], argTypes := #[82] }, type := 84, pos := _, after := _, guard := none }) rfl (fun K hK => ?_) AllReadyH.nil
   go_simp
   refine (HZQ.out _ (H6.out.1.below (Below.refl _ _).drew)).mono ?_
   rintro e0 WB ⟨bz, rfl, hx, hr, hf, hp⟩
   obtain ⟨oV'', cV'', oK'', cK'', o'', cap'', hbz, hXz, hbzR, hnbz⟩ := hx
   have F2 := qh hf
   have HB := qh (And.intro hr (And.intro (H6.out.2.1.dr.tr hf) (And.intro ((HX.out.fm (Fm.rf R w6).dr).fm hf) (And.intro ((HX'.out.fm (Fm.rf R w6).dr).fm hf) (And.intro (hXz.mono (P' := Nu w.heap.size WB R) fun k hk => ⟨Nat.le_trans H6.out.2.1.size hk.1, hk.2⟩) hp)))))
   obtain ⟨⟨c0, c1, c2, c3, c4, c5, c6, c7, c8, c9, c10, c11, c12, c13, c14⟩, -, hblz⟩ := rc15 hbz
   clear hr hf hXz hbz hnbz hbzR hp
   refine hK.out _ _ ?_ (fun hH' => ?_)
   · exact ⟨fun o => (World.cell?_of_block (w := w6.drew) (F2.out.block bx hH.2.1 (fun e => hbR.out (Option.some.inj e)))).trans (hH.1 o), Nat.lt_of_lt_of_le hH.2.1 F2.out.size, fun o => (World.cell?_of_block (w := w6.drew) (F2.out.block be hH.2.2.2.1 (fun e => HNE.out (Option.some.inj e)))).trans (hH.2.2.1 o), Nat.lt_of_lt_of_le hH.2.2.2.1 F2.out.size, fun o => (World.cell?_of_block (w := w6.drew) (F2.out.block bY hH.2.2.2.2.2 (fun e => HNE'.out (Option.some.inj e)))).trans (hH.2.2.2.2.1 o), Nat.lt_of_lt_of_le hH.2.2.2.2.2 F2.out.size⟩
   clear hK K hH
   have hH := hH'
   clear hH'
   try simp only [Act.put, sqa, sqb, sqc]
   refine wpAnyH_take (i := 9) (oi := { dst := some 27, op := Op.nilCheck (Operand.tmp 26), type := 0, pos := _, after := _, guard := none }) (v := ?_) rfl (by kernel_rfl) (by kernel_rfl) (by kernel_rfl) (fun _ _ _ h => h) (Or.inl ⟨by rfl, ?_⟩) (by assumption) ?_
   rotate_left
   · (intro w hSw; (try dsimp only at hSw); go_simp; try with_reducible rfl)
   try simp only [Act.put, sqa, sqb, sqc]
   refine wpAnyH_ready (rs := [10]) (by kernel_rfl) (by simp) ?_
   refine AllReadyH.cons (o := { dst := some 28, op := Op.load 38 (Operand.tmp 27), type := 38, pos := _, after := _, guard := none }) rfl (fun K hK => ?_) AllReadyH.nil
   go_simp
   refine hK.out _ _ ?_ (fun hH' => ?_)
   · exact hH
   clear hK K hH
   have hH := hH'
   clear hH'
   try simp only [Act.put, sqa, sqb, sqc]
   have hHB := qh hH
   refine wpAnyH_ready (rs := [11]) (by kernel_rfl) (by simp) ?_
   refine AllReadyH.cons (o := { dst := some 29, op := Op.buildSlice 34 3 #[(0, Operand.tmp 21), (1, Operand.tmp 24), (2, Operand.tmp 28)], type := 34, pos := _, after := _, guard := none }) rfl (fun K hK => ?_) AllReadyH.nil
   go_simp
   refine hK.out _ _ ?_ (fun hH' => ?_)
   · exact ⟨fun o => (World.cell?_of_block (heap_alloc_old WB _ hH.2.1)).trans (hH.1 o), Nat.lt_of_lt_of_le hH.2.1 (by simp), fun o => (World.cell?_of_block (heap_alloc_old WB _ hH.2.2.2.1)).trans (hH.2.2.1 o), Nat.lt_of_lt_of_le hH.2.2.2.1 (by simp), fun o => (World.cell?_of_block (heap_alloc_old WB _ hH.2.2.2.2.2)).trans (hH.2.2.2.2.1 o), Nat.lt_of_lt_of_le hH.2.2.2.2.2 (by simp)⟩
   clear hK K hH
   have hH := hH'
   clear hH'
   try simp only [Act.put, sqa, sqb, sqc]
   refine wpAnyH_ready (rs := [12]) (by kernel_rfl) (by simp) ?_
   refine AllReadyH.cons (o := { dst := some 30, op := Op.call { callee := Callee.value (Operand.func 121), args := #[Operand.const (Value.int IntKind.i64 21), Operand.tmp 18, Operand.tmp 29], argTypes := #[3, 36, 34] }, type := 84, pos := _, after := _, guard := none }) rfl (fun K hK => ?_) AllReadyH.nil
   go_simp
   refine (tree_any 21 P (some ⟨WB.heap.size, 0, none⟩) 3 3 _).mono ?_
   rintro e0 WC ⟨b4, rfl, hle4, hb4, k4⟩
   have hg4 := (k4.block WB.heap.size (by simp)).trans (heap_alloc_new WB (.cells (xc3 E.1 Y.1 X.1 oV cV oK cK o cap oV' cV' oK' cK' o' cap' oV'' cV'' oK'' cK'' o'' cap'') 38))
   have r4 : Rd WC R Z X.2 := (HB.out.1.below ((Below.refl _ _).alloc (Nat.le_refl _) (.cells (xc3 E.1 Y.1 X.1 oV cV oK cK o cap oV' cV' oK' cK' o' cap' oV'' cV'' oK'' cK'' o'' cap'') 38))).below k4
   have f4 : Fm R WB WC := ((Fm.rf R WB).al _).tr (Fm.of k4)
   have F3 := qh f4
   have hs3 : WB.heap.size < b4 := Nat.lt_of_lt_of_le (by simp) hle4
   clear c0 c1 c2 c3 c4 c5 c6 c7 c8 c9 c10 c11 c12 c13 c14
   have HC := qh (And.intro hg4 (And.intro hs3 (And.intro hb4 r4)))
   clear hg4 f4 hs3 hb4 k4 hle4 r4
   refine hK.out _ _ ?_ (fun hH' => ?_)
   · exact ⟨fun o => (World.cell?_of_block (w := WB) (F3.out.block bx hHB.out.2.1 (fun e => hbR.out (Option.some.inj e)))).trans (hHB.out.1 o), Nat.lt_of_lt_of_le hHB.out.2.1 F3.out.size, fun o => (World.cell?_of_block (w := WB) (F3.out.block be hHB.out.2.2.2.1 (fun e => HNE.out (Option.some.inj e)))).trans (hHB.out.2.2.1 o), Nat.lt_of_lt_of_le hHB.out.2.2.2.1 F3.out.size, fun o => (World.cell?_of_block (w := WB) (F3.out.block bY hHB.out.2.2.2.2.2 (fun e => HNE'.out (Option.some.inj e)))).trans (hHB.out.2.2.2.2.1 o), Nat.lt_of_lt_of_le hHB.out.2.2.2.2.2 F3.out.size⟩
   clear hK K hH
   have hH := hH'
   clear hH'
   try simp only [Act.put, sqa, sqb, sqc]
   refine wpAnyH_take (i := 13) (oi := { dst := some 2, op := Op.assign (Operand.tmp 30), type := 84, pos := _, after := _, guard := none }) (v := ?_) rfl (by kernel_rfl) (by kernel_rfl) (by kernel_rfl) (fun _ _ _ h => h) (Or.inl ⟨by rfl, ?_⟩) (by assumption) ?_
   rotate_left
   · (intro w hSw; (try dsimp only at hSw); go_simp; try with_reducible rfl)
   try simp only [Act.put, sqa, sqb, sqc]
   all_goals refine wpAnyH_done (by kernel_rfl) ?_ _
   all_goals refine NoPanic.normal ?_
   clear d0 d1 d2 d3 d4 d5 d6 d7 d8 d9 d10 d11 d12 d13 d14 f0 f1 f2 f3 f4 f5 f6 f7 f8 f9 f10 f11 f12 f13 f14 hH
   go_wp2_with fail
   go_ret
   rw [HM.out]
   have l3 := HB.out.1.lt
   have l0 := HB.out.2.1.size
   have l4 := HC.out.2.1
   exact ⟨b4, rfl, xb_three (HB.out.2.2.1.fm F3.out) (HB.out.2.2.2.1.fm F3.out) (HB.out.2.2.2.2.1.fm F3.out) HC.out.1 l0 (by omega) HC.out.2.2.1 (by omega) (by omega), HC.out.2.2.2, HB.out.2.1.tr F3.out, Nat.le_trans HP3.out (Nat.le_trans (Nat.le_succ _) (Nat.le_trans HP5.out (Nat.le_trans HWP.out HB.out.2.2.2.2.2)))⟩
end Go.Proofs.YtncjncacfagldaaGreatDoor

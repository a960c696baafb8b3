import Derived.Test.YtncjncacfagldaaGreatDoorYWP
namespace Go.Proofs.YtncjncacfagldaaGreatDoor
open Go.RowKit
attribute [local go_sem] field66_0 field66_1 field66_3 field66_4

theorem EP.at {w w1 w2 : World} {R : Nat} {Z : Cz} {p q : Nat} {m : Ex × St} {e : Ending} (h : EP w1 R Z p m e w2) (hf : Fm R w w1) (hq : q ≤ p) : EP w R Z q m e w2 := by
 obtain ⟨b, e1, h1, h2, h3, h4⟩ := h
 exact ⟨b, e1, h1.le hf.size, h2, hf.tr h3, Nat.le_trans hq h4⟩
theorem xb_tree {n : Nat} {w : World} {R b op : Nat} {v : Value} {l : List Ex} {p : Ps} (hb : w.heap[b]? = some (.cells (lpc op ⟨#[]⟩ ⟨#[]⟩ v p) 38 (0, 0))) (ho : OE n w R v l) (hR : b ≠ R) (hn : n ≤ b) : Xb n w R b (treeX op p l) := by
 obtain ⟨o, cap, d, hv, hrow, hel⟩ := oe_row ho
 refine ⟨none, 0, none, 0, o, cap, ?_, ?_, hR, hn⟩
 · rw [hb, hv]; rfl
 · exact xp_mk (sv := ⟨#[]⟩) op ⟨#[]⟩ ⟨#[]⟩ (by decide) (by decide) (by decide) l p.a p.l p.c hrow hel
theorem OE.slice {n : Nat} {w : World} {R : Nat} {v : Value} {l : List Ex} (h : OE n w R v l) : ∃ o cap, v = .slice o l.length cap := by
 obtain ⟨o, cap, d, hv, -, -⟩ := oe_row h
 exact ⟨o, cap, hv⟩
theorem OE.le {n m : Nat} {w : World} {R : Nat} {v : Value} {l : List Ex} (h : OE n w R v l) (hm : m ≤ n) : OE m w R v l := by
 obtain ⟨cs, h1, h2, h3, h4, h5⟩ := h
 refine ⟨cs, h1, fun j X c hX hc => (h2 j X c hX hc).mono fun k hk => ⟨⟨Nat.le_trans hm hk.1.1, hk.1.2⟩, hk.2⟩, h3, ?_, h5⟩
 refine ⟨h4.1, ?_⟩
 rcases h4.2 with hn | ⟨g, cap, cur, hv, hbg, r⟩
 · exact .inl hn
 · exact .inr ⟨g, cap, cur, hv, Nat.le_trans hm hbg, r⟩
theorem list_eq (Z : Cz) (inn : List UInt8 → Ps → Ex × Nat × Ps) (F : Fs) (s : St) : listM (Z.cx inn) F s = if Z.is s.pass 1 sFor then loopM (Z.cx inn) F 24 (Z.pl s) [93] s.pass.pass else (treeX 22 (Z.pl s) (rowM (Z.cx inn) F false [93] s.pass).1, (rowM (Z.cx inn) F false [93] s.pass).2) := by
 unfold listM
 simp only [is_eq, pl_eq]
theorem pairs_eq (Z : Cz) (inn : List UInt8 → Ps → Ex × Nat × Ps) (F : Fs) (s : St) : pairsM (Z.cx inn) F s = if !(decide ((Z.tz (s.p + 1 + 1)).1.k = 4) && (decide ((Z.tz (s.p + 1 + 1)).1.s = [61]) || decide ((Z.tz (s.p + 1 + 1)).1.s = [58]))) && Z.is s.pass 1 sFor then loopM (Z.cx inn) F 25 (Z.pl s) [125] s.pass.pass else (treeX 23 (Z.pl s) (rowM (Z.cx inn) F true [125] s.pass).1, (rowM (Z.cx inn) F true [125] s.pass).2) := by
 unfold pairsM
 simp only [is_eq, pl_eq, Cz.tk_eq]
set_option maxRecDepth 100000 in
set_option maxHeartbeats 2000000 in
theorem list_any {w : World} {R : Nat} {Z : Cz} {s : St} {inn : List UInt8 → Ps → Ex × Nat × Ps} {F : Fs} (h : Rd w R Z s) (hlt : s.p < Z.acc.length) (ht : TextOk R Z inn) (he : ExOk R Z F (s.p + 1)) : Calls Tryz.prog 115 #[.pointer (some ⟨R, 0, none⟩)] w (EP w R Z (s.p + 1) (listM (Z.cx inn) F s)) := by
 have H := qh h
 have hn := h.sz.n
 have HE := qh he
 have HZ := qh h.nn
 have HI := qh (list_eq Z inn F s)
 have HP := qh (pass_any h hlt)
 have HLO : Hid (∀ W, Rd W R Z s.pass.pass → Calls Tryz.prog 148 _ W (EP W R Z s.pass.pass.p (loopM (Z.cx inn) F 24 (Z.pl s) [93] s.pass.pass))) := fun W hW => loop_any hW (he.le (Nat.le_succ _)) (.inl rfl) (Z.pl s) [93]
 have HRO : Hid (∀ W, Rd W R Z s.pass → Calls Tryz.prog 149 _ W (LP W.heap.size W R Z s.pass.p (rowM (Z.cx inn) F false [93] s.pass))) := fun W hW => row_any hW [93] (putOk ht he false)
 generalize loopM (Z.cx inn) F 24 (Z.pl s) [93] s.pass.pass = LM at *
 generalize rowM (Z.cx inn) F false [93] s.pass = RM at *
 generalize listM (Z.cx inn) F s = M at *
 generalize Z.pl s = P at *
 have HT : Hid (∀ W, Rd W R Z s.pass → Calls Tryz.prog 147 _ W (TkP W R Z (Z.is s.pass 1 sFor) (Z.takes s.pass 1 sFor))) := fun W hW => takesWord_any hW sFor
 have HD : Hid (Z.takes s.pass 1 sFor = if Z.is s.pass 1 sFor then s.pass.pass else s.pass) := rfl
 generalize Z.is s.pass 1 sFor = b2 at *
 generalize Z.takes s.pass 1 sFor = s3 at *
 clear h he ht
 go_enter Tryz.func115, Tryz.ntmps115
 go_wp2_with fail
 refine HP.out.mono ?_
 rintro e w1 ⟨rfl, h1, f1⟩
 have H1 := qh (And.intro h1 f1)
 clear h1 f1 HP
 go_upto_region 2 with fail
 have hb1 : (w1.alloc (Obj.cells #[Value.int IntKind.i64 P.a, Value.int IntKind.i64 P.l, Value.int IntKind.i64 P.c] 36)).heap[w1.heap.size]? = some (.cells #[Value.int IntKind.i64 P.a, Value.int IntKind.i64 P.l, Value.int IntKind.i64 P.c] 36 (0, 0)) := heap_alloc_new _ _
 have HB := qh hb1
 have hbR : Hid (w1.heap.size ≠ R) := Nat.ne_of_gt H1.out.1.lt
 have HA := qh (And.intro (H1.out.1.below ((Below.refl _ _).alloc (Nat.le_refl _) (Obj.cells #[Value.int IntKind.i64 P.a, Value.int IntKind.i64 P.l, Value.int IntKind.i64 P.c] 36))) (H1.out.2.al (Obj.cells #[Value.int IntKind.i64 P.a, Value.int IntKind.i64 P.l, Value.int IntKind.i64 P.c] 36)))
 clear hb1
 generalize w1.alloc (Obj.cells #[Value.int IntKind.i64 P.a, Value.int IntKind.i64 P.l, Value.int IntKind.i64 P.c] 36) = wa at *
 generalize w1.heap.size = bx at *
 clear H1
 go_wp2_with fail
 refine (HT.out _ HA.out.1).mono ?_
 rintro e w2 ⟨rfl, h2, f2⟩
 have HA' := qh (And.intro h2 (HA.out.2.tr f2))
 have hb2 := (f2.block bx (rc3 HB.out).2.2 (fun e => hbR.out (Option.some.inj e))).trans HB.out
 clear h2 f2 HA
 have HA := HA'
 clear HA'
 obtain ⟨⟨k0, k1, k2⟩, ⟨g0, g1, g2⟩, l1⟩ := rc3 hb2
 clear hb2 HB HT
 generalize w2 = wa at *
 cases b2
 case true =>
  obtain rfl : s3 = s.pass.pass := HD.out
  have HM3 : Hid (M = LM) := HI.out
  go_wp2_with fail
  refine (HLO.out _ HA.out.1).mono ?_
  intro e w4 h4
  have H4 := qh (h4.at HA.out.2 (Nat.le_succ (s.p + 1)))
  obtain ⟨b, rfl, -⟩ := h4
  go_wp2_with fail
  go_ret
  rw [HM3.out]
  exact H4.out
 case false =>
  obtain rfl : s3 = s.pass := HD.out
  have HM3 : Hid (M = (treeX 22 P RM.1, RM.2)) := HI.out
  go_upto_region 4 with fail
  refine wp_region_noPanic ?_
  refine wp_region_held_drew (S := (fun W => (∀ o, W.cell? ⟨bx, o, none⟩ = wa.cell? ⟨bx, o, none⟩) ∧ bx < W.heap.size)) (by kernel_rfl) ?_ (fun hH => ?_)
  · exact ⟨fun _ => rfl, l1⟩
  refine wpAnyH_take (i := 0) (oi := { dst := some 11, op := Op.load 36 (Operand.tmp 3), type := 36, pos := _, after := _, guard := none }) (v := ?_) rfl (by kernel_rfl) (by kernel_rfl) (by kernel_rfl) (fun _ _ _ h => h) (Or.inl ⟨by rfl, ?_⟩) (by assumption) ?_
  rotate_left
  · (intro w hSw; (try dsimp only at hSw); go_simp; try with_reducible rfl)
  try simp only [Act.put, sqa, sqb, sqc]
  refine wpAnyH_take (i := 1) (oi := { dst := some 12, op := Op.move (Operand.tmp 0), type := 82, pos := _, after := _, guard := none }) (v := ?_) rfl (by kernel_rfl) (by kernel_rfl) (by kernel_rfl) (fun _ _ _ h => h) (Or.inl ⟨by rfl, ?_⟩) (by assumption) ?_
  rotate_left
  · (intro w hSw; (try dsimp only at hSw); go_simp; try with_reducible rfl)
  try simp only [Act.put, sqa, sqb, sqc]
  refine wpAnyH_take (i := 2) (oi := { dst := some 13, op := Op.move (Operand.tmp 0), type := 82, pos := _, after := _, guard := none }) (v := ?_) rfl (by kernel_rfl) (by kernel_rfl) (by kernel_rfl) (fun _ _ _ h => h) (Or.inl ⟨by rfl, ?_⟩) (by assumption) ?_
  rotate_left
  · (intro w hSw; (try dsimp only at hSw); go_simp; try with_reducible rfl)
  try simp only [Act.put, sqa, sqb, sqc]
  refine wpAnyH_take (i := 3) (oi := { dst := some 14, op := Op.makeFunc (Fn.func 150) #[Operand.tmp 13] #[], type := 190, pos := _, after := _, guard := none }) (v := ?_) rfl (by kernel_rfl) (by kernel_rfl) (by kernel_rfl) (fun _ _ _ h => h) (Or.inl ⟨by rfl, ?_⟩) (by assumption) ?_
  rotate_left
  · (intro w hSw; (try dsimp only at hSw); go_simp; try with_reducible rfl)
  try simp only [Act.put, sqa, sqb, sqc]
  refine wpAnyH_ready (rs := [4]) (by kernel_rfl) (by simp) ?_
  refine AllReadyH.cons (o := { dst := some 15, op := Op.call { callee := Callee.value (Operand.func 149), args := #[Operand.tmp 12, Operand.const (Value.string { data := #[93] }), Operand.tmp 14], argTypes := #[82, 9, 190] }, type := 34, pos := _, after := _, guard := none }) rfl (fun K hK => ?_) AllReadyH.nil
  go_simp
  refine (HRO.out _ (HA.out.1.below (Below.refl _ _).drew)).mono ?_
  rintro e W_0 ⟨vv, rfl, o2, q2, f2, p2⟩
  have F2 := qh (f2.fm)
  obtain ⟨oo, cap, rfl⟩ := o2.slice
  refine hK.out _ _ ?_ (fun hH' => ?_)
  · exact ⟨fun o => (World.cell?_of_block (w := wa) (F2.out.block bx l1 (fun e => hbR.out (Option.some.inj e)))), Nat.lt_of_lt_of_le l1 F2.out.size⟩
  have H5 := qh (And.intro o2 (And.intro q2 (And.intro (HA.out.2.dr.tr F2.out) p2)))
  clear o2 q2 f2 p2
  clear hK K hH
  have hH := hH'
  clear hH'
  try simp only [Act.put, sqa, sqb, sqc]
  refine wpAnyH_ready (rs := [5]) (by kernel_rfl) (by simp) ?_
  refine AllReadyH.cons (o := { dst := some 16, op := Op.call { callee := Callee.value (Operand.func 121), args := #[Operand.const (Value.int IntKind.i64 22), Operand.tmp 11, Operand.tmp 15], argTypes := #[3, 36, 34] }, type := 84, pos := _, after := _, guard := none }) rfl (fun K hK => ?_) AllReadyH.nil
  go_simp
  refine (tree_any 22 P oo _ cap _).mono ?_
  rintro e W_1 ⟨b, rfl, hb6, hc6, b6⟩
  refine hK.out _ _ ?_ (fun hH' => ?_)
  · exact ⟨fun o => (World.cell?_of_block (w := W_0) (b6.block bx hH.2)).trans (hH.1 o), Nat.lt_of_lt_of_le hH.2 b6.size⟩
  have H6 := qh (And.intro (H5.out.1.fr (Fm.of b6)) (And.intro (H5.out.2.1.below b6) (And.intro (H5.out.2.2.1.tr (Fm.of b6)) (And.intro hb6 hc6))))
  clear hb6 hc6 b6
  clear hK K hH
  have hH := hH'
  clear hH'
  try simp only [Act.put, sqa, sqb, sqc]
  refine wpAnyH_take (i := 6) (oi := { dst := some 2, op := Op.assign (Operand.tmp 16), type := 84, pos := _, after := _, guard := none }) (v := ?_) rfl (by kernel_rfl) (by kernel_rfl) (by kernel_rfl) (fun _ _ _ h => h) (Or.inl ⟨by rfl, ?_⟩) (by assumption) ?_
  rotate_left
  · (intro w hSw; (try dsimp only at hSw); go_simp; try with_reducible rfl)
  try simp only [Act.put, sqa, sqb, sqc]
  all_goals refine wpAnyH_done (by kernel_rfl) ?_ _
  all_goals refine NoPanic.normal ?_
  go_wp2_with fail
  go_ret
  rw [HM3.out]
  have hs0 : w.heap.size ≤ W_0.heap.size := H5.out.2.2.1.size
  have hsa : w.heap.size ≤ wa.drew.heap.size := HA.out.2.dr.size
  have hlb : R < W_0.heap.size := H5.out.2.1.lt
  exact ⟨b, rfl, xb_tree H6.out.2.2.2.2 (H6.out.1.le hsa) (by have := H6.out.2.2.2.1; omega) (Nat.le_trans hs0 H6.out.2.2.2.1), H6.out.2.1, H6.out.2.2.1, H5.out.2.2.2⟩
set_option maxRecDepth 100000 in
set_option maxHeartbeats 4000000 in
theorem pairs_any {w : World} {R : Nat} {Z : Cz} {s : St} {inn : List UInt8 → Ps → Ex × Nat × Ps} {F : Fs} (h : Rd w R Z s) (hlt : s.p < Z.acc.length) (ht : TextOk R Z inn) (he : ExOk R Z F (s.p + 1)) : Calls Tryz.prog 116 #[.pointer (some ⟨R, 0, none⟩)] w (EP w R Z (s.p + 1) (pairsM (Z.cx inn) F s)) := by
 have H := qh h
 have hn := h.sz.n
 have HE := qh he
 have HZ := qh h.nn
 have HI := qh (pairs_eq Z inn F s)
 have HP := qh (pass_any h hlt)
 have HTK : Hid (∀ W, Rd W R Z s.pass → Calls Tryz.prog 76 #[.pointer (some ⟨R, 0, none⟩), .int .i64 ((s.p + 1 + 1 : Nat) : Int)] W _) := fun W hW => tok_any hW (s.p + 1 + 1) (by omega)
 have HLO : Hid (∀ W, Rd W R Z s.pass.pass → Calls Tryz.prog 148 _ W (EP W R Z s.pass.pass.p (loopM (Z.cx inn) F 25 (Z.pl s) [125] s.pass.pass))) := fun W hW => loop_any hW (he.le (Nat.le_succ _)) (.inr rfl) (Z.pl s) [125]
 have HRO : Hid (∀ W, Rd W R Z s.pass → Calls Tryz.prog 149 _ W (LP W.heap.size W R Z s.pass.p (rowM (Z.cx inn) F true [125] s.pass))) := fun W hW => row_any hW [125] (putOk ht he true)
 generalize loopM (Z.cx inn) F 25 (Z.pl s) [125] s.pass.pass = LM at *
 generalize rowM (Z.cx inn) F true [125] s.pass = RM at *
 generalize pairsM (Z.cx inn) F s = M at *
 generalize Z.tz (s.p + 1 + 1) = T at HI HTK
 generalize Z.pl s = P at *
 have HT : Hid (∀ W, Rd W R Z s.pass → Calls Tryz.prog 147 _ W (TkP W R Z (Z.is s.pass 1 sFor) (Z.takes s.pass 1 sFor))) := fun W hW => takesWord_any hW sFor
 have HD : Hid (Z.takes s.pass 1 sFor = if Z.is s.pass 1 sFor then s.pass.pass else s.pass) := rfl
 generalize Z.is s.pass 1 sFor = b2 at *
 generalize Z.takes s.pass 1 sFor = s3 at *
 clear h he ht
 obtain ⟨bk, hbk⟩ : ∃ b, decide (T.1.k = 4) = b := ⟨_, rfl⟩
 have ek : ((T.1.k : Int) == 4) = bk := by rw [← hbk]; by_cases hk : T.1.k = 4 <;> simp [hk] <;> omega
 obtain ⟨b61, hb61⟩ : ∃ b, decide (T.1.s = [61]) = b := ⟨_, rfl⟩
 have e61 : ((tx T.1.s).toList == [61]) = b61 := by rw [toList_tx, ← hb61]; exact beqd _ _
 obtain ⟨b58, hb58⟩ : ∃ b, decide (T.1.s = [58]) = b := ⟨_, rfl⟩
 have e58 : ((tx T.1.s).toList == [58]) = b58 := by rw [toList_tx, ← hb58]; exact beqd _ _
 rw [hbk, hb61, hb58] at HI
 clear hbk hb61 hb58
 go_enter Tryz.func116, Tryz.ntmps116
 go_wp2_with fail
 refine HP.out.mono ?_
 rintro e w1 ⟨rfl, h1, f1⟩
 have H1 := qh (And.intro h1 f1)
 clear h1 f1 HP
 go_upto_region 2 with fail
 have hb1 : (w1.alloc (Obj.cells #[Value.int IntKind.i64 P.a, Value.int IntKind.i64 P.l, Value.int IntKind.i64 P.c] 36)).heap[w1.heap.size]? = some (.cells #[Value.int IntKind.i64 P.a, Value.int IntKind.i64 P.l, Value.int IntKind.i64 P.c] 36 (0, 0)) := heap_alloc_new _ _
 have HB := qh hb1
 have hbR : Hid (w1.heap.size ≠ R) := Nat.ne_of_gt H1.out.1.lt
 have HA := qh (And.intro (H1.out.1.below ((Below.refl _ _).alloc (Nat.le_refl _) (Obj.cells #[Value.int IntKind.i64 P.a, Value.int IntKind.i64 P.l, Value.int IntKind.i64 P.c] 36))) (H1.out.2.al (Obj.cells #[Value.int IntKind.i64 P.a, Value.int IntKind.i64 P.l, Value.int IntKind.i64 P.c] 36)))
 clear hb1
 generalize w1.alloc (Obj.cells #[Value.int IntKind.i64 P.a, Value.int IntKind.i64 P.l, Value.int IntKind.i64 P.c] 36) = wa at *
 generalize w1.heap.size = bx at *
 clear H1
 obtain ⟨⟨r0, r1, r2, r3, r4, r5, r6, r7, r8, r9, r10⟩, -, hR⟩ := rc11 HA.out.1.blk
 clear r0 r2 r3 r4 r5 r6 r7 r8 r9 r10
 have ew : IntKind.i64.wrap (((s.pass.p : Nat) : Int) + 1) = ((s.p + 1 + 1 : Nat) : Int) := by show IntKind.i64.wrap (((s.p + 1 : Nat) : Int) + 1) = _; rw [IntWalk.i64_in _ (by omega)]; rfl
 go_wp2_with fail
 refine (HTK.out _ HA.out.1).mono ?_
 rintro e w2 ⟨rfl, c2⟩
 have HA2 := qh (And.intro (HA.out.1.below c2) (HA.out.2.tr (Fm.of c2)))
 have HB2 := qh ((c2.block bx (rc3 HB.out).2.2).trans HB.out)
 clear c2 HA HB r1 ew
 go_upto_region 3 with fail
 have HA := qh (And.intro (HA2.out.1.below ((Below.refl _ _).alloc (Nat.le_refl _) (Obj.cells #[Value.int IntKind.i64 ↑T.fst.k, Value.string (tx T.fst.s), Value.int IntKind.i64 T.fst.n, Value.slice T.snd.fst T.fst.ps.length T.snd.snd, Value.int IntKind.i64 ↑T.fst.p.a, Value.int IntKind.i64 ↑T.fst.p.l, Value.int IntKind.i64 ↑T.fst.p.c] 89))) (HA2.out.2.al (Obj.cells #[Value.int IntKind.i64 ↑T.fst.k, Value.string (tx T.fst.s), Value.int IntKind.i64 T.fst.n, Value.slice T.snd.fst T.fst.ps.length T.snd.snd, Value.int IntKind.i64 ↑T.fst.p.a, Value.int IntKind.i64 ↑T.fst.p.l, Value.int IntKind.i64 ↑T.fst.p.c] 89)))
 have HB := qh ((heap_alloc_old w2 (Obj.cells #[Value.int IntKind.i64 ↑T.fst.k, Value.string (tx T.fst.s), Value.int IntKind.i64 T.fst.n, Value.slice T.snd.fst T.fst.ps.length T.snd.snd, Value.int IntKind.i64 ↑T.fst.p.a, Value.int IntKind.i64 ↑T.fst.p.l, Value.int IntKind.i64 ↑T.fst.p.c] 89) (rc3 HB2.out).2.2).trans HB2.out)
 clear HA2 HB2
 cases bk with
 | false =>
   go_upto_region 4 with fail
   clear ek e61 e58
   generalize w2.alloc (Obj.cells #[Value.int IntKind.i64 ↑T.fst.k, Value.string (tx T.fst.s), Value.int IntKind.i64 T.fst.n, Value.slice T.snd.fst T.fst.ps.length T.snd.snd, Value.int IntKind.i64 ↑T.fst.p.a, Value.int IntKind.i64 ↑T.fst.p.l, Value.int IntKind.i64 ↑T.fst.p.c] 89) = wb at *
   go_wp2_with fail
   refine (HT.out _ HA.out.1).mono ?_
   rintro e w3 ⟨rfl, h2, f2⟩
   have HA' := qh (And.intro h2 (HA.out.2.tr f2))
   have HB' := qh ((f2.block bx (rc3 HB.out).2.2 (fun e => hbR.out (Option.some.inj e))).trans HB.out)
   clear h2 f2 HA HB HT
   have HA := HA'
   have HB := HB'
   clear HA' HB'
   generalize w3 = wb at *
   cases b2 with
   | true =>
     obtain rfl : s3 = s.pass.pass := HD.out
     have HM3 : Hid (M = LM) := HI.out
     obtain ⟨⟨k0, k1, k2⟩, ⟨g0, g1, g2⟩, l1⟩ := rc3 HB.out
     go_wp2_with fail
     refine (HLO.out _ HA.out.1).mono ?_
     intro e w4 h4
     have H4 := qh (h4.at HA.out.2 (Nat.le_succ (s.p + 1)))
     obtain ⟨b, rfl, -⟩ := h4
     go_wp2_with fail
     go_ret
     rw [HM3.out]
     exact H4.out
   | false =>
     obtain rfl : s3 = s.pass := HD.out
     have HM3 : Hid (M = (treeX 23 P RM.1, RM.2)) := HI.out
     go_upto_region 6 with fail
     obtain ⟨⟨k0, k1, k2⟩, ⟨g0, g1, g2⟩, l1⟩ := rc3 HB.out
     clear HB
     generalize wb = wa at *
     refine wp_region_noPanic ?_
     refine wp_region_held_drew (S := (fun W => (∀ o, W.cell? ⟨bx, o, none⟩ = wa.cell? ⟨bx, o, none⟩) ∧ bx < W.heap.size)) (by kernel_rfl) ?_ (fun hH => ?_)
     · exact ⟨fun _ => rfl, l1⟩
     refine wpAnyH_take (i := 0) (oi := { dst := some 37, op := Op.load 36 (Operand.tmp 3), type := 36, pos := _, after := _, guard := none }) (v := ?_) rfl (by kernel_rfl) (by kernel_rfl) (by kernel_rfl) (fun _ _ _ h => h) (Or.inl ⟨by rfl, ?_⟩) (by assumption) ?_
     rotate_left
     · (intro w hSw; (try dsimp only at hSw); go_simp; try with_reducible rfl)
     try simp only [Act.put, sqa, sqb, sqc]
     refine wpAnyH_take (i := 1) (oi := { dst := some 38, op := Op.move (Operand.tmp 0), type := 82, pos := _, after := _, guard := none }) (v := ?_) rfl (by kernel_rfl) (by kernel_rfl) (by kernel_rfl) (fun _ _ _ h => h) (Or.inl ⟨by rfl, ?_⟩) (by assumption) ?_
     rotate_left
     · (intro w hSw; (try dsimp only at hSw); go_simp; try with_reducible rfl)
     try simp only [Act.put, sqa, sqb, sqc]
     refine wpAnyH_take (i := 2) (oi := { dst := some 39, op := Op.move (Operand.tmp 0), type := 82, pos := _, after := _, guard := none }) (v := ?_) rfl (by kernel_rfl) (by kernel_rfl) (by kernel_rfl) (fun _ _ _ h => h) (Or.inl ⟨by rfl, ?_⟩) (by assumption) ?_
     rotate_left
     · (intro w hSw; (try dsimp only at hSw); go_simp; try with_reducible rfl)
     try simp only [Act.put, sqa, sqb, sqc]
     refine wpAnyH_take (i := 3) (oi := { dst := some 40, op := Op.makeFunc (Fn.func 151) #[Operand.tmp 39] #[], type := 190, pos := _, after := _, guard := none }) (v := ?_) rfl (by kernel_rfl) (by kernel_rfl) (by kernel_rfl) (fun _ _ _ h => h) (Or.inl ⟨by rfl, ?_⟩) (by assumption) ?_
     rotate_left
     · (intro w hSw; (try dsimp only at hSw); go_simp; try with_reducible rfl)
     try simp only [Act.put, sqa, sqb, sqc]
     refine wpAnyH_ready (rs := [4]) (by kernel_rfl) (by simp) ?_
     refine AllReadyH.cons (o := { dst := some 41, op := Op.call { callee := Callee.value (Operand.func 149), args := #[Operand.tmp 38, Operand.const (Value.string { data := #[125] }), Operand.tmp 40], argTypes := #[82, 9, 190] }, type := 34, pos := _, after := _, guard := none }) rfl (fun K hK => ?_) AllReadyH.nil
     go_simp
     refine (HRO.out _ (HA.out.1.below (Below.refl _ _).drew)).mono ?_
     rintro e W_0 ⟨vv, rfl, o2, q2, f2, p2⟩
     have F2 := qh (f2.fm)
     obtain ⟨oo, cap, rfl⟩ := o2.slice
     refine hK.out _ _ ?_ (fun hH' => ?_)
     · exact ⟨fun o => (World.cell?_of_block (w := wa) (F2.out.block bx l1 (fun e => hbR.out (Option.some.inj e)))), Nat.lt_of_lt_of_le l1 F2.out.size⟩
     have H5 := qh (And.intro o2 (And.intro q2 (And.intro (HA.out.2.dr.tr F2.out) p2)))
     clear o2 q2 f2 p2
     clear hK K hH
     have hH := hH'
     clear hH'
     try simp only [Act.put, sqa, sqb, sqc]
     refine wpAnyH_ready (rs := [5]) (by kernel_rfl) (by simp) ?_
     refine AllReadyH.cons (o := { dst := some 42, op := Op.call { callee := Callee.value (Operand.func 121), args := #[Operand.const (Value.int IntKind.i64 23), Operand.tmp 37, Operand.tmp 41], argTypes := #[3, 36, 34] }, type := 84, pos := _, after := _, guard := none }) rfl (fun K hK => ?_) AllReadyH.nil
     go_simp
     refine (tree_any 23 P oo _ cap _).mono ?_
     rintro e W_1 ⟨b, rfl, hb6, hc6, b6⟩
     refine hK.out _ _ ?_ (fun hH' => ?_)
     · exact ⟨fun o => (World.cell?_of_block (w := W_0) (b6.block bx hH.2)).trans (hH.1 o), Nat.lt_of_lt_of_le hH.2 b6.size⟩
     have H6 := qh (And.intro (H5.out.1.fr (Fm.of b6)) (And.intro (H5.out.2.1.below b6) (And.intro (H5.out.2.2.1.tr (Fm.of b6)) (And.intro hb6 hc6))))
     clear hb6 hc6 b6
     clear hK K hH
     have hH := hH'
     clear hH'
     try simp only [Act.put, sqa, sqb, sqc]
     refine wpAnyH_take (i := 6) (oi := { dst := some 2, op := Op.assign (Operand.tmp 42), type := 84, pos := _, after := _, guard := none }) (v := ?_) rfl (by kernel_rfl) (by kernel_rfl) (by kernel_rfl) (fun _ _ _ h => h) (Or.inl ⟨by rfl, ?_⟩) (by assumption) ?_
     rotate_left
     · (intro w hSw; (try dsimp only at hSw); go_simp; try with_reducible rfl)
     try simp only [Act.put, sqa, sqb, sqc]
     all_goals refine wpAnyH_done (by kernel_rfl) ?_ _
     all_goals refine NoPanic.normal ?_
     go_wp2_with fail
     go_ret
     rw [HM3.out]
     have hs0 : w.heap.size ≤ W_0.heap.size := H5.out.2.2.1.size
     have hsa : w.heap.size ≤ wa.drew.heap.size := HA.out.2.dr.size
     have hlb : R < W_0.heap.size := H5.out.2.1.lt
     exact ⟨b, rfl, xb_tree H6.out.2.2.2.2 (H6.out.1.le hsa) (by have := H6.out.2.2.2.1; omega) (Nat.le_trans hs0 H6.out.2.2.2.1), H6.out.2.1, H6.out.2.2.1, H5.out.2.2.2⟩
 | true =>
   cases b61 with
   | true =>
     go_upto_region 4 with fail
     clear ek e61 e58
     generalize w2.alloc (Obj.cells #[Value.int IntKind.i64 ↑T.fst.k, Value.string (tx T.fst.s), Value.int IntKind.i64 T.fst.n, Value.slice T.snd.fst T.fst.ps.length T.snd.snd, Value.int IntKind.i64 ↑T.fst.p.a, Value.int IntKind.i64 ↑T.fst.p.l, Value.int IntKind.i64 ↑T.fst.p.c] 89) = wb at *
     have HM3 : Hid (M = (treeX 23 P RM.1, RM.2)) := HI.out
     go_upto_region 6 with fail
     obtain ⟨⟨k0, k1, k2⟩, ⟨g0, g1, g2⟩, l1⟩ := rc3 HB.out
     clear HB
     generalize wb = wa at *
     refine wp_region_noPanic ?_
     refine wp_region_held_drew (S := (fun W => (∀ o, W.cell? ⟨bx, o, none⟩ = wa.cell? ⟨bx, o, none⟩) ∧ bx < W.heap.size)) (by kernel_rfl) ?_ (fun hH => ?_)
     · exact ⟨fun _ => rfl, l1⟩
     refine wpAnyH_take (i := 0) (oi := { dst := some 37, op := Op.load 36 (Operand.tmp 3), type := 36, pos := _, after := _, guard := none }) (v := ?_) rfl (by kernel_rfl) (by kernel_rfl) (by kernel_rfl) (fun _ _ _ h => h) (Or.inl ⟨by rfl, ?_⟩) (by assumption) ?_
     rotate_left
     · (intro w hSw; (try dsimp only at hSw); go_simp; try with_reducible rfl)
     try simp only [Act.put, sqa, sqb, sqc]
     refine wpAnyH_take (i := 1) (oi := { dst := some 38, op := Op.move (Operand.tmp 0), type := 82, pos := _, after := _, guard := none }) (v := ?_) rfl (by kernel_rfl) (by kernel_rfl) (by kernel_rfl) (fun _ _ _ h => h) (Or.inl ⟨by rfl, ?_⟩) (by assumption) ?_
     rotate_left
     · (intro w hSw; (try dsimp only at hSw); go_simp; try with_reducible rfl)
     try simp only [Act.put, sqa, sqb, sqc]
     refine wpAnyH_take (i := 2) (oi := { dst := some 39, op := Op.move (Operand.tmp 0), type := 82, pos := _, after := _, guard := none }) (v := ?_) rfl (by kernel_rfl) (by kernel_rfl) (by kernel_rfl) (fun _ _ _ h => h) (Or.inl ⟨by rfl, ?_⟩) (by assumption) ?_
     rotate_left
     · (intro w hSw; (try dsimp only at hSw); go_simp; try with_reducible rfl)
     try simp only [Act.put, sqa, sqb, sqc]
     refine wpAnyH_take (i := 3) (oi := { dst := some 40, op := Op.makeFunc (Fn.func 151) #[Operand.tmp 39] #[], type := 190, pos := _, after := _, guard := none }) (v := ?_) rfl (by kernel_rfl) (by kernel_rfl) (by kernel_rfl) (fun _ _ _ h => h) (Or.inl ⟨by rfl, ?_⟩) (by assumption) ?_
     rotate_left
     · (intro w hSw; (try dsimp only at hSw); go_simp; try with_reducible rfl)
     try simp only [Act.put, sqa, sqb, sqc]
     refine wpAnyH_ready (rs := [4]) (by kernel_rfl) (by simp) ?_
     refine AllReadyH.cons (o := { dst := some 41, op := Op.call { callee := Callee.value (Operand.func 149), args := #[Operand.tmp 38, Operand.const (Value.string { data := #[125] }), Operand.tmp 40], argTypes := #[82, 9, 190] }, type := 34, pos := _, after := _, guard := none }) rfl (fun K hK => ?_) AllReadyH.nil
     go_simp
     refine (HRO.out _ (HA.out.1.below (Below.refl _ _).drew)).mono ?_
     rintro e W_0 ⟨vv, rfl, o2, q2, f2, p2⟩
     have F2 := qh (f2.fm)
     obtain ⟨oo, cap, rfl⟩ := o2.slice
     refine hK.out _ _ ?_ (fun hH' => ?_)
     · exact ⟨fun o => (World.cell?_of_block (w := wa) (F2.out.block bx l1 (fun e => hbR.out (Option.some.inj e)))), Nat.lt_of_lt_of_le l1 F2.out.size⟩
     have H5 := qh (And.intro o2 (And.intro q2 (And.intro (HA.out.2.dr.tr F2.out) p2)))
     clear o2 q2 f2 p2
     clear hK K hH
     have hH := hH'
     clear hH'
     try simp only [Act.put, sqa, sqb, sqc]
     refine wpAnyH_ready (rs := [5]) (by kernel_rfl) (by simp) ?_
     refine AllReadyH.cons (o := { dst := some 42, op := Op.call { callee := Callee.value (Operand.func 121), args := #[Operand.const (Value.int IntKind.i64 23), Operand.tmp 37, Operand.tmp 41], argTypes := #[3, 36, 34] }, type := 84, pos := _, after := _, guard := none }) rfl (fun K hK => ?_) AllReadyH.nil
     go_simp
     refine (tree_any 23 P oo _ cap _).mono ?_
     rintro e W_1 ⟨b, rfl, hb6, hc6, b6⟩
     refine hK.out _ _ ?_ (fun hH' => ?_)
     · exact ⟨fun o => (World.cell?_of_block (w := W_0) (b6.block bx hH.2)).trans (hH.1 o), Nat.lt_of_lt_of_le hH.2 b6.size⟩
     have H6 := qh (And.intro (H5.out.1.fr (Fm.of b6)) (And.intro (H5.out.2.1.below b6) (And.intro (H5.out.2.2.1.tr (Fm.of b6)) (And.intro hb6 hc6))))
     clear hb6 hc6 b6
     clear hK K hH
     have hH := hH'
     clear hH'
     try simp only [Act.put, sqa, sqb, sqc]
     refine wpAnyH_take (i := 6) (oi := { dst := some 2, op := Op.assign (Operand.tmp 42), type := 84, pos := _, after := _, guard := none }) (v := ?_) rfl (by kernel_rfl) (by kernel_rfl) (by kernel_rfl) (fun _ _ _ h => h) (Or.inl ⟨by rfl, ?_⟩) (by assumption) ?_
     rotate_left
     · (intro w hSw; (try dsimp only at hSw); go_simp; try with_reducible rfl)
     try simp only [Act.put, sqa, sqb, sqc]
     all_goals refine wpAnyH_done (by kernel_rfl) ?_ _
     all_goals refine NoPanic.normal ?_
     go_wp2_with fail
     go_ret
     rw [HM3.out]
     have hs0 : w.heap.size ≤ W_0.heap.size := H5.out.2.2.1.size
     have hsa : w.heap.size ≤ wa.drew.heap.size := HA.out.2.dr.size
     have hlb : R < W_0.heap.size := H5.out.2.1.lt
     exact ⟨b, rfl, xb_tree H6.out.2.2.2.2 (H6.out.1.le hsa) (by have := H6.out.2.2.2.1; omega) (Nat.le_trans hs0 H6.out.2.2.2.1), H6.out.2.1, H6.out.2.2.1, H5.out.2.2.2⟩
   | false =>
     cases b58 with
     | true =>
       go_upto_region 4 with fail
       clear ek e61 e58
       generalize w2.alloc (Obj.cells #[Value.int IntKind.i64 ↑T.fst.k, Value.string (tx T.fst.s), Value.int IntKind.i64 T.fst.n, Value.slice T.snd.fst T.fst.ps.length T.snd.snd, Value.int IntKind.i64 ↑T.fst.p.a, Value.int IntKind.i64 ↑T.fst.p.l, Value.int IntKind.i64 ↑T.fst.p.c] 89) = wb at *
       have HM3 : Hid (M = (treeX 23 P RM.1, RM.2)) := HI.out
       go_upto_region 6 with fail
       obtain ⟨⟨k0, k1, k2⟩, ⟨g0, g1, g2⟩, l1⟩ := rc3 HB.out
       clear HB
       generalize wb = wa at *
       refine wp_region_noPanic ?_
       refine wp_region_held_drew (S := (fun W => (∀ o, W.cell? ⟨bx, o, none⟩ = wa.cell? ⟨bx, o, none⟩) ∧ bx < W.heap.size)) (by kernel_rfl) ?_ (fun hH => ?_)
       · exact ⟨fun _ => rfl, l1⟩
       refine wpAnyH_take (i := 0) (oi := { dst := some 37, op := Op.load 36 (Operand.tmp 3), type := 36, pos := _, after := _, guard := none }) (v := ?_) rfl (by kernel_rfl) (by kernel_rfl) (by kernel_rfl) (fun _ _ _ h => h) (Or.inl ⟨by rfl, ?_⟩) (by assumption) ?_
       rotate_left
       · (intro w hSw; (try dsimp only at hSw); go_simp; try with_reducible rfl)
       try simp only [Act.put, sqa, sqb, sqc]
       refine wpAnyH_take (i := 1) (oi := { dst := some 38, op := Op.move (Operand.tmp 0), type := 82, pos := _, after := _, guard := none }) (v := ?_) rfl (by kernel_rfl) (by kernel_rfl) (by kernel_rfl) (fun _ _ _ h => h) (Or.inl ⟨by rfl, ?_⟩) (by assumption) ?_
       rotate_left
       · (intro w hSw; (try dsimp only at hSw); go_simp; try with_reducible rfl)
       try simp only [Act.put, sqa, sqb, sqc]
       refine wpAnyH_take (i := 2) (oi := { dst := some 39, op := Op.move (Operand.tmp 0), type := 82, pos := _, after := _, guard := none }) (v := ?_) rfl (by kernel_rfl) (by kernel_rfl) (by kernel_rfl) (fun _ _ _ h => h) (Or.inl ⟨by rfl, ?_⟩) (by assumption) ?_
       rotate_left
       · (intro w hSw; (try dsimp only at hSw); go_simp; try with_reducible rfl)
       try simp only [Act.put, sqa, sqb, sqc]
       refine wpAnyH_take (i := 3) (oi := { dst := some 40, op := Op.makeFunc (Fn.func 151) #[Operand.tmp 39] #[], type := 190, pos := _, after := _, guard := none }) (v := ?_) rfl (by kernel_rfl) (by kernel_rfl) (by kernel_rfl) (fun _ _ _ h => h) (Or.inl ⟨by rfl, ?_⟩) (by assumption) ?_
       rotate_left
       · (intro w hSw; (try dsimp only at hSw); go_simp; try with_reducible rfl)
       try simp only [Act.put, sqa, sqb, sqc]
       refine wpAnyH_ready (rs := [4]) (by kernel_rfl) (by simp) ?_
       refine AllReadyH.cons (o := { dst := some 41, op := Op.call { callee := Callee.value (Operand.func 149), args := #[Operand.tmp 38, Operand.const (Value.string { data := #[125] }), Operand.tmp 40], argTypes := #[82, 9, 190] }, type := 34, pos := _, after := _, guard := none }) rfl (fun K hK => ?_) AllReadyH.nil
       go_simp
       refine (HRO.out _ (HA.out.1.below (Below.refl _ _).drew)).mono ?_
       rintro e W_0 ⟨vv, rfl, o2, q2, f2, p2⟩
       have F2 := qh (f2.fm)
       obtain ⟨oo, cap, rfl⟩ := o2.slice
       refine hK.out _ _ ?_ (fun hH' => ?_)
       · exact ⟨fun o => (World.cell?_of_block (w := wa) (F2.out.block bx l1 (fun e => hbR.out (Option.some.inj e)))), Nat.lt_of_lt_of_le l1 F2.out.size⟩
       have H5 := qh (And.intro o2 (And.intro q2 (And.intro (HA.out.2.dr.tr F2.out) p2)))
       clear o2 q2 f2 p2
       clear hK K hH
       have hH := hH'
       clear hH'
       try simp only [Act.put, sqa, sqb, sqc]
       refine wpAnyH_ready (rs := [5]) (by kernel_rfl) (by simp) ?_
       refine AllReadyH.cons (o := { dst := some 42, op := Op.call { callee := Callee.value (Operand.func 121), args := #[Operand.const (Value.int IntKind.i64 23), Operand.tmp 37, Operand.tmp 41], argTypes := #[3, 36, 34] }, type := 84, pos := _, after := _, guard := none }) rfl (fun K hK => ?_) AllReadyH.nil
       go_simp
       refine (tree_any 23 P oo _ cap _).mono ?_
       rintro e W_1 ⟨b, rfl, hb6, hc6, b6⟩
       refine hK.out _ _ ?_ (fun hH' => ?_)
       · exact ⟨fun o => (World.cell?_of_block (w := W_0) (b6.block bx hH.2)).trans (hH.1 o), Nat.lt_of_lt_of_le hH.2 b6.size⟩
       have H6 := qh (And.intro (H5.out.1.fr (Fm.of b6)) (And.intro (H5.out.2.1.below b6) (And.intro (H5.out.2.2.1.tr (Fm.of b6)) (And.intro hb6 hc6))))
       clear hb6 hc6 b6
       clear hK K hH
       have hH := hH'
       clear hH'
       try simp only [Act.put, sqa, sqb, sqc]
       refine wpAnyH_take (i := 6) (oi := { dst := some 2, op := Op.assign (Operand.tmp 42), type := 84, pos := _, after := _, guard := none }) (v := ?_) rfl (by kernel_rfl) (by kernel_rfl) (by kernel_rfl) (fun _ _ _ h => h) (Or.inl ⟨by rfl, ?_⟩) (by assumption) ?_
       rotate_left
       · (intro w hSw; (try dsimp only at hSw); go_simp; try with_reducible rfl)
       try simp only [Act.put, sqa, sqb, sqc]
       all_goals refine wpAnyH_done (by kernel_rfl) ?_ _
       all_goals refine NoPanic.normal ?_
       go_wp2_with fail
       go_ret
       rw [HM3.out]
       have hs0 : w.heap.size ≤ W_0.heap.size := H5.out.2.2.1.size
       have hsa : w.heap.size ≤ wa.drew.heap.size := HA.out.2.dr.size
       have hlb : R < W_0.heap.size := H5.out.2.1.lt
       exact ⟨b, rfl, xb_tree H6.out.2.2.2.2 (H6.out.1.le hsa) (by have := H6.out.2.2.2.1; omega) (Nat.le_trans hs0 H6.out.2.2.2.1), H6.out.2.1, H6.out.2.2.1, H5.out.2.2.2⟩
     | false =>
       go_upto_region 4 with fail
       clear ek e61 e58
       generalize w2.alloc (Obj.cells #[Value.int IntKind.i64 ↑T.fst.k, Value.string (tx T.fst.s), Value.int IntKind.i64 T.fst.n, Value.slice T.snd.fst T.fst.ps.length T.snd.snd, Value.int IntKind.i64 ↑T.fst.p.a, Value.int IntKind.i64 ↑T.fst.p.l, Value.int IntKind.i64 ↑T.fst.p.c] 89) = wb at *
       go_wp2_with fail
       refine (HT.out _ HA.out.1).mono ?_
       rintro e w3 ⟨rfl, h2, f2⟩
       have HA' := qh (And.intro h2 (HA.out.2.tr f2))
       have HB' := qh ((f2.block bx (rc3 HB.out).2.2 (fun e => hbR.out (Option.some.inj e))).trans HB.out)
       clear h2 f2 HA HB HT
       have HA := HA'
       have HB := HB'
       clear HA' HB'
       generalize w3 = wb at *
       cases b2 with
       | true =>
         obtain rfl : s3 = s.pass.pass := HD.out
         have HM3 : Hid (M = LM) := HI.out
         obtain ⟨⟨k0, k1, k2⟩, ⟨g0, g1, g2⟩, l1⟩ := rc3 HB.out
         go_wp2_with fail
         refine (HLO.out _ HA.out.1).mono ?_
         intro e w4 h4
         have H4 := qh (h4.at HA.out.2 (Nat.le_succ (s.p + 1)))
         obtain ⟨b, rfl, -⟩ := h4
         go_wp2_with fail
         go_ret
         rw [HM3.out]
         exact H4.out
       | false =>
         obtain rfl : s3 = s.pass := HD.out
         have HM3 : Hid (M = (treeX 23 P RM.1, RM.2)) := HI.out
         go_upto_region 6 with fail
         obtain ⟨⟨k0, k1, k2⟩, ⟨g0, g1, g2⟩, l1⟩ := rc3 HB.out
         clear HB
         generalize wb = wa at *
         refine wp_region_noPanic ?_
         refine wp_region_held_drew (S := (fun W => (∀ o, W.cell? ⟨bx, o, none⟩ = wa.cell? ⟨bx, o, none⟩) ∧ bx < W.heap.size)) (by kernel_rfl) ?_ (fun hH => ?_)
         · exact ⟨fun _ => rfl, l1⟩
         refine wpAnyH_take (i := 0) (oi := { dst := some 37, op := Op.load 36 (Operand.tmp 3), type := 36, pos := _, after := _, guard := none }) (v := ?_) rfl (by kernel_rfl) (by kernel_rfl) (by kernel_rfl) (fun _ _ _ h => h) (Or.inl ⟨by rfl, ?_⟩) (by assumption) ?_
         rotate_left
         · (intro w hSw; (try dsimp only at hSw); go_simp; try with_reducible rfl)
         try simp only [Act.put, sqa, sqb, sqc]
         refine wpAnyH_take (i := 1) (oi := { dst := some 38, op := Op.move (Operand.tmp 0), type := 82, pos := _, after := _, guard := none }) (v := ?_) rfl (by kernel_rfl) (by kernel_rfl) (by kernel_rfl) (fun _ _ _ h => h) (Or.inl ⟨by rfl, ?_⟩) (by assumption) ?_
         rotate_left
         · (intro w hSw; (try dsimp only at hSw); go_simp; try with_reducible rfl)
         try simp only [Act.put, sqa, sqb, sqc]
         refine wpAnyH_take (i := 2) (oi := { dst := some 39, op := Op.move (Operand.tmp 0), type := 82, pos := _, after := _, guard := none }) (v := ?_) rfl (by kernel_rfl) (by kernel_rfl) (by kernel_rfl) (fun _ _ _ h => h) (Or.inl ⟨by rfl, ?_⟩) (by assumption) ?_
         rotate_left
         · (intro w hSw; (try dsimp only at hSw); go_simp; try with_reducible rfl)
         try simp only [Act.put, sqa, sqb, sqc]
         refine wpAnyH_take (i := 3) (oi := { dst := some 40, op := Op.makeFunc (Fn.func 151) #[Operand.tmp 39] #[], type := 190, pos := _, after := _, guard := none }) (v := ?_) rfl (by kernel_rfl) (by kernel_rfl) (by kernel_rfl) (fun _ _ _ h => h) (Or.inl ⟨by rfl, ?_⟩) (by assumption) ?_
         rotate_left
         · (intro w hSw; (try dsimp only at hSw); go_simp; try with_reducible rfl)
         try simp only [Act.put, sqa, sqb, sqc]
         refine wpAnyH_ready (rs := [4]) (by kernel_rfl) (by simp) ?_
         refine AllReadyH.cons (o := { dst := some 41, op := Op.call { callee := Callee.value (Operand.func 149), args := #[Operand.tmp 38, Operand.const (Value.string { data := #[125] }), Operand.tmp 40], argTypes := #[82, 9, 190] }, type := 34, pos := _, after := _, guard := none }) rfl (fun K hK => ?_) AllReadyH.nil
         go_simp
         refine (HRO.out _ (HA.out.1.below (Below.refl _ _).drew)).mono ?_
         rintro e W_0 ⟨vv, rfl, o2, q2, f2, p2⟩
         have F2 := qh (f2.fm)
         obtain ⟨oo, cap, rfl⟩ := o2.slice
         refine hK.out _ _ ?_ (fun hH' => ?_)
         · exact ⟨fun o => (World.cell?_of_block (w := wa) (F2.out.block bx l1 (fun e => hbR.out (Option.some.inj e)))), Nat.lt_of_lt_of_le l1 F2.out.size⟩
         have H5 := qh (And.intro o2 (And.intro q2 (And.intro (HA.out.2.dr.tr F2.out) p2)))
         clear o2 q2 f2 p2
         clear hK K hH
         have hH := hH'
         clear hH'
         try simp only [Act.put, sqa, sqb, sqc]
         refine wpAnyH_ready (rs := [5]) (by kernel_rfl) (by simp) ?_
         refine AllReadyH.cons (o := { dst := some 42, op := Op.call { callee := Callee.value (Operand.func 121), args := #[Operand.const (Value.int IntKind.i64 23), Operand.tmp 37, Operand.tmp 41], argTypes := #[3, 36, 34] }, type := 84, pos := _, after := _, guard := none }) rfl (fun K hK => ?_) AllReadyH.nil
         go_simp
         refine (tree_any 23 P oo _ cap _).mono ?_
         rintro e W_1 ⟨b, rfl, hb6, hc6, b6⟩
         refine hK.out _ _ ?_ (fun hH' => ?_)
         · exact ⟨fun o => (World.cell?_of_block (w := W_0) (b6.block bx hH.2)).trans (hH.1 o), Nat.lt_of_lt_of_le hH.2 b6.size⟩
         have H6 := qh (And.intro (H5.out.1.fr (Fm.of b6)) (And.intro (H5.out.2.1.below b6) (And.intro (H5.out.2.2.1.tr (Fm.of b6)) (And.intro hb6 hc6))))
         clear hb6 hc6 b6
         clear hK K hH
         have hH := hH'
         clear hH'
         try simp only [Act.put, sqa, sqb, sqc]
         refine wpAnyH_take (i := 6) (oi := { dst := some 2, op := Op.assign (Operand.tmp 42), type := 84, pos := _, after := _, guard := none }) (v := ?_) rfl (by kernel_rfl) (by kernel_rfl) (by kernel_rfl) (fun _ _ _ h => h) (Or.inl ⟨by rfl, ?_⟩) (by assumption) ?_
         rotate_left
         · (intro w hSw; (try dsimp only at hSw); go_simp; try with_reducible rfl)
         try simp only [Act.put, sqa, sqb, sqc]
         all_goals refine wpAnyH_done (by kernel_rfl) ?_ _
         all_goals refine NoPanic.normal ?_
         go_wp2_with fail
         go_ret
         rw [HM3.out]
         have hs0 : w.heap.size ≤ W_0.heap.size := H5.out.2.2.1.size
         have hsa : w.heap.size ≤ wa.drew.heap.size := HA.out.2.dr.size
         have hlb : R < W_0.heap.size := H5.out.2.1.lt
         exact ⟨b, rfl, xb_tree H6.out.2.2.2.2 (H6.out.1.le hsa) (by have := H6.out.2.2.2.1; omega) (Nat.le_trans hs0 H6.out.2.2.2.1), H6.out.2.1, H6.out.2.2.1, H5.out.2.2.2⟩
end Go.Proofs.YtncjncacfagldaaGreatDoor

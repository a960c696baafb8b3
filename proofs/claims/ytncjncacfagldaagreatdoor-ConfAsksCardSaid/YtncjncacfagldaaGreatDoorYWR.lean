import Derived.Test.YtncjncacfagldaaGreatDoorYWQ
namespace Go.Proofs.YtncjncacfagldaaGreatDoor
open Go.RowKit
theorem field66_2 (c0 c1 c2 c3 c4 c5 c6 : Value) (w : World) : (Instr.field 89 (.agg #[c0, c1, c2, c3, c4, c5, c6]) 2).run Tryz.prog w = .ok c2 w := by kernel_rfl
theorem field101_0 (c0 c1 c2 : Value) (w : World) : (Instr.field 161 (.agg #[c0, c1, c2]) 0).run Tryz.prog w = .ok c0 w := by kernel_rfl
theorem field101_1 (c0 c1 c2 : Value) (w : World) : (Instr.field 161 (.agg #[c0, c1, c2]) 1).run Tryz.prog w = .ok c1 w := by kernel_rfl
theorem field101_2 (c0 c1 c2 : Value) (w : World) : (Instr.field 161 (.agg #[c0, c1, c2]) 2).run Tryz.prog w = .ok c2 w := by kernel_rfl
attribute [local go_sem] field66_0 field66_1 field66_2 field66_3 field66_4 field101_0 field101_1 field101_2

theorem xb_val {n : Nat} {w : World} {R b : Nat} {k i : Int} {sv : ByteArray} {p : Ps} (hb : w.heap[b]? = some (.cells #[.int .i64 1, .string ⟨#[]⟩, .string ⟨#[]⟩, .int .i64 k, .int .i64 i, .string sv, .slice none 0 0, .slice none 0 0, .int .i64 0, .int .i64 0, .bool false, .slice none 0 0, .int .i64 p.a, .int .i64 p.l, .int .i64 p.c] 38 (0, 0))) (hk : (Lit.int .i64 k).wf = true) (hi : (Lit.int .i64 i).wf = true) (hs : sv.size ≤ maxLen) (hR : b ≠ R) (hn : n ≤ b) : Xb n w R b (litX (.mk k i sv [] [] 0 0 false) p) :=
 ⟨none, 0, none, 0, none, 0, hb, xp_mk (sv := sv) 1 ⟨#[]⟩ ⟨#[]⟩ hk hi hs [] p.a p.l p.c (rowP_nil _ _ _ (fun _ _ => undef)) (fun j x h => by cases h), hR, hn⟩
theorem Fn.le {n m R : Nat} {w w' : World} (h : Fn n R w w') (hm : m ≤ n) : Fn m R w w' := ⟨h.os, h.tape, h.output, h.size, fun k hk => h.block k (Nat.lt_of_lt_of_le hk hm)⟩
theorem Lp.op {w W : World} {R : Nat} {Z : Cz} {n b op : Nat} {s s2 : ByteArray} {v : Value} {l : List Ex} {p : Ps} {t : St} (h : Lp w W R Z n b op s s2 v l p t) (o : Nat) : Lp w (W.setCell ⟨b, 0, none⟩ (.int .i64 o)) R Z n b o s s2 v l p t := by
 have hb : ∀ k, k ≠ b → (W.setCell ⟨b, 0, none⟩ (.int .i64 o)).heap[k]? = W.heap[k]? := fun k hk => heap_setCell_other W ⟨b, 0, none⟩ k _ hk
 have hsz : (W.setCell ⟨b, 0, none⟩ (.int .i64 o)).heap.size = W.heap.size := by simp [World.setCell]
 refine ⟨?_, h.row.kept (Nat.le_of_eq hsz.symm) (fun k hk _ _ => hb k (by have := h.bn; omega)), h.rd.at h.bR h.zn 0 _, h.fm.hi h.nb 0 _, h.bn, h.nb, by rw [hsz]; exact h.nw, h.bR, h.zn⟩
 rw [heap_setCell_same W b 0 _ 38 _ h.blk]
 rfl
theorem named_eq (Z : Cz) (inn : List UInt8 → Ps → Ex × Nat × Ps) (F : Fs) (s : St) : namedM (Z.cx inn) F s = if decide ((Z.tz s.p).1.s = sTrue) || decide ((Z.tz s.p).1.s = sFalse) then (litX (vBool (decide ((Z.tz s.p).1.s = sTrue))) (Z.pl s), s.pass) else if decide ((Z.tz s.p).1.s = sNull) then (litX vNull (Z.pl s), s.pass) else if Z.is (Z.freeName s).2 4 [40] then (.mk 5 (tx (Z.freeName s).1) ⟨#[]⟩ vNull (rowM (Z.cx inn) F false [41] (Z.freeName s).2.pass).1 (Z.pl s).a (Z.pl s).l (Z.pl s).c, (rowM (Z.cx inn) F false [41] (Z.freeName s).2.pass).2) else (.mk 2 (tx (Z.freeName s).1) ⟨#[]⟩ vNull [] (Z.pl s).a (Z.pl s).l (Z.pl s).c, (Z.freeName s).2) := by
 unfold namedM
 simp only [is_eq, pl_eq, Cz.tk_eq, freeName_eq, Bool.or_eq_true, decide_eq_true_eq]
theorem freeName_go {Z : Cz} {s : St} (hk : (Z.tz s.p).1.k = 1) : s.p + 1 ≤ (Z.freeName s).2.p := by
 have hlt : s.p < Z.acc.length := kind_lt (by rw [hk]; decide)
 unfold Cz.freeName
 split
 · have := anyName_p (Z := Z) (s := Z.stray s) (by rw [stray_p]; exact Nat.le_refl _)
   rw [stray_p] at this; omega
 · unfold Cz.anyName; rw [if_pos hk]; exact Nat.le_refl _
set_option maxRecDepth 100000 in
set_option maxHeartbeats 4000000 in
theorem named_any {w : World} {R : Nat} {Z : Cz} {s : St} {inn : List UInt8 → Ps → Ex × Nat × Ps} {F : Fs} (h : Rd w R Z s) (hk : (Z.tz s.p).1.k = 1) (ht : TextOk R Z inn) (he : ExOk R Z F (s.p + 1)) : Calls Tryz.prog 200 #[.pointer (some ⟨R, 0, none⟩)] w (EP w R Z (s.p + 1) (namedM (Z.cx inn) F s)) := by
 have hlt : s.p < Z.acc.length := kind_lt (by rw [hk]; decide)
 have H := qh h
 have hn := h.sz.n
 obtain ⟨⟨r0, r1, r2, r3, r4, r5, r6, r7, r8, r9, r10⟩, -, hR⟩ := rc11 h.blk
 clear r0 r2 r3 r4 r5 r6 r7 r8 r9 r10
 have HI := qh (named_eq Z inn F s)
 have HG := qh (freeName_go hk)
 have HFN : Hid (∀ W, Rd W R Z s → Calls Tryz.prog 175 #[.pointer (some ⟨R, 0, none⟩)] W (SnP W R Z (Z.freeName s))) := fun W hW => freeName_any hW
 have HPL : Hid (∀ W, Rd W R Z s → Calls Tryz.prog 123 #[.pointer (some ⟨R, 0, none⟩)] W fun e w' => e = .returned (.agg #[.int .i64 (Z.pl s).a, .int .i64 (Z.pl s).l, .int .i64 (Z.pl s).c]) ∧ Below W.heap.size W w') := fun W hW => place_any hW
 have HPS : Hid (∀ W, Rd W R Z s → Calls Tryz.prog 119 #[.pointer (some ⟨R, 0, none⟩)] W fun e w' => e = .returned (.agg #[.int .i64 (Z.pl s).a, .int .i64 (Z.pl s).l, .int .i64 (Z.pl s).c]) ∧ Rd w' R Z s.pass ∧ Fm R W w') := fun W hW => pass_any hW hlt
 have HT := qh (tok_any h s.p (by omega))
 have HRO : Hid (∀ W, Rd W R Z (Z.freeName s).2.pass → Calls Tryz.prog 149 #[.pointer (some ⟨R, 0, none⟩), .string (tx [41]), putF false R] W (LP W.heap.size W R Z (Z.freeName s).2.pass.p (rowM (Z.cx inn) F false [41] (Z.freeName s).2.pass))) := fun W hW => row_any hW [41] (putOk ht (he.le (by show s.p + 1 ≤ (Z.freeName s).2.p + 1; have := HG.out; omega)) false)
 generalize rowM (Z.cx inn) F false [41] (Z.freeName s).2.pass = RM at *
 generalize namedM (Z.cx inn) F s = M at *
 generalize Z.freeName s = N at *
 generalize Z.pl s = P at *
 generalize Z.tz s.p = X at *
 clear h he ht hk
 obtain ⟨b0, h0⟩ : ∃ b, decide (X.1.s = sTrue) = b := ⟨_, rfl⟩
 have e0 : ((tx X.1.s).toList == [116, 114, 117, 101]) = b0 := by rw [toList_tx, ← h0]; exact beqd _ _
 obtain ⟨b1, h1⟩ : ∃ b, decide (X.1.s = sFalse) = b := ⟨_, rfl⟩
 have e1 : ((tx X.1.s).toList == [102, 97, 108, 115, 101]) = b1 := by rw [toList_tx, ← h1]; exact beqd _ _
 obtain ⟨b2, h2⟩ : ∃ b, decide (X.1.s = sNull) = b := ⟨_, rfl⟩
 have e2 : ((tx X.1.s).toList == [110, 117, 108, 108]) = b2 := by rw [toList_tx, ← h2]; exact beqd _ _
 rw [h0, h1, h2] at HI
 clear h0 h1 h2
 cases b0 with
 | true =>
   have HM : Hid (M = (litX (vBool true) P, s.pass)) := HI.out
   clear HI HFN HPL HRO
   go_enter Tryz.func200, Tryz.ntmps200
   go_wp2_with fail
   refine HT.out.mono ?_
   rintro e w1 ⟨rfl, c1⟩
   have H1 := qh (And.intro (H.out.below c1) (Fm.of (R := R) c1))
   clear c1 HT
   go_wp2_with fail
   refine (bool_any true _).mono ?_
   rintro e w2 ⟨rfl, c2⟩
   have H2 := qh (And.intro (H1.out.1.below c2) (H1.out.2.tr (Fm.of c2)))
   clear c2
   go_wp2_with fail
   refine (HPS.out _ H2.out.1).mono ?_
   rintro e w3 ⟨rfl, h3, f3⟩
   have H3 := qh (And.intro h3 (H2.out.2.tr f3))
   clear h3 f3
   go_wp2_with fail
   refine (lit_any 1 1 ⟨#[]⟩ false P _).mono ?_
   rintro e w4 ⟨b, rfl, hb6, hc6, c6⟩
   have H4 := qh (And.intro (H3.out.1.below c6) (And.intro (H3.out.2.tr (Fm.of c6)) (And.intro hb6 hc6)))
   clear hb6 hc6 c6
   go_wp2_with fail
   go_ret
   rw [HM.out]
   exact ⟨b, rfl, xb_val H4.out.2.2.2 (by decide) (by decide) (by decide) (by have := H4.out.2.2.1; have := H3.out.1.lt; omega) (Nat.le_trans H3.out.2.size H4.out.2.2.1), H4.out.1, H4.out.2.1, Nat.le_refl _⟩
 | false =>
   cases b1 with
   | true =>
     have HM : Hid (M = (litX (vBool false) P, s.pass)) := HI.out
     clear HI HFN HPL HRO
     go_enter Tryz.func200, Tryz.ntmps200
     go_wp2_with fail
     refine HT.out.mono ?_
     rintro e w1 ⟨rfl, c1⟩
     have H1 := qh (And.intro (H.out.below c1) (Fm.of (R := R) c1))
     clear c1 HT
     go_wp2_with fail
     refine (bool_any false _).mono ?_
     rintro e w2 ⟨rfl, c2⟩
     have H2 := qh (And.intro (H1.out.1.below c2) (H1.out.2.tr (Fm.of c2)))
     clear c2
     go_wp2_with fail
     refine (HPS.out _ H2.out.1).mono ?_
     rintro e w3 ⟨rfl, h3, f3⟩
     have H3 := qh (And.intro h3 (H2.out.2.tr f3))
     clear h3 f3
     go_wp2_with fail
     refine (lit_any 1 0 ⟨#[]⟩ false P _).mono ?_
     rintro e w4 ⟨b, rfl, hb6, hc6, c6⟩
     have H4 := qh (And.intro (H3.out.1.below c6) (And.intro (H3.out.2.tr (Fm.of c6)) (And.intro hb6 hc6)))
     clear hb6 hc6 c6
     go_wp2_with fail
     go_ret
     rw [HM.out]
     exact ⟨b, rfl, xb_val H4.out.2.2.2 (by decide) (by decide) (by decide) (by have := H4.out.2.2.1; have := H3.out.1.lt; omega) (Nat.le_trans H3.out.2.size H4.out.2.2.1), H4.out.1, H4.out.2.1, Nat.le_refl _⟩
   | false =>
     cases b2 with
     | true =>
       have HM : Hid (M = (litX vNull P, s.pass)) := HI.out
       clear HI HFN HPL HRO
       go_enter Tryz.func200, Tryz.ntmps200
       go_wp2_with fail
       refine HT.out.mono ?_
       rintro e w1 ⟨rfl, c1⟩
       have H1 := qh (And.intro (H.out.below c1) (Fm.of (R := R) c1))
       clear c1 HT
       go_wp2_with fail
       refine (HPS.out _ H1.out.1).mono ?_
       rintro e w3 ⟨rfl, h3, f3⟩
       have H3 := qh (And.intro h3 (H1.out.2.tr f3))
       clear h3 f3
       go_wp2_with fail
       refine (lit_any 0 0 ⟨#[]⟩ false P _).mono ?_
       rintro e w4 ⟨b, rfl, hb6, hc6, c6⟩
       have H4 := qh (And.intro (H3.out.1.below c6) (And.intro (H3.out.2.tr (Fm.of c6)) (And.intro hb6 hc6)))
       clear hb6 hc6 c6
       go_wp2_with fail
       go_ret
       rw [HM.out]
       exact ⟨b, rfl, xb_val H4.out.2.2.2 (by decide) (by decide) (by decide) (by have := H4.out.2.2.1; have := H3.out.1.lt; omega) (Nat.le_trans H3.out.2.size H4.out.2.2.1), H4.out.1, H4.out.2.1, Nat.le_refl _⟩
     | false =>
       have HM : Hid (M = if Z.is N.2 4 [40] then (.mk 5 (tx N.1) ⟨#[]⟩ vNull RM.1 P.a P.l P.c, RM.2) else (.mk 2 (tx N.1) ⟨#[]⟩ vNull [] P.a P.l P.c, N.2)) := HI.out
       clear HI HPS
       go_enter Tryz.func200, Tryz.ntmps200
       go_wp2_with fail
       refine HT.out.mono ?_
       rintro e w1 ⟨rfl, c1⟩
       have H1 := qh (And.intro (H.out.below c1) (Fm.of (R := R) c1))
       clear c1 HT
       go_wp2_with fail
       refine (HPL.out _ H1.out.1).mono ?_
       rintro e w2 ⟨rfl, c2⟩
       have H2 := qh (And.intro (H1.out.1.below c2) (H1.out.2.tr (Fm.of c2)))
       clear c2 H1
       go_wp2_with fail
       refine (HFN.out _ H2.out.1).mono ?_
       rintro e w3 ⟨rfl, h3, f3⟩
       have H3 := qh (And.intro h3 (H2.out.2.tr f3))
       clear h3 f3 H2
       go_upto_region 9 with fail
       have lw0 : w.heap.size ≤ w3.heap.size := H3.out.2.size
       have lR0 : R < w.heap.size := H.out.lt
       have lz0 : Z.n0 ≤ w.heap.size := H.out.nn
       have hl0 : Lp w (w3.alloc (.cells (lpc 2 (tx N.1) ⟨#[]⟩ (.slice none 0 0) P) 38)) R Z (w3.heap.size + 1) w3.heap.size 2 (tx N.1) ⟨#[]⟩ (.slice none 0 0) [] P N.2 := ⟨heap_alloc_new _ _, OE.nil _ _ _, H3.out.1.below ((Below.refl _ _).alloc (Nat.le_refl _) _), H3.out.2.al _, Nat.lt_succ_self _, lw0, (by simp), by omega, by omega⟩
       have HL := qh hl0
       clear hl0
       generalize w3.alloc _ = w4 at HL ⊢
       generalize hnn : w3.heap.size + 1 = nn at HL
       generalize w3.heap.size = b at HL ⊢
       clear hnn lw0 lz0 H3 lR0 r1 hR
       have HTK := qh (takesSign_any HL.out.rd [40])
       have HD : Hid (Z.takes N.2 4 [40] = if Z.is N.2 4 [40] then N.2.pass else N.2) := rfl
       generalize Z.is N.2 4 [40] = b4 at *
       generalize Z.takes N.2 4 [40] = s4 at *
       go_wp2_with fail
       refine HTK.out.mono ?_
       rintro e w5 ⟨rfl, h5, f5⟩
       have HL2 := qh (HL.out.go h5 f5)
       clear h5 f5 HL HTK
       cases b4 with
       | false =>
         obtain rfl : s4 = N.2 := HD.out
         have HM3 : Hid (M = (.mk 2 (tx N.1) ⟨#[]⟩ vNull [] P.a P.l P.c, N.2)) := HM.out
         go_wp2_with fail
         go_ret
         rw [HM3.out]
         exact HL2.out.ep HG.out
       | true =>
         obtain rfl : s4 = N.2.pass := HD.out
         have HM3 : Hid (M = (.mk 5 (tx N.1) ⟨#[]⟩ vNull RM.1 P.a P.l P.c, RM.2)) := HM.out
         obtain ⟨⟨c0, c1, c2, c3, c4, c5, c6, c7, c8, c9, c10, c11, c12, c13, c14⟩, gf, hbl⟩ := rc15 HL2.out.blk
         go_upto_region 11 with fail
         have HL3 := qh (HL2.out.op 5)
         have e5 : (((5 : Nat) : Int)) = 5 := rfl
         rw [e5] at HL3
         clear e5
         generalize World.setCell w5 _ _ = w6 at *
         clear c0 c1 c2 c3 c4 c5 c6 c7 c8 c9 c10 c11 c12 c13 c14 gf hbl HL2
         go_wp2_with fail
         refine (HRO.out _ HL3.out.rd).mono ?_
         rintro e w7 ⟨vv, rfl, o5, q5, f5, p5⟩
         obtain ⟨oo, cap, rfl⟩ := o5.slice
         obtain ⟨⟨c0, c1, c2, c3, c4, c5, c6, c7, c8, c9, c10, c11, c12, c13, c14⟩, gf, hbl⟩ := rc15 (HL3.out.mid (f5.le HL3.out.nw))
         have H7 := qh (And.intro o5 (And.intro q5 (And.intro f5 p5)))
         clear o5 q5 f5 p5
         go_upto_region 12 with fail
         have HL4 := qh (HL3.out.st 11 _ (H7.out.2.2.1.le HL3.out.nw) (H7.out.1.le HL3.out.nw) H7.out.2.1 rfl)
         generalize World.setCell w7 _ _ = w8 at *
         clear c0 c1 c2 c3 c4 c5 c6 c7 c8 c9 c10 c11 c12 c13 c14 gf hbl
         go_wp2_with fail
         go_ret
         rw [HM3.out]
         exact HL4.out.ep (Nat.le_trans HG.out (Nat.le_trans (Nat.le_succ _) H7.out.2.2.2))
open Go.RowKit
attribute [local go_sem] field66_0 field66_1 field66_2 field66_3 field66_4 field101_0 field101_1 field101_2

theorem neq99 (w : World) : (binOp .neq 159 .nilFunc .nilFunc).run Tryz.prog w = .ok (.bool false) w := by kernel_rfl
theorem neq99_50 (w : World) : (binOp .neq 159 (.func (.func 114) #[] #[]) .nilFunc).run Tryz.prog w = .ok (.bool true) w := by kernel_rfl
theorem neq99_51 (w : World) : (binOp .neq 159 (.func (.func 115) #[] #[]) .nilFunc).run Tryz.prog w = .ok (.bool true) w := by kernel_rfl
theorem neq99_52 (w : World) : (binOp .neq 159 (.func (.func 116) #[] #[]) .nilFunc).run Tryz.prog w = .ok (.bool true) w := by kernel_rfl
attribute [local go_sem] neq99 neq99_50 neq99_51 neq99_52
theorem tz_nw {Z : Cz} (h : Sz Z) (i : Nat) : (Lit.int .i64 (Z.tz i).1.n).wf = true := by
 unfold Cz.tz
 cases e : Z.acc[i]? with
 | none => show (Lit.int .i64 0).wf = true; decide
 | some x => exact h.nw x (List.mem_of_getElem? e)
theorem first_eq (Z : Cz) (inn : List UInt8 → Ps → Ex × Nat × Ps) (F : Fs) (s : St) : firstM (Z.cx inn) F s = if (Z.tz s.p).1.k = 1 then namedM (Z.cx inn) F s else if (Z.tz s.p).1.k = 2 then (litX (vInt (Z.tz s.p).1.n) (Z.pl s), s.pass) else if (Z.tz s.p).1.k = 3 then textM (Z.cx inn) s else if (Z.sign s).op = 1 then bracketsM (Z.cx inn) F s else if (Z.sign s).op = 2 then listM (Z.cx inn) F s else if (Z.sign s).op = 3 then pairsM (Z.cx inn) F s else (zeroX, Z.stray s) := by
 unfold firstM
 simp only [Cz.tk_eq, sign_eq, pl_eq, stray_eq]
theorem sign_op (Z : Cz) (s : St) : (Z.sign s).op = 0 ∨ (Z.sign s).op = 1 ∨ (Z.sign s).op = 2 ∨ (Z.sign s).op = 3 := by
 unfold Cz.sign; split
 · exact sgOf_op _
 · exact .inl rfl
theorem sign_k {Z : Cz} {s : St} (h : (Z.sign s).op ≠ 0) : s.p < Z.acc.length := by
 refine kind_lt fun e => h ?_
 unfold Cz.sign; rw [if_neg (by rw [e]; decide)]; rfl
set_option maxRecDepth 100000 in
set_option maxHeartbeats 4000000 in
theorem first_any {w : World} {R : Nat} {Z : Cz} {s : St} {inn : List UInt8 → Ps → Ex × Nat × Ps} {F : Fs} (h : Rd w R Z s) (ht : TextOk R Z inn) (he : ExOk R Z F (s.p + 1)) : Calls Tryz.prog 190 #[.pointer (some ⟨R, 0, none⟩)] w (EP w R Z s.p (firstM (Z.cx inn) F s)) := by
 have H := qh h
 have hn := h.sz.n
 obtain ⟨⟨r0, r1, r2, r3, r4, r5, r6, r7, r8, r9, r10⟩, -, hR⟩ := rc11 h.blk
 clear r0 r2 r3 r4 r5 r6 r7 r8 r9 r10
 have HI := qh (first_eq Z inn F s)
 have HT := qh (tok_any h s.p (Nat.le_trans h.le (by omega)))
 have HNW := qh (tz_nw h.sz s.p)
 have HNM : Hid ((Z.tz s.p).1.k = 1 → ∀ W, Rd W R Z s → Calls Tryz.prog 200 #[.pointer (some ⟨R, 0, none⟩)] W (EP W R Z (s.p + 1) (namedM (Z.cx inn) F s))) := fun hk W hW => named_any hW hk ht he
 have HTX : Hid ((Z.tz s.p).1.k = 3 → ∀ W, Rd W R Z s → Calls Tryz.prog 187 #[.pointer (some ⟨R, 0, none⟩)] W (EP W R Z s.p (textM (Z.cx inn) s))) := fun hk W hW => ht W s hW hk
 have HPS : Hid ((Z.tz s.p).1.k ≠ 0 → ∀ W, Rd W R Z s → Calls Tryz.prog 119 #[.pointer (some ⟨R, 0, none⟩)] W fun e w' => e = .returned (.agg #[.int .i64 (Z.pl s).a, .int .i64 (Z.pl s).l, .int .i64 (Z.pl s).c]) ∧ Rd w' R Z s.pass ∧ Fm R W w') := fun hk W hW => pass_any hW (kind_lt hk)
 have HSG : Hid (∀ W, Rd W R Z s → Calls Tryz.prog 153 #[.pointer (some ⟨R, 0, none⟩)] W fun e w' => e = .returned (.agg #[.int .i64 (Z.sign s).bt, .int .i64 (Z.sign s).hd, opn (Z.sign s).op]) ∧ Below W.heap.size W w') := fun W hW => sign_any hW
 have HB1 : Hid ((Z.sign s).op ≠ 0 → ∀ W, Rd W R Z s → Calls Tryz.prog 114 #[.pointer (some ⟨R, 0, none⟩)] W (EP W R Z (s.p + 1) (bracketsM (Z.cx inn) F s))) := fun ho W hW => brackets_any hW (sign_k ho) he
 have HB2 : Hid ((Z.sign s).op ≠ 0 → ∀ W, Rd W R Z s → Calls Tryz.prog 115 #[.pointer (some ⟨R, 0, none⟩)] W (EP W R Z (s.p + 1) (listM (Z.cx inn) F s))) := fun ho W hW => list_any hW (sign_k ho) ht he
 have HB3 : Hid ((Z.sign s).op ≠ 0 → ∀ W, Rd W R Z s → Calls Tryz.prog 116 #[.pointer (some ⟨R, 0, none⟩)] W (EP W R Z (s.p + 1) (pairsM (Z.cx inn) F s))) := fun ho W hW => pairs_any hW (sign_k ho) ht he
 have HOP := qh (sign_op Z s)
 generalize bracketsM (Z.cx inn) F s = B1 at *
 generalize listM (Z.cx inn) F s = B2 at *
 generalize pairsM (Z.cx inn) F s = B3 at *
 generalize namedM (Z.cx inn) F s = NM at *
 generalize textM (Z.cx inn) s = TX at *
 generalize firstM (Z.cx inn) F s = M at *
 generalize Z.sign s = G at *
 generalize Z.pl s = P at *
 generalize Z.tz s.p = X at *
 clear h he ht
 by_cases k1 : X.1.k = 1
 · have e1 : ((X.1.k : Int) == 1) = true := by simp [k1]
   have HM : Hid (M = NM) := by unfold Hid; rw [HI.out, if_pos k1]
   have HQ := qh (HNM.out k1)
   clear k1 HI HNM HTX HPS HSG HB1 HB2 HB3
   go_enter Tryz.func190, Tryz.ntmps190
   go_wp2_with fail
   refine HT.out.mono ?_
   rintro e w1 ⟨rfl, c1⟩
   have HA := qh (And.intro ((H.out.below c1).below ((Below.refl _ _).alloc (Nat.le_refl _) (Obj.cells #[Value.int IntKind.i64 ↑X.fst.k, Value.string (tx X.fst.s), Value.int IntKind.i64 X.fst.n, Value.slice X.snd.fst X.fst.ps.length X.snd.snd, Value.int IntKind.i64 ↑X.fst.p.a, Value.int IntKind.i64 ↑X.fst.p.l, Value.int IntKind.i64 ↑X.fst.p.c] 89))) ((Fm.of (R := R) c1).al (Obj.cells #[Value.int IntKind.i64 ↑X.fst.k, Value.string (tx X.fst.s), Value.int IntKind.i64 X.fst.n, Value.slice X.snd.fst X.fst.ps.length X.snd.snd, Value.int IntKind.i64 ↑X.fst.p.a, Value.int IntKind.i64 ↑X.fst.p.l, Value.int IntKind.i64 ↑X.fst.p.c] 89)))
   clear c1 HT
   go_wp2_with fail
   refine (HQ.out _ HA.out.1).mono ?_
   intro e w4 h4
   have H4 := qh (h4.at HA.out.2 (Nat.le_succ _))
   obtain ⟨b, rfl, -⟩ := h4
   go_wp2_with fail
   go_ret
   rw [HM.out]
   exact H4.out
 by_cases k2 : X.1.k = 2
 · have e1 : ((X.1.k : Int) == 1) = false := by rw [beq_eq_false_iff_ne]; omega
   have e2 : ((X.1.k : Int) == 2) = true := by simp [k2]
   have HM : Hid (M = (litX (vInt X.1.n) P, s.pass)) := by unfold Hid; rw [HI.out, if_neg k1, if_pos k2]
   have HQ := qh (HPS.out (by omega))
   clear k1 k2 HI HNM HTX HPS HSG HB1 HB2 HB3
   go_enter Tryz.func190, Tryz.ntmps190
   go_wp2_with fail
   refine HT.out.mono ?_
   rintro e w1 ⟨rfl, c1⟩
   have HA := qh (And.intro ((H.out.below c1).below ((Below.refl _ _).alloc (Nat.le_refl _) (Obj.cells #[Value.int IntKind.i64 ↑X.fst.k, Value.string (tx X.fst.s), Value.int IntKind.i64 X.fst.n, Value.slice X.snd.fst X.fst.ps.length X.snd.snd, Value.int IntKind.i64 ↑X.fst.p.a, Value.int IntKind.i64 ↑X.fst.p.l, Value.int IntKind.i64 ↑X.fst.p.c] 89))) ((Fm.of (R := R) c1).al (Obj.cells #[Value.int IntKind.i64 ↑X.fst.k, Value.string (tx X.fst.s), Value.int IntKind.i64 X.fst.n, Value.slice X.snd.fst X.fst.ps.length X.snd.snd, Value.int IntKind.i64 ↑X.fst.p.a, Value.int IntKind.i64 ↑X.fst.p.l, Value.int IntKind.i64 ↑X.fst.p.c] 89)))
   clear c1 HT
   go_wp2_with fail
   refine (int_any X.1.n _).mono ?_
   rintro e w2 ⟨rfl, c2⟩
   have H2 := qh (And.intro (HA.out.1.below c2) (HA.out.2.tr (Fm.of c2)))
   clear c2
   go_wp2_with fail
   refine (HQ.out _ H2.out.1).mono ?_
   rintro e w3 ⟨rfl, h3, f3⟩
   have H3 := qh (And.intro h3 (H2.out.2.tr f3))
   clear h3 f3
   go_wp2_with fail
   refine (lit_any 2 X.1.n ⟨#[]⟩ false P _).mono ?_
   rintro e w4 ⟨b, rfl, hb6, hc6, c6⟩
   have H4 := qh (And.intro (H3.out.1.below c6) (And.intro (H3.out.2.tr (Fm.of c6)) (And.intro hb6 hc6)))
   clear hb6 hc6 c6
   go_wp2_with fail
   go_ret
   rw [HM.out]
   exact ⟨b, rfl, xb_val H4.out.2.2.2 (by decide) HNW.out (by decide) (by have := H4.out.2.2.1; have := H3.out.1.lt; omega) (Nat.le_trans H3.out.2.size H4.out.2.2.1), H4.out.1, H4.out.2.1, Nat.le_succ _⟩
 by_cases k3 : X.1.k = 3
 · have e1 : ((X.1.k : Int) == 1) = false := by rw [beq_eq_false_iff_ne]; omega
   have e2 : ((X.1.k : Int) == 2) = false := by rw [beq_eq_false_iff_ne]; omega
   have e3 : ((X.1.k : Int) == 3) = true := by simp [k3]
   have HM : Hid (M = TX) := by unfold Hid; rw [HI.out, if_neg k1, if_neg k2, if_pos k3]
   have HQ := qh (HTX.out k3)
   clear k1 k2 k3 HI HNM HTX HPS HSG HB1 HB2 HB3
   go_enter Tryz.func190, Tryz.ntmps190
   go_wp2_with fail
   refine HT.out.mono ?_
   rintro e w1 ⟨rfl, c1⟩
   have HA := qh (And.intro ((H.out.below c1).below ((Below.refl _ _).alloc (Nat.le_refl _) (Obj.cells #[Value.int IntKind.i64 ↑X.fst.k, Value.string (tx X.fst.s), Value.int IntKind.i64 X.fst.n, Value.slice X.snd.fst X.fst.ps.length X.snd.snd, Value.int IntKind.i64 ↑X.fst.p.a, Value.int IntKind.i64 ↑X.fst.p.l, Value.int IntKind.i64 ↑X.fst.p.c] 89))) ((Fm.of (R := R) c1).al (Obj.cells #[Value.int IntKind.i64 ↑X.fst.k, Value.string (tx X.fst.s), Value.int IntKind.i64 X.fst.n, Value.slice X.snd.fst X.fst.ps.length X.snd.snd, Value.int IntKind.i64 ↑X.fst.p.a, Value.int IntKind.i64 ↑X.fst.p.l, Value.int IntKind.i64 ↑X.fst.p.c] 89)))
   clear c1 HT
   go_wp2_with fail
   refine (HQ.out _ HA.out.1).mono ?_
   intro e w4 h4
   have H4 := qh (h4.at HA.out.2 (Nat.le_refl _))
   obtain ⟨b, rfl, -⟩ := h4
   go_wp2_with fail
   go_ret
   rw [HM.out]
   exact H4.out
 have e1 : ((X.1.k : Int) == 1) = false := by rw [beq_eq_false_iff_ne]; omega
 have e2 : ((X.1.k : Int) == 2) = false := by rw [beq_eq_false_iff_ne]; omega
 have e3 : ((X.1.k : Int) == 3) = false := by rw [beq_eq_false_iff_ne]; omega
 have HI' : Hid (M = if G.op = 1 then B1 else if G.op = 2 then B2 else if G.op = 3 then B3 else (zeroX, Z.stray s)) := by unfold Hid; rw [HI.out, if_neg k1, if_neg k2, if_neg k3]
 clear k1 k2 k3 HI HNM HTX HPS HNW
 rcases HOP.out with ho | ho | ho | ho
 · have HS : Hid (∀ W, Rd W R Z s → Calls Tryz.prog 153 #[.pointer (some ⟨R, 0, none⟩)] W fun e w' => e = .returned (.agg #[.int .i64 G.bt, .int .i64 G.hd, Value.nilFunc]) ∧ Below W.heap.size W w') := by have := HSG.out; rw [ho] at this; exact this
   have HM : Hid (M = (zeroX, Z.stray s)) := by unfold Hid; rw [HI'.out, if_neg (by omega), if_neg (by omega), if_neg (by omega)]
   have HG : Hid (s.p ≤ (Z.stray s).p) := by unfold Hid; rw [stray_p]; exact H.out.le
   clear ho HI' HB1 HB2 HB3 HSG
   go_enter Tryz.func190, Tryz.ntmps190
   go_wp2_with fail
   refine HT.out.mono ?_
   rintro e w1 ⟨rfl, c1⟩
   have HA := qh (And.intro ((H.out.below c1).below ((Below.refl _ _).alloc (Nat.le_refl _) (Obj.cells #[Value.int IntKind.i64 ↑X.fst.k, Value.string (tx X.fst.s), Value.int IntKind.i64 X.fst.n, Value.slice X.snd.fst X.fst.ps.length X.snd.snd, Value.int IntKind.i64 ↑X.fst.p.a, Value.int IntKind.i64 ↑X.fst.p.l, Value.int IntKind.i64 ↑X.fst.p.c] 89))) ((Fm.of (R := R) c1).al (Obj.cells #[Value.int IntKind.i64 ↑X.fst.k, Value.string (tx X.fst.s), Value.int IntKind.i64 X.fst.n, Value.slice X.snd.fst X.fst.ps.length X.snd.snd, Value.int IntKind.i64 ↑X.fst.p.a, Value.int IntKind.i64 ↑X.fst.p.l, Value.int IntKind.i64 ↑X.fst.p.c] 89)))
   clear c1 HT
   go_wp2_with fail
   refine (HS.out _ HA.out.1).mono ?_
   rintro e w2 ⟨rfl, c2⟩
   have H2 := qh (And.intro (HA.out.1.below c2) (HA.out.2.tr (Fm.of c2)))
   clear c2 HA
   go_wp2_with fail
   refine (stray_any H2.out.1).mono ?_
   rintro e w3 ⟨rfl, h3, f3⟩
   have H3 := qh (And.intro h3 (H2.out.2.tr f3))
   clear h3 f3
   go_wp2_with fail
   go_ret
   rw [HM.out]
   have lw0 : w.heap.size ≤ w3.heap.size := H3.out.2.size
   have lR0 : R < w.heap.size := H.out.lt
   have lz0 : Z.n0 ≤ w.heap.size := H.out.nn
   have hl0 : Lp w (w3.alloc (.cells (lpc 0 ⟨#[]⟩ ⟨#[]⟩ (.slice none 0 0) ps0) 38)) R Z (w3.heap.size + 1) w3.heap.size 0 ⟨#[]⟩ ⟨#[]⟩ (.slice none 0 0) [] ps0 (Z.stray s) := ⟨heap_alloc_new _ _, OE.nil _ _ _, H3.out.1.below ((Below.refl _ _).alloc (Nat.le_refl _) _), H3.out.2.al _, Nat.lt_succ_self _, lw0, (by simp), by omega, by omega⟩
   exact hl0.ep HG.out
 · have HS : Hid (∀ W, Rd W R Z s → Calls Tryz.prog 153 #[.pointer (some ⟨R, 0, none⟩)] W fun e w' => e = .returned (.agg #[.int .i64 G.bt, .int .i64 G.hd, Value.func (Fn.func 114) #[] #[]]) ∧ Below W.heap.size W w') := by have := HSG.out; rw [ho] at this; exact this
   have HM : Hid (M = B1) := by unfold Hid; rw [HI'.out, if_pos ho]
   have HQ := qh (HB1.out (by omega))
   clear ho HI' HB1 HB2 HB3 HSG
   go_enter Tryz.func190, Tryz.ntmps190
   go_wp2_with fail
   refine HT.out.mono ?_
   rintro e w1 ⟨rfl, c1⟩
   have HA := qh (And.intro ((H.out.below c1).below ((Below.refl _ _).alloc (Nat.le_refl _) (Obj.cells #[Value.int IntKind.i64 ↑X.fst.k, Value.string (tx X.fst.s), Value.int IntKind.i64 X.fst.n, Value.slice X.snd.fst X.fst.ps.length X.snd.snd, Value.int IntKind.i64 ↑X.fst.p.a, Value.int IntKind.i64 ↑X.fst.p.l, Value.int IntKind.i64 ↑X.fst.p.c] 89))) ((Fm.of (R := R) c1).al (Obj.cells #[Value.int IntKind.i64 ↑X.fst.k, Value.string (tx X.fst.s), Value.int IntKind.i64 X.fst.n, Value.slice X.snd.fst X.fst.ps.length X.snd.snd, Value.int IntKind.i64 ↑X.fst.p.a, Value.int IntKind.i64 ↑X.fst.p.l, Value.int IntKind.i64 ↑X.fst.p.c] 89)))
   clear c1 HT
   go_wp2_with fail
   refine (HS.out _ HA.out.1).mono ?_
   rintro e w2 ⟨rfl, c2⟩
   have H2 := qh (And.intro (HA.out.1.below c2) (HA.out.2.tr (Fm.of c2)))
   clear c2 HA
   go_wp2_with fail
   refine (HQ.out _ H2.out.1).mono ?_
   intro e w4 h4
   have H4 := qh (h4.at H2.out.2 (Nat.le_succ _))
   obtain ⟨b, rfl, -⟩ := h4
   go_wp2_with fail
   go_ret
   rw [HM.out]
   exact H4.out
 · have HS : Hid (∀ W, Rd W R Z s → Calls Tryz.prog 153 #[.pointer (some ⟨R, 0, none⟩)] W fun e w' => e = .returned (.agg #[.int .i64 G.bt, .int .i64 G.hd, Value.func (Fn.func 115) #[] #[]]) ∧ Below W.heap.size W w') := by have := HSG.out; rw [ho] at this; exact this
   have HM : Hid (M = B2) := by unfold Hid; rw [HI'.out, if_neg (by omega), if_pos ho]
   have HQ := qh (HB2.out (by omega))
   clear ho HI' HB1 HB2 HB3 HSG
   go_enter Tryz.func190, Tryz.ntmps190
   go_wp2_with fail
   refine HT.out.mono ?_
   rintro e w1 ⟨rfl, c1⟩
   have HA := qh (And.intro ((H.out.below c1).below ((Below.refl _ _).alloc (Nat.le_refl _) (Obj.cells #[Value.int IntKind.i64 ↑X.fst.k, Value.string (tx X.fst.s), Value.int IntKind.i64 X.fst.n, Value.slice X.snd.fst X.fst.ps.length X.snd.snd, Value.int IntKind.i64 ↑X.fst.p.a, Value.int IntKind.i64 ↑X.fst.p.l, Value.int IntKind.i64 ↑X.fst.p.c] 89))) ((Fm.of (R := R) c1).al (Obj.cells #[Value.int IntKind.i64 ↑X.fst.k, Value.string (tx X.fst.s), Value.int IntKind.i64 X.fst.n, Value.slice X.snd.fst X.fst.ps.length X.snd.snd, Value.int IntKind.i64 ↑X.fst.p.a, Value.int IntKind.i64 ↑X.fst.p.l, Value.int IntKind.i64 ↑X.fst.p.c] 89)))
   clear c1 HT
   go_wp2_with fail
   refine (HS.out _ HA.out.1).mono ?_
   rintro e w2 ⟨rfl, c2⟩
   have H2 := qh (And.intro (HA.out.1.below c2) (HA.out.2.tr (Fm.of c2)))
   clear c2 HA
   go_wp2_with fail
   refine (HQ.out _ H2.out.1).mono ?_
   intro e w4 h4
   have H4 := qh (h4.at H2.out.2 (Nat.le_succ _))
   obtain ⟨b, rfl, -⟩ := h4
   go_wp2_with fail
   go_ret
   rw [HM.out]
   exact H4.out
 · have HS : Hid (∀ W, Rd W R Z s → Calls Tryz.prog 153 #[.pointer (some ⟨R, 0, none⟩)] W fun e w' => e = .returned (.agg #[.int .i64 G.bt, .int .i64 G.hd, Value.func (Fn.func 116) #[] #[]]) ∧ Below W.heap.size W w') := by have := HSG.out; rw [ho] at this; exact this
   have HM : Hid (M = B3) := by unfold Hid; rw [HI'.out, if_neg (by omega), if_neg (by omega), if_pos ho]
   have HQ := qh (HB3.out (by omega))
   clear ho HI' HB1 HB2 HB3 HSG
   go_enter Tryz.func190, Tryz.ntmps190
   go_wp2_with fail
   refine HT.out.mono ?_
   rintro e w1 ⟨rfl, c1⟩
   have HA := qh (And.intro ((H.out.below c1).below ((Below.refl _ _).alloc (Nat.le_refl _) (Obj.cells #[Value.int IntKind.i64 ↑X.fst.k, Value.string (tx X.fst.s), Value.int IntKind.i64 X.fst.n, Value.slice X.snd.fst X.fst.ps.length X.snd.snd, Value.int IntKind.i64 ↑X.fst.p.a, Value.int IntKind.i64 ↑X.fst.p.l, Value.int IntKind.i64 ↑X.fst.p.c] 89))) ((Fm.of (R := R) c1).al (Obj.cells #[Value.int IntKind.i64 ↑X.fst.k, Value.string (tx X.fst.s), Value.int IntKind.i64 X.fst.n, Value.slice X.snd.fst X.fst.ps.length X.snd.snd, Value.int IntKind.i64 ↑X.fst.p.a, Value.int IntKind.i64 ↑X.fst.p.l, Value.int IntKind.i64 ↑X.fst.p.c] 89)))
   clear c1 HT
   go_wp2_with fail
   refine (HS.out _ HA.out.1).mono ?_
   rintro e w2 ⟨rfl, c2⟩
   have H2 := qh (And.intro (HA.out.1.below c2) (HA.out.2.tr (Fm.of c2)))
   clear c2 HA
   go_wp2_with fail
   refine (HQ.out _ H2.out.1).mono ?_
   intro e w4 h4
   have H4 := qh (h4.at H2.out.2 (Nat.le_succ _))
   obtain ⟨b, rfl, -⟩ := h4
   go_wp2_with fail
   go_ret
   rw [HM.out]
   exact H4.out
end Go.Proofs.YtncjncacfagldaaGreatDoor

import Derived.Test.YtncjncacfagldaaGreatDoorYWW
namespace Go.Proofs.YtncjncacfagldaaGreatDoor
open Go.RowKit Go.Lib
attribute [local go_sem] field66_0 field66_1 field66_2 field66_3 field66_4

set_option maxRecDepth 100000 in
theorem step_oe {w : World} {ops : Array Oper} {o : Oper} {a : Act} {KK : Act → World → Prop} {Q : Exit → Act → World → Prop} {E : Prop} (hgd : o.guard = none) (s x : Operand)
 (ho : o.op = .call { callee := .builtin .append, args := #[s, x], argTypes := #[34, 34] }) {n R : Nat} {v : Value} {l : List Ex} (hs : a.eval s = v) (hx : a.eval x = .slice (some ⟨w.heap.size, 0, none⟩) 1 1)
 (h : OE n w R v l) {X : Ex} {c : Array Value} {m : Nat} (hX : XP (Nu m w R) w X (.agg c)) (hm : ∀ g, v.ownBlock = some g → g < m) (hnm : n ≤ m) (hn : n ≤ w.heap.size) (hR : R < w.heap.size) (hlen : l.length ≤ 100000)
 (K : ∀ v' w', OE n w' R v' (l ++ [X]) → (w.alloc (.cells c 38)).grownBy w' v.ownBlock → KK (a.put o.dst v') w') : if Region.wanted o (yielded ops a.tmps) = true then Oper.wp Tryz.prog o a (w.alloc (.cells c 38)) KK Q else E := by
 obtain ⟨i, hi, hz, hs1, hb⟩ := info_parts info33
 obtain ⟨c', hcc, hc15, hc1⟩ := hX.size
 obtain rfl : c' = c := by injection hcc with e; exact e.symm
 obtain ⟨cs, h1, h2, h3, h4, h5⟩ := h
 refine step_append_lies (w.alloc (.cells c' 38)) hgd s x 34 ho n 38 i _ 15 192 Tryz.underlying34 hi hz hs1 hb rfl (by omega) v l.length (cs.flatMap Array.toList) hs (h4.alloc _) ⟨w.heap.size, 0, none⟩ 1 1 c'.toList hx (by simp [hc15]) (cells_lit w c' 38) hc1 (by omega) (by unfold maxLen; omega) (by omega) (by simp; omega) _ rfl (fun g cap w' hown hgrow hat hlt => K _ _ ?_ hgrow)
 have hgR : g ≠ R := by
  rcases hat with e | e
  · exact fun e' => h5 (by rw [e, e'])
  · have : (w.alloc (.cells c' 38)).heap.size = w.heap.size + 1 := by simp
    omega
 have old : ∀ k, k < w.heap.size → v.ownBlock ≠ some k → g ≠ k ∧ w'.heap[k]? = w.heap[k]? := fun k hk hv => by
  refine ⟨?_, (hgrow.block k (by simp; omega) (fun e => hv e.symm)).trans (heap_alloc_old w _ hk)⟩
  rcases hat with e | e
  · exact fun e' => hv (by rw [e, e'])
  · have : (w.alloc (.cells c' 38)).heap.size = w.heap.size + 1 := by simp
    omega
 have hsz : w.heap.size ≤ w'.heap.size := by have := hgrow.size; simp at this; omega
 refine ⟨cs ++ [c'], by simp [h1], fun j Y d hY hd => ?_, fun d hd => ?_, ?_, ?_⟩
 · rcases Nat.lt_or_ge j l.length with hj | hj
   · rw [List.getElem?_append_left hj] at hY
     rw [List.getElem?_append_left (by omega)] at hd
     refine (h2 j Y d hY hd).keptP fun k hk => ?_
     have := old k hk.1.2.1 hk.2
     exact ⟨⟨⟨hk.1.1, Nat.lt_of_lt_of_le hk.1.2.1 hsz, hk.1.2.2⟩, fun e => this.1 (by injection e)⟩, this.2⟩
   · rw [List.getElem?_append_right hj] at hY
     rw [List.getElem?_append_right (by omega), h1] at hd
     have hj0 : j - l.length = 0 := by
      have := (List.getElem?_eq_some_iff.1 hY).1
      simp at this; omega
     rw [hj0] at hY hd
     simp at hY hd
     subst hY hd
     refine hX.keptP fun k hk => ?_
     have hvk : v.ownBlock ≠ some k := fun e => by have := hm k e; have := hk.1; omega
     have := old k hk.2.1 hvk
     exact ⟨⟨⟨Nat.le_trans hnm hk.1, Nat.lt_of_lt_of_le hk.2.1 hsz, hk.2.2⟩, fun e => this.1 (by injection e)⟩, this.2⟩
 · rcases List.mem_append.1 hd with hd | hd
   · exact h3 d hd
   · rw [List.mem_singleton] at hd; subst hd; exact ⟨hc15, hc1⟩
 · rw [List.length_append, List.flatMap_append]; simpa using hown
 · exact fun e => hgR (by injection e)

def inh (Z : Cz) (x : Prt) : Ps := ⟨(mv Z.h x.p.ps).a, (mv Z.h x.p.ps).l - 1, (mv Z.h x.p.ps).c - 1⟩
def InnOk (R : Nat) (Z : Cz) (inn : List UInt8 → Ps → Ex × Nat × Ps) : Prop :=
 ∀ (W : World) (s : St) (X : Tkn × Option Addr × Nat) (x : Prt), Rd W R Z s → X ∈ Z.acc → x ∈ X.1.ps → x.ex = true → Calls Tryz.prog 199 #[.pointer (some ⟨R, 0, none⟩), pav x] W (EP W R Z s.p ((inn x.s (inh Z x)).1, if (inn x.s (inh Z x)).2.1 = 0 then s else Z.fail s (inn x.s (inh Z x)).2.1 (inn x.s (inh Z x)).2.2))
theorem partL_cons (Z : Cz) (inn : List UInt8 → Ps → Ex × Nat × Ps) (p : Ps) (t : Prt) (r : List Prt) (l : List Ex) (s : St) : partL (Z.cx inn) p (t :: r) l s = if t.ex then partL (Z.cx inn) p r (l ++ [(inn t.s (inh Z t)).1]) (if (inn t.s (inh Z t)).2.1 = 0 then s else Z.fail s (inn t.s (inh Z t)).2.1 (inn t.s (inh Z t)).2.2) else partL (Z.cx inn) p r (l ++ [litX (vStr (tx t.s)) p]) s := by
 show (if t.ex then partL (Z.cx inn) p r _ (if _ then s else (Z.cx inn).fail s _ _) else _) = _
 rw [fail_eq]
 rfl
theorem text_eq (Z : Cz) (inn : List UInt8 → Ps → Ex × Nat × Ps) (s : St) : textM (Z.cx inn) s = if (Z.tz s.p).1.ps.any (·.ex) then (treeX 26 (Z.pl s) (partL (Z.cx inn) (Z.pl s) (Z.tz s.p).1.ps [] s.pass).1, (partL (Z.cx inn) (Z.pl s) (Z.tz s.p).1.ps [] s.pass).2) else (litX (vStr (tx ((Z.tz s.p).1.ps.flatMap (·.s)))) (Z.pl s), s.pass) := by
 unfold textM
 simp only [pl_eq, Cz.tk_eq]
theorem tz_mem {Z : Cz} {i : Nat} (h : i < Z.acc.length) : Z.tz i ∈ Z.acc := by
 unfold Cz.tz
 rw [List.getElem?_eq_getElem h]
 exact List.getElem_mem h
theorem flat_le {l : List Prt} {x : Prt} (h : x ∈ l) : x.s.length ≤ (l.flatMap (·.s)).length := by
 induction l with
 | nil => cases h
 | cons a r ih =>
   rw [List.flatMap_cons, List.length_append]
   rcases List.mem_cons.1 h with rfl | h
   · omega
   · have := ih h; omega
set_option maxRecDepth 100000 in
set_option maxHeartbeats 4000000 in
theorem text_any {R : Nat} {Z : Cz} {inn : List UInt8 → Ps → Ex × Nat × Ps} (hin : InnOk R Z inn) : TextOk R Z inn := by
 intro w s h hk
 have hlt : s.p < Z.acc.length := kind_lt (by rw [hk]; decide)
 have hmem := tz_mem hlt
 have H := qh h
 have hn := h.sz.n
 obtain ⟨⟨r0, r1, r2, r3, r4, r5, r6, r7, r8, r9, r10⟩, -, hR⟩ := rc11 h.blk
 clear r0 r2 r3 r4 r5 r6 r7 r8 r9 r10
 have HI := qh (text_eq Z inn s)
 have HT := qh (tok_any h s.p (by omega))
 have HPS := qh (fun W hW => pass_any (w := W) (R := R) (s := s) hW hlt)
 have HIN : Hid (∀ (W : World) (t : St) (x : Prt), Rd W R Z t → x ∈ (Z.tz s.p).1.ps → x.ex = true → Calls Tryz.prog 199 #[.pointer (some ⟨R, 0, none⟩), pav x] W (EP W R Z t.p ((inn x.s (inh Z x)).1, if (inn x.s (inh Z x)).2.1 = 0 then t else Z.fail t (inn x.s (inh Z x)).2.1 (inn x.s (inh Z x)).2.2))) := fun W t x hW hx he => hin W t _ x hW hmem hx he
 have HPT : Hid (∀ (W : World) (t : St), Rd W R Z t → Pts (Ok Z.n0 R) W (Z.tz s.p).2.1 (Z.tz s.p).2.2 (Z.tz s.p).1.ps ∧ ∀ k, Ok Z.n0 R k → k < W.heap.size) := fun W t hW => ⟨hW.zt.pt _ hmem, fun k hk => Nat.lt_of_lt_of_le hk.1 hW.nn⟩
 have HBD := qh (h.sz.pt _ hmem)
 generalize textM (Z.cx inn) s = M at *
 generalize Z.tz s.p = X at *
 generalize Z.pl s = P at *
 clear h hk hmem hin
 go_enter Tryz.func187, Tryz.ntmps187
 go_wp2_with fail
 refine HT.out.mono ?_
 rintro e w1 ⟨rfl, c1⟩
 have H1 := qh (And.intro (H.out.below c1) (Fm.of (R := R) c1))
 clear c1 HT
 go_wp2_with fail
 refine (HPS.out _ H1.out.1).mono ?_
 rintro e w2 ⟨rfl, h2, f2⟩
 have H2 := qh (And.intro h2 (H1.out.2.tr f2))
 clear h2 f2 H1 HPS
 go_upto_region 3 with fail
 have hb1 : (w2.alloc (Obj.cells #[Value.int IntKind.i64 P.a, Value.int IntKind.i64 P.l, Value.int IntKind.i64 P.c] 36)).heap[w2.heap.size]? = some (.cells #[Value.int IntKind.i64 P.a, Value.int IntKind.i64 P.l, Value.int IntKind.i64 P.c] 36 (0, 0)) := heap_alloc_new _ _
 have HB := qh hb1
 have hbR : Hid (w2.heap.size ≠ R) := Nat.ne_of_gt H2.out.1.lt
 have H3 := qh (And.intro (H2.out.1.below ((Below.refl _ _).alloc (Nat.le_refl _) (Obj.cells #[Value.int IntKind.i64 P.a, Value.int IntKind.i64 P.l, Value.int IntKind.i64 P.c] 36))) (H2.out.2.al (Obj.cells #[Value.int IntKind.i64 P.a, Value.int IntKind.i64 P.l, Value.int IntKind.i64 P.c] 36)))
 have hlw : Hid (w.heap.size ≤ w2.heap.size) := H2.out.2.size
 clear hb1 H2
 generalize w2.alloc (Obj.cells #[Value.int IntKind.i64 P.a, Value.int IntKind.i64 P.l, Value.int IntKind.i64 P.c] 36) = w3 at *
 generalize w2.heap.size = bx at *
 obtain ⟨bany, hbany⟩ : ∃ b, X.1.ps.any (·.ex) = b := ⟨_, rfl⟩
 have HAN := qh (anyExpr_any (HPT.out w3 _ H3.out.1).1 (HPT.out w3 _ H3.out.1).2 (Nat.le_trans HBD.out.1 (by decide)))
 rw [hbany] at HAN HI
 clear hbany
 go_wp2_with fail
 refine HAN.out.mono ?_
 rintro e w4 ⟨rfl, c4⟩
 have H4 := qh (And.intro (H3.out.1.below c4) (H3.out.2.tr (Fm.of c4)))
 have hb4 := (c4.block bx (rc3 HB.out).2.2).trans HB.out
 clear c4 HAN HB H3
 obtain ⟨⟨k0, k1, k2⟩, ⟨g0, g1, g2⟩, lx⟩ := rc3 hb4
 have HB := qh hb4
 clear hb4
 cases bany with
 | false =>
   have HM : Hid (M = (litX (vStr (tx (X.1.ps.flatMap (·.s)))) P, s.pass)) := HI.out
   have HBY : Hid (∀ W t, Rd W R Z t → Calls Tryz.prog 198 #[.slice X.2.1 X.1.ps.length X.2.2] W fun e w' => e = .returned (.string (tx (X.1.ps.flatMap (·.s)))) ∧ Below W.heap.size W w') := fun W t hW => bytes_any (HPT.out W t hW).1 (HPT.out W t hW).2 (Nat.le_trans HBD.out.1 (by decide)) (Nat.le_trans HBD.out.2.1 (by decide))
   have HFL := qh HBD.out.2.1
   generalize X.1.ps.flatMap (·.s) = FM at HM HBY HFL
   go_upto_region 4 with fail
   refine wp_region_noPanic ?_
   refine wp_region_held_drew (S := (fun W => (∀ o, W.cell? ⟨bx, o, none⟩ = w4.cell? ⟨bx, o, none⟩) ∧ bx < W.heap.size)) (by kernel_rfl) ?_ (fun hH => ?_)
   · exact ⟨fun _ => rfl, lx⟩
   refine wpAnyH_take (i := 0) (oi := { dst := some 20, op := Op.move (Operand.tmp 3), type := 87, pos := _, after := _, guard := none }) (v := ?_) rfl (by kernel_rfl) (by kernel_rfl) (by kernel_rfl) (fun _ _ _ h => h) (Or.inl ⟨by rfl, ?_⟩) (by assumption) ?_
   rotate_left
   · (intro w hSw; (try dsimp only at hSw); go_simp; try with_reducible rfl)
   try simp only [Act.put, sqa, sqb, sqc]
   refine wpAnyH_take (i := 3) (oi := { dst := some 23, op := Op.load 36 (Operand.tmp 4), type := 36, pos := _, after := _, guard := none }) (v := ?_) rfl (by kernel_rfl) (by kernel_rfl) (by kernel_rfl) (fun _ _ _ h => h) (Or.inl ⟨by rfl, ?_⟩) (by assumption) ?_
   rotate_left
   · (intro w hSw; (try dsimp only at hSw); go_simp; try with_reducible rfl)
   try simp only [Act.put, sqa, sqb, sqc]
   refine wpAnyH_ready (rs := [1]) (by kernel_rfl) (by simp) ?_
   refine AllReadyH.cons (o := { dst := some 21, op := Op.call { callee := Callee.value (Operand.func 198), args := #[Operand.tmp 20], argTypes := #[87] }, type := 9, pos := _, after := _, guard := none }) rfl (fun K hK => ?_) AllReadyH.nil
   go_simp
   refine (HBY.out _ _ (H4.out.1.below (Below.refl _ _).drew)).mono ?_
   rintro e0 WA ⟨rfl, b1⟩
   have F1 := qh (Fm.of (R := R) b1)
   have HA := qh (And.intro ((H4.out.1.below (Below.refl _ _).drew).below b1) ((H4.out.2.dr).tr (Fm.of b1)))
   clear b1
   refine hK.out _ _ ?_ (fun hH' => ?_)
   · exact ⟨fun o => (World.cell?_of_block (w := w4.drew) (F1.out.block bx hH.2 (fun e => hbR.out (Option.some.inj e)))).trans (hH.1 o), Nat.lt_of_lt_of_le hH.2 F1.out.size⟩
   clear hK K hH
   have hH := hH'
   clear hH'
   try simp only [Act.put, sqa, sqb, sqc]
   refine wpAnyH_ready (rs := [2]) (by kernel_rfl) (by simp) ?_
   refine AllReadyH.cons (o := { dst := some 22, op := Op.call { callee := Callee.value (Operand.func 189), args := #[Operand.tmp 21], argTypes := #[9] }, type := 33, pos := _, after := _, guard := none }) rfl (fun K hK => ?_) AllReadyH.nil
   go_simp
   refine (str_any _ _).mono ?_
   rintro e0 WB ⟨rfl, b2⟩
   have F2 := qh (Fm.of (R := R) b2)
   have HB2 := qh (And.intro (HA.out.1.below b2) (HA.out.2.tr (Fm.of b2)))
   clear b2
   refine hK.out _ _ ?_ (fun hH' => ?_)
   · exact ⟨fun o => (World.cell?_of_block (w := WA) (F2.out.block bx hH.2 (fun e => hbR.out (Option.some.inj e)))).trans (hH.1 o), Nat.lt_of_lt_of_le hH.2 F2.out.size⟩
   clear hK K hH
   have hH := hH'
   clear hH'
   try simp only [Act.put, sqa, sqb, sqc]
   refine wpAnyH_ready (rs := [4]) (by kernel_rfl) (by simp) ?_
   refine AllReadyH.cons (o := { dst := some 24, op := Op.call { callee := Callee.value (Operand.func 188), args := #[Operand.tmp 22, Operand.tmp 23], argTypes := #[33, 36] }, type := 84, pos := _, after := _, guard := none }) rfl (fun K hK => ?_) AllReadyH.nil
   go_simp
   refine (lit_any 3 0 (tx FM) false P _).mono ?_
   rintro e0 WC ⟨b, rfl, hb6, hc6, b3⟩
   have F3 := qh (Fm.of (R := R) b3)
   have HC := qh (And.intro (HB2.out.1.below b3) (And.intro (HB2.out.2.tr (Fm.of b3)) (And.intro hb6 hc6)))
   clear b3 hb6 hc6
   refine hK.out _ _ ?_ (fun hH' => ?_)
   · exact ⟨fun o => (World.cell?_of_block (w := WB) (F3.out.block bx hH.2 (fun e => hbR.out (Option.some.inj e)))).trans (hH.1 o), Nat.lt_of_lt_of_le hH.2 F3.out.size⟩
   clear hK K hH
   have hH := hH'
   clear hH'
   try simp only [Act.put, sqa, sqb, sqc]
   refine wpAnyH_take (i := 5) (oi := { dst := some 2, op := Op.assign (Operand.tmp 24), type := 84, pos := _, after := _, guard := none }) (v := ?_) rfl (by kernel_rfl) (by kernel_rfl) (by kernel_rfl) (fun _ _ _ h => h) (Or.inl ⟨by rfl, ?_⟩) (by assumption) ?_
   rotate_left
   · (intro w hSw; (try dsimp only at hSw); go_simp; try with_reducible rfl)
   try simp only [Act.put, sqa, sqb, sqc]
   all_goals refine wpAnyH_done (by kernel_rfl) ?_ _
   all_goals refine NoPanic.normal ?_
   go_wp2_with fail
   go_ret
   rw [HM.out]
   exact ⟨b, rfl, xb_lit HC.out.2.2.2 (Nat.le_trans HFL.out (by decide)) (by have := HC.out.2.2.1; have := HB2.out.1.lt; omega) (Nat.le_trans HB2.out.2.size HC.out.2.2.1), HC.out.1, HC.out.2.1, Nat.le_succ _⟩
 | true =>
   have HM : Hid (M = (treeX 26 P (partL (Z.cx inn) P X.1.ps [] s.pass).1, (partL (Z.cx inn) P X.1.ps [] s.pass).2)) := HI.out
   generalize hPL : partL (Z.cx inn) P X.1.ps [] s.pass = PL at *
   have HPL := qh hPL
   clear hPL HI
   generalize X.2.1 = oX at *
   have HX0 : Hid (X.1.ps.drop 0 = X.1.ps) := List.drop_zero
   have hcl := (HPT.out w4 _ H4.out.1).1.2.1
   have hlc := (HPT.out w4 _ H4.out.1).1.1
   unfold maxLen at hcl
   have hbd1 := HBD.out.1
   go_upto_region 6 with fail
   go_wp2_with fail
   go_loopw [5, 27] (fun v5 v27 wr => ∃ (k : Nat) (s' : St) (l : List Ex), k ≤ X.1.ps.length ∧ v27 = .int .i64 (k : Int) ∧ Hid (PL = partL (Z.cx inn) P (X.1.ps.drop k) l s') ∧ Hid (OE w4.heap.size wr R v5 l) ∧ Hid (Rd wr R Z s') ∧ Hid (Fn w4.heap.size R w4 wr) ∧ Hid (s.p + 1 ≤ s'.p) ∧ Hid (l.length = k)) (fun _ v _ => X.1.ps.length - (intOf v).toNat)
   case atStart => exact ⟨0, s.pass, [], Nat.zero_le _, rfl, by unfold Hid; rw [HX0.out]; exact HPL.out.symm, OE.nil _ _ _, H4.out.1, Fn.of (Fm.rf _ _) (Nat.le_refl _), Nat.le_refl _, rfl⟩
   case round =>
    obtain ⟨k, s', l, hk, rfl, HP, HO, HR, HW, HSP, HLL⟩ := hrel
    have hb5 := (HW.out.block bx lx hbR.out).trans HB.out
    have lx5 := (rc3 hb5).2.2
    by_cases hlt2 : k < X.1.ps.length
    · have e1 : (k : Int) < (X.1.ps.length : Int) := by omega
      have hx := List.getElem?_eq_getElem hlt2
      have hdr : X.1.ps.drop k = X.1.ps[k] :: X.1.ps.drop (k + 1) := List.drop_eq_getElem_cons hlt2
      generalize X.1.ps[k] = x at hx hdr
      have HX := qh (List.mem_of_getElem? hx)
      have HP2 := qh (HP.out.trans ((congrArg (fun d => partL (Z.cx inn) P d l s') hdr).trans (partL_cons Z inn P x (X.1.ps.drop (k + 1)) l s')))
      clear HP hdr
      obtain ⟨b, off, rfl, hPb, d0, d1, d2, d3, d4⟩ := (HPT.out wr _ HR.out).1.at hx
      have hbs : b < wr.heap.size := (HPT.out wr _ HR.out).2 b hPb
      have hk0 : ¬ (k : Int) < 0 := by omega
      have e2 : IntKind.i64.wrap ((k : Int) + 1) = ((k + 1 : Nat) : Int) := by rw [IntWalk.i64_in _ (by omega)]; rfl
      clear hx hPb
      have HR1 := qh (HR.out.below ((Below.refl _ _).alloc (Nat.le_refl _) (Obj.cells #[.bool x.ex, .string (tx x.s), .int .i64 x.p.a, .int .i64 x.p.l, .int .i64 x.p.c] 130)))
      have HO1 := qh (HO.out.fr ((Fm.rf R wr).al (Obj.cells #[.bool x.ex, .string (tx x.s), .int .i64 x.p.a, .int .i64 x.p.l, .int .i64 x.p.c] 130)))
      have HW1 := qh (HW.out.tr (Fn.of ((Fm.rf R wr).al (Obj.cells #[.bool x.ex, .string (tx x.s), .int .i64 x.p.a, .int .i64 x.p.l, .int .i64 x.p.c] 130)) HW.out.size))
      have hb6 := (heap_alloc_old wr (Obj.cells #[.bool x.ex, .string (tx x.s), .int .i64 x.p.a, .int .i64 x.p.l, .int .i64 x.p.c] 130) lx5).trans hb5
      have HPB := qh (heap_alloc_new wr (Obj.cells #[.bool x.ex, .string (tx x.s), .int .i64 x.p.a, .int .i64 x.p.l, .int .i64 x.p.c] 130))
      go_upto_region 9 with fail
      have hn4 : Z.n0 ≤ w4.heap.size := H4.out.1.nn
      have hw4 : w4.heap.size ≤ wr.heap.size := HW.out.size
      have HOL := qh HO.out.own_lt
      obtain ⟨bq, hbq⟩ : ∃ b, x.ex = b := ⟨_, rfl⟩
      have HQ0 : Hid (bq = true → _) := fun e => HIN.out _ s' x HR1.out HX.out (hbq.trans e)
      dsimp only [pav] at HQ0
      rw [hbq] at HP2 HR1 HO1 HW1 hb6 HPB HQ0 ⊢
      clear hbq HR HO HW hb5 lx5
      generalize wr.alloc (Obj.cells #[.bool bq, .string (tx x.s), .int .i64 x.p.a, .int .i64 x.p.l, .int .i64 x.p.c] 130) = w5 at *
      have hbpR : Hid (wr.heap.size ≠ R) := Nat.ne_of_gt (Nat.lt_of_lt_of_le H4.out.1.lt hw4)
      clear d0 d1 d2 d3 d4 hbs
      generalize wr.heap.size = bp at *
      have HEE := HPB.out
      have p0 := cell_of_row w5 bp 0 _ _ _ HEE
      have p1 := cell_of_row w5 bp 1 _ _ _ HEE
      have p2 := cell_of_row w5 bp 2 _ _ _ HEE
      have p3 := cell_of_row w5 bp 3 _ _ _ HEE
      have p4 := cell_of_row w5 bp 4 _ _ _ HEE
      have lp := (Array.getElem?_eq_some_iff.1 HEE).1
      clear HEE
      obtain ⟨⟨k50, k51, k52⟩, ⟨g50, g51, g52⟩, lx5⟩ := rc3 hb6
      clear hb6 k0 k1 k2 g0 g1 g2
      cases bq with
      | true =>
        have HQ := qh (HQ0.out rfl)
        have HP3 : Hid (PL = partL (Z.cx inn) P (X.1.ps.drop (k + 1)) (l ++ [(inn x.s (inh Z x)).1]) (if (inn x.s (inh Z x)).2.1 = 0 then s' else Z.fail s' (inn x.s (inh Z x)).2.1 (inn x.s (inh Z x)).2.2)) := HP2.out
        clear HQ0 HP2
        generalize (if (inn x.s (inh Z x)).2.1 = 0 then s' else Z.fail s' (inn x.s (inh Z x)).2.1 (inn x.s (inh Z x)).2.2) = t2 at *
        generalize (inn x.s (inh Z x)).1 = Q at *
        go_wp2_with fail
        refine HQ.out.mono ?_
        rintro e w6 ⟨b6, rfl, hx, hr, hf, hp⟩
        obtain ⟨oV, cV, oK, cK, o, cap, hb, hX, hbR6, hnb⟩ := hx
        have H6 := qh (And.intro hX (And.intro hr (And.intro hf hp)))
        have HO6 := qh (HO1.out.fr hf)
        have HS6 := qh (And.intro (Nat.le_trans HW1.out.size hf.size) (Nat.lt_of_lt_of_le HR1.out.lt hf.size))
        obtain ⟨⟨c0, c1, c2, c3, c4, c5, c6, c7, c8, c9, c10, c11, c12, c13, c14⟩, -, hbl⟩ := rc15 hb
        clear hX hr hf hp hb HQ
        go_wp2_with (at_builtin; go_must (refine app_oe rfl (.tmp 33) (.tmp 39) rfl (l := l) (m := w5.heap.size) rfl rfl HO6.out H6.out.1 (fun g hg => (HO1.out.own_lt g hg).1) HW1.out.size HS6.out.1 HS6.out.2 (by have := HLL.out; omega) ?_))
        intro v' w7 ho2 hg2
        have H7 := qh (And.intro ho2 (H6.out.2.1.app HO6.out hn4 HS6.out.1 hg2))
        clear ho2 hg2 c0 c1 c2 c3 c4 c5 c6 c7 c8 c9 c10 c11 c12 c13 c14
        go_wp2_with fail
        go_roundw
        case rel => exact ⟨k + 1, t2, l ++ [Q], hlt2, rfl, HP3.out, H7.out.1, H7.out.2.1, (HW1.out.tr (Fn.of H6.out.2.2.1 HW1.out.size)).tr H7.out.2.2, Nat.le_trans HSP.out H6.out.2.2.2, by unfold Hid; rw [List.length_append, HLL.out]; rfl⟩
        case measure => simp only [intOf]; omega
      | false =>
        have HP3 : Hid (PL = partL (Z.cx inn) P (X.1.ps.drop (k + 1)) (l ++ [litX (vStr (tx x.s)) P]) s') := HP2.out
        clear HQ0 HP2
        go_upto_region 11 with fail
        refine wp_region_noPanic ?_
        refine wp_region_held_drew (S := (fun W => (∀ o, W.cell? ⟨bx, o, none⟩ = w5.cell? ⟨bx, o, none⟩) ∧ bx < W.heap.size ∧ (∀ o, W.cell? ⟨bp, o, none⟩ = w5.cell? ⟨bp, o, none⟩) ∧ bp < W.heap.size)) (by kernel_rfl) ?_ (fun hH => ?_)
        · exact ⟨fun _ => rfl, lx5, fun _ => rfl, lp⟩
        refine wpAnyH_take (i := 0) (oi := { dst := some 41, op := Op.move (Operand.tmp 5), type := 34, pos := _, after := _, guard := none }) (v := ?_) rfl (by kernel_rfl) (by kernel_rfl) (by kernel_rfl) (fun _ _ _ h => h) (Or.inl ⟨by rfl, ?_⟩) (by assumption) ?_
        rotate_left
        · (intro w hSw; (try dsimp only at hSw); go_simp; try with_reducible rfl)
        try simp only [Act.put, sqa, sqb, sqc]
        refine wpAnyH_take (i := 1) (oi := { dst := some 42, op := Op.fieldAddr 130 (Operand.tmp 7) 1, type := 0, pos := _, after := _, guard := none }) (v := ?_) rfl (by kernel_rfl) (by kernel_rfl) (by kernel_rfl) (fun _ _ _ h => h) (Or.inl ⟨by rfl, ?_⟩) (by assumption) ?_
        rotate_left
        · (intro w hSw; (try dsimp only at hSw); go_simp; try with_reducible rfl)
        try simp only [Act.put, sqa, sqb, sqc]
        refine wpAnyH_take (i := 2) (oi := { dst := some 43, op := Op.load 9 (Operand.tmp 42), type := 9, pos := _, after := _, guard := none }) (v := ?_) rfl (by kernel_rfl) (by kernel_rfl) (by kernel_rfl) (fun _ _ _ h => h) (Or.inl ⟨by rfl, ?_⟩) (by assumption) ?_
        rotate_left
        · (intro w hSw; (try dsimp only at hSw); go_simp; try with_reducible rfl)
        try simp only [Act.put, sqa, sqb, sqc]
        refine wpAnyH_take (i := 4) (oi := { dst := some 45, op := Op.load 36 (Operand.tmp 4), type := 36, pos := _, after := _, guard := none }) (v := ?_) rfl (by kernel_rfl) (by kernel_rfl) (by kernel_rfl) (fun _ _ _ h => h) (Or.inl ⟨by rfl, ?_⟩) (by assumption) ?_
        rotate_left
        · (intro w hSw; (try dsimp only at hSw); go_simp; try with_reducible rfl)
        try simp only [Act.put, sqa, sqb, sqc]
        refine wpAnyH_ready (rs := [3]) (by kernel_rfl) (by simp) ?_
        refine AllReadyH.cons (o := { dst := some 44, op := Op.call { callee := Callee.value (Operand.func 189), args := #[Operand.tmp 43], argTypes := #[9] }, type := 33, pos := _, after := _, guard := none }) rfl (fun K hK => ?_) AllReadyH.nil
        go_simp
        refine (str_any _ _).mono ?_
        rintro e0 WA ⟨rfl, b1⟩
        have F1 := qh (Fm.of (R := R) b1)
        have HA := qh (And.intro ((HR1.out.below (Below.refl _ _).drew).below b1) (((Fm.rf R w5).dr).tr (Fm.of b1)))
        clear b1
        refine hK.out _ _ ?_ (fun hH' => ?_)
        · exact ⟨fun o => (World.cell?_of_block (w := w5.drew) (F1.out.block bx hH.2.1 (fun e => hbR.out (Option.some.inj e)))).trans (hH.1 o), Nat.lt_of_lt_of_le hH.2.1 F1.out.size, fun o => (World.cell?_of_block (w := w5.drew) (F1.out.block bp hH.2.2.2 (fun e => hbpR.out (Option.some.inj e)))).trans (hH.2.2.1 o), Nat.lt_of_lt_of_le hH.2.2.2 F1.out.size⟩
        clear hK K hH
        have hH := hH'
        clear hH'
        try simp only [Act.put, sqa, sqb, sqc]
        refine wpAnyH_ready (rs := [5]) (by kernel_rfl) (by simp) ?_
        refine AllReadyH.cons (o := { dst := some 46, op := Op.call { callee := Callee.value (Operand.func 188), args := #[Operand.tmp 44, Operand.tmp 45], argTypes := #[33, 36] }, type := 84, pos := _, after := _, guard := none }) rfl (fun K hK => ?_) AllReadyH.nil
        go_simp
        refine (lit_any 3 0 (tx x.s) false P _).mono ?_
        rintro e0 WB ⟨b6, rfl, hle6, hc6, b3⟩
        have F3 := qh (Fm.of (R := R) b3)
        have HB5 := qh (And.intro (HA.out.1.below b3) (HA.out.2.tr (Fm.of b3)))
        have HO6 := qh (HO1.out.fr HB5.out.2)
        have HS6 := qh (And.intro (Nat.le_trans HW1.out.size HB5.out.2.size) (Nat.lt_of_lt_of_le HR1.out.lt HB5.out.2.size))
        have hXL : XP (Nu w5.heap.size WB R) WB (litX (vStr (tx x.s)) P) (.agg (xc (litX (vStr (tx x.s)) P) none 0 none 0 none 0)) := xp_mk (sv := tx x.s) 1 ⟨#[]⟩ ⟨#[]⟩ (by decide) (by decide) (Nat.le_trans (flat_le HX.out) (Nat.le_trans HBD.out.2.1 (by decide))) [] P.a P.l P.c (rowP_nil _ _ _ (fun _ _ => undef)) (fun j x h => by cases h)
        have HXL := qh hXL
        obtain ⟨⟨c0, c1, c2, c3, c4, c5, c6, c7, c8, c9, c10, c11, c12, c13, c14⟩, -, hbl⟩ := rc15 hc6
        clear b3 hc6 hXL
        refine hK.out _ _ ?_ (fun hH' => ?_)
        · exact ⟨fun o => (World.cell?_of_block (w := WA) (F3.out.block bx hH.2.1 (fun e => hbR.out (Option.some.inj e)))).trans (hH.1 o), Nat.lt_of_lt_of_le hH.2.1 F3.out.size, fun o => (World.cell?_of_block (w := WA) (F3.out.block bp hH.2.2.2 (fun e => hbpR.out (Option.some.inj e)))).trans (hH.2.2.1 o), Nat.lt_of_lt_of_le hH.2.2.2 F3.out.size⟩
        clear hK K hH
        have hH := hH'
        clear hH'
        try simp only [Act.put, sqa, sqb, sqc]
        refine wpAnyH_take (i := 6) (oi := { dst := some 47, op := Op.nilCheck (Operand.tmp 46), type := 0, pos := _, after := _, guard := none }) (v := ?_) rfl (by kernel_rfl) (by kernel_rfl) (by kernel_rfl) (fun _ _ _ h => h) (Or.inl ⟨by rfl, ?_⟩) (by assumption) ?_
        rotate_left
        · (intro w hSw; (try dsimp only at hSw); go_simp; try with_reducible rfl)
        try simp only [Act.put, sqa, sqb, sqc]
        refine wpAnyH_ready (rs := [7]) (by kernel_rfl) (by simp) ?_
        refine AllReadyH.cons (o := { dst := some 48, op := Op.load 38 (Operand.tmp 47), type := 38, pos := _, after := _, guard := none }) rfl (fun K hK => ?_) AllReadyH.nil
        go_simp
        refine hK.out _ _ ?_ (fun hH' => ?_)
        · exact hH
        clear hK K hH
        have hH := hH'
        clear hH'
        try simp only [Act.put, sqa, sqb, sqc]
        refine wpAnyH_ready (rs := [8]) (by kernel_rfl) (by simp) ?_
        refine AllReadyH.cons (o := { dst := some 49, op := Op.buildSlice 34 1 #[(0, Operand.tmp 48)], type := 34, pos := _, after := _, guard := none }) rfl (fun K hK => ?_) AllReadyH.nil
        go_simp
        refine hK.out _ _ ?_ (fun hH' => ?_)
        · exact ⟨fun o => (World.cell?_of_block (heap_alloc_old WB _ hH.2.1)).trans (hH.1 o), Nat.lt_of_lt_of_le hH.2.1 (by simp), fun o => (World.cell?_of_block (heap_alloc_old WB _ hH.2.2.2)).trans (hH.2.2.1 o), Nat.lt_of_lt_of_le hH.2.2.2 (by simp)⟩
        clear hK K hH
        have hH := hH'
        clear hH'
        try simp only [Act.put, sqa, sqb, sqc]
        refine wpAnyH_ready (rs := [9]) (by kernel_rfl) (by simp) ?_
        refine AllReadyH.cons (o := { dst := some 50, op := Op.call { callee := Callee.builtin Builtin.append, args := #[Operand.tmp 41, Operand.tmp 49], argTypes := #[34, 34] }, type := 34, pos := _, after := _, guard := none }) rfl (fun K hK => ?_) AllReadyH.nil
        refine step_oe rfl (.tmp 41) (.tmp 49) rfl (l := l) (m := w5.heap.size) rfl rfl HO6.out HXL.out (fun g hg => (HO1.out.own_lt g hg).1) HW1.out.size HS6.out.1 HS6.out.2 (by have := HLL.out; omega) ?_
        intro v' w7 ho2 hg2
        have H7 := qh (And.intro ho2 (HB5.out.1.app HO6.out hn4 HS6.out.1 hg2))
        clear ho2
        refine hK.out _ _ ?_ (fun hH' => ?_)
        · exact ⟨fun o => (World.cell?_of_block (hg2.block bx hH.2.1 (fun e => by have := (HOL.out bx e.symm).2; omega))).trans (hH.1 o), Nat.lt_of_lt_of_le hH.2.1 hg2.size, fun o => (World.cell?_of_block (hg2.block bp hH.2.2.2 (fun e => by have := (HOL.out bp e.symm).1; omega))).trans (hH.2.2.1 o), Nat.lt_of_lt_of_le hH.2.2.2 hg2.size⟩
        clear hK K hH
        have hH := hH'
        clear hH'
        try simp only [Act.put, sqa, sqb, sqc]
        refine wpAnyH_take (i := 10) (oi := { dst := some 5, op := Op.assign (Operand.tmp 50), type := 34, pos := _, after := _, guard := none }) (v := ?_) rfl (by kernel_rfl) (by kernel_rfl) (by kernel_rfl) (fun _ _ _ h => h) (Or.inl ⟨by rfl, ?_⟩) (by assumption) ?_
        rotate_left
        · (intro w hSw; (try dsimp only at hSw); go_simp; try with_reducible rfl)
        try simp only [Act.put, sqa, sqb, sqc]
        all_goals refine wpAnyH_done (by kernel_rfl) ?_ _
        all_goals refine NoPanic.normal ?_
        clear hH c0 c1 c2 c3 c4 c5 c6 c7 c8 c9 c10 c11 c12 c13 c14 hbl
        go_wp2_with fail
        go_roundw
        case rel => exact ⟨k + 1, s', l ++ [litX (vStr (tx x.s)) P], hlt2, rfl, HP3.out, H7.out.1, H7.out.2.1, (HW1.out.tr (Fn.of HB5.out.2 HW1.out.size)).tr H7.out.2.2, HSP.out, by unfold Hid; rw [List.length_append, HLL.out]; rfl⟩
        case measure => simp only [intOf]; omega
    · have e1 : ¬ (k : Int) < (X.1.ps.length : Int) := by omega
      obtain rfl : k = X.1.ps.length := by omega
      have HP3 : Hid (PL = (l, s')) := by have := HP.out; rw [List.drop_length] at this; exact this
      obtain ⟨oo, cap, rfl⟩ := HO.out.slice
      obtain ⟨⟨k50, k51, k52⟩, ⟨g50, g51, g52⟩, lx6⟩ := rc3 hb5
      clear hb5 k0 k1 k2 g0 g1 g2
      go_wp2_with fail
      refine (tree_any 26 P oo _ cap _).mono ?_
      rintro e0 w6 ⟨b6, rfl, hle6, hc6, b3⟩
      have H6 := qh (And.intro hle6 (And.intro hc6 b3))
      clear hle6 hc6 b3
      go_wp2_with fail
      go_ret
      rw [HM.out, HP3.out]
      have hw0 : w.heap.size ≤ w4.heap.size := H4.out.2.size
      have hw1 : w4.heap.size ≤ wr.heap.size := HW.out.size
      have hRl := HR.out.lt
      have h6 := H6.out.1
      exact ⟨b6, rfl, xb_tree H6.out.2.1 ((HO.out.fr (Fm.of H6.out.2.2)).le hw0) (by omega) (by omega), HR.out.below H6.out.2.2, (H4.out.2.fn HW.out hw0).tr (Fm.of H6.out.2.2), Nat.le_trans (Nat.le_succ _) HSP.out⟩
end Go.Proofs.YtncjncacfagldaaGreatDoor

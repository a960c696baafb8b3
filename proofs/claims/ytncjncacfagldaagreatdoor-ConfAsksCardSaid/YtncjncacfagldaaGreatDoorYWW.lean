import Derived.Test.YtncjncacfagldaaGreatDoorYWV
import Derived.Lib.AppendStr
namespace Go.Proofs.YtncjncacfagldaaGreatDoor
open Go.RowKit
attribute [local go_sem] field66_0 field66_1 field66_2 field66_3 field66_4 field101_0 field101_1 field101_2

theorem postL_succ (Z : Cz) (inn : List UInt8 → Ps → Ex × Nat × Ps) (F : Fs) (k : Nat) (e : Ex) (s : St) : postL (Z.cx inn) F (k + 1) e s = if Z.is s 4 [46] then postL (Z.cx inn) F k (.mk 3 (tx (Z.anyName s.pass).1) ⟨#[]⟩ vNull [e] (Z.pl s).a (Z.pl s).l (Z.pl s).c) (Z.anyName s.pass).2 else if Z.is s 4 [91] then postL (Z.cx inn) F k (treeX 4 (Z.pl s) [e, (F.ex s.pass).1]) (Z.wants (F.ex s.pass).2 4 [93]) else (e, s) := by
 show (if (Z.cx inn).is s 4 [46] then _ else if (Z.cx inn).is s 4 [91] then _ else _) = _
 simp only [is_eq, pl_eq, anyName_eq, wants_eq]
set_option maxRecDepth 100000 in
set_option maxHeartbeats 4000000 in
theorem post_any {w : World} {R : Nat} {Z : Cz} {s : St} {inn : List UInt8 → Ps → Ex × Nat × Ps} {F : Fs} (h : Rd w R Z s) (ht : TextOk R Z inn) (he : ExOk R Z F (s.p + 1)) : Calls Tryz.prog 178 #[.pointer (some ⟨R, 0, none⟩)] w (EP w R Z s.p (postM (Z.cx inn) F s)) := by
 have HZ := qh h.sz
 have H0 := qh h
 have HE := qh he
 have HU := qh (first_any h ht he)
 have HM : Hid (postM (Z.cx inn) F s = postL (Z.cx inn) F (Z.acc.length + 1) (firstM (Z.cx inn) F s).1 (firstM (Z.cx inn) F s).2) := by unfold Hid postM; rw [Cz.len_eq]
 generalize postM (Z.cx inn) F s = M at *
 generalize firstM (Z.cx inn) F s = U at *
 clear h he ht
 go_enter Tryz.func178, Tryz.ntmps178
 go_wp2_with fail
 refine HU.out.mono ?_
 rintro e w1 ⟨b0, rfl, hx0, hr0, hf0, hp0⟩
 have HX0 := qh (And.intro hx0 (And.intro hr0 (And.intro hf0 hp0)))
 clear hx0 hr0 hf0 hp0 HU
 go_wp2_with fail
 go_loopw [3] (fun v3 wr => ∃ (k be : Nat) (e : Ex) (s' : St), v3 = .pointer (some ⟨be, 0, none⟩) ∧ Hid (M = postL (Z.cx inn) F k e s') ∧ Hid (Z.acc.length - s'.p < k) ∧ Hid (Xb w.heap.size wr R be e) ∧ Hid (Rd wr R Z s') ∧ Hid (Fm R w wr) ∧ Hid (s.p ≤ s'.p)) (fun _ wr => 100000 - pAt R wr)
 case atStart => exact ⟨Z.acc.length + 1, b0, U.1, U.2, rfl, HM.out, by unfold Hid; omega, HX0.out.1, HX0.out.2.1, HX0.out.2.2.1, HX0.out.2.2.2⟩
 case round =>
  obtain ⟨k, be, e, s', rfl, HK, HF, HXb, HR, HW, HSP⟩ := hrel
  obtain ⟨k, rfl⟩ : ∃ j, k = j + 1 := ⟨k - 1, by have := HF.out; omega⟩
  have hle := HR.out.le
  have hz := HZ.out.n
  have HK2 := qh (HK.out.trans (postL_succ Z inn F k e s'))
  have HI1 := qh (is_any HR.out 4 [46])
  have HI2 : Hid (∀ W, Rd W R Z s' → Calls Tryz.prog 118 #[.pointer (some ⟨R, 0, none⟩), .int .i64 4, .string (tx [91])] W fun e w' => e = .returned (.bool (Z.is s' 4 [91])) ∧ Below W.heap.size W w') := fun W hW => is_any hW 4 [91]
  have HLT1 : Hid (Z.is s' 4 [46] = true → s'.p < Z.acc.length) := fun h => is_lt' h (by decide)
  have HLT2 : Hid (Z.is s' 4 [91] = true → s'.p < Z.acc.length) := fun h => is_lt' h (by decide)
  have HPS : Hid (s'.p < Z.acc.length → ∀ W, Rd W R Z s' → Calls Tryz.prog 119 #[.pointer (some ⟨R, 0, none⟩)] W fun e w' => e = .returned (.agg #[.int .i64 (Z.pl s').a, .int .i64 (Z.pl s').l, .int .i64 (Z.pl s').c]) ∧ Rd w' R Z s'.pass ∧ Fm R W w') := fun hk W hW => pass_any hW hk
  have HJQ : Hid (∀ W, Rd W R Z s'.pass → Calls Tryz.prog 75 #[.pointer (some ⟨R, 0, none⟩)] W (EP W R Z (s'.p + 1) (F.ex s'.pass))) := fun W hW => HE.out W s'.pass hW (Nat.succ_le_succ HSP.out)
  have HAN : Hid (∀ W, Rd W R Z s'.pass → Calls Tryz.prog 186 #[.pointer (some ⟨R, 0, none⟩)] W (SnP W R Z (Z.anyName s'.pass))) := fun W hW => anyName_any hW
  have HAP : Hid (s'.pass.p ≤ Z.acc.length → s'.p + 1 ≤ (Z.anyName s'.pass).2.p) := fun h => anyName_p (s := s'.pass) h
  generalize Z.anyName s'.pass = A at *
  generalize F.ex s'.pass = J at *
  generalize Z.pl s' = P at *
  generalize Z.is s' 4 [46] = b1 at *
  generalize Z.is s' 4 [91] = b2 at *
  clear HK
  go_wp2_with fail
  refine HI1.out.mono ?_
  rintro e0 w2 ⟨rfl, c2⟩
  have H2 := qh (And.intro (HR.out.below c2) (And.intro (HW.out.tr (Fm.of c2)) (HXb.out.fr (Fm.of c2))))
  clear c2 HI1
  cases b1 with
  | true =>
    have hlt : Hid (s'.p < Z.acc.length) := HLT1.out rfl
    have HM3 : Hid (M = postL (Z.cx inn) F k (.mk 3 (tx A.1) ⟨#[]⟩ vNull [e] P.a P.l P.c) A.2) := HK2.out
    obtain ⟨oV, cV, oK, cK, o, cap, hb, hX, hbR, hnb⟩ := H2.out.2.2
    have HNE := qh hbR
    have HX := qh hX
    clear hX hbR hnb
    have hb2 := (rc15 hb)
    clear HI2 HLT1 HLT2 HJQ
    go_upto_region 4 with fail
    obtain ⟨⟨d0, d1, d2, d3, d4, d5, d6, d7, d8, d9, d10, d11, d12, d13, d14⟩, -, hbl2⟩ := hb2
    refine wp_region_noPanic ?_
    refine wp_region_held_drew (S := (fun W => (∀ o, W.cell? ⟨be, o, none⟩ = w2.cell? ⟨be, o, none⟩) ∧ be < W.heap.size)) (by kernel_rfl) ?_ (fun hH => ?_)
    · exact ⟨fun _ => rfl, hbl2⟩
    refine wpAnyH_take (i := 0) (oi := { dst := some 10, op := Op.move (Operand.tmp 0), type := 82, pos := _, after := _, guard := none }) (v := ?_) rfl (by kernel_rfl) (by kernel_rfl) (by kernel_rfl) (fun _ _ _ h => h) (Or.inl ⟨by rfl, ?_⟩) (by assumption) ?_
    rotate_left
    · (intro w hSw; (try dsimp only at hSw); go_simp; try with_reducible rfl)
    try simp only [Act.put, sqa, sqb, sqc]
    refine wpAnyH_take (i := 2) (oi := { dst := some 12, op := Op.move (Operand.tmp 3), type := 84, pos := _, after := _, guard := none }) (v := ?_) rfl (by kernel_rfl) (by kernel_rfl) (by kernel_rfl) (fun _ _ _ h => h) (Or.inl ⟨by rfl, ?_⟩) (by assumption) ?_
    rotate_left
    · (intro w hSw; (try dsimp only at hSw); go_simp; try with_reducible rfl)
    try simp only [Act.put, sqa, sqb, sqc]
    refine wpAnyH_take (i := 3) (oi := { dst := some 13, op := Op.nilCheck (Operand.tmp 12), type := 0, pos := _, after := _, guard := none }) (v := ?_) rfl (by kernel_rfl) (by kernel_rfl) (by kernel_rfl) (fun _ _ _ h => h) (Or.inl ⟨by rfl, ?_⟩) (by assumption) ?_
    rotate_left
    · (intro w hSw; (try dsimp only at hSw); go_simp; try with_reducible rfl)
    try simp only [Act.put, sqa, sqb, sqc]
    refine wpAnyH_take (i := 4) (oi := { dst := some 14, op := Op.load 38 (Operand.tmp 13), type := 38, pos := _, after := _, guard := none }) (v := ?_) rfl (by kernel_rfl) (by kernel_rfl) (by kernel_rfl) (fun _ _ _ h => h) (Or.inl ⟨by rfl, ?_⟩) (by assumption) ?_
    rotate_left
    · (intro w hSw; (try dsimp only at hSw); go_simp; try with_reducible rfl)
    try simp only [Act.put, sqa, sqb, sqc]
    refine wpAnyH_ready (rs := [1, 5]) (by kernel_rfl) (by simp) ?_
    refine AllReadyH.cons (o := { dst := some 11, op := Op.call { callee := Callee.value (Operand.func 119), args := #[Operand.tmp 10], argTypes := #[82] }, type := 36, pos := _, after := _, guard := none }) rfl (fun K hK => ?_) (AllReadyH.cons (o := { dst := some 15, op := Op.buildSlice 34 1 #[(0, Operand.tmp 14)], type := 34, pos := _, after := _, guard := none }) rfl (fun K hK => ?_) AllReadyH.nil)
    rotate_left
    focus (
     go_simp
     refine hK.out _ _ ?_ (fun hH' => ?_)
     · exact ⟨fun o' => (World.cell?_of_block (heap_alloc_old w2.drew (Obj.cells (xc e oV cV oK cK o cap) 38) hH.2)).trans (hH.1 o'), Nat.lt_of_lt_of_le hH.2 (by simp)⟩
     clear hK K hH
     have hH := hH'
     clear hH'
     try simp only [Act.put, sqa, sqb, sqc]
     refine wpAnyH_ready (rs := [1]) (by kernel_rfl) (by simp) ?_
     refine AllReadyH.cons (o := { dst := some 11, op := Op.call { callee := Callee.value (Operand.func 119), args := #[Operand.tmp 10], argTypes := #[82] }, type := 36, pos := _, after := _, guard := none }) rfl (fun K hK => ?_) AllReadyH.nil
     go_simp
     refine (HPS.out hlt.out _ ((H2.out.1.below (Below.refl _ _).drew).below ((Below.refl _ _).alloc (Nat.le_refl _) (Obj.cells (xc e oV cV oK cK o cap) 38)))).mono ?_
     rintro e0 WA ⟨rfl, h1, f1⟩
     have F1 := qh f1
     have HA := qh (And.intro h1 (And.intro ((H2.out.2.1.dr.al (Obj.cells (xc e oV cV oK cK o cap) 38)).tr f1) (((HX.out.fm (Fm.rf R w2).dr).fm ((Fm.rf R w2.drew).al (Obj.cells (xc e oV cV oK cK o cap) 38))).fm f1)))
     clear h1 f1
     refine hK.out _ _ ?_ (fun hH' => ?_)
     · exact ⟨fun o1 => (World.cell?_of_block (w := (w2.drew.alloc (Obj.cells (xc e oV cV oK cK o cap) 38))) (F1.out.block be hH.2 (fun e => HNE.out (Option.some.inj e)))).trans (hH.1 o1), Nat.lt_of_lt_of_le hH.2 F1.out.size⟩
     clear hK K hH
     have hH := hH'
     clear hH'
     try simp only [Act.put, sqa, sqb, sqc]
     have hgR : w2.heap.size ≠ R := Nat.ne_of_gt H2.out.1.lt
     have hg0 : WA.heap[w2.heap.size]? = some (.cells (xc e oV cV oK cK o cap) 38 (0, 0)) := (F1.out.block w2.drew.heap.size (by simp) (fun e => hgR (Option.some.inj e))).trans (heap_alloc_new w2.drew (Obj.cells (xc e oV cV oK cK o cap) 38))
     have HE2 := qh (And.intro hg0 (And.intro HA.out.1 (And.intro HA.out.2.1 (And.intro HA.out.2.2 (And.intro H2.out.2.1.size hgR)))))
     clear hg0 hgR HA F1
     generalize WA = WE at *
     generalize w2.heap.size = g at HE2 ⊢
     )
    rotate_left
    focus (
     go_simp
     refine (HPS.out hlt.out _ (H2.out.1.below (Below.refl _ _).drew)).mono ?_
     rintro e0 WA ⟨rfl, h1, f1⟩
     have F1 := qh f1
     have HA := qh (And.intro h1 (And.intro (H2.out.2.1.dr.tr f1) ((HX.out.fm (Fm.rf R w2).dr).fm f1)))
     clear h1 f1
     refine hK.out _ _ ?_ (fun hH' => ?_)
     · exact ⟨fun o => (World.cell?_of_block (w := w2.drew) (F1.out.block be hH.2 (fun e => HNE.out (Option.some.inj e)))).trans (hH.1 o), Nat.lt_of_lt_of_le hH.2 F1.out.size⟩
     clear hK K hH
     have hH := hH'
     clear hH'
     try simp only [Act.put, sqa, sqb, sqc]
     refine wpAnyH_ready (rs := [5]) (by kernel_rfl) (by simp) ?_
     refine AllReadyH.cons (o := { dst := some 15, op := Op.buildSlice 34 1 #[(0, Operand.tmp 14)], type := 34, pos := _, after := _, guard := none }) rfl (fun K hK => ?_) AllReadyH.nil
     go_simp
     refine hK.out _ _ ?_ (fun hH' => ?_)
     · exact ⟨fun o' => (World.cell?_of_block (heap_alloc_old WA (Obj.cells (xc e oV cV oK cK o cap) 38) hH.2)).trans (hH.1 o'), Nat.lt_of_lt_of_le hH.2 (by simp)⟩
     clear hK K hH
     have hH := hH'
     clear hH'
     try simp only [Act.put, sqa, sqb, sqc]
     have HE2 := qh (And.intro (heap_alloc_new WA (Obj.cells (xc e oV cV oK cK o cap) 38)) (And.intro (HA.out.1.below ((Below.refl _ _).alloc (Nat.le_refl _) (Obj.cells (xc e oV cV oK cK o cap) 38))) (And.intro (HA.out.2.1.al (Obj.cells (xc e oV cV oK cK o cap) 38)) (And.intro (HA.out.2.2.fm ((Fm.rf R WA).al (Obj.cells (xc e oV cV oK cK o cap) 38))) (And.intro HA.out.2.1.size (Nat.ne_of_gt HA.out.1.lt))))))
     clear HA F1
     generalize WA.alloc (Obj.cells (xc e oV cV oK cK o cap) 38) = WE at *
     generalize WA.heap.size = g at *
     )
    all_goals (
     refine wpAnyH_ready (rs := [6]) (by kernel_rfl) (by simp) ?_
     refine AllReadyH.cons (o := { dst := some 16, op := Op.call { callee := Callee.value (Operand.func 121), args := #[Operand.const (Value.int IntKind.i64 3), Operand.tmp 11, Operand.tmp 15], argTypes := #[3, 36, 34] }, type := 84, pos := _, after := _, guard := none }) rfl (fun K hK => ?_) AllReadyH.nil
     go_simp
     refine (tree_any 3 P (some ⟨g, 0, none⟩) 1 1 _).mono ?_
     rintro e0 WC ⟨b4, rfl, hle4, hb4, k4⟩
     have r4 : Rd WC R Z s'.pass := HE2.out.2.1.below k4
     have F3 := qh (Fm.of (R := R) k4)
     have HC := qh (And.intro hle4 (And.intro hb4 r4))
     clear hb4 k4 hle4 r4
     refine hK.out _ _ ?_ (fun hH' => ?_)
     · exact ⟨fun o => (World.cell?_of_block (w := WE) (F3.out.block be hH.2 (fun e => HNE.out (Option.some.inj e)))).trans (hH.1 o), Nat.lt_of_lt_of_le hH.2 F3.out.size⟩
     clear hK K hH
     have hH := hH'
     clear hH'
     try simp only [Act.put, sqa, sqb, sqc]
     refine wpAnyH_take (i := 7) (oi := { dst := some 3, op := Op.assign (Operand.tmp 16), type := 84, pos := _, after := _, guard := none }) (v := ?_) rfl (by kernel_rfl) (by kernel_rfl) (by kernel_rfl) (fun _ _ _ h => h) (Or.inl ⟨by rfl, ?_⟩) (by assumption) ?_
     rotate_left
     · (intro w hSw; (try dsimp only at hSw); go_simp; try with_reducible rfl)
     try simp only [Act.put, sqa, sqb, sqc]
     )
    all_goals refine wpAnyH_done (by kernel_rfl) ?_ _
    all_goals refine NoPanic.normal ?_
    all_goals (
     clear d0 d1 d2 d3 d4 d5 d6 d7 d8 d9 d10 d11 d12 d13 d14 hbl2 hH
     have hb4R : b4 ≠ R := by have := HC.out.1; have := HE2.out.2.1.lt; omega
     obtain ⟨⟨c0, c1, c2, c3, c4, c5, c6, c7, c8, c9, c10, c11, c12, c13, c14⟩, -, hb4l⟩ := rc15 HC.out.2.1
     go_wp2_with fail
     refine (HAN.out _ HC.out.2.2).mono ?_
     rintro e0 WD ⟨rfl, h5, f5⟩
     have hb5 := (f5.block b4 hb4l (fun e => hb4R (Option.some.inj e))).trans HC.out.2.1
     have H5 := qh (And.intro h5 f5)
     clear h5 f5
     clear c0 c1 c2 c3 c4 c5 c6 c7 c8 c9 c10 c11 c12 c13 c14
     obtain ⟨⟨c0, c1, c2, c3, c4, c5, c6, c7, c8, c9, c10, c11, c12, c13, c14⟩, gf5, hb5l⟩ := rc15 hb5
     have HB5 := qh hb5
     clear hb5
     go_wp2_with fail
     go_roundw
     case rel =>
      have hlw : WE.heap.size ≤ b4 := HC.out.1
      have hz0 : Z.n0 ≤ b4 := Nat.le_trans HE2.out.2.1.nn hlw
      have ff : Fm R WE (WD.setCell ⟨b4, 1, none⟩ (.string (tx A.1))) := (F3.out.tr H5.out.2).hi hlw 1 _
      have hl0 : w.heap.size ≤ b4 := Nat.le_trans HE2.out.2.2.1.size hlw
      have hg5 : g < WE.heap.size := (Array.getElem?_eq_some_iff.1 HE2.out.1).1
      exact ⟨k, b4, .mk 3 (tx A.1) ⟨#[]⟩ vNull [e] P.a P.l P.c, A.2, rfl, HM3.out, by have := HF.out; have := HAP.out hlt.out; have := H5.out.1.le; unfold Hid; omega, xb_one (HE2.out.2.2.2.1.fm ff) ((ff.block g hg5 (fun e => HE2.out.2.2.2.2.2 (Option.some.inj e))).trans HE2.out.1) HE2.out.2.2.2.2.1 HE2.out.2.2.2.2.2 ((heap_setCell_same WD b4 1 _ 38 _ HB5.out).trans rfl) hb4R hl0, H5.out.1.at hb4R hz0 1 _, HE2.out.2.2.1.tr ff, Nat.le_trans HSP.out (Nat.le_trans (Nat.le_succ _) (HAP.out hlt.out))⟩
     case measure =>
      have e1 := pAt_eq (H5.out.1.at hb4R (Nat.le_trans HE2.out.2.1.nn HC.out.1) 1 (.string (tx A.1)))
      have e2 := pAt_eq HR.out
      have := H5.out.1.le
      have := HAP.out hlt.out
      rw [e1, e2]; omega
     )
  | false =>
    go_wp2_with fail
    refine (HI2.out _ H2.out.1).mono ?_
    rintro e0 w3 ⟨rfl, c3⟩
    have H3 := qh (And.intro (H2.out.1.below c3) (And.intro (H2.out.2.1.tr (Fm.of c3)) (H2.out.2.2.fr (Fm.of c3))))
    clear c3 HI2 H2
    have H2 := H3
    clear H3
    generalize w3 = w2 at *
    cases b2 with
    | false =>
      have HM3 : Hid (M = (e, s')) := HK2.out
      go_wp2_with fail
      go_ret
      rw [HM3.out]
      exact ⟨be, rfl, H2.out.2.2, H2.out.1, H2.out.2.1, HSP.out⟩
    | true =>
      have hlt : Hid (s'.p < Z.acc.length) := HLT2.out rfl
      have HM3 : Hid (M = postL (Z.cx inn) F k (treeX 4 P [e, J.1]) (Z.wants J.2 4 [93])) := HK2.out
      obtain ⟨oV, cV, oK, cK, o, cap, hb, hX, hbR, hnb⟩ := H2.out.2.2
      have HNE := qh hbR
      have HX := qh hX
      clear hX hbR hnb
      have hb2 := (rc15 hb)
      go_upto_region 7 with fail
      obtain ⟨⟨d0, d1, d2, d3, d4, d5, d6, d7, d8, d9, d10, d11, d12, d13, d14⟩, -, hbl2⟩ := hb2
      refine wp_region_noPanic ?_
      refine wp_region_held_drew (S := (fun W => (∀ o, W.cell? ⟨be, o, none⟩ = w2.cell? ⟨be, o, none⟩) ∧ be < W.heap.size)) (by kernel_rfl) ?_ (fun hH => ?_)
      · exact ⟨fun _ => rfl, hbl2⟩
      refine wpAnyH_take (i := 0) (oi := { dst := some 25, op := Op.move (Operand.tmp 0), type := 82, pos := _, after := _, guard := none }) (v := ?_) rfl (by kernel_rfl) (by kernel_rfl) (by kernel_rfl) (fun _ _ _ h => h) (Or.inl ⟨by rfl, ?_⟩) (by assumption) ?_
      rotate_left
      · (intro w hSw; (try dsimp only at hSw); go_simp; try with_reducible rfl)
      try simp only [Act.put, sqa, sqb, sqc]
      refine wpAnyH_take (i := 2) (oi := { dst := some 27, op := Op.move (Operand.tmp 3), type := 84, pos := _, after := _, guard := none }) (v := ?_) rfl (by kernel_rfl) (by kernel_rfl) (by kernel_rfl) (fun _ _ _ h => h) (Or.inl ⟨by rfl, ?_⟩) (by assumption) ?_
      rotate_left
      · (intro w hSw; (try dsimp only at hSw); go_simp; try with_reducible rfl)
      try simp only [Act.put, sqa, sqb, sqc]
      refine wpAnyH_take (i := 3) (oi := { dst := some 28, op := Op.nilCheck (Operand.tmp 27), type := 0, pos := _, after := _, guard := none }) (v := ?_) rfl (by kernel_rfl) (by kernel_rfl) (by kernel_rfl) (fun _ _ _ h => h) (Or.inl ⟨by rfl, ?_⟩) (by assumption) ?_
      rotate_left
      · (intro w hSw; (try dsimp only at hSw); go_simp; try with_reducible rfl)
      try simp only [Act.put, sqa, sqb, sqc]
      refine wpAnyH_take (i := 4) (oi := { dst := some 29, op := Op.load 38 (Operand.tmp 28), type := 38, pos := _, after := _, guard := none }) (v := ?_) rfl (by kernel_rfl) (by kernel_rfl) (by kernel_rfl) (fun _ _ _ h => h) (Or.inl ⟨by rfl, ?_⟩) (by assumption) ?_
      rotate_left
      · (intro w hSw; (try dsimp only at hSw); go_simp; try with_reducible rfl)
      try simp only [Act.put, sqa, sqb, sqc]
      refine wpAnyH_take (i := 5) (oi := { dst := some 30, op := Op.move (Operand.tmp 0), type := 82, pos := _, after := _, guard := none }) (v := ?_) rfl (by kernel_rfl) (by kernel_rfl) (by kernel_rfl) (fun _ _ _ h => h) (Or.inl ⟨by rfl, ?_⟩) (by assumption) ?_
      rotate_left
      · (intro w hSw; (try dsimp only at hSw); go_simp; try with_reducible rfl)
      try simp only [Act.put, sqa, sqb, sqc]
      refine wpAnyH_ready (rs := [1]) (by kernel_rfl) (by simp) ?_
      refine AllReadyH.cons (o := { dst := some 26, op := Op.call { callee := Callee.value (Operand.func 119), args := #[Operand.tmp 25], argTypes := #[82] }, type := 36, pos := _, after := _, guard := none }) rfl (fun K hK => ?_) AllReadyH.nil
      go_simp
      refine (HPS.out hlt.out _ (H2.out.1.below (Below.refl _ _).drew)).mono ?_
      rintro e0 WA ⟨rfl, h1, f1⟩
      have F1 := qh f1
      have HA := qh (And.intro h1 (And.intro (H2.out.2.1.dr.tr f1) ((HX.out.fm (Fm.rf R w2).dr).fm f1)))
      clear h1 f1
      refine hK.out _ _ ?_ (fun hH' => ?_)
      · exact ⟨fun o => (World.cell?_of_block (w := w2.drew) (F1.out.block be hH.2 (fun e => HNE.out (Option.some.inj e)))).trans (hH.1 o), Nat.lt_of_lt_of_le hH.2 F1.out.size⟩
      clear hK K hH
      have hH := hH'
      clear hH'
      try simp only [Act.put, sqa, sqb, sqc]
      refine wpAnyH_ready (rs := [6]) (by kernel_rfl) (by simp) ?_
      refine AllReadyH.cons (o := { dst := some 31, op := Op.call { callee := Callee.value (Operand.func 75), args := #[Operand.tmp 30], argTypes := #[82] }, type := 84, pos := _, after := _, guard := none }) rfl (fun K hK => ?_) AllReadyH.nil
      go_simp
      refine (HJQ.out _ HA.out.1).mono ?_
      rintro e0 WB ⟨bz, rfl, hx, hr, hf, hp⟩
      obtain ⟨oV', cV', oK', cK', o', cap', hbz, hXz, hbzR, hnbz⟩ := hx
      have F2 := qh hf
      have HB := qh (And.intro hr (And.intro (HA.out.2.1.tr hf) (And.intro (HA.out.2.2.fm hf) (And.intro (hXz.mono (P' := Nu w.heap.size WB R) fun k hk => ⟨Nat.le_trans HA.out.2.1.size hk.1, hk.2⟩) hp))))
      obtain ⟨⟨c0, c1, c2, c3, c4, c5, c6, c7, c8, c9, c10, c11, c12, c13, c14⟩, -, hblz⟩ := rc15 hbz
      clear hr hf hXz hbz hnbz hbzR hp
      refine hK.out _ _ ?_ (fun hH' => ?_)
      · exact ⟨fun o => (World.cell?_of_block (w := WA) (F2.out.block be hH.2 (fun e => HNE.out (Option.some.inj e)))).trans (hH.1 o), Nat.lt_of_lt_of_le hH.2 F2.out.size⟩
      clear hK K hH
      have hH := hH'
      clear hH'
      try simp only [Act.put, sqa, sqb, sqc]
      refine wpAnyH_take (i := 7) (oi := { dst := some 32, op := Op.nilCheck (Operand.tmp 31), type := 0, pos := _, after := _, guard := none }) (v := ?_) rfl (by kernel_rfl) (by kernel_rfl) (by kernel_rfl) (fun _ _ _ h => h) (Or.inl ⟨by rfl, ?_⟩) (by assumption) ?_
      rotate_left
      · (intro w hSw; (try dsimp only at hSw); go_simp; try with_reducible rfl)
      try simp only [Act.put, sqa, sqb, sqc]
      refine wpAnyH_ready (rs := [8]) (by kernel_rfl) (by simp) ?_
      refine AllReadyH.cons (o := { dst := some 33, op := Op.load 38 (Operand.tmp 32), type := 38, pos := _, after := _, guard := none }) rfl (fun K hK => ?_) AllReadyH.nil
      go_simp
      refine hK.out _ _ ?_ (fun hH' => ?_)
      · exact hH
      clear hK K hH
      have hH := hH'
      clear hH'
      try simp only [Act.put, sqa, sqb, sqc]
      have hHB := qh hH.1
      have hhB := qh hH.2
      refine wpAnyH_ready (rs := [9]) (by kernel_rfl) (by simp) ?_
      refine AllReadyH.cons (o := { dst := some 34, op := Op.buildSlice 34 2 #[(0, Operand.tmp 29), (1, Operand.tmp 33)], type := 34, pos := _, after := _, guard := none }) rfl (fun K hK => ?_) AllReadyH.nil
      go_simp
      refine hK.out _ _ ?_ (fun hH' => ?_)
      · exact ⟨fun o => (World.cell?_of_block (heap_alloc_old WB _ hH.2)).trans (hH.1 o), Nat.lt_of_lt_of_le hH.2 (by simp)⟩
      clear hK K hH
      have hH := hH'
      clear hH'
      try simp only [Act.put, sqa, sqb, sqc]
      refine wpAnyH_ready (rs := [10]) (by kernel_rfl) (by simp) ?_
      refine AllReadyH.cons (o := { dst := some 35, op := Op.call { callee := Callee.value (Operand.func 121), args := #[Operand.const (Value.int IntKind.i64 4), Operand.tmp 26, Operand.tmp 34], argTypes := #[3, 36, 34] }, type := 84, pos := _, after := _, guard := none }) rfl (fun K hK => ?_) AllReadyH.nil
      go_simp
      refine (tree_any 4 P (some ⟨WB.heap.size, 0, none⟩) 2 2 _).mono ?_
      rintro e0 WC ⟨b4, rfl, hle4, hb4, k4⟩
      have hg4 := (k4.block WB.heap.size (by simp)).trans (heap_alloc_new WB (.cells (xc2 e J.1 oV cV oK cK o cap oV' cV' oK' cK' o' cap') 38))
      have r4 : Rd WC R Z J.2 := (HB.out.1.below ((Below.refl _ _).alloc (Nat.le_refl _) (.cells (xc2 e J.1 oV cV oK cK o cap oV' cV' oK' cK' o' cap') 38))).below k4
      have f4 : Fm R WB WC := ((Fm.rf R WB).al _).tr (Fm.of k4)
      have F3 := qh f4
      have hs3 : WB.heap.size < b4 := Nat.lt_of_lt_of_le (by simp) hle4
      clear c0 c1 c2 c3 c4 c5 c6 c7 c8 c9 c10 c11 c12 c13 c14
      have HC := qh (And.intro hg4 (And.intro hs3 (And.intro hb4 r4)))
      clear hg4 f4 hs3 hb4 k4 hle4 r4
      refine hK.out _ _ ?_ (fun hH' => ?_)
      · exact ⟨fun o => (World.cell?_of_block (w := WB) (F3.out.block be hhB.out (fun e => HNE.out (Option.some.inj e)))).trans (hHB.out o), Nat.lt_of_lt_of_le hhB.out F3.out.size⟩
      clear hK K hH
      have hH := hH'
      clear hH'
      try simp only [Act.put, sqa, sqb, sqc]
      refine wpAnyH_take (i := 11) (oi := { dst := some 3, op := Op.assign (Operand.tmp 35), type := 84, pos := _, after := _, guard := none }) (v := ?_) rfl (by kernel_rfl) (by kernel_rfl) (by kernel_rfl) (fun _ _ _ h => h) (Or.inl ⟨by rfl, ?_⟩) (by assumption) ?_
      rotate_left
      · (intro w hSw; (try dsimp only at hSw); go_simp; try with_reducible rfl)
      try simp only [Act.put, sqa, sqb, sqc]
      all_goals refine wpAnyH_done (by kernel_rfl) ?_ _
      all_goals refine NoPanic.normal ?_
      clear d0 d1 d2 d3 d4 d5 d6 d7 d8 d9 d10 d11 d12 d13 d14 hbl2 hH
      have HE2 : Hid (Xb w.heap.size WC R b4 (treeX 4 P [e, J.1])) := by
       have l3 := HB.out.1.lt
       have l0 := HB.out.2.1.size
       have l4 := HC.out.2.1
       exact xb_two (HB.out.2.2.1.fm F3.out) (HB.out.2.2.2.1.fm F3.out) HC.out.1 l0 (by omega) HC.out.2.2.1 (by omega) (by omega)
      have HFm := qh (HB.out.2.1.tr F3.out)
      have HWP := qh (wants_p HC.out.2.2.2.le 4 [93])
      go_wp2_with fail
      refine (wantsSign_any HC.out.2.2.2 [93]).mono ?_
      rintro e0 WD ⟨rfl, h5, f5⟩
      have H5 := qh (And.intro h5 (And.intro (HFm.out.tr f5) (HE2.out.fr f5)))
      clear h5 f5
      go_wp2_with fail
      go_roundw
      case rel => exact ⟨k, b4, treeX 4 P [e, J.1], Z.wants J.2 4 [93], rfl, HM3.out, by have := HF.out; have := HB.out.2.2.2.2; have := HWP.out; unfold Hid; have := H5.out.1.le; omega, H5.out.2.2, H5.out.1, H5.out.2.1, Nat.le_trans HSP.out (Nat.le_trans (Nat.le_succ _) (Nat.le_trans HB.out.2.2.2.2 HWP.out))⟩
      case measure =>
       have e1 := pAt_eq H5.out.1
       have e2 := pAt_eq HR.out
       have := H5.out.1.le
       have := HB.out.2.2.2.2
       have := HWP.out
       rw [e1, e2]; omega
open Go.RowKit
attribute [local go_sem] field66_0 field66_1 field66_2 field66_3 field66_4

structure Gd (R : Nat) (Z : Cz) (inn : List UInt8 → Ps → Ex × Nat × Ps) (n : Nat) : Prop where
 ex : ∀ (W : World) (s : St), Rd W R Z s → 3 * (Z.acc.length - s.p) + 2 < n → Calls Tryz.prog 75 #[.pointer (some ⟨R, 0, none⟩)] W (EP W R Z s.p ((fs (Z.cx inn) n).ex s))
 jo : ∀ (W : World) (s : St) (lo : Nat), Rd W R Z s → 3 * (Z.acc.length - s.p) + 1 < n → 1 ≤ lo → lo ≤ 6 → Calls Tryz.prog 117 #[.pointer (some ⟨R, 0, none⟩), .int .i64 lo] W (EP W R Z s.p ((fs (Z.cx inn) n).jo lo s))
 un : ∀ (W : World) (s : St), Rd W R Z s → 3 * (Z.acc.length - s.p) < n → Calls Tryz.prog 152 #[.pointer (some ⟨R, 0, none⟩)] W (EP W R Z s.p ((fs (Z.cx inn) n).un s))
theorem all_gd {R : Nat} {Z : Cz} {inn : List UInt8 → Ps → Ex × Nat × Ps} (ht : TextOk R Z inn) : ∀ n, Gd R Z inn n
 | 0 => ⟨fun W s _ h => by omega, fun W s lo _ h => by omega, fun W s _ h => by omega⟩
 | n + 1 => by
   have ih := all_gd ht n
   refine ⟨fun W s hr hn => ?_, fun W s lo hr hn h1 h6 => ?_, fun W s hr hn => ?_⟩
   · exact expr_any hr (fun W' t lo hr' ht' h1 h6 => ih.jo W' t lo hr' (by omega) h1 h6) (fun W' t hr' ht' => ih.ex W' t hr' (by have := hr'.le; omega))
   · exact joined_any hr h1 h6 (fun W' t hr' ht' => ih.un W' t hr' (by omega)) (fun W' t lo hr' ht' h1 h6 => ih.jo W' t lo hr' (by have := hr'.le; omega) h1 h6)
   · exact unary_any hr (fun W' t hr' ht' => ih.un W' t hr' (by have := hr'.le; omega)) (fun W' hr' => post_any hr' ht (fun W2 t hr2 ht2 => ih.ex W2 t hr2 (by have := hr2.le; omega)))
theorem whole_eq (Z : Cz) (inn : List UInt8 → Ps → Ex × Nat × Ps) : wholeM (Z.cx inn) = (((fs (Z.cx inn) (3 * Z.acc.length + 3)).ex ⟨0, 0, ps0⟩).1, if (Z.tz ((fs (Z.cx inn) (3 * Z.acc.length + 3)).ex ⟨0, 0, ps0⟩).2.p).1.k = 0 then ((fs (Z.cx inn) (3 * Z.acc.length + 3)).ex ⟨0, 0, ps0⟩).2 else Z.stray ((fs (Z.cx inn) (3 * Z.acc.length + 3)).ex ⟨0, 0, ps0⟩).2) := by
 unfold wholeM
 simp only [Cz.len_eq, Cz.tk_eq, stray_eq]
set_option maxRecDepth 100000 in
set_option maxHeartbeats 2000000 in
theorem whole_any {w : World} {R : Nat} {Z : Cz} {inn : List UInt8 → Ps → Ex × Nat × Ps} (h : Rd w R Z ⟨0, 0, ps0⟩) (ht : TextOk R Z inn) : Calls Tryz.prog 38 #[.pointer (some ⟨R, 0, none⟩)] w (EP w R Z 0 (wholeM (Z.cx inn))) := by
 have HI := qh (whole_eq Z inn)
 have HE := qh ((all_gd ht (3 * Z.acc.length + 3)).ex w ⟨0, 0, ps0⟩ h (by show 3 * (Z.acc.length - 0) + 2 < _; omega))
 have HZ := qh h.sz
 generalize (fs (Z.cx inn) (3 * Z.acc.length + 3)).ex ⟨0, 0, ps0⟩ = E at *
 generalize wholeM (Z.cx inn) = M at *
 clear h ht
 go_enter Tryz.func38, Tryz.ntmps38
 go_wp2_with fail
 refine HE.out.mono ?_
 rintro e w1 ⟨b, rfl, hx, hr, hf, hp⟩
 have H1 := qh (And.intro hx (And.intro hr hf))
 clear hx hf hp HE
 have HT := qh (tok_any hr E.2.p (by have := hr.le; have := HZ.out.n; omega))
 obtain ⟨⟨r0, r1, r2, r3, r4, r5, r6, r7, r8, r9, r10⟩, -, hR⟩ := rc11 hr.blk
 clear r0 r2 r3 r4 r5 r6 r7 r8 r9 r10 hr
 generalize Z.tz E.2.p = X at *
 go_wp2_with fail
 refine HT.out.mono ?_
 rintro e w2 ⟨rfl, c2⟩
 have H2 := qh (And.intro (H1.out.1.fr (Fm.of c2)) (And.intro (H1.out.2.1.below c2) (H1.out.2.2.tr (Fm.of c2))))
 clear c2 HT H1
 by_cases h0 : X.1.k = 0
 · have e0 : ((X.1.k : Int) != 0) = false := by simp [h0]
   have HM : Hid (M = (E.1, E.2)) := by unfold Hid; rw [HI.out, if_pos h0]
   clear h0 HI
   go_wp2_with fail
   go_ret
   rw [HM.out]
   exact ⟨b, rfl, H2.out.1, H2.out.2.1, H2.out.2.2, Nat.zero_le _⟩
 · have e0 : ((X.1.k : Int) != 0) = true := by rw [bne_iff_ne]; omega
   have HM : Hid (M = (E.1, Z.stray E.2)) := by unfold Hid; rw [HI.out, if_neg h0]
   clear h0 HI
   go_wp2_with fail
   refine (stray_any H2.out.2.1).mono ?_
   rintro e w3 ⟨rfl, h3, f3⟩
   have H3 := qh (And.intro (H2.out.1.fr f3) (And.intro h3 (H2.out.2.2.tr f3)))
   clear h3 f3
   go_wp2_with fail
   go_ret
   rw [HM.out]
   exact ⟨b, rfl, H3.out.1, H3.out.2.1, H3.out.2.2, Nat.zero_le _⟩
open Go.RowKit Go.Lib

abbrev pav (x : Prt) : Value := .agg #[.bool x.ex, .string (tx x.s), .int .i64 x.p.a, .int .i64 x.p.l, .int .i64 x.p.c]
set_option maxRecDepth 100000 in
theorem isExpr_any (x : Prt) (w : World) : Calls Tryz.prog 197 #[pav x] w fun e w' => e = .returned (.bool x.ex) ∧ Below w.heap.size w w' := by
 go_enter Tryz.func197, Tryz.ntmps197
 go_wp2
 go_ret
 exact ⟨rfl, (Below.refl _ _).alloc (Nat.le_refl _) _⟩
def Pts (P : Nat → Prop) (w : World) (o : Option Addr) (cap : Nat) (l : List Prt) : Prop := RowP P w o cap l.length 5 (fun j m => pc5 ((l[j]?).getD prt0) m)
theorem Pts.at {P : Nat → Prop} {w : World} {o : Option Addr} {cap : Nat} {l : List Prt} (h : Pts P w o cap l) {i : Nat} {x : Prt} (hx : l[i]? = some x) : ∃ b off, o = some ⟨b, off, none⟩ ∧ P b ∧ (w.cell? ⟨b, off + i * 5, none⟩ = some (.bool x.ex) ∧ w.cell? ⟨b, off + i * 5 + 1, none⟩ = some (.string (tx x.s)) ∧ w.cell? ⟨b, off + i * 5 + 2, none⟩ = some (.int .i64 x.p.a) ∧ w.cell? ⟨b, off + i * 5 + 3, none⟩ = some (.int .i64 x.p.l) ∧ w.cell? ⟨b, off + i * 5 + 4, none⟩ = some (.int .i64 x.p.c)) := by
 have hi : i < l.length := (List.getElem?_eq_some_iff.1 hx).1
 obtain ⟨b, off, e, hb, hc⟩ := h.2.2.2 (by omega)
 have g := fun m hm => hc i hi m hm
 simp only [hx, Option.getD_some] at g
 exact ⟨b, off, e, hb, g 0 (by omega), g 1 (by omega), g 2 (by omega), g 3 (by omega), g 4 (by omega)⟩
theorem Pts.kp {P : Nat → Prop} {w w' : World} {o : Option Addr} {cap : Nat} {l : List Prt} (h : Pts P w o cap l) (b : ∀ k, P k → w'.heap[k]? = w.heap[k]?) : Pts P w' o cap l := h.keptP fun k hk => ⟨hk, b k hk⟩
set_option maxRecDepth 100000 in
set_option maxHeartbeats 2000000 in
theorem index_any {P : Nat → Prop} {w : World} {o : Option Addr} {cap : Nat} {l : List Prt} (h : Pts P w o cap l) (hP : ∀ k, P k → k < w.heap.size) (hl : l.length ≤ 100000) : Calls Tryz.prog 204 #[.slice o l.length cap, .func (.func 197) #[] #[]] w fun e w' => ∃ i : Int, e = .returned (.int .i64 i) ∧ decide (0 ≤ i) = l.any (·.ex) ∧ Below w.heap.size w w' := by
 have H := qh h
 have HPP := qh hP
 have hcm := h.2.1
 have hlc := h.1
 unfold maxLen at hcm
 clear h hP
 go_enter Tryz.func204, Tryz.ntmps204
 go_wp2_with fail
 go_loopw [8] (fun v wr => ∃ k : Nat, k ≤ l.length ∧ v = .int .i64 k ∧ Hid (∀ j x, j < k → l[j]? = some x → x.ex = false) ∧ Hid (Below w.heap.size w wr)) (fun v _ => l.length - (intOf v).toNat)
 case atStart => exact ⟨0, Nat.zero_le _, rfl, fun j x hj => absurd hj (Nat.not_lt_zero _), Below.refl _ _⟩
 case round =>
  obtain ⟨k, hk, rfl, HN, HB⟩ := hrel
  by_cases hlt : k < l.length
  · have e1 : (k : Int) < (l.length : Int) := by omega
    have hx := List.getElem?_eq_getElem hlt
    generalize l[k] = x at hx
    have HX := qh hx
    obtain ⟨b, off, rfl, hPb, c0, c1, c2, c3, c4⟩ := (H.out.kp (fun j hj => HB.out.block j (HPP.out j hj))).at hx
    have hbs : b < wr.heap.size := Nat.lt_of_lt_of_le (HPP.out b hPb) HB.out.size
    have hk0 : ¬ (k : Int) < 0 := by omega
    have e2 : IntKind.i64.wrap ((k : Int) + 1) = ((k + 1 : Nat) : Int) := by rw [IntWalk.i64_in _ (by omega)]; rfl
    clear hx hPb
    go_wp2_with fail
    refine (isExpr_any x _).mono ?_
    rintro e w2 ⟨rfl, b2⟩
    have HB2 := qh (HB.out.trans (b2.mono HB.out.size))
    clear b2
    obtain ⟨bx, hbx⟩ : ∃ bx, x.ex = bx := ⟨_, rfl⟩
    have HBX := qh hbx
    rw [hbx]
    clear hbx
    cases bx with
    | true =>
      go_wp2_with fail
      go_ret
      refine ⟨k, rfl, ?_, HB2.out⟩
      rw [List.any_eq_true.2 ⟨x, List.mem_of_getElem? HX.out, HBX.out⟩]
      simp
    | false =>
      go_wp2_with fail
      go_roundw
      case rel => exact ⟨k + 1, hlt, rfl, fun j y hj hy => by
       by_cases hjk : j = k
       · subst hjk
         obtain rfl := Option.some.inj (HX.out.symm.trans hy)
         exact HBX.out
       · exact HN.out j y (by omega) hy, HB2.out⟩
      case measure => simp only [intOf]; omega
  · have e1 : ¬ (k : Int) < (l.length : Int) := by omega
    obtain rfl : k = l.length := by omega
    go_wp2_with fail
    go_ret
    refine ⟨-1, rfl, ?_, HB.out⟩
    have : l.any (·.ex) = false := by
     rw [List.any_eq_false]
     intro x hx
     obtain ⟨j, hj⟩ := List.getElem?_of_mem hx
     rw [HN.out j x (List.getElem?_eq_some_iff.1 hj).1 hj]
     decide
    rw [this]; decide
set_option maxRecDepth 100000 in
theorem anyExpr_any {P : Nat → Prop} {w : World} {o : Option Addr} {cap : Nat} {l : List Prt} (h : Pts P w o cap l) (hP : ∀ k, P k → k < w.heap.size) (hl : l.length ≤ 100000) : Calls Tryz.prog 196 #[.slice o l.length cap, .func (.func 197) #[] #[]] w fun e w' => e = .returned (.bool (l.any (·.ex))) ∧ Below w.heap.size w w' := by
 have HI := qh (index_any h hP hl)
 clear h hP
 generalize l.any (·.ex) = b at *
 go_enter Tryz.func196, Tryz.ntmps196
 go_wp2_with fail
 refine HI.out.mono ?_
 rintro e w2 ⟨i, rfl, hi, b2⟩
 have HB2 := qh b2
 clear b2 HI
 go_wp2_with fail
 go_ret
 exact ⟨rfl, HB2.out⟩
open Go.RowKit Go.Lib

def bcs (b : List UInt8) : List Value := b.map fun c => Value.int .u8 (c.toNat : Int)
theorem bcs_app (a b : List UInt8) : bcs (a ++ b) = bcs a ++ bcs b := by simp [bcs]
theorem strCells_tx (s : List UInt8) : strCells (tx s) = bcs s := rfl
theorem info5 : (Tryz.prog.info? 5).map (fun i => (i.zero, i.size, i.bytes)) = some (some (.int .u8 0), 1, 1) := by kernel_rfl
theorem conv_own {w : World} {B : Nat} {v : Value} {b : List UInt8} (h : w.ownsRow B 5 1 v b.length (bcs b)) : (convert 67 9 v).run Tryz.prog w = .ok (.string (tx b)) w := by
 rcases h.2 with ⟨rfl, h0⟩ | ⟨g, cap, cur, rfl, hb, hg, hn, hm, hc, ht⟩
 · obtain rfl : b = [] := List.eq_nil_of_length_eq_zero h0
   exact run_convert_bytes_nil w 67 5 Tryz.underlying67 Tryz.underlying5 0 0 9 Tryz.underlying9
 · have hcell : ∀ i, i < b.length → w.cell? ⟨g, 0 + i, none⟩ = some (.int .u8 ((b.map fun c => (c.toNat : Int)).getD i 0)) := fun i hi => by
    have := h.cells (g := g) rfl i (.int .u8 ((b[i]'hi).toNat : Int)) (by unfold bcs; rw [List.getElem?_map, List.getElem?_eq_getElem hi]; rfl)
    have ea : (⟨g, 0, none⟩ : Addr).add i = ⟨g, i, none⟩ := by unfold Addr.add; split <;> simp_all
    rw [ea] at this
    rw [Nat.zero_add, this, List.getD_eq_getElem?_getD, List.getElem?_map, List.getElem?_eq_getElem hi]; rfl
   rw [run_convert_bytes_arg w 67 5 Tryz.underlying67 Tryz.underlying5 g 0 b.length cap (b.map fun c => (c.toNat : Int)) (by simp) hcell 9 Tryz.underlying9]
   unfold strOfNums tx
   simp only [List.map_map]
   congr
   apply List.map_id''
   intro c
   simp
def byt (l : List Prt) (k : Nat) : List UInt8 := (l.take k).flatMap (·.s)
theorem byt_succ {l : List Prt} {k : Nat} {x : Prt} (h : l[k]? = some x) : byt l (k + 1) = byt l k ++ x.s := by
 unfold byt
 rw [List.take_add_one, h]
 simp
theorem byt_all (l : List Prt) : byt l l.length = l.flatMap (·.s) := by unfold byt; rw [List.take_length]
theorem byt_len (l : List Prt) (k : Nat) : (byt l k).length ≤ (l.flatMap (·.s)).length := by
 have e : l.flatMap (·.s) = byt l k ++ (l.drop k).flatMap (·.s) := by unfold byt; rw [← List.flatMap_append, List.take_append_drop]
 rw [e, List.length_append]; omega
theorem own_kept {w w' : World} {B : Nat} {e : TypeId} {z : Nat} {v : Value} {n : Nat} {xs : List Value} (h : w.ownsRow B e z v n xs) (hb : Below w.heap.size w w') : w'.ownsRow B e z v n xs := by
 refine ⟨h.1, ?_⟩
 rcases h.2 with hn | ⟨g, cap, cur, hv, hbg, hgb, r⟩
 · exact .inl hn
 · exact .inr ⟨g, cap, cur, hv, hbg, (hb.block g (Array.getElem?_eq_some_iff.1 hgb).1).trans hgb, r⟩
set_option maxRecDepth 100000 in
set_option maxHeartbeats 2000000 in
theorem bytes_any {P : Nat → Prop} {w : World} {o : Option Addr} {cap : Nat} {l : List Prt} (h : Pts P w o cap l) (hP : ∀ k, P k → k < w.heap.size) (hl : l.length ≤ 100000) (hs : (l.flatMap (·.s)).length ≤ 1000000) : Calls Tryz.prog 198 #[.slice o l.length cap] w fun e w' => e = .returned (.string (tx (l.flatMap (·.s)))) ∧ Below w.heap.size w w' := by
 obtain ⟨i5, hi, hz, hs1, hb⟩ := info_parts info5
 have H := qh h
 have HPP := qh hP
 have HS := qh hs
 have hcm := h.2.1
 have hlc := h.1
 unfold maxLen at hcm
 clear h hP hs
 go_enter Tryz.func198, Tryz.ntmps198
 go_wp2_with fail
 go_loopw [3, 8] (fun v3 v8 wr => ∃ k : Nat, k ≤ l.length ∧ v8 = .int .i64 k ∧ Hid (wr.ownsRow w.heap.size 5 1 v3 (byt l k).length (bcs (byt l k))) ∧ Hid (Below w.heap.size w wr)) (fun _ v _ => l.length - (intOf v).toNat)
 case atStart => exact ⟨0, Nat.zero_le _, rfl, ⟨rfl, .inl ⟨rfl, rfl⟩⟩, Below.refl _ _⟩
 case round =>
  obtain ⟨k, hk, rfl, HO, HB⟩ := hrel
  by_cases hlt : k < l.length
  · have e1 : (k : Int) < (l.length : Int) := by omega
    have hx := List.getElem?_eq_getElem hlt
    generalize l[k] = x at hx
    have HX := qh hx
    obtain ⟨b, off, rfl, hPb, c0, c1, c2, c3, c4⟩ := (H.out.kp (fun j hj => HB.out.block j (HPP.out j hj))).at hx
    have hbs : b < wr.heap.size := Nat.lt_of_lt_of_le (HPP.out b hPb) HB.out.size
    have hk0 : ¬ (k : Int) < 0 := by omega
    have e2 : IntKind.i64.wrap ((k : Int) + 1) = ((k + 1 : Nat) : Int) := by rw [IntWalk.i64_in _ (by omega)]; rfl
    have hlen := byt_len l k
    have hlen2 := byt_len l (k + 1)
    rw [byt_succ hx, List.length_append] at hlen2
    have HLN := qh (And.intro hlen hlen2)
    clear hx hPb hlen hlen2
    have HO1 := qh (own_kept HO.out ((Below.refl _ _).alloc (Nat.le_refl _) (.cells #[.bool x.ex, .string (tx x.s), .int .i64 x.p.a, .int .i64 x.p.l, .int .i64 x.p.c] 130)))
    have HB1 : Hid (Below w.heap.size w (wr.alloc (.cells #[.bool x.ex, .string (tx x.s), .int .i64 x.p.a, .int .i64 x.p.l, .int .i64 x.p.c] 130))) := HB.out.alloc HB.out.size _
    go_wp2_with (at_builtin; go_must (refine wpList_append_own_string _ rfl (.tmp 12) (.tmp 14) 67 9 rfl w.heap.size 5 i5 Tryz.underlying67 Tryz.underlying9 hi hz hs1 hb _ (byt l k).length (bcs (byt l k)) rfl HO1.out (tx x.s) rfl (by have := HLN.out; have := HS.out; rw [tx_size]; unfold maxLen; omega) (by have := HLN.out; have := HS.out; rw [tx_size]; omega) HB1.out.size ?_))
    intro v' w2 hown hgrow hnil
    have HE : Hid (w2.ownsRow w.heap.size 5 1 v' (byt l (k + 1)).length (bcs (byt l (k + 1))) ∧ Below w.heap.size w w2) := by
     rw [strCells_tx, ← bcs_app, ← byt_succ HX.out, tx_size, ← List.length_append, ← byt_succ HX.out] at hown
     exact ⟨hown, HB1.out.grown hgrow HB1.out.size (fun g hg => (HO1.out.lt g hg).1)⟩
    clear hown hgrow hnil
    go_wp2_with fail
    go_roundw
    case rel => exact ⟨k + 1, hlt, rfl, HE.out.1, HE.out.2⟩
    case measure => simp only [intOf]; omega
  · have e1 : ¬ (k : Int) < (l.length : Int) := by omega
    obtain rfl : k = l.length := by omega
    have hcv := conv_own HO.out
    rw [byt_all] at hcv
    go_wp2_with fail
    go_ret
    exact ⟨rfl, HB.out⟩
end Go.Proofs.YtncjncacfagldaaGreatDoor

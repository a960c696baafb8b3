/- Contracts: post. -/
import Derived.Test.YtncjncacfagldaaDoorWV
namespace Go.Proofs.YtncjncacfagldaaDoor
open Go.RowKit
attribute [local go_sem] field66_0 field66_1 field66_2 field66_3 field66_4 field101_0 field101_1 field101_2

theorem postL_succ (Z : Cz) (inn : List UInt8 → Ps → Ex × Nat × Ps) (F : Fs) (k : Nat) (e : Ex) (s : St) : postL (Z.cx inn) F (k + 1) e s = if Z.is s 4 [46] then postL (Z.cx inn) F k (.mk 3 (tx (Z.anyName s.pass).1) ⟨#[]⟩ vNull [e] (Z.pl s).a (Z.pl s).l (Z.pl s).c) (Z.anyName s.pass).2 else if Z.is s 4 [91] then postL (Z.cx inn) F k (treeX 4 (Z.pl s) [e, (F.ex s.pass).1]) (Z.wants (F.ex s.pass).2 4 [93]) else (e, s) := by
  show (if (Z.cx inn).is s 4 [46] then _ else if (Z.cx inn).is s 4 [91] then _ else _) = _
  simp only [is_eq, pl_eq, anyName_eq, wants_eq]
set_option maxRecDepth 100000 in
set_option maxHeartbeats 4000000 in
theorem post_any {w : World} {R : Nat} {Z : Cz} {s : St} {inn : List UInt8 → Ps → Ex × Nat × Ps} {F : Fs} (h : Rd w R Z s) (ht : TextOk R Z inn) (he : ExOk R Z F (s.p + 1)) : Calls Tryd.prog 94 #[.pointer (some ⟨R, 0, none⟩)] w (EP w R Z s.p (postM (Z.cx inn) F s)) := by
  have HZ := Lib.hid h.sz
  have H0 := Lib.hid h
  have HE := Lib.hid he
  have HU := Lib.hid (first_any h ht he)
  have HM : Hid (postM (Z.cx inn) F s = postL (Z.cx inn) F (Z.acc.length + 1) (firstM (Z.cx inn) F s).1 (firstM (Z.cx inn) F s).2) := by unfold Hid postM; rw [Cz.len_eq]
  generalize postM (Z.cx inn) F s = M at *
  generalize firstM (Z.cx inn) F s = U at *
  clear h he ht
  go_enter Tryd.func94, Tryd.ntmps94
  go_wp2_with fail
  refine HU.out.mono ?_
  rintro e w1 ⟨b0, rfl, hx0, hr0, hf0, hp0⟩
  have HX0 := Lib.hid (And.intro hx0 (And.intro hr0 (And.intro hf0 hp0)))
  clear hx0 hr0 hf0 hp0 HU
  go_wp2_with fail
  go_loopw [3] (fun v3 wr => ∃ (k be : Nat) (e : Ex) (s' : St), v3 = .pointer (some ⟨be, 0, none⟩) ∧ Hid (M = postL (Z.cx inn) F k e s') ∧ Hid (Z.acc.length - s'.p < k) ∧ Hid (Xb w.heap.size wr R be e) ∧ Hid (Rd wr R Z s') ∧ Hid (Fm R w wr) ∧ Hid (s.p ≤ s'.p)) (fun _ wr => 100000 - pAt R wr)
  case atStart => exact ⟨Z.acc.length + 1, b0, U.1, U.2, rfl, HM.out, by unfold Hid; omega, HX0.out.1, HX0.out.2.1, HX0.out.2.2.1, HX0.out.2.2.2⟩
  case round =>
    obtain ⟨k, be, e, s', rfl, HK, HF, HXb, HR, HW, HSP⟩ := hrel
    obtain ⟨k, rfl⟩ : ∃ j, k = j + 1 := ⟨k - 1, by have := HF.out; omega⟩
    have hle := HR.out.le
    have hz := HZ.out.n
    have HK2 := Lib.hid (HK.out.trans (postL_succ Z inn F k e s'))
    have HI1 := Lib.hid (is_any HR.out 4 [46])
    have HI2 : Hid (∀ W, Rd W R Z s' → Calls Tryd.prog 54 #[.pointer (some ⟨R, 0, none⟩), .int .i64 4, .string (tx [91])] W fun e w' => e = .returned (.bool (Z.is s' 4 [91])) ∧ Below W.heap.size W w') := fun W hW => is_any hW 4 [91]
    have HLT1 : Hid (Z.is s' 4 [46] = true → s'.p < Z.acc.length) := fun h => is_lt' h (by decide)
    have HLT2 : Hid (Z.is s' 4 [91] = true → s'.p < Z.acc.length) := fun h => is_lt' h (by decide)
    have HPS : Hid (s'.p < Z.acc.length → ∀ W, Rd W R Z s' → Calls Tryd.prog 55 #[.pointer (some ⟨R, 0, none⟩)] W fun e w' => e = .returned (.agg #[.int .i64 (Z.pl s').a, .int .i64 (Z.pl s').l, .int .i64 (Z.pl s').c]) ∧ Rd w' R Z s'.pass ∧ Fm R W w') := fun hk W hW => pass_any hW hk
    have HJQ : Hid (∀ W, Rd W R Z s'.pass → Calls Tryd.prog 35 #[.pointer (some ⟨R, 0, none⟩)] W (EP W R Z (s'.p + 1) (F.ex s'.pass))) := fun W hW => HE.out W s'.pass hW (Nat.succ_le_succ HSP.out)
    have HAN : Hid (∀ W, Rd W R Z s'.pass → Calls Tryd.prog 97 #[.pointer (some ⟨R, 0, none⟩)] W (SnP W R Z (Z.anyName s'.pass))) := fun W hW => anyName_any hW
    have HAP : Hid (s'.pass.p ≤ Z.acc.length → s'.p + 1 ≤ (Z.anyName s'.pass).2.p) := fun h => anyName_p (s := s'.pass) h
    generalize Z.anyName s'.pass = A at *
    generalize F.ex s'.pass = J at *
    generalize Z.pl s' = P at *
    generalize Z.is s' 4 [46] = b1 at *
    generalize Z.is s' 4 [91] = b2 at *
    clear HK
    go_wp2_with fail
    refine HI1.out.mono ?_
    rintro e0 w2 ⟨rfl, c2⟩
    have H2 := Lib.hid (And.intro (HR.out.below c2) (And.intro (HW.out.tr (Fm.of c2)) (HXb.out.fr (Fm.of c2))))
    clear c2 HI1
    cases b1 with
    | true =>
      have hlt : Hid (s'.p < Z.acc.length) := HLT1.out rfl
      have HM3 : Hid (M = postL (Z.cx inn) F k (.mk 3 (tx A.1) ⟨#[]⟩ vNull [e] P.a P.l P.c) A.2) := HK2.out
      obtain ⟨oV, cV, oK, cK, o, cap, hb, hX, hbR, hnb⟩ := H2.out.2.2
      have HNE := Lib.hid hbR
      have HX := Lib.hid hX
      clear hX hbR hnb
      have hb2 := (rc15 hb)
      clear HI2 HLT1 HLT2 HJQ
      go_upto_region 4 with fail
      obtain ⟨⟨d0, d1, d2, d3, d4, d5, d6, d7, d8, d9, d10, d11, d12, d13, d14⟩, -, hbl2⟩ := hb2
      refine wp_region_noPanic ?_
      refine wp_region_held_drew (S := (fun W => (∀ o, W.cell? ⟨be, o, none⟩ = w2.cell? ⟨be, o, none⟩) ∧ be < W.heap.size)) (by kernel_rfl) ?_ (fun hH => ?_)
      · exact ⟨fun _ => rfl, hbl2⟩
      refine wpAnyH_take (i := 0) (oi := { dst := some 10, op := Op.move (Operand.tmp 0), type := 59, pos := "grammar.go:59", after := #[], guard := none }) (v := ?_) rfl (by kernel_rfl) (by kernel_rfl) (by kernel_rfl) (fun _ _ _ h => h) (Or.inl ⟨by rfl, ?_⟩) (by assumption) ?_
      rotate_left
      · (intro w hSw; (try dsimp only at hSw); go_simp; try with_reducible rfl)
      try simp only [Act.put, List.setIfInBounds_toArray, List.set_cons_zero, List.set_cons_succ]
      refine wpAnyH_take (i := 2) (oi := { dst := some 12, op := Op.move (Operand.tmp 3), type := 61, pos := "grammar.go:59", after := #[], guard := none }) (v := ?_) rfl (by kernel_rfl) (by kernel_rfl) (by kernel_rfl) (fun _ _ _ h => h) (Or.inl ⟨by rfl, ?_⟩) (by assumption) ?_
      rotate_left
      · (intro w hSw; (try dsimp only at hSw); go_simp; try with_reducible rfl)
      try simp only [Act.put, List.setIfInBounds_toArray, List.set_cons_zero, List.set_cons_succ]
      refine wpAnyH_take (i := 3) (oi := { dst := some 13, op := Op.nilCheck (Operand.tmp 12), type := 0, pos := "grammar.go:59", after := #[{ on := 2, ground := Ground.data }], guard := none }) (v := ?_) rfl (by kernel_rfl) (by kernel_rfl) (by kernel_rfl) (fun _ _ _ h => h) (Or.inl ⟨by rfl, ?_⟩) (by assumption) ?_
      rotate_left
      · (intro w hSw; (try dsimp only at hSw); go_simp; try with_reducible rfl)
      try simp only [Act.put, List.setIfInBounds_toArray, List.set_cons_zero, List.set_cons_succ]
      refine wpAnyH_take (i := 4) (oi := { dst := some 14, op := Op.load 33 (Operand.tmp 13), type := 33, pos := "grammar.go:59", after := #[{ on := 3, ground := Ground.data }], guard := none }) (v := ?_) rfl (by kernel_rfl) (by kernel_rfl) (by kernel_rfl) (fun _ _ _ h => h) (Or.inl ⟨by rfl, ?_⟩) (by assumption) ?_
      rotate_left
      · (intro w hSw; (try dsimp only at hSw); go_simp; try with_reducible rfl)
      try simp only [Act.put, List.setIfInBounds_toArray, List.set_cons_zero, List.set_cons_succ]
      refine wpAnyH_ready (rs := [1, 5]) (by kernel_rfl) (by simp) ?_
      refine AllReadyH.cons (o := { dst := some 11, op := Op.call { callee := Callee.value (Operand.func 55), args := #[Operand.tmp 10], argTypes := #[59] }, type := 31, pos := "grammar.go:59", after := #[{ on := 0, ground := Ground.data }], guard := none }) rfl (fun K hK => ?_) (AllReadyH.cons (o := { dst := some 15, op := Op.buildSlice 29 1 #[(0, Operand.tmp 14)], type := 29, pos := "grammar.go:59", after := #[{ on := 4, ground := Ground.data }], guard := none }) rfl (fun K hK => ?_) AllReadyH.nil)
      rotate_left
      focus (
        go_simp
        refine hK.out _ _ ?_ (fun hH' => ?_)
        · exact ⟨fun o' => (World.cell?_of_block (heap_alloc_old w2.drew (Obj.cells (xc e oV cV oK cK o cap) 33) hH.2)).trans (hH.1 o'), Nat.lt_of_lt_of_le hH.2 (by simp)⟩
        clear hK K hH
        have hH := hH'
        clear hH'
        try simp only [Act.put, List.setIfInBounds_toArray, List.set_cons_zero, List.set_cons_succ]
        refine wpAnyH_ready (rs := [1]) (by kernel_rfl) (by simp) ?_
        refine AllReadyH.cons (o := { dst := some 11, op := Op.call { callee := Callee.value (Operand.func 55), args := #[Operand.tmp 10], argTypes := #[59] }, type := 31, pos := "grammar.go:59", after := #[{ on := 0, ground := Ground.data }], guard := none }) rfl (fun K hK => ?_) AllReadyH.nil
        go_simp
        refine (HPS.out hlt.out _ ((H2.out.1.below (Below.refl _ _).drew).below ((Below.refl _ _).alloc (Nat.le_refl _) (Obj.cells (xc e oV cV oK cK o cap) 33)))).mono ?_
        rintro e0 WA ⟨rfl, h1, f1⟩
        have F1 := Lib.hid f1
        have HA := Lib.hid (And.intro h1 (And.intro ((H2.out.2.1.dr.al (Obj.cells (xc e oV cV oK cK o cap) 33)).tr f1) (((HX.out.fm (Fm.rf R w2).dr).fm ((Fm.rf R w2.drew).al (Obj.cells (xc e oV cV oK cK o cap) 33))).fm f1)))
        clear h1 f1
        refine hK.out _ _ ?_ (fun hH' => ?_)
        · exact ⟨fun o1 => (World.cell?_of_block (w := (w2.drew.alloc (Obj.cells (xc e oV cV oK cK o cap) 33))) (F1.out.block be hH.2 (fun e => HNE.out (Option.some.inj e)))).trans (hH.1 o1), Nat.lt_of_lt_of_le hH.2 F1.out.size⟩
        clear hK K hH
        have hH := hH'
        clear hH'
        try simp only [Act.put, List.setIfInBounds_toArray, List.set_cons_zero, List.set_cons_succ]
        have hgR : w2.heap.size ≠ R := Nat.ne_of_gt H2.out.1.lt
        have hg0 : WA.heap[w2.heap.size]? = some (.cells (xc e oV cV oK cK o cap) 33 (0, 0)) := (F1.out.block w2.drew.heap.size (by simp) (fun e => hgR (Option.some.inj e))).trans (heap_alloc_new w2.drew (Obj.cells (xc e oV cV oK cK o cap) 33))
        have HE2 := Lib.hid (And.intro hg0 (And.intro HA.out.1 (And.intro HA.out.2.1 (And.intro HA.out.2.2 (And.intro H2.out.2.1.size hgR)))))
        clear hg0 hgR HA F1
        generalize WA = WE at *
        generalize w2.heap.size = g at HE2 ⊢
        )
      rotate_left
      focus (
        go_simp
        refine (HPS.out hlt.out _ (H2.out.1.below (Below.refl _ _).drew)).mono ?_
        rintro e0 WA ⟨rfl, h1, f1⟩
        have F1 := Lib.hid f1
        have HA := Lib.hid (And.intro h1 (And.intro (H2.out.2.1.dr.tr f1) ((HX.out.fm (Fm.rf R w2).dr).fm f1)))
        clear h1 f1
        refine hK.out _ _ ?_ (fun hH' => ?_)
        · exact ⟨fun o => (World.cell?_of_block (w := w2.drew) (F1.out.block be hH.2 (fun e => HNE.out (Option.some.inj e)))).trans (hH.1 o), Nat.lt_of_lt_of_le hH.2 F1.out.size⟩
        clear hK K hH
        have hH := hH'
        clear hH'
        try simp only [Act.put, List.setIfInBounds_toArray, List.set_cons_zero, List.set_cons_succ]
        refine wpAnyH_ready (rs := [5]) (by kernel_rfl) (by simp) ?_
        refine AllReadyH.cons (o := { dst := some 15, op := Op.buildSlice 29 1 #[(0, Operand.tmp 14)], type := 29, pos := "grammar.go:59", after := #[{ on := 4, ground := Ground.data }], guard := none }) rfl (fun K hK => ?_) AllReadyH.nil
        go_simp
        refine hK.out _ _ ?_ (fun hH' => ?_)
        · exact ⟨fun o' => (World.cell?_of_block (heap_alloc_old WA (Obj.cells (xc e oV cV oK cK o cap) 33) hH.2)).trans (hH.1 o'), Nat.lt_of_lt_of_le hH.2 (by simp)⟩
        clear hK K hH
        have hH := hH'
        clear hH'
        try simp only [Act.put, List.setIfInBounds_toArray, List.set_cons_zero, List.set_cons_succ]
        have HE2 := Lib.hid (And.intro (heap_alloc_new WA (Obj.cells (xc e oV cV oK cK o cap) 33)) (And.intro (HA.out.1.below ((Below.refl _ _).alloc (Nat.le_refl _) (Obj.cells (xc e oV cV oK cK o cap) 33))) (And.intro (HA.out.2.1.al (Obj.cells (xc e oV cV oK cK o cap) 33)) (And.intro (HA.out.2.2.fm ((Fm.rf R WA).al (Obj.cells (xc e oV cV oK cK o cap) 33))) (And.intro HA.out.2.1.size (Nat.ne_of_gt HA.out.1.lt))))))
        clear HA F1
        generalize WA.alloc (Obj.cells (xc e oV cV oK cK o cap) 33) = WE at *
        generalize WA.heap.size = g at *
        )
      all_goals (
        refine wpAnyH_ready (rs := [6]) (by kernel_rfl) (by simp) ?_
        refine AllReadyH.cons (o := { dst := some 16, op := Op.call { callee := Callee.value (Operand.func 57), args := #[Operand.const (Value.int IntKind.i64 3), Operand.tmp 11, Operand.tmp 15], argTypes := #[3, 31, 29] }, type := 61, pos := "grammar.go:59", after := #[{ on := 1, ground := Ground.data }, { on := 5, ground := Ground.data }, { on := 1, ground := Ground.chain }], guard := none }) rfl (fun K hK => ?_) AllReadyH.nil
        go_simp
        refine (tree_any 3 P (some ⟨g, 0, none⟩) 1 1 _).mono ?_
        rintro e0 WC ⟨b4, rfl, hle4, hb4, k4⟩
        have r4 : Rd WC R Z s'.pass := HE2.out.2.1.below k4
        have F3 := Lib.hid (Fm.of (R := R) k4)
        have HC := Lib.hid (And.intro hle4 (And.intro hb4 r4))
        clear hb4 k4 hle4 r4
        refine hK.out _ _ ?_ (fun hH' => ?_)
        · exact ⟨fun o => (World.cell?_of_block (w := WE) (F3.out.block be hH.2 (fun e => HNE.out (Option.some.inj e)))).trans (hH.1 o), Nat.lt_of_lt_of_le hH.2 F3.out.size⟩
        clear hK K hH
        have hH := hH'
        clear hH'
        try simp only [Act.put, List.setIfInBounds_toArray, List.set_cons_zero, List.set_cons_succ]
        refine wpAnyH_take (i := 7) (oi := { dst := some 3, op := Op.assign (Operand.tmp 16), type := 61, pos := "grammar.go:59", after := #[{ on := 6, ground := Ground.data }, { on := 6, ground := Ground.chain }, { on := 0, ground := Ground.phase }, { on := 1, ground := Ground.phase }, { on := 2, ground := Ground.phase }, { on := 3, ground := Ground.phase }, { on := 4, ground := Ground.phase }, { on := 5, ground := Ground.phase }, { on := 6, ground := Ground.phase }], guard := none }) (v := ?_) rfl (by kernel_rfl) (by kernel_rfl) (by kernel_rfl) (fun _ _ _ h => h) (Or.inl ⟨by rfl, ?_⟩) (by assumption) ?_
        rotate_left
        · (intro w hSw; (try dsimp only at hSw); go_simp; try with_reducible rfl)
        try simp only [Act.put, List.setIfInBounds_toArray, List.set_cons_zero, List.set_cons_succ]
        )
      all_goals refine wpAnyH_done (by kernel_rfl) ?_ _
      all_goals refine NoPanic.normal ?_
      all_goals (
        clear d0 d1 d2 d3 d4 d5 d6 d7 d8 d9 d10 d11 d12 d13 d14 hbl2 hH
        have hb4R : b4 ≠ R := by have := HC.out.1; have := HE2.out.2.1.lt; omega
        obtain ⟨⟨c0, c1, c2, c3, c4, c5, c6, c7, c8, c9, c10, c11, c12, c13, c14⟩, -, hb4l⟩ := rc15 HC.out.2.1
        go_wp2_with fail
        refine (HAN.out _ HC.out.2.2).mono ?_
        rintro e0 WD ⟨rfl, h5, f5⟩
        have hb5 := (f5.block b4 hb4l (fun e => hb4R (Option.some.inj e))).trans HC.out.2.1
        have H5 := Lib.hid (And.intro h5 f5)
        clear h5 f5
        clear c0 c1 c2 c3 c4 c5 c6 c7 c8 c9 c10 c11 c12 c13 c14
        obtain ⟨⟨c0, c1, c2, c3, c4, c5, c6, c7, c8, c9, c10, c11, c12, c13, c14⟩, gf5, hb5l⟩ := rc15 hb5
        have HB5 := Lib.hid hb5
        clear hb5
        go_wp2_with fail
        go_roundw
        case rel =>
          have hlw : WE.heap.size ≤ b4 := HC.out.1
          have hz0 : Z.n0 ≤ b4 := Nat.le_trans HE2.out.2.1.nn hlw
          have ff : Fm R WE (WD.setCell ⟨b4, 1, none⟩ (.string (tx A.1))) := (F3.out.tr H5.out.2).hi hlw 1 _
          have hl0 : w.heap.size ≤ b4 := Nat.le_trans HE2.out.2.2.1.size hlw
          have hg5 : g < WE.heap.size := (Array.getElem?_eq_some_iff.1 HE2.out.1).1
          exact ⟨k, b4, .mk 3 (tx A.1) ⟨#[]⟩ vNull [e] P.a P.l P.c, A.2, rfl, HM3.out, by have := HF.out; have := HAP.out hlt.out; have := H5.out.1.le; unfold Hid; omega, xb_one (HE2.out.2.2.2.1.fm ff) ((ff.block g hg5 (fun e => HE2.out.2.2.2.2.2 (Option.some.inj e))).trans HE2.out.1) HE2.out.2.2.2.2.1 HE2.out.2.2.2.2.2 ((heap_setCell_same WD b4 1 _ 33 _ HB5.out).trans rfl) hb4R hl0, H5.out.1.at hb4R hz0 1 _, HE2.out.2.2.1.tr ff, Nat.le_trans HSP.out (Nat.le_trans (Nat.le_succ _) (HAP.out hlt.out))⟩
        case measure =>
          have e1 := pAt_eq (H5.out.1.at hb4R (Nat.le_trans HE2.out.2.1.nn HC.out.1) 1 (.string (tx A.1)))
          have e2 := pAt_eq HR.out
          have := H5.out.1.le
          have := HAP.out hlt.out
          rw [e1, e2]; omega
        )
    | false =>
      go_wp2_with fail
      refine (HI2.out _ H2.out.1).mono ?_
      rintro e0 w3 ⟨rfl, c3⟩
      have H3 := Lib.hid (And.intro (H2.out.1.below c3) (And.intro (H2.out.2.1.tr (Fm.of c3)) (H2.out.2.2.fr (Fm.of c3))))
      clear c3 HI2 H2
      have H2 := H3
      clear H3
      generalize w3 = w2 at *
      cases b2 with
      | false =>
        have HM3 : Hid (M = (e, s')) := HK2.out
        go_wp2_with fail
        go_ret
        rw [HM3.out]
        exact ⟨be, rfl, H2.out.2.2, H2.out.1, H2.out.2.1, HSP.out⟩
      | true =>
        have hlt : Hid (s'.p < Z.acc.length) := HLT2.out rfl
        have HM3 : Hid (M = postL (Z.cx inn) F k (treeX 4 P [e, J.1]) (Z.wants J.2 4 [93])) := HK2.out
        obtain ⟨oV, cV, oK, cK, o, cap, hb, hX, hbR, hnb⟩ := H2.out.2.2
        have HNE := Lib.hid hbR
        have HX := Lib.hid hX
        clear hX hbR hnb
        have hb2 := (rc15 hb)
        go_upto_region 7 with fail
        obtain ⟨⟨d0, d1, d2, d3, d4, d5, d6, d7, d8, d9, d10, d11, d12, d13, d14⟩, -, hbl2⟩ := hb2
        refine wp_region_noPanic ?_
        refine wp_region_held_drew (S := (fun W => (∀ o, W.cell? ⟨be, o, none⟩ = w2.cell? ⟨be, o, none⟩) ∧ be < W.heap.size)) (by kernel_rfl) ?_ (fun hH => ?_)
        · exact ⟨fun _ => rfl, hbl2⟩
        refine wpAnyH_take (i := 0) (oi := { dst := some 25, op := Op.move (Operand.tmp 0), type := 59, pos := "grammar.go:62", after := #[], guard := none }) (v := ?_) rfl (by kernel_rfl) (by kernel_rfl) (by kernel_rfl) (fun _ _ _ h => h) (Or.inl ⟨by rfl, ?_⟩) (by assumption) ?_
        rotate_left
        · (intro w hSw; (try dsimp only at hSw); go_simp; try with_reducible rfl)
        try simp only [Act.put, List.setIfInBounds_toArray, List.set_cons_zero, List.set_cons_succ]
        refine wpAnyH_take (i := 2) (oi := { dst := some 27, op := Op.move (Operand.tmp 3), type := 61, pos := "grammar.go:62", after := #[], guard := none }) (v := ?_) rfl (by kernel_rfl) (by kernel_rfl) (by kernel_rfl) (fun _ _ _ h => h) (Or.inl ⟨by rfl, ?_⟩) (by assumption) ?_
        rotate_left
        · (intro w hSw; (try dsimp only at hSw); go_simp; try with_reducible rfl)
        try simp only [Act.put, List.setIfInBounds_toArray, List.set_cons_zero, List.set_cons_succ]
        refine wpAnyH_take (i := 3) (oi := { dst := some 28, op := Op.nilCheck (Operand.tmp 27), type := 0, pos := "grammar.go:62", after := #[{ on := 2, ground := Ground.data }], guard := none }) (v := ?_) rfl (by kernel_rfl) (by kernel_rfl) (by kernel_rfl) (fun _ _ _ h => h) (Or.inl ⟨by rfl, ?_⟩) (by assumption) ?_
        rotate_left
        · (intro w hSw; (try dsimp only at hSw); go_simp; try with_reducible rfl)
        try simp only [Act.put, List.setIfInBounds_toArray, List.set_cons_zero, List.set_cons_succ]
        refine wpAnyH_take (i := 4) (oi := { dst := some 29, op := Op.load 33 (Operand.tmp 28), type := 33, pos := "grammar.go:62", after := #[{ on := 3, ground := Ground.data }], guard := none }) (v := ?_) rfl (by kernel_rfl) (by kernel_rfl) (by kernel_rfl) (fun _ _ _ h => h) (Or.inl ⟨by rfl, ?_⟩) (by assumption) ?_
        rotate_left
        · (intro w hSw; (try dsimp only at hSw); go_simp; try with_reducible rfl)
        try simp only [Act.put, List.setIfInBounds_toArray, List.set_cons_zero, List.set_cons_succ]
        refine wpAnyH_take (i := 5) (oi := { dst := some 30, op := Op.move (Operand.tmp 0), type := 59, pos := "grammar.go:62", after := #[], guard := none }) (v := ?_) rfl (by kernel_rfl) (by kernel_rfl) (by kernel_rfl) (fun _ _ _ h => h) (Or.inl ⟨by rfl, ?_⟩) (by assumption) ?_
        rotate_left
        · (intro w hSw; (try dsimp only at hSw); go_simp; try with_reducible rfl)
        try simp only [Act.put, List.setIfInBounds_toArray, List.set_cons_zero, List.set_cons_succ]
        refine wpAnyH_ready (rs := [1]) (by kernel_rfl) (by simp) ?_
        refine AllReadyH.cons (o := { dst := some 26, op := Op.call { callee := Callee.value (Operand.func 55), args := #[Operand.tmp 25], argTypes := #[59] }, type := 31, pos := "grammar.go:62", after := #[{ on := 0, ground := Ground.data }], guard := none }) rfl (fun K hK => ?_) AllReadyH.nil
        go_simp
        refine (HPS.out hlt.out _ (H2.out.1.below (Below.refl _ _).drew)).mono ?_
        rintro e0 WA ⟨rfl, h1, f1⟩
        have F1 := Lib.hid f1
        have HA := Lib.hid (And.intro h1 (And.intro (H2.out.2.1.dr.tr f1) ((HX.out.fm (Fm.rf R w2).dr).fm f1)))
        clear h1 f1
        refine hK.out _ _ ?_ (fun hH' => ?_)
        · exact ⟨fun o => (World.cell?_of_block (w := w2.drew) (F1.out.block be hH.2 (fun e => HNE.out (Option.some.inj e)))).trans (hH.1 o), Nat.lt_of_lt_of_le hH.2 F1.out.size⟩
        clear hK K hH
        have hH := hH'
        clear hH'
        try simp only [Act.put, List.setIfInBounds_toArray, List.set_cons_zero, List.set_cons_succ]
        refine wpAnyH_ready (rs := [6]) (by kernel_rfl) (by simp) ?_
        refine AllReadyH.cons (o := { dst := some 31, op := Op.call { callee := Callee.value (Operand.func 35), args := #[Operand.tmp 30], argTypes := #[59] }, type := 61, pos := "grammar.go:62", after := #[{ on := 5, ground := Ground.data }, { on := 1, ground := Ground.chain }], guard := none }) rfl (fun K hK => ?_) AllReadyH.nil
        go_simp
        refine (HJQ.out _ HA.out.1).mono ?_
        rintro e0 WB ⟨bz, rfl, hx, hr, hf, hp⟩
        obtain ⟨oV', cV', oK', cK', o', cap', hbz, hXz, hbzR, hnbz⟩ := hx
        have F2 := Lib.hid hf
        have HB := Lib.hid (And.intro hr (And.intro (HA.out.2.1.tr hf) (And.intro (HA.out.2.2.fm hf) (And.intro (hXz.mono (P' := Nu w.heap.size WB R) fun k hk => ⟨Nat.le_trans HA.out.2.1.size hk.1, hk.2⟩) hp))))
        obtain ⟨⟨c0, c1, c2, c3, c4, c5, c6, c7, c8, c9, c10, c11, c12, c13, c14⟩, -, hblz⟩ := rc15 hbz
        clear hr hf hXz hbz hnbz hbzR hp
        refine hK.out _ _ ?_ (fun hH' => ?_)
        · exact ⟨fun o => (World.cell?_of_block (w := WA) (F2.out.block be hH.2 (fun e => HNE.out (Option.some.inj e)))).trans (hH.1 o), Nat.lt_of_lt_of_le hH.2 F2.out.size⟩
        clear hK K hH
        have hH := hH'
        clear hH'
        try simp only [Act.put, List.setIfInBounds_toArray, List.set_cons_zero, List.set_cons_succ]
        refine wpAnyH_take (i := 7) (oi := { dst := some 32, op := Op.nilCheck (Operand.tmp 31), type := 0, pos := "grammar.go:62", after := #[{ on := 6, ground := Ground.data }], guard := none }) (v := ?_) rfl (by kernel_rfl) (by kernel_rfl) (by kernel_rfl) (fun _ _ _ h => h) (Or.inl ⟨by rfl, ?_⟩) (by assumption) ?_
        rotate_left
        · (intro w hSw; (try dsimp only at hSw); go_simp; try with_reducible rfl)
        try simp only [Act.put, List.setIfInBounds_toArray, List.set_cons_zero, List.set_cons_succ]
        refine wpAnyH_ready (rs := [8]) (by kernel_rfl) (by simp) ?_
        refine AllReadyH.cons (o := { dst := some 33, op := Op.load 33 (Operand.tmp 32), type := 33, pos := "grammar.go:62", after := #[{ on := 7, ground := Ground.data }], guard := none }) rfl (fun K hK => ?_) AllReadyH.nil
        go_simp
        refine hK.out _ _ ?_ (fun hH' => ?_)
        · exact hH
        clear hK K hH
        have hH := hH'
        clear hH'
        try simp only [Act.put, List.setIfInBounds_toArray, List.set_cons_zero, List.set_cons_succ]
        have hHB := Lib.hid hH.1
        have hhB := Lib.hid hH.2
        refine wpAnyH_ready (rs := [9]) (by kernel_rfl) (by simp) ?_
        refine AllReadyH.cons (o := { dst := some 34, op := Op.buildSlice 29 2 #[(0, Operand.tmp 29), (1, Operand.tmp 33)], type := 29, pos := "grammar.go:62", after := #[{ on := 4, ground := Ground.data }, { on := 8, ground := Ground.data }], guard := none }) rfl (fun K hK => ?_) AllReadyH.nil
        go_simp
        refine hK.out _ _ ?_ (fun hH' => ?_)
        · exact ⟨fun o => (World.cell?_of_block (heap_alloc_old WB _ hH.2)).trans (hH.1 o), Nat.lt_of_lt_of_le hH.2 (by simp)⟩
        clear hK K hH
        have hH := hH'
        clear hH'
        try simp only [Act.put, List.setIfInBounds_toArray, List.set_cons_zero, List.set_cons_succ]
        refine wpAnyH_ready (rs := [10]) (by kernel_rfl) (by simp) ?_
        refine AllReadyH.cons (o := { dst := some 35, op := Op.call { callee := Callee.value (Operand.func 57), args := #[Operand.const (Value.int IntKind.i64 4), Operand.tmp 26, Operand.tmp 34], argTypes := #[3, 31, 29] }, type := 61, pos := "grammar.go:62", after := #[{ on := 1, ground := Ground.data }, { on := 9, ground := Ground.data }, { on := 6, ground := Ground.chain }], guard := none }) rfl (fun K hK => ?_) AllReadyH.nil
        go_simp
        refine (tree_any 4 P (some ⟨WB.heap.size, 0, none⟩) 2 2 _).mono ?_
        rintro e0 WC ⟨b4, rfl, hle4, hb4, k4⟩
        have hg4 := (k4.block WB.heap.size (by simp)).trans (heap_alloc_new WB (.cells (xc2 e J.1 oV cV oK cK o cap oV' cV' oK' cK' o' cap') 33))
        have r4 : Rd WC R Z J.2 := (HB.out.1.below ((Below.refl _ _).alloc (Nat.le_refl _) (.cells (xc2 e J.1 oV cV oK cK o cap oV' cV' oK' cK' o' cap') 33))).below k4
        have f4 : Fm R WB WC := ((Fm.rf R WB).al _).tr (Fm.of k4)
        have F3 := Lib.hid f4
        have hs3 : WB.heap.size < b4 := Nat.lt_of_lt_of_le (by simp) hle4
        clear c0 c1 c2 c3 c4 c5 c6 c7 c8 c9 c10 c11 c12 c13 c14
        have HC := Lib.hid (And.intro hg4 (And.intro hs3 (And.intro hb4 r4)))
        clear hg4 f4 hs3 hb4 k4 hle4 r4
        refine hK.out _ _ ?_ (fun hH' => ?_)
        · exact ⟨fun o => (World.cell?_of_block (w := WB) (F3.out.block be hhB.out (fun e => HNE.out (Option.some.inj e)))).trans (hHB.out o), Nat.lt_of_lt_of_le hhB.out F3.out.size⟩
        clear hK K hH
        have hH := hH'
        clear hH'
        try simp only [Act.put, List.setIfInBounds_toArray, List.set_cons_zero, List.set_cons_succ]
        refine wpAnyH_take (i := 11) (oi := { dst := some 3, op := Op.assign (Operand.tmp 35), type := 61, pos := "grammar.go:62", after := #[{ on := 10, ground := Ground.data }, { on := 10, ground := Ground.chain }, { on := 0, ground := Ground.phase }, { on := 1, ground := Ground.phase }, { on := 2, ground := Ground.phase }, { on := 3, ground := Ground.phase }, { on := 4, ground := Ground.phase }, { on := 5, ground := Ground.phase }, { on := 6, ground := Ground.phase }, { on := 7, ground := Ground.phase }, { on := 8, ground := Ground.phase }, { on := 9, ground := Ground.phase }, { on := 10, ground := Ground.phase }], guard := none }) (v := ?_) rfl (by kernel_rfl) (by kernel_rfl) (by kernel_rfl) (fun _ _ _ h => h) (Or.inl ⟨by rfl, ?_⟩) (by assumption) ?_
        rotate_left
        · (intro w hSw; (try dsimp only at hSw); go_simp; try with_reducible rfl)
        try simp only [Act.put, List.setIfInBounds_toArray, List.set_cons_zero, List.set_cons_succ]
        all_goals refine wpAnyH_done (by kernel_rfl) ?_ _
        all_goals refine NoPanic.normal ?_
        clear d0 d1 d2 d3 d4 d5 d6 d7 d8 d9 d10 d11 d12 d13 d14 hbl2 hH
        have HE2 : Hid (Xb w.heap.size WC R b4 (treeX 4 P [e, J.1])) := by
          have l3 := HB.out.1.lt
          have l0 := HB.out.2.1.size
          have l4 := HC.out.2.1
          exact xb_two (HB.out.2.2.1.fm F3.out) (HB.out.2.2.2.1.fm F3.out) HC.out.1 l0 (by omega) HC.out.2.2.1 (by omega) (by omega)
        have HFm := Lib.hid (HB.out.2.1.tr F3.out)
        have HWP := Lib.hid (wants_p HC.out.2.2.2.le 4 [93])
        go_wp2_with fail
        refine (wantsSign_any HC.out.2.2.2 [93]).mono ?_
        rintro e0 WD ⟨rfl, h5, f5⟩
        have H5 := Lib.hid (And.intro h5 (And.intro (HFm.out.tr f5) (HE2.out.fr f5)))
        clear h5 f5
        go_wp2_with fail
        go_roundw
        case rel => exact ⟨k, b4, treeX 4 P [e, J.1], Z.wants J.2 4 [93], rfl, HM3.out, by have := HF.out; have := HB.out.2.2.2.2; have := HWP.out; unfold Hid; have := H5.out.1.le; omega, H5.out.2.2, H5.out.1, H5.out.2.1, Nat.le_trans HSP.out (Nat.le_trans (Nat.le_succ _) (Nat.le_trans HB.out.2.2.2.2 HWP.out))⟩
        case measure =>
          have e1 := pAt_eq H5.out.1
          have e2 := pAt_eq HR.out
          have := H5.out.1.le
          have := HB.out.2.2.2.2
          have := HWP.out
          rw [e1, e2]; omega
end Go.Proofs.YtncjncacfagldaaDoor

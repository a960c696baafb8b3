/- ExprSame: the law's walk. -/
import Derived.Test.YtncjncacfagldaaDoorXF
import Derived.Test.YtncjncacfagldaaDoorXB
namespace Go.Proofs.YtncjncacfagldaaDoor
open Go.RowKit Go.Lib

theorem run_loadVar_at {P : Program} (w : World) (g o : Nat) (ty t : TypeId) (cs : Array Value) (d : TypeDesc) (part : Array Value) (hg : w.heap[g]? = some (.cells cs t (0, 0)))
    (hp : ∀ j, j < part.size → cs[o + j]? = part[j]?)
    (hu : P.underlying ty = some d) (hd : (match d with | .struct _ | .array _ _ => true | _ => false) = true) (hi : (P.info? ty).map (·.size) = some part.size) :
    (loadVar ty ⟨g, o, none⟩).run P w = .ok (.agg part) w := by
  have hl : (loadCells ⟨g, o, none⟩ part.toList.length).run P w = .ok part.toList.toArray w :=
    run_loadCells_list (P := P) w ⟨g, o, none⟩ part.toList (fun j v hv => by
      have hadd : (⟨g, o, none⟩ : Addr).add j = ⟨g, o + j, none⟩ := by unfold Addr.add; split <;> simp_all
      have hlt : j < part.size := by
        have := List.getElem?_eq_some_iff.1 hv
        obtain ⟨h, _⟩ := this
        simpa using h
      rw [hadd, cell_of_row w g (o + j) cs t (0, 0) hg, hp j hlt]
      simpa using hv)
  cases hq : P.info? ty with
  | none => simp [hq] at hi
  | some i =>
    have hs : i.size = part.size := by simpa [hq] using hi
    have hagg : (isAgg ty).run P w = .ok true w := by
      unfold isAgg
      rw [Sem.run_bind, run_underlying hu w]
      cases d <;> simp_all
    simp only [Array.length_toList, Array.toArray_toList] at hl
    simp [loadVar, Sem.run_bind, hagg, sizeOf, typeInfo, hq, hs, hl]
theorem info33s {c : Array Value} (h : c.size = 15) : (Tryd.prog.info? 33).map (·.size) = some c.size := by rw [h]; kernel_rfl
/-- a load of a whole tree -/
theorem exec_load33 {a : Act} {o : Oper} {x : Operand} {g : Nat} {c : Array Value} {W : World} {T : Value} (ho : o.op = .load 33 x) (hx : a.eval x = .pointer (some ⟨g, 0, none⟩)) (h : W.heap[g]? = some (.cells c 33 (0, 0))) (hc : c.size = 15) (hT : Value.agg c = T) :
    (execOp a.eval o).run Tryd.prog W = .ok (.value T) W := by
  unfold execOp
  simp only [ho, hx, Instr.loadAt, Instr.sureAddr, Sem.run_bind, Sem.run_pure, Result.andThen_ok]
  rw [run_loadVar_at (P := Tryd.prog) W g 0 33 33 c _ c h (fun j _ => by rw [Nat.zero_add]) Tryd.underlying33 rfl (info33s hc), ← hT]
  rfl
theorem held_next {N : Nat} {W0 W1 W2 : World} (b : Below W1.heap.size W1 W2) (h : (∀ b o, b < N → W1.cell? ⟨b, o, none⟩ = W0.cell? ⟨b, o, none⟩) ∧ Hid (Below N W0 W1) ∧ Hid (N ≤ W1.heap.size)) :
    (∀ b o, b < N → W2.cell? ⟨b, o, none⟩ = W0.cell? ⟨b, o, none⟩) ∧ Hid (Below N W0 W2) ∧ Hid (N ≤ W2.heap.size) := by
  have hB : Below N W0 W2 := h.2.1.out.trans (b.mono h.2.2.out)
  exact ⟨fun b o hb => hB.cell (p := ⟨b, o, none⟩) hb, hB, Nat.le_trans h.2.2.out b.size⟩
theorem held_at {N : Nat} {W0 : World} (h : N = W0.heap.size) : (∀ b o, b < N → W0.drew.cell? ⟨b, o, none⟩ = W0.cell? ⟨b, o, none⟩) ∧ Hid (Below N W0 W0.drew) ∧ Hid (N ≤ W0.drew.heap.size) :=
  ⟨fun _ _ _ => rfl, (Below.refl _ _).drew, Nat.le_of_eq h⟩
theorem sameV_self (V : Val) : sameV true V V = true := by
  induction V using val_ind with
  | h V ih =>
    have ho : ownB V.k V.i V.s V.tk V.to V.ks V.k V.i V.s V.tk V.to V.ks = true := own_yes rfl rfl rfl rfl rfl rfl
    have hl : eqL (sameV true) V.l V.l = true := eqL_yes rfl fun j X Y h1 h2 => by
      rw [h1] at h2; injection h2 with h2; subst h2
      exact ih X (List.mem_of_getElem? h1)
    rw [sameV_eq, ho, hl]; simp
theorem sameX_self (X : Ex) : sameX false X X = true := by
  induction X using ex_ind with
  | h X ih =>
    have hl : eqX (sameX false) X.l X.l = true := eqX_yes rfl fun j A B h1 h2 => by
      rw [h1] at h2; injection h2 with h2; subst h2
      exact ih A (List.mem_of_getElem? h1)
    rw [sx_yes rfl rfl rfl (sameV_self X.v), hl]
set_option maxHeartbeats 8000000 in
set_option maxRecDepth 100000 in
theorem lsame_any {n : Nat} {A B : Ex} {a b : Value} {w : World} (s : ByteArray) (ha : XL n w A a) (hb : XL n w B b) (hn : n ≤ w.heap.size) (hT : Tab w) (hV : Lev w) (h2 : 2 ≤ w.heap.size) :
    Calls Tryd.prog 5 #[a, b, .string s] w fun e w' => e = .returned (.bool true) ∧ Below w.heap.size w w' := by
  obtain ⟨oV, cV, oK, cK, o, cap, rfl, -⟩ := xp_at ha
  obtain ⟨oV', cV', oK', cK', o', cap', rfl, -⟩ := xp_at hb
  have B0 : Below w.heap.size w ((w.alloc (.cells (xc A oV cV oK cK o cap) 33)).alloc (.cells (xc B oV' cV' oK' cK' o' cap') 33)) := ((Below.refl w.heap.size w).alloc (Nat.le_refl _) _).alloc (by simp) _
  have HB := Lib.hid B0
  have HK := Lib.hid (lie15 w (xc A oV cV oK cK o cap) (xc B oV' cV' oK' cK' o' cap'))
  have LO : Hid (∀ W, Below w.heap.size w W → XL n W A (.agg (xc A oV cV oK cK o cap)) ∧ XL n W B (.agg (xc B oV' cV' oK' cK' o' cap')) ∧ n ≤ W.heap.size) := fun W hW => ⟨ha.bl (fun k hk => hk) (hW.mono hn), hb.bl (fun k hk => hk) (hW.mono hn), by have := hW.size; omega⟩
  have AW : Hid (∀ W, Below w.heap.size w W → Calls Tryd.prog 8 #[] W fun e w' => e = .returned (.bool true) ∧ Below W.heap.size W w') := fun W hW => awake_any (hT.at (hW.block 0 (by omega))) (hV.at (hW.block 1 (by omega))) (by have := hW.size; omega)
  clear ha hb hT hV
  go_enter Tryd.func5, Tryd.ntmps5
  go_upto_region 1 with fail
  generalize (w.alloc _).alloc _ = w0 at *
  obtain ⟨⟨c0, c1, c2, c3, c4, c5, c6, c7, c8, c9, c10, c11, c12, c13, c14⟩, -, hb1⟩ := rc15 HK.out.1
  obtain ⟨⟨d0, d1, d2, d3, d4, d5, d6, d7, d8, d9, d10, d11, d12, d13, d14⟩, -, hb2⟩ := rc15 HK.out.2
  go_wp2_with fail
  refine (greatX_any (LO.out w0 HB.out).1 (LO.out w0 HB.out).2.2).mono ?_
  rintro e w1 ⟨g, rfl, hg, k1⟩
  have HB1 := Lib.hid (HB.out.trans (k1.mono HB.out.size))
  have HK1 := Lib.hid (And.intro ((k1.block _ hb1).trans HK.out.1) ((k1.block _ hb2).trans HK.out.2))
  have HG := Lib.hid hg
  clear c0 c1 c2 c3 c4 c5 c6 c7 c8 c9 c10 c11 c12 c13 c14 hb1 d0 d1 d2 d3 d4 d5 d6 d7 d8 d9 d10 d11 d12 d13 d14 hb2 k1 HB HK hg
  obtain ⟨⟨c0, c1, c2, c3, c4, c5, c6, c7, c8, c9, c10, c11, c12, c13, c14⟩, -, hb1⟩ := rc15 HK1.out.1
  obtain ⟨⟨d0, d1, d2, d3, d4, d5, d6, d7, d8, d9, d10, d11, d12, d13, d14⟩, -, hb2⟩ := rc15 HK1.out.2
  cases g with
  | true =>
    go_wp2_with fail
    refine (AW.out w1 HB1.out).mono ?_
    rintro e w2 ⟨rfl, k2⟩
    have HB2 := Lib.hid (HB1.out.trans (k2.mono HB1.out.size))
    clear k2
    go_wp2_with fail
    go_ret
    exact ⟨rfl, HB2.out⟩
  | false =>
    go_wp2_with fail
    refine (greatX_any (LO.out w1 HB1.out).2.1 (LO.out w1 HB1.out).2.2).mono ?_
    rintro e w2 ⟨g2, rfl, hg2, k2⟩
    have HB2 := Lib.hid (HB1.out.trans (k2.mono HB1.out.size))
    have HK2 := Lib.hid (And.intro ((k2.block _ hb1).trans HK1.out.1) ((k2.block _ hb2).trans HK1.out.2))
    clear c0 c1 c2 c3 c4 c5 c6 c7 c8 c9 c10 c11 c12 c13 c14 hb1 d0 d1 d2 d3 d4 d5 d6 d7 d8 d9 d10 d11 d12 d13 d14 hb2 k2 HB1 HK1 hg2
    cases g2 with
    | true =>
      go_wp2_with fail
      refine (AW.out w2 HB2.out).mono ?_
      rintro e w3 ⟨rfl, k3⟩
      have HB3 := Lib.hid (HB2.out.trans (k3.mono HB2.out.size))
      clear k3
      go_wp2_with fail
      go_ret
      exact ⟨rfl, HB3.out⟩
    | false =>
      by_cases hs : 100 < s.size
      · have es : decide ((100 : Int) < (s.size : Int)) = true := decide_eq_true (by omega)
        go_wp2_with fail
        refine (AW.out w2 HB2.out).mono ?_
        rintro e w3 ⟨rfl, k3⟩
        have HB3 := Lib.hid (HB2.out.trans (k3.mono HB2.out.size))
        clear k3
        go_wp2_with fail
        go_ret
        exact ⟨rfl, HB3.out⟩
      · have es : decide ((100 : Int) < (s.size : Int)) = false := decide_eq_false (by omega)
        go_upto_region 3 with fail
        have hb1 := (Array.getElem?_eq_some_iff.1 HK2.out.1).1
        have hb2 := (Array.getElem?_eq_some_iff.1 HK2.out.2).1
        obtain ⟨N, hN⟩ : ∃ N, N = w2.heap.size := ⟨_, rfl⟩
        have S0 := held_at hN
        have lA : w.heap.size < N := by rw [hN]; exact hb1
        have lB : w.heap.size + 1 < N := by rw [hN]; exact hb2
        have HN := Lib.hid hN
        have LW : Hid (∀ W, Below N w2 W → Below w.heap.size w W) := fun W hW => HB2.out.trans (hW.mono (by rw [HN.out]; exact HB2.out.size))
        have HDP : Hid (xdp A ≤ 9000000000000000000) := by have := HG.out trivial; have := xdp_le_sz A; unfold Hid; omega
        obtain ⟨Q, hQ⟩ : ∃ Q, sameX false A B = Q := ⟨_, rfl⟩
        obtain ⟨D, hD⟩ : ∃ D, xdp A = D := ⟨_, rfl⟩
        obtain ⟨V, hV⟩ : ∃ V, reserved (lb s) = V := ⟨_, rfl⟩
        have C1 : Hid (∀ W, Below N w2 W → Calls Tryd.prog 12 #[.agg (xc A oV cV oK cK o cap), .agg (xc B oV' cV' oK' cK' o' cap')] W fun e w' => e = .returned (.bool Q) ∧ Below W.heap.size W w') := fun W hW => by
          have := same12_any _ n A B _ _ W (Nat.le_refl _) (LO.out W (LW.out W hW)).1 (LO.out W (LW.out W hW)).2.1 (LO.out W (LW.out W hW)).2.2
          rw [hQ] at this; exact this
        have C2 : Hid (∀ W, Below N w2 W → Calls Tryd.prog 10 #[.agg (xc A oV cV oK cK o cap), .agg (xc B oV' cV' oK' cK' o' cap'), .bool false] W fun e w' => e = .returned (.bool Q) ∧ Below W.heap.size W w') := fun W hW => by
          have := same10_any _ n A B _ _ W (Nat.le_refl _) (LO.out W (LW.out W hW)).1 (LO.out W (LW.out W hW)).2.1 (LO.out W (LW.out W hW)).2.2
          rw [hQ] at this; exact this
        have C3 : Hid (∀ W, Below N w2 W → Calls Tryd.prog 12 #[.agg (xc A oV cV oK cK o cap), .agg (xc A oV cV oK cK o cap)] W fun e w' => e = .returned (.bool true) ∧ Below W.heap.size W w') := fun W hW => by
          have := same12_any _ n A A _ _ W (Nat.le_refl _) (LO.out W (LW.out W hW)).1 (LO.out W (LW.out W hW)).1 (LO.out W (LW.out W hW)).2.2
          rw [sameX_self] at this; exact this
        have C4 : Hid (∀ W, Below N w2 W → Calls Tryd.prog 13 #[.agg (xc A oV cV oK cK o cap)] W fun e w' => e = .returned (.int .i64 (D : Int)) ∧ Below W.heap.size W w') := fun W hW => by
          have := depth_any A _ W (LO.out W (LW.out W hW)).1 (fun k hk => Nat.lt_of_lt_of_le hk (LO.out W (LW.out W hW)).2.2) HDP.out
          rw [hD] at this; exact this
        have C5 : Hid (∀ W, Below N w2 W → Calls Tryd.prog 14 #[.agg (xc A oV cV oK cK o cap)] W fun e w' => e = .returned (.int .i64 (D : Int)) ∧ Below W.heap.size W w') := fun W hW => by
          have := rdepth_any A n _ W (LO.out W (LW.out W hW)).1 (LO.out W (LW.out W hW)).2.2 HDP.out
          rw [hD] at this; exact this
        have C6 : Hid (∀ W, Below N w2 W → Calls Tryd.prog 15 #[.string s] W fun e w' => e = .returned (.bool V) ∧ Below W.heap.size W w') := fun W hW => by
          have := res_any (lb s) W
          rw [tx_lb, hV] at this
          refine this.mono ?_
          rintro e w' ⟨rfl, rfl⟩
          exact ⟨rfl, Below.refl _ _⟩
        have C7 : Hid (∀ W, Below N w2 W → Calls Tryd.prog 16 #[.string s] W fun e w' => e = .returned (.bool V) ∧ Below W.heap.size W w') := fun W hW => by
          have := rres_any (lb s) W
          rw [tx_lb, hV] at this
          refine this.mono ?_
          rintro e w' ⟨rfl, rfl⟩
          exact ⟨rfl, Below.refl _ _⟩
        have C8 : Hid (∀ W, Below N w2 W → Calls Tryd.prog 8 #[] W fun e w' => e = .returned (.bool true) ∧ Below W.heap.size W w') := fun W hW => AW.out W (LW.out W hW)
        clear hN hQ hD hV
        generalize hTA : Value.agg (xc A oV cV oK cK o cap) = TA at *
        generalize hTB : Value.agg (xc B oV' cV' oK' cK' o' cap') = TB at *
        have HTA := Lib.hid hTA
        have HTB := Lib.hid hTB
        clear hTA hTB
        refine wp_region_noPanic ?_
        refine wp_region_held_drew (S := (fun W => (∀ b o, b < N → W.cell? ⟨b, o, none⟩ = w2.cell? ⟨b, o, none⟩) ∧ Hid (Below N w2 W) ∧ Hid (N ≤ W.heap.size))) (by kernel_rfl) ?_ (fun hH => ?_)
        · exact S0
        refine wpAnyH_take (i := 0) (oi := { dst := some 19, op := Op.load 33 (Operand.tmp 3), type := 33, pos := "law.go:81", after := #[], guard := none }) (v := TA) rfl (by kernel_rfl) (by kernel_rfl) (by kernel_rfl) (fun _ _ _ h => h) (Or.inl ⟨by rfl, ?_⟩) (by assumption) ?_
        · (intro W hSw; exact exec_load33 rfl rfl ((hSw.2.1.out.block _ lA).trans HK2.out.1) rfl HTA.out)
        try simp only [Act.put, List.setIfInBounds_toArray, List.set_cons_zero, List.set_cons_succ]
        refine wpAnyH_take (i := 1) (oi := { dst := some 20, op := Op.load 33 (Operand.tmp 4), type := 33, pos := "law.go:81", after := #[], guard := none }) (v := TB) rfl (by kernel_rfl) (by kernel_rfl) (by kernel_rfl) (fun _ _ _ h => h) (Or.inl ⟨by rfl, ?_⟩) (by assumption) ?_
        · (intro W hSw; exact exec_load33 rfl rfl ((hSw.2.1.out.block _ lB).trans HK2.out.2) rfl HTB.out)
        try simp only [Act.put, List.setIfInBounds_toArray, List.set_cons_zero, List.set_cons_succ]
        refine wpAnyH_take (i := 3) (oi := { dst := some 22, op := Op.load 33 (Operand.tmp 3), type := 33, pos := "law.go:81", after := #[], guard := none }) (v := TA) rfl (by kernel_rfl) (by kernel_rfl) (by kernel_rfl) (fun _ _ _ h => h) (Or.inl ⟨by rfl, ?_⟩) (by assumption) ?_
        · (intro W hSw; exact exec_load33 rfl rfl ((hSw.2.1.out.block _ lA).trans HK2.out.1) rfl HTA.out)
        try simp only [Act.put, List.setIfInBounds_toArray, List.set_cons_zero, List.set_cons_succ]
        refine wpAnyH_take (i := 4) (oi := { dst := some 23, op := Op.load 33 (Operand.tmp 4), type := 33, pos := "law.go:81", after := #[], guard := none }) (v := TB) rfl (by kernel_rfl) (by kernel_rfl) (by kernel_rfl) (fun _ _ _ h => h) (Or.inl ⟨by rfl, ?_⟩) (by assumption) ?_
        · (intro W hSw; exact exec_load33 rfl rfl ((hSw.2.1.out.block _ lB).trans HK2.out.2) rfl HTB.out)
        try simp only [Act.put, List.setIfInBounds_toArray, List.set_cons_zero, List.set_cons_succ]
        refine wpAnyH_ready (rs := [2]) (by kernel_rfl) (by simp) ?_
        refine AllReadyH.cons (o := { dst := some 21, op := Op.call { callee := Callee.value (Operand.func 12), args := #[Operand.tmp 19, Operand.tmp 20], argTypes := #[33, 33] }, type := 4, pos := "law.go:81", after := #[{ on := 0, ground := Ground.data }, { on := 1, ground := Ground.data }], guard := none }) rfl (fun K hK => ?_) AllReadyH.nil
        go_simp
        refine (C1.out _ hH.2.1.out).mono ?_
        rintro e W_0 ⟨rfl, b⟩
        refine hK.out _ _ ?_ (fun hH' => ?_)
        · exact held_next (by assumption) hH
        clear hK K hH
        have hH := hH'
        clear hH'
        try simp only [Act.put, List.setIfInBounds_toArray, List.set_cons_zero, List.set_cons_succ]
        refine wpAnyH_ready (rs := [5]) (by kernel_rfl) (by simp) ?_
        refine AllReadyH.cons (o := { dst := some 24, op := Op.call { callee := Callee.value (Operand.func 10), args := #[Operand.tmp 22, Operand.tmp 23, Operand.const (Value.bool false)], argTypes := #[33, 33, 4] }, type := 4, pos := "law.go:81", after := #[{ on := 3, ground := Ground.data }, { on := 4, ground := Ground.data }, { on := 2, ground := Ground.chain }], guard := none }) rfl (fun K hK => ?_) AllReadyH.nil
        go_simp
        refine (C2.out _ hH.2.1.out).mono ?_
        rintro e W_1 ⟨rfl, b⟩
        refine hK.out _ _ ?_ (fun hH' => ?_)
        · exact held_next (by assumption) hH
        clear hK K hH
        have hH := hH'
        clear hH'
        try simp only [Act.put, List.setIfInBounds_toArray, List.set_cons_zero, List.set_cons_succ]
        refine wpAnyH_take (i := 6) (oi := { dst := some 25, op := Op.binOp BinOp.eql 4 (Operand.tmp 21) (Operand.tmp 24) 4, type := 4, pos := "law.go:81", after := #[{ on := 2, ground := Ground.data }, { on := 5, ground := Ground.data }], guard := none }) (v := ?_) rfl (by kernel_rfl) (by kernel_rfl) (by kernel_rfl) (fun _ _ _ h => h) (Or.inl ⟨by rfl, ?_⟩) (by assumption) ?_
        rotate_left
        · (intro w hSw; (try dsimp only at hSw); go_simp; try with_reducible rfl)
        try simp only [Act.put, List.setIfInBounds_toArray, List.set_cons_zero, List.set_cons_succ]
        refine wpAnyH_take (i := 7) (oi := { dst := some 26, op := Op.move (Operand.tmp 25), type := 4, pos := "law.go:81", after := #[{ on := 6, ground := Ground.data }, { on := 5, ground := Ground.chain }], guard := none }) (v := ?_) rfl (by kernel_rfl) (by kernel_rfl) (by kernel_rfl) (fun _ _ _ h => h) (Or.inl ⟨by rfl, ?_⟩) (by assumption) ?_
        rotate_left
        · (intro w hSw; (try dsimp only at hSw); go_simp; try with_reducible rfl)
        try simp only [Act.put, List.setIfInBounds_toArray, List.set_cons_zero, List.set_cons_succ]
        refine wpAnyH_take (i := 8) (oi := { dst := some 27, op := Op.load 33 (Operand.tmp 3), type := 33, pos := "law.go:81", after := #[{ on := 7, ground := Ground.guard }], guard := some (7, true) }) (v := TA) rfl (by kernel_rfl) (by kernel_rfl) (by kernel_rfl) (fun _ _ _ h => h) (Or.inl ⟨by rfl, ?_⟩) (by assumption) ?_
        · (intro W hSw; exact exec_load33 rfl rfl ((hSw.2.1.out.block _ lA).trans HK2.out.1) rfl HTA.out)
        try simp only [Act.put, List.setIfInBounds_toArray, List.set_cons_zero, List.set_cons_succ]
        refine wpAnyH_take (i := 9) (oi := { dst := some 28, op := Op.load 33 (Operand.tmp 3), type := 33, pos := "law.go:81", after := #[{ on := 7, ground := Ground.guard }], guard := some (7, true) }) (v := TA) rfl (by kernel_rfl) (by kernel_rfl) (by kernel_rfl) (fun _ _ _ h => h) (Or.inl ⟨by rfl, ?_⟩) (by assumption) ?_
        · (intro W hSw; exact exec_load33 rfl rfl ((hSw.2.1.out.block _ lA).trans HK2.out.1) rfl HTA.out)
        try simp only [Act.put, List.setIfInBounds_toArray, List.set_cons_zero, List.set_cons_succ]
        refine wpAnyH_ready (rs := [10]) (by kernel_rfl) (by simp) ?_
        refine AllReadyH.cons (o := { dst := some 29, op := Op.call { callee := Callee.value (Operand.func 12), args := #[Operand.tmp 27, Operand.tmp 28], argTypes := #[33, 33] }, type := 4, pos := "law.go:81", after := #[{ on := 8, ground := Ground.data }, { on := 9, ground := Ground.data }, { on := 7, ground := Ground.chain }, { on := 7, ground := Ground.guard }], guard := some (7, true) }) rfl (fun K hK => ?_) AllReadyH.nil
        go_simp
        refine (C3.out _ hH.2.1.out).mono ?_
        rintro e W_2 ⟨rfl, b⟩
        refine hK.out _ _ ?_ (fun hH' => ?_)
        · exact held_next (by assumption) hH
        clear hK K hH
        have hH := hH'
        clear hH'
        try simp only [Act.put, List.setIfInBounds_toArray, List.set_cons_zero, List.set_cons_succ]
        refine wpAnyH_take (i := 11) (oi := { dst := some 30, op := Op.pick (Operand.tmp 26) (Operand.tmp 29) (Operand.const (Value.bool false)), type := 4, pos := "law.go:81", after := #[{ on := 7, ground := Ground.data }, { on := 10, ground := Ground.data }], guard := none }) (v := ?_) rfl (by kernel_rfl) (by kernel_rfl) (by kernel_rfl) (fun _ _ _ h => h) (Or.inl ⟨by rfl, ?_⟩) (by assumption) ?_
        rotate_left
        · (intro w hSw; (try dsimp only at hSw); go_simp; try with_reducible rfl)
        try simp only [Act.put, List.setIfInBounds_toArray, List.set_cons_zero, List.set_cons_succ]
        refine wpAnyH_take (i := 12) (oi := { dst := some 31, op := Op.move (Operand.tmp 30), type := 4, pos := "law.go:81", after := #[{ on := 11, ground := Ground.data }, { on := 10, ground := Ground.chain }], guard := none }) (v := ?_) rfl (by kernel_rfl) (by kernel_rfl) (by kernel_rfl) (fun _ _ _ h => h) (Or.inl ⟨by rfl, ?_⟩) (by assumption) ?_
        rotate_left
        · (intro w hSw; (try dsimp only at hSw); go_simp; try with_reducible rfl)
        try simp only [Act.put, List.setIfInBounds_toArray, List.set_cons_zero, List.set_cons_succ]
        refine wpAnyH_take (i := 13) (oi := { dst := some 32, op := Op.load 33 (Operand.tmp 3), type := 33, pos := "law.go:81", after := #[{ on := 12, ground := Ground.guard }], guard := some (12, true) }) (v := TA) rfl (by kernel_rfl) (by kernel_rfl) (by kernel_rfl) (fun _ _ _ h => h) (Or.inl ⟨by rfl, ?_⟩) (by assumption) ?_
        · (intro W hSw; exact exec_load33 rfl rfl ((hSw.2.1.out.block _ lA).trans HK2.out.1) rfl HTA.out)
        try simp only [Act.put, List.setIfInBounds_toArray, List.set_cons_zero, List.set_cons_succ]
        refine wpAnyH_take (i := 15) (oi := { dst := some 34, op := Op.load 33 (Operand.tmp 3), type := 33, pos := "law.go:81", after := #[{ on := 12, ground := Ground.guard }], guard := some (12, true) }) (v := TA) rfl (by kernel_rfl) (by kernel_rfl) (by kernel_rfl) (fun _ _ _ h => h) (Or.inl ⟨by rfl, ?_⟩) (by assumption) ?_
        · (intro W hSw; exact exec_load33 rfl rfl ((hSw.2.1.out.block _ lA).trans HK2.out.1) rfl HTA.out)
        try simp only [Act.put, List.setIfInBounds_toArray, List.set_cons_zero, List.set_cons_succ]
        refine wpAnyH_ready (rs := [14]) (by kernel_rfl) (by simp) ?_
        refine AllReadyH.cons (o := { dst := some 33, op := Op.call { callee := Callee.value (Operand.func 13), args := #[Operand.tmp 32], argTypes := #[33] }, type := 3, pos := "law.go:81", after := #[{ on := 13, ground := Ground.data }, { on := 12, ground := Ground.chain }, { on := 12, ground := Ground.guard }], guard := some (12, true) }) rfl (fun K hK => ?_) AllReadyH.nil
        go_simp
        refine (C4.out _ hH.2.1.out).mono ?_
        rintro e W_3 ⟨rfl, b⟩
        refine hK.out _ _ ?_ (fun hH' => ?_)
        · exact held_next (by assumption) hH
        clear hK K hH
        have hH := hH'
        clear hH'
        try simp only [Act.put, List.setIfInBounds_toArray, List.set_cons_zero, List.set_cons_succ]
        refine wpAnyH_ready (rs := [16]) (by kernel_rfl) (by simp) ?_
        refine AllReadyH.cons (o := { dst := some 35, op := Op.call { callee := Callee.value (Operand.func 14), args := #[Operand.tmp 34], argTypes := #[33] }, type := 3, pos := "law.go:81", after := #[{ on := 15, ground := Ground.data }, { on := 14, ground := Ground.chain }, { on := 12, ground := Ground.guard }], guard := some (12, true) }) rfl (fun K hK => ?_) AllReadyH.nil
        go_simp
        refine (C5.out _ hH.2.1.out).mono ?_
        rintro e W_4 ⟨rfl, b⟩
        refine hK.out _ _ ?_ (fun hH' => ?_)
        · exact held_next (by assumption) hH
        clear hK K hH
        have hH := hH'
        clear hH'
        try simp only [Act.put, List.setIfInBounds_toArray, List.set_cons_zero, List.set_cons_succ]
        refine wpAnyH_take (i := 17) (oi := { dst := some 36, op := Op.binOp BinOp.eql 3 (Operand.tmp 33) (Operand.tmp 35) 3, type := 4, pos := "law.go:81", after := #[{ on := 14, ground := Ground.data }, { on := 16, ground := Ground.data }, { on := 12, ground := Ground.guard }], guard := some (12, true) }) (v := ?_) rfl (by kernel_rfl) (by kernel_rfl) (by kernel_rfl) (fun _ _ _ h => h) (Or.inl ⟨by rfl, ?_⟩) (by assumption) ?_
        rotate_left
        · (intro w hSw; (try dsimp only at hSw); go_simp; try with_reducible rfl)
        try simp only [Act.put, List.setIfInBounds_toArray, List.set_cons_zero, List.set_cons_succ]
        refine wpAnyH_take (i := 18) (oi := { dst := some 37, op := Op.pick (Operand.tmp 31) (Operand.tmp 36) (Operand.const (Value.bool false)), type := 4, pos := "law.go:81", after := #[{ on := 12, ground := Ground.data }, { on := 17, ground := Ground.data }], guard := none }) (v := ?_) rfl (by kernel_rfl) (by kernel_rfl) (by kernel_rfl) (fun _ _ _ h => h) (Or.inl ⟨by rfl, ?_⟩) (by assumption) ?_
        rotate_left
        · (intro w hSw; (try dsimp only at hSw); go_simp; try with_reducible rfl)
        try simp only [Act.put, List.setIfInBounds_toArray, List.set_cons_zero, List.set_cons_succ]
        refine wpAnyH_take (i := 19) (oi := { dst := some 38, op := Op.move (Operand.tmp 37), type := 4, pos := "law.go:81", after := #[{ on := 18, ground := Ground.data }, { on := 16, ground := Ground.chain }], guard := none }) (v := ?_) rfl (by kernel_rfl) (by kernel_rfl) (by kernel_rfl) (fun _ _ _ h => h) (Or.inl ⟨by rfl, ?_⟩) (by assumption) ?_
        rotate_left
        · (intro w hSw; (try dsimp only at hSw); go_simp; try with_reducible rfl)
        try simp only [Act.put, List.setIfInBounds_toArray, List.set_cons_zero, List.set_cons_succ]
        refine wpAnyH_take (i := 20) (oi := { dst := some 39, op := Op.move (Operand.tmp 2), type := 9, pos := "law.go:81", after := #[{ on := 19, ground := Ground.guard }], guard := some (19, true) }) (v := ?_) rfl (by kernel_rfl) (by kernel_rfl) (by kernel_rfl) (fun _ _ _ h => h) (Or.inl ⟨by rfl, ?_⟩) (by assumption) ?_
        rotate_left
        · (intro w hSw; (try dsimp only at hSw); go_simp; try with_reducible rfl)
        try simp only [Act.put, List.setIfInBounds_toArray, List.set_cons_zero, List.set_cons_succ]
        refine wpAnyH_take (i := 22) (oi := { dst := some 41, op := Op.move (Operand.tmp 2), type := 9, pos := "law.go:81", after := #[{ on := 19, ground := Ground.guard }], guard := some (19, true) }) (v := ?_) rfl (by kernel_rfl) (by kernel_rfl) (by kernel_rfl) (fun _ _ _ h => h) (Or.inl ⟨by rfl, ?_⟩) (by assumption) ?_
        rotate_left
        · (intro w hSw; (try dsimp only at hSw); go_simp; try with_reducible rfl)
        try simp only [Act.put, List.setIfInBounds_toArray, List.set_cons_zero, List.set_cons_succ]
        refine wpAnyH_ready (rs := [21]) (by kernel_rfl) (by simp) ?_
        refine AllReadyH.cons (o := { dst := some 40, op := Op.call { callee := Callee.value (Operand.func 15), args := #[Operand.tmp 39], argTypes := #[9] }, type := 4, pos := "law.go:81", after := #[{ on := 20, ground := Ground.data }, { on := 19, ground := Ground.chain }, { on := 19, ground := Ground.guard }], guard := some (19, true) }) rfl (fun K hK => ?_) AllReadyH.nil
        go_simp
        refine (C6.out _ hH.2.1.out).mono ?_
        rintro e W_5 ⟨rfl, b⟩
        refine hK.out _ _ ?_ (fun hH' => ?_)
        · exact held_next (by assumption) hH
        clear hK K hH
        have hH := hH'
        clear hH'
        try simp only [Act.put, List.setIfInBounds_toArray, List.set_cons_zero, List.set_cons_succ]
        refine wpAnyH_ready (rs := [23]) (by kernel_rfl) (by simp) ?_
        refine AllReadyH.cons (o := { dst := some 42, op := Op.call { callee := Callee.value (Operand.func 16), args := #[Operand.tmp 41], argTypes := #[9] }, type := 4, pos := "law.go:81", after := #[{ on := 22, ground := Ground.data }, { on := 21, ground := Ground.chain }, { on := 19, ground := Ground.guard }], guard := some (19, true) }) rfl (fun K hK => ?_) AllReadyH.nil
        go_simp
        refine (C7.out _ hH.2.1.out).mono ?_
        rintro e W_6 ⟨rfl, b⟩
        refine hK.out _ _ ?_ (fun hH' => ?_)
        · exact held_next (by assumption) hH
        clear hK K hH
        have hH := hH'
        clear hH'
        try simp only [Act.put, List.setIfInBounds_toArray, List.set_cons_zero, List.set_cons_succ]
        refine wpAnyH_take (i := 24) (oi := { dst := some 43, op := Op.binOp BinOp.eql 4 (Operand.tmp 40) (Operand.tmp 42) 4, type := 4, pos := "law.go:81", after := #[{ on := 21, ground := Ground.data }, { on := 23, ground := Ground.data }, { on := 19, ground := Ground.guard }], guard := some (19, true) }) (v := ?_) rfl (by kernel_rfl) (by kernel_rfl) (by kernel_rfl) (fun _ _ _ h => h) (Or.inl ⟨by rfl, ?_⟩) (by assumption) ?_
        rotate_left
        · (intro w hSw; (try dsimp only at hSw); go_simp; try with_reducible rfl)
        try simp only [Act.put, List.setIfInBounds_toArray, List.set_cons_zero, List.set_cons_succ]
        refine wpAnyH_take (i := 25) (oi := { dst := some 44, op := Op.pick (Operand.tmp 38) (Operand.tmp 43) (Operand.const (Value.bool false)), type := 4, pos := "law.go:81", after := #[{ on := 19, ground := Ground.data }, { on := 24, ground := Ground.data }], guard := none }) (v := ?_) rfl (by kernel_rfl) (by kernel_rfl) (by kernel_rfl) (fun _ _ _ h => h) (Or.inl ⟨by rfl, ?_⟩) (by assumption) ?_
        rotate_left
        · (intro w hSw; (try dsimp only at hSw); go_simp; try with_reducible rfl)
        try simp only [Act.put, List.setIfInBounds_toArray, List.set_cons_zero, List.set_cons_succ]
        refine wpAnyH_take (i := 26) (oi := { dst := some 45, op := Op.move (Operand.tmp 44), type := 4, pos := "law.go:81", after := #[{ on := 25, ground := Ground.data }, { on := 23, ground := Ground.chain }], guard := none }) (v := ?_) rfl (by kernel_rfl) (by kernel_rfl) (by kernel_rfl) (fun _ _ _ h => h) (Or.inl ⟨by rfl, ?_⟩) (by assumption) ?_
        rotate_left
        · (intro w hSw; (try dsimp only at hSw); go_simp; try with_reducible rfl)
        try simp only [Act.put, List.setIfInBounds_toArray, List.set_cons_zero, List.set_cons_succ]
        refine wpAnyH_ready (rs := [27]) (by kernel_rfl) (by simp) ?_
        refine AllReadyH.cons (o := { dst := some 46, op := Op.call { callee := Callee.value (Operand.func 8), args := #[], argTypes := #[] }, type := 4, pos := "law.go:81", after := #[{ on := 26, ground := Ground.chain }, { on := 26, ground := Ground.guard }], guard := some (26, true) }) rfl (fun K hK => ?_) AllReadyH.nil
        go_simp
        refine (C8.out _ hH.2.1.out).mono ?_
        rintro e W_7 ⟨rfl, b⟩
        refine hK.out _ _ ?_ (fun hH' => ?_)
        · exact held_next (by assumption) hH
        clear hK K hH
        have hH := hH'
        clear hH'
        try simp only [Act.put, List.setIfInBounds_toArray, List.set_cons_zero, List.set_cons_succ]
        refine wpAnyH_take (i := 28) (oi := { dst := some 47, op := Op.pick (Operand.tmp 45) (Operand.tmp 46) (Operand.const (Value.bool false)), type := 4, pos := "law.go:81", after := #[{ on := 26, ground := Ground.data }, { on := 27, ground := Ground.data }], guard := none }) (v := ?_) rfl (by kernel_rfl) (by kernel_rfl) (by kernel_rfl) (fun _ _ _ h => h) (Or.inl ⟨by rfl, ?_⟩) (by assumption) ?_
        rotate_left
        · (intro w hSw; (try dsimp only at hSw); go_simp; try with_reducible rfl)
        try simp only [Act.put, List.setIfInBounds_toArray, List.set_cons_zero, List.set_cons_succ]
        refine wpAnyH_take (i := 29) (oi := { dst := some 6, op := Op.assign (Operand.tmp 47), type := 4, pos := "law.go:81", after := #[{ on := 28, ground := Ground.data }, { on := 27, ground := Ground.chain }, { on := 0, ground := Ground.phase }, { on := 1, ground := Ground.phase }, { on := 2, ground := Ground.phase }, { on := 3, ground := Ground.phase }, { on := 4, ground := Ground.phase }, { on := 5, ground := Ground.phase }, { on := 6, ground := Ground.phase }, { on := 7, ground := Ground.phase }, { on := 8, ground := Ground.phase }, { on := 9, ground := Ground.phase }, { on := 10, ground := Ground.phase }, { on := 11, ground := Ground.phase }, { on := 12, ground := Ground.phase }, { on := 13, ground := Ground.phase }, { on := 14, ground := Ground.phase }, { on := 15, ground := Ground.phase }, { on := 16, ground := Ground.phase }, { on := 17, ground := Ground.phase }, { on := 18, ground := Ground.phase }, { on := 19, ground := Ground.phase }, { on := 20, ground := Ground.phase }, { on := 21, ground := Ground.phase }, { on := 22, ground := Ground.phase }, { on := 23, ground := Ground.phase }, { on := 24, ground := Ground.phase }, { on := 25, ground := Ground.phase }, { on := 26, ground := Ground.phase }, { on := 27, ground := Ground.phase }, { on := 28, ground := Ground.phase }], guard := none }) (v := ?_) rfl (by kernel_rfl) (by kernel_rfl) (by kernel_rfl) (fun _ _ _ h => h) (Or.inl ⟨by rfl, ?_⟩) (by assumption) ?_
        rotate_left
        · (intro w hSw; (try dsimp only at hSw); go_simp; try with_reducible rfl)
        try simp only [Act.put, List.setIfInBounds_toArray, List.set_cons_zero, List.set_cons_succ]
        refine wpAnyH_done (by kernel_rfl) ?_ _
        refine NoPanic.normal ?_
        have BZ := Lib.hid (LW.out _ hH.2.1.out)
        clear S0 hH hb1 hb2
        go_wp2_with fail
        go_ret
        exact ⟨rfl, BZ.out⟩
end Go.Proofs.YtncjncacfagldaaDoor

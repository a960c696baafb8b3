/- The reference's Computed: its walk. -/
import Derived.Test.YtfmgbhaldakpfaaDoorCh
namespace Go.Proofs.YtfmgbhaldakpfaaDoor
open Go.RowKit

theorem info42b : (Tryd.prog.info? 42).map (fun i => (i.zero, i.size, i.bytes)) = some (some (.agg #[.int .i64 0, .int .i64 0, .string ⟨#[]⟩, .slice none 0 0, .slice none 0 0, .int .i64 0, .int .i64 0, .bool false]), 8, 104) := info42
theorem one8 (X : Val) (oL oK : Option Addr) (a b cL cK : Nat) : ∀ u ∈ ([.int .i64 X.k, .int .i64 X.i, .string X.s, .slice oL a cL, .slice oK b cK, .int .i64 X.tk, .int .i64 X.to, .bool X.x] : List Value), u.oneCell' = true := fun u hu => by
  simp only [List.mem_cons, List.not_mem_nil, or_false] at hu
  rcases hu with rfl | rfl | rfl | rfl | rfl | rfl | rfl | rfl <;> rfl
theorem cpF_yes {t : ByteArray} {A B : Val} {j : Nat} (h : cpQ A B (attrs t) j = true) : cpF A B (attrs t) j = elt B (kk A.ks j) := by rw [cpF_eq, if_pos h]
theorem cpF_no {t : ByteArray} {A B X : Val} {j : Nat} (h : cpQ A B (attrs t) j = false) (hX : A.l[j]? = some X) : cpF A B (attrs t) j = X := by
  rw [cpF_eq, h]
  unfold vl
  rw [List.getD_eq_getElem?_getD, hX]; rfl
set_option maxHeartbeats 16000000 in
set_option maxRecDepth 100000 in
theorem rcomputed_any {n : Nat} {A B : Val} {va vb : Value} {w : World} (t : ByteArray) (hsA : sz A ≤ 50000) (hkA : A.k = 5 → A.ks.length = A.l.length) (hkB : B.k = 5 → B.ks.length = B.l.length) (hA : Lies n w A va) (hB : Lies n w B vb) (hn : n ≤ w.heap.size) :
    Calls Tryd.prog 25 #[.string t, va, vb] w (RcPost (cpV t A B) w) := by
  obtain ⟨oLa, oKa, cLa, cKa, ca, rfl, OA⟩ := hA.inv
  obtain ⟨oLb, oKb, cLb, cKb, cb, rfl, OB⟩ := hB.inv
  have b0 : Below w.heap.size w (((w.alloc (bx A oLa oKa cLa cKa)).alloc (bx B oLb oKb cLb cKb)).alloc (.cells zc 42)) := bal (bal (bal (Below.refl _ _) _) _) _
  have HB0 := Lib.hid b0
  have HS : Hid ((((w.alloc (bx A oLa oKa cLa cKa)).alloc (bx B oLb oKb cLb cKb)).alloc (.cells zc 42)).heap.size = w.heap.size + 3) := by simp [Hid]
  have QA : Hid ((((w.alloc (bx A oLa oKa cLa cKa)).alloc (bx B oLb oKb cLb cKb)).alloc (.cells zc 42)).heap[w.heap.size]? = some (.cells (c8 A (.slice oLa A.l.length cLa) (.slice oKa A.ks.length cKa)) 42 (0, 0))) := ((Wb.made w A (.slice oLa A.l.length cLa) (.slice oKa A.ks.length cKa)).alloc (bx B oLb oKb cLb cKb)).alloc (.cells zc 42)
  have QB : Hid ((((w.alloc (bx A oLa oKa cLa cKa)).alloc (bx B oLb oKb cLb cKb)).alloc (.cells zc 42)).heap[w.heap.size + 1]? = some (.cells (c8 B (.slice oLb B.l.length cLb) (.slice oKb B.ks.length cKb)) 42 (0, 0))) := by
    have := (Wb.made (w.alloc (bx A oLa oKa cLa cKa)) B (.slice oLb B.l.length cLb) (.slice oKb B.ks.length cKb)).alloc (.cells zc 42)
    rw [World.size_alloc] at this
    exact this
  have QZ : Hid ((((w.alloc (bx A oLa oKa cLa cKa)).alloc (bx B oLb oKb cLb cKb)).alloc (.cells zc 42)).heap[w.heap.size + 2]? = some (.cells zc 42 (0, 0))) := at_top _ _ _ (by simp)
  have HOA := Lib.hid (OA.kept (b0.mono hn))
  have LB := Lib.hid (OB.kept (b0.mono hn)).lies
  have F39 : Hid (∀ (W : World), Below w.heap.size (((w.alloc (bx A oLa oKa cLa cKa)).alloc (bx B oLb oKb cLb cKb)).alloc (.cells zc 42)) W → ∀ s, Calls Tryd.prog 39 #[vv B.k B.i B.s (.slice oLb B.l.length cLb) (.slice oKb B.ks.length cKb) B.tk B.to B.x, .string s] W fun e w' => (∃ r : Int, e = .returned (.int .i64 r) ∧ ((r = -1 ∧ eltE B s ≠ 0) ∨ ∃ (j : Nat) (X : Val), r = j ∧ B.l[j]? = some X ∧ elt B s = X.sx (X.x || B.x) ∧ eltE B s = 0)) ∧ Below W.heap.size W w') := fun W hW s => find39_any s hkB (LB.out.kept (hW.mono hn)) (by have := hW.size; simp at this; omega)
  have FROM : Hid (∀ (W : World) (j : Nat) (X : Val), B.l[j]? = some X → Below w.heap.size (((w.alloc (bx A oLa oKa cLa cKa)).alloc (bx B oLb oKb cLb cKb)).alloc (.cells zc 42)) W → Calls Tryd.prog 50 #[vv B.k B.i B.s (.slice oLb B.l.length cLb) (.slice oKb B.ks.length cKb) B.tk B.to B.x, .int .i64 j] W (FrPost n (X.sx (X.x || B.x)) W)) := fun W j X hX hW => from_any hX (LB.out.kept (hW.mono hn)) (by have := hW.size; simp at this; omega)
  have hsl := sz_l A
  have hll := szL_len A.l
  have HKA := Lib.hid hkA
  obtain ⟨i42, hi42, hzz⟩ := Option.map_eq_some_iff.1 info42b
  simp only [Prod.mk.injEq] at hzz
  obtain ⟨hz42, hs42, hb42⟩ := hzz
  have l1 := OA.L.1
  have l2 := OA.L.2.1
  have l3 := OA.K.1
  have l4 := OA.K.2.1
  unfold maxLen at l2 l4
  clear hA hB OA OB b0 hkB hkA
  go_enter Tryd.func25, Tryd.ntmps25
  go_upto_region 1 with (fail)
  generalize ((w.alloc _).alloc _).alloc _ = w0 at *
  have hw0a : w0.heap.size ≤ w.heap.size + 3 := Nat.le_of_eq HS.out
  have hw0b : w.heap.size + 3 ≤ w0.heap.size := Nat.le_of_eq HS.out.symm
  obtain ⟨x0, x1, x2, x3, x4, x5, x6, x7⟩ := cells8 QA.out
  by_cases h5 : A.k = 5
  · have hkl1 := Nat.le_of_eq (HKA.out h5)
    have hkl2 := Nat.le_of_eq (HKA.out h5).symm
    have H5 := Lib.hid h5
    obtain ⟨g1, g2⟩ := int_eq h5
    clear h5
    have HA0 : Hid (RvRel n (cpF A B (attrs t)) w0 0 (.slice none 0 0) w0) := ⟨[], fun _ _ => undef, ⟨World.ownsRow_nil _ _ _ _, rfl, fun i hi => absurd hi (Nat.not_lt_zero _), fun i hi => absurd hi (Nat.not_lt_zero _)⟩, Below.refl _ _⟩
    go_wp2_with fail
    clear x0 x1 x2 x3 x4 x5 x6 x7 g1 g2
    go_loopw [7, 8] (fun x i wr => ∃ (j : Nat) (v : Value), j ≤ A.l.length ∧ i = .int .i64 j ∧ x = v ∧ Hid (RvRel n (cpF A B (attrs t)) w0 j v wr)) (fun _ i _ => A.l.length - (intOf i).toNat)
    case atStart => exact ⟨0, _, Nat.zero_le _, rfl, rfl, HA0⟩
    case round =>
      obtain ⟨j, v, hj, rfl, hv, HRel⟩ := hrel
      obtain rfl := hv.symm
      obtain ⟨cs, c, hO8, hBr⟩ := HRel.out
      have HO8 := Lib.hid hO8
      have HBR := Lib.hid hBr
      have hzr := hBr.size
      clear hO8 hBr HRel
      have QAr : Hid (wr.heap[w.heap.size]? = some (.cells (c8 A (.slice oLa A.l.length cLa) (.slice oKa A.ks.length cKa)) 42 (0, 0))) := (HBR.out.block _ (by omega)).trans QA.out
      obtain ⟨x0, x1, x2, x3, x4, x5, x6, x7⟩ := cells8 QAr.out
      by_cases hlt : j < A.l.length
      · have hlk : j < A.ks.length := by omega
        have hlt' : (j : Int) < (A.l.length : Int) := by omega
        have hlk' : (j : Int) < (A.ks.length : Int) := by omega
        obtain ⟨X, hX⟩ : ∃ X, A.l[j]? = some X := ⟨_, List.getElem?_eq_getElem hlt⟩
        have hOr := HOA.out.kept (HBR.out.mono (by omega))
        obtain ⟨b1, off1, oL3, oK3, cL3, cK3, c3, rfl, hb1, ⟨y0, y1, y2, y3, y4, y5, y6, y7⟩, OX⟩ := hOr.L.elv hlt (hOr.el j X hX)
        obtain ⟨b2, off2, rfl, hb2, k0⟩ := hOr.K.key hlk
        have HXL := Lib.hid OX.lies
        have HCN : Hid (cpQ A B (attrs t) j = false → cpF A B (attrs t) j = X) := fun h => cpF_no h hX
        have HCY : Hid (cpQ A B (attrs t) j = true → cpF A B (attrs t) j = elt B (kk A.ks j)) := fun h => cpF_yes h
        have HCQ := Lib.hid (cpQ_find t A B hlk)
        clear hOr OX hX
        have BW := Lib.hid (bal (Below.refl wr.heap.size wr) (bx X oL3 oK3 cL3 cK3))
        have QT : Hid ((wr.alloc (bx X oL3 oK3 cL3 cK3)).heap[wr.heap.size]? = some (.cells (c8 X (.slice oL3 X.l.length cL3) (.slice oK3 X.ks.length cK3)) 42 (0, 0))) := heap_alloc_new _ _
        have HZ3 : Hid ((wr.alloc (bx X oL3 oK3 cL3 cK3)).heap.size = wr.heap.size + 1) := by simp [Hid]
        go_upto_region 8 with (fail)
        clear x0 x1 x2 x3 x4 x5 x6 x7 y0 y1 y2 y3 y4 y5 y6 y7
        generalize World.alloc wr _ = wa at *
        have hza : wa.heap.size = wr.heap.size + 1 := HZ3.out
        obtain ⟨x0, x1, x2, x3, x4, x5, x6, x7⟩ := cells8 ((BW.out.block _ (by omega)).trans QAr.out)
        have k1 := (BW.out.cell (p := ⟨b2, off2 + j, none⟩) (by show b2 < wr.heap.size; omega)).trans k0
        obtain ⟨key, hkey⟩ : ∃ key, kk A.ks j = key := ⟨_, rfl⟩
        rw [hkey] at k0 k1 HCY HCQ
        have HFD := Lib.hid (rfind2_any t key wa)
        have F39k := Lib.hid (fun W hW => F39.out W hW key)
        clear hkey
        go_wp2_with fail
        refine HFD.out.mono ?_
        rintro e wb ⟨a, fb, rfl, bb, hfd⟩
        obtain ⟨nm, tk, t2, nd, cm, an, ow⟩ := a
        have hzb := bb.size
        have HFM := Lib.hid hfd
        clear x0 x1 x2 x3 x4 x5 x6 x7 hfd
        have BB := Lib.hid (BW.out.trans (bb.mono (by omega)))
        have BC := Lib.hid (bal BB.out (.cells (ac ⟨nm, tk, t2, nd, cm, an, ow⟩) 31))
        have HAc : Hid ((wb.alloc (.cells (ac ⟨nm, tk, t2, nd, cm, an, ow⟩) 31)).heap[wb.heap.size]? = some (.cells (ac ⟨nm, tk, t2, nd, cm, an, ow⟩) 31 (0, 0))) := heap_alloc_new _ _
        have HZc : Hid ((wb.alloc (.cells (ac ⟨nm, tk, t2, nd, cm, an, ow⟩) 31)).heap.size = wb.heap.size + 1) := by simp [Hid]
        have QTc : Hid ((wb.alloc (.cells (ac ⟨nm, tk, t2, nd, cm, an, ow⟩) 31)).heap[wr.heap.size]? = some (.cells (c8 X (.slice oL3 X.l.length cL3) (.slice oK3 X.ks.length cK3)) 42 (0, 0))) := (Below.heap_alloc wb _ _ (by omega)).trans ((bb.block _ (by omega)).trans QT.out)
        clear bb
        go_upto_region 9 with (fail)
        generalize World.alloc wb _ = wc at *
        have hzc : wc.heap.size = wb.heap.size + 1 := HZc.out
        obtain ⟨x0, x1, x2, x3, x4, x5, x6, x7⟩ := cells8 ((BC.out.block _ (by omega)).trans QAr.out)
        obtain ⟨z0, z1, z2, z3, z4, z5, z6, z7⟩ := cells8 ((BC.out.block _ (by omega)).trans ((HBR.out.block _ (by omega)).trans QB.out))
        have k2 := (BC.out.cell (p := ⟨b2, off2 + j, none⟩) (by show b2 < wr.heap.size; omega)).trans k0
        obtain ⟨N, hN⟩ : ∃ N, N = wc.heap.size := ⟨_, rfl⟩
        have S0 := held_at hN
        have lA : w.heap.size < N := by rw [hN]; omega
        have lB : w.heap.size + 1 < N := by rw [hN]; omega
        have lC : b2 < N := by rw [hN]; omega
        have HN := Lib.hid hN
        have LW : Hid (∀ W, Below N wc W → Below w.heap.size w0 W) := fun W hW => (HBR.out.mono (by omega)).trans ((BC.out.mono (by omega)).trans (hW.mono (Nat.le_of_lt lA)))
        have F39b : Hid (∀ (W : World), Below w.heap.size w0 W → Calls Tryd.prog 39 #[vv B.k B.i B.s (.slice oLb B.l.length cLb) (.slice oKb B.ks.length cKb) B.tk B.to B.x, .string key] W fun e w' => (∃ r : Int, e = .returned (.int .i64 r) ∧ ((r = -1 ∧ eltE B key ≠ 0) ∨ ∃ (j : Nat) (X : Val), r = j ∧ B.l[j]? = some X ∧ elt B key = X.sx (X.x || B.x) ∧ eltE B key = 0)) ∧ Below W.heap.size W w') := fun W hW => F39.out W hW key
        clear hN k0 k1 F39k
        refine wp_region_noPanic ?_
        refine wp_region_held_drew (S := (fun W => (∀ b o, b < N → W.cell? ⟨b, o, none⟩ = wc.cell? ⟨b, o, none⟩) ∧ Hid (Below N wc W) ∧ Hid (N ≤ W.heap.size))) (by kernel_rfl) ?_ (fun hH => ?_)
        · exact S0
        refine wpAnyH_take (i := 0) (oi := { dst := some 39, op := Op.load 42 (Operand.tmp 5), type := 42, pos := "ref.go:176", after := #[], guard := none }) (v := ?_) rfl (by kernel_rfl) (by kernel_rfl) (by kernel_rfl) (fun _ _ _ h => h) (Or.inl ⟨by rfl, ?_⟩) (by assumption) ?_
        rotate_left
        · (intro w hSw; (try dsimp only at hSw); go_simp; try with_reducible rfl)
        try simp only [Act.put, List.setIfInBounds_toArray, List.set_cons_zero, List.set_cons_succ]
        refine wpAnyH_take (i := 1) (oi := { dst := some 40, op := Op.fieldAddr 42 (Operand.tmp 4) 4, type := 0, pos := "ref.go:176", after := #[], guard := none }) (v := ?_) rfl (by kernel_rfl) (by kernel_rfl) (by kernel_rfl) (fun _ _ _ h => h) (Or.inl ⟨by rfl, ?_⟩) (by assumption) ?_
        rotate_left
        · (intro w hSw; (try dsimp only at hSw); go_simp; try with_reducible rfl)
        try simp only [Act.put, List.setIfInBounds_toArray, List.set_cons_zero, List.set_cons_succ]
        refine wpAnyH_take (i := 2) (oi := { dst := some 41, op := Op.load 36 (Operand.tmp 40), type := 36, pos := "ref.go:176", after := #[{ on := 1, ground := Ground.data }], guard := none }) (v := ?_) rfl (by kernel_rfl) (by kernel_rfl) (by kernel_rfl) (fun _ _ _ h => h) (Or.inl ⟨by rfl, ?_⟩) (by assumption) ?_
        rotate_left
        · (intro w hSw; (try dsimp only at hSw); go_simp; try with_reducible rfl)
        try simp only [Act.put, List.setIfInBounds_toArray, List.set_cons_zero, List.set_cons_succ]
        refine wpAnyH_take (i := 3) (oi := { dst := some 42, op := Op.move (Operand.tmp 8), type := 3, pos := "ref.go:176", after := #[], guard := none }) (v := ?_) rfl (by kernel_rfl) (by kernel_rfl) (by kernel_rfl) (fun _ _ _ h => h) (Or.inl ⟨by rfl, ?_⟩) (by assumption) ?_
        rotate_left
        · (intro w hSw; (try dsimp only at hSw); go_simp; try with_reducible rfl)
        try simp only [Act.put, List.setIfInBounds_toArray, List.set_cons_zero, List.set_cons_succ]
        refine wpAnyH_take (i := 4) (oi := { dst := some 43, op := Op.indexAddr 36 (Operand.tmp 41) (Operand.tmp 42), type := 0, pos := "ref.go:176", after := #[{ on := 2, ground := Ground.data }, { on := 3, ground := Ground.data }], guard := none }) (v := ?_) rfl (by kernel_rfl) (by kernel_rfl) (by kernel_rfl) (fun _ _ _ h => h) (Or.inl ⟨by rfl, ?_⟩) (by assumption) ?_
        rotate_left
        · (intro w hSw; (try dsimp only at hSw); go_simp; try with_reducible rfl)
        try simp only [Act.put, List.setIfInBounds_toArray, List.set_cons_zero, List.set_cons_succ]
        refine wpAnyH_take (i := 5) (oi := { dst := some 44, op := Op.load 9 (Operand.tmp 43), type := 9, pos := "ref.go:176", after := #[{ on := 4, ground := Ground.data }], guard := none }) (v := ?_) rfl (by kernel_rfl) (by kernel_rfl) (by kernel_rfl) (fun _ _ _ h => h) (Or.inl ⟨by rfl, ?_⟩) (by assumption) ?_
        rotate_left
        · (intro w hSw; (try dsimp only at hSw); go_simp; try with_reducible rfl)
        try simp only [Act.put, List.setIfInBounds_toArray, List.set_cons_zero, List.set_cons_succ]
        refine wpAnyH_ready (rs := [6]) (by kernel_rfl) (by simp) ?_
        refine AllReadyH.cons (o := { dst := some 45, op := Op.call { callee := Callee.value (Operand.func 39), args := #[Operand.tmp 39, Operand.tmp 44], argTypes := #[42, 9] }, type := 3, pos := "ref.go:176", after := #[{ on := 0, ground := Ground.data }, { on := 5, ground := Ground.data }], guard := none }) rfl (fun K hK => ?_) AllReadyH.nil
        go_simp
        refine (F39b.out _ (LW.out _ hH.2.1.out)).mono ?_
        rintro e W_0 ⟨⟨r, rfl, hr⟩, b⟩
        refine hK.out _ _ ?_ (fun hH' => ?_)
        · exact held_next (by assumption) hH
        clear hK K hH
        have hH := hH'
        clear hH'
        try simp only [Act.put, List.setIfInBounds_toArray, List.set_cons_zero, List.set_cons_succ]
        refine wpAnyH_take (i := 7) (oi := { dst := some 12, op := Op.assign (Operand.tmp 45), type := 3, pos := "ref.go:176", after := #[{ on := 6, ground := Ground.data }, { on := 6, ground := Ground.chain }, { on := 0, ground := Ground.phase }, { on := 1, ground := Ground.phase }, { on := 2, ground := Ground.phase }, { on := 3, ground := Ground.phase }, { on := 4, ground := Ground.phase }, { on := 5, ground := Ground.phase }, { on := 6, ground := Ground.phase }], guard := none }) (v := ?_) rfl (by kernel_rfl) (by kernel_rfl) (by kernel_rfl) (fun _ _ _ h => h) (Or.inl ⟨by rfl, ?_⟩) (by assumption) ?_
        rotate_left
        · (intro w hSw; (try dsimp only at hSw); go_simp; try with_reducible rfl)
        try simp only [Act.put, List.setIfInBounds_toArray, List.set_cons_zero, List.set_cons_succ]
        refine wpAnyH_done (by kernel_rfl) ?_ _
        refine NoPanic.normal ?_
        have BY := Lib.hid (BC.out.trans (hH.2.1.out.mono (by rw [HN.out]; omega)) : Below wr.heap.size wr W_0)
        obtain ⟨a0, a1, a2, a3, a4, a5, a6, a7⟩ := rc7 HAc.out
        have r3 := (hH.1 wb.heap.size 4 (by rw [HN.out]; omega)).trans a4
        have s1 := (hH.1 (w.heap.size + 1) 0 lB).trans z0
        have QTW : Hid (W_0.heap[wr.heap.size]? = some (.cells (c8 X (.slice oL3 X.l.length cL3) (.slice oK3 X.ks.length cK3)) 42 (0, 0))) := (hH.2.1.out.block _ (by rw [HN.out]; omega)).trans QTc.out
        have QBW : Hid (W_0.heap[w.heap.size + 1]? = some (.cells (c8 B (.slice oLb B.l.length cLb) (.slice oKb B.ks.length cKb)) 42 (0, 0))) := (BY.out.block _ (by omega)).trans ((HBR.out.block _ (by omega)).trans QB.out)
        have LWW := Lib.hid (LW.out _ hH.2.1.out)
        clear S0 hH s1 a0 a1 a2 a3 a4 a5 a6 a7 x0 x1 x2 x3 x4 x5 x6 x7 z0 z1 z2 z3 z4 z5 z6 z7 k2 b
        have HQ : Hid (cpQ A B (attrs t) j = (fb && cm && decide (eltE B key = 0))) := by
          have h1 := HCQ.out
          have h2 := HFM.out
          unfold Hid
          rw [h1]
          cases hf : find t key with
          | none => rw [hf] at h2; simp only at h2; rw [h2]; rfl
          | some b => rw [hf] at h2; simp only at h2; obtain ⟨h3, h4⟩ := h2; subst h4; rw [h3]; rfl
        obtain ⟨q0, q1, q2, q3, q4, q5, q6, q7⟩ := cells8 QTW.out
        have hzw : wr.heap.size + 1 ≤ W_0.heap.size := by have := (Array.getElem?_eq_some_iff.1 QTW.out).1; omega
        cases fb with
        | false =>
          clear hr
          have HF := Lib.hid (HCN.out (by rw [HQ.out]; rfl))
          have hown : Hid ((W_0.alloc (.cells (c8 X (.slice oL3 X.l.length cL3) (.slice oK3 X.ks.length cK3)) 42)).ownsRow w0.heap.size 42 8 v j cs) := (own_below HO8.out.1 BY.out (Nat.le_refl _)).alloc (.cells (c8 X (.slice oL3 X.l.length cL3) (.slice oK3 X.ks.length cK3)) 42)
          have hbz := BY.out.size
          have LX : Hid (Lies n (W_0.alloc (.cells (c8 X (.slice oL3 X.l.length cL3) (.slice oK3 X.ks.length cK3)) 42)) X (.agg #[.int .i64 X.k, .int .i64 X.i, .string X.s, .slice oL3 X.l.length cL3, .slice oK3 X.ks.length cK3, .int .i64 X.tk, .int .i64 X.to, .bool X.x])) := HXL.out.kept ((bal BY.out _).mono (by omega))
          go_wp2_with (at_builtin; go_must (refine wpList_append_lies _ rfl (.tmp 58) (.tmp 60) 40 rfl w0.heap.size 42 i42 _ 8 104 Tryd.underlying40 hi42 hz42 hs42 hb42 rfl (by omega) v j cs rfl hown.out ⟨W_0.heap.size, 0, none⟩ 1 1 [.int .i64 X.k, .int .i64 X.i, .string X.s, .slice oL3 X.l.length cL3, .slice oK3 X.ks.length cK3, .int .i64 X.tk, .int .i64 X.to, .bool X.x] rfl rfl (World.news_of_block (heap_alloc_new _ _)) (one8 _ _ _ _ _ _ _) (by omega) (by unfold maxLen; omega) (by omega) (by simp; omega) (W_0.heap.size + 1) (by simp) ?_))
          intro g2 cap2 w5 hown2 hgrow hat hlt2
          have HE2 := Lib.hid (And.intro hown2 hgrow)
          clear hown2 hgrow hat
          go_wp2_with fail
          go_roundw
          case rel =>
            exact ⟨j + 1, _, by omega, by go_num, rfl, HO8.out.step HBR.out (by omega) (bal BY.out (.cells (c8 X (.slice oL3 X.l.length cL3) (.slice oK3 X.ks.length cK3)) 42)) HE2.out.1 HE2.out.2 (by rw [HF.out]; exact LX.out)⟩
          case measure => simp [intOf]; omega
        | true =>
          cases cm with
          | false =>
            clear hr
            have HF := Lib.hid (HCN.out (by rw [HQ.out]; rfl))
            have hown : Hid ((W_0.alloc (.cells (c8 X (.slice oL3 X.l.length cL3) (.slice oK3 X.ks.length cK3)) 42)).ownsRow w0.heap.size 42 8 v j cs) := (own_below HO8.out.1 BY.out (Nat.le_refl _)).alloc (.cells (c8 X (.slice oL3 X.l.length cL3) (.slice oK3 X.ks.length cK3)) 42)
            have hbz := BY.out.size
            have LX : Hid (Lies n (W_0.alloc (.cells (c8 X (.slice oL3 X.l.length cL3) (.slice oK3 X.ks.length cK3)) 42)) X (.agg #[.int .i64 X.k, .int .i64 X.i, .string X.s, .slice oL3 X.l.length cL3, .slice oK3 X.ks.length cK3, .int .i64 X.tk, .int .i64 X.to, .bool X.x])) := HXL.out.kept ((bal BY.out _).mono (by omega))
            go_wp2_with (at_builtin; go_must (refine wpList_append_lies _ rfl (.tmp 58) (.tmp 60) 40 rfl w0.heap.size 42 i42 _ 8 104 Tryd.underlying40 hi42 hz42 hs42 hb42 rfl (by omega) v j cs rfl hown.out ⟨W_0.heap.size, 0, none⟩ 1 1 [.int .i64 X.k, .int .i64 X.i, .string X.s, .slice oL3 X.l.length cL3, .slice oK3 X.ks.length cK3, .int .i64 X.tk, .int .i64 X.to, .bool X.x] rfl rfl (World.news_of_block (heap_alloc_new _ _)) (one8 _ _ _ _ _ _ _) (by omega) (by unfold maxLen; omega) (by omega) (by simp; omega) (W_0.heap.size + 1) (by simp) ?_))
            intro g2 cap2 w5 hown2 hgrow hat hlt2
            have HE2 := Lib.hid (And.intro hown2 hgrow)
            clear hown2 hgrow hat
            go_wp2_with fail
            go_roundw
            case rel =>
              exact ⟨j + 1, _, by omega, by go_num, rfl, HO8.out.step HBR.out (by omega) (bal BY.out (.cells (c8 X (.slice oL3 X.l.length cL3) (.slice oK3 X.ks.length cK3)) 42)) HE2.out.1 HE2.out.2 (by rw [HF.out]; exact LX.out)⟩
            case measure => simp [intOf]; omega
          | true =>
            rcases hr with ⟨rfl, hne⟩ | ⟨jj, X', rfl, hXB, hel, heq⟩
            · have HF := Lib.hid (HCN.out (by rw [HQ.out, decide_eq_false hne]; rfl))
              clear hne
              have hown : Hid ((W_0.alloc (.cells (c8 X (.slice oL3 X.l.length cL3) (.slice oK3 X.ks.length cK3)) 42)).ownsRow w0.heap.size 42 8 v j cs) := (own_below HO8.out.1 BY.out (Nat.le_refl _)).alloc (.cells (c8 X (.slice oL3 X.l.length cL3) (.slice oK3 X.ks.length cK3)) 42)
              have hbz := BY.out.size
              have LX : Hid (Lies n (W_0.alloc (.cells (c8 X (.slice oL3 X.l.length cL3) (.slice oK3 X.ks.length cK3)) 42)) X (.agg #[.int .i64 X.k, .int .i64 X.i, .string X.s, .slice oL3 X.l.length cL3, .slice oK3 X.ks.length cK3, .int .i64 X.tk, .int .i64 X.to, .bool X.x])) := HXL.out.kept ((bal BY.out _).mono (by omega))
              go_wp2_with (at_builtin; go_must (refine wpList_append_lies _ rfl (.tmp 58) (.tmp 60) 40 rfl w0.heap.size 42 i42 _ 8 104 Tryd.underlying40 hi42 hz42 hs42 hb42 rfl (by omega) v j cs rfl hown.out ⟨W_0.heap.size, 0, none⟩ 1 1 [.int .i64 X.k, .int .i64 X.i, .string X.s, .slice oL3 X.l.length cL3, .slice oK3 X.ks.length cK3, .int .i64 X.tk, .int .i64 X.to, .bool X.x] rfl rfl (World.news_of_block (heap_alloc_new _ _)) (one8 _ _ _ _ _ _ _) (by omega) (by unfold maxLen; omega) (by omega) (by simp; omega) (W_0.heap.size + 1) (by simp) ?_))
              intro g2 cap2 w5 hown2 hgrow hat hlt2
              have HE2 := Lib.hid (And.intro hown2 hgrow)
              clear hown2 hgrow hat
              go_wp2_with fail
              go_roundw
              case rel =>
                exact ⟨j + 1, _, by omega, by go_num, rfl, HO8.out.step HBR.out (by omega) (bal BY.out (.cells (c8 X (.slice oL3 X.l.length cL3) (.slice oK3 X.ks.length cK3)) 42)) HE2.out.1 HE2.out.2 (by rw [HF.out]; exact LX.out)⟩
              case measure => simp [intOf]; omega
            · have HF0 := HCY.out (by rw [HQ.out, decide_eq_true heq]; rfl)
              rw [hel] at HF0
              have hjj : (0 : Int) ≤ (jj : Int) := by omega
              have HFR := Lib.hid (FROM.out W_0 jj X' hXB LWW.out)
              generalize X'.sx (X'.x || B.x) = Y at *
              have HF := Lib.hid HF0
              clear HF0 hel heq hXB
              obtain ⟨z0, z1, z2, z3, z4, z5, z6, z7⟩ := cells8 QBW.out
              go_wp2_with fail
              refine HFR.out.mono ?_
              rintro e W_1 ⟨p1, p3, d1, d3, dd, rfl, OY, bY⟩
              clear q0 q1 q2 q3 q4 q5 q6 q7 z0 z1 z2 z3 z4 z5 z6 z7
              have hz1 := bY.size
              have QT1 : Hid (W_1.heap[wr.heap.size]? = some (.cells (c8 X (.slice oL3 X.l.length cL3) (.slice oK3 X.ks.length cK3)) 42 (0, 0))) := (bY.block _ (by omega)).trans QTW.out
              have R1 := Lib.hid (store_box' QT1.out (c8 Y (.slice p1 Y.l.length d1) (.slice p3 Y.ks.length d3)) rfl)
              have BY1 := Lib.hid (below_setRow (BY.out.trans (bY.mono (by omega))) (Nat.le_refl _) (over (c8 X (.slice oL3 X.l.length cL3) (.slice oK3 X.ks.length cK3)) (c8 Y (.slice p1 Y.l.length d1) (.slice p3 Y.ks.length d3))) : Below wr.heap.size wr (W_1.setRow wr.heap.size (over (c8 X (.slice oL3 X.l.length cL3) (.slice oK3 X.ks.length cK3)) (c8 Y (.slice p1 Y.l.length d1) (.slice p3 Y.ks.length d3)))))
              have OY1 : Hid (Lies n (W_1.setRow wr.heap.size (over (c8 X (.slice oL3 X.l.length cL3) (.slice oK3 X.ks.length cK3)) (c8 Y (.slice p1 Y.l.length d1) (.slice p3 Y.ks.length d3)))) Y (vv Y.k Y.i Y.s (.slice p1 Y.l.length d1) (.slice p3 Y.ks.length d3) Y.tk Y.to Y.x)) := OY.lies.keptP fun q hq => ⟨hq, setRow_other _ _ _ _ (by omega)⟩
              have HZ5 : Hid ((W_1.setRow wr.heap.size (over (c8 X (.slice oL3 X.l.length cL3) (.slice oK3 X.ks.length cK3)) (c8 Y (.slice p1 Y.l.length d1) (.slice p3 Y.ks.length d3)))).heap.size = W_1.heap.size) := size_setRow _ _ _
              clear OY bY
              obtain ⟨z0, z1, z2, z3, z4, z5, z6, z7⟩ := cells8 R1.out
              go_upto_region 12 with ((with_reducible refine wpList_store_at rfl 42 (.tmp 9) (.tmp 57) rfl wr.heap.size 0 rfl _ rfl 42 (c8 X (.slice oL3 X.l.length cL3) (.slice oK3 X.ks.length cK3)) QT1.out ?se1 ?se2 ?se3 ?se4); case' se4 => generalize World.setRow _ _ _ = W_2 at *)
              case se1 => simp
              case se2 => have := size42; simpa using this
              case se3 => simp [Value.oneCell']
              have hz5 := Nat.le_of_eq HZ5.out
              have hz6 := Nat.le_of_eq HZ5.out.symm
              clear BY
              have BY := BY1
              have hown : Hid ((W_2.alloc (.cells (c8 Y (.slice p1 Y.l.length d1) (.slice p3 Y.ks.length d3)) 42)).ownsRow w0.heap.size 42 8 v j cs) := (own_below HO8.out.1 BY.out (Nat.le_refl _)).alloc (.cells (c8 Y (.slice p1 Y.l.length d1) (.slice p3 Y.ks.length d3)) 42)
              have hbz := BY.out.size
              have LX : Hid (Lies n (W_2.alloc (.cells (c8 Y (.slice p1 Y.l.length d1) (.slice p3 Y.ks.length d3)) 42)) Y (.agg #[.int .i64 Y.k, .int .i64 Y.i, .string Y.s, .slice p1 Y.l.length d1, .slice p3 Y.ks.length d3, .int .i64 Y.tk, .int .i64 Y.to, .bool Y.x])) := OY1.out.kept ((bal (Below.refl W_2.heap.size W_2) _).mono (by omega))
              go_wp2_with (at_builtin; go_must (refine wpList_append_lies _ rfl (.tmp 58) (.tmp 60) 40 rfl w0.heap.size 42 i42 _ 8 104 Tryd.underlying40 hi42 hz42 hs42 hb42 rfl (by omega) v j cs rfl hown.out ⟨W_2.heap.size, 0, none⟩ 1 1 [.int .i64 Y.k, .int .i64 Y.i, .string Y.s, .slice p1 Y.l.length d1, .slice p3 Y.ks.length d3, .int .i64 Y.tk, .int .i64 Y.to, .bool Y.x] rfl rfl (World.news_of_block (heap_alloc_new _ _)) (one8 _ _ _ _ _ _ _) (by omega) (by unfold maxLen; omega) (by omega) (by simp; omega) (W_2.heap.size + 1) (by simp) ?_))
              intro g2 cap2 w5 hown2 hgrow hat hlt2
              have HE2 := Lib.hid (And.intro hown2 hgrow)
              clear hown2 hgrow hat
              go_wp2_with fail
              go_roundw
              case rel =>
                exact ⟨j + 1, _, by omega, by go_num, rfl, HO8.out.step HBR.out (by omega) (bal BY.out (.cells (c8 Y (.slice p1 Y.l.length d1) (.slice p3 Y.ks.length d3)) 42)) HE2.out.1 HE2.out.2 (by rw [HF.out]; exact LX.out)⟩
              case measure => simp [intOf]; omega
      · have hjl : j = A.l.length := by omega
        subst hjl
        obtain ⟨o, cap, rfl, hRow⟩ := HO8.out.row
        have W1 : Wb wr w.heap.size A (.slice oLa A.l.length cLa) (.slice oKa A.ks.length cKa) := QAr.out
        have W2 := Lib.hid (W1.set3 (.slice o A.l.length cap))
        have f3 := W1.free 3
        have B4 := Lib.hid ((HB0.out.trans (HBR.out.mono (by omega))).setCell (p := ⟨w.heap.size, 3, none⟩) (Nat.le_refl _) (.slice o A.l.length cap))
        have QZ4 : Hid ((wr.setCell ⟨w.heap.size, 3, none⟩ (.slice o A.l.length cap)).heap[w.heap.size + 2]? = some (.cells zc 42 (0, 0))) := (heap_setCell_other _ _ _ _ (by simp)).trans ((HBR.out.block _ (by omega)).trans QZ.out)
        have KP4 : Hid (∀ q, q ≠ w.heap.size → (wr.setCell ⟨w.heap.size, 3, none⟩ (.slice o A.l.length cap)).heap[q]? = wr.heap[q]?) := fun q hq => heap_setCell_other _ _ _ _ hq
        have Z4 : Hid ((wr.setCell ⟨w.heap.size, 3, none⟩ (.slice o A.l.length cap)).heap.size = wr.heap.size) := by unfold Hid; rw [World.size_setCell]
        have HRow := Lib.hid hRow
        clear W1 hRow
        go_upto_region 14 with (fail)
        generalize World.setCell _ _ _ = w4 at *
        have hz4 := Nat.le_of_eq Z4.out
        have hz4b := Nat.le_of_eq Z4.out.symm
        obtain ⟨u8, u0, u1, u2, u3, u4, u5, u6, u7⟩ := W2.out.hd
        clear x0 x1 x2 x3 x4 x5 x6 x7 f3
        have R9 := Lib.hid (store_box' QZ4.out (c8 A (.slice o A.l.length cap) (.slice oKa A.ks.length cKa)) rfl)
        have BZ := Lib.hid (below_setRow B4.out (by omega : w.heap.size ≤ w.heap.size + 2) (over zc (c8 A (.slice o A.l.length cap) (.slice oKa A.ks.length cKa))))
        have KP5 : Hid (∀ q, q ≠ w.heap.size → q ≠ w.heap.size + 2 → (w4.setRow (w.heap.size + 2) (over zc (c8 A (.slice o A.l.length cap) (.slice oKa A.ks.length cKa)))).heap[q]? = wr.heap[q]?) := fun q h1 h2 => (setRow_other _ _ _ _ h2).trans (KP4.out q h1)
        have Z5 : Hid ((w4.setRow (w.heap.size + 2) (over zc (c8 A (.slice o A.l.length cap) (.slice oKa A.ks.length cKa)))).heap.size = w4.heap.size) := size_setRow _ _ _
        go_wp2_with ((with_reducible refine wpList_store_at rfl 42 (.tmp 6) (.tmp 64) rfl (w.heap.size + 2) 0 rfl _ rfl 42 zc QZ4.out ?sf1 ?sf2 ?sf3 ?sf4); case' sf4 => generalize World.setRow _ _ _ = w5 at *)
        case sf1 => simp
        case sf2 => have := size42; simpa using this
        case sf3 => simp [Value.oneCell']
        have hz5 := Nat.le_of_eq Z5.out
        have hz5b := Nat.le_of_eq Z5.out.symm
        obtain ⟨p0, p1, p2, p3, p4, p5, p6, p7⟩ := cells8 (show w5.heap[w.heap.size + 2]? = some (.cells (c8 A (.slice o A.l.length cap) (.slice oKa A.ks.length cKa)) 42 (0, 0)) from R9.out)
        have FIN : OpnP (fun b => b < w5.heap.size) w5 (cpV t A B) o oKa cap cKa c := cp_opnR H5.out HOA.out (HRow.out.keptP fun q hq => ⟨by omega, KP5.out q (by omega) (by omega)⟩) (fun m hm => (HO8.out.2.2.2 m hm).keptP fun q hq => ⟨by omega, KP5.out q (by omega) (by omega)⟩) (HOA.out.K.keptP fun q hq => ⟨by omega, (KP5.out q (by omega) (by omega)).trans (HBR.out.block q (by omega))⟩)
        have FIN2 := Lib.hid FIN
        clear FIN
        exact bodyPost_ret (v := vv A.k A.i A.s (.slice o A.l.length cap) (.slice oKa A.ks.length cKa) A.tk A.to A.x) (by simp [results, Tryd.results25, go_sem, p0, p1, p2, p3, p4, p5, p6, p7]) rfl ⟨o, oKa, cap, cKa, c, by rw [cp_vv], FIN2.out, BZ.out⟩
  · have H5 := Lib.hid h5
    obtain ⟨g1, g2⟩ := int_ne h5
    clear h5
    have R9 := Lib.hid (store_box' QZ.out (c8 A (.slice oLa A.l.length cLa) (.slice oKa A.ks.length cKa)) rfl)
    have BZ := Lib.hid (below_setRow HB0.out (by omega : w.heap.size ≤ w.heap.size + 2) (over zc (c8 A (.slice oLa A.l.length cLa) (.slice oKa A.ks.length cKa))))
    have PZ : Hid (OpnP (fun b => b < (w0.setRow (w.heap.size + 2) (over zc (c8 A (.slice oLa A.l.length cLa) (.slice oKa A.ks.length cKa)))).heap.size) (w0.setRow (w.heap.size + 2) (over zc (c8 A (.slice oLa A.l.length cLa) (.slice oKa A.ks.length cKa)))) A oLa oKa cLa cKa ca) := HOA.out.keptP fun q hq => ⟨by rw [size_setRow]; omega, setRow_other _ _ _ _ (by omega)⟩
    go_wp2_with ((with_reducible refine wpList_store_at rfl 42 (.tmp 6) (.tmp 16) rfl (w.heap.size + 2) 0 rfl _ rfl 42 zc QZ.out ?sg1 ?sg2 ?sg3 ?sg4); case' sg4 => generalize World.setRow _ _ _ = w5 at *)
    case sg1 => simp
    case sg2 => have := size42; simpa using this
    case sg3 => simp [Value.oneCell']
    obtain ⟨p0, p1, p2, p3, p4, p5, p6, p7⟩ := cells8 (show w5.heap[w.heap.size + 2]? = some (.cells (c8 A (.slice oLa A.l.length cLa) (.slice oKa A.ks.length cKa)) 42 (0, 0)) from R9.out)
    have HV : cpV t A B = A := by unfold cpV; rw [if_neg H5.out]
    exact bodyPost_ret (v := vv A.k A.i A.s (.slice oLa A.l.length cLa) (.slice oKa A.ks.length cKa) A.tk A.to A.x) (by simp [results, Tryd.results25, go_sem, p0, p1, p2, p3, p4, p5, p6, p7]) rfl ⟨oLa, oKa, cLa, cKa, ca, by rw [cp_vv], by rw [HV]; exact PZ.out, BZ.out⟩
end Go.Proofs.YtfmgbhaldakpfaaDoor

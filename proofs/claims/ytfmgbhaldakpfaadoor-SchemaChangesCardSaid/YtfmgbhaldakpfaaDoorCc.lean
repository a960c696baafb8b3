/- What differs: changed. -/
import Derived.Test.YtfmgbhaldakpfaaDoorCb
import Derived.Test.YtfmgbhaldakpfaaDoorSq
import Derived.Test.YtfmgbhaldakpfaaDoorNc
namespace Go.Proofs.YtfmgbhaldakpfaaDoor
open Go.RowKit

/-- does the attribute differ in two values? -/
def chB (A B : Val) (a : Atr) : Bool := !a.cm && !likeV (elt A a.nm) (elt B a.nm)
theorem take_yes {l : List Atr} {p : Atr → Bool} {j : Nat} (hj : j < l.length) (h : p (aa l j) = true) : (l.take (j + 1)).filter p = (l.take j).filter p ++ [aa l j] := by
  have : l[j] = aa l j := by have := aa_get hj; rw [List.getElem?_eq_getElem hj] at this; injection this
  rw [List.take_succ_eq_append_getElem hj, List.filter_append, this]
  simp [h]
theorem take_no {l : List Atr} {p : Atr → Bool} {j : Nat} (hj : j < l.length) (h : p (aa l j) = false) : (l.take (j + 1)).filter p = (l.take j).filter p := by
  have : l[j] = aa l j := by have := aa_get hj; rw [List.getElem?_eq_getElem hj] at this; injection this
  rw [List.take_succ_eq_append_getElem hj, List.filter_append, this]
  simp [h]
theorem take_len (l : List Atr) (p : Atr → Bool) (j : Nat) : ((l.take j).filter p).length ≤ l.length := by
  have := List.length_filter_le p (l.take j)
  have h2 := List.length_take_le' j l
  omega
/-- those of the first j that differ, in a row of the call's own -/
def PcRel (l : List Atr) (p : Atr → Bool) (w1 : World) (j : Nat) (v : Value) (wr : World) : Prop := wr.ownsRow w1.heap.size 31 7 v ((l.take j).filter p).length (acs ((l.take j).filter p)) ∧ Below w1.heap.size w1 wr
theorem PcRel.skip {l : List Atr} {p : Atr → Bool} {w1 wr w2 : World} {j : Nat} {v : Value} (h : PcRel l p w1 j v wr) (hj : j < l.length) (hp : p (aa l j) = false) (hb : Below wr.heap.size wr w2) : PcRel l p w1 (j + 1) v w2 := by
  unfold PcRel
  rw [take_no hj hp]
  exact ⟨own_below h.1 hb (Nat.le_refl _), h.2.trans (hb.mono h.2.size)⟩
theorem PcRel.step {l : List Atr} {p : Atr → Bool} {w1 wr w2 w3 : World} {j n g cap : Nat} {v : Value} (h : PcRel l p w1 j v wr) (hj : j < l.length) (hp : p (aa l j) = true) (hn : ((l.take j).filter p).length = n) (hb : Below wr.heap.size wr w2)
    (hown : w3.ownsRow w1.heap.size 31 7 (.slice (some ⟨g, 0, none⟩) (n + 1) cap) (n + 1) (acs ((l.take j).filter p) ++ atL (aa l j))) (hg : w2.grownBy w3 v.ownBlock) : PcRel l p w1 (j + 1) (.slice (some ⟨g, 0, none⟩) (n + 1) cap) w3 := by
  subst hn
  unfold PcRel
  rw [take_yes hj hp, List.length_append, acs_app, show acs [aa l j] = atL (aa l j) by simp [acs]]
  exact ⟨hown, (h.2.trans (hb.mono h.2.size)).grown hg (Nat.le_trans h.2.size hb.size) (fun g hg => (h.1.lt g hg).1)⟩
/-- Attrs in one form -/
theorem attrs2_any (t : ByteArray) (w : World) (hT : Tab w) : Calls Tryd.prog 7 #[.string t] w fun e w' => ∃ (o : Option Addr) (cap : Nat) (x : Int), e = .returned (.tuple #[.slice o (attrs t).length cap, .int .i64 x]) ∧ AtRow (Fr w w') w' o cap (attrs t) ∧ Below w.heap.size w w' := by
  refine (attrs_any t w hT).mono ?_
  rintro e w' (⟨h, rfl, hb⟩ | ⟨_, o, cap, rfl, hR, hb⟩)
  · rw [h]; exact ⟨none, 0, 9, rfl, RowP.nil _ _ _ _, hb⟩
  · exact ⟨o, cap, 0, rfl, hR, hb⟩
/-- attributes in a new row -/
def ChPost (l : List Atr) (w : World) (e : Ending) (w' : World) : Prop := ∃ o cap, e = .returned (.slice o l.length cap) ∧ AtRow (Fr w w') w' o cap l ∧ Below w.heap.size w w'
set_option maxHeartbeats 16000000 in
set_option maxRecDepth 100000 in
theorem changed_any {n : Nat} {A B : Val} {va vb : Value} {w : World} (t : ByteArray) (hsA : sz A ≤ 50000) (hsB : sz B ≤ 50000) (hkA : A.k = 5 → A.ks.length = A.l.length) (hkB : B.k = 5 → B.ks.length = B.l.length) (hA : Lies n w A va) (hB : Lies n w B vb) (hn : n ≤ w.heap.size) (hT : Tab w) :
    Calls Tryd.prog 49 #[.string t, va, vb] w (ChPost ((attrs t).filter (chB A B)) w) := by
  obtain ⟨oLa, oKa, cLa, cKa, ca, rfl, OA⟩ := hA.inv
  obtain ⟨oLb, oKb, cLb, cKb, cb, rfl, OB⟩ := hB.inv
  have b0 : Below w.heap.size w ((w.alloc (bx A oLa oKa cLa cKa)).alloc (bx B oLb oKb cLb cKb)) := bal (bal (Below.refl _ _) _) _
  have HB0 := Lib.hid b0
  have LA := Lib.hid (OA.kept (b0.mono hn)).lies
  have LB := Lib.hid (OB.kept (b0.mono hn)).lies
  have XA := Lib.hid ((Hd.made w A (.slice oLa A.l.length cLa) (.slice oKa A.ks.length cKa)).kept ((Below.refl (w.heap.size + 1) _).alloc (by simp) (bx B oLb oKb cLb cKb)) (Nat.lt_succ_self _))
  have XB : Hid (Hd ((w.alloc (bx A oLa oKa cLa cKa)).alloc (bx B oLb oKb cLb cKb)) (w.heap.size + 1) B (.slice oLb B.l.length cLb) (.slice oKb B.ks.length cKb)) := by have := Hd.made (w.alloc (bx A oLa oKa cLa cKa)) B (.slice oLb B.l.length cLb) (.slice oKb B.ks.length cKb); rw [World.size_alloc] at this; exact this
  have HS : Hid (((w.alloc (bx A oLa oKa cLa cKa)).alloc (bx B oLb oKb cLb cKb)).heap.size = w.heap.size + 2) := by simp [Hid]
  have HAt := Lib.hid (attrs2_any t ((w.alloc (bx A oLa oKa cLa cKa)).alloc (bx B oLb oKb cLb cKb)) (hT.below b0 hT.lt))
  have CEA : Hid (∀ (a : Atr) (W : World), Below w.heap.size ((w.alloc (bx A oLa oKa cLa cKa)).alloc (bx B oLb oKb cLb cKb)) W → Calls Tryd.prog 69 #[vv A.k A.i A.s (.slice oLa A.l.length cLa) (.slice oKa A.ks.length cKa) A.tk A.to A.x, av a] W (VPost (elt A a.nm) W)) := fun a W hW => element_any a (by omega) hkA (LA.out.kept (hW.mono hn)) (by have := hW.size; simp at this; omega)
  have CEB : Hid (∀ (a : Atr) (W : World), Below w.heap.size ((w.alloc (bx A oLa oKa cLa cKa)).alloc (bx B oLb oKb cLb cKb)) W → Calls Tryd.prog 69 #[vv B.k B.i B.s (.slice oLb B.l.length cLb) (.slice oKb B.ks.length cKb) B.tk B.to B.x, av a] W (VPost (elt B a.nm) W)) := fun a W hW => element_any a (by omega) hkB (LB.out.kept (hW.mono hn)) (by have := hW.size; simp at this; omega)
  have CLK : Hid (∀ (X Y : Val) (Wa W0 W1 : World) (p1 p3 q1 q3 : Option Addr) (d1 d3 e1 e3 : Nat) (dd ee : Nat → Nat → Value), OpnP (Fr Wa W0) W0 X p1 p3 d1 d3 dd → Below W0.heap.size W0 W1 → OpnP (Fr W0 W1) W1 Y q1 q3 e1 e3 ee → Calls Tryd.prog 68 #[vv X.k X.i X.s (.slice p1 X.l.length d1) (.slice p3 X.ks.length d3) X.tk X.to X.x, vv Y.k Y.i Y.s (.slice q1 Y.l.length e1) (.slice q3 Y.ks.length e3) Y.tk Y.to Y.x] W1 fun e w' => e = .returned (.bool (likeV X Y)) ∧ Below W1.heap.size W1 w') :=
    fun X Y Wa W0 W1 p1 p3 q1 q3 d1 d3 e1 e3 dd ee hX hb hY => like_any (sz X + sz Y) W1.heap.size X Y _ _ W1 (Nat.le_refl _) (((hX.mono (P' := fun b => b < W0.heap.size) fun b hb => hb.2).kept hb).lies.mono fun b h2 => Nat.lt_of_lt_of_le h2 hb.size) (hY.mono (P' := fun b => b < W1.heap.size) fun b hb => hb.2).lies (Nat.le_refl _)
  have HL19 := attrs_len t
  obtain ⟨i31, hi, hzz⟩ := Option.map_eq_some_iff.1 info31
  simp only [Prod.mk.injEq] at hzz
  obtain ⟨hz, hs1, hb1'⟩ := hzz
  clear hA hB OA OB b0 hT hkA hkB hsA hsB
  generalize attrs t = l at *
  go_enter Tryd.func49, Tryd.ntmps49
  go_upto_region 1 with (fail)
  generalize (w.alloc _).alloc _ = w0 at *
  have hwl : w.heap.size < w0.heap.size := by rw [HS.out]; omega
  have hwl2 : w.heap.size + 1 < w0.heap.size := by rw [HS.out]; omega
  go_wp2_with fail
  refine HAt.out.mono ?_
  rintro e w1 ⟨o, cap, xe, rfl, hR, hb1⟩
  have B1 := Lib.hid hb1
  have HR := Lib.hid (hR.mono (P' := fun b => b < w1.heap.size) fun b hb => hb.2)
  clear hb1 hR HAt
  have k1 := HR.out.1
  have k2 := HR.out.2.1
  unfold maxLen at k2
  have hz1 := B1.out.size
  have HA0 : Hid (PcRel l (chB A B) w1 0 (.slice none 0 0) w1) := ⟨World.ownsRow_nil _ _ _ _, Below.refl _ _⟩
  go_wp2_with fail
  go_loopw [9, 19] (fun x i wr => ∃ (j : Nat) (v : Value), j ≤ l.length ∧ i = .int .i64 j ∧ x = v ∧ Hid (PcRel l (chB A B) w1 j v wr)) (fun _ i _ => l.length - (intOf i).toNat)
  case atStart => exact ⟨0, _, Nat.zero_le _, rfl, rfl, HA0⟩
  case round =>
    obtain ⟨j, v, hj, rfl, hv, HRel⟩ := hrel
    obtain rfl := hv.symm
    have hzr := HRel.out.2.size
    have BR := Lib.hid (B1.out.trans (HRel.out.2.mono hz1))
    by_cases hlt : j < l.length
    · obtain ⟨b1, off1, rfl, hb1, E1⟩ := AtRow.el (RowP.below HR.out HRel.out.2) hlt
      have HST := Lib.hid (fun (w2 w3 : World) (nn g cc : Nat) hp hn hb hown hg => PcRel.step (w2 := w2) (w3 := w3) (n := nn) (g := g) (cap := cc) HRel.out hlt hp hn hb hown hg)
      have HSK := Lib.hid (fun (w2 : World) hp hb => PcRel.skip (w2 := w2) HRel.out hlt hp hb)
      obtain ⟨a, ha⟩ : ∃ a, aa l j = a := ⟨_, rfl⟩
      rw [ha] at E1 HST HSK
      clear ha
      obtain ⟨nm, tk, t2, nd, cm, an, ow⟩ := a
      obtain ⟨y0, y1, y2, y3, y4, y5, y6⟩ := E1
      have hlt' : (j : Int) < (l.length : Int) := by omega
      have BW := Lib.hid (bal (Below.refl wr.heap.size wr) (.cells (ac ⟨nm, tk, t2, nd, cm, an, ow⟩) 31))
      have BA := Lib.hid (BR.out.trans (BW.out.mono BR.out.size))
      have HAc := Lib.hid (rc7 (heap_alloc_new wr (.cells (ac ⟨nm, tk, t2, nd, cm, an, ow⟩) 31)))
      have HZ3 : Hid ((wr.alloc (.cells (ac ⟨nm, tk, t2, nd, cm, an, ow⟩) 31)).heap.size = wr.heap.size + 1) := by simp [Hid]
      have HCH : Hid (chB A B ⟨nm, tk, t2, nd, cm, an, ow⟩ = (!cm && !likeV (elt A nm) (elt B nm))) := rfl
      have CA1 := Lib.hid (CEA.out ⟨nm, tk, t2, nd, cm, an, ow⟩)
      have CB1 := Lib.hid (CEB.out ⟨nm, tk, t2, nd, cm, an, ow⟩)
      have CL1 := Lib.hid (CLK.out (elt A nm) (elt B nm))
      change Hid (∀ (W : World), Below w.heap.size w0 W → Calls Tryd.prog 69 _ W (VPost (elt A nm) W)) at CA1
      change Hid (∀ (W : World), Below w.heap.size w0 W → Calls Tryd.prog 69 _ W (VPost (elt B nm) W)) at CB1
      generalize elt A nm = X at *
      generalize elt B nm = Y at *
      obtain ⟨lk, hlk⟩ : ∃ b, likeV X Y = b := ⟨_, rfl⟩
      rw [hlk] at HCH CL1
      clear hlk
      go_upto_region 6 with (fail)
      clear y0 y1 y2 y3 y4 y5 y6
      generalize World.alloc wr _ = w2 at *
      obtain ⟨x8, x0, x1, x2, x3, x4, x5, x6, x7⟩ := XA.out.kept BA.out hwl
      obtain ⟨z8, z0, z1, z2, z3, z4, z5, z6, z7⟩ := XB.out.kept BA.out hwl2
      obtain ⟨a0, a1, a2, a3, a4, a5, a6, a7⟩ := HAc.out
      obtain ⟨N, hN⟩ : ∃ N, N = w2.heap.size := ⟨_, rfl⟩
      have S0 := held_at hN
      have lA : w.heap.size < N := by rw [hN, HZ3.out]; have := BR.out.size; omega
      have lB : w.heap.size + 1 < N := by rw [hN, HZ3.out]; have := BR.out.size; omega
      have lC : wr.heap.size < N := by rw [hN, HZ3.out]; omega
      have HN := Lib.hid hN
      have LW : Hid (∀ W, Below N w2 W → Below w.heap.size w0 W) := fun W hW => (BA.out.mono (Nat.le_of_lt hwl)).trans (hW.mono (Nat.le_of_lt lA))
      clear hN
      cases cm with
      | true =>
        have HP : Hid (chB A B ⟨nm, tk, t2, nd, true, an, ow⟩ = false) := HCH.out
        refine wp_region_noPanic ?_
        refine wp_region_held_drew (S := (fun W => (∀ b o, b < N → W.cell? ⟨b, o, none⟩ = w2.cell? ⟨b, o, none⟩) ∧ Hid (Below N w2 W) ∧ Hid (N ≤ W.heap.size))) (by kernel_rfl) ?_ (fun hH => ?_)
        · exact S0
        refine wpAnyH_take (i := 0) (oi := { dst := some 23, op := Op.fieldAddr 31 (Operand.tmp 11) 3, type := 0, pos := "change.go:31", after := #[], guard := none }) (v := ?_) rfl (by kernel_rfl) (by kernel_rfl) (by kernel_rfl) (fun _ _ _ h => h) (Or.inl ⟨by rfl, ?_⟩) (by assumption) ?_
        rotate_left
        · (intro w hSw; (try dsimp only at hSw); go_simp; try with_reducible rfl)
        try simp only [Act.put, List.setIfInBounds_toArray, List.set_cons_zero, List.set_cons_succ]
        refine wpAnyH_take (i := 1) (oi := { dst := some 24, op := Op.load 4 (Operand.tmp 23), type := 4, pos := "change.go:31", after := #[{ on := 0, ground := Ground.data }], guard := none }) (v := ?_) rfl (by kernel_rfl) (by kernel_rfl) (by kernel_rfl) (fun _ _ _ h => h) (Or.inl ⟨by rfl, ?_⟩) (by assumption) ?_
        rotate_left
        · (intro w hSw; (try dsimp only at hSw); go_simp; try with_reducible rfl)
        try simp only [Act.put, List.setIfInBounds_toArray, List.set_cons_zero, List.set_cons_succ]
        refine wpAnyH_take (i := 2) (oi := { dst := some 25, op := Op.unOp UnOp.not 4 (Operand.tmp 24), type := 4, pos := "change.go:31", after := #[{ on := 1, ground := Ground.data }], guard := none }) (v := ?_) rfl (by kernel_rfl) (by kernel_rfl) (by kernel_rfl) (fun _ _ _ h => h) (Or.inl ⟨by rfl, ?_⟩) (by assumption) ?_
        rotate_left
        · (intro w hSw; (try dsimp only at hSw); go_simp; try with_reducible rfl)
        try simp only [Act.put, List.setIfInBounds_toArray, List.set_cons_zero, List.set_cons_succ]
        refine wpAnyH_take (i := 3) (oi := { dst := some 26, op := Op.move (Operand.tmp 25), type := 4, pos := "change.go:31", after := #[{ on := 2, ground := Ground.data }], guard := none }) (v := ?_) rfl (by kernel_rfl) (by kernel_rfl) (by kernel_rfl) (fun _ _ _ h => h) (Or.inl ⟨by rfl, ?_⟩) (by assumption) ?_
        rotate_left
        · (intro w hSw; (try dsimp only at hSw); go_simp; try with_reducible rfl)
        try simp only [Act.put, List.setIfInBounds_toArray, List.set_cons_zero, List.set_cons_succ]
        refine wpAnyH_take (i := 4) (oi := { dst := some 27, op := Op.load 42 (Operand.tmp 4), type := 42, pos := "change.go:31", after := #[{ on := 3, ground := Ground.guard }], guard := some (3, true) }) (v := undef) rfl (by kernel_rfl) (by kernel_rfl) (by kernel_rfl) (fun _ _ _ h => h) (Or.inr ⟨by rfl, rfl⟩) (by assumption) ?_
        try simp only [Act.put, List.setIfInBounds_toArray, List.set_cons_zero, List.set_cons_succ]
        refine wpAnyH_take (i := 5) (oi := { dst := some 28, op := Op.load 31 (Operand.tmp 11), type := 31, pos := "change.go:31", after := #[{ on := 3, ground := Ground.guard }], guard := some (3, true) }) (v := undef) rfl (by kernel_rfl) (by kernel_rfl) (by kernel_rfl) (fun _ _ _ h => h) (Or.inr ⟨by rfl, rfl⟩) (by assumption) ?_
        try simp only [Act.put, List.setIfInBounds_toArray, List.set_cons_zero, List.set_cons_succ]
        refine wpAnyH_take (i := 6) (oi := { dst := some 29, op := Op.call { callee := Callee.value (Operand.func 69), args := #[Operand.tmp 27, Operand.tmp 28], argTypes := #[42, 31] }, type := 42, pos := "change.go:31", after := #[{ on := 4, ground := Ground.data }, { on := 5, ground := Ground.data }, { on := 3, ground := Ground.chain }, { on := 3, ground := Ground.guard }], guard := some (3, true) }) (v := undef) rfl (by kernel_rfl) (by kernel_rfl) (by kernel_rfl) (fun _ _ _ h => h) (Or.inr ⟨by rfl, rfl⟩) (by assumption) ?_
        try simp only [Act.put, List.setIfInBounds_toArray, List.set_cons_zero, List.set_cons_succ]
        refine wpAnyH_take (i := 7) (oi := { dst := some 30, op := Op.load 42 (Operand.tmp 5), type := 42, pos := "change.go:31", after := #[{ on := 3, ground := Ground.guard }], guard := some (3, true) }) (v := undef) rfl (by kernel_rfl) (by kernel_rfl) (by kernel_rfl) (fun _ _ _ h => h) (Or.inr ⟨by rfl, rfl⟩) (by assumption) ?_
        try simp only [Act.put, List.setIfInBounds_toArray, List.set_cons_zero, List.set_cons_succ]
        refine wpAnyH_take (i := 8) (oi := { dst := some 31, op := Op.load 31 (Operand.tmp 11), type := 31, pos := "change.go:31", after := #[{ on := 3, ground := Ground.guard }], guard := some (3, true) }) (v := undef) rfl (by kernel_rfl) (by kernel_rfl) (by kernel_rfl) (fun _ _ _ h => h) (Or.inr ⟨by rfl, rfl⟩) (by assumption) ?_
        try simp only [Act.put, List.setIfInBounds_toArray, List.set_cons_zero, List.set_cons_succ]
        refine wpAnyH_take (i := 9) (oi := { dst := some 32, op := Op.call { callee := Callee.value (Operand.func 69), args := #[Operand.tmp 30, Operand.tmp 31], argTypes := #[42, 31] }, type := 42, pos := "change.go:31", after := #[{ on := 7, ground := Ground.data }, { on := 8, ground := Ground.data }, { on := 6, ground := Ground.chain }, { on := 3, ground := Ground.guard }], guard := some (3, true) }) (v := undef) rfl (by kernel_rfl) (by kernel_rfl) (by kernel_rfl) (fun _ _ _ h => h) (Or.inr ⟨by rfl, rfl⟩) (by assumption) ?_
        try simp only [Act.put, List.setIfInBounds_toArray, List.set_cons_zero, List.set_cons_succ]
        refine wpAnyH_take (i := 10) (oi := { dst := some 33, op := Op.call { callee := Callee.value (Operand.func 68), args := #[Operand.tmp 29, Operand.tmp 32], argTypes := #[42, 42] }, type := 4, pos := "change.go:31", after := #[{ on := 6, ground := Ground.data }, { on := 9, ground := Ground.data }, { on := 9, ground := Ground.chain }, { on := 3, ground := Ground.guard }], guard := some (3, true) }) (v := undef) rfl (by kernel_rfl) (by kernel_rfl) (by kernel_rfl) (fun _ _ _ h => h) (Or.inr ⟨by rfl, rfl⟩) (by assumption) ?_
        try simp only [Act.put, List.setIfInBounds_toArray, List.set_cons_zero, List.set_cons_succ]
        refine wpAnyH_take (i := 11) (oi := { dst := some 34, op := Op.unOp UnOp.not 4 (Operand.tmp 33), type := 4, pos := "change.go:31", after := #[{ on := 10, ground := Ground.data }, { on := 3, ground := Ground.guard }], guard := some (3, true) }) (v := undef) rfl (by kernel_rfl) (by kernel_rfl) (by kernel_rfl) (fun _ _ _ h => h) (Or.inr ⟨by rfl, rfl⟩) (by assumption) ?_
        try simp only [Act.put, List.setIfInBounds_toArray, List.set_cons_zero, List.set_cons_succ]
        refine wpAnyH_take (i := 12) (oi := { dst := some 35, op := Op.pick (Operand.tmp 26) (Operand.tmp 34) (Operand.const (Value.bool false)), type := 4, pos := "change.go:31", after := #[{ on := 3, ground := Ground.data }, { on := 11, ground := Ground.data }], guard := none }) (v := ?_) rfl (by kernel_rfl) (by kernel_rfl) (by kernel_rfl) (fun _ _ _ h => h) (Or.inl ⟨by rfl, ?_⟩) (by assumption) ?_
        rotate_left
        · (intro w hSw; (try dsimp only at hSw); go_simp; try with_reducible rfl)
        try simp only [Act.put, List.setIfInBounds_toArray, List.set_cons_zero, List.set_cons_succ]
        refine wpAnyH_done (by kernel_rfl) ?_ _
        refine NoPanic.normal ?_
        have BZ := Lib.hid (BW.out.trans (hH.2.1.out.mono (by rw [HN.out, HZ3.out]; omega)) : Below wr.heap.size wr _)
        clear S0 hH x0 x1 x2 x3 x4 x5 x6 x7 z0 z1 z2 z3 z4 z5 z6 z7 a0 a1 a2 a3 a4 a5 a6
        go_wp2_with fail
        go_roundw
        case rel => exact ⟨j + 1, _, by omega, by go_num, rfl, HSK.out _ HP.out BZ.out⟩
        case measure => simp [intOf]; omega
      | false =>
        cases lk with
        | true =>
          have HP : Hid (chB A B ⟨nm, tk, t2, nd, false, an, ow⟩ = false) := HCH.out
          refine wp_region_noPanic ?_
          refine wp_region_held_drew (S := (fun W => (∀ b o, b < N → W.cell? ⟨b, o, none⟩ = w2.cell? ⟨b, o, none⟩) ∧ Hid (Below N w2 W) ∧ Hid (N ≤ W.heap.size))) (by kernel_rfl) ?_ (fun hH => ?_)
          · exact S0
          refine wpAnyH_take (i := 0) (oi := { dst := some 23, op := Op.fieldAddr 31 (Operand.tmp 11) 3, type := 0, pos := "change.go:31", after := #[], guard := none }) (v := ?_) rfl (by kernel_rfl) (by kernel_rfl) (by kernel_rfl) (fun _ _ _ h => h) (Or.inl ⟨by rfl, ?_⟩) (by assumption) ?_
          rotate_left
          · (intro w hSw; (try dsimp only at hSw); go_simp; try with_reducible rfl)
          try simp only [Act.put, List.setIfInBounds_toArray, List.set_cons_zero, List.set_cons_succ]
          refine wpAnyH_take (i := 1) (oi := { dst := some 24, op := Op.load 4 (Operand.tmp 23), type := 4, pos := "change.go:31", after := #[{ on := 0, ground := Ground.data }], guard := none }) (v := ?_) rfl (by kernel_rfl) (by kernel_rfl) (by kernel_rfl) (fun _ _ _ h => h) (Or.inl ⟨by rfl, ?_⟩) (by assumption) ?_
          rotate_left
          · (intro w hSw; (try dsimp only at hSw); go_simp; try with_reducible rfl)
          try simp only [Act.put, List.setIfInBounds_toArray, List.set_cons_zero, List.set_cons_succ]
          refine wpAnyH_take (i := 2) (oi := { dst := some 25, op := Op.unOp UnOp.not 4 (Operand.tmp 24), type := 4, pos := "change.go:31", after := #[{ on := 1, ground := Ground.data }], guard := none }) (v := ?_) rfl (by kernel_rfl) (by kernel_rfl) (by kernel_rfl) (fun _ _ _ h => h) (Or.inl ⟨by rfl, ?_⟩) (by assumption) ?_
          rotate_left
          · (intro w hSw; (try dsimp only at hSw); go_simp; try with_reducible rfl)
          try simp only [Act.put, List.setIfInBounds_toArray, List.set_cons_zero, List.set_cons_succ]
          refine wpAnyH_take (i := 3) (oi := { dst := some 26, op := Op.move (Operand.tmp 25), type := 4, pos := "change.go:31", after := #[{ on := 2, ground := Ground.data }], guard := none }) (v := ?_) rfl (by kernel_rfl) (by kernel_rfl) (by kernel_rfl) (fun _ _ _ h => h) (Or.inl ⟨by rfl, ?_⟩) (by assumption) ?_
          rotate_left
          · (intro w hSw; (try dsimp only at hSw); go_simp; try with_reducible rfl)
          try simp only [Act.put, List.setIfInBounds_toArray, List.set_cons_zero, List.set_cons_succ]
          refine wpAnyH_take (i := 4) (oi := { dst := some 27, op := Op.load 42 (Operand.tmp 4), type := 42, pos := "change.go:31", after := #[{ on := 3, ground := Ground.guard }], guard := some (3, true) }) (v := ?_) rfl (by kernel_rfl) (by kernel_rfl) (by kernel_rfl) (fun _ _ _ h => h) (Or.inl ⟨by rfl, ?_⟩) (by assumption) ?_
          rotate_left
          · (intro w hSw; (try dsimp only at hSw); go_simp; try with_reducible rfl)
          try simp only [Act.put, List.setIfInBounds_toArray, List.set_cons_zero, List.set_cons_succ]
          refine wpAnyH_take (i := 5) (oi := { dst := some 28, op := Op.load 31 (Operand.tmp 11), type := 31, pos := "change.go:31", after := #[{ on := 3, ground := Ground.guard }], guard := some (3, true) }) (v := ?_) rfl (by kernel_rfl) (by kernel_rfl) (by kernel_rfl) (fun _ _ _ h => h) (Or.inl ⟨by rfl, ?_⟩) (by assumption) ?_
          rotate_left
          · (intro w hSw; (try dsimp only at hSw); go_simp; try with_reducible rfl)
          try simp only [Act.put, List.setIfInBounds_toArray, List.set_cons_zero, List.set_cons_succ]
          refine wpAnyH_take (i := 7) (oi := { dst := some 30, op := Op.load 42 (Operand.tmp 5), type := 42, pos := "change.go:31", after := #[{ on := 3, ground := Ground.guard }], guard := some (3, true) }) (v := ?_) rfl (by kernel_rfl) (by kernel_rfl) (by kernel_rfl) (fun _ _ _ h => h) (Or.inl ⟨by rfl, ?_⟩) (by assumption) ?_
          rotate_left
          · (intro w hSw; (try dsimp only at hSw); go_simp; try with_reducible rfl)
          try simp only [Act.put, List.setIfInBounds_toArray, List.set_cons_zero, List.set_cons_succ]
          refine wpAnyH_take (i := 8) (oi := { dst := some 31, op := Op.load 31 (Operand.tmp 11), type := 31, pos := "change.go:31", after := #[{ on := 3, ground := Ground.guard }], guard := some (3, true) }) (v := ?_) rfl (by kernel_rfl) (by kernel_rfl) (by kernel_rfl) (fun _ _ _ h => h) (Or.inl ⟨by rfl, ?_⟩) (by assumption) ?_
          rotate_left
          · (intro w hSw; (try dsimp only at hSw); go_simp; try with_reducible rfl)
          try simp only [Act.put, List.setIfInBounds_toArray, List.set_cons_zero, List.set_cons_succ]
          refine wpAnyH_ready (rs := [6]) (by kernel_rfl) (by simp) ?_
          refine AllReadyH.cons (o := { dst := some 29, op := Op.call { callee := Callee.value (Operand.func 69), args := #[Operand.tmp 27, Operand.tmp 28], argTypes := #[42, 31] }, type := 42, pos := "change.go:31", after := #[{ on := 4, ground := Ground.data }, { on := 5, ground := Ground.data }, { on := 3, ground := Ground.chain }, { on := 3, ground := Ground.guard }], guard := some (3, true) }) rfl (fun K hK => ?_) AllReadyH.nil
          go_simp
          refine (CA1.out _ (LW.out _ hH.2.1.out)).mono ?_
          rintro e W_0 ⟨p1, p3, d1, d3, dd, rfl, OX, b⟩
          refine hK.out _ _ ?_ (fun hH' => ?_)
          · exact held_next (by assumption) hH
          clear hK K hH
          have hH := hH'
          clear hH'
          try simp only [Act.put, List.setIfInBounds_toArray, List.set_cons_zero, List.set_cons_succ]
          refine wpAnyH_ready (rs := [9]) (by kernel_rfl) (by simp) ?_
          refine AllReadyH.cons (o := { dst := some 32, op := Op.call { callee := Callee.value (Operand.func 69), args := #[Operand.tmp 30, Operand.tmp 31], argTypes := #[42, 31] }, type := 42, pos := "change.go:31", after := #[{ on := 7, ground := Ground.data }, { on := 8, ground := Ground.data }, { on := 6, ground := Ground.chain }, { on := 3, ground := Ground.guard }], guard := some (3, true) }) rfl (fun K hK => ?_) AllReadyH.nil
          go_simp
          refine (CB1.out _ (LW.out _ hH.2.1.out)).mono ?_
          rintro e W_1 ⟨q1, q3, e1, e3, ee, rfl, OY, b⟩
          refine hK.out _ _ ?_ (fun hH' => ?_)
          · exact held_next (by assumption) hH
          have bXY := b
          clear hK K hH
          have hH := hH'
          clear hH'
          try simp only [Act.put, List.setIfInBounds_toArray, List.set_cons_zero, List.set_cons_succ]
          refine wpAnyH_ready (rs := [10]) (by kernel_rfl) (by simp) ?_
          refine AllReadyH.cons (o := { dst := some 33, op := Op.call { callee := Callee.value (Operand.func 68), args := #[Operand.tmp 29, Operand.tmp 32], argTypes := #[42, 42] }, type := 4, pos := "change.go:31", after := #[{ on := 6, ground := Ground.data }, { on := 9, ground := Ground.data }, { on := 9, ground := Ground.chain }, { on := 3, ground := Ground.guard }], guard := some (3, true) }) rfl (fun K hK => ?_) AllReadyH.nil
          go_simp
          refine (CL1.out _ _ _ _ _ _ _ _ _ _ _ _ _ OX bXY OY).mono ?_
          rintro e W_2 ⟨rfl, b⟩
          refine hK.out _ _ ?_ (fun hH' => ?_)
          · exact held_next (by assumption) hH
          clear hK K hH
          have hH := hH'
          clear hH'
          try simp only [Act.put, List.setIfInBounds_toArray, List.set_cons_zero, List.set_cons_succ]
          refine wpAnyH_take (i := 11) (oi := { dst := some 34, op := Op.unOp UnOp.not 4 (Operand.tmp 33), type := 4, pos := "change.go:31", after := #[{ on := 10, ground := Ground.data }, { on := 3, ground := Ground.guard }], guard := some (3, true) }) (v := ?_) rfl (by kernel_rfl) (by kernel_rfl) (by kernel_rfl) (fun _ _ _ h => h) (Or.inl ⟨by rfl, ?_⟩) (by assumption) ?_
          rotate_left
          · (intro w hSw; (try dsimp only at hSw); go_simp; try with_reducible rfl)
          try simp only [Act.put, List.setIfInBounds_toArray, List.set_cons_zero, List.set_cons_succ]
          refine wpAnyH_take (i := 12) (oi := { dst := some 35, op := Op.pick (Operand.tmp 26) (Operand.tmp 34) (Operand.const (Value.bool false)), type := 4, pos := "change.go:31", after := #[{ on := 3, ground := Ground.data }, { on := 11, ground := Ground.data }], guard := none }) (v := ?_) rfl (by kernel_rfl) (by kernel_rfl) (by kernel_rfl) (fun _ _ _ h => h) (Or.inl ⟨by rfl, ?_⟩) (by assumption) ?_
          rotate_left
          · (intro w hSw; (try dsimp only at hSw); go_simp; try with_reducible rfl)
          try simp only [Act.put, List.setIfInBounds_toArray, List.set_cons_zero, List.set_cons_succ]
          refine wpAnyH_done (by kernel_rfl) ?_ _
          refine NoPanic.normal ?_
          have BZ := Lib.hid (BW.out.trans (hH.2.1.out.mono (by rw [HN.out, HZ3.out]; omega)) : Below wr.heap.size wr _)
          clear S0 hH x0 x1 x2 x3 x4 x5 x6 x7 z0 z1 z2 z3 z4 z5 z6 z7 a0 a1 a2 a3 a4 a5 a6
          go_wp2_with fail
          go_roundw
          case rel => exact ⟨j + 1, _, by omega, by go_num, rfl, HSK.out _ HP.out BZ.out⟩
          case measure => simp [intOf]; omega
        | false =>
          have HP : Hid (chB A B ⟨nm, tk, t2, nd, false, an, ow⟩ = true) := HCH.out
          refine wp_region_noPanic ?_
          refine wp_region_held_drew (S := (fun W => (∀ b o, b < N → W.cell? ⟨b, o, none⟩ = w2.cell? ⟨b, o, none⟩) ∧ Hid (Below N w2 W) ∧ Hid (N ≤ W.heap.size))) (by kernel_rfl) ?_ (fun hH => ?_)
          · exact S0
          refine wpAnyH_take (i := 0) (oi := { dst := some 23, op := Op.fieldAddr 31 (Operand.tmp 11) 3, type := 0, pos := "change.go:31", after := #[], guard := none }) (v := ?_) rfl (by kernel_rfl) (by kernel_rfl) (by kernel_rfl) (fun _ _ _ h => h) (Or.inl ⟨by rfl, ?_⟩) (by assumption) ?_
          rotate_left
          · (intro w hSw; (try dsimp only at hSw); go_simp; try with_reducible rfl)
          try simp only [Act.put, List.setIfInBounds_toArray, List.set_cons_zero, List.set_cons_succ]
          refine wpAnyH_take (i := 1) (oi := { dst := some 24, op := Op.load 4 (Operand.tmp 23), type := 4, pos := "change.go:31", after := #[{ on := 0, ground := Ground.data }], guard := none }) (v := ?_) rfl (by kernel_rfl) (by kernel_rfl) (by kernel_rfl) (fun _ _ _ h => h) (Or.inl ⟨by rfl, ?_⟩) (by assumption) ?_
          rotate_left
          · (intro w hSw; (try dsimp only at hSw); go_simp; try with_reducible rfl)
          try simp only [Act.put, List.setIfInBounds_toArray, List.set_cons_zero, List.set_cons_succ]
          refine wpAnyH_take (i := 2) (oi := { dst := some 25, op := Op.unOp UnOp.not 4 (Operand.tmp 24), type := 4, pos := "change.go:31", after := #[{ on := 1, ground := Ground.data }], guard := none }) (v := ?_) rfl (by kernel_rfl) (by kernel_rfl) (by kernel_rfl) (fun _ _ _ h => h) (Or.inl ⟨by rfl, ?_⟩) (by assumption) ?_
          rotate_left
          · (intro w hSw; (try dsimp only at hSw); go_simp; try with_reducible rfl)
          try simp only [Act.put, List.setIfInBounds_toArray, List.set_cons_zero, List.set_cons_succ]
          refine wpAnyH_take (i := 3) (oi := { dst := some 26, op := Op.move (Operand.tmp 25), type := 4, pos := "change.go:31", after := #[{ on := 2, ground := Ground.data }], guard := none }) (v := ?_) rfl (by kernel_rfl) (by kernel_rfl) (by kernel_rfl) (fun _ _ _ h => h) (Or.inl ⟨by rfl, ?_⟩) (by assumption) ?_
          rotate_left
          · (intro w hSw; (try dsimp only at hSw); go_simp; try with_reducible rfl)
          try simp only [Act.put, List.setIfInBounds_toArray, List.set_cons_zero, List.set_cons_succ]
          refine wpAnyH_take (i := 4) (oi := { dst := some 27, op := Op.load 42 (Operand.tmp 4), type := 42, pos := "change.go:31", after := #[{ on := 3, ground := Ground.guard }], guard := some (3, true) }) (v := ?_) rfl (by kernel_rfl) (by kernel_rfl) (by kernel_rfl) (fun _ _ _ h => h) (Or.inl ⟨by rfl, ?_⟩) (by assumption) ?_
          rotate_left
          · (intro w hSw; (try dsimp only at hSw); go_simp; try with_reducible rfl)
          try simp only [Act.put, List.setIfInBounds_toArray, List.set_cons_zero, List.set_cons_succ]
          refine wpAnyH_take (i := 5) (oi := { dst := some 28, op := Op.load 31 (Operand.tmp 11), type := 31, pos := "change.go:31", after := #[{ on := 3, ground := Ground.guard }], guard := some (3, true) }) (v := ?_) rfl (by kernel_rfl) (by kernel_rfl) (by kernel_rfl) (fun _ _ _ h => h) (Or.inl ⟨by rfl, ?_⟩) (by assumption) ?_
          rotate_left
          · (intro w hSw; (try dsimp only at hSw); go_simp; try with_reducible rfl)
          try simp only [Act.put, List.setIfInBounds_toArray, List.set_cons_zero, List.set_cons_succ]
          refine wpAnyH_take (i := 7) (oi := { dst := some 30, op := Op.load 42 (Operand.tmp 5), type := 42, pos := "change.go:31", after := #[{ on := 3, ground := Ground.guard }], guard := some (3, true) }) (v := ?_) rfl (by kernel_rfl) (by kernel_rfl) (by kernel_rfl) (fun _ _ _ h => h) (Or.inl ⟨by rfl, ?_⟩) (by assumption) ?_
          rotate_left
          · (intro w hSw; (try dsimp only at hSw); go_simp; try with_reducible rfl)
          try simp only [Act.put, List.setIfInBounds_toArray, List.set_cons_zero, List.set_cons_succ]
          refine wpAnyH_take (i := 8) (oi := { dst := some 31, op := Op.load 31 (Operand.tmp 11), type := 31, pos := "change.go:31", after := #[{ on := 3, ground := Ground.guard }], guard := some (3, true) }) (v := ?_) rfl (by kernel_rfl) (by kernel_rfl) (by kernel_rfl) (fun _ _ _ h => h) (Or.inl ⟨by rfl, ?_⟩) (by assumption) ?_
          rotate_left
          · (intro w hSw; (try dsimp only at hSw); go_simp; try with_reducible rfl)
          try simp only [Act.put, List.setIfInBounds_toArray, List.set_cons_zero, List.set_cons_succ]
          refine wpAnyH_ready (rs := [6]) (by kernel_rfl) (by simp) ?_
          refine AllReadyH.cons (o := { dst := some 29, op := Op.call { callee := Callee.value (Operand.func 69), args := #[Operand.tmp 27, Operand.tmp 28], argTypes := #[42, 31] }, type := 42, pos := "change.go:31", after := #[{ on := 4, ground := Ground.data }, { on := 5, ground := Ground.data }, { on := 3, ground := Ground.chain }, { on := 3, ground := Ground.guard }], guard := some (3, true) }) rfl (fun K hK => ?_) AllReadyH.nil
          go_simp
          refine (CA1.out _ (LW.out _ hH.2.1.out)).mono ?_
          rintro e W_0 ⟨p1, p3, d1, d3, dd, rfl, OX, b⟩
          refine hK.out _ _ ?_ (fun hH' => ?_)
          · exact held_next (by assumption) hH
          clear hK K hH
          have hH := hH'
          clear hH'
          try simp only [Act.put, List.setIfInBounds_toArray, List.set_cons_zero, List.set_cons_succ]
          refine wpAnyH_ready (rs := [9]) (by kernel_rfl) (by simp) ?_
          refine AllReadyH.cons (o := { dst := some 32, op := Op.call { callee := Callee.value (Operand.func 69), args := #[Operand.tmp 30, Operand.tmp 31], argTypes := #[42, 31] }, type := 42, pos := "change.go:31", after := #[{ on := 7, ground := Ground.data }, { on := 8, ground := Ground.data }, { on := 6, ground := Ground.chain }, { on := 3, ground := Ground.guard }], guard := some (3, true) }) rfl (fun K hK => ?_) AllReadyH.nil
          go_simp
          refine (CB1.out _ (LW.out _ hH.2.1.out)).mono ?_
          rintro e W_1 ⟨q1, q3, e1, e3, ee, rfl, OY, b⟩
          refine hK.out _ _ ?_ (fun hH' => ?_)
          · exact held_next (by assumption) hH
          have bXY := b
          clear hK K hH
          have hH := hH'
          clear hH'
          try simp only [Act.put, List.setIfInBounds_toArray, List.set_cons_zero, List.set_cons_succ]
          refine wpAnyH_ready (rs := [10]) (by kernel_rfl) (by simp) ?_
          refine AllReadyH.cons (o := { dst := some 33, op := Op.call { callee := Callee.value (Operand.func 68), args := #[Operand.tmp 29, Operand.tmp 32], argTypes := #[42, 42] }, type := 4, pos := "change.go:31", after := #[{ on := 6, ground := Ground.data }, { on := 9, ground := Ground.data }, { on := 9, ground := Ground.chain }, { on := 3, ground := Ground.guard }], guard := some (3, true) }) rfl (fun K hK => ?_) AllReadyH.nil
          go_simp
          refine (CL1.out _ _ _ _ _ _ _ _ _ _ _ _ _ OX bXY OY).mono ?_
          rintro e W_2 ⟨rfl, b⟩
          refine hK.out _ _ ?_ (fun hH' => ?_)
          · exact held_next (by assumption) hH
          clear hK K hH
          have hH := hH'
          clear hH'
          try simp only [Act.put, List.setIfInBounds_toArray, List.set_cons_zero, List.set_cons_succ]
          refine wpAnyH_take (i := 11) (oi := { dst := some 34, op := Op.unOp UnOp.not 4 (Operand.tmp 33), type := 4, pos := "change.go:31", after := #[{ on := 10, ground := Ground.data }, { on := 3, ground := Ground.guard }], guard := some (3, true) }) (v := ?_) rfl (by kernel_rfl) (by kernel_rfl) (by kernel_rfl) (fun _ _ _ h => h) (Or.inl ⟨by rfl, ?_⟩) (by assumption) ?_
          rotate_left
          · (intro w hSw; (try dsimp only at hSw); go_simp; try with_reducible rfl)
          try simp only [Act.put, List.setIfInBounds_toArray, List.set_cons_zero, List.set_cons_succ]
          refine wpAnyH_take (i := 12) (oi := { dst := some 35, op := Op.pick (Operand.tmp 26) (Operand.tmp 34) (Operand.const (Value.bool false)), type := 4, pos := "change.go:31", after := #[{ on := 3, ground := Ground.data }, { on := 11, ground := Ground.data }], guard := none }) (v := ?_) rfl (by kernel_rfl) (by kernel_rfl) (by kernel_rfl) (fun _ _ _ h => h) (Or.inl ⟨by rfl, ?_⟩) (by assumption) ?_
          rotate_left
          · (intro w hSw; (try dsimp only at hSw); go_simp; try with_reducible rfl)
          try simp only [Act.put, List.setIfInBounds_toArray, List.set_cons_zero, List.set_cons_succ]
          refine wpAnyH_done (by kernel_rfl) ?_ _
          refine NoPanic.normal ?_
          have BZ := Lib.hid (BW.out.trans (hH.2.1.out.mono (by rw [HN.out, HZ3.out]; omega)) : Below wr.heap.size wr W_2)
          have r0 := (hH.1 wr.heap.size 0 lC).trans a0
          have r1 := (hH.1 wr.heap.size 1 lC).trans a1
          have r2 := (hH.1 wr.heap.size 2 lC).trans a2
          have r3 := (hH.1 wr.heap.size 3 lC).trans a3
          have r4 := (hH.1 wr.heap.size 4 lC).trans a4
          have r5 := (hH.1 wr.heap.size 5 lC).trans a5
          have r6 := (hH.1 wr.heap.size 6 lC).trans a6
          clear S0 hH x0 x1 x2 x3 x4 x5 x6 x7 z0 z1 z2 z3 z4 z5 z6 z7 a0 a1 a2 a3 a4 a5 a6
          have hpl := take_len l (chB A B) j
          obtain ⟨nn, hnn⟩ : ∃ nn, ((l.take j).filter (chB A B)).length = nn := ⟨_, rfl⟩
          have hown : Hid ((W_2.alloc (.cells (ac ⟨nm, tk, t2, nd, false, an, ow⟩) 31)).ownsRow w1.heap.size 31 7 v nn (acs ((l.take j).filter (chB A B)))) := by
            have := (own_below HRel.out.1 BZ.out (Nat.le_refl _)).alloc (.cells (ac ⟨nm, tk, t2, nd, false, an, ow⟩) 31)
            rw [hnn] at this
            exact this
          have hbz := BZ.out.size
          rw [hnn] at hpl
          have HNN := Lib.hid hnn
          clear hnn
          go_wp2_with (at_builtin; go_must (refine wpList_append_lies _ rfl (.tmp 36) (.tmp 38) 23 rfl w1.heap.size 31 i31 _ 7 40 Tryd.underlying23 hi hz hs1 hb1' rfl (by omega) v nn (acs ((l.take j).filter (chB A B))) rfl hown.out ⟨W_2.heap.size, 0, none⟩ 1 1 (atL ⟨nm, tk, t2, nd, false, an, ow⟩) rfl rfl (World.news_of_block (heap_alloc_new _ _)) (atL_one _) (by omega) (by unfold maxLen; omega) (by omega) (by simp; omega) (W_2.heap.size + 1) (by simp) ?_))
          intro g2 cap2 w5 hown2 hgrow hat hlt2
          have HE2 := Lib.hid (And.intro hown2 hgrow)
          clear hown2 hgrow hat
          go_wp2_with fail
          go_roundw
          case rel => exact ⟨j + 1, _, by omega, by go_num, rfl, HST.out _ _ _ _ _ HP.out HNN.out (bal BZ.out (.cells (ac ⟨nm, tk, t2, nd, false, an, ow⟩) 31)) HE2.out.1 HE2.out.2⟩
          case measure => simp [intOf]; omega
    · have hjl : j = l.length := by omega
      have HF := Lib.hid HRel.out.1
      rw [hjl, List.take_of_length_le (Nat.le_refl _)] at HF
      obtain ⟨oo, cc, rfl, hRR⟩ := own_row HF.out rfl
      have hP := Lib.hid (hRR.mono (P' := Fr w wr) fun b hb => ⟨by omega, hb.2⟩)
      have BZ := Lib.hid (HB0.out.trans (BR.out.mono (Nat.le_of_lt hwl)))
      clear hRR HF
      go_wp2_with fail
      go_ret
      exact ⟨oo, cc, rfl, hP.out, BZ.out⟩
end Go.Proofs.YtfmgbhaldakpfaaDoor

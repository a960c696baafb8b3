/- What differs: the reference's Changed; Changed, Anew. -/
import Derived.Test.YtfmgbhaldakpfaaDoorCc
namespace Go.Proofs.YtfmgbhaldakpfaaDoor
open Go.RowKit

/-- names as cells -/
def ncs (l : List Atr) : List Value := l.map fun a => Value.string a.nm
/-- the names of those of the first j that differ -/
def PnRel (l : List Atr) (p : Atr → Bool) (w1 : World) (j : Nat) (v : Value) (wr : World) : Prop := wr.ownsRow w1.heap.size 9 1 v ((l.take j).filter p).length (ncs ((l.take j).filter p)) ∧ Below w1.heap.size w1 wr
theorem PnRel.skip {l : List Atr} {p : Atr → Bool} {w1 wr w2 : World} {j : Nat} {v : Value} (h : PnRel l p w1 j v wr) (hj : j < l.length) (hp : p (aa l j) = false) (hb : Below wr.heap.size wr w2) : PnRel l p w1 (j + 1) v w2 := by
  unfold PnRel
  rw [take_no hj hp]
  exact ⟨own_below h.1 hb (Nat.le_refl _), h.2.trans (hb.mono h.2.size)⟩
theorem PnRel.step {l : List Atr} {p : Atr → Bool} {w1 wr w2 w3 : World} {j n g cap : Nat} {v : Value} (h : PnRel l p w1 j v wr) (hj : j < l.length) (hp : p (aa l j) = true) (hn : ((l.take j).filter p).length = n) (hb : Below wr.heap.size wr w2)
    (hown : w3.ownsRow w1.heap.size 9 1 (.slice (some ⟨g, 0, none⟩) (n + 1) cap) (n + 1) (ncs ((l.take j).filter p) ++ [.string (aa l j).nm])) (hg : w2.grownBy w3 v.ownBlock) : PnRel l p w1 (j + 1) (.slice (some ⟨g, 0, none⟩) (n + 1) cap) w3 := by
  subst hn
  unfold PnRel
  rw [take_yes hj hp, List.length_append, show ncs ((l.take j).filter p ++ [aa l j]) = ncs ((l.take j).filter p) ++ [.string (aa l j).nm] by simp [ncs]]
  exact ⟨hown, (h.2.trans (hb.mono h.2.size)).grown hg (Nat.le_trans h.2.size hb.size) (fun g hg => (h.1.lt g hg).1)⟩
/-- a row of names of the call's own, as it is read -/
theorem own_names {w : World} {B n : Nat} {v : Value} {l : List Atr} (h : w.ownsRow B 9 1 v n (ncs l)) (hn : n = l.length) : ∃ o cap, v = .slice o (l.map (·.nm)).length cap ∧ RowP (fun b => B ≤ b ∧ b < w.heap.size) w o cap (l.map (·.nm)).length 1 (fun j _ => .string ((l.map (·.nm)).getD j default)) := by
  subst hn
  have hlm : (l.map (·.nm)).length = l.length := by simp
  rw [hlm]
  rcases h.2 with ⟨rfl, h0⟩ | ⟨g, cap, cur, rfl, hg, hgg, rest⟩
  · rw [h0]; exact ⟨none, 0, rfl, RowP.nil _ _ _ _⟩
  · have hlt := (h.lt g rfl).2
    refine ⟨some ⟨g, 0, none⟩, cap, rfl, rest.1, rest.2.1, fun e => (by cases e), fun hl => ⟨g, 0, rfl, ⟨hg, hlt⟩, fun j hj m hm => ?_⟩⟩
    obtain rfl : m = 0 := by omega
    have := h.cells (g := g) rfl j (.string ((l.map (·.nm)).getD j default)) (by
      unfold ncs
      rw [List.getElem?_map, List.getElem?_eq_getElem hj, List.getD_eq_getElem?_getD, List.getElem?_map, List.getElem?_eq_getElem hj]; rfl)
    have ea : (⟨g, 0, none⟩ : Addr).add j = ⟨g, 0 + j * 1 + 0, none⟩ := by unfold Addr.add; split <;> simp_all
    rw [ea] at this
    exact this
/-- names in a new row -/
def NmsPost (l : List Atr) (w : World) (e : Ending) (w' : World) : Prop := ∃ o cap, e = .returned (.slice o (l.map (·.nm)).length cap) ∧ RowP (Fr w w') w' o cap (l.map (·.nm)).length 1 (fun j _ => .string ((l.map (·.nm)).getD j default)) ∧ Below w.heap.size w w'
theorem info9n : (Tryd.prog.info? 9).map (fun i => (i.zero, i.size, i.bytes)) = some (some (.string ⟨#[]⟩), 1, 16) := by kernel_rfl
set_option maxHeartbeats 16000000 in
set_option maxRecDepth 100000 in
theorem rchanged_any {n : Nat} {A B : Val} {va vb : Value} {w : World} (t : ByteArray) (hsA : sz A ≤ 50000) (hsB : sz B ≤ 50000) (hkA : A.k = 5 → A.ks.length = A.l.length) (hkB : B.k = 5 → B.ks.length = B.l.length) (hA : Lies n w A va) (hB : Lies n w B vb) (hn : n ≤ w.heap.size) :
    Calls Tryd.prog 21 #[.string t, va, vb] w (NmsPost ((attrs t).filter (chB A B)) w) := by
  obtain ⟨oLa, oKa, cLa, cKa, ca, rfl, OA⟩ := hA.inv
  obtain ⟨oLb, oKb, cLb, cKb, cb, rfl, OB⟩ := hB.inv
  have b0 : Below w.heap.size w ((w.alloc (bx A oLa oKa cLa cKa)).alloc (bx B oLb oKb cLb cKb)) := bal (bal (Below.refl _ _) _) _
  have HB0 := Lib.hid b0
  have LA := Lib.hid (OA.kept (b0.mono hn)).lies
  have LB := Lib.hid (OB.kept (b0.mono hn)).lies
  have XA := Lib.hid ((Hd.made w A (.slice oLa A.l.length cLa) (.slice oKa A.ks.length cKa)).kept ((Below.refl (w.heap.size + 1) _).alloc (by simp) (bx B oLb oKb cLb cKb)) (Nat.lt_succ_self _))
  have XB : Hid (Hd ((w.alloc (bx A oLa oKa cLa cKa)).alloc (bx B oLb oKb cLb cKb)) (w.heap.size + 1) B (.slice oLb B.l.length cLb) (.slice oKb B.ks.length cKb)) := by have := Hd.made (w.alloc (bx A oLa oKa cLa cKa)) B (.slice oLb B.l.length cLb) (.slice oKb B.ks.length cKb); rw [World.size_alloc] at this; exact this
  have HS : Hid (((w.alloc (bx A oLa oKa cLa cKa)).alloc (bx B oLb oKb cLb cKb)).heap.size = w.heap.size + 2) := by simp [Hid]
  have HAt := Lib.hid (rattrs_any t ((w.alloc (bx A oLa oKa cLa cKa)).alloc (bx B oLb oKb cLb cKb)))
  have CEA : Hid (∀ (s : ByteArray) (W : World), Below w.heap.size ((w.alloc (bx A oLa oKa cLa cKa)).alloc (bx B oLb oKb cLb cKb)) W → Calls Tryd.prog 28 #[vv A.k A.i A.s (.slice oLa A.l.length cLa) (.slice oKa A.ks.length cKa) A.tk A.to A.x, .string s] W (FrPost n (elt A s) W)) := fun s W hW => relem_any s hkA (LA.out.kept (hW.mono hn)) (by have := hW.size; simp at this; omega)
  have CEB : Hid (∀ (s : ByteArray) (W : World), Below w.heap.size ((w.alloc (bx A oLa oKa cLa cKa)).alloc (bx B oLb oKb cLb cKb)) W → Calls Tryd.prog 28 #[vv B.k B.i B.s (.slice oLb B.l.length cLb) (.slice oKb B.ks.length cKb) B.tk B.to B.x, .string s] W (FrPost n (elt B s) W)) := fun s W hW => relem_any s hkB (LB.out.kept (hW.mono hn)) (by have := hW.size; simp at this; omega)
  have CLK : Hid (∀ (X Y : Val) (W0 W1 : World) (p1 p3 q1 q3 : Option Addr) (d1 d3 e1 e3 : Nat) (dd ee : Nat → Nat → Value), Opn n W0 X p1 p3 d1 d3 dd → n ≤ W0.heap.size → Below W0.heap.size W0 W1 → Opn n W1 Y q1 q3 e1 e3 ee → Calls Tryd.prog 24 #[vv X.k X.i X.s (.slice p1 X.l.length d1) (.slice p3 X.ks.length d3) X.tk X.to X.x, vv Y.k Y.i Y.s (.slice q1 Y.l.length e1) (.slice q3 Y.ks.length e3) Y.tk Y.to Y.x, .bool false] W1 fun e w' => e = .returned (.bool (likeV X Y)) ∧ Below W1.heap.size W1 w') :=
    fun X Y W0 W1 p1 p3 q1 q3 d1 d3 e1 e3 dd ee hX h0 hb hY => same2_any (sz X + sz Y) n X Y _ _ W1 (Nat.le_refl _) (hX.kept (hb.mono h0)).lies hY.lies (Nat.le_trans h0 hb.size)
  have HL19 := attrs_len t
  obtain ⟨i9, hi, hzz⟩ := Option.map_eq_some_iff.1 info9n
  simp only [Prod.mk.injEq] at hzz
  obtain ⟨hz, hs1, hb1'⟩ := hzz
  clear hA hB OA OB b0 hkA hkB hsA hsB
  go_enter Tryd.func21, Tryd.ntmps21
  go_upto_region 1 with (fail)
  generalize (w.alloc _).alloc _ = w0 at *
  have hwl : w.heap.size < w0.heap.size := by rw [HS.out]; omega
  have hwl2 : w.heap.size + 1 < w0.heap.size := by rw [HS.out]; omega
  go_wp2_with fail
  refine HAt.out.mono ?_
  rintro e w1 ⟨o, cap, rfl, hR, hb1⟩
  obtain ⟨l, hl⟩ : ∃ l, attrs t = l := ⟨_, rfl⟩
  rw [hl] at hR HL19 ⊢
  have HLE := Lib.hid hl
  clear hl
  have B1 := Lib.hid hb1
  have HR := Lib.hid (hR.mono (P' := fun b => b < w1.heap.size) fun b hb => hb.2)
  clear hb1 hR HAt
  have k1 := HR.out.1
  have k2 := HR.out.2.1
  unfold maxLen at k2
  have hz1 := B1.out.size
  have HA0 : Hid (PnRel l (chB A B) w1 0 (.slice none 0 0) w1) := ⟨World.ownsRow_nil _ _ _ _, Below.refl _ _⟩
  go_wp2_with fail
  go_loopw [8, 9] (fun x i wr => ∃ (j : Nat) (v : Value), j ≤ l.length ∧ i = .int .i64 j ∧ x = v ∧ Hid (PnRel l (chB A B) w1 j v wr)) (fun _ i _ => l.length - (intOf i).toNat)
  case atStart => exact ⟨0, _, Nat.zero_le _, rfl, rfl, HA0⟩
  case round =>
    obtain ⟨j, v, hj, rfl, hv, HRel⟩ := hrel
    obtain rfl := hv.symm
    have hzr := HRel.out.2.size
    have BR := Lib.hid (B1.out.trans (HRel.out.2.mono hz1))
    by_cases hlt : j < l.length
    · obtain ⟨b1, off1, rfl, hb1, E1⟩ := AtRow.el (RowP.below HR.out HRel.out.2) hlt
      have HST := Lib.hid (fun (w2 w3 : World) (nn g cc : Nat) hp hn hb hown hg => PnRel.step (w2 := w2) (w3 := w3) (n := nn) (g := g) (cap := cc) HRel.out hlt hp hn hb hown hg)
      have HSK := Lib.hid (fun (w2 : World) hp hb => PnRel.skip (w2 := w2) HRel.out hlt hp hb)
      obtain ⟨a, ha⟩ : ∃ a, aa l j = a := ⟨_, rfl⟩
      rw [ha] at E1 HST HSK
      clear ha
      obtain ⟨nm, tk, t2, nd, cm, an, ow⟩ := a
      obtain ⟨y0, y1, y2, y3, y4, y5, y6⟩ := E1
      have hlt' : (j : Int) < (l.length : Int) := by omega
      have hnr : n ≤ wr.heap.size := by have := BR.out.size; omega
      have HCH : Hid (chB A B ⟨nm, tk, t2, nd, cm, an, ow⟩ = (!cm && !likeV (elt A nm) (elt B nm))) := rfl
      have CA1 := Lib.hid (CEA.out nm)
      have CB1 := Lib.hid (CEB.out nm)
      have CL1 := Lib.hid (CLK.out (elt A nm) (elt B nm))
      generalize elt A nm = X at *
      generalize elt B nm = Y at *
      obtain ⟨lk, hlk⟩ : ∃ b, likeV X Y = b := ⟨_, rfl⟩
      rw [hlk] at HCH CL1
      clear hlk
      go_upto_region 6 with (fail)
      obtain ⟨x8, x0, x1, x2, x3, x4, x5, x6, x7⟩ := XA.out.kept BR.out hwl
      obtain ⟨z8, z0, z1, z2, z3, z4, z5, z6, z7⟩ := XB.out.kept BR.out hwl2
      have hb1w : b1 < wr.heap.size := by omega
      obtain ⟨N, hN⟩ : ∃ N, N = wr.heap.size := ⟨_, rfl⟩
      have S0 := held_at hN
      have lA : w.heap.size < N := by rw [hN]; have := BR.out.size; omega
      have lB : w.heap.size + 1 < N := by rw [hN]; have := BR.out.size; omega
      have lC : b1 < N := by rw [hN]; exact hb1w
      have HN := Lib.hid hN
      have LW : Hid (∀ W, Below N wr W → Below w.heap.size w0 W) := fun W hW => (BR.out.mono (Nat.le_of_lt hwl)).trans (hW.mono (Nat.le_of_lt lA))
      clear hN
      cases cm with
      | true =>
        have HP : Hid (chB A B ⟨nm, tk, t2, nd, true, an, ow⟩ = false) := HCH.out
        refine wp_region_noPanic ?_
        refine wp_region_held_drew (S := (fun W => (∀ b o, b < N → W.cell? ⟨b, o, none⟩ = wr.cell? ⟨b, o, none⟩) ∧ Hid (Below N wr W) ∧ Hid (N ≤ W.heap.size))) (by kernel_rfl) ?_ (fun hH => ?_)
        · exact S0
        refine wpAnyH_take (i := 0) (oi := { dst := some 18, op := Op.move (Operand.tmp 7), type := 23, pos := "ref.go:148", after := #[], guard := none }) (v := ?_) rfl (by kernel_rfl) (by kernel_rfl) (by kernel_rfl) (fun _ _ _ h => h) (Or.inl ⟨by rfl, ?_⟩) (by assumption) ?_
        rotate_left
        · (intro w hSw; (try dsimp only at hSw); go_simp; try with_reducible rfl)
        try simp only [Act.put, List.setIfInBounds_toArray, List.set_cons_zero, List.set_cons_succ]
        refine wpAnyH_take (i := 1) (oi := { dst := some 19, op := Op.move (Operand.tmp 9), type := 3, pos := "ref.go:148", after := #[], guard := none }) (v := ?_) rfl (by kernel_rfl) (by kernel_rfl) (by kernel_rfl) (fun _ _ _ h => h) (Or.inl ⟨by rfl, ?_⟩) (by assumption) ?_
        rotate_left
        · (intro w hSw; (try dsimp only at hSw); go_simp; try with_reducible rfl)
        try simp only [Act.put, List.setIfInBounds_toArray, List.set_cons_zero, List.set_cons_succ]
        refine wpAnyH_take (i := 2) (oi := { dst := some 20, op := Op.indexAddr 23 (Operand.tmp 18) (Operand.tmp 19), type := 0, pos := "ref.go:148", after := #[{ on := 0, ground := Ground.data }, { on := 1, ground := Ground.data }], guard := none }) (v := ?_) rfl (by kernel_rfl) (by kernel_rfl) (by kernel_rfl) (fun _ _ _ h => h) (Or.inl ⟨by rfl, ?_⟩) (by assumption) ?_
        rotate_left
        · (intro w hSw; (try dsimp only at hSw); go_simp; try with_reducible rfl)
        try simp only [Act.put, List.setIfInBounds_toArray, List.set_cons_zero, List.set_cons_succ]
        refine wpAnyH_take (i := 3) (oi := { dst := some 21, op := Op.fieldAddr 31 (Operand.tmp 20) 3, type := 0, pos := "ref.go:148", after := #[{ on := 2, ground := Ground.data }], guard := none }) (v := ?_) rfl (by kernel_rfl) (by kernel_rfl) (by kernel_rfl) (fun _ _ _ h => h) (Or.inl ⟨by rfl, ?_⟩) (by assumption) ?_
        rotate_left
        · (intro w hSw; (try dsimp only at hSw); go_simp; try with_reducible rfl)
        try simp only [Act.put, List.setIfInBounds_toArray, List.set_cons_zero, List.set_cons_succ]
        refine wpAnyH_take (i := 4) (oi := { dst := some 22, op := Op.load 4 (Operand.tmp 21), type := 4, pos := "ref.go:148", after := #[{ on := 3, ground := Ground.data }], guard := none }) (v := ?_) rfl (by kernel_rfl) (by kernel_rfl) (by kernel_rfl) (fun _ _ _ h => h) (Or.inl ⟨by rfl, ?_⟩) (by assumption) ?_
        rotate_left
        · (intro w hSw; (try dsimp only at hSw); go_simp; try with_reducible rfl)
        try simp only [Act.put, List.setIfInBounds_toArray, List.set_cons_zero, List.set_cons_succ]
        refine wpAnyH_take (i := 5) (oi := { dst := some 23, op := Op.unOp UnOp.not 4 (Operand.tmp 22), type := 4, pos := "ref.go:148", after := #[{ on := 4, ground := Ground.data }], guard := none }) (v := ?_) rfl (by kernel_rfl) (by kernel_rfl) (by kernel_rfl) (fun _ _ _ h => h) (Or.inl ⟨by rfl, ?_⟩) (by assumption) ?_
        rotate_left
        · (intro w hSw; (try dsimp only at hSw); go_simp; try with_reducible rfl)
        try simp only [Act.put, List.setIfInBounds_toArray, List.set_cons_zero, List.set_cons_succ]
        refine wpAnyH_take (i := 6) (oi := { dst := some 24, op := Op.move (Operand.tmp 23), type := 4, pos := "ref.go:148", after := #[{ on := 5, ground := Ground.data }], guard := none }) (v := ?_) rfl (by kernel_rfl) (by kernel_rfl) (by kernel_rfl) (fun _ _ _ h => h) (Or.inl ⟨by rfl, ?_⟩) (by assumption) ?_
        rotate_left
        · (intro w hSw; (try dsimp only at hSw); go_simp; try with_reducible rfl)
        try simp only [Act.put, List.setIfInBounds_toArray, List.set_cons_zero, List.set_cons_succ]
        refine wpAnyH_take (i := 7) (oi := { dst := some 25, op := Op.load 42 (Operand.tmp 4), type := 42, pos := "ref.go:148", after := #[{ on := 6, ground := Ground.guard }], guard := some (6, true) }) (v := undef) rfl (by kernel_rfl) (by kernel_rfl) (by kernel_rfl) (fun _ _ _ h => h) (Or.inr ⟨by rfl, rfl⟩) (by assumption) ?_
        try simp only [Act.put, List.setIfInBounds_toArray, List.set_cons_zero, List.set_cons_succ]
        refine wpAnyH_take (i := 8) (oi := { dst := some 26, op := Op.move (Operand.tmp 7), type := 23, pos := "ref.go:148", after := #[{ on := 6, ground := Ground.guard }], guard := some (6, true) }) (v := undef) rfl (by kernel_rfl) (by kernel_rfl) (by kernel_rfl) (fun _ _ _ h => h) (Or.inr ⟨by rfl, rfl⟩) (by assumption) ?_
        try simp only [Act.put, List.setIfInBounds_toArray, List.set_cons_zero, List.set_cons_succ]
        refine wpAnyH_take (i := 9) (oi := { dst := some 27, op := Op.move (Operand.tmp 9), type := 3, pos := "ref.go:148", after := #[{ on := 6, ground := Ground.guard }], guard := some (6, true) }) (v := undef) rfl (by kernel_rfl) (by kernel_rfl) (by kernel_rfl) (fun _ _ _ h => h) (Or.inr ⟨by rfl, rfl⟩) (by assumption) ?_
        try simp only [Act.put, List.setIfInBounds_toArray, List.set_cons_zero, List.set_cons_succ]
        refine wpAnyH_take (i := 10) (oi := { dst := some 28, op := Op.indexAddr 23 (Operand.tmp 26) (Operand.tmp 27), type := 0, pos := "ref.go:148", after := #[{ on := 8, ground := Ground.data }, { on := 9, ground := Ground.data }, { on := 6, ground := Ground.guard }], guard := some (6, true) }) (v := undef) rfl (by kernel_rfl) (by kernel_rfl) (by kernel_rfl) (fun _ _ _ h => h) (Or.inr ⟨by rfl, rfl⟩) (by assumption) ?_
        try simp only [Act.put, List.setIfInBounds_toArray, List.set_cons_zero, List.set_cons_succ]
        refine wpAnyH_take (i := 11) (oi := { dst := some 29, op := Op.fieldAddr 31 (Operand.tmp 28) 0, type := 0, pos := "ref.go:148", after := #[{ on := 10, ground := Ground.data }, { on := 6, ground := Ground.guard }], guard := some (6, true) }) (v := undef) rfl (by kernel_rfl) (by kernel_rfl) (by kernel_rfl) (fun _ _ _ h => h) (Or.inr ⟨by rfl, rfl⟩) (by assumption) ?_
        try simp only [Act.put, List.setIfInBounds_toArray, List.set_cons_zero, List.set_cons_succ]
        refine wpAnyH_take (i := 12) (oi := { dst := some 30, op := Op.load 9 (Operand.tmp 29), type := 9, pos := "ref.go:148", after := #[{ on := 11, ground := Ground.data }, { on := 6, ground := Ground.guard }], guard := some (6, true) }) (v := undef) rfl (by kernel_rfl) (by kernel_rfl) (by kernel_rfl) (fun _ _ _ h => h) (Or.inr ⟨by rfl, rfl⟩) (by assumption) ?_
        try simp only [Act.put, List.setIfInBounds_toArray, List.set_cons_zero, List.set_cons_succ]
        refine wpAnyH_take (i := 13) (oi := { dst := some 31, op := Op.call { callee := Callee.value (Operand.func 28), args := #[Operand.tmp 25, Operand.tmp 30], argTypes := #[42, 9] }, type := 42, pos := "ref.go:148", after := #[{ on := 7, ground := Ground.data }, { on := 12, ground := Ground.data }, { on := 6, ground := Ground.chain }, { on := 6, ground := Ground.guard }], guard := some (6, true) }) (v := undef) rfl (by kernel_rfl) (by kernel_rfl) (by kernel_rfl) (fun _ _ _ h => h) (Or.inr ⟨by rfl, rfl⟩) (by assumption) ?_
        try simp only [Act.put, List.setIfInBounds_toArray, List.set_cons_zero, List.set_cons_succ]
        refine wpAnyH_take (i := 14) (oi := { dst := some 32, op := Op.load 42 (Operand.tmp 5), type := 42, pos := "ref.go:148", after := #[{ on := 6, ground := Ground.guard }], guard := some (6, true) }) (v := undef) rfl (by kernel_rfl) (by kernel_rfl) (by kernel_rfl) (fun _ _ _ h => h) (Or.inr ⟨by rfl, rfl⟩) (by assumption) ?_
        try simp only [Act.put, List.setIfInBounds_toArray, List.set_cons_zero, List.set_cons_succ]
        refine wpAnyH_take (i := 15) (oi := { dst := some 33, op := Op.move (Operand.tmp 7), type := 23, pos := "ref.go:148", after := #[{ on := 6, ground := Ground.guard }], guard := some (6, true) }) (v := undef) rfl (by kernel_rfl) (by kernel_rfl) (by kernel_rfl) (fun _ _ _ h => h) (Or.inr ⟨by rfl, rfl⟩) (by assumption) ?_
        try simp only [Act.put, List.setIfInBounds_toArray, List.set_cons_zero, List.set_cons_succ]
        refine wpAnyH_take (i := 16) (oi := { dst := some 34, op := Op.move (Operand.tmp 9), type := 3, pos := "ref.go:148", after := #[{ on := 6, ground := Ground.guard }], guard := some (6, true) }) (v := undef) rfl (by kernel_rfl) (by kernel_rfl) (by kernel_rfl) (fun _ _ _ h => h) (Or.inr ⟨by rfl, rfl⟩) (by assumption) ?_
        try simp only [Act.put, List.setIfInBounds_toArray, List.set_cons_zero, List.set_cons_succ]
        refine wpAnyH_take (i := 17) (oi := { dst := some 35, op := Op.indexAddr 23 (Operand.tmp 33) (Operand.tmp 34), type := 0, pos := "ref.go:148", after := #[{ on := 15, ground := Ground.data }, { on := 16, ground := Ground.data }, { on := 6, ground := Ground.guard }], guard := some (6, true) }) (v := undef) rfl (by kernel_rfl) (by kernel_rfl) (by kernel_rfl) (fun _ _ _ h => h) (Or.inr ⟨by rfl, rfl⟩) (by assumption) ?_
        try simp only [Act.put, List.setIfInBounds_toArray, List.set_cons_zero, List.set_cons_succ]
        refine wpAnyH_take (i := 18) (oi := { dst := some 36, op := Op.fieldAddr 31 (Operand.tmp 35) 0, type := 0, pos := "ref.go:148", after := #[{ on := 17, ground := Ground.data }, { on := 6, ground := Ground.guard }], guard := some (6, true) }) (v := undef) rfl (by kernel_rfl) (by kernel_rfl) (by kernel_rfl) (fun _ _ _ h => h) (Or.inr ⟨by rfl, rfl⟩) (by assumption) ?_
        try simp only [Act.put, List.setIfInBounds_toArray, List.set_cons_zero, List.set_cons_succ]
        refine wpAnyH_take (i := 19) (oi := { dst := some 37, op := Op.load 9 (Operand.tmp 36), type := 9, pos := "ref.go:148", after := #[{ on := 18, ground := Ground.data }, { on := 6, ground := Ground.guard }], guard := some (6, true) }) (v := undef) rfl (by kernel_rfl) (by kernel_rfl) (by kernel_rfl) (fun _ _ _ h => h) (Or.inr ⟨by rfl, rfl⟩) (by assumption) ?_
        try simp only [Act.put, List.setIfInBounds_toArray, List.set_cons_zero, List.set_cons_succ]
        refine wpAnyH_take (i := 20) (oi := { dst := some 38, op := Op.call { callee := Callee.value (Operand.func 28), args := #[Operand.tmp 32, Operand.tmp 37], argTypes := #[42, 9] }, type := 42, pos := "ref.go:148", after := #[{ on := 14, ground := Ground.data }, { on := 19, ground := Ground.data }, { on := 13, ground := Ground.chain }, { on := 6, ground := Ground.guard }], guard := some (6, true) }) (v := undef) rfl (by kernel_rfl) (by kernel_rfl) (by kernel_rfl) (fun _ _ _ h => h) (Or.inr ⟨by rfl, rfl⟩) (by assumption) ?_
        try simp only [Act.put, List.setIfInBounds_toArray, List.set_cons_zero, List.set_cons_succ]
        refine wpAnyH_take (i := 21) (oi := { dst := some 39, op := Op.call { callee := Callee.value (Operand.func 24), args := #[Operand.tmp 31, Operand.tmp 38, Operand.const (Value.bool false)], argTypes := #[42, 42, 4] }, type := 4, pos := "ref.go:148", after := #[{ on := 13, ground := Ground.data }, { on := 20, ground := Ground.data }, { on := 20, ground := Ground.chain }, { on := 6, ground := Ground.guard }], guard := some (6, true) }) (v := undef) rfl (by kernel_rfl) (by kernel_rfl) (by kernel_rfl) (fun _ _ _ h => h) (Or.inr ⟨by rfl, rfl⟩) (by assumption) ?_
        try simp only [Act.put, List.setIfInBounds_toArray, List.set_cons_zero, List.set_cons_succ]
        refine wpAnyH_take (i := 22) (oi := { dst := some 40, op := Op.unOp UnOp.not 4 (Operand.tmp 39), type := 4, pos := "ref.go:148", after := #[{ on := 21, ground := Ground.data }, { on := 6, ground := Ground.guard }], guard := some (6, true) }) (v := undef) rfl (by kernel_rfl) (by kernel_rfl) (by kernel_rfl) (fun _ _ _ h => h) (Or.inr ⟨by rfl, rfl⟩) (by assumption) ?_
        try simp only [Act.put, List.setIfInBounds_toArray, List.set_cons_zero, List.set_cons_succ]
        refine wpAnyH_take (i := 23) (oi := { dst := some 41, op := Op.pick (Operand.tmp 24) (Operand.tmp 40) (Operand.const (Value.bool false)), type := 4, pos := "ref.go:148", after := #[{ on := 6, ground := Ground.data }, { on := 22, ground := Ground.data }], guard := none }) (v := ?_) rfl (by kernel_rfl) (by kernel_rfl) (by kernel_rfl) (fun _ _ _ h => h) (Or.inl ⟨by rfl, ?_⟩) (by assumption) ?_
        rotate_left
        · (intro w hSw; (try dsimp only at hSw); go_simp; try with_reducible rfl)
        try simp only [Act.put, List.setIfInBounds_toArray, List.set_cons_zero, List.set_cons_succ]
        refine wpAnyH_done (by kernel_rfl) ?_ _
        refine NoPanic.normal ?_
        have BZ := Lib.hid (hH.2.1.out.mono (by rw [HN.out]; exact Nat.le_refl _) : Below wr.heap.size wr _)
        clear S0 hH x0 x1 x2 x3 x4 x5 x6 x7 z0 z1 z2 z3 z4 z5 z6 z7 y0 y1 y2 y3 y4 y5 y6
        go_wp2_with fail
        go_roundw
        case rel => exact ⟨j + 1, _, by omega, by go_num, rfl, HSK.out _ HP.out BZ.out⟩
        case measure => simp [intOf]; omega
      | false =>
        cases lk with
        | true =>
          have HP : Hid (chB A B ⟨nm, tk, t2, nd, false, an, ow⟩ = false) := HCH.out
          refine wp_region_noPanic ?_
          refine wp_region_held_drew (S := (fun W => (∀ b o, b < N → W.cell? ⟨b, o, none⟩ = wr.cell? ⟨b, o, none⟩) ∧ Hid (Below N wr W) ∧ Hid (N ≤ W.heap.size))) (by kernel_rfl) ?_ (fun hH => ?_)
          · exact S0
          refine wpAnyH_take (i := 0) (oi := { dst := some 18, op := Op.move (Operand.tmp 7), type := 23, pos := "ref.go:148", after := #[], guard := none }) (v := ?_) rfl (by kernel_rfl) (by kernel_rfl) (by kernel_rfl) (fun _ _ _ h => h) (Or.inl ⟨by rfl, ?_⟩) (by assumption) ?_
          rotate_left
          · (intro w hSw; (try dsimp only at hSw); go_simp; try with_reducible rfl)
          try simp only [Act.put, List.setIfInBounds_toArray, List.set_cons_zero, List.set_cons_succ]
          refine wpAnyH_take (i := 1) (oi := { dst := some 19, op := Op.move (Operand.tmp 9), type := 3, pos := "ref.go:148", after := #[], guard := none }) (v := ?_) rfl (by kernel_rfl) (by kernel_rfl) (by kernel_rfl) (fun _ _ _ h => h) (Or.inl ⟨by rfl, ?_⟩) (by assumption) ?_
          rotate_left
          · (intro w hSw; (try dsimp only at hSw); go_simp; try with_reducible rfl)
          try simp only [Act.put, List.setIfInBounds_toArray, List.set_cons_zero, List.set_cons_succ]
          refine wpAnyH_take (i := 2) (oi := { dst := some 20, op := Op.indexAddr 23 (Operand.tmp 18) (Operand.tmp 19), type := 0, pos := "ref.go:148", after := #[{ on := 0, ground := Ground.data }, { on := 1, ground := Ground.data }], guard := none }) (v := ?_) rfl (by kernel_rfl) (by kernel_rfl) (by kernel_rfl) (fun _ _ _ h => h) (Or.inl ⟨by rfl, ?_⟩) (by assumption) ?_
          rotate_left
          · (intro w hSw; (try dsimp only at hSw); go_simp; try with_reducible rfl)
          try simp only [Act.put, List.setIfInBounds_toArray, List.set_cons_zero, List.set_cons_succ]
          refine wpAnyH_take (i := 3) (oi := { dst := some 21, op := Op.fieldAddr 31 (Operand.tmp 20) 3, type := 0, pos := "ref.go:148", after := #[{ on := 2, ground := Ground.data }], guard := none }) (v := ?_) rfl (by kernel_rfl) (by kernel_rfl) (by kernel_rfl) (fun _ _ _ h => h) (Or.inl ⟨by rfl, ?_⟩) (by assumption) ?_
          rotate_left
          · (intro w hSw; (try dsimp only at hSw); go_simp; try with_reducible rfl)
          try simp only [Act.put, List.setIfInBounds_toArray, List.set_cons_zero, List.set_cons_succ]
          refine wpAnyH_take (i := 4) (oi := { dst := some 22, op := Op.load 4 (Operand.tmp 21), type := 4, pos := "ref.go:148", after := #[{ on := 3, ground := Ground.data }], guard := none }) (v := ?_) rfl (by kernel_rfl) (by kernel_rfl) (by kernel_rfl) (fun _ _ _ h => h) (Or.inl ⟨by rfl, ?_⟩) (by assumption) ?_
          rotate_left
          · (intro w hSw; (try dsimp only at hSw); go_simp; try with_reducible rfl)
          try simp only [Act.put, List.setIfInBounds_toArray, List.set_cons_zero, List.set_cons_succ]
          refine wpAnyH_take (i := 5) (oi := { dst := some 23, op := Op.unOp UnOp.not 4 (Operand.tmp 22), type := 4, pos := "ref.go:148", after := #[{ on := 4, ground := Ground.data }], guard := none }) (v := ?_) rfl (by kernel_rfl) (by kernel_rfl) (by kernel_rfl) (fun _ _ _ h => h) (Or.inl ⟨by rfl, ?_⟩) (by assumption) ?_
          rotate_left
          · (intro w hSw; (try dsimp only at hSw); go_simp; try with_reducible rfl)
          try simp only [Act.put, List.setIfInBounds_toArray, List.set_cons_zero, List.set_cons_succ]
          refine wpAnyH_take (i := 6) (oi := { dst := some 24, op := Op.move (Operand.tmp 23), type := 4, pos := "ref.go:148", after := #[{ on := 5, ground := Ground.data }], guard := none }) (v := ?_) rfl (by kernel_rfl) (by kernel_rfl) (by kernel_rfl) (fun _ _ _ h => h) (Or.inl ⟨by rfl, ?_⟩) (by assumption) ?_
          rotate_left
          · (intro w hSw; (try dsimp only at hSw); go_simp; try with_reducible rfl)
          try simp only [Act.put, List.setIfInBounds_toArray, List.set_cons_zero, List.set_cons_succ]
          refine wpAnyH_take (i := 7) (oi := { dst := some 25, op := Op.load 42 (Operand.tmp 4), type := 42, pos := "ref.go:148", after := #[{ on := 6, ground := Ground.guard }], guard := some (6, true) }) (v := ?_) rfl (by kernel_rfl) (by kernel_rfl) (by kernel_rfl) (fun _ _ _ h => h) (Or.inl ⟨by rfl, ?_⟩) (by assumption) ?_
          rotate_left
          · (intro w hSw; (try dsimp only at hSw); go_simp; try with_reducible rfl)
          try simp only [Act.put, List.setIfInBounds_toArray, List.set_cons_zero, List.set_cons_succ]
          refine wpAnyH_take (i := 8) (oi := { dst := some 26, op := Op.move (Operand.tmp 7), type := 23, pos := "ref.go:148", after := #[{ on := 6, ground := Ground.guard }], guard := some (6, true) }) (v := ?_) rfl (by kernel_rfl) (by kernel_rfl) (by kernel_rfl) (fun _ _ _ h => h) (Or.inl ⟨by rfl, ?_⟩) (by assumption) ?_
          rotate_left
          · (intro w hSw; (try dsimp only at hSw); go_simp; try with_reducible rfl)
          try simp only [Act.put, List.setIfInBounds_toArray, List.set_cons_zero, List.set_cons_succ]
          refine wpAnyH_take (i := 9) (oi := { dst := some 27, op := Op.move (Operand.tmp 9), type := 3, pos := "ref.go:148", after := #[{ on := 6, ground := Ground.guard }], guard := some (6, true) }) (v := ?_) rfl (by kernel_rfl) (by kernel_rfl) (by kernel_rfl) (fun _ _ _ h => h) (Or.inl ⟨by rfl, ?_⟩) (by assumption) ?_
          rotate_left
          · (intro w hSw; (try dsimp only at hSw); go_simp; try with_reducible rfl)
          try simp only [Act.put, List.setIfInBounds_toArray, List.set_cons_zero, List.set_cons_succ]
          refine wpAnyH_take (i := 10) (oi := { dst := some 28, op := Op.indexAddr 23 (Operand.tmp 26) (Operand.tmp 27), type := 0, pos := "ref.go:148", after := #[{ on := 8, ground := Ground.data }, { on := 9, ground := Ground.data }, { on := 6, ground := Ground.guard }], guard := some (6, true) }) (v := ?_) rfl (by kernel_rfl) (by kernel_rfl) (by kernel_rfl) (fun _ _ _ h => h) (Or.inl ⟨by rfl, ?_⟩) (by assumption) ?_
          rotate_left
          · (intro w hSw; (try dsimp only at hSw); go_simp; try with_reducible rfl)
          try simp only [Act.put, List.setIfInBounds_toArray, List.set_cons_zero, List.set_cons_succ]
          refine wpAnyH_take (i := 11) (oi := { dst := some 29, op := Op.fieldAddr 31 (Operand.tmp 28) 0, type := 0, pos := "ref.go:148", after := #[{ on := 10, ground := Ground.data }, { on := 6, ground := Ground.guard }], guard := some (6, true) }) (v := ?_) rfl (by kernel_rfl) (by kernel_rfl) (by kernel_rfl) (fun _ _ _ h => h) (Or.inl ⟨by rfl, ?_⟩) (by assumption) ?_
          rotate_left
          · (intro w hSw; (try dsimp only at hSw); go_simp; try with_reducible rfl)
          try simp only [Act.put, List.setIfInBounds_toArray, List.set_cons_zero, List.set_cons_succ]
          refine wpAnyH_take (i := 12) (oi := { dst := some 30, op := Op.load 9 (Operand.tmp 29), type := 9, pos := "ref.go:148", after := #[{ on := 11, ground := Ground.data }, { on := 6, ground := Ground.guard }], guard := some (6, true) }) (v := ?_) rfl (by kernel_rfl) (by kernel_rfl) (by kernel_rfl) (fun _ _ _ h => h) (Or.inl ⟨by rfl, ?_⟩) (by assumption) ?_
          rotate_left
          · (intro w hSw; (try dsimp only at hSw); go_simp; try with_reducible rfl)
          try simp only [Act.put, List.setIfInBounds_toArray, List.set_cons_zero, List.set_cons_succ]
          refine wpAnyH_take (i := 14) (oi := { dst := some 32, op := Op.load 42 (Operand.tmp 5), type := 42, pos := "ref.go:148", after := #[{ on := 6, ground := Ground.guard }], guard := some (6, true) }) (v := ?_) rfl (by kernel_rfl) (by kernel_rfl) (by kernel_rfl) (fun _ _ _ h => h) (Or.inl ⟨by rfl, ?_⟩) (by assumption) ?_
          rotate_left
          · (intro w hSw; (try dsimp only at hSw); go_simp; try with_reducible rfl)
          try simp only [Act.put, List.setIfInBounds_toArray, List.set_cons_zero, List.set_cons_succ]
          refine wpAnyH_take (i := 15) (oi := { dst := some 33, op := Op.move (Operand.tmp 7), type := 23, pos := "ref.go:148", after := #[{ on := 6, ground := Ground.guard }], guard := some (6, true) }) (v := ?_) rfl (by kernel_rfl) (by kernel_rfl) (by kernel_rfl) (fun _ _ _ h => h) (Or.inl ⟨by rfl, ?_⟩) (by assumption) ?_
          rotate_left
          · (intro w hSw; (try dsimp only at hSw); go_simp; try with_reducible rfl)
          try simp only [Act.put, List.setIfInBounds_toArray, List.set_cons_zero, List.set_cons_succ]
          refine wpAnyH_take (i := 16) (oi := { dst := some 34, op := Op.move (Operand.tmp 9), type := 3, pos := "ref.go:148", after := #[{ on := 6, ground := Ground.guard }], guard := some (6, true) }) (v := ?_) rfl (by kernel_rfl) (by kernel_rfl) (by kernel_rfl) (fun _ _ _ h => h) (Or.inl ⟨by rfl, ?_⟩) (by assumption) ?_
          rotate_left
          · (intro w hSw; (try dsimp only at hSw); go_simp; try with_reducible rfl)
          try simp only [Act.put, List.setIfInBounds_toArray, List.set_cons_zero, List.set_cons_succ]
          refine wpAnyH_take (i := 17) (oi := { dst := some 35, op := Op.indexAddr 23 (Operand.tmp 33) (Operand.tmp 34), type := 0, pos := "ref.go:148", after := #[{ on := 15, ground := Ground.data }, { on := 16, ground := Ground.data }, { on := 6, ground := Ground.guard }], guard := some (6, true) }) (v := ?_) rfl (by kernel_rfl) (by kernel_rfl) (by kernel_rfl) (fun _ _ _ h => h) (Or.inl ⟨by rfl, ?_⟩) (by assumption) ?_
          rotate_left
          · (intro w hSw; (try dsimp only at hSw); go_simp; try with_reducible rfl)
          try simp only [Act.put, List.setIfInBounds_toArray, List.set_cons_zero, List.set_cons_succ]
          refine wpAnyH_take (i := 18) (oi := { dst := some 36, op := Op.fieldAddr 31 (Operand.tmp 35) 0, type := 0, pos := "ref.go:148", after := #[{ on := 17, ground := Ground.data }, { on := 6, ground := Ground.guard }], guard := some (6, true) }) (v := ?_) rfl (by kernel_rfl) (by kernel_rfl) (by kernel_rfl) (fun _ _ _ h => h) (Or.inl ⟨by rfl, ?_⟩) (by assumption) ?_
          rotate_left
          · (intro w hSw; (try dsimp only at hSw); go_simp; try with_reducible rfl)
          try simp only [Act.put, List.setIfInBounds_toArray, List.set_cons_zero, List.set_cons_succ]
          refine wpAnyH_take (i := 19) (oi := { dst := some 37, op := Op.load 9 (Operand.tmp 36), type := 9, pos := "ref.go:148", after := #[{ on := 18, ground := Ground.data }, { on := 6, ground := Ground.guard }], guard := some (6, true) }) (v := ?_) rfl (by kernel_rfl) (by kernel_rfl) (by kernel_rfl) (fun _ _ _ h => h) (Or.inl ⟨by rfl, ?_⟩) (by assumption) ?_
          rotate_left
          · (intro w hSw; (try dsimp only at hSw); go_simp; try with_reducible rfl)
          try simp only [Act.put, List.setIfInBounds_toArray, List.set_cons_zero, List.set_cons_succ]
          refine wpAnyH_ready (rs := [13]) (by kernel_rfl) (by simp) ?_
          refine AllReadyH.cons (o := { dst := some 31, op := Op.call { callee := Callee.value (Operand.func 28), args := #[Operand.tmp 25, Operand.tmp 30], argTypes := #[42, 9] }, type := 42, pos := "ref.go:148", after := #[{ on := 7, ground := Ground.data }, { on := 12, ground := Ground.data }, { on := 6, ground := Ground.chain }, { on := 6, ground := Ground.guard }], guard := some (6, true) }) rfl (fun K hK => ?_) AllReadyH.nil
          go_simp
          refine (CA1.out _ (LW.out _ hH.2.1.out)).mono ?_
          rintro e W_0 ⟨p1, p3, d1, d3, dd, rfl, OX, b⟩
          refine hK.out _ _ ?_ (fun hH' => ?_)
          · exact held_next (by assumption) hH
          clear hK K hH
          have hH := hH'
          clear hH'
          try simp only [Act.put, List.setIfInBounds_toArray, List.set_cons_zero, List.set_cons_succ]
          refine wpAnyH_ready (rs := [20]) (by kernel_rfl) (by simp) ?_
          refine AllReadyH.cons (o := { dst := some 38, op := Op.call { callee := Callee.value (Operand.func 28), args := #[Operand.tmp 32, Operand.tmp 37], argTypes := #[42, 9] }, type := 42, pos := "ref.go:148", after := #[{ on := 14, ground := Ground.data }, { on := 19, ground := Ground.data }, { on := 13, ground := Ground.chain }, { on := 6, ground := Ground.guard }], guard := some (6, true) }) rfl (fun K hK => ?_) AllReadyH.nil
          go_simp
          refine (CB1.out _ (LW.out _ hH.2.1.out)).mono ?_
          rintro e W_1 ⟨q1, q3, e1, e3, ee, rfl, OY, b⟩
          refine hK.out _ _ ?_ (fun hH' => ?_)
          · exact held_next (by assumption) hH
          have bXY := b
          have hN0 := hH.2.2.out
          rw [HN.out] at hN0
          clear hK K hH
          have hH := hH'
          clear hH'
          try simp only [Act.put, List.setIfInBounds_toArray, List.set_cons_zero, List.set_cons_succ]
          refine wpAnyH_ready (rs := [21]) (by kernel_rfl) (by simp) ?_
          refine AllReadyH.cons (o := { dst := some 39, op := Op.call { callee := Callee.value (Operand.func 24), args := #[Operand.tmp 31, Operand.tmp 38, Operand.const (Value.bool false)], argTypes := #[42, 42, 4] }, type := 4, pos := "ref.go:148", after := #[{ on := 13, ground := Ground.data }, { on := 20, ground := Ground.data }, { on := 20, ground := Ground.chain }, { on := 6, ground := Ground.guard }], guard := some (6, true) }) rfl (fun K hK => ?_) AllReadyH.nil
          go_simp
          refine (CL1.out _ _ _ _ _ _ _ _ _ _ _ _ OX (Nat.le_trans hnr hN0) bXY OY).mono ?_
          rintro e W_2 ⟨rfl, b⟩
          refine hK.out _ _ ?_ (fun hH' => ?_)
          · exact held_next (by assumption) hH
          clear hK K hH
          have hH := hH'
          clear hH'
          try simp only [Act.put, List.setIfInBounds_toArray, List.set_cons_zero, List.set_cons_succ]
          refine wpAnyH_take (i := 22) (oi := { dst := some 40, op := Op.unOp UnOp.not 4 (Operand.tmp 39), type := 4, pos := "ref.go:148", after := #[{ on := 21, ground := Ground.data }, { on := 6, ground := Ground.guard }], guard := some (6, true) }) (v := ?_) rfl (by kernel_rfl) (by kernel_rfl) (by kernel_rfl) (fun _ _ _ h => h) (Or.inl ⟨by rfl, ?_⟩) (by assumption) ?_
          rotate_left
          · (intro w hSw; (try dsimp only at hSw); go_simp; try with_reducible rfl)
          try simp only [Act.put, List.setIfInBounds_toArray, List.set_cons_zero, List.set_cons_succ]
          refine wpAnyH_take (i := 23) (oi := { dst := some 41, op := Op.pick (Operand.tmp 24) (Operand.tmp 40) (Operand.const (Value.bool false)), type := 4, pos := "ref.go:148", after := #[{ on := 6, ground := Ground.data }, { on := 22, ground := Ground.data }], guard := none }) (v := ?_) rfl (by kernel_rfl) (by kernel_rfl) (by kernel_rfl) (fun _ _ _ h => h) (Or.inl ⟨by rfl, ?_⟩) (by assumption) ?_
          rotate_left
          · (intro w hSw; (try dsimp only at hSw); go_simp; try with_reducible rfl)
          try simp only [Act.put, List.setIfInBounds_toArray, List.set_cons_zero, List.set_cons_succ]
          refine wpAnyH_done (by kernel_rfl) ?_ _
          refine NoPanic.normal ?_
          have BZ := Lib.hid (hH.2.1.out.mono (by rw [HN.out]; exact Nat.le_refl _) : Below wr.heap.size wr _)
          clear S0 hH x0 x1 x2 x3 x4 x5 x6 x7 z0 z1 z2 z3 z4 z5 z6 z7 y0 y1 y2 y3 y4 y5 y6
          go_wp2_with fail
          go_roundw
          case rel => exact ⟨j + 1, _, by omega, by go_num, rfl, HSK.out _ HP.out BZ.out⟩
          case measure => simp [intOf]; omega
        | false =>
          have HP : Hid (chB A B ⟨nm, tk, t2, nd, false, an, ow⟩ = true) := HCH.out
          refine wp_region_noPanic ?_
          refine wp_region_held_drew (S := (fun W => (∀ b o, b < N → W.cell? ⟨b, o, none⟩ = wr.cell? ⟨b, o, none⟩) ∧ Hid (Below N wr W) ∧ Hid (N ≤ W.heap.size))) (by kernel_rfl) ?_ (fun hH => ?_)
          · exact S0
          refine wpAnyH_take (i := 0) (oi := { dst := some 18, op := Op.move (Operand.tmp 7), type := 23, pos := "ref.go:148", after := #[], guard := none }) (v := ?_) rfl (by kernel_rfl) (by kernel_rfl) (by kernel_rfl) (fun _ _ _ h => h) (Or.inl ⟨by rfl, ?_⟩) (by assumption) ?_
          rotate_left
          · (intro w hSw; (try dsimp only at hSw); go_simp; try with_reducible rfl)
          try simp only [Act.put, List.setIfInBounds_toArray, List.set_cons_zero, List.set_cons_succ]
          refine wpAnyH_take (i := 1) (oi := { dst := some 19, op := Op.move (Operand.tmp 9), type := 3, pos := "ref.go:148", after := #[], guard := none }) (v := ?_) rfl (by kernel_rfl) (by kernel_rfl) (by kernel_rfl) (fun _ _ _ h => h) (Or.inl ⟨by rfl, ?_⟩) (by assumption) ?_
          rotate_left
          · (intro w hSw; (try dsimp only at hSw); go_simp; try with_reducible rfl)
          try simp only [Act.put, List.setIfInBounds_toArray, List.set_cons_zero, List.set_cons_succ]
          refine wpAnyH_take (i := 2) (oi := { dst := some 20, op := Op.indexAddr 23 (Operand.tmp 18) (Operand.tmp 19), type := 0, pos := "ref.go:148", after := #[{ on := 0, ground := Ground.data }, { on := 1, ground := Ground.data }], guard := none }) (v := ?_) rfl (by kernel_rfl) (by kernel_rfl) (by kernel_rfl) (fun _ _ _ h => h) (Or.inl ⟨by rfl, ?_⟩) (by assumption) ?_
          rotate_left
          · (intro w hSw; (try dsimp only at hSw); go_simp; try with_reducible rfl)
          try simp only [Act.put, List.setIfInBounds_toArray, List.set_cons_zero, List.set_cons_succ]
          refine wpAnyH_take (i := 3) (oi := { dst := some 21, op := Op.fieldAddr 31 (Operand.tmp 20) 3, type := 0, pos := "ref.go:148", after := #[{ on := 2, ground := Ground.data }], guard := none }) (v := ?_) rfl (by kernel_rfl) (by kernel_rfl) (by kernel_rfl) (fun _ _ _ h => h) (Or.inl ⟨by rfl, ?_⟩) (by assumption) ?_
          rotate_left
          · (intro w hSw; (try dsimp only at hSw); go_simp; try with_reducible rfl)
          try simp only [Act.put, List.setIfInBounds_toArray, List.set_cons_zero, List.set_cons_succ]
          refine wpAnyH_take (i := 4) (oi := { dst := some 22, op := Op.load 4 (Operand.tmp 21), type := 4, pos := "ref.go:148", after := #[{ on := 3, ground := Ground.data }], guard := none }) (v := ?_) rfl (by kernel_rfl) (by kernel_rfl) (by kernel_rfl) (fun _ _ _ h => h) (Or.inl ⟨by rfl, ?_⟩) (by assumption) ?_
          rotate_left
          · (intro w hSw; (try dsimp only at hSw); go_simp; try with_reducible rfl)
          try simp only [Act.put, List.setIfInBounds_toArray, List.set_cons_zero, List.set_cons_succ]
          refine wpAnyH_take (i := 5) (oi := { dst := some 23, op := Op.unOp UnOp.not 4 (Operand.tmp 22), type := 4, pos := "ref.go:148", after := #[{ on := 4, ground := Ground.data }], guard := none }) (v := ?_) rfl (by kernel_rfl) (by kernel_rfl) (by kernel_rfl) (fun _ _ _ h => h) (Or.inl ⟨by rfl, ?_⟩) (by assumption) ?_
          rotate_left
          · (intro w hSw; (try dsimp only at hSw); go_simp; try with_reducible rfl)
          try simp only [Act.put, List.setIfInBounds_toArray, List.set_cons_zero, List.set_cons_succ]
          refine wpAnyH_take (i := 6) (oi := { dst := some 24, op := Op.move (Operand.tmp 23), type := 4, pos := "ref.go:148", after := #[{ on := 5, ground := Ground.data }], guard := none }) (v := ?_) rfl (by kernel_rfl) (by kernel_rfl) (by kernel_rfl) (fun _ _ _ h => h) (Or.inl ⟨by rfl, ?_⟩) (by assumption) ?_
          rotate_left
          · (intro w hSw; (try dsimp only at hSw); go_simp; try with_reducible rfl)
          try simp only [Act.put, List.setIfInBounds_toArray, List.set_cons_zero, List.set_cons_succ]
          refine wpAnyH_take (i := 7) (oi := { dst := some 25, op := Op.load 42 (Operand.tmp 4), type := 42, pos := "ref.go:148", after := #[{ on := 6, ground := Ground.guard }], guard := some (6, true) }) (v := ?_) rfl (by kernel_rfl) (by kernel_rfl) (by kernel_rfl) (fun _ _ _ h => h) (Or.inl ⟨by rfl, ?_⟩) (by assumption) ?_
          rotate_left
          · (intro w hSw; (try dsimp only at hSw); go_simp; try with_reducible rfl)
          try simp only [Act.put, List.setIfInBounds_toArray, List.set_cons_zero, List.set_cons_succ]
          refine wpAnyH_take (i := 8) (oi := { dst := some 26, op := Op.move (Operand.tmp 7), type := 23, pos := "ref.go:148", after := #[{ on := 6, ground := Ground.guard }], guard := some (6, true) }) (v := ?_) rfl (by kernel_rfl) (by kernel_rfl) (by kernel_rfl) (fun _ _ _ h => h) (Or.inl ⟨by rfl, ?_⟩) (by assumption) ?_
          rotate_left
          · (intro w hSw; (try dsimp only at hSw); go_simp; try with_reducible rfl)
          try simp only [Act.put, List.setIfInBounds_toArray, List.set_cons_zero, List.set_cons_succ]
          refine wpAnyH_take (i := 9) (oi := { dst := some 27, op := Op.move (Operand.tmp 9), type := 3, pos := "ref.go:148", after := #[{ on := 6, ground := Ground.guard }], guard := some (6, true) }) (v := ?_) rfl (by kernel_rfl) (by kernel_rfl) (by kernel_rfl) (fun _ _ _ h => h) (Or.inl ⟨by rfl, ?_⟩) (by assumption) ?_
          rotate_left
          · (intro w hSw; (try dsimp only at hSw); go_simp; try with_reducible rfl)
          try simp only [Act.put, List.setIfInBounds_toArray, List.set_cons_zero, List.set_cons_succ]
          refine wpAnyH_take (i := 10) (oi := { dst := some 28, op := Op.indexAddr 23 (Operand.tmp 26) (Operand.tmp 27), type := 0, pos := "ref.go:148", after := #[{ on := 8, ground := Ground.data }, { on := 9, ground := Ground.data }, { on := 6, ground := Ground.guard }], guard := some (6, true) }) (v := ?_) rfl (by kernel_rfl) (by kernel_rfl) (by kernel_rfl) (fun _ _ _ h => h) (Or.inl ⟨by rfl, ?_⟩) (by assumption) ?_
          rotate_left
          · (intro w hSw; (try dsimp only at hSw); go_simp; try with_reducible rfl)
          try simp only [Act.put, List.setIfInBounds_toArray, List.set_cons_zero, List.set_cons_succ]
          refine wpAnyH_take (i := 11) (oi := { dst := some 29, op := Op.fieldAddr 31 (Operand.tmp 28) 0, type := 0, pos := "ref.go:148", after := #[{ on := 10, ground := Ground.data }, { on := 6, ground := Ground.guard }], guard := some (6, true) }) (v := ?_) rfl (by kernel_rfl) (by kernel_rfl) (by kernel_rfl) (fun _ _ _ h => h) (Or.inl ⟨by rfl, ?_⟩) (by assumption) ?_
          rotate_left
          · (intro w hSw; (try dsimp only at hSw); go_simp; try with_reducible rfl)
          try simp only [Act.put, List.setIfInBounds_toArray, List.set_cons_zero, List.set_cons_succ]
          refine wpAnyH_take (i := 12) (oi := { dst := some 30, op := Op.load 9 (Operand.tmp 29), type := 9, pos := "ref.go:148", after := #[{ on := 11, ground := Ground.data }, { on := 6, ground := Ground.guard }], guard := some (6, true) }) (v := ?_) rfl (by kernel_rfl) (by kernel_rfl) (by kernel_rfl) (fun _ _ _ h => h) (Or.inl ⟨by rfl, ?_⟩) (by assumption) ?_
          rotate_left
          · (intro w hSw; (try dsimp only at hSw); go_simp; try with_reducible rfl)
          try simp only [Act.put, List.setIfInBounds_toArray, List.set_cons_zero, List.set_cons_succ]
          refine wpAnyH_take (i := 14) (oi := { dst := some 32, op := Op.load 42 (Operand.tmp 5), type := 42, pos := "ref.go:148", after := #[{ on := 6, ground := Ground.guard }], guard := some (6, true) }) (v := ?_) rfl (by kernel_rfl) (by kernel_rfl) (by kernel_rfl) (fun _ _ _ h => h) (Or.inl ⟨by rfl, ?_⟩) (by assumption) ?_
          rotate_left
          · (intro w hSw; (try dsimp only at hSw); go_simp; try with_reducible rfl)
          try simp only [Act.put, List.setIfInBounds_toArray, List.set_cons_zero, List.set_cons_succ]
          refine wpAnyH_take (i := 15) (oi := { dst := some 33, op := Op.move (Operand.tmp 7), type := 23, pos := "ref.go:148", after := #[{ on := 6, ground := Ground.guard }], guard := some (6, true) }) (v := ?_) rfl (by kernel_rfl) (by kernel_rfl) (by kernel_rfl) (fun _ _ _ h => h) (Or.inl ⟨by rfl, ?_⟩) (by assumption) ?_
          rotate_left
          · (intro w hSw; (try dsimp only at hSw); go_simp; try with_reducible rfl)
          try simp only [Act.put, List.setIfInBounds_toArray, List.set_cons_zero, List.set_cons_succ]
          refine wpAnyH_take (i := 16) (oi := { dst := some 34, op := Op.move (Operand.tmp 9), type := 3, pos := "ref.go:148", after := #[{ on := 6, ground := Ground.guard }], guard := some (6, true) }) (v := ?_) rfl (by kernel_rfl) (by kernel_rfl) (by kernel_rfl) (fun _ _ _ h => h) (Or.inl ⟨by rfl, ?_⟩) (by assumption) ?_
          rotate_left
          · (intro w hSw; (try dsimp only at hSw); go_simp; try with_reducible rfl)
          try simp only [Act.put, List.setIfInBounds_toArray, List.set_cons_zero, List.set_cons_succ]
          refine wpAnyH_take (i := 17) (oi := { dst := some 35, op := Op.indexAddr 23 (Operand.tmp 33) (Operand.tmp 34), type := 0, pos := "ref.go:148", after := #[{ on := 15, ground := Ground.data }, { on := 16, ground := Ground.data }, { on := 6, ground := Ground.guard }], guard := some (6, true) }) (v := ?_) rfl (by kernel_rfl) (by kernel_rfl) (by kernel_rfl) (fun _ _ _ h => h) (Or.inl ⟨by rfl, ?_⟩) (by assumption) ?_
          rotate_left
          · (intro w hSw; (try dsimp only at hSw); go_simp; try with_reducible rfl)
          try simp only [Act.put, List.setIfInBounds_toArray, List.set_cons_zero, List.set_cons_succ]
          refine wpAnyH_take (i := 18) (oi := { dst := some 36, op := Op.fieldAddr 31 (Operand.tmp 35) 0, type := 0, pos := "ref.go:148", after := #[{ on := 17, ground := Ground.data }, { on := 6, ground := Ground.guard }], guard := some (6, true) }) (v := ?_) rfl (by kernel_rfl) (by kernel_rfl) (by kernel_rfl) (fun _ _ _ h => h) (Or.inl ⟨by rfl, ?_⟩) (by assumption) ?_
          rotate_left
          · (intro w hSw; (try dsimp only at hSw); go_simp; try with_reducible rfl)
          try simp only [Act.put, List.setIfInBounds_toArray, List.set_cons_zero, List.set_cons_succ]
          refine wpAnyH_take (i := 19) (oi := { dst := some 37, op := Op.load 9 (Operand.tmp 36), type := 9, pos := "ref.go:148", after := #[{ on := 18, ground := Ground.data }, { on := 6, ground := Ground.guard }], guard := some (6, true) }) (v := ?_) rfl (by kernel_rfl) (by kernel_rfl) (by kernel_rfl) (fun _ _ _ h => h) (Or.inl ⟨by rfl, ?_⟩) (by assumption) ?_
          rotate_left
          · (intro w hSw; (try dsimp only at hSw); go_simp; try with_reducible rfl)
          try simp only [Act.put, List.setIfInBounds_toArray, List.set_cons_zero, List.set_cons_succ]
          refine wpAnyH_ready (rs := [13]) (by kernel_rfl) (by simp) ?_
          refine AllReadyH.cons (o := { dst := some 31, op := Op.call { callee := Callee.value (Operand.func 28), args := #[Operand.tmp 25, Operand.tmp 30], argTypes := #[42, 9] }, type := 42, pos := "ref.go:148", after := #[{ on := 7, ground := Ground.data }, { on := 12, ground := Ground.data }, { on := 6, ground := Ground.chain }, { on := 6, ground := Ground.guard }], guard := some (6, true) }) rfl (fun K hK => ?_) AllReadyH.nil
          go_simp
          refine (CA1.out _ (LW.out _ hH.2.1.out)).mono ?_
          rintro e W_0 ⟨p1, p3, d1, d3, dd, rfl, OX, b⟩
          refine hK.out _ _ ?_ (fun hH' => ?_)
          · exact held_next (by assumption) hH
          clear hK K hH
          have hH := hH'
          clear hH'
          try simp only [Act.put, List.setIfInBounds_toArray, List.set_cons_zero, List.set_cons_succ]
          refine wpAnyH_ready (rs := [20]) (by kernel_rfl) (by simp) ?_
          refine AllReadyH.cons (o := { dst := some 38, op := Op.call { callee := Callee.value (Operand.func 28), args := #[Operand.tmp 32, Operand.tmp 37], argTypes := #[42, 9] }, type := 42, pos := "ref.go:148", after := #[{ on := 14, ground := Ground.data }, { on := 19, ground := Ground.data }, { on := 13, ground := Ground.chain }, { on := 6, ground := Ground.guard }], guard := some (6, true) }) rfl (fun K hK => ?_) AllReadyH.nil
          go_simp
          refine (CB1.out _ (LW.out _ hH.2.1.out)).mono ?_
          rintro e W_1 ⟨q1, q3, e1, e3, ee, rfl, OY, b⟩
          refine hK.out _ _ ?_ (fun hH' => ?_)
          · exact held_next (by assumption) hH
          have bXY := b
          have hN0 := hH.2.2.out
          rw [HN.out] at hN0
          clear hK K hH
          have hH := hH'
          clear hH'
          try simp only [Act.put, List.setIfInBounds_toArray, List.set_cons_zero, List.set_cons_succ]
          refine wpAnyH_ready (rs := [21]) (by kernel_rfl) (by simp) ?_
          refine AllReadyH.cons (o := { dst := some 39, op := Op.call { callee := Callee.value (Operand.func 24), args := #[Operand.tmp 31, Operand.tmp 38, Operand.const (Value.bool false)], argTypes := #[42, 42, 4] }, type := 4, pos := "ref.go:148", after := #[{ on := 13, ground := Ground.data }, { on := 20, ground := Ground.data }, { on := 20, ground := Ground.chain }, { on := 6, ground := Ground.guard }], guard := some (6, true) }) rfl (fun K hK => ?_) AllReadyH.nil
          go_simp
          refine (CL1.out _ _ _ _ _ _ _ _ _ _ _ _ OX (Nat.le_trans hnr hN0) bXY OY).mono ?_
          rintro e W_2 ⟨rfl, b⟩
          refine hK.out _ _ ?_ (fun hH' => ?_)
          · exact held_next (by assumption) hH
          clear hK K hH
          have hH := hH'
          clear hH'
          try simp only [Act.put, List.setIfInBounds_toArray, List.set_cons_zero, List.set_cons_succ]
          refine wpAnyH_take (i := 22) (oi := { dst := some 40, op := Op.unOp UnOp.not 4 (Operand.tmp 39), type := 4, pos := "ref.go:148", after := #[{ on := 21, ground := Ground.data }, { on := 6, ground := Ground.guard }], guard := some (6, true) }) (v := ?_) rfl (by kernel_rfl) (by kernel_rfl) (by kernel_rfl) (fun _ _ _ h => h) (Or.inl ⟨by rfl, ?_⟩) (by assumption) ?_
          rotate_left
          · (intro w hSw; (try dsimp only at hSw); go_simp; try with_reducible rfl)
          try simp only [Act.put, List.setIfInBounds_toArray, List.set_cons_zero, List.set_cons_succ]
          refine wpAnyH_take (i := 23) (oi := { dst := some 41, op := Op.pick (Operand.tmp 24) (Operand.tmp 40) (Operand.const (Value.bool false)), type := 4, pos := "ref.go:148", after := #[{ on := 6, ground := Ground.data }, { on := 22, ground := Ground.data }], guard := none }) (v := ?_) rfl (by kernel_rfl) (by kernel_rfl) (by kernel_rfl) (fun _ _ _ h => h) (Or.inl ⟨by rfl, ?_⟩) (by assumption) ?_
          rotate_left
          · (intro w hSw; (try dsimp only at hSw); go_simp; try with_reducible rfl)
          try simp only [Act.put, List.setIfInBounds_toArray, List.set_cons_zero, List.set_cons_succ]
          refine wpAnyH_done (by kernel_rfl) ?_ _
          refine NoPanic.normal ?_
          have BZ := Lib.hid (hH.2.1.out.mono (by rw [HN.out]; exact Nat.le_refl _) : Below wr.heap.size wr W_2)
          have r0 := (hH.1 b1 (off1 + j * 7) lC).trans y0
          clear S0 hH x0 x1 x2 x3 x4 x5 x6 x7 z0 z1 z2 z3 z4 z5 z6 z7 y0 y1 y2 y3 y4 y5 y6
          have hpl := take_len l (chB A B) j
          obtain ⟨nn, hnn⟩ : ∃ nn, ((l.take j).filter (chB A B)).length = nn := ⟨_, rfl⟩
          have hown : Hid ((W_2.alloc (.cells #[.string nm] 9)).ownsRow w1.heap.size 9 1 v nn (ncs ((l.take j).filter (chB A B)))) := by
            have := (own_below HRel.out.1 BZ.out (Nat.le_refl _)).alloc (.cells #[.string nm] 9)
            rw [hnn] at this
            exact this
          have hbz := BZ.out.size
          rw [hnn] at hpl
          have HNN := Lib.hid hnn
          clear hnn
          go_wp2_with (at_builtin; go_must (refine wpList_append_lies _ rfl (.tmp 42) (.tmp 48) 36 rfl w1.heap.size 9 i9 _ 1 16 Tryd.underlying36 hi hz hs1 hb1' rfl (by omega) v nn (ncs ((l.take j).filter (chB A B))) rfl hown.out ⟨W_2.heap.size, 0, none⟩ 1 1 [.string nm] rfl rfl (World.news_of_block (heap_alloc_new _ _)) (fun u hu => by simp at hu; subst hu; rfl) (by omega) (by unfold maxLen; omega) (by omega) (by simp; omega) (W_2.heap.size + 1) (by simp) ?_))
          intro g2 cap2 w5 hown2 hgrow hat hlt2
          have HE2 := Lib.hid (And.intro hown2 hgrow)
          clear hown2 hgrow hat
          go_wp2_with fail
          go_roundw
          case rel => exact ⟨j + 1, _, by omega, by go_num, rfl, HST.out _ _ _ _ _ HP.out HNN.out (bal BZ.out (.cells #[.string nm] 9)) HE2.out.1 HE2.out.2⟩
          case measure => simp [intOf]; omega
    · have hjl : j = l.length := by omega
      have HF := Lib.hid HRel.out.1
      rw [hjl, List.take_of_length_le (Nat.le_refl _)] at HF
      obtain ⟨oo, cc, rfl, hRR⟩ := own_names HF.out rfl
      have hP := Lib.hid (hRR.mono (P' := Fr w wr) fun b hb => ⟨by omega, hb.2⟩)
      have BZ := Lib.hid (HB0.out.trans (BR.out.mono (Nat.le_of_lt hwl)))
      clear hRR HF
      go_wp2_with fail
      go_ret
      rw [HLE.out]
      exact ⟨oo, cc, by rw [List.length_map]; rfl, hP.out, BZ.out⟩
end Go.Proofs.YtfmgbhaldakpfaaDoor

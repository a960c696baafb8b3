/- Sorted keys, plain. -/
import Derived.Test.YtfmgbhaldakpfaaDoorSm
import Derived.Test.YtfmgbhaldakpfaaDoorSk
namespace Go.Proofs.YtfmgbhaldakpfaaDoor

abbrev lt' (a b : ByteArray) : Prop := Op.bytesLess a.toList b.toList = true
theorem bl_irr : ∀ a : List UInt8, Op.bytesLess a a = false
  | [] => rfl
  | a :: x => by
    show (decide (a < a) || (a == a && Op.bytesLess x x)) = false
    rw [bl_irr x]; simp
theorem bl_trans : ∀ a b c : List UInt8, Op.bytesLess a b = true → Op.bytesLess b c = true → Op.bytesLess a c = true
  | [], [], _, h, _ => by cases h
  | [], _ :: _, [], _, h => by cases h
  | [], _ :: _, _ :: _, _, _ => rfl
  | _ :: _, [], _, h, _ => by cases h
  | _ :: _, _ :: _, [], _, h => by cases h
  | a :: x, b :: y, c :: z, h1, h2 => by
    have ih := bl_trans x y z
    have k1 : (decide (a < b) || (a == b && Op.bytesLess x y)) = true := h1
    have k2 : (decide (b < c) || (b == c && Op.bytesLess y z)) = true := h2
    show (decide (a < c) || (a == c && Op.bytesLess x z)) = true
    clear h1 h2
    simp only [Bool.or_eq_true, Bool.and_eq_true, decide_eq_true_eq, beq_iff_eq] at k1 k2 ⊢
    rcases k1 with g1 | ⟨rfl, g1⟩
    · rcases k2 with g2 | ⟨rfl, g2⟩
      · exact .inl (Nat.lt_trans g1 g2)
      · exact .inl g1
    · rcases k2 with g2 | ⟨rfl, g2⟩
      · exact .inl g2
      · exact .inr ⟨rfl, ih g1 g2⟩
theorem lt_trans' {a b c : ByteArray} (h1 : lt' a b) (h2 : lt' b c) : lt' a c := bl_trans _ _ _ h1 h2
theorem lt_ne {a b : ByteArray} (h : lt' a b) : a ≠ b := fun e => by subst e; unfold lt' at h; rw [bl_irr] at h; cases h
/-- of two strictly sorted lists one within the other is no longer, and the same where it is as long -/
theorem srt_sub : ∀ (l2 l1 : List ByteArray), l1.Pairwise lt' → l2.Pairwise lt' → (∀ x, x ∈ l1 → x ∈ l2) → l1.length ≤ l2.length ∧ (l1.length = l2.length → l1 = l2)
  | [], [], _, _, _ => ⟨Nat.le_refl _, fun _ => rfl⟩
  | [], a :: r, _, _, h => by have := h a (by simp); cases this
  | b :: r2, [], _, _, _ => ⟨Nat.zero_le _, fun h => by cases h⟩
  | b :: r2, a :: r1, p1, p2, h => by
    obtain ⟨q1, s1⟩ := List.pairwise_cons.1 p1
    obtain ⟨q2, s2⟩ := List.pairwise_cons.1 p2
    by_cases e : a = b
    · subst e
      have ih := srt_sub r2 r1 s1 s2 fun x hx => by
        rcases List.mem_cons.1 (h x (List.mem_cons_of_mem _ hx)) with e | e
        · exact absurd e.symm (lt_ne (q1 x hx))
        · exact e
      exact ⟨Nat.succ_le_succ ih.1, fun hl => by rw [ih.2 (Nat.succ.inj hl)]⟩
    · have ha : a ∈ r2 := by
        rcases List.mem_cons.1 (h a (by simp)) with h1 | h1
        · exact absurd h1 e
        · exact h1
      have ih := srt_sub r2 (a :: r1) p1 s2 fun x hx => by
        have hb : lt' b x := by
          rcases List.mem_cons.1 hx with rfl | hx
          · exact q2 _ ha
          · exact lt_trans' (q2 _ ha) (q1 x hx)
        rcases List.mem_cons.1 (h x hx) with h1 | h1
        · exact absurd h1.symm (lt_ne hb)
        · exact h1
      have := ih.1
      exact ⟨by simp at *; omega, fun hl => by simp at *; omega⟩
theorem kk_cons (a : ByteArray) (r : List ByteArray) (j : Nat) : kk (a :: r) (j + 1) = kk r j := rfl
theorem adj_pair : ∀ (l : List ByteArray), (∀ j, j + 1 < l.length → lt' (kk l j) (kk l (j + 1))) → l.Pairwise lt'
  | [], _ => List.Pairwise.nil
  | [a], _ => by simp
  | a :: b :: r, h => by
    have ih := adj_pair (b :: r) fun j hj => h (j + 1) (by simp at *; omega)
    refine List.pairwise_cons.2 ⟨fun x hx => ?_, ih⟩
    have h0 : lt' a b := h 0 (by simp)
    rcases List.mem_cons.1 hx with rfl | hx
    · exact h0
    · exact lt_trans' h0 ((List.pairwise_cons.1 ih).1 x hx)
theorem keysOk_srt {ks : List ByteArray} (h : keysOk ks = true) : ks.Pairwise lt' := by
  refine adj_pair ks fun j hj => ?_
  unfold keysOk keysOkN at h
  rw [List.all_eq_true] at h
  have := h (j + 1) (List.mem_range.2 hj)
  unfold keyOk at this
  simp only [Bool.and_eq_true, Bool.or_eq_true, decide_eq_true_eq] at this
  rcases this.2 with h2 | h2
  · omega
  · exact h2
def pairB {α : Type} (r : α → α → Bool) : List α → Bool
  | [] => true
  | a :: l => l.all (r a) && pairB r l
theorem pairB_iff {α : Type} (r : α → α → Bool) : ∀ l, pairB r l = true → l.Pairwise fun a b => r a b = true
  | [], _ => List.Pairwise.nil
  | a :: l, h => by
    unfold pairB at h
    rw [Bool.and_eq_true, List.all_eq_true] at h
    exact List.pairwise_cons.2 ⟨h.1, pairB_iff r l h.2⟩
theorem tabB : pairB (fun a b : ByteArray × Atr => !decide (a.1 = b.1) || Op.bytesLess a.2.nm.toList b.2.nm.toList) tab = true := by kernel_rfl
theorem names_srt (t : ByteArray) : ((attrs t).map (·.nm)).Pairwise lt' := by
  have h := pairB_iff _ _ tabB
  unfold attrs
  rw [List.map_map, List.pairwise_map]
  have h2 := List.Pairwise.filter (fun r : ByteArray × Atr => decide (r.1 = t)) h
  refine List.Pairwise.imp_of_mem ?_ h2
  intro a b ha hb hr
  have e1 := (List.mem_filter.1 ha).2
  have e2 := (List.mem_filter.1 hb).2
  simp only [decide_eq_true_eq] at e1 e2
  rw [e1, e2] at hr
  simpa using hr
end Go.Proofs.YtfmgbhaldakpfaaDoor

/- Object, Final. -/
namespace Go.Proofs.YtfmgbhaldakpfaaDoor
open Go.RowKit

/-- what Object answers -/
def objI (t : ByteArray) (V : Val) : Int := if attrs t = [] then 9 else if isMapB V && eqP (fun (a : Atr) s => decide (a.nm = s)) (attrs t) V.ks && eqP takesB (attrs t) V.l then 0 else 8
theorem szl_lt (V : Val) : szL V.l < sz V := by rw [sz_eq]; omega
set_option maxHeartbeats 4000000 in
set_option maxRecDepth 100000 in
theorem object_any {n : Nat} {V : Val} {v : Value} {w : World} (t : ByteArray) (hs : sz V ≤ 50000) (h : Lies n w V v) (hn : n ≤ w.heap.size) (hT : Tab w) :
    Calls Tryd.prog 14 #[.string t, v] w fun e w' => e = .returned (.int .i64 (objI t V)) ∧ Below w.heap.size w w' := by
  obtain ⟨oL, oK, cL, cK, c, rfl, O⟩ := h.inv
  have b0 : Below w.heap.size w (w.alloc (bx V oL oK cL cK)) := bal (Below.refl _ _) _
  have HB := Lib.hid b0
  have HO := Lib.hid (O.kept (b0.mono hn))
  have HX := Lib.hid (Hd.made w V (.slice oL V.l.length cL) (.slice oK V.ks.length cK))
  have HS : Hid ((w.alloc (bx V oL oK cL cK)).heap.size = w.heap.size + 1) := by simp [Hid]
  have HAt := Lib.hid (attrs_any t (w.alloc (bx V oL oK cL cK)) (hT.below b0 hT.lt))
  have HJ : Hid (objI t V = if attrs t = [] then 9 else if isMapB V && eqP (fun (a : Atr) s => decide (a.nm = s)) (attrs t) V.ks && eqP takesB (attrs t) V.l then 0 else 8) := rfl
  have CM : Hid (∀ W, Below w.heap.size (w.alloc (bx V oL oK cL cK)) W → Calls Tryd.prog 34 #[vv V.k V.i V.s (.slice oL V.l.length cL) (.slice oK V.ks.length cK) V.tk V.to V.x] W fun e w' => e = .returned (.bool (isMapB V)) ∧ Below W.heap.size W w') := fun W hW => isMap_any hs (HO.out.kept (hW.mono hn)).lies (by have := hW.size; simp at this; omega)
  have C35 : Hid (∀ (W : World) (o : Option Addr) (cap : Nat), AtRow (fun b => b < W.heap.size) W o cap (attrs t) → Below w.heap.size (w.alloc (bx V oL oK cL cK)) W → Calls Tryd.prog 35 #[.slice o (attrs t).length cap, .slice oK V.ks.length cK, .func (.func 36) #[] #[]] W fun e w' => e = .returned (.bool (eqP (fun (a : Atr) s => decide (a.nm = s)) (attrs t) V.ks)) ∧ Below W.heap.size W w') := fun W o cap hr hW =>
    equalFunc_35 hr ((HO.out.kept (hW.mono hn)).K.mono fun b hb => (show b < W.heap.size by have := hW.size; simp at this; omega)) (Nat.le_refl _)
  have C37 : Hid (∀ (W : World) (o : Option Addr) (cap : Nat), AtRow (fun b => b < W.heap.size) W o cap (attrs t) → Below w.heap.size (w.alloc (bx V oL oK cL cK)) W → Calls Tryd.prog 37 #[.slice o (attrs t).length cap, .slice oL V.l.length cL, .func (.func 38) #[] #[]] W fun e w' => e = .returned (.bool (eqP takesB (attrs t) V.l)) ∧ Below W.heap.size W w') := fun W o cap hr hW =>
    equalFunc_37_38 takesB 60000 (fun n A B b w hs h hn => takes_any A hs h hn) (by have := szl_lt V; omega) hr ((HO.out.kept (hW.mono hn)).L.mono fun b hb => (show b < W.heap.size by have := hW.size; simp at this; omega))
      (fun j x hx => ((HO.out.kept (hW.mono hn)).el j x hx).mono fun b hb => (show b < W.heap.size by have := hW.size; simp at this; omega)) (Nat.le_refl _)
  generalize objI t V = J at *
  clear h O b0 hs hT
  go_enter Tryd.func14, Tryd.ntmps14
  go_upto_region 1 with (fail)
  generalize w.alloc _ = w0 at *
  have hwl : w.heap.size < w0.heap.size := by rw [HS.out]; exact Nat.lt_succ_self _
  go_wp2_with fail
  refine HAt.out.mono ?_
  rintro e w1 hA
  rcases hA with ⟨hnil, rfl, hb1⟩ | ⟨hne, o, cap, rfl, hR, hb1⟩
  · have HJ9 : Hid (J = 9) := by unfold Hid; rw [HJ.out, if_pos hnil]
    have BZ := Lib.hid (HB.out.trans (hb1.mono HB.out.size))
    clear hb1 hnil
    go_wp2_with fail
    go_ret
    exact ⟨by rw [HJ9.out]; rfl, BZ.out⟩
  · have HJ0 := Lib.hid (HJ.out.trans (if_neg hne))
    have B1 := Lib.hid hb1
    have HR := Lib.hid (hR.mono (P' := fun b => b < w1.heap.size) fun b hb => hb.2)
    obtain ⟨x8, x0, x1, x2, x3, x4, x5, x6, x7⟩ := HX.out.kept hb1 hwl
    clear hb1 hR hne HJ
    generalize attrs t = l at *
    have hlen := HR.out.1
    have hlcap := HR.out.2.1
    unfold maxLen at hlcap
    go_wp2_with fail
    refine (CM.out w1 (B1.out.mono (Nat.le_of_lt hwl))).mono ?_
    generalize isMapB V = m at *
    rintro e w2 ⟨rfl, hb2⟩
    have B2 := Lib.hid (B1.out.trans (hb2.mono B1.out.size))
    have b12 := Lib.hid hb2
    clear hb2 x8 x0 x1 x2 x3 x4 x5 x6 x7
    obtain ⟨x8, x0, x1, x2, x3, x4, x5, x6, x7⟩ := HX.out.kept B2.out hwl
    cases m with
    | false =>
      have HJ8 : Hid (J = 8) := HJ0.out
      have BZ := Lib.hid (HB.out.trans (B2.out.mono HB.out.size))
      go_wp2_with fail
      go_ret
      exact ⟨by rw [HJ8.out]; rfl, BZ.out⟩
    | true =>
      have hz12 := b12.out.size
      have C35' := Lib.hid (C35.out w2 o cap ((RowP.below HR.out b12.out).mono fun b hb => Nat.lt_of_lt_of_le hb hz12) (B2.out.mono (Nat.le_of_lt hwl)))
      generalize eqP (fun (a : Atr) s => decide (a.nm = s)) l V.ks = p1 at *
      go_wp2_with fail
      refine C35'.out.mono ?_
      rintro e w3 ⟨rfl, hb3⟩
      have B3 := Lib.hid (B2.out.trans (hb3.mono B2.out.size))
      have b13 := Lib.hid (b12.out.trans (hb3.mono b12.out.size))
      clear hb3 x8 x0 x1 x2 x3 x4 x5 x6 x7
      obtain ⟨x8, x0, x1, x2, x3, x4, x5, x6, x7⟩ := HX.out.kept B3.out hwl
      cases p1 with
      | false =>
        have HJ8 : Hid (J = 8) := HJ0.out
        have BZ := Lib.hid (HB.out.trans (B3.out.mono HB.out.size))
        go_wp2_with fail
        go_ret
        exact ⟨by rw [HJ8.out]; rfl, BZ.out⟩
      | true =>
        have hz13 := b13.out.size
        have C37' := Lib.hid (C37.out w3 o cap ((RowP.below HR.out b13.out).mono fun b hb => Nat.lt_of_lt_of_le hb hz13) (B3.out.mono (Nat.le_of_lt hwl)))
        generalize eqP takesB l V.l = p2 at *
        go_wp2_with fail
        refine C37'.out.mono ?_
        rintro e w4 ⟨rfl, hb4⟩
        have BZ := Lib.hid (HB.out.trans ((B3.out.trans (hb4.mono B3.out.size)).mono HB.out.size))
        clear hb4
        cases p2 with
        | false =>
          have HJ8 : Hid (J = 8) := HJ0.out
          go_wp2_with fail
          go_ret
          exact ⟨by rw [HJ8.out]; rfl, BZ.out⟩
        | true =>
          have HJ8 : Hid (J = 0) := HJ0.out
          go_wp2_with fail
          go_ret
          exact ⟨by rw [HJ8.out]; rfl, BZ.out⟩
/-- what Final answers -/
def finI (t : ByteArray) (V : Val) : Int := if objI t V = 0 then (if known V && eqP toldB (attrs t) V.l then 0 else 8) else objI t V
set_option maxHeartbeats 4000000 in
set_option maxRecDepth 100000 in
theorem final_any {n : Nat} {V : Val} {v : Value} {w : World} (t : ByteArray) (hs : sz V ≤ 50000) (h : Lies n w V v) (hn : n ≤ w.heap.size) (hT : Tab w) :
    Calls Tryd.prog 16 #[.string t, v] w fun e w' => e = .returned (.int .i64 (finI t V)) ∧ Below w.heap.size w w' := by
  obtain ⟨oL, oK, cL, cK, c, rfl, O⟩ := h.inv
  have b0 : Below w.heap.size w (w.alloc (bx V oL oK cL cK)) := bal (Below.refl _ _) _
  have HB := Lib.hid b0
  have HO := Lib.hid (O.kept (b0.mono hn))
  have HX := Lib.hid (Hd.made w V (.slice oL V.l.length cL) (.slice oK V.ks.length cK))
  have HS : Hid ((w.alloc (bx V oL oK cL cK)).heap.size = w.heap.size + 1) := by simp [Hid]
  have HT := Lib.hid (hT.below b0 hT.lt)
  have HT0 := Lib.hid hT.lt
  have CO := Lib.hid (object_any t hs HO.out.lies (by simp; omega) HT.out)
  have HJ : Hid (finI t V = if objI t V = 0 then (if known V && eqP toldB (attrs t) V.l then 0 else 8) else objI t V) := rfl
  have HNE : Hid (objI t V = 0 → attrs t ≠ []) := fun e hn => by unfold objI at e; rw [if_pos hn] at e; exact absurd e (by decide)
  have CK : Hid (∀ W, Below w.heap.size (w.alloc (bx V oL oK cL cK)) W → Calls Tryd.prog 41 #[vv V.k V.i V.s (.slice oL V.l.length cL) (.slice oK V.ks.length cK) V.tk V.to V.x] W fun e w' => e = .returned (.bool (known V)) ∧ Below W.heap.size W w') := fun W hW => cknown_any n V _ W hs (HO.out.kept (hW.mono hn)).lies (by have := hW.size; simp at this; omega)
  have C37 : Hid (∀ (W : World) (o : Option Addr) (cap : Nat), AtRow (fun b => b < W.heap.size) W o cap (attrs t) → Below w.heap.size (w.alloc (bx V oL oK cL cK)) W → Calls Tryd.prog 37 #[.slice o (attrs t).length cap, .slice oL V.l.length cL, .func (.func 42) #[] #[]] W fun e w' => e = .returned (.bool (eqP toldB (attrs t) V.l)) ∧ Below W.heap.size W w') := fun W o cap hr hW =>
    equalFunc_37_42 toldB 60000 (fun n A B b w hs h hn => isTold_any A h hn) (by have := szl_lt V; omega) hr ((HO.out.kept (hW.mono hn)).L.mono fun b hb => (show b < W.heap.size by have := hW.size; simp at this; omega))
      (fun j x hx => ((HO.out.kept (hW.mono hn)).el j x hx).mono fun b hb => (show b < W.heap.size by have := hW.size; simp at this; omega)) (Nat.le_refl _)
  generalize finI t V = J at *
  clear h O b0 hs hT
  go_enter Tryd.func16, Tryd.ntmps16
  go_upto_region 1 with (fail)
  generalize w.alloc _ = w0 at *
  have hwl : w.heap.size < w0.heap.size := by rw [HS.out]; exact Nat.lt_succ_self _
  obtain ⟨x8, x0, x1, x2, x3, x4, x5, x6, x7⟩ := HX.out
  go_wp2_with fail
  refine CO.out.mono ?_
  rintro e w1 ⟨rfl, hb1⟩
  have B1 := Lib.hid hb1
  clear hb1 x8 x0 x1 x2 x3 x4 x5 x6 x7
  by_cases h0 : objI t V = 0
  case neg =>
    have g0 : (objI t V != 0) = true := by rw [bne_iff_ne]; exact h0
    have HJ9 := Lib.hid (HJ.out.trans (if_neg h0))
    have BZ := Lib.hid (HB.out.trans (B1.out.mono HB.out.size))
    clear h0
    generalize objI t V = Q at *
    go_wp2_with fail
    go_ret
    exact ⟨by rw [HJ9.out]; rfl, BZ.out⟩
  case pos =>
    have HJ0 := Lib.hid (HJ.out.trans (if_pos h0))
    have HNE2 := Lib.hid (HNE.out h0)
    have CA := Lib.hid (attrs_any t w1 (HT.out.below B1.out (by omega)))
    rw [h0]
    clear h0 HJ HNE
    go_wp2_with fail
    refine CA.out.mono ?_
    rintro e w2 hA
    rcases hA with ⟨hnil, _⟩ | ⟨_, o, cap, rfl, hR, hb2⟩
    · exact absurd hnil HNE2.out
    have B2 := Lib.hid (B1.out.trans (hb2.mono B1.out.size))
    have HR := Lib.hid (hR.mono (P' := fun b => b < w2.heap.size) fun b hb => hb.2)
    obtain ⟨x8, x0, x1, x2, x3, x4, x5, x6, x7⟩ := HX.out.kept B2.out hwl
    clear hb2 hR CA
    have CK' := Lib.hid (CK.out w2 (B2.out.mono (Nat.le_of_lt hwl)))
    generalize known V = m at *
    go_wp2_with fail
    refine CK'.out.mono ?_
    rintro e w3 ⟨rfl, hb3⟩
    have B3 := Lib.hid (B2.out.trans (hb3.mono B2.out.size))
    have b23 := Lib.hid hb3
    clear hb3 x8 x0 x1 x2 x3 x4 x5 x6 x7
    obtain ⟨x8, x0, x1, x2, x3, x4, x5, x6, x7⟩ := HX.out.kept B3.out hwl
    cases m with
    | false =>
      have HJ8 : Hid (J = 8) := HJ0.out
      have BZ := Lib.hid (HB.out.trans (B3.out.mono HB.out.size))
      go_wp2_with fail
      go_ret
      exact ⟨by rw [HJ8.out]; rfl, BZ.out⟩
    | true =>
      have hz23 := b23.out.size
      have C37' := Lib.hid (C37.out w3 o cap ((RowP.below HR.out b23.out).mono fun b hb => Nat.lt_of_lt_of_le hb hz23) (B3.out.mono (Nat.le_of_lt hwl)))
      generalize eqP toldB (attrs t) V.l = p2 at *
      go_wp2_with fail
      refine C37'.out.mono ?_
      rintro e w4 ⟨rfl, hb4⟩
      have BZ := Lib.hid (HB.out.trans ((B3.out.trans (hb4.mono B3.out.size)).mono HB.out.size))
      clear hb4
      cases p2 with
      | false =>
        have HJ8 : Hid (J = 8) := HJ0.out
        go_wp2_with fail
        go_ret
        exact ⟨by rw [HJ8.out]; rfl, BZ.out⟩
      | true =>
        have HJ8 : Hid (J = 0) := HJ0.out
        go_wp2_with fail
        go_ret
        exact ⟨by rw [HJ8.out]; rfl, BZ.out⟩
end Go.Proofs.YtfmgbhaldakpfaaDoor

/- Object and Final: what the program and the reference answer is one, plain. -/
namespace Go.Proofs.YtfmgbhaldakpfaaDoor
open Go.RowKit

/-- is the attribute's element there, and does it serve? -/
def okElt (V : Val) (a : Atr) : Bool := match ixK V.ks a.nm with | none => false | some j => takesB a (V.l.getD j nul)
/-- what the reference's Object answers -/
def robjI (t : ByteArray) (V : Val) : Int := if attrs t = [] then 9 else if isMapB V && decide (V.ks.length = (attrs t).length) && (attrs t).all (okElt V) then 0 else 8
theorem eqP_iff {α β : Type} {r : α → β → Bool} {x : List α} {y : List β} : eqP r x y = true ↔ x.length = y.length ∧ ∀ (j : Nat) (X : α) (Y : β), x[j]? = some X → y[j]? = some Y → r X Y = true := by
  constructor
  · intro h
    have hl : x.length = y.length := by
      by_cases e : x.length = y.length
      · exact e
      · rw [eqP_len e] at h; cases h
    refine ⟨hl, fun j X Y hX hY => ?_⟩
    cases hr : r X Y with
    | true => rfl
    | false => rw [eqP_no j hX hY hr] at h; cases h
  · rintro ⟨h1, h2⟩
    exact eqP_yes h1 h2
theorem named_iff (l : List Atr) (ks : List ByteArray) : eqP (fun (a : Atr) s => decide (a.nm = s)) l ks = true ↔ l.map (·.nm) = ks := by
  rw [eqP_iff]
  constructor
  · rintro ⟨hl, h⟩
    apply List.ext_getElem?
    intro j
    by_cases hj : j < l.length
    · have hk : j < ks.length := by omega
      rw [List.getElem?_map, List.getElem?_eq_getElem hj, List.getElem?_eq_getElem hk]
      have := h j l[j] ks[j] (List.getElem?_eq_getElem hj) (List.getElem?_eq_getElem hk)
      simp only [decide_eq_true_eq] at this
      simp [this]
    · rw [List.getElem?_eq_none (by simp; omega), List.getElem?_eq_none (by omega)]
  · rintro rfl
    refine ⟨by simp, fun j X Y hX hY => ?_⟩
    rw [List.getElem?_map, hX] at hY
    simp at hY
    simp [hY]
theorem map_srt {V : Val} (h : isMapB V = true) : V.k = 5 ∧ V.ks.length = V.l.length ∧ V.ks.Pairwise lt' := by
  unfold isMapB at h
  rw [Bool.and_eq_true] at h
  have h5 : V.k = 5 := by simpa using h.1
  have hc := h.2
  refine ⟨h5, chk_kl hc h5, ?_⟩
  unfold chk at hc
  rw [Bool.and_eq_true] at hc
  have h2 := hc.2
  unfold okT at h2
  rw [Bool.and_eq_true] at h2
  exact keysOk_srt ((ok1_facts h2.1).2.2.2.2.2.2.2.2.2.2 h5).2
theorem ixK_pos {ks : List ByteArray} (h : ks.Pairwise lt') {j : Nat} (hj : j < ks.length) {s : ByteArray} (e : kk ks j = s) : ixK ks s = some j := by
  refine ixK_some (.inr ⟨j, rfl, hj, e, fun q hq => ?_⟩)
  have := List.pairwise_iff_getElem.1 h q j (by omega) hj hq
  rw [kk_at (by omega), kk_at hj, e] at this
  exact lt_ne this
theorem ixK_mem {ks : List ByteArray} {s : ByteArray} {j : Nat} (h : ixK ks s = some j) : s ∈ ks := by
  unfold ixK at h
  rw [List.findIdx?_eq_some_iff_getElem] at h
  obtain ⟨hj, e, _⟩ := h
  have : ks[j] = s := by simpa using e
  rw [← this]; exact List.getElem_mem hj
theorem obj_bool (t : ByteArray) (V : Val) (hm : isMapB V = true) : (eqP (fun (a : Atr) s => decide (a.nm = s)) (attrs t) V.ks && eqP takesB (attrs t) V.l) = (decide (V.ks.length = (attrs t).length) && (attrs t).all (okElt V)) := by
  obtain ⟨h5, hkl, hsr⟩ := map_srt hm
  by_cases hnk : (attrs t).map (·.nm) = V.ks
  · have hlen : V.ks.length = (attrs t).length := by rw [← hnk]; simp
    rw [(named_iff _ _).2 hnk, decide_eq_true hlen, Bool.true_and, Bool.true_and, Bool.eq_iff_iff, eqP_iff, List.all_eq_true]
    have pos : ∀ j (hj : j < (attrs t).length), ixK V.ks (attrs t)[j].nm = some j := fun j hj => by
      refine ixK_pos hsr (by omega) ?_
      unfold kk
      rw [← hnk, List.getD_eq_getElem?_getD, List.getElem?_map, List.getElem?_eq_getElem hj]; rfl
    constructor
    · rintro ⟨_, h⟩ a ha
      obtain ⟨j, hj, rfl⟩ := List.getElem_of_mem ha
      unfold okElt
      rw [pos j hj]
      have hjl : j < V.l.length := by omega
      simp only
      rw [List.getD_eq_getElem?_getD, List.getElem?_eq_getElem hjl]
      exact h j _ _ (List.getElem?_eq_getElem hj) (List.getElem?_eq_getElem hjl)
    · intro h
      refine ⟨by omega, fun j X Y hX hY => ?_⟩
      obtain ⟨hj, rfl⟩ := List.getElem?_eq_some_iff.1 hX
      have := h _ (List.getElem_mem hj)
      unfold okElt at this
      rw [pos j hj] at this
      simp only at this
      rw [List.getD_eq_getElem?_getD, hY] at this
      exact this
  · have e1 : eqP (fun (a : Atr) s => decide (a.nm = s)) (attrs t) V.ks = false := by
      cases h : eqP (fun (a : Atr) s => decide (a.nm = s)) (attrs t) V.ks with
      | false => rfl
      | true => exact absurd ((named_iff _ _).1 h) hnk
    rw [e1, Bool.false_and]
    symm
    rw [Bool.and_eq_false_iff]
    by_cases hl : V.ks.length = (attrs t).length
    · right
      cases h : (attrs t).all (okElt V) with
      | false => rfl
      | true =>
        rw [List.all_eq_true] at h
        exfalso
        apply hnk
        refine (srt_sub V.ks _ (names_srt t) hsr fun x hx => ?_).2 (by simp; omega)
        obtain ⟨a, ha, rfl⟩ := List.mem_map.1 hx
        have := h a ha
        unfold okElt at this
        cases hi : ixK V.ks a.nm with
        | none => rw [hi] at this; cases this
        | some j => exact ixK_mem hi
    · left; exact decide_eq_false hl
theorem obj_eq (t : ByteArray) (V : Val) : objI t V = robjI t V := by
  unfold objI robjI
  split
  · rfl
  · cases hm : isMapB V with
    | false => rfl
    | true =>
      rw [Bool.true_and, Bool.true_and, obj_bool t V hm]
/-- is the attribute's element told? -/
def toldElt (V : Val) (a : Atr) : Bool := !(a.cm && (elt V a.nm).k == 0)
/-- what the reference's Final answers -/
def rfinI (t : ByteArray) (V : Val) : Int := if robjI t V = 0 then (if (attrs t).all (toldElt V) && known V then 0 else 8) else robjI t V
theorem told_b (a : Atr) (Y : Val) : toldB a Y = !(a.cm && Y.k == 0) := by unfold toldB; cases a.cm <;> rfl
theorem sx_k (X : Val) (y : Bool) : (X.sx y).k = X.k := rfl
theorem fin_eq (t : ByteArray) (V : Val) : finI t V = rfinI t V := by
  unfold finI rfinI
  rw [obj_eq]
  split
  · rename_i h0
    have hne : attrs t ≠ [] := by
      intro e
      unfold robjI at h0
      rw [if_pos e] at h0
      exact absurd h0 (by decide)
    have hb : (isMapB V && eqP (fun (a : Atr) s => decide (a.nm = s)) (attrs t) V.ks && eqP takesB (attrs t) V.l) = true := by
      have := h0
      rw [← obj_eq] at this
      unfold objI at this
      rw [if_neg hne] at this
      split at this
      · assumption
      · exact absurd this (by decide)
    simp only [Bool.and_eq_true] at hb
    obtain ⟨⟨hm, hn⟩, ht⟩ := hb
    obtain ⟨h5, hkl, hsr⟩ := map_srt hm
    have hnk := (named_iff _ _).1 hn
    have hlen : V.ks.length = (attrs t).length := by rw [← hnk]; simp
    have e : eqP toldB (attrs t) V.l = (attrs t).all (toldElt V) := by
      rw [Bool.eq_iff_iff, eqP_iff, List.all_eq_true]
      have pos : ∀ j (hj : j < (attrs t).length) (hjl : j < V.l.length), (elt V (attrs t)[j].nm).k = V.l[j].k := fun j hj hjl => by
        have : ixK V.ks (attrs t)[j].nm = some j := by
          refine ixK_pos hsr (by omega) ?_
          unfold kk
          rw [← hnk, List.getD_eq_getElem?_getD, List.getElem?_map, List.getElem?_eq_getElem hj]; rfl
        unfold elt
        rw [if_pos h5, this]
        simp only
        rw [List.getElem?_eq_getElem hjl]
        rfl
      constructor
      · rintro ⟨_, h⟩ a ha
        obtain ⟨j, hj, rfl⟩ := List.getElem_of_mem ha
        have hjl : j < V.l.length := by omega
        have := h j _ _ (List.getElem?_eq_getElem hj) (List.getElem?_eq_getElem hjl)
        rw [told_b] at this
        unfold toldElt
        rw [pos j hj hjl]
        exact this
      · intro h
        refine ⟨by omega, fun j X Y hX hY => ?_⟩
        obtain ⟨hj, rfl⟩ := List.getElem?_eq_some_iff.1 hX
        obtain ⟨hjl, rfl⟩ := List.getElem?_eq_some_iff.1 hY
        have := h _ (List.getElem_mem hj)
        unfold toldElt at this
        rw [pos j hj hjl] at this
        rw [told_b]
        exact this
    rw [e, Bool.and_comm]
  · rfl
end Go.Proofs.YtfmgbhaldakpfaaDoor

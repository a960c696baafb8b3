/- SchemaChanges: the law's walk. -/
import Derived.Test.YtfmgbhaldakpfaaDoorCk
import Derived.Test.YtfmgbhaldakpfaaDoorCi
import Derived.Test.YtfmgbhaldakpfaaDoorCe
import Derived.Test.YtfmgbhaldakpfaaDoorSw
import Derived.Test.YtfmgbhaldakpfaaDoorS
import Derived.Test.YtfmgbhaldakpfaaDoorV
import Derived.Test.YtfmgbhaldakpfaaDoorSj
namespace Go.Proofs.YtfmgbhaldakpfaaDoor
open Go.RowKit

theorem sames {Wa W0 W1 : World} {NL : List ByteArray} {o o' : Option Addr} {cap cap' : Nat} (h : RowP (Fr Wa W0) W0 o cap NL.length 1 (fun j _ => .string (NL.getD j default))) (b : Below W0.heap.size W0 W1) (h' : RowP (Fr W0 W1) W1 o' cap' NL.length 1 (fun j _ => .string (NL.getD j default))) :
    Calls Tryd.prog 12 #[.slice o NL.length cap, .slice o' NL.length cap'] W1 fun e w' => e = .returned (.bool true) ∧ Below W1.heap.size W1 w' := by
  have := sameTexts_any (n := W1.heap.size) (w := W1) (h.keptP (w' := W1) (P' := fun b => b < W1.heap.size) fun q hq => ⟨Nat.lt_of_lt_of_le hq.2 b.size, b.block q hq.2⟩) (h'.mono (P' := fun b => b < W1.heap.size) fun q hq => hq.2) (Nat.le_refl _)
  have e : eqK NL NL = true := decide_eq_true rfl
  rw [e] at this
  exact this
set_option maxHeartbeats 16000000 in
set_option maxRecDepth 100000 in
theorem lchanges_any {n : Nat} {A B : Val} {va vb : Value} {w : World} (t : ByteArray) (ht : t.size ≤ maxLen) (hA : Lies n w A va) (hB : Lies n w B vb) (hn : n ≤ w.heap.size) (hT : Tab w) :
    Calls Tryd.prog 5 #[.string t, va, vb] w fun e w' => e = .returned (.bool true) ∧ Below w.heap.size w w' := by
  obtain ⟨oLa, oKa, cLa, cKa, ca, rfl, OA⟩ := hA.inv
  obtain ⟨oLb, oKb, cLb, cKb, cb, rfl, OB⟩ := hB.inv
  have b0 : Below w.heap.size w ((w.alloc (bx A oLa oKa cLa cKa)).alloc (bx B oLb oKb cLb cKb)) := bal (bal (Below.refl _ _) _) _
  have HB := Lib.hid b0
  have LA := Lib.hid (OA.kept (b0.mono hn)).lies
  have LB := Lib.hid (OB.kept (b0.mono hn)).lies
  have XA := Lib.hid ((Hd.made w A (.slice oLa A.l.length cLa) (.slice oKa A.ks.length cKa)).kept ((Below.refl (w.heap.size + 1) _).alloc (by simp) (bx B oLb oKb cLb cKb)) (Nat.lt_succ_self _))
  have XB : Hid (Hd ((w.alloc (bx A oLa oKa cLa cKa)).alloc (bx B oLb oKb cLb cKb)) (w.heap.size + 1) B (.slice oLb B.l.length cLb) (.slice oKb B.ks.length cKb)) := by have := Hd.made (w.alloc (bx A oLa oKa cLa cKa)) B (.slice oLb B.l.length cLb) (.slice oKb B.ks.length cKb); rw [World.size_alloc] at this; exact this
  have HS : Hid (((w.alloc (bx A oLa oKa cLa cKa)).alloc (bx B oLb oKb cLb cKb)).heap.size = w.heap.size + 2) := by simp [Hid]
  have HT := Lib.hid (hT.below b0 hT.lt)
  have LO : Hid (∀ W, Below ((w.alloc (bx A oLa oKa cLa cKa)).alloc (bx B oLb oKb cLb cKb)).heap.size ((w.alloc (bx A oLa oKa cLa cKa)).alloc (bx B oLb oKb cLb cKb)) W → Lies n W A (vv A.k A.i A.s (.slice oLa A.l.length cLa) (.slice oKa A.ks.length cKa) A.tk A.to A.x) ∧ Lies n W B (vv B.k B.i B.s (.slice oLb B.l.length cLb) (.slice oKb B.ks.length cKb) B.tk B.to B.x) ∧ n ≤ W.heap.size ∧ Tab W) := fun W hW =>
    ⟨LA.out.kept (hW.mono (by simp; omega)), LB.out.kept (hW.mono (by simp; omega)), by have := hW.size; simp at this; omega, HT.out.below hW (by simp)⟩
  have hm := ht
  unfold maxLen at hm
  clear hA hB OA OB b0 hT ht
  by_cases q1 : 100 < t.size
  · have q1' : (100 : Int) < (t.size : Int) := by omega
    go_enter Tryd.func5, Tryd.ntmps5
    go_upto_region 1 with (fail)
    generalize (w.alloc _).alloc _ = w0 at *
    go_wp2_with fail
    refine (awake_any w0 HT.out).mono ?_
    rintro e wz ⟨rfl, hb⟩
    have BZ := Lib.hid (HB.out.trans (hb.mono HB.out.size))
    clear hb
    go_wp2_with fail
    go_ret
    exact ⟨rfl, BZ.out⟩
  have q1' : ¬ (100 : Int) < (t.size : Int) := by omega
  go_enter Tryd.func5, Tryd.ntmps5
  go_upto_region 1 with (fail)
  generalize (w.alloc _).alloc _ = w0 at *
  have hwl : w.heap.size < w0.heap.size := by rw [HS.out]; omega
  have hwl2 : w.heap.size + 1 < w0.heap.size := by rw [HS.out]; omega
  have B0 : Hid (Below w0.heap.size w0 w0) := Below.refl _ _
  obtain ⟨x8, x0, x1, x2, x3, x4, x5, x6, x7⟩ := XA.out.kept B0.out hwl
  obtain ⟨z8, z0, z1, z2, z3, z4, z5, z6, z7⟩ := XB.out.kept B0.out hwl2
  go_wp2_with fail
  refine (Great_any (LO.out w0 B0.out).1 (LO.out w0 B0.out).2.2.1).mono ?_
  rintro e w1 ⟨g, rfl, hg, hb⟩
  have B1 : Hid (Below w0.heap.size w0 w1) := B0.out.trans (hb.mono B0.out.size)
  clear hb
  clear x8 x0 x1 x2 x3 x4 x5 x6 x7 z8 z0 z1 z2 z3 z4 z5 z6 z7
  cases g with
  | true =>
    clear hg
    go_wp2_with fail
    refine (awake_any w1 (LO.out w1 B1.out).2.2.2).mono ?_
    rintro e wz ⟨rfl, hb⟩
    have BZ := Lib.hid (HB.out.trans ((B1.out.trans (hb.mono B1.out.size)).mono HB.out.size))
    clear hb
    go_wp2_with fail
    go_ret
    exact ⟨rfl, BZ.out⟩
  | false =>
    have hsA : sz A ≤ 600 := hg rfl
    clear hg
    obtain ⟨x8, x0, x1, x2, x3, x4, x5, x6, x7⟩ := XA.out.kept B1.out hwl
    obtain ⟨z8, z0, z1, z2, z3, z4, z5, z6, z7⟩ := XB.out.kept B1.out hwl2
    go_wp2_with fail
    refine (Great_any (LO.out w1 B1.out).2.1 (LO.out w1 B1.out).2.2.1).mono ?_
    rintro e w2 ⟨g, rfl, hg, hb⟩
    have B2 : Hid (Below w0.heap.size w0 w2) := B1.out.trans (hb.mono B1.out.size)
    clear hb
    clear x8 x0 x1 x2 x3 x4 x5 x6 x7 z8 z0 z1 z2 z3 z4 z5 z6 z7
    cases g with
    | true =>
      clear hg
      go_wp2_with fail
      refine (awake_any w2 (LO.out w2 B2.out).2.2.2).mono ?_
      rintro e wz ⟨rfl, hb⟩
      have BZ := Lib.hid (HB.out.trans ((B2.out.trans (hb.mono B2.out.size)).mono HB.out.size))
      clear hb
      go_wp2_with fail
      go_ret
      exact ⟨rfl, BZ.out⟩
    | false =>
      have hsB : sz B ≤ 600 := hg rfl
      clear hg
      obtain ⟨x8, x0, x1, x2, x3, x4, x5, x6, x7⟩ := XA.out.kept B2.out hwl
      obtain ⟨z8, z0, z1, z2, z3, z4, z5, z6, z7⟩ := XB.out.kept B2.out hwl2
      obtain ⟨qA, hqA⟩ : ∃ b, chk A = b := ⟨_, rfl⟩
      have CKA := Lib.hid (rCheck_any n A _ w2 (by omega) (LO.out w2 B2.out).1 (LO.out w2 B2.out).2.2.1)
      rw [hqA] at CKA
      have HQA := Lib.hid hqA
      clear hqA
      go_wp2_with fail
      refine CKA.out.mono ?_
      rintro e w3 ⟨rfl, hb⟩
      have B3 : Hid (Below w0.heap.size w0 w3) := B2.out.trans (hb.mono B2.out.size)
      clear hb
      clear x8 x0 x1 x2 x3 x4 x5 x6 x7 z8 z0 z1 z2 z3 z4 z5 z6 z7
      cases qA with
      | false =>
        go_wp2_with fail
        refine (awake_any w3 (LO.out w3 B3.out).2.2.2).mono ?_
        rintro e wz ⟨rfl, hb⟩
        have BZ := Lib.hid (HB.out.trans ((B3.out.trans (hb.mono B3.out.size)).mono HB.out.size))
        clear hb
        go_wp2_with fail
        go_ret
        exact ⟨rfl, BZ.out⟩
      | true =>
        obtain ⟨x8, x0, x1, x2, x3, x4, x5, x6, x7⟩ := XA.out.kept B3.out hwl
        obtain ⟨z8, z0, z1, z2, z3, z4, z5, z6, z7⟩ := XB.out.kept B3.out hwl2
        obtain ⟨qB, hqB⟩ : ∃ b, chk B = b := ⟨_, rfl⟩
        have CKB := Lib.hid (rCheck_any n B _ w3 (by omega) (LO.out w3 B3.out).2.1 (LO.out w3 B3.out).2.2.1)
        rw [hqB] at CKB
        have HQB := Lib.hid hqB
        clear hqB
        go_wp2_with fail
        refine CKB.out.mono ?_
        rintro e w4 ⟨rfl, hb⟩
        have B4 : Hid (Below w0.heap.size w0 w4) := B3.out.trans (hb.mono B3.out.size)
        clear hb
        clear x8 x0 x1 x2 x3 x4 x5 x6 x7 z8 z0 z1 z2 z3 z4 z5 z6 z7
        cases qB with
        | false =>
          go_wp2_with fail
          refine (awake_any w4 (LO.out w4 B4.out).2.2.2).mono ?_
          rintro e wz ⟨rfl, hb⟩
          have BZ := Lib.hid (HB.out.trans ((B4.out.trans (hb.mono B4.out.size)).mono HB.out.size))
          clear hb
          go_wp2_with fail
          go_ret
          exact ⟨rfl, BZ.out⟩
        | true =>
          obtain ⟨x8, x0, x1, x2, x3, x4, x5, x6, x7⟩ := XA.out.kept B4.out hwl
          obtain ⟨z8, z0, z1, z2, z3, z4, z5, z6, z7⟩ := XB.out.kept B4.out hwl2
          have hkA := Lib.hid (chk_kl HQA.out)
          have hkB := Lib.hid (chk_kl HQB.out)
          have CC := Lib.hid (computed_any t (by omega) (by omega) hkB.out (LO.out w4 B4.out).1 (LO.out w4 B4.out).2.1 (LO.out w4 B4.out).2.2.1 (LO.out w4 B4.out).2.2.2)
          have RC0 := Lib.hid (fun W hW => rcomputed_any t (by omega) hkA.out hkB.out (LO.out W hW).1 (LO.out W hW).2.1 (LO.out W hW).2.2.1)
          have HCK := Lib.hid (cp_kl (t := t) (B := B) hkA.out)
          have HCS := Lib.hid (cp_small (t := t) hsA hsB)
          have HCF := Lib.hid (chB_cp (t := t) (B := B) hkA.out)
          obtain ⟨C, hC⟩ : ∃ C, cpV t A B = C := ⟨_, rfl⟩
          rw [hC] at CC RC0 HCK HCS HCF
          clear hC
          go_wp2_with fail
          refine CC.out.mono ?_
          rintro e w5 ⟨oC, kC, cC, dC, fC, rfl, OC, hb⟩
          have B5 : Hid (Below w0.heap.size w0 w5) := B4.out.trans (hb.mono B4.out.size)
          clear x8 x0 x1 x2 x3 x4 x5 x6 x7 z8 z0 z1 z2 z3 z4 z5 z6 z7
          have B6 := Lib.hid (bal B5.out (bx C oC kC cC dC))
          have XC := Lib.hid (Hd.made w5 C (.slice oC C.l.length cC) (.slice kC C.ks.length dC))
          have LC6 : Hid (Lies (w5.alloc (bx C oC kC cC dC)).heap.size (w5.alloc (bx C oC kC cC dC)) C (vv C.k C.i C.s (.slice oC C.l.length cC) (.slice kC C.ks.length dC) C.tk C.to C.x)) := OC.lies.keptP fun q hq => ⟨by have := hq.2; simp; omega, Below.heap_alloc w5 _ q hq.2⟩
          have HZ6 : Hid ((w5.alloc (bx C oC kC cC dC)).heap.size = w5.heap.size + 1) := by simp [Hid]
          clear OC hb CC
          go_upto_region 4 with (fail)
          generalize World.alloc w5 _ = w6 at *
          obtain ⟨u8, u0, u1, u2, u3, u4, u5, u6, u7⟩ := XC.out
          obtain ⟨x8, x0, x1, x2, x3, x4, x5, x6, x7⟩ := XA.out.kept B6.out hwl
          obtain ⟨z8, z0, z1, z2, z3, z4, z5, z6, z7⟩ := XB.out.kept B6.out hwl2
          obtain ⟨N, hN⟩ : ∃ N, N = w6.heap.size := ⟨_, rfl⟩
          have S0 := held_at hN
          have lA : w.heap.size < N := by rw [hN]; have := B6.out.size; omega
          have lB : w.heap.size + 1 < N := by rw [hN]; have := B6.out.size; omega
          have lC : w5.heap.size < N := by rw [hN, HZ6.out]; omega
          have HN := Lib.hid hN
          have LW : Hid (∀ W, Below N w6 W → Below w0.heap.size w0 W) := fun W hW => B6.out.trans (hW.mono (by rw [HN.out]; exact B6.out.size))
          have LCW : Hid (∀ W, Below N w6 W → Lies W.heap.size W C (vv C.k C.i C.s (.slice oC C.l.length cC) (.slice kC C.ks.length dC) C.tk C.to C.x)) := fun W hW => LC6.out.keptP fun q hq => ⟨by have := hW.size; omega, hW.block q (by rw [HN.out]; exact hq)⟩
          have LCN : Hid (∀ W, Below N w6 W → Lies N W C (vv C.k C.i C.s (.slice oC C.l.length cC) (.slice kC C.ks.length dC) C.tk C.to C.x) ∧ N ≤ W.heap.size) := fun W hW => ⟨LC6.out.keptP fun q hq => ⟨by rw [HN.out]; exact hq, hW.block q (by rw [HN.out]; exact hq)⟩, by rw [HN.out]; exact hW.size⟩
          have hnN : Hid (n ≤ N) := by rw [Hid, HN.out]; exact (LO.out w6 B6.out).2.2.1
          obtain ⟨NL, hNL⟩ : ∃ NL, ((attrs t).filter (chB A B)).map (·.nm) = NL := ⟨_, rfl⟩
          obtain ⟨R, hR⟩ : ∃ R, ((attrs t).filter (chB A B)).any (·.an) = R := ⟨_, rfl⟩
          have C20 : Hid (∀ W, Below N w6 W → Calls Tryd.prog 20 #[.string t, vv A.k A.i A.s (.slice oLa A.l.length cLa) (.slice oKa A.ks.length cKa) A.tk A.to A.x, vv B.k B.i B.s (.slice oLb B.l.length cLb) (.slice oKb B.ks.length cKb) B.tk B.to B.x] W fun e w' => ∃ o cap, e = .returned (.slice o NL.length cap) ∧ RowP (Fr W w') w' o cap NL.length 1 (fun j _ => .string (NL.getD j default)) ∧ Below W.heap.size W w') := fun W hW => by
            have := changedN_any t (by omega) (by omega) hkA.out hkB.out (LO.out W (LW.out W hW)).1 (LO.out W (LW.out W hW)).2.1 (LO.out W (LW.out W hW)).2.2.1 (LO.out W (LW.out W hW)).2.2.2
            unfold NmsPost at this
            rw [hNL] at this
            exact this
          have C21 : Hid (∀ W, Below N w6 W → Calls Tryd.prog 21 #[.string t, vv A.k A.i A.s (.slice oLa A.l.length cLa) (.slice oKa A.ks.length cKa) A.tk A.to A.x, vv B.k B.i B.s (.slice oLb B.l.length cLb) (.slice oKb B.ks.length cKb) B.tk B.to B.x] W fun e w' => ∃ o cap, e = .returned (.slice o NL.length cap) ∧ RowP (Fr W w') w' o cap NL.length 1 (fun j _ => .string (NL.getD j default)) ∧ Below W.heap.size W w') := fun W hW => by
            have := rchanged_any t (by omega) (by omega) hkA.out hkB.out (LO.out W (LW.out W hW)).1 (LO.out W (LW.out W hW)).2.1 (LO.out W (LW.out W hW)).2.2.1
            unfold NmsPost at this
            rw [hNL] at this
            exact this
          have C22 : Hid (∀ W, Below N w6 W → Calls Tryd.prog 22 #[.string t, vv A.k A.i A.s (.slice oLa A.l.length cLa) (.slice oKa A.ks.length cKa) A.tk A.to A.x, vv B.k B.i B.s (.slice oLb B.l.length cLb) (.slice oKb B.ks.length cKb) B.tk B.to B.x] W fun e w' => e = .returned (.bool R) ∧ Below W.heap.size W w') := fun W hW => by
            have := anewB_any t (by omega) (by omega) hkA.out hkB.out (LO.out W (LW.out W hW)).1 (LO.out W (LW.out W hW)).2.1 (LO.out W (LW.out W hW)).2.2.1 (LO.out W (LW.out W hW)).2.2.2
            rw [hR] at this
            exact this
          have C23 : Hid (∀ W, Below N w6 W → Calls Tryd.prog 23 #[.string t, vv A.k A.i A.s (.slice oLa A.l.length cLa) (.slice oKa A.ks.length cKa) A.tk A.to A.x, vv B.k B.i B.s (.slice oLb B.l.length cLb) (.slice oKb B.ks.length cKb) B.tk B.to B.x] W fun e w' => e = .returned (.bool R) ∧ Below W.heap.size W w') := fun W hW => by
            have := ranewB_any t (by omega) (by omega) hkA.out hkB.out (LO.out W (LW.out W hW)).1 (LO.out W (LW.out W hW)).2.1 (LO.out W (LW.out W hW)).2.2.1
            rw [hR] at this
            exact this
          have C25 : Hid (∀ W, Below N w6 W → Calls Tryd.prog 25 #[.string t, vv A.k A.i A.s (.slice oLa A.l.length cLa) (.slice oKa A.ks.length cKa) A.tk A.to A.x, vv B.k B.i B.s (.slice oLb B.l.length cLb) (.slice oKb B.ks.length cKb) B.tk B.to B.x] W (RcPost C W)) := fun W hW => RC0.out W (LW.out W hW)
          have C24 : Hid (∀ W o k c d f, Lies W.heap.size W C (vv C.k C.i C.s (.slice oC C.l.length cC) (.slice kC C.ks.length dC) C.tk C.to C.x) → OpnP (fun b => b < W.heap.size) W C o k c d f → Calls Tryd.prog 24 #[vv C.k C.i C.s (.slice oC C.l.length cC) (.slice kC C.ks.length dC) C.tk C.to C.x, vv C.k C.i C.s (.slice o C.l.length c) (.slice k C.ks.length d) C.tk C.to C.x, .bool true] W fun e w' => e = .returned (.bool true) ∧ Below W.heap.size W w') := fun W o k c d f h1 h2 => rsameE_any (sz C) W.heap.size C _ _ W (Nat.le_refl _) h1 h2.lies (Nat.le_refl _)
          have C20C : Hid (∀ W, Below N w6 W → Calls Tryd.prog 20 #[.string t, vv A.k A.i A.s (.slice oLa A.l.length cLa) (.slice oKa A.ks.length cKa) A.tk A.to A.x, vv C.k C.i C.s (.slice oC C.l.length cC) (.slice kC C.ks.length dC) C.tk C.to C.x] W fun e w' => ∃ o cap, e = .returned (.slice o 0 cap) ∧ Below W.heap.size W w') := fun W hW => by
            have := changedNE_any t (el_small hsA) HCS.out hkA.out HCK.out ((LO.out W (LW.out W hW)).1.mono fun b hb => Nat.lt_of_lt_of_le hb hnN.out) (LCN.out W hW).1 (LCN.out W hW).2 (LO.out W (LW.out W hW)).2.2.2
            unfold NmsPost at this
            rw [HCF.out] at this
            exact this.mono fun e w' ⟨o, cap, he, _, hb⟩ => ⟨o, cap, he, hb⟩
          have C20A : Hid (∀ W, Below N w6 W → Calls Tryd.prog 20 #[.string t, vv A.k A.i A.s (.slice oLa A.l.length cLa) (.slice oKa A.ks.length cKa) A.tk A.to A.x, vv A.k A.i A.s (.slice oLa A.l.length cLa) (.slice oKa A.ks.length cKa) A.tk A.to A.x] W fun e w' => ∃ o cap, e = .returned (.slice o 0 cap) ∧ Below W.heap.size W w') := fun W hW => by
            have := changedN_any t (by omega) (by omega) hkA.out hkA.out (LO.out W (LW.out W hW)).1 (LO.out W (LW.out W hW)).1 (LO.out W (LW.out W hW)).2.2.1 (LO.out W (LW.out W hW)).2.2.2
            unfold NmsPost at this
            rw [ch_self] at this
            exact this.mono fun e w' ⟨o, cap, he, _, hb⟩ => ⟨o, cap, he, hb⟩
          have C6 : Hid (∀ W, Below N w6 W → Calls Tryd.prog 6 #[] W fun e w' => e = .returned (.bool true) ∧ Below W.heap.size W w') := fun W hW => awake_any W (LO.out W (LW.out W hW)).2.2.2
          clear hN hNL hR
          refine wp_region_noPanic ?_
          refine wp_region_held_drew (S := (fun W => (∀ b o, b < N → W.cell? ⟨b, o, none⟩ = w6.cell? ⟨b, o, none⟩) ∧ Hid (Below N w6 W) ∧ Hid (N ≤ W.heap.size))) (by kernel_rfl) ?_ (fun hH => ?_)
          · exact S0
          refine wpAnyH_take (i := 0) (oi := { dst := some 34, op := Op.move (Operand.tmp 0), type := 9, pos := "law.go:79", after := #[], guard := none }) (v := ?_) rfl (by kernel_rfl) (by kernel_rfl) (by kernel_rfl) (fun _ _ _ h => h) (Or.inl ⟨by rfl, ?_⟩) (by assumption) ?_
          rotate_left
          · (intro w hSw; (try dsimp only at hSw); go_simp; try with_reducible rfl)
          try simp only [Act.put, List.setIfInBounds_toArray, List.set_cons_zero, List.set_cons_succ]
          refine wpAnyH_take (i := 1) (oi := { dst := some 35, op := Op.load 42 (Operand.tmp 4), type := 42, pos := "law.go:79", after := #[], guard := none }) (v := ?_) rfl (by kernel_rfl) (by kernel_rfl) (by kernel_rfl) (fun _ _ _ h => h) (Or.inl ⟨by rfl, ?_⟩) (by assumption) ?_
          rotate_left
          · (intro w hSw; (try dsimp only at hSw); go_simp; try with_reducible rfl)
          try simp only [Act.put, List.setIfInBounds_toArray, List.set_cons_zero, List.set_cons_succ]
          refine wpAnyH_take (i := 2) (oi := { dst := some 36, op := Op.load 42 (Operand.tmp 5), type := 42, pos := "law.go:79", after := #[], guard := none }) (v := ?_) rfl (by kernel_rfl) (by kernel_rfl) (by kernel_rfl) (fun _ _ _ h => h) (Or.inl ⟨by rfl, ?_⟩) (by assumption) ?_
          rotate_left
          · (intro w hSw; (try dsimp only at hSw); go_simp; try with_reducible rfl)
          try simp only [Act.put, List.setIfInBounds_toArray, List.set_cons_zero, List.set_cons_succ]
          refine wpAnyH_take (i := 4) (oi := { dst := some 38, op := Op.move (Operand.tmp 0), type := 9, pos := "law.go:79", after := #[], guard := none }) (v := ?_) rfl (by kernel_rfl) (by kernel_rfl) (by kernel_rfl) (fun _ _ _ h => h) (Or.inl ⟨by rfl, ?_⟩) (by assumption) ?_
          rotate_left
          · (intro w hSw; (try dsimp only at hSw); go_simp; try with_reducible rfl)
          try simp only [Act.put, List.setIfInBounds_toArray, List.set_cons_zero, List.set_cons_succ]
          refine wpAnyH_take (i := 5) (oi := { dst := some 39, op := Op.load 42 (Operand.tmp 4), type := 42, pos := "law.go:79", after := #[], guard := none }) (v := ?_) rfl (by kernel_rfl) (by kernel_rfl) (by kernel_rfl) (fun _ _ _ h => h) (Or.inl ⟨by rfl, ?_⟩) (by assumption) ?_
          rotate_left
          · (intro w hSw; (try dsimp only at hSw); go_simp; try with_reducible rfl)
          try simp only [Act.put, List.setIfInBounds_toArray, List.set_cons_zero, List.set_cons_succ]
          refine wpAnyH_take (i := 6) (oi := { dst := some 40, op := Op.load 42 (Operand.tmp 5), type := 42, pos := "law.go:79", after := #[], guard := none }) (v := ?_) rfl (by kernel_rfl) (by kernel_rfl) (by kernel_rfl) (fun _ _ _ h => h) (Or.inl ⟨by rfl, ?_⟩) (by assumption) ?_
          rotate_left
          · (intro w hSw; (try dsimp only at hSw); go_simp; try with_reducible rfl)
          try simp only [Act.put, List.setIfInBounds_toArray, List.set_cons_zero, List.set_cons_succ]
          refine wpAnyH_ready (rs := [3]) (by kernel_rfl) (by simp) ?_
          refine AllReadyH.cons (o := { dst := some 37, op := Op.call { callee := Callee.value (Operand.func 20), args := #[Operand.tmp 34, Operand.tmp 35, Operand.tmp 36], argTypes := #[9, 42, 42] }, type := 36, pos := "law.go:79", after := #[{ on := 0, ground := Ground.data }, { on := 1, ground := Ground.data }, { on := 2, ground := Ground.data }], guard := none }) rfl (fun K hK => ?_) AllReadyH.nil
          go_simp
          refine (C20.out _ hH.2.1.out).mono ?_
          rintro e W_0 ⟨o20, k20, rfl, R20, b⟩
          refine hK.out _ _ ?_ (fun hH' => ?_)
          · exact held_next (by assumption) hH
          clear hK K hH
          have hH := hH'
          clear hH'
          try simp only [Act.put, List.setIfInBounds_toArray, List.set_cons_zero, List.set_cons_succ]
          refine wpAnyH_ready (rs := [7]) (by kernel_rfl) (by simp) ?_
          refine AllReadyH.cons (o := { dst := some 41, op := Op.call { callee := Callee.value (Operand.func 21), args := #[Operand.tmp 38, Operand.tmp 39, Operand.tmp 40], argTypes := #[9, 42, 42] }, type := 36, pos := "law.go:79", after := #[{ on := 4, ground := Ground.data }, { on := 5, ground := Ground.data }, { on := 6, ground := Ground.data }, { on := 3, ground := Ground.chain }], guard := none }) rfl (fun K hK => ?_) AllReadyH.nil
          go_simp
          refine (C21.out _ hH.2.1.out).mono ?_
          rintro e W_1 ⟨o21, k21, rfl, R21, b⟩
          refine hK.out _ _ ?_ (fun hH' => ?_)
          · exact held_next (by assumption) hH
          have b21 := b
          clear hK K hH
          have hH := hH'
          clear hH'
          try simp only [Act.put, List.setIfInBounds_toArray, List.set_cons_zero, List.set_cons_succ]
          refine wpAnyH_ready (rs := [8]) (by kernel_rfl) (by simp) ?_
          refine AllReadyH.cons (o := { dst := some 42, op := Op.call { callee := Callee.value (Operand.func 12), args := #[Operand.tmp 37, Operand.tmp 41], argTypes := #[36, 36] }, type := 4, pos := "law.go:79", after := #[{ on := 3, ground := Ground.data }, { on := 7, ground := Ground.data }, { on := 7, ground := Ground.chain }], guard := none }) rfl (fun K hK => ?_) AllReadyH.nil
          go_simp
          refine (sames R20 b21 R21).mono ?_
          rintro e W_2 ⟨rfl, b⟩
          refine hK.out _ _ ?_ (fun hH' => ?_)
          · exact held_next (by assumption) hH
          clear hK K hH
          have hH := hH'
          clear hH'
          try simp only [Act.put, List.setIfInBounds_toArray, List.set_cons_zero, List.set_cons_succ]
          refine wpAnyH_take (i := 9) (oi := { dst := some 43, op := Op.move (Operand.tmp 42), type := 4, pos := "law.go:79", after := #[{ on := 8, ground := Ground.data }, { on := 8, ground := Ground.chain }], guard := none }) (v := ?_) rfl (by kernel_rfl) (by kernel_rfl) (by kernel_rfl) (fun _ _ _ h => h) (Or.inl ⟨by rfl, ?_⟩) (by assumption) ?_
          rotate_left
          · (intro w hSw; (try dsimp only at hSw); go_simp; try with_reducible rfl)
          try simp only [Act.put, List.setIfInBounds_toArray, List.set_cons_zero, List.set_cons_succ]
          refine wpAnyH_take (i := 10) (oi := { dst := some 44, op := Op.move (Operand.tmp 0), type := 9, pos := "law.go:79", after := #[{ on := 9, ground := Ground.guard }], guard := some (9, true) }) (v := ?_) rfl (by kernel_rfl) (by kernel_rfl) (by kernel_rfl) (fun _ _ _ h => h) (Or.inl ⟨by rfl, ?_⟩) (by assumption) ?_
          rotate_left
          · (intro w hSw; (try dsimp only at hSw); go_simp; try with_reducible rfl)
          try simp only [Act.put, List.setIfInBounds_toArray, List.set_cons_zero, List.set_cons_succ]
          refine wpAnyH_take (i := 11) (oi := { dst := some 45, op := Op.load 42 (Operand.tmp 4), type := 42, pos := "law.go:79", after := #[{ on := 9, ground := Ground.guard }], guard := some (9, true) }) (v := ?_) rfl (by kernel_rfl) (by kernel_rfl) (by kernel_rfl) (fun _ _ _ h => h) (Or.inl ⟨by rfl, ?_⟩) (by assumption) ?_
          rotate_left
          · (intro w hSw; (try dsimp only at hSw); go_simp; try with_reducible rfl)
          try simp only [Act.put, List.setIfInBounds_toArray, List.set_cons_zero, List.set_cons_succ]
          refine wpAnyH_take (i := 12) (oi := { dst := some 46, op := Op.load 42 (Operand.tmp 5), type := 42, pos := "law.go:79", after := #[{ on := 9, ground := Ground.guard }], guard := some (9, true) }) (v := ?_) rfl (by kernel_rfl) (by kernel_rfl) (by kernel_rfl) (fun _ _ _ h => h) (Or.inl ⟨by rfl, ?_⟩) (by assumption) ?_
          rotate_left
          · (intro w hSw; (try dsimp only at hSw); go_simp; try with_reducible rfl)
          try simp only [Act.put, List.setIfInBounds_toArray, List.set_cons_zero, List.set_cons_succ]
          refine wpAnyH_take (i := 14) (oi := { dst := some 48, op := Op.move (Operand.tmp 0), type := 9, pos := "law.go:79", after := #[{ on := 9, ground := Ground.guard }], guard := some (9, true) }) (v := ?_) rfl (by kernel_rfl) (by kernel_rfl) (by kernel_rfl) (fun _ _ _ h => h) (Or.inl ⟨by rfl, ?_⟩) (by assumption) ?_
          rotate_left
          · (intro w hSw; (try dsimp only at hSw); go_simp; try with_reducible rfl)
          try simp only [Act.put, List.setIfInBounds_toArray, List.set_cons_zero, List.set_cons_succ]
          refine wpAnyH_take (i := 15) (oi := { dst := some 49, op := Op.load 42 (Operand.tmp 4), type := 42, pos := "law.go:79", after := #[{ on := 9, ground := Ground.guard }], guard := some (9, true) }) (v := ?_) rfl (by kernel_rfl) (by kernel_rfl) (by kernel_rfl) (fun _ _ _ h => h) (Or.inl ⟨by rfl, ?_⟩) (by assumption) ?_
          rotate_left
          · (intro w hSw; (try dsimp only at hSw); go_simp; try with_reducible rfl)
          try simp only [Act.put, List.setIfInBounds_toArray, List.set_cons_zero, List.set_cons_succ]
          refine wpAnyH_take (i := 16) (oi := { dst := some 50, op := Op.load 42 (Operand.tmp 5), type := 42, pos := "law.go:79", after := #[{ on := 9, ground := Ground.guard }], guard := some (9, true) }) (v := ?_) rfl (by kernel_rfl) (by kernel_rfl) (by kernel_rfl) (fun _ _ _ h => h) (Or.inl ⟨by rfl, ?_⟩) (by assumption) ?_
          rotate_left
          · (intro w hSw; (try dsimp only at hSw); go_simp; try with_reducible rfl)
          try simp only [Act.put, List.setIfInBounds_toArray, List.set_cons_zero, List.set_cons_succ]
          refine wpAnyH_ready (rs := [13]) (by kernel_rfl) (by simp) ?_
          refine AllReadyH.cons (o := { dst := some 47, op := Op.call { callee := Callee.value (Operand.func 22), args := #[Operand.tmp 44, Operand.tmp 45, Operand.tmp 46], argTypes := #[9, 42, 42] }, type := 4, pos := "law.go:79", after := #[{ on := 10, ground := Ground.data }, { on := 11, ground := Ground.data }, { on := 12, ground := Ground.data }, { on := 9, ground := Ground.chain }, { on := 9, ground := Ground.guard }], guard := some (9, true) }) rfl (fun K hK => ?_) AllReadyH.nil
          go_simp
          refine (C22.out _ hH.2.1.out).mono ?_
          rintro e W_3 ⟨rfl, b⟩
          refine hK.out _ _ ?_ (fun hH' => ?_)
          · exact held_next (by assumption) hH
          clear hK K hH
          have hH := hH'
          clear hH'
          try simp only [Act.put, List.setIfInBounds_toArray, List.set_cons_zero, List.set_cons_succ]
          refine wpAnyH_ready (rs := [17]) (by kernel_rfl) (by simp) ?_
          refine AllReadyH.cons (o := { dst := some 51, op := Op.call { callee := Callee.value (Operand.func 23), args := #[Operand.tmp 48, Operand.tmp 49, Operand.tmp 50], argTypes := #[9, 42, 42] }, type := 4, pos := "law.go:79", after := #[{ on := 14, ground := Ground.data }, { on := 15, ground := Ground.data }, { on := 16, ground := Ground.data }, { on := 13, ground := Ground.chain }, { on := 9, ground := Ground.guard }], guard := some (9, true) }) rfl (fun K hK => ?_) AllReadyH.nil
          go_simp
          refine (C23.out _ hH.2.1.out).mono ?_
          rintro e W_4 ⟨rfl, b⟩
          refine hK.out _ _ ?_ (fun hH' => ?_)
          · exact held_next (by assumption) hH
          clear hK K hH
          have hH := hH'
          clear hH'
          try simp only [Act.put, List.setIfInBounds_toArray, List.set_cons_zero, List.set_cons_succ]
          refine wpAnyH_take (i := 18) (oi := { dst := some 52, op := Op.binOp BinOp.eql 4 (Operand.tmp 47) (Operand.tmp 51) 4, type := 4, pos := "law.go:79", after := #[{ on := 13, ground := Ground.data }, { on := 17, ground := Ground.data }, { on := 9, ground := Ground.guard }], guard := some (9, true) }) (v := ?_) rfl (by kernel_rfl) (by kernel_rfl) (by kernel_rfl) (fun _ _ _ h => h) (Or.inl ⟨by rfl, ?_⟩) (by assumption) ?_
          rotate_left
          · (intro w hSw; (try dsimp only at hSw); go_simp; try with_reducible rfl)
          try simp only [Act.put, List.setIfInBounds_toArray, List.set_cons_zero, List.set_cons_succ]
          refine wpAnyH_take (i := 19) (oi := { dst := some 53, op := Op.pick (Operand.tmp 43) (Operand.tmp 52) (Operand.const (Value.bool false)), type := 4, pos := "law.go:79", after := #[{ on := 9, ground := Ground.data }, { on := 18, ground := Ground.data }], guard := none }) (v := ?_) rfl (by kernel_rfl) (by kernel_rfl) (by kernel_rfl) (fun _ _ _ h => h) (Or.inl ⟨by rfl, ?_⟩) (by assumption) ?_
          rotate_left
          · (intro w hSw; (try dsimp only at hSw); go_simp; try with_reducible rfl)
          try simp only [Act.put, List.setIfInBounds_toArray, List.set_cons_zero, List.set_cons_succ]
          refine wpAnyH_take (i := 20) (oi := { dst := some 54, op := Op.move (Operand.tmp 53), type := 4, pos := "law.go:79", after := #[{ on := 19, ground := Ground.data }, { on := 17, ground := Ground.chain }], guard := none }) (v := ?_) rfl (by kernel_rfl) (by kernel_rfl) (by kernel_rfl) (fun _ _ _ h => h) (Or.inl ⟨by rfl, ?_⟩) (by assumption) ?_
          rotate_left
          · (intro w hSw; (try dsimp only at hSw); go_simp; try with_reducible rfl)
          try simp only [Act.put, List.setIfInBounds_toArray, List.set_cons_zero, List.set_cons_succ]
          refine wpAnyH_take (i := 21) (oi := { dst := some 55, op := Op.load 42 (Operand.tmp 7), type := 42, pos := "law.go:79", after := #[{ on := 20, ground := Ground.guard }], guard := some (20, true) }) (v := ?_) rfl (by kernel_rfl) (by kernel_rfl) (by kernel_rfl) (fun _ _ _ h => h) (Or.inl ⟨by rfl, ?_⟩) (by assumption) ?_
          rotate_left
          · (intro w hSw; (try dsimp only at hSw); go_simp; try with_reducible rfl)
          try simp only [Act.put, List.setIfInBounds_toArray, List.set_cons_zero, List.set_cons_succ]
          refine wpAnyH_take (i := 22) (oi := { dst := some 56, op := Op.move (Operand.tmp 0), type := 9, pos := "law.go:79", after := #[{ on := 20, ground := Ground.guard }], guard := some (20, true) }) (v := ?_) rfl (by kernel_rfl) (by kernel_rfl) (by kernel_rfl) (fun _ _ _ h => h) (Or.inl ⟨by rfl, ?_⟩) (by assumption) ?_
          rotate_left
          · (intro w hSw; (try dsimp only at hSw); go_simp; try with_reducible rfl)
          try simp only [Act.put, List.setIfInBounds_toArray, List.set_cons_zero, List.set_cons_succ]
          refine wpAnyH_take (i := 23) (oi := { dst := some 57, op := Op.load 42 (Operand.tmp 4), type := 42, pos := "law.go:79", after := #[{ on := 20, ground := Ground.guard }], guard := some (20, true) }) (v := ?_) rfl (by kernel_rfl) (by kernel_rfl) (by kernel_rfl) (fun _ _ _ h => h) (Or.inl ⟨by rfl, ?_⟩) (by assumption) ?_
          rotate_left
          · (intro w hSw; (try dsimp only at hSw); go_simp; try with_reducible rfl)
          try simp only [Act.put, List.setIfInBounds_toArray, List.set_cons_zero, List.set_cons_succ]
          refine wpAnyH_take (i := 24) (oi := { dst := some 58, op := Op.load 42 (Operand.tmp 5), type := 42, pos := "law.go:79", after := #[{ on := 20, ground := Ground.guard }], guard := some (20, true) }) (v := ?_) rfl (by kernel_rfl) (by kernel_rfl) (by kernel_rfl) (fun _ _ _ h => h) (Or.inl ⟨by rfl, ?_⟩) (by assumption) ?_
          rotate_left
          · (intro w hSw; (try dsimp only at hSw); go_simp; try with_reducible rfl)
          try simp only [Act.put, List.setIfInBounds_toArray, List.set_cons_zero, List.set_cons_succ]
          refine wpAnyH_ready (rs := [25]) (by kernel_rfl) (by simp) ?_
          refine AllReadyH.cons (o := { dst := some 59, op := Op.call { callee := Callee.value (Operand.func 25), args := #[Operand.tmp 56, Operand.tmp 57, Operand.tmp 58], argTypes := #[9, 42, 42] }, type := 42, pos := "law.go:79", after := #[{ on := 22, ground := Ground.data }, { on := 23, ground := Ground.data }, { on := 24, ground := Ground.data }, { on := 20, ground := Ground.chain }, { on := 20, ground := Ground.guard }], guard := some (20, true) }) rfl (fun K hK => ?_) AllReadyH.nil
          go_simp
          refine (C25.out _ hH.2.1.out).mono ?_
          rintro e W_5 ⟨oC1, kC1, cC1, dC1, fC1, rfl, OC1, b⟩
          refine hK.out _ _ ?_ (fun hH' => ?_)
          · exact held_next (by assumption) hH
          clear hK K hH
          have hH := hH'
          clear hH'
          try simp only [Act.put, List.setIfInBounds_toArray, List.set_cons_zero, List.set_cons_succ]
          refine wpAnyH_ready (rs := [26]) (by kernel_rfl) (by simp) ?_
          refine AllReadyH.cons (o := { dst := some 60, op := Op.call { callee := Callee.value (Operand.func 24), args := #[Operand.tmp 55, Operand.tmp 59, Operand.const (Value.bool true)], argTypes := #[42, 42, 4] }, type := 4, pos := "law.go:79", after := #[{ on := 21, ground := Ground.data }, { on := 25, ground := Ground.data }, { on := 25, ground := Ground.chain }, { on := 20, ground := Ground.guard }], guard := some (20, true) }) rfl (fun K hK => ?_) AllReadyH.nil
          go_simp
          refine (C24.out _ _ _ _ _ _ (LCW.out _ hH.2.1.out) OC1).mono ?_
          rintro e W_6 ⟨rfl, b⟩
          refine hK.out _ _ ?_ (fun hH' => ?_)
          · exact held_next (by assumption) hH
          clear hK K hH
          have hH := hH'
          clear hH'
          try simp only [Act.put, List.setIfInBounds_toArray, List.set_cons_zero, List.set_cons_succ]
          refine wpAnyH_take (i := 27) (oi := { dst := some 61, op := Op.pick (Operand.tmp 54) (Operand.tmp 60) (Operand.const (Value.bool false)), type := 4, pos := "law.go:79", after := #[{ on := 20, ground := Ground.data }, { on := 26, ground := Ground.data }], guard := none }) (v := ?_) rfl (by kernel_rfl) (by kernel_rfl) (by kernel_rfl) (fun _ _ _ h => h) (Or.inl ⟨by rfl, ?_⟩) (by assumption) ?_
          rotate_left
          · (intro w hSw; (try dsimp only at hSw); go_simp; try with_reducible rfl)
          try simp only [Act.put, List.setIfInBounds_toArray, List.set_cons_zero, List.set_cons_succ]
          refine wpAnyH_take (i := 28) (oi := { dst := some 62, op := Op.move (Operand.tmp 61), type := 4, pos := "law.go:79", after := #[{ on := 27, ground := Ground.data }, { on := 26, ground := Ground.chain }], guard := none }) (v := ?_) rfl (by kernel_rfl) (by kernel_rfl) (by kernel_rfl) (fun _ _ _ h => h) (Or.inl ⟨by rfl, ?_⟩) (by assumption) ?_
          rotate_left
          · (intro w hSw; (try dsimp only at hSw); go_simp; try with_reducible rfl)
          try simp only [Act.put, List.setIfInBounds_toArray, List.set_cons_zero, List.set_cons_succ]
          refine wpAnyH_take (i := 29) (oi := { dst := some 63, op := Op.move (Operand.tmp 0), type := 9, pos := "law.go:79", after := #[{ on := 28, ground := Ground.guard }], guard := some (28, true) }) (v := ?_) rfl (by kernel_rfl) (by kernel_rfl) (by kernel_rfl) (fun _ _ _ h => h) (Or.inl ⟨by rfl, ?_⟩) (by assumption) ?_
          rotate_left
          · (intro w hSw; (try dsimp only at hSw); go_simp; try with_reducible rfl)
          try simp only [Act.put, List.setIfInBounds_toArray, List.set_cons_zero, List.set_cons_succ]
          refine wpAnyH_take (i := 30) (oi := { dst := some 64, op := Op.load 42 (Operand.tmp 4), type := 42, pos := "law.go:79", after := #[{ on := 28, ground := Ground.guard }], guard := some (28, true) }) (v := ?_) rfl (by kernel_rfl) (by kernel_rfl) (by kernel_rfl) (fun _ _ _ h => h) (Or.inl ⟨by rfl, ?_⟩) (by assumption) ?_
          rotate_left
          · (intro w hSw; (try dsimp only at hSw); go_simp; try with_reducible rfl)
          try simp only [Act.put, List.setIfInBounds_toArray, List.set_cons_zero, List.set_cons_succ]
          refine wpAnyH_take (i := 31) (oi := { dst := some 65, op := Op.load 42 (Operand.tmp 7), type := 42, pos := "law.go:79", after := #[{ on := 28, ground := Ground.guard }], guard := some (28, true) }) (v := ?_) rfl (by kernel_rfl) (by kernel_rfl) (by kernel_rfl) (fun _ _ _ h => h) (Or.inl ⟨by rfl, ?_⟩) (by assumption) ?_
          rotate_left
          · (intro w hSw; (try dsimp only at hSw); go_simp; try with_reducible rfl)
          try simp only [Act.put, List.setIfInBounds_toArray, List.set_cons_zero, List.set_cons_succ]
          refine wpAnyH_ready (rs := [32]) (by kernel_rfl) (by simp) ?_
          refine AllReadyH.cons (o := { dst := some 66, op := Op.call { callee := Callee.value (Operand.func 20), args := #[Operand.tmp 63, Operand.tmp 64, Operand.tmp 65], argTypes := #[9, 42, 42] }, type := 36, pos := "law.go:79", after := #[{ on := 29, ground := Ground.data }, { on := 30, ground := Ground.data }, { on := 31, ground := Ground.data }, { on := 28, ground := Ground.chain }, { on := 28, ground := Ground.guard }], guard := some (28, true) }) rfl (fun K hK => ?_) AllReadyH.nil
          go_simp
          refine (C20C.out _ hH.2.1.out).mono ?_
          rintro e W_7 ⟨o32, k32, rfl, b⟩
          refine hK.out _ _ ?_ (fun hH' => ?_)
          · exact held_next (by assumption) hH
          clear hK K hH
          have hH := hH'
          clear hH'
          try simp only [Act.put, List.setIfInBounds_toArray, List.set_cons_zero, List.set_cons_succ]
          refine wpAnyH_take (i := 33) (oi := { dst := some 67, op := Op.call { callee := Callee.builtin Builtin.len, args := #[Operand.tmp 66], argTypes := #[36] }, type := 3, pos := "law.go:79", after := #[{ on := 32, ground := Ground.data }, { on := 28, ground := Ground.guard }], guard := some (28, true) }) (v := ?_) rfl (by kernel_rfl) (by kernel_rfl) (by kernel_rfl) (fun _ _ _ h => h) (Or.inl ⟨by rfl, ?_⟩) (by assumption) ?_
          rotate_left
          · (intro w hSw; (try dsimp only at hSw); go_simp; try with_reducible rfl)
          try simp only [Act.put, List.setIfInBounds_toArray, List.set_cons_zero, List.set_cons_succ]
          refine wpAnyH_take (i := 34) (oi := { dst := some 68, op := Op.binOp BinOp.eql 3 (Operand.tmp 67) (Operand.const (Value.int IntKind.i64 0)) 3, type := 4, pos := "law.go:79", after := #[{ on := 33, ground := Ground.data }, { on := 28, ground := Ground.guard }], guard := some (28, true) }) (v := ?_) rfl (by kernel_rfl) (by kernel_rfl) (by kernel_rfl) (fun _ _ _ h => h) (Or.inl ⟨by rfl, ?_⟩) (by assumption) ?_
          rotate_left
          · (intro w hSw; (try dsimp only at hSw); go_simp; try with_reducible rfl)
          try simp only [Act.put, List.setIfInBounds_toArray, List.set_cons_zero, List.set_cons_succ]
          refine wpAnyH_take (i := 35) (oi := { dst := some 69, op := Op.pick (Operand.tmp 62) (Operand.tmp 68) (Operand.const (Value.bool false)), type := 4, pos := "law.go:79", after := #[{ on := 28, ground := Ground.data }, { on := 34, ground := Ground.data }], guard := none }) (v := ?_) rfl (by kernel_rfl) (by kernel_rfl) (by kernel_rfl) (fun _ _ _ h => h) (Or.inl ⟨by rfl, ?_⟩) (by assumption) ?_
          rotate_left
          · (intro w hSw; (try dsimp only at hSw); go_simp; try with_reducible rfl)
          try simp only [Act.put, List.setIfInBounds_toArray, List.set_cons_zero, List.set_cons_succ]
          refine wpAnyH_take (i := 36) (oi := { dst := some 70, op := Op.move (Operand.tmp 69), type := 4, pos := "law.go:79", after := #[{ on := 35, ground := Ground.data }, { on := 32, ground := Ground.chain }], guard := none }) (v := ?_) rfl (by kernel_rfl) (by kernel_rfl) (by kernel_rfl) (fun _ _ _ h => h) (Or.inl ⟨by rfl, ?_⟩) (by assumption) ?_
          rotate_left
          · (intro w hSw; (try dsimp only at hSw); go_simp; try with_reducible rfl)
          try simp only [Act.put, List.setIfInBounds_toArray, List.set_cons_zero, List.set_cons_succ]
          refine wpAnyH_take (i := 37) (oi := { dst := some 71, op := Op.move (Operand.tmp 0), type := 9, pos := "law.go:79", after := #[{ on := 36, ground := Ground.guard }], guard := some (36, true) }) (v := ?_) rfl (by kernel_rfl) (by kernel_rfl) (by kernel_rfl) (fun _ _ _ h => h) (Or.inl ⟨by rfl, ?_⟩) (by assumption) ?_
          rotate_left
          · (intro w hSw; (try dsimp only at hSw); go_simp; try with_reducible rfl)
          try simp only [Act.put, List.setIfInBounds_toArray, List.set_cons_zero, List.set_cons_succ]
          refine wpAnyH_take (i := 38) (oi := { dst := some 72, op := Op.load 42 (Operand.tmp 4), type := 42, pos := "law.go:79", after := #[{ on := 36, ground := Ground.guard }], guard := some (36, true) }) (v := ?_) rfl (by kernel_rfl) (by kernel_rfl) (by kernel_rfl) (fun _ _ _ h => h) (Or.inl ⟨by rfl, ?_⟩) (by assumption) ?_
          rotate_left
          · (intro w hSw; (try dsimp only at hSw); go_simp; try with_reducible rfl)
          try simp only [Act.put, List.setIfInBounds_toArray, List.set_cons_zero, List.set_cons_succ]
          refine wpAnyH_take (i := 39) (oi := { dst := some 73, op := Op.load 42 (Operand.tmp 4), type := 42, pos := "law.go:79", after := #[{ on := 36, ground := Ground.guard }], guard := some (36, true) }) (v := ?_) rfl (by kernel_rfl) (by kernel_rfl) (by kernel_rfl) (fun _ _ _ h => h) (Or.inl ⟨by rfl, ?_⟩) (by assumption) ?_
          rotate_left
          · (intro w hSw; (try dsimp only at hSw); go_simp; try with_reducible rfl)
          try simp only [Act.put, List.setIfInBounds_toArray, List.set_cons_zero, List.set_cons_succ]
          refine wpAnyH_ready (rs := [40]) (by kernel_rfl) (by simp) ?_
          refine AllReadyH.cons (o := { dst := some 74, op := Op.call { callee := Callee.value (Operand.func 20), args := #[Operand.tmp 71, Operand.tmp 72, Operand.tmp 73], argTypes := #[9, 42, 42] }, type := 36, pos := "law.go:79", after := #[{ on := 37, ground := Ground.data }, { on := 38, ground := Ground.data }, { on := 39, ground := Ground.data }, { on := 36, ground := Ground.chain }, { on := 36, ground := Ground.guard }], guard := some (36, true) }) rfl (fun K hK => ?_) AllReadyH.nil
          go_simp
          refine (C20A.out _ hH.2.1.out).mono ?_
          rintro e W_8 ⟨o40, k40, rfl, b⟩
          refine hK.out _ _ ?_ (fun hH' => ?_)
          · exact held_next (by assumption) hH
          clear hK K hH
          have hH := hH'
          clear hH'
          try simp only [Act.put, List.setIfInBounds_toArray, List.set_cons_zero, List.set_cons_succ]
          refine wpAnyH_take (i := 41) (oi := { dst := some 75, op := Op.call { callee := Callee.builtin Builtin.len, args := #[Operand.tmp 74], argTypes := #[36] }, type := 3, pos := "law.go:79", after := #[{ on := 40, ground := Ground.data }, { on := 36, ground := Ground.guard }], guard := some (36, true) }) (v := ?_) rfl (by kernel_rfl) (by kernel_rfl) (by kernel_rfl) (fun _ _ _ h => h) (Or.inl ⟨by rfl, ?_⟩) (by assumption) ?_
          rotate_left
          · (intro w hSw; (try dsimp only at hSw); go_simp; try with_reducible rfl)
          try simp only [Act.put, List.setIfInBounds_toArray, List.set_cons_zero, List.set_cons_succ]
          refine wpAnyH_take (i := 42) (oi := { dst := some 76, op := Op.binOp BinOp.eql 3 (Operand.tmp 75) (Operand.const (Value.int IntKind.i64 0)) 3, type := 4, pos := "law.go:79", after := #[{ on := 41, ground := Ground.data }, { on := 36, ground := Ground.guard }], guard := some (36, true) }) (v := ?_) rfl (by kernel_rfl) (by kernel_rfl) (by kernel_rfl) (fun _ _ _ h => h) (Or.inl ⟨by rfl, ?_⟩) (by assumption) ?_
          rotate_left
          · (intro w hSw; (try dsimp only at hSw); go_simp; try with_reducible rfl)
          try simp only [Act.put, List.setIfInBounds_toArray, List.set_cons_zero, List.set_cons_succ]
          refine wpAnyH_take (i := 43) (oi := { dst := some 77, op := Op.pick (Operand.tmp 70) (Operand.tmp 76) (Operand.const (Value.bool false)), type := 4, pos := "law.go:79", after := #[{ on := 36, ground := Ground.data }, { on := 42, ground := Ground.data }], guard := none }) (v := ?_) rfl (by kernel_rfl) (by kernel_rfl) (by kernel_rfl) (fun _ _ _ h => h) (Or.inl ⟨by rfl, ?_⟩) (by assumption) ?_
          rotate_left
          · (intro w hSw; (try dsimp only at hSw); go_simp; try with_reducible rfl)
          try simp only [Act.put, List.setIfInBounds_toArray, List.set_cons_zero, List.set_cons_succ]
          refine wpAnyH_take (i := 44) (oi := { dst := some 78, op := Op.move (Operand.tmp 77), type := 4, pos := "law.go:79", after := #[{ on := 43, ground := Ground.data }, { on := 40, ground := Ground.chain }], guard := none }) (v := ?_) rfl (by kernel_rfl) (by kernel_rfl) (by kernel_rfl) (fun _ _ _ h => h) (Or.inl ⟨by rfl, ?_⟩) (by assumption) ?_
          rotate_left
          · (intro w hSw; (try dsimp only at hSw); go_simp; try with_reducible rfl)
          try simp only [Act.put, List.setIfInBounds_toArray, List.set_cons_zero, List.set_cons_succ]
          refine wpAnyH_ready (rs := [45]) (by kernel_rfl) (by simp) ?_
          refine AllReadyH.cons (o := { dst := some 79, op := Op.call { callee := Callee.value (Operand.func 6), args := #[], argTypes := #[] }, type := 4, pos := "law.go:79", after := #[{ on := 44, ground := Ground.chain }, { on := 44, ground := Ground.guard }], guard := some (44, true) }) rfl (fun K hK => ?_) AllReadyH.nil
          go_simp
          refine (C6.out _ hH.2.1.out).mono ?_
          rintro e W_9 ⟨rfl, b⟩
          refine hK.out _ _ ?_ (fun hH' => ?_)
          · exact held_next (by assumption) hH
          clear hK K hH
          have hH := hH'
          clear hH'
          try simp only [Act.put, List.setIfInBounds_toArray, List.set_cons_zero, List.set_cons_succ]
          refine wpAnyH_take (i := 46) (oi := { dst := some 80, op := Op.pick (Operand.tmp 78) (Operand.tmp 79) (Operand.const (Value.bool false)), type := 4, pos := "law.go:79", after := #[{ on := 44, ground := Ground.data }, { on := 45, ground := Ground.data }], guard := none }) (v := ?_) rfl (by kernel_rfl) (by kernel_rfl) (by kernel_rfl) (fun _ _ _ h => h) (Or.inl ⟨by rfl, ?_⟩) (by assumption) ?_
          rotate_left
          · (intro w hSw; (try dsimp only at hSw); go_simp; try with_reducible rfl)
          try simp only [Act.put, List.setIfInBounds_toArray, List.set_cons_zero, List.set_cons_succ]
          refine wpAnyH_take (i := 47) (oi := { dst := some 6, op := Op.assign (Operand.tmp 80), type := 4, pos := "law.go:79", after := #[{ on := 46, ground := Ground.data }, { on := 45, ground := Ground.chain }, { on := 0, ground := Ground.phase }, { on := 1, ground := Ground.phase }, { on := 2, ground := Ground.phase }, { on := 3, ground := Ground.phase }, { on := 4, ground := Ground.phase }, { on := 5, ground := Ground.phase }, { on := 6, ground := Ground.phase }, { on := 7, ground := Ground.phase }, { on := 8, ground := Ground.phase }, { on := 9, ground := Ground.phase }, { on := 10, ground := Ground.phase }, { on := 11, ground := Ground.phase }, { on := 12, ground := Ground.phase }, { on := 13, ground := Ground.phase }, { on := 14, ground := Ground.phase }, { on := 15, ground := Ground.phase }, { on := 16, ground := Ground.phase }, { on := 17, ground := Ground.phase }, { on := 18, ground := Ground.phase }, { on := 19, ground := Ground.phase }, { on := 20, ground := Ground.phase }, { on := 21, ground := Ground.phase }, { on := 22, ground := Ground.phase }, { on := 23, ground := Ground.phase }, { on := 24, ground := Ground.phase }, { on := 25, ground := Ground.phase }, { on := 26, ground := Ground.phase }, { on := 27, ground := Ground.phase }, { on := 28, ground := Ground.phase }, { on := 29, ground := Ground.phase }, { on := 30, ground := Ground.phase }, { on := 31, ground := Ground.phase }, { on := 32, ground := Ground.phase }, { on := 33, ground := Ground.phase }, { on := 34, ground := Ground.phase }, { on := 35, ground := Ground.phase }, { on := 36, ground := Ground.phase }, { on := 37, ground := Ground.phase }, { on := 38, ground := Ground.phase }, { on := 39, ground := Ground.phase }, { on := 40, ground := Ground.phase }, { on := 41, ground := Ground.phase }, { on := 42, ground := Ground.phase }, { on := 43, ground := Ground.phase }, { on := 44, ground := Ground.phase }, { on := 45, ground := Ground.phase }, { on := 46, ground := Ground.phase }], guard := none }) (v := ?_) rfl (by kernel_rfl) (by kernel_rfl) (by kernel_rfl) (fun _ _ _ h => h) (Or.inl ⟨by rfl, ?_⟩) (by assumption) ?_
          rotate_left
          · (intro w hSw; (try dsimp only at hSw); go_simp; try with_reducible rfl)
          try simp only [Act.put, List.setIfInBounds_toArray, List.set_cons_zero, List.set_cons_succ]
          refine wpAnyH_done (by kernel_rfl) ?_ _
          refine NoPanic.normal ?_
          have BZ := Lib.hid (HB.out.trans ((LW.out _ hH.2.1.out).mono HB.out.size))
          clear S0 hH
          go_wp2_with fail
          go_ret
          exact ⟨rfl, BZ.out⟩
end Go.Proofs.YtfmgbhaldakpfaaDoor

/- ValueOrder: the law's walk. -/
import Derived.Test.YtfgkkccgecnchaaLn
import Derived.Test.YtfgkkccgecnchaaLa
import Derived.Deep.Cut
namespace Go.Proofs.Ytfgkkccgecnchaa
open Go.RowKit

set_option maxRecDepth 100000 in
set_option maxHeartbeats 8000000 in
theorem lorder_any {n : Nat} {A B C : Val} {vA vB vC : Value} {w : World} (hA : Lies n w A vA) (hB : Lies n w B vB) (hC : Lies n w C vC) (hn : n ≤ w.heap.size) : Calls Try.prog 6 #[vA, vB, vC] w fun e w' => e = .returned (.bool true) ∧ Below w.heap.size w w' := by
  obtain ⟨oLA, oKA, cLA, cKA, cA, rfl, OA⟩ := hA.inv
  obtain ⟨oLB, oKB, cLB, cKB, cB, rfl, OB⟩ := hB.inv
  obtain ⟨oLC, oKC, cLC, cKC, cC, rfl, OC⟩ := hC.inv
  have HW : Hid (Below w.heap.size w (((w.alloc (bx A oLA oKA cLA cKA)).alloc (bx B oLB oKB cLB cKB)).alloc (bx C oLC oKC cLC cKC))) := ((((Below.refl w.heap.size w).alloc (Nat.le_refl _) (bx A oLA oKA cLA cKA)).alloc (by simp only [World.size_alloc]; omega) (bx B oLB oKB cLB cKB)).alloc (by simp only [World.size_alloc]; omega) (bx C oLC oKC cLC cKC))
  have HZ : Hid ((((w.alloc (bx A oLA oKA cLA cKA)).alloc (bx B oLB oKB cLB cKB)).alloc (bx C oLC oKC cLC cKC)).heap.size = w.heap.size + 3) := by simp [Hid]
  have HXA : Hid (Hd (((w.alloc (bx A oLA oKA cLA cKA)).alloc (bx B oLB oKB cLB cKB)).alloc (bx C oLC oKC cLC cKC)) (w.heap.size + 0) A (.slice oLA A.l.length cLA) (.slice oKA A.ks.length cKA)) := by
    have h0 := Hd.made w A (.slice oLA A.l.length cLA) (.slice oKA A.ks.length cKA)
    exact h0.kept (((Below.refl (w.heap.size + 1) _).alloc (by simp only [World.size_alloc]; omega) (bx B oLB oKB cLB cKB)).alloc (by simp only [World.size_alloc]; omega) (bx C oLC oKC cLC cKC)) (by omega)
  have HXB : Hid (Hd (((w.alloc (bx A oLA oKA cLA cKA)).alloc (bx B oLB oKB cLB cKB)).alloc (bx C oLC oKC cLC cKC)) (w.heap.size + 1) B (.slice oLB B.l.length cLB) (.slice oKB B.ks.length cKB)) := by
    have h0 := Hd.made (w.alloc (bx A oLA oKA cLA cKA)) B (.slice oLB B.l.length cLB) (.slice oKB B.ks.length cKB)
    simp only [World.size_alloc] at h0
    exact h0.kept ((Below.refl (w.heap.size + 2) _).alloc (by simp only [World.size_alloc]; omega) (bx C oLC oKC cLC cKC)) (by omega)
  have HXC : Hid (Hd (((w.alloc (bx A oLA oKA cLA cKA)).alloc (bx B oLB oKB cLB cKB)).alloc (bx C oLC oKC cLC cKC)) (w.heap.size + 2) C (.slice oLC C.l.length cLC) (.slice oKC C.ks.length cKC)) := by
    have h0 := Hd.made ((w.alloc (bx A oLA oKA cLA cKA)).alloc (bx B oLB oKB cLB cKB)) C (.slice oLC C.l.length cLC) (.slice oKC C.ks.length cKC)
    simp only [World.size_alloc] at h0
    exact h0
  have HOA := Lib.hid (OA.kept (HW.out.mono hn))
  have HOB := Lib.hid (OB.kept (HW.out.mono hn))
  have HOC := Lib.hid (OC.kept (HW.out.mono hn))
  clear hA OA hB OB hC OC
  go_enter Try.func6, Try.ntmps6
  go_upto_region 1 with fail
  generalize World.alloc (World.alloc (World.alloc w _) _) _ = w0 at *
  simp only [Nat.add_zero] at HXA
  have LA : Hid (∀ W, Below w0.heap.size w0 W → Lies n W A (vv A.k A.i A.s (.slice oLA A.l.length cLA) (.slice oKA A.ks.length cKA) A.tk A.to A.x) ∧ n ≤ W.heap.size) := fun W b => ⟨(HOA.out.kept (b.mono (by have := HZ.out; omega))).lies, by have := b.size; have := HZ.out; omega⟩
  have LB : Hid (∀ W, Below w0.heap.size w0 W → Lies n W B (vv B.k B.i B.s (.slice oLB B.l.length cLB) (.slice oKB B.ks.length cKB) B.tk B.to B.x) ∧ n ≤ W.heap.size) := fun W b => ⟨(HOB.out.kept (b.mono (by have := HZ.out; omega))).lies, by have := b.size; have := HZ.out; omega⟩
  have LC : Hid (∀ W, Below w0.heap.size w0 W → Lies n W C (vv C.k C.i C.s (.slice oLC C.l.length cLC) (.slice oKC C.ks.length cKC) C.tk C.to C.x) ∧ n ≤ W.heap.size) := fun W b => ⟨(HOC.out.kept (b.mono (by have := HZ.out; omega))).lies, by have := b.size; have := HZ.out; omega⟩
  have B0 := Lib.hid (Below.refl w0.heap.size w0)
  obtain ⟨x8, x0, x1, x2, x3, x4, x5, x6, x7⟩ := HXA.out.kept B0.out (by have := HZ.out; omega)
  obtain ⟨y8, y0, y1, y2, y3, y4, y5, y6, y7⟩ := HXB.out.kept B0.out (by have := HZ.out; omega)
  obtain ⟨z8, z0, z1, z2, z3, z4, z5, z6, z7⟩ := HXC.out.kept B0.out (by have := HZ.out; omega)
  go_wp2_with fail
  refine (Great_any (LA.out _ B0.out).1 (LA.out _ B0.out).2).mono ?_
  rintro e w_1 ⟨g_1, rfl, hs_1, b_1⟩
  have B1 := Lib.hid (B0.out.trans (b_1.mono B0.out.size))
  clear b_1
  clear x8 x0 x1 x2 x3 x4 x5 x6 x7 y8 y0 y1 y2 y3 y4 y5 y6 y7 z8 z0 z1 z2 z3 z4 z5 z6 z7
  obtain ⟨x8, x0, x1, x2, x3, x4, x5, x6, x7⟩ := HXA.out.kept B1.out (by have := HZ.out; omega)
  obtain ⟨y8, y0, y1, y2, y3, y4, y5, y6, y7⟩ := HXB.out.kept B1.out (by have := HZ.out; omega)
  obtain ⟨z8, z0, z1, z2, z3, z4, z5, z6, z7⟩ := HXC.out.kept B1.out (by have := HZ.out; omega)
  cases g_1 with
  | true =>
    clear hs_1
    go_wp2_with fail
    refine (awake_any _).mono ?_
    rintro e wz ⟨rfl, bz⟩
    have BZ := Lib.hid (HW.out.trans ((B1.out.trans (bz.mono B1.out.size)).mono HW.out.size))
    clear bz
    go_wp2_with fail
    go_ret
    exact ⟨rfl, BZ.out⟩
  | false =>
    have hzA := hs_1 rfl
    clear hs_1
    go_wp2_with fail
    refine (Great_any (LB.out _ B1.out).1 (LB.out _ B1.out).2).mono ?_
    rintro e w_2 ⟨g_2, rfl, hs_2, b_2⟩
    have B2 := Lib.hid (B1.out.trans (b_2.mono B1.out.size))
    clear b_2
    clear x8 x0 x1 x2 x3 x4 x5 x6 x7 y8 y0 y1 y2 y3 y4 y5 y6 y7 z8 z0 z1 z2 z3 z4 z5 z6 z7
    obtain ⟨x8, x0, x1, x2, x3, x4, x5, x6, x7⟩ := HXA.out.kept B2.out (by have := HZ.out; omega)
    obtain ⟨y8, y0, y1, y2, y3, y4, y5, y6, y7⟩ := HXB.out.kept B2.out (by have := HZ.out; omega)
    obtain ⟨z8, z0, z1, z2, z3, z4, z5, z6, z7⟩ := HXC.out.kept B2.out (by have := HZ.out; omega)
    cases g_2 with
    | true =>
      clear hs_2
      go_wp2_with fail
      refine (awake_any _).mono ?_
      rintro e wz ⟨rfl, bz⟩
      have BZ := Lib.hid (HW.out.trans ((B2.out.trans (bz.mono B2.out.size)).mono HW.out.size))
      clear bz
      go_wp2_with fail
      go_ret
      exact ⟨rfl, BZ.out⟩
    | false =>
      have hzB := hs_2 rfl
      clear hs_2
      go_wp2_with fail
      refine (Great_any (LC.out _ B2.out).1 (LC.out _ B2.out).2).mono ?_
      rintro e w_3 ⟨g_3, rfl, hs_3, b_3⟩
      have B3 := Lib.hid (B2.out.trans (b_3.mono B2.out.size))
      clear b_3
      clear x8 x0 x1 x2 x3 x4 x5 x6 x7 y8 y0 y1 y2 y3 y4 y5 y6 y7 z8 z0 z1 z2 z3 z4 z5 z6 z7
      obtain ⟨x8, x0, x1, x2, x3, x4, x5, x6, x7⟩ := HXA.out.kept B3.out (by have := HZ.out; omega)
      obtain ⟨y8, y0, y1, y2, y3, y4, y5, y6, y7⟩ := HXB.out.kept B3.out (by have := HZ.out; omega)
      obtain ⟨z8, z0, z1, z2, z3, z4, z5, z6, z7⟩ := HXC.out.kept B3.out (by have := HZ.out; omega)
      cases g_3 with
      | true =>
        clear hs_3
        go_wp2_with fail
        refine (awake_any _).mono ?_
        rintro e wz ⟨rfl, bz⟩
        have BZ := Lib.hid (HW.out.trans ((B3.out.trans (bz.mono B3.out.size)).mono HW.out.size))
        clear bz
        go_wp2_with fail
        go_ret
        exact ⟨rfl, BZ.out⟩
      | false =>
        have hzC := hs_3 rfl
        clear hs_3
        cases hcA : chk A with
        | false =>
          have C := fun W (b : Below w0.heap.size w0 W) => rCheck_any n A _ W (by omega) (LA.out W b).1 (LA.out W b).2
          rw [hcA] at C
          have HC := Lib.hid C
          clear C hcA
          go_wp2_with fail
          refine (HC.out _ B3.out).mono ?_
          rintro e w_4 ⟨rfl, b_4⟩
          have B4 := Lib.hid (B3.out.trans (b_4.mono B3.out.size))
          clear b_4
          clear x8 x0 x1 x2 x3 x4 x5 x6 x7 y8 y0 y1 y2 y3 y4 y5 y6 y7 z8 z0 z1 z2 z3 z4 z5 z6 z7
          obtain ⟨x8, x0, x1, x2, x3, x4, x5, x6, x7⟩ := HXA.out.kept B4.out (by have := HZ.out; omega)
          obtain ⟨y8, y0, y1, y2, y3, y4, y5, y6, y7⟩ := HXB.out.kept B4.out (by have := HZ.out; omega)
          obtain ⟨z8, z0, z1, z2, z3, z4, z5, z6, z7⟩ := HXC.out.kept B4.out (by have := HZ.out; omega)
          go_wp2_with fail
          refine (awake_any _).mono ?_
          rintro e wz ⟨rfl, bz⟩
          have BZ := Lib.hid (HW.out.trans ((B4.out.trans (bz.mono B4.out.size)).mono HW.out.size))
          clear bz
          go_wp2_with fail
          go_ret
          exact ⟨rfl, BZ.out⟩
        | true =>
          have HCA := Lib.hid hcA
          have C := fun W (b : Below w0.heap.size w0 W) => rCheck_any n A _ W (by omega) (LA.out W b).1 (LA.out W b).2
          rw [hcA] at C
          have HC := Lib.hid C
          clear C hcA
          go_wp2_with fail
          refine (HC.out _ B3.out).mono ?_
          rintro e w_4 ⟨rfl, b_4⟩
          have B4 := Lib.hid (B3.out.trans (b_4.mono B3.out.size))
          clear b_4
          clear x8 x0 x1 x2 x3 x4 x5 x6 x7 y8 y0 y1 y2 y3 y4 y5 y6 y7 z8 z0 z1 z2 z3 z4 z5 z6 z7
          obtain ⟨x8, x0, x1, x2, x3, x4, x5, x6, x7⟩ := HXA.out.kept B4.out (by have := HZ.out; omega)
          obtain ⟨y8, y0, y1, y2, y3, y4, y5, y6, y7⟩ := HXB.out.kept B4.out (by have := HZ.out; omega)
          obtain ⟨z8, z0, z1, z2, z3, z4, z5, z6, z7⟩ := HXC.out.kept B4.out (by have := HZ.out; omega)
          clear HC
          cases hcB : chk B with
          | false =>
            have C := fun W (b : Below w0.heap.size w0 W) => rCheck_any n B _ W (by omega) (LB.out W b).1 (LB.out W b).2
            rw [hcB] at C
            have HC := Lib.hid C
            clear C hcB
            go_wp2_with fail
            refine (HC.out _ B4.out).mono ?_
            rintro e w_5 ⟨rfl, b_5⟩
            have B5 := Lib.hid (B4.out.trans (b_5.mono B4.out.size))
            clear b_5
            clear x8 x0 x1 x2 x3 x4 x5 x6 x7 y8 y0 y1 y2 y3 y4 y5 y6 y7 z8 z0 z1 z2 z3 z4 z5 z6 z7
            obtain ⟨x8, x0, x1, x2, x3, x4, x5, x6, x7⟩ := HXA.out.kept B5.out (by have := HZ.out; omega)
            obtain ⟨y8, y0, y1, y2, y3, y4, y5, y6, y7⟩ := HXB.out.kept B5.out (by have := HZ.out; omega)
            obtain ⟨z8, z0, z1, z2, z3, z4, z5, z6, z7⟩ := HXC.out.kept B5.out (by have := HZ.out; omega)
            go_wp2_with fail
            refine (awake_any _).mono ?_
            rintro e wz ⟨rfl, bz⟩
            have BZ := Lib.hid (HW.out.trans ((B5.out.trans (bz.mono B5.out.size)).mono HW.out.size))
            clear bz
            go_wp2_with fail
            go_ret
            exact ⟨rfl, BZ.out⟩
          | true =>
            have HCB := Lib.hid hcB
            have C := fun W (b : Below w0.heap.size w0 W) => rCheck_any n B _ W (by omega) (LB.out W b).1 (LB.out W b).2
            rw [hcB] at C
            have HC := Lib.hid C
            clear C hcB
            go_wp2_with fail
            refine (HC.out _ B4.out).mono ?_
            rintro e w_5 ⟨rfl, b_5⟩
            have B5 := Lib.hid (B4.out.trans (b_5.mono B4.out.size))
            clear b_5
            clear x8 x0 x1 x2 x3 x4 x5 x6 x7 y8 y0 y1 y2 y3 y4 y5 y6 y7 z8 z0 z1 z2 z3 z4 z5 z6 z7
            obtain ⟨x8, x0, x1, x2, x3, x4, x5, x6, x7⟩ := HXA.out.kept B5.out (by have := HZ.out; omega)
            obtain ⟨y8, y0, y1, y2, y3, y4, y5, y6, y7⟩ := HXB.out.kept B5.out (by have := HZ.out; omega)
            obtain ⟨z8, z0, z1, z2, z3, z4, z5, z6, z7⟩ := HXC.out.kept B5.out (by have := HZ.out; omega)
            clear HC
            cases hcC : chk C with
            | false =>
              have C := fun W (b : Below w0.heap.size w0 W) => rCheck_any n C _ W (by omega) (LC.out W b).1 (LC.out W b).2
              rw [hcC] at C
              have HC := Lib.hid C
              clear C hcC
              go_wp2_with fail
              refine (HC.out _ B5.out).mono ?_
              rintro e w_6 ⟨rfl, b_6⟩
              have B6 := Lib.hid (B5.out.trans (b_6.mono B5.out.size))
              clear b_6
              clear x8 x0 x1 x2 x3 x4 x5 x6 x7 y8 y0 y1 y2 y3 y4 y5 y6 y7 z8 z0 z1 z2 z3 z4 z5 z6 z7
              obtain ⟨x8, x0, x1, x2, x3, x4, x5, x6, x7⟩ := HXA.out.kept B6.out (by have := HZ.out; omega)
              obtain ⟨y8, y0, y1, y2, y3, y4, y5, y6, y7⟩ := HXB.out.kept B6.out (by have := HZ.out; omega)
              obtain ⟨z8, z0, z1, z2, z3, z4, z5, z6, z7⟩ := HXC.out.kept B6.out (by have := HZ.out; omega)
              go_wp2_with fail
              refine (awake_any _).mono ?_
              rintro e wz ⟨rfl, bz⟩
              have BZ := Lib.hid (HW.out.trans ((B6.out.trans (bz.mono B6.out.size)).mono HW.out.size))
              clear bz
              go_wp2_with fail
              go_ret
              exact ⟨rfl, BZ.out⟩
            | true =>
              have HCC := Lib.hid hcC
              have C := fun W (b : Below w0.heap.size w0 W) => rCheck_any n C _ W (by omega) (LC.out W b).1 (LC.out W b).2
              rw [hcC] at C
              have HC := Lib.hid C
              clear C hcC
              go_wp2_with fail
              refine (HC.out _ B5.out).mono ?_
              rintro e w_6 ⟨rfl, b_6⟩
              have B6 := Lib.hid (B5.out.trans (b_6.mono B5.out.size))
              clear b_6
              clear x8 x0 x1 x2 x3 x4 x5 x6 x7 y8 y0 y1 y2 y3 y4 y5 y6 y7 z8 z0 z1 z2 z3 z4 z5 z6 z7
              obtain ⟨x8, x0, x1, x2, x3, x4, x5, x6, x7⟩ := HXA.out.kept B6.out (by have := HZ.out; omega)
              obtain ⟨y8, y0, y1, y2, y3, y4, y5, y6, y7⟩ := HXB.out.kept B6.out (by have := HZ.out; omega)
              obtain ⟨z8, z0, z1, z2, z3, z4, z5, z6, z7⟩ := HXC.out.kept B6.out (by have := HZ.out; omega)
              clear HC
              go_upto_region 3 with fail
              obtain ⟨N, hN⟩ : ∃ N, N = w_6.heap.size := ⟨_, rfl⟩
              have S0 := held_at hN
              have lA : w.heap.size < N := by have := B6.out.size; have := HZ.out; omega
              have lB : w.heap.size + 1 < N := by have := B6.out.size; have := HZ.out; omega
              have lC : w.heap.size + 2 < N := by have := B6.out.size; have := HZ.out; omega
              have HN := Lib.hid hN
              clear hN
              have LW : Hid (∀ W, Held N w_6 W → Below w0.heap.size w0 W) := fun W h => B6.out.trans (h.2.1.out.mono (by rw [HN.out]; exact B6.out.size))
              have CAB : Hid (∀ W, Held N w_6 W → Calls Try.prog 24 #[vv A.k A.i A.s (.slice oLA A.l.length cLA) (.slice oKA A.ks.length cKA) A.tk A.to A.x, vv B.k B.i B.s (.slice oLB B.l.length cLB) (.slice oKB B.ks.length cKB) B.tk B.to B.x] W fun e w' => e = .returned (.bool (refV A B)) ∧ Below W.heap.size W w') := fun W h => refines_any 1300 n A B _ _ W (by omega) (LA.out W (LW.out W h)).1 (LB.out W (LW.out W h)).1 (LA.out W (LW.out W h)).2
              have CBC : Hid (∀ W, Held N w_6 W → Calls Try.prog 24 #[vv B.k B.i B.s (.slice oLB B.l.length cLB) (.slice oKB B.ks.length cKB) B.tk B.to B.x, vv C.k C.i C.s (.slice oLC C.l.length cLC) (.slice oKC C.ks.length cKC) C.tk C.to C.x] W fun e w' => e = .returned (.bool (refV B C)) ∧ Below W.heap.size W w') := fun W h => refines_any 1300 n B C _ _ W (by omega) (LB.out W (LW.out W h)).1 (LC.out W (LW.out W h)).1 (LB.out W (LW.out W h)).2
              have CAC : Hid (∀ W, Held N w_6 W → Calls Try.prog 24 #[vv A.k A.i A.s (.slice oLA A.l.length cLA) (.slice oKA A.ks.length cKA) A.tk A.to A.x, vv C.k C.i C.s (.slice oLC C.l.length cLC) (.slice oKC C.ks.length cKC) C.tk C.to C.x] W fun e w' => e = .returned (.bool (refV A C)) ∧ Below W.heap.size W w') := fun W h => refines_any 1300 n A C _ _ W (by omega) (LA.out W (LW.out W h)).1 (LC.out W (LW.out W h)).1 (LA.out W (LW.out W h)).2
              refine wp_region_noPanic ?_
              refine wp_region_held_drew (S := (fun W => (∀ b o, b < N → W.cell? ⟨b, o, none⟩ = w_6.cell? ⟨b, o, none⟩) ∧ Hid (Below N w_6 W) ∧ Hid (N ≤ W.heap.size))) (by kernel_rfl) ?_ (fun hH => ?_)
              · exact S0
              refine wpAnyH_take (i := 0) (oi := { dst := some 36, op := Op.load 27 (Operand.tmp 3), type := 27, pos := "law.go:97", after := #[], guard := none }) (v := ?_) rfl (by kernel_rfl) (by kernel_rfl) (by kernel_rfl) (fun _ _ _ h => h) (Or.inl ⟨by rfl, ?_⟩) (by assumption) ?_
              rotate_left
              · (intro w hSw; (try dsimp only at hSw); go_simp; try with_reducible rfl)
              try simp only [Act.put, List.setIfInBounds_toArray, List.set_cons_zero, List.set_cons_succ]
              refine wpAnyH_take (i := 1) (oi := { dst := some 37, op := Op.load 27 (Operand.tmp 4), type := 27, pos := "law.go:97", after := #[], guard := none }) (v := ?_) rfl (by kernel_rfl) (by kernel_rfl) (by kernel_rfl) (fun _ _ _ h => h) (Or.inl ⟨by rfl, ?_⟩) (by assumption) ?_
              rotate_left
              · (intro w hSw; (try dsimp only at hSw); go_simp; try with_reducible rfl)
              try simp only [Act.put, List.setIfInBounds_toArray, List.set_cons_zero, List.set_cons_succ]
              refine wpAnyH_take (i := 3) (oi := { dst := some 39, op := Op.load 27 (Operand.tmp 4), type := 27, pos := "law.go:97", after := #[], guard := none }) (v := ?_) rfl (by kernel_rfl) (by kernel_rfl) (by kernel_rfl) (fun _ _ _ h => h) (Or.inl ⟨by rfl, ?_⟩) (by assumption) ?_
              rotate_left
              · (intro w hSw; (try dsimp only at hSw); go_simp; try with_reducible rfl)
              try simp only [Act.put, List.setIfInBounds_toArray, List.set_cons_zero, List.set_cons_succ]
              refine wpAnyH_take (i := 4) (oi := { dst := some 40, op := Op.load 27 (Operand.tmp 5), type := 27, pos := "law.go:97", after := #[], guard := none }) (v := ?_) rfl (by kernel_rfl) (by kernel_rfl) (by kernel_rfl) (fun _ _ _ h => h) (Or.inl ⟨by rfl, ?_⟩) (by assumption) ?_
              rotate_left
              · (intro w hSw; (try dsimp only at hSw); go_simp; try with_reducible rfl)
              try simp only [Act.put, List.setIfInBounds_toArray, List.set_cons_zero, List.set_cons_succ]
              refine wpAnyH_take (i := 6) (oi := { dst := some 42, op := Op.load 27 (Operand.tmp 3), type := 27, pos := "law.go:97", after := #[], guard := none }) (v := ?_) rfl (by kernel_rfl) (by kernel_rfl) (by kernel_rfl) (fun _ _ _ h => h) (Or.inl ⟨by rfl, ?_⟩) (by assumption) ?_
              rotate_left
              · (intro w hSw; (try dsimp only at hSw); go_simp; try with_reducible rfl)
              try simp only [Act.put, List.setIfInBounds_toArray, List.set_cons_zero, List.set_cons_succ]
              refine wpAnyH_take (i := 7) (oi := { dst := some 43, op := Op.load 27 (Operand.tmp 5), type := 27, pos := "law.go:97", after := #[], guard := none }) (v := ?_) rfl (by kernel_rfl) (by kernel_rfl) (by kernel_rfl) (fun _ _ _ h => h) (Or.inl ⟨by rfl, ?_⟩) (by assumption) ?_
              rotate_left
              · (intro w hSw; (try dsimp only at hSw); go_simp; try with_reducible rfl)
              try simp only [Act.put, List.setIfInBounds_toArray, List.set_cons_zero, List.set_cons_succ]
              refine wpAnyH_ready (rs := [2]) (by kernel_rfl) (by simp) ?_
              refine AllReadyH.cons (o := { dst := some 38, op := Op.call { callee := Callee.value (Operand.func 24), args := #[Operand.tmp 36, Operand.tmp 37], argTypes := #[27, 27] }, type := 4, pos := "law.go:97", after := #[{ on := 0, ground := Ground.data }, { on := 1, ground := Ground.data }], guard := none }) rfl (fun K hK => ?_) AllReadyH.nil
              go_simp
              refine (CAB.out _ hH).mono ?_
              rintro e W_0 ⟨rfl, b⟩
              refine hK.out _ _ ?_ (fun hH' => ?_)
              · exact held_next (by assumption) hH
              clear hK K hH
              have hH := hH'
              clear hH'
              try simp only [Act.put, List.setIfInBounds_toArray, List.set_cons_zero, List.set_cons_succ]
              refine wpAnyH_ready (rs := [5]) (by kernel_rfl) (by simp) ?_
              refine AllReadyH.cons (o := { dst := some 41, op := Op.call { callee := Callee.value (Operand.func 24), args := #[Operand.tmp 39, Operand.tmp 40], argTypes := #[27, 27] }, type := 4, pos := "law.go:97", after := #[{ on := 3, ground := Ground.data }, { on := 4, ground := Ground.data }, { on := 2, ground := Ground.chain }], guard := none }) rfl (fun K hK => ?_) AllReadyH.nil
              go_simp
              refine (CBC.out _ hH).mono ?_
              rintro e W_1 ⟨rfl, b⟩
              refine hK.out _ _ ?_ (fun hH' => ?_)
              · exact held_next (by assumption) hH
              clear hK K hH
              have hH := hH'
              clear hH'
              try simp only [Act.put, List.setIfInBounds_toArray, List.set_cons_zero, List.set_cons_succ]
              refine wpAnyH_ready (rs := [8]) (by kernel_rfl) (by simp) ?_
              refine AllReadyH.cons (o := { dst := some 44, op := Op.call { callee := Callee.value (Operand.func 24), args := #[Operand.tmp 42, Operand.tmp 43], argTypes := #[27, 27] }, type := 4, pos := "law.go:97", after := #[{ on := 6, ground := Ground.data }, { on := 7, ground := Ground.data }, { on := 5, ground := Ground.chain }], guard := none }) rfl (fun K hK => ?_) AllReadyH.nil
              go_simp
              refine (CAC.out _ hH).mono ?_
              rintro e W_2 ⟨rfl, b⟩
              refine hK.out _ _ ?_ (fun hH' => ?_)
              · exact held_next (by assumption) hH
              clear hK K hH
              have hH := hH'
              clear hH'
              try simp only [Act.put, List.setIfInBounds_toArray, List.set_cons_zero, List.set_cons_succ]
              refine wpAnyH_take (i := 9) (oi := { dst := some 7, op := Op.assign (Operand.tmp 38), type := 4, pos := "law.go:97", after := #[{ on := 2, ground := Ground.data }, { on := 8, ground := Ground.chain }, { on := 0, ground := Ground.phase }, { on := 1, ground := Ground.phase }, { on := 2, ground := Ground.phase }, { on := 3, ground := Ground.textOnly Departure.lateStores }, { on := 4, ground := Ground.textOnly Departure.lateStores }, { on := 5, ground := Ground.textOnly Departure.lateStoresUnsure }, { on := 6, ground := Ground.textOnly Departure.lateStores }, { on := 7, ground := Ground.textOnly Departure.lateStores }, { on := 8, ground := Ground.textOnly Departure.lateStoresUnsure }], guard := none }) (v := ?_) rfl (by kernel_rfl) (by kernel_rfl) (by kernel_rfl) (fun _ _ _ h => h) (Or.inl ⟨by rfl, ?_⟩) (by assumption) ?_
              rotate_left
              · (intro w hSw; (try dsimp only at hSw); go_simp; try with_reducible rfl)
              try simp only [Act.put, List.setIfInBounds_toArray, List.set_cons_zero, List.set_cons_succ]
              refine wpAnyH_take (i := 10) (oi := { dst := some 8, op := Op.assign (Operand.tmp 41), type := 4, pos := "law.go:97", after := #[{ on := 5, ground := Ground.data }, { on := 9, ground := Ground.chain }, { on := 0, ground := Ground.phase }, { on := 1, ground := Ground.phase }, { on := 2, ground := Ground.phase }, { on := 3, ground := Ground.phase }, { on := 4, ground := Ground.phase }, { on := 5, ground := Ground.phase }, { on := 6, ground := Ground.textOnly Departure.lateStores }, { on := 7, ground := Ground.textOnly Departure.lateStores }, { on := 8, ground := Ground.textOnly Departure.lateStoresUnsure }, { on := 9, ground := Ground.phase }], guard := none }) (v := ?_) rfl (by kernel_rfl) (by kernel_rfl) (by kernel_rfl) (fun _ _ _ h => h) (Or.inl ⟨by rfl, ?_⟩) (by assumption) ?_
              rotate_left
              · (intro w hSw; (try dsimp only at hSw); go_simp; try with_reducible rfl)
              try simp only [Act.put, List.setIfInBounds_toArray, List.set_cons_zero, List.set_cons_succ]
              refine wpAnyH_take (i := 11) (oi := { dst := some 9, op := Op.assign (Operand.tmp 44), type := 4, pos := "law.go:97", after := #[{ on := 8, ground := Ground.data }, { on := 10, ground := Ground.chain }, { on := 0, ground := Ground.phase }, { on := 1, ground := Ground.phase }, { on := 2, ground := Ground.phase }, { on := 3, ground := Ground.phase }, { on := 4, ground := Ground.phase }, { on := 5, ground := Ground.phase }, { on := 6, ground := Ground.phase }, { on := 7, ground := Ground.phase }, { on := 8, ground := Ground.phase }, { on := 9, ground := Ground.phase }, { on := 10, ground := Ground.phase }], guard := none }) (v := ?_) rfl (by kernel_rfl) (by kernel_rfl) (by kernel_rfl) (fun _ _ _ h => h) (Or.inl ⟨by rfl, ?_⟩) (by assumption) ?_
              rotate_left
              · (intro w hSw; (try dsimp only at hSw); go_simp; try with_reducible rfl)
              try simp only [Act.put, List.setIfInBounds_toArray, List.set_cons_zero, List.set_cons_succ]
              refine wpAnyH_done (by kernel_rfl) ?_ _
              refine NoPanic.normal ?_
              have B7 := Lib.hid (LW.out _ hH)
              clear x8 x0 x1 x2 x3 x4 x5 x6 x7 y8 y0 y1 y2 y3 y4 y5 y6 y7 z8 z0 z1 z2 z3 z4 z5 z6 z7
              clear S0 hH
              obtain ⟨x8, x0, x1, x2, x3, x4, x5, x6, x7⟩ := HXA.out.kept B7.out (by have := HZ.out; omega)
              obtain ⟨y8, y0, y1, y2, y3, y4, y5, y6, y7⟩ := HXB.out.kept B7.out (by have := HZ.out; omega)
              obtain ⟨z8, z0, z1, z2, z3, z4, z5, z6, z7⟩ := HXC.out.kept B7.out (by have := HZ.out; omega)
              cases hab : refV A B with
              | false =>
                clear hab
                go_wp2_with fail
                refine (awake_any _).mono ?_
                rintro e wz ⟨rfl, bz⟩
                have BZ := Lib.hid (HW.out.trans ((B7.out.trans (bz.mono B7.out.size)).mono HW.out.size))
                clear bz
                go_wp2_with fail
                go_ret
                exact ⟨rfl, BZ.out⟩
              | true =>
                have OKs : Hid (okT 8 A = true ∧ okT 8 B = true ∧ refV A B = true) := by
                  have e1 := HCA.out
                  have e2 := HCB.out
                  unfold chk at e1 e2
                  rw [Bool.and_eq_true] at e1 e2
                  exact ⟨e1.2, e2.2, hab⟩
                cases hbc : refV B C with
                | true =>
                  have hac : refV A C = true := ref_trans A B C hab hbc
                  rw [hac]
                  clear hab hbc hac
                  have CBA := refines_any 1300 n B A _ _ _ (by omega) (LB.out _ B7.out).1 (LA.out _ B7.out).1 (LA.out _ B7.out).2
                  cases hba : refV B A with
                  | true =>
                    rw [hba] at CBA
                    have HBA := Lib.hid CBA
                    clear CBA
                    have HLK : Hid (likeV A B = true) := ref_anti A B 8 8 OKs.out.1 OKs.out.2.1 OKs.out.2.2 hba
                    clear hba
                    go_wp2_with fail
                    refine (HBA.out).mono ?_
                    rintro e w_8 ⟨rfl, b_8⟩
                    have B8 := Lib.hid (B7.out.trans (b_8.mono B7.out.size))
                    clear b_8
                    clear x8 x0 x1 x2 x3 x4 x5 x6 x7 y8 y0 y1 y2 y3 y4 y5 y6 y7 z8 z0 z1 z2 z3 z4 z5 z6 z7
                    obtain ⟨x8, x0, x1, x2, x3, x4, x5, x6, x7⟩ := HXA.out.kept B8.out (by have := HZ.out; omega)
                    obtain ⟨y8, y0, y1, y2, y3, y4, y5, y6, y7⟩ := HXB.out.kept B8.out (by have := HZ.out; omega)
                    obtain ⟨z8, z0, z1, z2, z3, z4, z5, z6, z7⟩ := HXC.out.kept B8.out (by have := HZ.out; omega)
                    have CL := like_any 1300 n A B _ _ _ (by omega) (LA.out _ B8.out).1 (LB.out _ B8.out).1 (LA.out _ B8.out).2
                    rw [HLK.out] at CL
                    have HCL := Lib.hid CL
                    clear CL
                    go_wp2_with fail
                    refine (HCL.out).mono ?_
                    rintro e w_9 ⟨rfl, b_9⟩
                    have B9 := Lib.hid (B8.out.trans (b_9.mono B8.out.size))
                    clear b_9
                    clear x8 x0 x1 x2 x3 x4 x5 x6 x7 y8 y0 y1 y2 y3 y4 y5 y6 y7 z8 z0 z1 z2 z3 z4 z5 z6 z7
                    obtain ⟨x8, x0, x1, x2, x3, x4, x5, x6, x7⟩ := HXA.out.kept B9.out (by have := HZ.out; omega)
                    obtain ⟨y8, y0, y1, y2, y3, y4, y5, y6, y7⟩ := HXB.out.kept B9.out (by have := HZ.out; omega)
                    obtain ⟨z8, z0, z1, z2, z3, z4, z5, z6, z7⟩ := HXC.out.kept B9.out (by have := HZ.out; omega)
                    have CK := cknown_any n B _ _ (by omega) (LB.out _ B9.out).1 (LB.out _ B9.out).2
                    cases hkn : known B with
                    | true =>
                      rw [hkn] at CK
                      have HCK := Lib.hid CK
                      clear CK
                      have HLN : Hid (likeV A B = true) := ref_known A B 8 8 OKs.out.1 OKs.out.2.1 OKs.out.2.2 hkn
                      clear hkn
                      go_wp2_with fail
                      refine (HCK.out).mono ?_
                      rintro e w_10 ⟨rfl, b_10⟩
                      have B10 := Lib.hid (B9.out.trans (b_10.mono B9.out.size))
                      clear b_10
                      clear x8 x0 x1 x2 x3 x4 x5 x6 x7 y8 y0 y1 y2 y3 y4 y5 y6 y7 z8 z0 z1 z2 z3 z4 z5 z6 z7
                      obtain ⟨x8, x0, x1, x2, x3, x4, x5, x6, x7⟩ := HXA.out.kept B10.out (by have := HZ.out; omega)
                      obtain ⟨y8, y0, y1, y2, y3, y4, y5, y6, y7⟩ := HXB.out.kept B10.out (by have := HZ.out; omega)
                      obtain ⟨z8, z0, z1, z2, z3, z4, z5, z6, z7⟩ := HXC.out.kept B10.out (by have := HZ.out; omega)
                      have CL := like_any 1300 n A B _ _ _ (by omega) (LA.out _ B10.out).1 (LB.out _ B10.out).1 (LA.out _ B10.out).2
                      rw [HLN.out] at CL
                      have HCM := Lib.hid CL
                      clear CL
                      go_wp2_with fail
                      refine (HCM.out).mono ?_
                      rintro e w_11 ⟨rfl, b_11⟩
                      have B11 := Lib.hid (B10.out.trans (b_11.mono B10.out.size))
                      clear b_11
                      clear x8 x0 x1 x2 x3 x4 x5 x6 x7 y8 y0 y1 y2 y3 y4 y5 y6 y7 z8 z0 z1 z2 z3 z4 z5 z6 z7
                      obtain ⟨x8, x0, x1, x2, x3, x4, x5, x6, x7⟩ := HXA.out.kept B11.out (by have := HZ.out; omega)
                      obtain ⟨y8, y0, y1, y2, y3, y4, y5, y6, y7⟩ := HXB.out.kept B11.out (by have := HZ.out; omega)
                      obtain ⟨z8, z0, z1, z2, z3, z4, z5, z6, z7⟩ := HXC.out.kept B11.out (by have := HZ.out; omega)
                      go_wp2_with fail
                      refine (awake_any _).mono ?_
                      rintro e wz ⟨rfl, bz⟩
                      have BZ := Lib.hid (HW.out.trans ((B11.out.trans (bz.mono B11.out.size)).mono HW.out.size))
                      clear bz
                      go_wp2_with fail
                      go_ret
                      exact ⟨rfl, BZ.out⟩
                    | false =>
                      rw [hkn] at CK
                      have HCK := Lib.hid CK
                      clear CK
                      clear hkn
                      go_wp2_with fail
                      refine (HCK.out).mono ?_
                      rintro e w_10 ⟨rfl, b_10⟩
                      have B10 := Lib.hid (B9.out.trans (b_10.mono B9.out.size))
                      clear b_10
                      clear x8 x0 x1 x2 x3 x4 x5 x6 x7 y8 y0 y1 y2 y3 y4 y5 y6 y7 z8 z0 z1 z2 z3 z4 z5 z6 z7
                      obtain ⟨x8, x0, x1, x2, x3, x4, x5, x6, x7⟩ := HXA.out.kept B10.out (by have := HZ.out; omega)
                      obtain ⟨y8, y0, y1, y2, y3, y4, y5, y6, y7⟩ := HXB.out.kept B10.out (by have := HZ.out; omega)
                      obtain ⟨z8, z0, z1, z2, z3, z4, z5, z6, z7⟩ := HXC.out.kept B10.out (by have := HZ.out; omega)
                      go_wp2_with fail
                      refine (awake_any _).mono ?_
                      rintro e wz ⟨rfl, bz⟩
                      have BZ := Lib.hid (HW.out.trans ((B10.out.trans (bz.mono B10.out.size)).mono HW.out.size))
                      clear bz
                      go_wp2_with fail
                      go_ret
                      exact ⟨rfl, BZ.out⟩
                  | false =>
                    rw [hba] at CBA
                    have HBA := Lib.hid CBA
                    clear CBA
                    clear hba
                    go_wp2_with fail
                    refine (HBA.out).mono ?_
                    rintro e w_8 ⟨rfl, b_8⟩
                    have B8 := Lib.hid (B7.out.trans (b_8.mono B7.out.size))
                    clear b_8
                    clear x8 x0 x1 x2 x3 x4 x5 x6 x7 y8 y0 y1 y2 y3 y4 y5 y6 y7 z8 z0 z1 z2 z3 z4 z5 z6 z7
                    obtain ⟨x8, x0, x1, x2, x3, x4, x5, x6, x7⟩ := HXA.out.kept B8.out (by have := HZ.out; omega)
                    obtain ⟨y8, y0, y1, y2, y3, y4, y5, y6, y7⟩ := HXB.out.kept B8.out (by have := HZ.out; omega)
                    obtain ⟨z8, z0, z1, z2, z3, z4, z5, z6, z7⟩ := HXC.out.kept B8.out (by have := HZ.out; omega)
                    have CK := cknown_any n B _ _ (by omega) (LB.out _ B8.out).1 (LB.out _ B8.out).2
                    cases hkn : known B with
                    | true =>
                      rw [hkn] at CK
                      have HCK := Lib.hid CK
                      clear CK
                      have HLN : Hid (likeV A B = true) := ref_known A B 8 8 OKs.out.1 OKs.out.2.1 OKs.out.2.2 hkn
                      clear hkn
                      go_wp2_with fail
                      refine (HCK.out).mono ?_
                      rintro e w_9 ⟨rfl, b_9⟩
                      have B9 := Lib.hid (B8.out.trans (b_9.mono B8.out.size))
                      clear b_9
                      clear x8 x0 x1 x2 x3 x4 x5 x6 x7 y8 y0 y1 y2 y3 y4 y5 y6 y7 z8 z0 z1 z2 z3 z4 z5 z6 z7
                      obtain ⟨x8, x0, x1, x2, x3, x4, x5, x6, x7⟩ := HXA.out.kept B9.out (by have := HZ.out; omega)
                      obtain ⟨y8, y0, y1, y2, y3, y4, y5, y6, y7⟩ := HXB.out.kept B9.out (by have := HZ.out; omega)
                      obtain ⟨z8, z0, z1, z2, z3, z4, z5, z6, z7⟩ := HXC.out.kept B9.out (by have := HZ.out; omega)
                      have CL := like_any 1300 n A B _ _ _ (by omega) (LA.out _ B9.out).1 (LB.out _ B9.out).1 (LA.out _ B9.out).2
                      rw [HLN.out] at CL
                      have HCM := Lib.hid CL
                      clear CL
                      go_wp2_with fail
                      refine (HCM.out).mono ?_
                      rintro e w_10 ⟨rfl, b_10⟩
                      have B10 := Lib.hid (B9.out.trans (b_10.mono B9.out.size))
                      clear b_10
                      clear x8 x0 x1 x2 x3 x4 x5 x6 x7 y8 y0 y1 y2 y3 y4 y5 y6 y7 z8 z0 z1 z2 z3 z4 z5 z6 z7
                      obtain ⟨x8, x0, x1, x2, x3, x4, x5, x6, x7⟩ := HXA.out.kept B10.out (by have := HZ.out; omega)
                      obtain ⟨y8, y0, y1, y2, y3, y4, y5, y6, y7⟩ := HXB.out.kept B10.out (by have := HZ.out; omega)
                      obtain ⟨z8, z0, z1, z2, z3, z4, z5, z6, z7⟩ := HXC.out.kept B10.out (by have := HZ.out; omega)
                      go_wp2_with fail
                      refine (awake_any _).mono ?_
                      rintro e wz ⟨rfl, bz⟩
                      have BZ := Lib.hid (HW.out.trans ((B10.out.trans (bz.mono B10.out.size)).mono HW.out.size))
                      clear bz
                      go_wp2_with fail
                      go_ret
                      exact ⟨rfl, BZ.out⟩
                    | false =>
                      rw [hkn] at CK
                      have HCK := Lib.hid CK
                      clear CK
                      clear hkn
                      go_wp2_with fail
                      refine (HCK.out).mono ?_
                      rintro e w_9 ⟨rfl, b_9⟩
                      have B9 := Lib.hid (B8.out.trans (b_9.mono B8.out.size))
                      clear b_9
                      clear x8 x0 x1 x2 x3 x4 x5 x6 x7 y8 y0 y1 y2 y3 y4 y5 y6 y7 z8 z0 z1 z2 z3 z4 z5 z6 z7
                      obtain ⟨x8, x0, x1, x2, x3, x4, x5, x6, x7⟩ := HXA.out.kept B9.out (by have := HZ.out; omega)
                      obtain ⟨y8, y0, y1, y2, y3, y4, y5, y6, y7⟩ := HXB.out.kept B9.out (by have := HZ.out; omega)
                      obtain ⟨z8, z0, z1, z2, z3, z4, z5, z6, z7⟩ := HXC.out.kept B9.out (by have := HZ.out; omega)
                      go_wp2_with fail
                      refine (awake_any _).mono ?_
                      rintro e wz ⟨rfl, bz⟩
                      have BZ := Lib.hid (HW.out.trans ((B9.out.trans (bz.mono B9.out.size)).mono HW.out.size))
                      clear bz
                      go_wp2_with fail
                      go_ret
                      exact ⟨rfl, BZ.out⟩
                | false =>
                  clear hab hbc
                  have CBA := refines_any 1300 n B A _ _ _ (by omega) (LB.out _ B7.out).1 (LA.out _ B7.out).1 (LA.out _ B7.out).2
                  cases hba : refV B A with
                  | true =>
                    rw [hba] at CBA
                    have HBA := Lib.hid CBA
                    clear CBA
                    have HLK : Hid (likeV A B = true) := ref_anti A B 8 8 OKs.out.1 OKs.out.2.1 OKs.out.2.2 hba
                    clear hba
                    go_wp2_with fail
                    refine (HBA.out).mono ?_
                    rintro e w_8 ⟨rfl, b_8⟩
                    have B8 := Lib.hid (B7.out.trans (b_8.mono B7.out.size))
                    clear b_8
                    clear x8 x0 x1 x2 x3 x4 x5 x6 x7 y8 y0 y1 y2 y3 y4 y5 y6 y7 z8 z0 z1 z2 z3 z4 z5 z6 z7
                    obtain ⟨x8, x0, x1, x2, x3, x4, x5, x6, x7⟩ := HXA.out.kept B8.out (by have := HZ.out; omega)
                    obtain ⟨y8, y0, y1, y2, y3, y4, y5, y6, y7⟩ := HXB.out.kept B8.out (by have := HZ.out; omega)
                    obtain ⟨z8, z0, z1, z2, z3, z4, z5, z6, z7⟩ := HXC.out.kept B8.out (by have := HZ.out; omega)
                    have CL := like_any 1300 n A B _ _ _ (by omega) (LA.out _ B8.out).1 (LB.out _ B8.out).1 (LA.out _ B8.out).2
                    rw [HLK.out] at CL
                    have HCL := Lib.hid CL
                    clear CL
                    go_wp2_with fail
                    refine (HCL.out).mono ?_
                    rintro e w_9 ⟨rfl, b_9⟩
                    have B9 := Lib.hid (B8.out.trans (b_9.mono B8.out.size))
                    clear b_9
                    clear x8 x0 x1 x2 x3 x4 x5 x6 x7 y8 y0 y1 y2 y3 y4 y5 y6 y7 z8 z0 z1 z2 z3 z4 z5 z6 z7
                    obtain ⟨x8, x0, x1, x2, x3, x4, x5, x6, x7⟩ := HXA.out.kept B9.out (by have := HZ.out; omega)
                    obtain ⟨y8, y0, y1, y2, y3, y4, y5, y6, y7⟩ := HXB.out.kept B9.out (by have := HZ.out; omega)
                    obtain ⟨z8, z0, z1, z2, z3, z4, z5, z6, z7⟩ := HXC.out.kept B9.out (by have := HZ.out; omega)
                    have CK := cknown_any n B _ _ (by omega) (LB.out _ B9.out).1 (LB.out _ B9.out).2
                    cases hkn : known B with
                    | true =>
                      rw [hkn] at CK
                      have HCK := Lib.hid CK
                      clear CK
                      have HLN : Hid (likeV A B = true) := ref_known A B 8 8 OKs.out.1 OKs.out.2.1 OKs.out.2.2 hkn
                      clear hkn
                      go_wp2_with fail
                      refine (HCK.out).mono ?_
                      rintro e w_10 ⟨rfl, b_10⟩
                      have B10 := Lib.hid (B9.out.trans (b_10.mono B9.out.size))
                      clear b_10
                      clear x8 x0 x1 x2 x3 x4 x5 x6 x7 y8 y0 y1 y2 y3 y4 y5 y6 y7 z8 z0 z1 z2 z3 z4 z5 z6 z7
                      obtain ⟨x8, x0, x1, x2, x3, x4, x5, x6, x7⟩ := HXA.out.kept B10.out (by have := HZ.out; omega)
                      obtain ⟨y8, y0, y1, y2, y3, y4, y5, y6, y7⟩ := HXB.out.kept B10.out (by have := HZ.out; omega)
                      obtain ⟨z8, z0, z1, z2, z3, z4, z5, z6, z7⟩ := HXC.out.kept B10.out (by have := HZ.out; omega)
                      have CL := like_any 1300 n A B _ _ _ (by omega) (LA.out _ B10.out).1 (LB.out _ B10.out).1 (LA.out _ B10.out).2
                      rw [HLN.out] at CL
                      have HCM := Lib.hid CL
                      clear CL
                      go_wp2_with fail
                      refine (HCM.out).mono ?_
                      rintro e w_11 ⟨rfl, b_11⟩
                      have B11 := Lib.hid (B10.out.trans (b_11.mono B10.out.size))
                      clear b_11
                      clear x8 x0 x1 x2 x3 x4 x5 x6 x7 y8 y0 y1 y2 y3 y4 y5 y6 y7 z8 z0 z1 z2 z3 z4 z5 z6 z7
                      obtain ⟨x8, x0, x1, x2, x3, x4, x5, x6, x7⟩ := HXA.out.kept B11.out (by have := HZ.out; omega)
                      obtain ⟨y8, y0, y1, y2, y3, y4, y5, y6, y7⟩ := HXB.out.kept B11.out (by have := HZ.out; omega)
                      obtain ⟨z8, z0, z1, z2, z3, z4, z5, z6, z7⟩ := HXC.out.kept B11.out (by have := HZ.out; omega)
                      go_wp2_with fail
                      refine (awake_any _).mono ?_
                      rintro e wz ⟨rfl, bz⟩
                      have BZ := Lib.hid (HW.out.trans ((B11.out.trans (bz.mono B11.out.size)).mono HW.out.size))
                      clear bz
                      go_wp2_with fail
                      go_ret
                      exact ⟨rfl, BZ.out⟩
                    | false =>
                      rw [hkn] at CK
                      have HCK := Lib.hid CK
                      clear CK
                      clear hkn
                      go_wp2_with fail
                      refine (HCK.out).mono ?_
                      rintro e w_10 ⟨rfl, b_10⟩
                      have B10 := Lib.hid (B9.out.trans (b_10.mono B9.out.size))
                      clear b_10
                      clear x8 x0 x1 x2 x3 x4 x5 x6 x7 y8 y0 y1 y2 y3 y4 y5 y6 y7 z8 z0 z1 z2 z3 z4 z5 z6 z7
                      obtain ⟨x8, x0, x1, x2, x3, x4, x5, x6, x7⟩ := HXA.out.kept B10.out (by have := HZ.out; omega)
                      obtain ⟨y8, y0, y1, y2, y3, y4, y5, y6, y7⟩ := HXB.out.kept B10.out (by have := HZ.out; omega)
                      obtain ⟨z8, z0, z1, z2, z3, z4, z5, z6, z7⟩ := HXC.out.kept B10.out (by have := HZ.out; omega)
                      go_wp2_with fail
                      refine (awake_any _).mono ?_
                      rintro e wz ⟨rfl, bz⟩
                      have BZ := Lib.hid (HW.out.trans ((B10.out.trans (bz.mono B10.out.size)).mono HW.out.size))
                      clear bz
                      go_wp2_with fail
                      go_ret
                      exact ⟨rfl, BZ.out⟩
                  | false =>
                    rw [hba] at CBA
                    have HBA := Lib.hid CBA
                    clear CBA
                    clear hba
                    go_wp2_with fail
                    refine (HBA.out).mono ?_
                    rintro e w_8 ⟨rfl, b_8⟩
                    have B8 := Lib.hid (B7.out.trans (b_8.mono B7.out.size))
                    clear b_8
                    clear x8 x0 x1 x2 x3 x4 x5 x6 x7 y8 y0 y1 y2 y3 y4 y5 y6 y7 z8 z0 z1 z2 z3 z4 z5 z6 z7
                    obtain ⟨x8, x0, x1, x2, x3, x4, x5, x6, x7⟩ := HXA.out.kept B8.out (by have := HZ.out; omega)
                    obtain ⟨y8, y0, y1, y2, y3, y4, y5, y6, y7⟩ := HXB.out.kept B8.out (by have := HZ.out; omega)
                    obtain ⟨z8, z0, z1, z2, z3, z4, z5, z6, z7⟩ := HXC.out.kept B8.out (by have := HZ.out; omega)
                    have CK := cknown_any n B _ _ (by omega) (LB.out _ B8.out).1 (LB.out _ B8.out).2
                    cases hkn : known B with
                    | true =>
                      rw [hkn] at CK
                      have HCK := Lib.hid CK
                      clear CK
                      have HLN : Hid (likeV A B = true) := ref_known A B 8 8 OKs.out.1 OKs.out.2.1 OKs.out.2.2 hkn
                      clear hkn
                      go_wp2_with fail
                      refine (HCK.out).mono ?_
                      rintro e w_9 ⟨rfl, b_9⟩
                      have B9 := Lib.hid (B8.out.trans (b_9.mono B8.out.size))
                      clear b_9
                      clear x8 x0 x1 x2 x3 x4 x5 x6 x7 y8 y0 y1 y2 y3 y4 y5 y6 y7 z8 z0 z1 z2 z3 z4 z5 z6 z7
                      obtain ⟨x8, x0, x1, x2, x3, x4, x5, x6, x7⟩ := HXA.out.kept B9.out (by have := HZ.out; omega)
                      obtain ⟨y8, y0, y1, y2, y3, y4, y5, y6, y7⟩ := HXB.out.kept B9.out (by have := HZ.out; omega)
                      obtain ⟨z8, z0, z1, z2, z3, z4, z5, z6, z7⟩ := HXC.out.kept B9.out (by have := HZ.out; omega)
                      have CL := like_any 1300 n A B _ _ _ (by omega) (LA.out _ B9.out).1 (LB.out _ B9.out).1 (LA.out _ B9.out).2
                      rw [HLN.out] at CL
                      have HCM := Lib.hid CL
                      clear CL
                      go_wp2_with fail
                      refine (HCM.out).mono ?_
                      rintro e w_10 ⟨rfl, b_10⟩
                      have B10 := Lib.hid (B9.out.trans (b_10.mono B9.out.size))
                      clear b_10
                      clear x8 x0 x1 x2 x3 x4 x5 x6 x7 y8 y0 y1 y2 y3 y4 y5 y6 y7 z8 z0 z1 z2 z3 z4 z5 z6 z7
                      obtain ⟨x8, x0, x1, x2, x3, x4, x5, x6, x7⟩ := HXA.out.kept B10.out (by have := HZ.out; omega)
                      obtain ⟨y8, y0, y1, y2, y3, y4, y5, y6, y7⟩ := HXB.out.kept B10.out (by have := HZ.out; omega)
                      obtain ⟨z8, z0, z1, z2, z3, z4, z5, z6, z7⟩ := HXC.out.kept B10.out (by have := HZ.out; omega)
                      go_wp2_with fail
                      refine (awake_any _).mono ?_
                      rintro e wz ⟨rfl, bz⟩
                      have BZ := Lib.hid (HW.out.trans ((B10.out.trans (bz.mono B10.out.size)).mono HW.out.size))
                      clear bz
                      go_wp2_with fail
                      go_ret
                      exact ⟨rfl, BZ.out⟩
                    | false =>
                      rw [hkn] at CK
                      have HCK := Lib.hid CK
                      clear CK
                      clear hkn
                      go_wp2_with fail
                      refine (HCK.out).mono ?_
                      rintro e w_9 ⟨rfl, b_9⟩
                      have B9 := Lib.hid (B8.out.trans (b_9.mono B8.out.size))
                      clear b_9
                      clear x8 x0 x1 x2 x3 x4 x5 x6 x7 y8 y0 y1 y2 y3 y4 y5 y6 y7 z8 z0 z1 z2 z3 z4 z5 z6 z7
                      obtain ⟨x8, x0, x1, x2, x3, x4, x5, x6, x7⟩ := HXA.out.kept B9.out (by have := HZ.out; omega)
                      obtain ⟨y8, y0, y1, y2, y3, y4, y5, y6, y7⟩ := HXB.out.kept B9.out (by have := HZ.out; omega)
                      obtain ⟨z8, z0, z1, z2, z3, z4, z5, z6, z7⟩ := HXC.out.kept B9.out (by have := HZ.out; omega)
                      go_wp2_with fail
                      refine (awake_any _).mono ?_
                      rintro e wz ⟨rfl, bz⟩
                      have BZ := Lib.hid (HW.out.trans ((B9.out.trans (bz.mono B9.out.size)).mono HW.out.size))
                      clear bz
                      go_wp2_with fail
                      go_ret
                      exact ⟨rfl, BZ.out⟩
end Go.Proofs.Ytfgkkccgecnchaa

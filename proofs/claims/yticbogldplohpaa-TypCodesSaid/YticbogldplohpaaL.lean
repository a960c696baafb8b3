/- The law TypLaws: its walk. -/
import Derived.Test.YticbogldplohpaaY
import Derived.Deep.DeepCutAuto
namespace Go.Proofs.Yticbogldplohpaa
open Go.RowKit
attribute [local go_sem ↓] Go.wp_at_zero Go.wp_at_succ

/-- all that stood is as it was -/
def Kp (N : Nat) (W0 W : World) : Prop := (∀ b o, b < N → W.cell? ⟨b, o, none⟩ = W0.cell? ⟨b, o, none⟩) ∧ Hid (Below N W0 W) ∧ Hid (N ≤ W.heap.size)
theorem Kp.next {N : Nat} {W0 W1 W2 : World} (h : Kp N W0 W1) (b : Below W1.heap.size W1 W2) : Kp N W0 W2 := held_next b h
set_option maxRecDepth 100000 in
set_option maxHeartbeats 4000000 in
theorem laws_any (k o k' o' k2 o2 : Int) (w : World) : Calls Try.prog 4 #[ty k o, ty k' o', ty k2 o2] w fun e w' => e = .returned (.bool true) ∧ Below w.heap.size w w' := by
  obtain ⟨ab, hab⟩ : ∃ x, inB (k, o) (k', o') = x := ⟨_, rfl⟩
  obtain ⟨bc, hbc⟩ : ∃ x, inB (k', o') (k2, o2) = x := ⟨_, rfl⟩
  obtain ⟨ac, hac⟩ : ∃ x, inB (k, o) (k2, o2) = x := ⟨_, rfl⟩
  obtain ⟨ba, hba⟩ : ∃ x, inB (k', o') (k, o) = x := ⟨_, rfl⟩
  have A1 := fun w => within_any k o k' o' w
  rw [hab] at A1
  have A2 := fun w => within_any k' o' k2 o2 w
  rw [hbc] at A2
  have A3 := fun w => within_any k o k2 o2 w
  rw [hac] at A3
  have A4 := fun w => within_any k' o' k o w
  rw [hba] at A4
  have A5 : okB k o = true → ∀ w, Calls Try.prog 10 #[ty k o, ty k o] w fun e w' => e = .returned (.bool true) ∧ Below w.heap.size w w' := fun h w => by
    have := within_any k o k o w
    rw [in_self (a := (k, o)) h] at this
    exact this
  have F1 : ab = true → bc = true → ac = true := fun h1 h2 => by rw [← hac]; exact in_trans (hab.trans h1) (hbc.trans h2)
  have F2 : ab = true → ba = true → k = k' ∧ o = o' := fun h1 h2 => by have := in_anti (hab.trans h1) (hba.trans h2); injection this with a b; exact ⟨a, b⟩
  have F4 : ab = true → okB k o = true := fun h => (in_ok (hab.trans h)).1
  obtain ⟨⟨x, y⟩, hxy⟩ : ∃ x, join (k, o) (k', o') = x := ⟨_, rfl⟩
  obtain ⟨⟨r, s⟩, hrs⟩ : ∃ x, join (k', o') (k2, o2) = x := ⟨_, rfl⟩
  obtain ⟨⟨p, q⟩, hpq⟩ : ∃ z, join (x, y) (k2, o2) = z := ⟨_, rfl⟩
  obtain ⟨⟨⟨mk, mo⟩, mb⟩, hm⟩ : ∃ z, meet (k, o) (k', o') = z := ⟨_, rfl⟩
  have J1 := join_is k o k' o' x y hxy
  have J2 := join_is k' o' k o x y (by rw [join_comm]; exact hxy)
  have J3 := join_is x y k2 o2 p q hpq
  have J4 := join_is k' o' k2 o2 r s hrs
  have J5 := join_is k o r s p q (by rw [← hrs, ← join_assoc, hxy]; exact hpq)
  have M1 := meet_any k o k' o' mk mo mb hm
  have M2 := meet_any k' o' k o mk mo mb (by rw [meet_comm]; exact hm)
  have HA := Lib.hid (And.intro A1 (And.intro A2 A3))
  have HA4 := Lib.hid A4
  have HA5 := Lib.hid A5
  have HF := Lib.hid (And.intro F1 (And.intro F2 F4))
  have HJ := Lib.hid (And.intro J1 (And.intro J2 (And.intro J3 (And.intro J4 J5))))
  have HM := Lib.hid (And.intro M1 M2)
  clear hab hbc hac hba A1 A2 A3 A4 A5 F1 F2 F4 hxy hrs hpq hm J1 J2 J3 J4 J5 M1 M2
  have X0 := ((Bx.new w k o).alloc (.cells #[.int .i64 k', .int .i64 o'] 23)).alloc (.cells #[.int .i64 k2, .int .i64 o2] 23)
  have X1 := (Bx.new (w.alloc (.cells #[.int .i64 k, .int .i64 o] 23)) k' o').alloc (.cells #[.int .i64 k2, .int .i64 o2] 23)
  have X2 := Bx.new ((w.alloc (.cells #[.int .i64 k, .int .i64 o] 23)).alloc (.cells #[.int .i64 k', .int .i64 o'] 23)) k2 o2
  have B0 : Below w.heap.size w (((w.alloc (.cells #[.int .i64 k, .int .i64 o] 23)).alloc (.cells #[.int .i64 k', .int .i64 o'] 23)).alloc (.cells #[.int .i64 k2, .int .i64 o2] 23)) := (((Below.refl _ _).alloc (Nat.le_refl _) _).alloc (by simp) _).alloc (by simp; omega) _
  simp only [World.size_alloc] at X1 X2
  go_enter Try.func4, Try.ntmps4
  go_upto_region 1 with fail
  generalize ((w.alloc (.cells #[.int .i64 k, .int .i64 o] 23)).alloc (.cells #[.int .i64 k', .int .i64 o'] 23)).alloc (.cells #[.int .i64 k2, .int .i64 o2] 23) = W0 at *
  obtain ⟨N, hN⟩ : ∃ N, N = W0.heap.size := ⟨_, rfl⟩
  have S0 := held_at hN
  obtain ⟨l0, c0, c1⟩ := X0
  obtain ⟨l1, c2, c3⟩ := X1
  obtain ⟨l2, c4, c5⟩ := X2
  rw [← hN] at l0 l1 l2
  have HN := Lib.hid hN
  have HB0 := Lib.hid B0
  clear hN B0
  go_cut [7, 8, 9] (fun s7 s8 s9 wx => s7 = .bool ab ∧ s8 = .bool bc ∧ s9 = .bool ac ∧ Kp N W0 wx)
  case first =>
    go_region_held3 (fun W => (∀ b o, b < N → W.cell? ⟨b, o, none⟩ = W0.cell? ⟨b, o, none⟩) ∧ Hid (Below N W0 W) ∧ Hid (N ≤ W.heap.size))
      (first | assumption | with_reducible exact held_next (by assumption) (by assumption))
      (first
        | (go_at_call 10; (with_reducible refine (HA.out.1 _).mono ?_); rintro e W ⟨rfl, b⟩)
        | (go_at_call 10; (with_reducible refine (HA.out.2.1 _).mono ?_); rintro e W ⟨rfl, b⟩)
        | (go_at_call 10; (with_reducible refine (HA.out.2.2 _).mono ?_); rintro e W ⟨rfl, b⟩))
    all_goals
      rename_i hH
      go_wp2_with fail
      go_meet
      exact ⟨rfl, rfl, rfl, hH⟩
  case rest =>
    obtain ⟨rfl, rfl, rfl, HK⟩ := hcut
    go_upto_region 2 with fail
    obtain ⟨hc, HKB⟩ := HK
    go_cut [54] (fun s wx => s = .bool false ∧ Kp N W0 wx)
    case first =>
      cases ab with
      | false =>
        cases hk : okB k o with
        | false =>
          have C := fun w => check_no k o w hk
          clear hk
          go_wp2_with fail
          refine (C _).mono ?_
          rintro e w2 ⟨rfl, b2⟩
          have HK2 := Kp.next ⟨hc, HKB⟩ b2
          clear C b2 hc HKB
          go_wp2_with fail
          go_meet
          exact ⟨rfl, HK2⟩
        | true =>
          have C := fun w => check_ok k o w hk
          have D := HA5.out hk
          clear hk
          go_wp2_with fail
          refine (C _).mono ?_
          rintro e w2 ⟨rfl, b2⟩
          have HK2 := Lib.hid (Kp.next ⟨hc, HKB⟩ b2)
          clear C b2 hc HKB
          have hc := HK2.out.1
          go_wp2_with fail
          refine (D _).mono ?_
          rintro e w3 ⟨rfl, b3⟩
          have HK3 := Lib.hid (Kp.next HK2.out b3)
          clear D b3 hc HK2
          go_wp2_with fail
          go_meet
          exact ⟨rfl, HK3.out⟩
      | true =>
        have hk := HF.out.2.2 rfl
        have C := fun w => check_ok k o w hk
        have D := HA5.out hk
        have F1 := Lib.hid (HF.out.1 rfl)
        have F2 := Lib.hid (HF.out.2.1 rfl)
        clear hk HF HA
        have T : (bc = true ∧ ac = true) ∨ bc = false := by
          cases bc
          · exact .inr rfl
          · exact .inl ⟨rfl, F1.out rfl⟩
        clear F1
        have CD := Lib.hid (And.intro C D)
        clear C D
        cases ba with
        | false =>
          rcases T with ⟨rfl, rfl⟩ | rfl
          all_goals
            go_wp2_with fail
            refine (HA4.out _).mono ?_
            rintro e w2 ⟨rfl, b2⟩
            have HK2 := Lib.hid (Kp.next ⟨hc, HKB⟩ b2)
            clear b2 hc HKB HA4
            have hc := HK2.out.1
            go_wp2_with fail
            refine (CD.out.1 _).mono ?_
            rintro e w3 ⟨rfl, b3⟩
            have HK3 := Lib.hid (Kp.next HK2.out b3)
            clear b3 hc HK2
            have hc := HK3.out.1
            go_wp2_with fail
            refine (CD.out.2 _).mono ?_
            rintro e w4 ⟨rfl, b4⟩
            have HK4 := Lib.hid (Kp.next HK3.out b4)
            clear b4 hc HK3
            go_wp2_with fail
            go_meet
            exact ⟨rfl, HK4.out⟩
        | true =>
          obtain ⟨e1, e2⟩ := F2.out rfl
          subst e1 e2
          clear F2
          rcases T with ⟨rfl, rfl⟩ | rfl
          all_goals
            go_wp2_with fail
            refine (HA4.out _).mono ?_
            rintro e w2 ⟨rfl, b2⟩
            have HK2 := Lib.hid (Kp.next ⟨hc, HKB⟩ b2)
            clear b2 hc HKB HA4
            have hc := HK2.out.1
            go_wp2_with fail
            refine (CD.out.1 _).mono ?_
            rintro e w3 ⟨rfl, b3⟩
            have HK3 := Lib.hid (Kp.next HK2.out b3)
            clear b3 hc HK2
            have hc := HK3.out.1
            go_wp2_with fail
            refine (CD.out.2 _).mono ?_
            rintro e w4 ⟨rfl, b4⟩
            have HK4 := Lib.hid (Kp.next HK3.out b4)
            clear b4 hc HK3
            go_wp2_with fail
            go_meet
            exact ⟨rfl, HK4.out⟩
    case rest =>
      clear hc HKB
      obtain ⟨rfl, HK⟩ := hcut
      have Y0 : Bx W0 w.heap.size k o := ⟨by rw [← HN.out]; exact l0, c0, c1⟩
      have Y1 : Bx W0 (w.heap.size + 1) k' o' := ⟨by rw [← HN.out]; exact l1, c2, c3⟩
      have Y2 : Bx W0 (w.heap.size + 1 + 1) k2 o2 := ⟨by rw [← HN.out]; exact l2, c4, c5⟩
      have nW : N ≤ W0.heap.size := Nat.le_of_eq HN.out
      have BW := Lib.hid (HB0.out.trans (HK.2.1.out.mono (by rw [HN.out]; exact HB0.out.size)))
      have Z0 := Lib.hid (Y0.below HK.2.1.out l0 nW)
      have Z1 := Lib.hid (Y1.below HK.2.1.out l1 nW)
      have Z2 := Lib.hid (Y2.below HK.2.1.out l2 nW)
      clear Y0 Y1 Y2 nW HB0 c0 c1 c2 c3 c4 c5 l0 l1 l2 HK HN HA4 HA5 HF HA S0
      have c0 := Z0.out.c0
      have c1 := Z0.out.c1
      have c2 := Z1.out.c0
      have c3 := Z1.out.c1
      go_wp2_with fail
      refine (HM.out.1 _).mono ?_
      rintro e w4 ⟨rfl, b4⟩
      have V0 := Lib.hid ((Z0.out.keep b4).alloc (.cells #[.int .i64 mk, .int .i64 mo] 23))
      have V1 := Lib.hid ((Z1.out.keep b4).alloc (.cells #[.int .i64 mk, .int .i64 mo] 23))
      have V2 := Lib.hid ((Z2.out.keep b4).alloc (.cells #[.int .i64 mk, .int .i64 mo] 23))
      have V3 := Lib.hid (Bx.new w4 mk mo)
      have BV := Lib.hid ((BW.out.trans (b4.mono BW.out.size)).alloc (by have := BW.out.size; have := b4.size; omega) (.cells #[.int .i64 mk, .int .i64 mo] 23))
      clear b4 BW Z0 Z1 Z2 c0 c1 c2 c3
      have c0 := V0.out.c0
      have c1 := V0.out.c1
      have c2 := V1.out.c0
      have c3 := V1.out.c1
      go_upto_region 5 with fail
      generalize w4.alloc (.cells #[.int .i64 mk, .int .i64 mo] 23) = W5 at *
      generalize w4.heap.size = n4 at *
      go_wp2_with fail
      refine (HM.out.2 _).mono ?_
      rintro e w6 ⟨rfl, b6⟩
      have Z0 := ((V0.out.keep b6).alloc (.cells #[.int .i64 mk, .int .i64 mo] 23))
      have Z1 := ((V1.out.keep b6).alloc (.cells #[.int .i64 mk, .int .i64 mo] 23))
      have Z2 := ((V2.out.keep b6).alloc (.cells #[.int .i64 mk, .int .i64 mo] 23))
      have Z3 := ((V3.out.keep b6).alloc (.cells #[.int .i64 mk, .int .i64 mo] 23))
      have Z4 := (Bx.new w6 mk mo)
      have BW := Lib.hid ((BV.out.trans (b6.mono BV.out.size)).alloc (by have := BV.out.size; have := b6.size; omega) (.cells #[.int .i64 mk, .int .i64 mo] 23))
      clear b6 BV V0 V1 V2 V3 c0 c1 c2 c3
      go_upto_region 6 with fail
      generalize w6.alloc (.cells #[.int .i64 mk, .int .i64 mo] 23) = W7 at *
      generalize w6.heap.size = n6 at *
      obtain ⟨M, hM⟩ : ∃ M, M = W7.heap.size := ⟨_, rfl⟩
      have S0 := held_at hM
      obtain ⟨l0, c0, c1⟩ := Z0
      obtain ⟨l1, c2, c3⟩ := Z1
      obtain ⟨l2, c4, c5⟩ := Z2
      obtain ⟨l3, c6, c7⟩ := Z3
      obtain ⟨l4, c8, c9⟩ := Z4
      rw [← hM] at l0 l1 l2 l3 l4
      have HN := Lib.hid hM
      clear hM
      have AW := Lib.hid awake_true
      go_region_held3 (fun W => (∀ b o, b < M → W.cell? ⟨b, o, none⟩ = W7.cell? ⟨b, o, none⟩) ∧ Hid (Below M W7 W) ∧ Hid (M ≤ W.heap.size))
        (first | assumption | with_reducible exact held_next (by assumption) (by assumption))
        (first
          | (go_at_call 12; (with_reducible refine (HJ.out.1 _).mono ?_); rintro e W ⟨rfl, b⟩)
          | (go_at_call 12; (with_reducible refine (HJ.out.2.1 _).mono ?_); rintro e W ⟨rfl, b⟩)
          | (go_at_call 12; (with_reducible refine (HJ.out.2.2.1 _).mono ?_); rintro e W ⟨rfl, b⟩)
          | (go_at_call 12; (with_reducible refine (HJ.out.2.2.2.1 _).mono ?_); rintro e W ⟨rfl, b⟩)
          | (go_at_call 12; (with_reducible refine (HJ.out.2.2.2.2 _).mono ?_); rintro e W ⟨rfl, b⟩)
          | (go_at_call 14; (with_reducible refine (AW.out _).mono ?_); rintro e W ⟨rfl, b⟩))
      all_goals
        rename_i hH
        go_wp2
        go_ret
        exact ⟨rfl, BW.out.trans (hH.2.1.out.mono (by rw [HN.out]; exact BW.out.size))⟩
end Go.Proofs.Yticbogldplohpaa

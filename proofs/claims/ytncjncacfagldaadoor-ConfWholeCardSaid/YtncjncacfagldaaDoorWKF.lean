/- ConfWhole: the law's walk. -/
import Derived.Test.YtncjncacfagldaaDoorWKE
import Derived.Test.YtncjncacfagldaaDoorWKC
import Derived.Test.YtncjncacfagldaaDoorWXA
namespace Go.Proofs.YtncjncacfagldaaDoor
open Go.RowKit Go.Lib

theorem lb_take (s : ByteArray) (k : Nat) : lb (s.extract 0 k) = (lb s).take k := by
  rw [extract_lb, List.drop_zero]
set_option maxRecDepth 100000 in
set_option maxHeartbeats 4000000 in
theorem lwhole_any {w : World} (s : ByteArray) (cut : Int) (hs : s.size ≤ 9223372036854775807) (hc0 : -9223372036854775808 ≤ cut) (hc1 : cut ≤ 9223372036854775807) (hT : Tab w) (hV : Lev w) (h2 : 2 ≤ w.heap.size) : Calls Tryd.prog 7 #[.string s, .int .i64 cut] w fun e w' => e = .returned (.bool true) ∧ Below w.heap.size w w' := by
  have AW : Hid (∀ W, Below w.heap.size w W → Calls Tryd.prog 17 #[] W fun e w' => e = .returned (.bool true) ∧ Below W.heap.size W w') := fun W hW => cawake_any (hT.at (hW.block 0 (by omega))) (hV.at (hW.block 1 (by omega))) (by have := hW.size; omega)
  have PA : Hid (∀ W, Below w.heap.size w W → ∀ s : ByteArray, s.size ≤ 9223372036854775807 → Calls Tryd.prog 18 #[.string s] W (CfPost W (confM (lb s)))) := fun W hW s hL => conf_every (s := s) (hT.at (hW.block 0 (by omega))) (hV.at (hW.block 1 (by omega))) (by have := hW.size; omega) hL
  clear hT hV h2
  have HS := Lib.hid hs
  have HC := Lib.hid (And.intro hc0 hc1)
  have P1 := Lib.hid (PA.out w (Below.refl _ _) s hs)
  have HLS : Hid ((lb s).length = s.size) := tp_L_len s
  have HM : Hid (∀ k, k ≤ s.size → (confM (lb s)).2.1 = 0 → ((confM ((lb s).take k)).2.1 = 0 → (confM ((lb s).take k)).1.length ≤ (confM (lb s)).1.length) ∧ (k = 0 → (confM ((lb s).take k)).1.length = 0)) := fun k hk h0 =>
    ⟨fun h1 => by have := conf_cut (x := (lb s).take k) (y := (lb s).drop k) (by rw [List.take_append_drop]; exact h0) h1; rw [List.take_append_drop] at this; exact this, fun h1 => by subst h1; rw [List.take_zero, conf_nil]; rfl⟩
  clear hs hc0 hc1
  generalize confM (lb s) = MA at *
  go_enter Tryd.func7, Tryd.ntmps7
  go_wp2_with fail
  refine P1.out.mono ?_
  rintro e u0 ⟨v, rfl, hp, hb⟩
  obtain ⟨o, cap, rfl⟩ : ∃ o cap, v = .slice o MA.1.length cap := by obtain ⟨o, cap, -, h, -⟩ := hp; exact ⟨o, cap, h⟩
  have G0 := Lib.hid (CBx.mk' (w0 := w) (M := MA) (Below.refl _ _) hp hb)
  go_upto_region 2 with fail
  clear hp hb P1
  generalize u0.alloc (Obj.cells #[Value.int IntKind.i64 MA.2.1, Value.int IntKind.i64 MA.2.2.a, Value.int IntKind.i64 MA.2.2.l, Value.int IntKind.i64 MA.2.2.c, Value.string ⟨#[]⟩] 36) = v0 at *
  generalize u0.heap.size = b0 at *
  obtain ⟨px, ⟨q, hd⟩, hn, hbw⟩ := G0.out
  obtain ⟨⟨s0, s1, s2, s3, s4⟩, -, hda⟩ := rc5 hd
  have HBW := Lib.hid hbw
  have hcl : MA.1.length ≤ cap ∧ cap ≤ maxLen := by obtain ⟨o', cap', d, e, h, -⟩ := px; injection e with e1 e2 e3; subst e3; exact ⟨h.1, h.2.1⟩
  have HCL := Lib.hid hcl
  clear px hd hn hbw G0 s1 s2 s3 s4 hcl
  by_cases c1 : 1500 < s.size
  · have e1 : (1500 : Int) < (s.size : Int) := by omega
    clear c1
    go_wp2_with fail
    refine (AW.out _ HBW.out).mono ?_
    rintro e v3 ⟨rfl, k3⟩
    have HB3 := Lib.hid (HBW.out.trans (k3.mono HBW.out.size))
    clear k3
    go_wp2_with fail
    go_ret
    exact ⟨rfl, HB3.out⟩
  have e1 : ¬ (1500 : Int) < (s.size : Int) := by omega
  have HSZ := Lib.hid c1
  clear c1
  by_cases h0 : MA.2.1 = 0
  case neg =>
    have en : ((MA.2.1 : Int) != 0) = true := by rw [bne_iff_ne]; omega
    clear h0
    go_wp2_with fail
    refine (AW.out _ HBW.out).mono ?_
    rintro e v3 ⟨rfl, k3⟩
    have HB3 := Lib.hid (HBW.out.trans (k3.mono HBW.out.size))
    clear k3
    go_wp2_with fail
    go_ret
    exact ⟨rfl, HB3.out⟩
  have H0 := Lib.hid h0
  rw [h0] at s0
  clear h0
  by_cases c2 : MA.1.length = 0
  · rw [c2]
    clear c2 HM HCL
    go_wp2_with fail
    refine (AW.out _ HBW.out).mono ?_
    rintro e v3 ⟨rfl, k3⟩
    have HB3 := Lib.hid (HBW.out.trans (k3.mono HBW.out.size))
    clear k3
    go_wp2_with fail
    go_ret
    exact ⟨rfl, HB3.out⟩
  have f1 : ((MA.1.length : Int) = 0) = False := by simp; intro h; exact c2 (by rw [h]; rfl)
  have f2 : decide ((MA.1.length : Int) = 0) = false := decide_eq_false (by omega)
  have f3 : ((MA.1.length : Int) == 0) = false := by rw [beq_eq_false_iff_ne]; omega
  clear c2
  by_cases c3 : cut < 0
  · go_wp2_with fail
    refine (AW.out _ HBW.out).mono ?_
    rintro e v3 ⟨rfl, k3⟩
    have HB3 := Lib.hid (HBW.out.trans (k3.mono HBW.out.size))
    clear k3
    go_wp2_with fail
    go_ret
    exact ⟨rfl, HB3.out⟩
  by_cases c4 : (s.size : Int) ≤ cut
  · go_wp2_with fail
    refine (AW.out _ HBW.out).mono ?_
    rintro e v3 ⟨rfl, k3⟩
    have HB3 := Lib.hid (HBW.out.trans (k3.mono HBW.out.size))
    clear k3
    go_wp2_with fail
    go_ret
    exact ⟨rfl, HB3.out⟩
  obtain ⟨k, rfl⟩ : ∃ k : Nat, cut = (k : Int) := ⟨cut.toNat, by omega⟩
  have hk : k < s.size := by omega
  have HK := Lib.hid hk
  have P2 := Lib.hid (PA.out v0 HBW.out (s.extract 0 k) (by have := HS.out; rw [ByteArray.size_extract]; omega))
  rw [lb_take s k] at P2
  have HMK := Lib.hid (HM.out k (by omega) H0.out)
  clear HM
  generalize confM ((lb s).take k) = MB at *
  go_wp2_with fail
  refine P2.out.mono ?_
  rintro e u1 ⟨v, rfl, hp, hb⟩
  obtain ⟨oB, cB, rfl⟩ : ∃ o cap, v = .slice o MB.1.length cap := by obtain ⟨o, cap, -, h, -⟩ := hp; exact ⟨o, cap, h⟩
  have G1 := Lib.hid (CBx.mk' (w0 := w) (M := MB) HBW.out hp hb)
  go_upto_region 5 with fail
  clear hp hb P2 s0 hda
  generalize u1.alloc (Obj.cells #[Value.int IntKind.i64 MB.2.1, Value.int IntKind.i64 MB.2.2.a, Value.int IntKind.i64 MB.2.2.l, Value.int IntKind.i64 MB.2.2.c, Value.string ⟨#[]⟩] 36) = v1 at *
  generalize u1.heap.size = b1 at *
  obtain ⟨-, ⟨qb, db⟩, -, hbw1⟩ := G1.out
  have HB1 := Lib.hid hbw1
  obtain ⟨⟨t0, t1, t2, t3, t4⟩, -, hdb⟩ := rc5 db
  obtain ⟨m1, m2⟩ := HMK.out
  clear hbw1 db t1 t2 t3 t4 G1 HMK HBW PA f1 f2 f3
  obtain ⟨nb, hnb⟩ : ∃ nb, MB.1.length = nb := ⟨_, rfl⟩
  rw [hnb] at m1 m2 ⊢
  clear hnb
  obtain ⟨na, hna⟩ : ∃ na, MA.1.length = na := ⟨_, rfl⟩
  rw [hna] at m1 HCL ⊢
  clear hna
  by_cases h0 : MB.2.1 = 0
  · have hle := m1 h0
    have e5 : (nb : Int) ≤ (na : Int) := by omega
    rw [h0] at t0
    clear m1 h0 hle
    by_cases hk0 : k = 0
    · obtain rfl := m2 hk0
      subst hk0
      clear m2
      go_wp2_with fail
      refine (AW.out _ HB1.out).mono ?_
      rintro e v3 ⟨rfl, k3⟩
      have HB3 := Lib.hid (HB1.out.trans (k3.mono HB1.out.size))
      clear k3
      go_wp2_with fail
      go_ret
      exact ⟨rfl, HB3.out⟩
    · have e6 : (0 : Int) < (k : Int) := by omega
      clear m2 hk0
      go_wp2_with fail
      refine (AW.out _ HB1.out).mono ?_
      rintro e v3 ⟨rfl, k3⟩
      have HB3 := Lib.hid (HB1.out.trans (k3.mono HB1.out.size))
      clear k3
      go_wp2_with fail
      go_ret
      exact ⟨rfl, HB3.out⟩
  · have en : ((MB.2.1 : Int) != 0) = true := by rw [bne_iff_ne]; omega
    clear m1 h0
    by_cases hk0 : k = 0
    · obtain rfl := m2 hk0
      subst hk0
      clear m2
      go_wp2_with fail
      refine (AW.out _ HB1.out).mono ?_
      rintro e v3 ⟨rfl, k3⟩
      have HB3 := Lib.hid (HB1.out.trans (k3.mono HB1.out.size))
      clear k3
      go_wp2_with fail
      go_ret
      exact ⟨rfl, HB3.out⟩
    · have e6 : (0 : Int) < (k : Int) := by omega
      clear m2 hk0
      go_wp2_with fail
      refine (AW.out _ HB1.out).mono ?_
      rintro e v3 ⟨rfl, k3⟩
      have HB3 := Lib.hid (HB1.out.trans (k3.mono HB1.out.size))
      clear k3
      go_wp2_with fail
      go_ret
      exact ⟨rfl, HB3.out⟩
end Go.Proofs.YtncjncacfagldaaDoor
/-
  A beginning of a text that has items, cut off anywhere, has no more of them than the text, or something is wrong; the empty one has none (of 1500 bytes; beyond that, and where nothing is to cut, the document's example alone is claimed). Conditions: the tables of classes and of levels (surety/lex.classes, surety/expr.levels) read as the program's text lays them; the card ties them.
-/
namespace Go.Proofs.YtncjncacfagldaaDoor.confWhole
open Go.ChangeShapes Go.WideShapes Go.ChangeAt Go.RowKit

/-- The door's own heap meets the condition: closed facts. -/
theorem door_met (os : Os) (args : Array Value) : laidMetH Tryd.prog Rows.confWholeRow.laid ((World.doorLaid Tryd.prog 130 os).forCall (fun _ _ => 0) ⟨#[], args, []⟩).memory :=
  laidMetH_of_parts3 (fuel := 8) (laidMet_of_run' 8 (by kernel_rfl) (by kernel_rfl)) (by kernel_rfl) (by kernel_rfl)
theorem tab_of {W : World} (h : laidMetH Tryd.prog Rows.confWholeRow.laid W) : Tab W ∧ Lev W ∧ 2 ≤ W.heap.size := by
  rw [MakeChecks.laidMetH_plain _ _ _ (by kernel_rfl)] at h
  exact of_laid rfl h
set_option maxRecDepth 100000 in
theorem lifted (os : Os) (started : os.Started) (H : Type) (enc : TypeId × Value → H) :
    ReturnsInHanded {} Tryd.checked os 7 .any (fun w args => (Rows.confWholeSpec.pre enc Tryd.prog Tryd.f7 [] false w args ∧ laidMetH Tryd.prog Rows.confWholeRow.laid w) ∧ sizedMet enc Tryd.prog Tryd.f7 (OpenSpec.ofChange Rows.confWholeSpec) false w args)
      (Rows.confWholeSpec.post enc Tryd.prog Tryd.f7 false true false false) := by
  refine returnsInHanded_of_change_and (C := Tryd.checked) (X := fun w _ => laidMetH Tryd.prog Rows.confWholeRow.laid w) (fun _ _ _ hh h => h.of_heap hh) own started (by kernel_rfl) Tryd.func7
    (ChangeSpec.witness_shaped (enc := enc) (C := Tryd.checked) (os := os) (X := fun w _ => laidMetH Tryd.prog Rows.confWholeRow.laid w) false (World.doorLaid Tryd.prog 130 os) #[.string ⟨#[]⟩, .int .i64 0] 8 rfl (World.shaped_of_RefB (by kernel_rfl) (by kernel_rfl)) (by kernel_rfl) (by kernel_rfl) (by kernel_rfl) (door_met os _)) ?_
  intro W base args ds gs before hval0 hW _ _ hL _
  have hval : ∀ (j : Nat) t v, Tryd.f7.params[j]? = some t → args[j]? = some v → Value.okWide Tryd.prog W .any base t v := hval0
  have hW' := hW
  obtain ⟨p, q, hA0, hV, rfl, hfz, hnd⟩ := hW
  have hA : DataW.TrodAll enc Tryd.prog W 0 (fun _ => true) true Tryd.f7.params.toList args.toList ds p := hA0
  rw [Tryd.params7] at hA hval
  obtain ⟨v0, vs0, d0, ds0, p0, q0, hargs, rfl, rfl, h0, r0⟩ := trodAll_cons hA
  obtain ⟨v1, vs1, d1, ds1, p1, q1, rfl, rfl, rfl, h1, r1⟩ := trodAll_cons r0
  obtain ⟨rfl, rfl, rfl⟩ := trodAll_nil r1
  obtain rfl : args = #[v0, v1] := by cases args; simp_all
  obtain ⟨rfl, rfl⟩ := trodVars_none hV
  obtain ⟨x0, rfl, ok0⟩ := open_str (hval 0 9 v0 rfl rfl) h0
  obtain ⟨x1, rfl, ok1⟩ := open_i64 (hval 1 3 v1 rfl rfl) h1
  have tab := tab_of hL
  clear hA0 hval0
  simp only [List.append_nil] at hW'
  have hlt : ∀ x ∈ p0 ++ p1, x.block < W.heap.size := fun x hx => hW'.lt x (by simpa using hx)
  refine (lwhole_any x0 x1 (Nat.le_trans ok0 (by unfold maxLen; omega)) ok1.1 ok1.2 tab.1 tab.2.1 tab.2.2).mono fun e W' ⟨he, bel⟩ => ?_
  subst he
  exact ⟨_, rfl, _, _, _, [], p0 ++ p1, [], hW', trodAll_mk1 (shut_bool Tryd.underlying4 _), by
    have := (trodAll_cons_mk (Below.trod laidOut (by kernel_rfl) (of_decide_eq_true (by kernel_rfl)) h0 bel (fun x hx => hlt x (by simp [hx]))) (trodAll_cons_mk (Below.trod laidOut (by kernel_rfl) (of_decide_eq_true (by kernel_rfl)) h1 bel (fun x hx => hlt x (by simp [hx]))) trodAll_mk0))
    simp only [List.append_nil] at this
    exact this, rfl, bel.frame _, fun h => by cases h⟩
theorem holds : Rows.ConfWholeSaid :=
  OpenClaim.holds_of_wide 7 Tryd.f7 rfl rfl rfl rfl rfl rfl rfl ⟨rfl, rfl, rfl, rfl, rfl⟩ rfl rfl rfl rfl rfl (by kernel_rfl) Tryd.func7 (by kernel_rfl)
    (of_decide_eq_true (by kernel_rfl)) (by unfold Func.isWrapper; first | (rw [if_pos (by decide +kernel)]; kernel_rfl) | (rw [if_neg (by decide +kernel)]; exact ⟨rfl, rfl⟩))
    (fun os started H enc _ => lifted os started H enc)
end Go.Proofs.YtncjncacfagldaaDoor.confWhole

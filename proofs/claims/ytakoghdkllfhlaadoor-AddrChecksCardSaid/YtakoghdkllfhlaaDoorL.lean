/- AddrChecks: the law's walk. -/
import Derived.Test.YtakoghdkllfhlaaDoorG
import Derived.Test.YtakoghdkllfhlaaDoorH
import Derived.Test.YtakoghdkllfhlaaDoorJ
namespace Go.Proofs.YtakoghdkllfhlaaDoor
open Go.RowKit

set_option maxRecDepth 100000 in
set_option maxHeartbeats 8000000 in
theorem lchecks_any (k : Obt) (s : ByteArray) (w : World) (hs : Sm k.a) (hN : 0 ≤ k.N) (hss : s.size ≤ 9223372036854775807) : Calls Tryd.prog 3 #[kv k, .string s] w (Tru w true) := by
  have HW : Hid (Below w.heap.size w (w.alloc (bk k))) := (Below.refl w.heap.size w).alloc (Nat.le_refl _) (bk k)
  have HZ : Hid ((w.alloc (bk k)).heap.size = w.heap.size + 1) := by simp [Hid]
  have Ha : Hid (Hk (w.alloc (bk k)) w.heap.size k) := Hk.made w k
  have C1 := fun w => name_any s w hss
  have C2 := fun w => rname_any s w hss
  have C3 := fun w => word_any s w hss
  have C4 := fun w => rword_any s w hss
  generalize nameB s = n1 at *
  generalize wordB s = n2 at *
  have C5 := fun w => check_any k.a w hs
  have C6 := fun w => checkK_any k w hs hN
  have C7 := fun w => rcheck_any k.a w hs
  have C8 := fun w => rcheckK_any k w hs
  generalize checkB k.a = c1 at *
  generalize checkKB k = c2 at *
  obtain ⟨e1, he1⟩ : ∃ e, argN c1 = e := ⟨_, rfl⟩
  obtain ⟨e2, he2⟩ : ∃ e, argN c2 = e := ⟨_, rfl⟩
  unfold Arg at C5 C6
  rw [he1] at C5
  rw [he2] at C6
  have HE := Lib.hid (And.intro he1 he2)
  clear he1 he2
  have K1 := Lib.hid C1
  have K2 := Lib.hid C2
  have K3 := Lib.hid C3
  have K4 := Lib.hid C4
  have K5 := Lib.hid C5
  have K6 := Lib.hid C6
  have K7 := Lib.hid C7
  have K8 := Lib.hid C8
  clear C1 C2 C3 C4 C5 C6 C7 C8 hs hN
  go_enter Tryd.func3, Tryd.ntmps3
  go_upto_region 1 with fail
  generalize World.alloc w _ = w0 at *
  have B0 := Lib.hid (Below.refl w0.heap.size w0)
  obtain ⟨x8, x0, x1, x2, x3, x4, x5⟩ := Ha.out.kept B0.out (by have := HZ.out; omega)
  go_wp2_with fail
  refine (great_any k.a _).mono ?_
  rintro e w1 ⟨g1, rfl, -, b1⟩
  have B1 := Lib.hid b1
  clear b1
  clear x8 x0 x1 x2 x3 x4 x5
  obtain ⟨x8, x0, x1, x2, x3, x4, x5⟩ := Ha.out.kept B1.out (by have := HZ.out; omega)
  cases g1 with
  | true =>
    go_wp2_with fail
    refine (awake_any _).mono ?_
    rintro e wz ⟨rfl, bz⟩
    have BZ := Lib.hid (HW.out.trans ((B1.out.trans (bz.mono B1.out.size)).mono HW.out.size))
    clear bz
    go_wp2_with fail
    go_ret
    exact ⟨rfl, BZ.out⟩
  | false =>
    by_cases hl : 200 < (s.size : Int)
    case pos =>
      go_wp2_with fail
      refine (awake_any _).mono ?_
      rintro e wz ⟨rfl, bz⟩
      have BZ := Lib.hid (HW.out.trans ((B1.out.trans (bz.mono B1.out.size)).mono HW.out.size))
      clear bz
      go_wp2_with fail
      go_ret
      exact ⟨rfl, BZ.out⟩
    go_upto_region 3 with fail
    obtain ⟨N, hN⟩ : ∃ N, N = w1.heap.size := ⟨_, rfl⟩
    have S0 := held_at hN
    have l0 : w.heap.size < N := by omega
    have HN := Lib.hid hN
    clear hN
    refine wp_region_noPanic ?_
    refine wp_region_held_drew (S := (fun W => (∀ b o, b < N → W.cell? ⟨b, o, none⟩ = w1.cell? ⟨b, o, none⟩) ∧ Hid (Below N w1 W) ∧ Hid (N ≤ W.heap.size))) (by kernel_rfl) ?_ (fun hH => ?_)
    · exact S0
    refine wpAnyH_take (i := 0) (oi := { dst := some 16, op := Op.fieldAddr 26 (Operand.tmp 2) 0, type := 0, pos := "law.go:26", after := #[], guard := none }) (v := ?_) rfl (by kernel_rfl) (by kernel_rfl) (by kernel_rfl) (fun _ _ _ h => h) (Or.inl ⟨by rfl, ?_⟩) (by assumption) ?_
    rotate_left
    · (intro w hSw; (try dsimp only at hSw); go_simp; try with_reducible rfl)
    try simp only [Act.put, List.setIfInBounds_toArray, List.set_cons_zero, List.set_cons_succ]
    refine wpAnyH_take (i := 1) (oi := { dst := some 17, op := Op.load 23 (Operand.tmp 16), type := 23, pos := "law.go:26", after := #[{ on := 0, ground := Ground.data }], guard := none }) (v := ?_) rfl (by kernel_rfl) (by kernel_rfl) (by kernel_rfl) (fun _ _ _ h => h) (Or.inl ⟨by rfl, ?_⟩) (by assumption) ?_
    rotate_left
    · (intro w hSw; (try dsimp only at hSw); go_simp; try with_reducible rfl)
    try simp only [Act.put, List.setIfInBounds_toArray, List.set_cons_zero, List.set_cons_succ]
    refine wpAnyH_take (i := 3) (oi := { dst := some 19, op := Op.load 26 (Operand.tmp 2), type := 26, pos := "law.go:26", after := #[], guard := none }) (v := ?_) rfl (by kernel_rfl) (by kernel_rfl) (by kernel_rfl) (fun _ _ _ h => h) (Or.inl ⟨by rfl, ?_⟩) (by assumption) ?_
    rotate_left
    · (intro w hSw; (try dsimp only at hSw); go_simp; try with_reducible rfl)
    try simp only [Act.put, List.setIfInBounds_toArray, List.set_cons_zero, List.set_cons_succ]
    refine wpAnyH_ready (rs := [2]) (by kernel_rfl) (by simp) ?_
    refine AllReadyH.cons (o := { dst := some 18, op := Op.call { callee := Callee.value (Operand.func 10), args := #[Operand.tmp 17], argTypes := #[23] }, type := 29, pos := "law.go:26", after := #[{ on := 1, ground := Ground.data }], guard := none }) rfl (fun K hK => ?_) AllReadyH.nil
    go_simp
    refine (K5.out _).mono ?_
    rintro e W_0 ⟨rfl, bq⟩
    refine hK.out _ _ ?_ (fun hH' => ?_)
    · exact held_next (by assumption) hH
    clear hK K hH
    have hH := hH'
    clear hH'
    try simp only [Act.put, List.setIfInBounds_toArray, List.set_cons_zero, List.set_cons_succ]
    refine wpAnyH_ready (rs := [4]) (by kernel_rfl) (by simp) ?_
    refine AllReadyH.cons (o := { dst := some 20, op := Op.call { callee := Callee.value (Operand.func 11), args := #[Operand.tmp 19], argTypes := #[26] }, type := 29, pos := "law.go:26", after := #[{ on := 3, ground := Ground.data }, { on := 2, ground := Ground.chain }], guard := none }) rfl (fun K hK => ?_) AllReadyH.nil
    go_simp
    refine (K6.out _).mono ?_
    rintro e W_1 ⟨rfl, bq⟩
    refine hK.out _ _ ?_ (fun hH' => ?_)
    · exact held_next (by assumption) hH
    clear hK K hH
    have hH := hH'
    clear hH'
    try simp only [Act.put, List.setIfInBounds_toArray, List.set_cons_zero, List.set_cons_succ]
    refine wpAnyH_take (i := 5) (oi := { dst := some 5, op := Op.assign (Operand.tmp 18), type := 29, pos := "law.go:26", after := #[{ on := 2, ground := Ground.data }, { on := 4, ground := Ground.chain }, { on := 0, ground := Ground.phase }, { on := 1, ground := Ground.phase }, { on := 2, ground := Ground.phase }, { on := 3, ground := Ground.textOnly Departure.lateStores }, { on := 4, ground := Ground.textOnly Departure.lateStoresUnsure }], guard := none }) (v := ?_) rfl (by kernel_rfl) (by kernel_rfl) (by kernel_rfl) (fun _ _ _ h => h) (Or.inl ⟨by rfl, ?_⟩) (by assumption) ?_
    rotate_left
    · (intro w hSw; (try dsimp only at hSw); go_simp; try with_reducible rfl)
    try simp only [Act.put, List.setIfInBounds_toArray, List.set_cons_zero, List.set_cons_succ]
    refine wpAnyH_take (i := 6) (oi := { dst := some 6, op := Op.assign (Operand.tmp 20), type := 29, pos := "law.go:26", after := #[{ on := 4, ground := Ground.data }, { on := 5, ground := Ground.chain }, { on := 0, ground := Ground.phase }, { on := 1, ground := Ground.phase }, { on := 2, ground := Ground.phase }, { on := 3, ground := Ground.phase }, { on := 4, ground := Ground.phase }, { on := 5, ground := Ground.phase }], guard := none }) (v := ?_) rfl (by kernel_rfl) (by kernel_rfl) (by kernel_rfl) (fun _ _ _ h => h) (Or.inl ⟨by rfl, ?_⟩) (by assumption) ?_
    rotate_left
    · (intro w hSw; (try dsimp only at hSw); go_simp; try with_reducible rfl)
    try simp only [Act.put, List.setIfInBounds_toArray, List.set_cons_zero, List.set_cons_succ]
    refine wpAnyH_done (by kernel_rfl) ?_ _
    refine NoPanic.normal ?_
    have B2 := Lib.hid (B1.out.trans (hH.2.1.out.mono (by rw [HN.out]; exact B1.out.size)))
    clear S0 hH l0 HN
    clear x8 x0 x1 x2 x3 x4 x5
    obtain ⟨x8, x0, x1, x2, x3, x4, x5⟩ := Ha.out.kept B2.out (by have := HZ.out; omega)
    cases n1
    all_goals
      cases n2
      all_goals
        cases c1
        all_goals
          cases c2
          all_goals
            obtain ⟨he1, he2⟩ := HE.out
            have he1' := he1.symm
            have he2' := he2.symm
            simp only [argN] at he1' he2'
            subst he1' he2'
            clear he1 he2 HE
            go_wp2_with fail
            refine (K1.out _).mono ?_
            rintro e wx ⟨rfl, rfl⟩
            go_wp2_with fail
            refine (K2.out _).mono ?_
            rintro e wx ⟨rfl, rfl⟩
            go_wp2_with fail
            refine (K3.out _).mono ?_
            rintro e wx ⟨rfl, rfl⟩
            go_wp2_with fail
            refine (K4.out _).mono ?_
            rintro e wx ⟨rfl, rfl⟩
            go_wp2_with fail
            refine (K7.out _).mono ?_
            rintro e w3 ⟨rfl, b3⟩
            have B3 := Lib.hid (B2.out.trans (b3.mono B2.out.size))
            clear b3
            clear x8 x0 x1 x2 x3 x4 x5
            obtain ⟨x8, x0, x1, x2, x3, x4, x5⟩ := Ha.out.kept B3.out (by have := HZ.out; omega)
            go_wp2_with fail
            refine (K8.out _).mono ?_
            rintro e w4 ⟨rfl, b4⟩
            have B4 := Lib.hid (B3.out.trans (b4.mono B3.out.size))
            clear b4
            clear x8 x0 x1 x2 x3 x4 x5
            go_wp2_with fail
            refine (awake_any _).mono ?_
            rintro e wz ⟨rfl, bz⟩
            have BZ := Lib.hid (HW.out.trans ((B4.out.trans (bz.mono B4.out.size)).mono HW.out.size))
            clear bz
            go_wp2_with fail
            go_ret
            exact ⟨rfl, BZ.out⟩
end Go.Proofs.YtakoghdkllfhlaaDoor

/- SchemaObjects: the law's walk. -/
import Derived.Test.YtfmgbhaldakpfaaDoorSkn
import Derived.Test.YtfmgbhaldakpfaaDoorSw
import Derived.Test.YtfmgbhaldakpfaaDoorS
namespace Go.Proofs.YtfmgbhaldakpfaaDoor
open Go.RowKit

set_option maxHeartbeats 8000000 in
set_option maxRecDepth 100000 in
theorem lobjects_any {n : Nat} {V : Val} {v : Value} {w : World} (t : ByteArray) (ht : t.size ≤ maxLen) (h : Lies n w V v) (hn : n ≤ w.heap.size) (hT : Tab w) :
    Calls Tryd.prog 4 #[.string t, v] w fun e w' => e = .returned (.bool true) ∧ Below w.heap.size w w' := by
  obtain ⟨oL, oK, cL, cK, c, rfl, O⟩ := h.inv
  have b0 : Below w.heap.size w (w.alloc (bx V oL oK cL cK)) := bal (Below.refl _ _) _
  have HB := Lib.hid b0
  have HO := Lib.hid (O.kept (b0.mono hn)).lies
  have HX := Lib.hid (Hd.made w V (.slice oL V.l.length cL) (.slice oK V.ks.length cK))
  have HS : Hid ((w.alloc (bx V oL oK cL cK)).heap.size = w.heap.size + 1) := by simp [Hid]
  have HT := Lib.hid (hT.below b0 hT.lt)
  have HT0 := Lib.hid hT.lt
  have CG := Lib.hid (Great_any HO.out (by simp; omega))
  have LO : Hid (∀ W, Below (w.alloc (bx V oL oK cL cK)).heap.size (w.alloc (bx V oL oK cL cK)) W → Lies n W V (vv V.k V.i V.s (.slice oL V.l.length cL) (.slice oK V.ks.length cK) V.tk V.to V.x) ∧ n ≤ W.heap.size ∧ Tab W) := fun W hW =>
    ⟨HO.out.kept (hW.mono (by simp; omega)), by have := hW.size; simp at this; omega, HT.out.below hW (by simp)⟩
  have hm := ht
  unfold maxLen at hm
  clear h O b0 hT ht
  by_cases q1 : 100 < t.size
  · have q1' : (100 : Int) < (t.size : Int) := by omega
    go_enter Tryd.func4, Tryd.ntmps4
    go_upto_region 1 with (fail)
    generalize w.alloc _ = w0 at *
    go_wp2_with fail
    refine (awake_any w0 HT.out).mono ?_
    rintro e w1 ⟨rfl, hb⟩
    have BZ := Lib.hid (HB.out.trans (hb.mono HB.out.size))
    clear hb
    go_wp2_with fail
    go_ret
    exact ⟨rfl, BZ.out⟩
  · have q1' : ¬ (100 : Int) < (t.size : Int) := by omega
    go_enter Tryd.func4, Tryd.ntmps4
    go_upto_region 1 with (fail)
    generalize w.alloc _ = w0 at *
    have hwl : w.heap.size < w0.heap.size := by rw [HS.out]; exact Nat.lt_succ_self _
    obtain ⟨x8, x0, x1, x2, x3, x4, x5, x6, x7⟩ := HX.out
    go_wp2_with fail
    refine CG.out.mono ?_
    rintro e w1 ⟨g, rfl, hg, hb1⟩
    have B1 := Lib.hid hb1
    clear hb1 x8 x0 x1 x2 x3 x4 x5 x6 x7
    cases g with
    | true =>
      clear hg
      go_wp2_with fail
      refine (awake_any w1 (LO.out w1 B1.out).2.2).mono ?_
      rintro e w2 ⟨rfl, hb⟩
      have BZ := Lib.hid (HB.out.trans ((B1.out.trans (hb.mono B1.out.size)).mono HB.out.size))
      clear hb
      go_wp2_with fail
      go_ret
      exact ⟨rfl, BZ.out⟩
    | false =>
      have hsz := hg rfl
      clear hg
      obtain ⟨x8, x0, x1, x2, x3, x4, x5, x6, x7⟩ := HX.out.kept B1.out hwl
      go_upto_region 3 with (fail)
      obtain ⟨N, hN⟩ : ∃ N, N = w1.heap.size := ⟨_, rfl⟩
      have S0 := held_at hN
      have lA : w.heap.size < N := by rw [hN]; have := B1.out.size; omega
      have HN := Lib.hid hN
      have LW : Hid (∀ W, Below N w1 W → Below w0.heap.size w0 W) := fun W hW => B1.out.trans (hW.mono (by rw [HN.out]; exact B1.out.size))
      obtain ⟨Q, hQ⟩ : ∃ Q, robjI t V = Q := ⟨_, rfl⟩
      obtain ⟨F, hF⟩ : ∃ F, rfinI t V = F := ⟨_, rfl⟩
      have C1 : Hid (∀ W, Below N w1 W → Calls Tryd.prog 14 #[.string t, vv V.k V.i V.s (.slice oL V.l.length cL) (.slice oK V.ks.length cK) V.tk V.to V.x] W fun e w' => e = .returned (.int .i64 Q) ∧ Below W.heap.size W w') := fun W hW => by
        have := object_any t (by omega) (LO.out W (LW.out W hW)).1 (LO.out W (LW.out W hW)).2.1 (LO.out W (LW.out W hW)).2.2
        rw [obj_eq, hQ] at this
        exact this
      have C2 : Hid (∀ W, Below N w1 W → Calls Tryd.prog 15 #[.string t, vv V.k V.i V.s (.slice oL V.l.length cL) (.slice oK V.ks.length cK) V.tk V.to V.x] W fun e w' => e = .returned (.int .i64 Q) ∧ Below W.heap.size W w') := fun W hW => by
        have := robject_any t (by omega) (LO.out W (LW.out W hW)).1 (LO.out W (LW.out W hW)).2.1
        rw [hQ] at this
        exact this
      have C3 : Hid (∀ W, Below N w1 W → Calls Tryd.prog 16 #[.string t, vv V.k V.i V.s (.slice oL V.l.length cL) (.slice oK V.ks.length cK) V.tk V.to V.x] W fun e w' => e = .returned (.int .i64 F) ∧ Below W.heap.size W w') := fun W hW => by
        have := final_any t (by omega) (LO.out W (LW.out W hW)).1 (LO.out W (LW.out W hW)).2.1 (LO.out W (LW.out W hW)).2.2
        rw [fin_eq, hF] at this
        exact this
      have C4 : Hid (∀ W, Below N w1 W → Calls Tryd.prog 17 #[.string t, vv V.k V.i V.s (.slice oL V.l.length cL) (.slice oK V.ks.length cK) V.tk V.to V.x] W fun e w' => e = .returned (.int .i64 F) ∧ Below W.heap.size W w') := fun W hW => by
        have := rfinal_any t (by omega) (LO.out W (LW.out W hW)).1 (LO.out W (LW.out W hW)).2.1
        rw [hF] at this
        exact this
      have C5 : Hid (∀ W, Below N w1 W → Calls Tryd.prog 6 #[] W fun e w' => e = .returned (.bool true) ∧ Below W.heap.size W w') := fun W hW => awake_any W (LO.out W (LW.out W hW)).2.2
      clear hN hQ hF
      refine wp_region_noPanic ?_
      refine wp_region_held_drew (S := (fun W => (∀ b o, b < N → W.cell? ⟨b, o, none⟩ = w1.cell? ⟨b, o, none⟩) ∧ Hid (Below N w1 W) ∧ Hid (N ≤ W.heap.size))) (by kernel_rfl) ?_ (fun hH => ?_)
      · exact S0
      refine wpAnyH_take (i := 0) (oi := { dst := some 13, op := Op.move (Operand.tmp 0), type := 9, pos := "law.go:49", after := #[], guard := none }) (v := ?_) rfl (by kernel_rfl) (by kernel_rfl) (by kernel_rfl) (fun _ _ _ h => h) (Or.inl ⟨by rfl, ?_⟩) (by assumption) ?_
      rotate_left
      · (intro w hSw; (try dsimp only at hSw); go_simp; try with_reducible rfl)
      try simp only [Act.put, List.setIfInBounds_toArray, List.set_cons_zero, List.set_cons_succ]
      refine wpAnyH_take (i := 1) (oi := { dst := some 14, op := Op.load 42 (Operand.tmp 3), type := 42, pos := "law.go:49", after := #[], guard := none }) (v := ?_) rfl (by kernel_rfl) (by kernel_rfl) (by kernel_rfl) (fun _ _ _ h => h) (Or.inl ⟨by rfl, ?_⟩) (by assumption) ?_
      rotate_left
      · (intro w hSw; (try dsimp only at hSw); go_simp; try with_reducible rfl)
      try simp only [Act.put, List.setIfInBounds_toArray, List.set_cons_zero, List.set_cons_succ]
      refine wpAnyH_take (i := 3) (oi := { dst := some 16, op := Op.move (Operand.tmp 0), type := 9, pos := "law.go:49", after := #[], guard := none }) (v := ?_) rfl (by kernel_rfl) (by kernel_rfl) (by kernel_rfl) (fun _ _ _ h => h) (Or.inl ⟨by rfl, ?_⟩) (by assumption) ?_
      rotate_left
      · (intro w hSw; (try dsimp only at hSw); go_simp; try with_reducible rfl)
      try simp only [Act.put, List.setIfInBounds_toArray, List.set_cons_zero, List.set_cons_succ]
      refine wpAnyH_take (i := 4) (oi := { dst := some 17, op := Op.load 42 (Operand.tmp 3), type := 42, pos := "law.go:49", after := #[], guard := none }) (v := ?_) rfl (by kernel_rfl) (by kernel_rfl) (by kernel_rfl) (fun _ _ _ h => h) (Or.inl ⟨by rfl, ?_⟩) (by assumption) ?_
      rotate_left
      · (intro w hSw; (try dsimp only at hSw); go_simp; try with_reducible rfl)
      try simp only [Act.put, List.setIfInBounds_toArray, List.set_cons_zero, List.set_cons_succ]
      refine wpAnyH_ready (rs := [2]) (by kernel_rfl) (by simp) ?_
      refine AllReadyH.cons (o := { dst := some 15, op := Op.call { callee := Callee.value (Operand.func 14), args := #[Operand.tmp 13, Operand.tmp 14], argTypes := #[9, 42] }, type := 24, pos := "law.go:49", after := #[{ on := 0, ground := Ground.data }, { on := 1, ground := Ground.data }], guard := none }) rfl (fun K hK => ?_) AllReadyH.nil
      go_simp
      refine (C1.out _ hH.2.1.out).mono ?_
      rintro e W_0 ⟨rfl, b⟩
      refine hK.out _ _ ?_ (fun hH' => ?_)
      · exact held_next (by assumption) hH
      clear hK K hH
      have hH := hH'
      clear hH'
      try simp only [Act.put, List.setIfInBounds_toArray, List.set_cons_zero, List.set_cons_succ]
      refine wpAnyH_ready (rs := [5]) (by kernel_rfl) (by simp) ?_
      refine AllReadyH.cons (o := { dst := some 18, op := Op.call { callee := Callee.value (Operand.func 15), args := #[Operand.tmp 16, Operand.tmp 17], argTypes := #[9, 42] }, type := 3, pos := "law.go:49", after := #[{ on := 3, ground := Ground.data }, { on := 4, ground := Ground.data }, { on := 2, ground := Ground.chain }], guard := none }) rfl (fun K hK => ?_) AllReadyH.nil
      go_simp
      refine (C2.out _ hH.2.1.out).mono ?_
      rintro e W_1 ⟨rfl, b⟩
      refine hK.out _ _ ?_ (fun hH' => ?_)
      · exact held_next (by assumption) hH
      clear hK K hH
      have hH := hH'
      clear hH'
      try simp only [Act.put, List.setIfInBounds_toArray, List.set_cons_zero, List.set_cons_succ]
      refine wpAnyH_take (i := 6) (oi := { dst := some 19, op := Op.binOp BinOp.eql 3 (Operand.tmp 15) (Operand.tmp 18) 3, type := 4, pos := "law.go:49", after := #[{ on := 2, ground := Ground.data }, { on := 5, ground := Ground.data }], guard := none }) (v := ?_) rfl (by kernel_rfl) (by kernel_rfl) (by kernel_rfl) (fun _ _ _ h => h) (Or.inl ⟨by rfl, ?_⟩) (by assumption) ?_
      rotate_left
      · (intro w hSw; (try dsimp only at hSw); go_simp; try with_reducible rfl)
      try simp only [Act.put, List.setIfInBounds_toArray, List.set_cons_zero, List.set_cons_succ]
      refine wpAnyH_take (i := 7) (oi := { dst := some 20, op := Op.move (Operand.tmp 19), type := 4, pos := "law.go:49", after := #[{ on := 6, ground := Ground.data }, { on := 5, ground := Ground.chain }], guard := none }) (v := ?_) rfl (by kernel_rfl) (by kernel_rfl) (by kernel_rfl) (fun _ _ _ h => h) (Or.inl ⟨by rfl, ?_⟩) (by assumption) ?_
      rotate_left
      · (intro w hSw; (try dsimp only at hSw); go_simp; try with_reducible rfl)
      try simp only [Act.put, List.setIfInBounds_toArray, List.set_cons_zero, List.set_cons_succ]
      refine wpAnyH_take (i := 8) (oi := { dst := some 21, op := Op.move (Operand.tmp 0), type := 9, pos := "law.go:49", after := #[{ on := 7, ground := Ground.guard }], guard := some (7, true) }) (v := ?_) rfl (by kernel_rfl) (by kernel_rfl) (by kernel_rfl) (fun _ _ _ h => h) (Or.inl ⟨by rfl, ?_⟩) (by assumption) ?_
      rotate_left
      · (intro w hSw; (try dsimp only at hSw); go_simp; try with_reducible rfl)
      try simp only [Act.put, List.setIfInBounds_toArray, List.set_cons_zero, List.set_cons_succ]
      refine wpAnyH_take (i := 9) (oi := { dst := some 22, op := Op.load 42 (Operand.tmp 3), type := 42, pos := "law.go:49", after := #[{ on := 7, ground := Ground.guard }], guard := some (7, true) }) (v := ?_) rfl (by kernel_rfl) (by kernel_rfl) (by kernel_rfl) (fun _ _ _ h => h) (Or.inl ⟨by rfl, ?_⟩) (by assumption) ?_
      rotate_left
      · (intro w hSw; (try dsimp only at hSw); go_simp; try with_reducible rfl)
      try simp only [Act.put, List.setIfInBounds_toArray, List.set_cons_zero, List.set_cons_succ]
      refine wpAnyH_take (i := 11) (oi := { dst := some 24, op := Op.move (Operand.tmp 0), type := 9, pos := "law.go:49", after := #[{ on := 7, ground := Ground.guard }], guard := some (7, true) }) (v := ?_) rfl (by kernel_rfl) (by kernel_rfl) (by kernel_rfl) (fun _ _ _ h => h) (Or.inl ⟨by rfl, ?_⟩) (by assumption) ?_
      rotate_left
      · (intro w hSw; (try dsimp only at hSw); go_simp; try with_reducible rfl)
      try simp only [Act.put, List.setIfInBounds_toArray, List.set_cons_zero, List.set_cons_succ]
      refine wpAnyH_take (i := 12) (oi := { dst := some 25, op := Op.load 42 (Operand.tmp 3), type := 42, pos := "law.go:49", after := #[{ on := 7, ground := Ground.guard }], guard := some (7, true) }) (v := ?_) rfl (by kernel_rfl) (by kernel_rfl) (by kernel_rfl) (fun _ _ _ h => h) (Or.inl ⟨by rfl, ?_⟩) (by assumption) ?_
      rotate_left
      · (intro w hSw; (try dsimp only at hSw); go_simp; try with_reducible rfl)
      try simp only [Act.put, List.setIfInBounds_toArray, List.set_cons_zero, List.set_cons_succ]
      refine wpAnyH_ready (rs := [10]) (by kernel_rfl) (by simp) ?_
      refine AllReadyH.cons (o := { dst := some 23, op := Op.call { callee := Callee.value (Operand.func 16), args := #[Operand.tmp 21, Operand.tmp 22], argTypes := #[9, 42] }, type := 24, pos := "law.go:49", after := #[{ on := 8, ground := Ground.data }, { on := 9, ground := Ground.data }, { on := 7, ground := Ground.chain }, { on := 7, ground := Ground.guard }], guard := some (7, true) }) rfl (fun K hK => ?_) AllReadyH.nil
      go_simp
      refine (C3.out _ hH.2.1.out).mono ?_
      rintro e W_2 ⟨rfl, b⟩
      refine hK.out _ _ ?_ (fun hH' => ?_)
      · exact held_next (by assumption) hH
      clear hK K hH
      have hH := hH'
      clear hH'
      try simp only [Act.put, List.setIfInBounds_toArray, List.set_cons_zero, List.set_cons_succ]
      refine wpAnyH_ready (rs := [13]) (by kernel_rfl) (by simp) ?_
      refine AllReadyH.cons (o := { dst := some 26, op := Op.call { callee := Callee.value (Operand.func 17), args := #[Operand.tmp 24, Operand.tmp 25], argTypes := #[9, 42] }, type := 3, pos := "law.go:49", after := #[{ on := 11, ground := Ground.data }, { on := 12, ground := Ground.data }, { on := 10, ground := Ground.chain }, { on := 7, ground := Ground.guard }], guard := some (7, true) }) rfl (fun K hK => ?_) AllReadyH.nil
      go_simp
      refine (C4.out _ hH.2.1.out).mono ?_
      rintro e W_3 ⟨rfl, b⟩
      refine hK.out _ _ ?_ (fun hH' => ?_)
      · exact held_next (by assumption) hH
      clear hK K hH
      have hH := hH'
      clear hH'
      try simp only [Act.put, List.setIfInBounds_toArray, List.set_cons_zero, List.set_cons_succ]
      refine wpAnyH_take (i := 14) (oi := { dst := some 27, op := Op.binOp BinOp.eql 3 (Operand.tmp 23) (Operand.tmp 26) 3, type := 4, pos := "law.go:49", after := #[{ on := 10, ground := Ground.data }, { on := 13, ground := Ground.data }, { on := 7, ground := Ground.guard }], guard := some (7, true) }) (v := ?_) rfl (by kernel_rfl) (by kernel_rfl) (by kernel_rfl) (fun _ _ _ h => h) (Or.inl ⟨by rfl, ?_⟩) (by assumption) ?_
      rotate_left
      · (intro w hSw; (try dsimp only at hSw); go_simp; try with_reducible rfl)
      try simp only [Act.put, List.setIfInBounds_toArray, List.set_cons_zero, List.set_cons_succ]
      refine wpAnyH_take (i := 15) (oi := { dst := some 28, op := Op.pick (Operand.tmp 20) (Operand.tmp 27) (Operand.const (Value.bool false)), type := 4, pos := "law.go:49", after := #[{ on := 7, ground := Ground.data }, { on := 14, ground := Ground.data }], guard := none }) (v := ?_) rfl (by kernel_rfl) (by kernel_rfl) (by kernel_rfl) (fun _ _ _ h => h) (Or.inl ⟨by rfl, ?_⟩) (by assumption) ?_
      rotate_left
      · (intro w hSw; (try dsimp only at hSw); go_simp; try with_reducible rfl)
      try simp only [Act.put, List.setIfInBounds_toArray, List.set_cons_zero, List.set_cons_succ]
      refine wpAnyH_take (i := 16) (oi := { dst := some 29, op := Op.move (Operand.tmp 28), type := 4, pos := "law.go:49", after := #[{ on := 15, ground := Ground.data }, { on := 13, ground := Ground.chain }], guard := none }) (v := ?_) rfl (by kernel_rfl) (by kernel_rfl) (by kernel_rfl) (fun _ _ _ h => h) (Or.inl ⟨by rfl, ?_⟩) (by assumption) ?_
      rotate_left
      · (intro w hSw; (try dsimp only at hSw); go_simp; try with_reducible rfl)
      try simp only [Act.put, List.setIfInBounds_toArray, List.set_cons_zero, List.set_cons_succ]
      refine wpAnyH_ready (rs := [17]) (by kernel_rfl) (by simp) ?_
      refine AllReadyH.cons (o := { dst := some 30, op := Op.call { callee := Callee.value (Operand.func 6), args := #[], argTypes := #[] }, type := 4, pos := "law.go:49", after := #[{ on := 16, ground := Ground.chain }, { on := 16, ground := Ground.guard }], guard := some (16, true) }) rfl (fun K hK => ?_) AllReadyH.nil
      go_simp
      refine (C5.out _ hH.2.1.out).mono ?_
      rintro e W_4 ⟨rfl, b⟩
      refine hK.out _ _ ?_ (fun hH' => ?_)
      · exact held_next (by assumption) hH
      clear hK K hH
      have hH := hH'
      clear hH'
      try simp only [Act.put, List.setIfInBounds_toArray, List.set_cons_zero, List.set_cons_succ]
      refine wpAnyH_take (i := 18) (oi := { dst := some 31, op := Op.pick (Operand.tmp 29) (Operand.tmp 30) (Operand.const (Value.bool false)), type := 4, pos := "law.go:49", after := #[{ on := 16, ground := Ground.data }, { on := 17, ground := Ground.data }], guard := none }) (v := ?_) rfl (by kernel_rfl) (by kernel_rfl) (by kernel_rfl) (fun _ _ _ h => h) (Or.inl ⟨by rfl, ?_⟩) (by assumption) ?_
      rotate_left
      · (intro w hSw; (try dsimp only at hSw); go_simp; try with_reducible rfl)
      try simp only [Act.put, List.setIfInBounds_toArray, List.set_cons_zero, List.set_cons_succ]
      refine wpAnyH_take (i := 19) (oi := { dst := some 4, op := Op.assign (Operand.tmp 31), type := 4, pos := "law.go:49", after := #[{ on := 18, ground := Ground.data }, { on := 17, ground := Ground.chain }, { on := 0, ground := Ground.phase }, { on := 1, ground := Ground.phase }, { on := 2, ground := Ground.phase }, { on := 3, ground := Ground.phase }, { on := 4, ground := Ground.phase }, { on := 5, ground := Ground.phase }, { on := 6, ground := Ground.phase }, { on := 7, ground := Ground.phase }, { on := 8, ground := Ground.phase }, { on := 9, ground := Ground.phase }, { on := 10, ground := Ground.phase }, { on := 11, ground := Ground.phase }, { on := 12, ground := Ground.phase }, { on := 13, ground := Ground.phase }, { on := 14, ground := Ground.phase }, { on := 15, ground := Ground.phase }, { on := 16, ground := Ground.phase }, { on := 17, ground := Ground.phase }, { on := 18, ground := Ground.phase }], guard := none }) (v := ?_) rfl (by kernel_rfl) (by kernel_rfl) (by kernel_rfl) (fun _ _ _ h => h) (Or.inl ⟨by rfl, ?_⟩) (by assumption) ?_
      rotate_left
      · (intro w hSw; (try dsimp only at hSw); go_simp; try with_reducible rfl)
      try simp only [Act.put, List.setIfInBounds_toArray, List.set_cons_zero, List.set_cons_succ]
      refine wpAnyH_done (by kernel_rfl) ?_ _
      refine NoPanic.normal ?_
      have BZ := Lib.hid (HB.out.trans ((LW.out _ hH.2.1.out).mono HB.out.size))
      clear S0 hH
      go_wp2_with fail
      go_ret
      exact ⟨rfl, BZ.out⟩
end Go.Proofs.YtfmgbhaldakpfaaDoor

/- The law TypCodes: its walk. -/
import Derived.Test.YticbogldplohpaaK
namespace Go.Proofs.Yticbogldplohpaa
open Go.RowKit
attribute [local go_sem ↓] Go.wp_at_zero Go.wp_at_succ

theorem code_rises : ∀ j, j < 12 → 0 < j → code (tK (j - 1), tO (j - 1)) < code (tK j, tO j) := by decide
theorem code_is {k o : Int} (h : okB k o = true) : code (k, o) = 8 * k + o := by unfold code; simp [h]
/-- what Of answers -/
def OfIs (c xk xo ee : Int) : Prop := (okB (c / 8) (c % 8) = true ∧ xk = c / 8 ∧ xo = c % 8 ∧ ee = 0) ∨ (okB (c / 8) (c % 8) = false ∧ xk = 0 ∧ xo = 0 ∧ ee = 4)
theorem of_any (c : Int) (h0 : 0 ≤ c) (h1 : c ≤ 255) : ∃ xk xo ee, OfIs c xk xo ee ∧ ∀ w, Calls Try.prog 15 #[.int .u8 c] w fun e w' => e = .returned (.tuple #[ty xk xo, .int .i64 ee]) ∧ Below w.heap.size w w' := by
  cases h : okB (c / 8) (c % 8)
  · exact ⟨0, 0, 4, .inr ⟨h, rfl, rfl, rfl⟩, fun w => of_no c w h0 h1 h⟩
  · exact ⟨_, _, 0, .inl ⟨h, rfl, rfl, rfl⟩, fun w => of_ok c w h0 h1 h⟩
set_option maxRecDepth 100000 in
set_option maxHeartbeats 8000000 in
theorem codes_any (k o c : Int) (h0 : 0 ≤ c) (h1 : c ≤ 255) (w : World) : Calls Try.prog 5 #[ty k o, .int .u8 c] w fun e w' => e = .returned (.bool true) ∧ Below w.heap.size w w' := by
  obtain ⟨xk, xo, ee, ofis, OF⟩ := of_any c h0 h1
  have HOF := Lib.hid OF
  have HOI := Lib.hid ofis
  have HCo := Lib.hid (fun w => code_any k o w)
  have HR := Lib.hid (fun w => rcheck_any k o w)
  have HRC := Lib.hid (fun w => rcheck_any (c / 8) (c % 8) w)
  have hd : Hid ((okB k o = true ∧ code (k, o) = 8 * k + o ∧ 0 ≤ k ∧ k ≤ 5 ∧ 0 ≤ o ∧ o ≤ 3) ∨ (okB k o = false ∧ code (k, o) = 255)) := by
    unfold Hid
    cases h : okB k o
    · exact .inr ⟨rfl, by unfold code; simp [h]⟩
    · have := (ok_iff k o).1 h
      exact .inl ⟨rfl, code_is h, by omega, by omega, by omega, by omega⟩
  have cd : 0 ≤ code (k, o) ∧ code (k, o) ≤ 255 := by rcases hd.out with ⟨_, h, _⟩ | ⟨_, h⟩ <;> omega
  obtain ⟨cd0, cd1⟩ := cd
  generalize code (k, o) = D at *
  generalize okB k o = OB at *
  clear OF ofis
  have X0 := Lib.hid (Bx.new w k o)
  have B0 := Lib.hid ((Below.refl _ _).alloc (Nat.le_refl _) _ : Below w.heap.size w (w.alloc (.cells #[.int .i64 k, .int .i64 o] 23)))
  go_enter Try.func5, Try.ntmps5
  go_wp2_with fail
  refine (HOF.out _).mono ?_
  rintro e w1 ⟨rfl, b1⟩
  have V0 := Lib.hid ((X0.out.keep b1).alloc (.cells #[.int .i64 xk, .int .i64 xo] 23))
  have V1 := Lib.hid (Bx.new w1 xk xo)
  have BV := Lib.hid ((B0.out.trans (b1.mono B0.out.size)).alloc (by have := B0.out.size; have := b1.size; omega) (.cells #[.int .i64 xk, .int .i64 xo] 23))
  clear b1 B0 X0 HOF
  go_upto_region 2 with fail
  generalize w1.alloc (.cells #[.int .i64 xk, .int .i64 xo] 23) = W2 at *
  generalize w1.heap.size = n1 at *
  have c0 := V0.out.c0
  have c1 := V0.out.c1
  go_wp2_with fail
  refine (HCo.out _).mono ?_
  rintro e W3 ⟨rfl, b3⟩
  have Z0 := Lib.hid (V0.out.keep b3)
  have Z1 := Lib.hid (V1.out.keep b3)
  have BZ := Lib.hid (BV.out.trans (b3.mono BV.out.size))
  clear b3 BV V0 V1 c0 c1 HCo
  have c0 := Z0.out.c0
  have c1 := Z0.out.c1
  go_upto_region 3 with fail
  go_cut [38] (fun s wx => s = .bool false ∧ Hid (Below W3.heap.size W3 wx))
  case first =>
    rcases hd.out with ⟨rfl, rfl, k0, k1, o0, o1⟩ | ⟨rfl, rfl⟩
    · have d1 : ((8 * k + o) == 255) = false := by rw [beq_eq_false_iff_ne]; omega
      have d2 : ((8 * k + o) != 255) = true := by rw [bne_iff_ne]; omega
      go_wp2_with fail
      refine (HR.out _).mono ?_
      rintro e W4 ⟨rfl, b4⟩
      have Y0 := Z0.out.keep b4
      obtain ⟨_, c0, c1⟩ := Y0
      go_wp2_with fail
      go_meet
      exact ⟨rfl, b4⟩
    · go_wp2_with fail
      refine (HR.out _).mono ?_
      rintro e W4 ⟨rfl, b4⟩
      go_wp2_with fail
      go_meet
      exact ⟨rfl, b4⟩
  case rest =>
    obtain ⟨rfl, HB⟩ := hcut
    have V1 := Lib.hid ((Z1.out.keep HB.out).alloc (.cells #[.int .i64 (c / 8), .int .i64 (c % 8)] 23))
    have BV := Lib.hid ((BZ.out.trans (HB.out.mono BZ.out.size)).alloc (by have := BZ.out.size; have := HB.out.size; omega) (.cells #[.int .i64 (c / 8), .int .i64 (c % 8)] 23))
    have V2 := Lib.hid (Bx.new wc (c / 8) (c % 8))
    clear Z0 Z1 BZ HB HR hd c0 c1 cd0 cd1
    go_upto_region 6 with fail
    generalize wc.alloc (.cells #[.int .i64 (c / 8), .int .i64 (c % 8)] 23) = W5 at *
    generalize wc.heap.size = n5 at *
    go_cut [70] (fun s wx => s = .bool false ∧ Hid (Below W5.heap.size W5 wx))
    case first =>
      have c0 := V1.out.c0
      have c1 := V1.out.c1
      have c2 := V2.out.c0
      have c3 := V2.out.c1
      rcases HOI.out with ⟨e1, rfl, rfl, rfl⟩ | ⟨e1, rfl, rfl, rfl⟩
      · have R := fun w => rcheck_ok (c / 8) (c % 8) w e1
        clear e1
        go_wp2_with fail
        refine (R _).mono ?_
        rintro e W6 ⟨rfl, b6⟩
        have Y1 := V1.out.keep b6
        have Y2 := V2.out.keep b6
        obtain ⟨_, c0, c1⟩ := Y1
        obtain ⟨_, c2, c3⟩ := Y2
        have B6 := Lib.hid b6
        clear b6
        go_wp2_with fail
        refine (R _).mono ?_
        rintro e W7 ⟨rfl, b7⟩
        have B7 := Lib.hid (B6.out.trans (b7.mono B6.out.size))
        clear b7
        go_wp2_with fail
        go_meet
        exact ⟨rfl, B7.out⟩
      · have R := fun w => rcheck_no (c / 8) (c % 8) w e1
        clear e1
        go_wp2_with fail
        refine (R _).mono ?_
        rintro e W6 ⟨rfl, b6⟩
        have Y1 := V1.out.keep b6
        have Y2 := V2.out.keep b6
        obtain ⟨_, c0, c1⟩ := Y1
        obtain ⟨_, c2, c3⟩ := Y2
        have B6 := Lib.hid b6
        clear b6
        go_wp2_with fail
        refine (R _).mono ?_
        rintro e W7 ⟨rfl, b7⟩
        have B7 := Lib.hid (B6.out.trans (b7.mono B6.out.size))
        have Y1 := V1.out.keep B7.out
        obtain ⟨_, c0, c1⟩ := Y1
        clear b7
        go_wp2_with fail
        go_meet
        exact ⟨rfl, B7.out⟩
    case rest =>
      obtain ⟨rfl, HB⟩ := hcut
      have BZ := Lib.hid (BV.out.trans (HB.out.mono BV.out.size))
      clear V1 V2 BV HB HOI HRC
      go_wp2_with fail
      refine (rall_any _).mono ?_
      rintro e W8 ⟨⟨g, cap, rfl, hcap, hmx, hAll⟩, b8⟩
      go_wp2_with fail
      refine (all_any _).mono ?_
      rintro e W9 ⟨⟨g2, cap2, rfl, hcap2, hmx2, hAll2⟩, b9⟩
      have HA1 : Hid (AllAt W9 g) := ⟨Nat.lt_of_lt_of_le hAll.lt b9.size, fun i t h => (b9.cell (p := ⟨g, 2 * i, none⟩) hAll.lt).trans (hAll.at0 i t h), fun i t h => (b9.cell (p := ⟨g, 2 * i + 1, none⟩) hAll.lt).trans (hAll.at1 i t h)⟩
      have HA2 := Lib.hid hAll2
      have BY := Lib.hid ((BZ.out.trans (b8.mono BZ.out.size)).trans (b9.mono (Nat.le_trans BZ.out.size b8.size)))
      unfold maxLen at hmx hmx2
      clear b8 b9 BZ hAll hAll2
      obtain ⟨N, hN⟩ : ∃ N, N = W9.heap.size := ⟨_, rfl⟩
      have HN := Lib.hid hN
      clear hN
      have lg : g < N := by rw [HN.out]; exact HA1.out.lt
      have lg2 : g2 < N := by rw [HN.out]; exact HA2.out.lt
      go_wp2
      go_loopw [11] (fun i wr => ∃ j : Nat, j ≤ 12 ∧ i = .int .i64 j ∧ Hid (Kp N W9 wr)) (fun i _ => 12 - (intOf i).toNat)
      case atStart => exact ⟨0, by omega, rfl, Kp.start HN.out⟩
      case round =>
        obtain ⟨j, hj, rfl, HK⟩ := hrel
        by_cases hlt : j < 12
        · have hd1 : decide ((j : Int) < 12) = true := decide_eq_true (by omega)
          have hj0 : (0 : Int) ≤ (j : Int) := by omega
          have hj1 : (j : Int) < 12 := by omega
          obtain ⟨a0, a1⟩ := HA1.out.cell j hlt
          obtain ⟨a2, a3⟩ := HA2.out.cell j hlt
          by_cases hz : j = 0
          · have dz : decide (0 < j) = false := decide_eq_false (by omega)
            clear hz
            generalize tK j = K at *
            generalize tO j = O at *
            go_wp2_with fail
            refine wp_region_noPanic ?_
            refine wp_region_held_drew (S := (fun W => (∀ b o, b < N → W.cell? ⟨b, o, none⟩ = W9.cell? ⟨b, o, none⟩) ∧ Hid (Below N W9 W) ∧ Hid (N ≤ W.heap.size))) (by kernel_rfl) ?_ (fun hH => ?_)
            · exact HK.out.drew
            refine wpAnyH_take (i := 0) (oi := { dst := some 84, op := Op.move (Operand.tmp 10), type := 36, pos := "law.go:64", after := #[], guard := none }) (v := ?_) rfl (by kernel_rfl) (by kernel_rfl) (by kernel_rfl) (fun _ _ _ h => h) (Or.inl ⟨by rfl, ?_⟩) (by assumption) ?_
            rotate_left
            · (intro w hSw; (try dsimp only at hSw); go_simp; try with_reducible rfl)
            try simp only [Act.put, List.setIfInBounds_toArray, List.set_cons_zero, List.set_cons_succ]
            refine wpAnyH_take (i := 1) (oi := { dst := some 85, op := Op.move (Operand.tmp 11), type := 3, pos := "law.go:64", after := #[], guard := none }) (v := ?_) rfl (by kernel_rfl) (by kernel_rfl) (by kernel_rfl) (fun _ _ _ h => h) (Or.inl ⟨by rfl, ?_⟩) (by assumption) ?_
            rotate_left
            · (intro w hSw; (try dsimp only at hSw); go_simp; try with_reducible rfl)
            try simp only [Act.put, List.setIfInBounds_toArray, List.set_cons_zero, List.set_cons_succ]
            refine wpAnyH_take (i := 2) (oi := { dst := some 86, op := Op.indexAddr 36 (Operand.tmp 84) (Operand.tmp 85), type := 0, pos := "law.go:64", after := #[{ on := 0, ground := Ground.data }, { on := 1, ground := Ground.data }], guard := none }) (v := ?_) rfl (by kernel_rfl) (by kernel_rfl) (by kernel_rfl) (fun _ _ _ h => h) (Or.inl ⟨by rfl, ?_⟩) (by assumption) ?_
            rotate_left
            · (intro w hSw; (try dsimp only at hSw); go_simp; try with_reducible rfl)
            try simp only [Act.put, List.setIfInBounds_toArray, List.set_cons_zero, List.set_cons_succ]
            refine wpAnyH_take (i := 3) (oi := { dst := some 87, op := Op.load 23 (Operand.tmp 86), type := 23, pos := "law.go:64", after := #[{ on := 2, ground := Ground.data }], guard := none }) (v := ?_) rfl (by kernel_rfl) (by kernel_rfl) (by kernel_rfl) (fun _ _ _ h => h) (Or.inl ⟨by rfl, ?_⟩) (by assumption) ?_
            rotate_left
            · (intro w hSw; (try dsimp only at hSw); go_simp; try with_reducible rfl)
            try simp only [Act.put, List.setIfInBounds_toArray, List.set_cons_zero, List.set_cons_succ]
            refine wpAnyH_take (i := 4) (oi := { dst := some 88, op := Op.move (Operand.tmp 9), type := 36, pos := "law.go:64", after := #[], guard := none }) (v := ?_) rfl (by kernel_rfl) (by kernel_rfl) (by kernel_rfl) (fun _ _ _ h => h) (Or.inl ⟨by rfl, ?_⟩) (by assumption) ?_
            rotate_left
            · (intro w hSw; (try dsimp only at hSw); go_simp; try with_reducible rfl)
            try simp only [Act.put, List.setIfInBounds_toArray, List.set_cons_zero, List.set_cons_succ]
            refine wpAnyH_take (i := 5) (oi := { dst := some 89, op := Op.move (Operand.tmp 11), type := 3, pos := "law.go:64", after := #[], guard := none }) (v := ?_) rfl (by kernel_rfl) (by kernel_rfl) (by kernel_rfl) (fun _ _ _ h => h) (Or.inl ⟨by rfl, ?_⟩) (by assumption) ?_
            rotate_left
            · (intro w hSw; (try dsimp only at hSw); go_simp; try with_reducible rfl)
            try simp only [Act.put, List.setIfInBounds_toArray, List.set_cons_zero, List.set_cons_succ]
            refine wpAnyH_take (i := 6) (oi := { dst := some 90, op := Op.indexAddr 36 (Operand.tmp 88) (Operand.tmp 89), type := 0, pos := "law.go:64", after := #[{ on := 4, ground := Ground.data }, { on := 5, ground := Ground.data }], guard := none }) (v := ?_) rfl (by kernel_rfl) (by kernel_rfl) (by kernel_rfl) (fun _ _ _ h => h) (Or.inl ⟨by rfl, ?_⟩) (by assumption) ?_
            rotate_left
            · (intro w hSw; (try dsimp only at hSw); go_simp; try with_reducible rfl)
            try simp only [Act.put, List.setIfInBounds_toArray, List.set_cons_zero, List.set_cons_succ]
            refine wpAnyH_take (i := 7) (oi := { dst := some 91, op := Op.load 23 (Operand.tmp 90), type := 23, pos := "law.go:64", after := #[{ on := 6, ground := Ground.data }], guard := none }) (v := ?_) rfl (by kernel_rfl) (by kernel_rfl) (by kernel_rfl) (fun _ _ _ h => h) (Or.inl ⟨by rfl, ?_⟩) (by assumption) ?_
            rotate_left
            · (intro w hSw; (try dsimp only at hSw); go_simp; try with_reducible rfl)
            try simp only [Act.put, List.setIfInBounds_toArray, List.set_cons_zero, List.set_cons_succ]
            refine wpAnyH_take (i := 8) (oi := { dst := some 92, op := Op.binOp BinOp.neq 23 (Operand.tmp 87) (Operand.tmp 91) 23, type := 4, pos := "law.go:64", after := #[{ on := 3, ground := Ground.data }, { on := 7, ground := Ground.data }], guard := none }) (v := ?_) rfl (by kernel_rfl) (by kernel_rfl) (by kernel_rfl) (fun _ _ _ h => h) (Or.inl ⟨by rfl, ?_⟩) (by assumption) ?_
            rotate_left
            · (intro w hSw; (try dsimp only at hSw); go_simp; try with_reducible rfl)
            try simp only [Act.put, List.setIfInBounds_toArray, List.set_cons_zero, List.set_cons_succ]
            refine wpAnyH_take (i := 9) (oi := { dst := some 93, op := Op.move (Operand.tmp 92), type := 4, pos := "law.go:64", after := #[{ on := 8, ground := Ground.data }], guard := none }) (v := ?_) rfl (by kernel_rfl) (by kernel_rfl) (by kernel_rfl) (fun _ _ _ h => h) (Or.inl ⟨by rfl, ?_⟩) (by assumption) ?_
            rotate_left
            · (intro w hSw; (try dsimp only at hSw); go_simp; try with_reducible rfl)
            try simp only [Act.put, List.setIfInBounds_toArray, List.set_cons_zero, List.set_cons_succ]
            refine wpAnyH_take (i := 10) (oi := { dst := some 94, op := Op.move (Operand.tmp 11), type := 3, pos := "law.go:64", after := #[{ on := 9, ground := Ground.guard }], guard := some (9, false) }) (v := ?_) rfl (by kernel_rfl) (by kernel_rfl) (by kernel_rfl) (fun _ _ _ h => h) (Or.inl ⟨by rfl, ?_⟩) (by assumption) ?_
            rotate_left
            · (intro w hSw; (try dsimp only at hSw); go_simp; try with_reducible rfl)
            try simp only [Act.put, List.setIfInBounds_toArray, List.set_cons_zero, List.set_cons_succ]
            refine wpAnyH_take (i := 11) (oi := { dst := some 95, op := Op.binOp BinOp.gtr 3 (Operand.tmp 94) (Operand.const (Value.int IntKind.i64 0)) 3, type := 4, pos := "law.go:64", after := #[{ on := 10, ground := Ground.data }, { on := 9, ground := Ground.guard }], guard := some (9, false) }) (v := ?_) rfl (by kernel_rfl) (by kernel_rfl) (by kernel_rfl) (fun _ _ _ h => h) (Or.inl ⟨by rfl, ?_⟩) (by assumption) ?_
            rotate_left
            · (intro w hSw; (try dsimp only at hSw); go_simp; try with_reducible rfl)
            try simp only [Act.put, List.setIfInBounds_toArray, List.set_cons_zero, List.set_cons_succ]
            refine wpAnyH_take (i := 12) (oi := { dst := some 96, op := Op.move (Operand.tmp 95), type := 4, pos := "law.go:64", after := #[{ on := 11, ground := Ground.data }, { on := 9, ground := Ground.chain }, { on := 9, ground := Ground.guard }], guard := some (9, false) }) (v := ?_) rfl (by kernel_rfl) (by kernel_rfl) (by kernel_rfl) (fun _ _ _ h => h) (Or.inl ⟨by rfl, ?_⟩) (by assumption) ?_
            rotate_left
            · (intro w hSw; (try dsimp only at hSw); go_simp; try with_reducible rfl)
            try simp only [Act.put, List.setIfInBounds_toArray, List.set_cons_zero, List.set_cons_succ]
            refine wpAnyH_take (i := 13) (oi := { dst := some 97, op := Op.move (Operand.tmp 10), type := 36, pos := "law.go:64", after := #[{ on := 12, ground := Ground.guard }], guard := some (12, true) }) (v := undef) rfl (by kernel_rfl) (by kernel_rfl) (by kernel_rfl) (fun _ _ _ h => h) (Or.inr ⟨by rfl, rfl⟩) (by assumption) ?_
            try simp only [Act.put, List.setIfInBounds_toArray, List.set_cons_zero, List.set_cons_succ]
            refine wpAnyH_take (i := 14) (oi := { dst := some 98, op := Op.move (Operand.tmp 11), type := 3, pos := "law.go:64", after := #[{ on := 12, ground := Ground.guard }], guard := some (12, true) }) (v := undef) rfl (by kernel_rfl) (by kernel_rfl) (by kernel_rfl) (fun _ _ _ h => h) (Or.inr ⟨by rfl, rfl⟩) (by assumption) ?_
            try simp only [Act.put, List.setIfInBounds_toArray, List.set_cons_zero, List.set_cons_succ]
            refine wpAnyH_take (i := 15) (oi := { dst := some 99, op := Op.binOp BinOp.sub 3 (Operand.tmp 98) (Operand.const (Value.int IntKind.i64 1)) 3, type := 3, pos := "law.go:64", after := #[{ on := 14, ground := Ground.data }, { on := 12, ground := Ground.guard }], guard := some (12, true) }) (v := undef) rfl (by kernel_rfl) (by kernel_rfl) (by kernel_rfl) (fun _ _ _ h => h) (Or.inr ⟨by rfl, rfl⟩) (by assumption) ?_
            try simp only [Act.put, List.setIfInBounds_toArray, List.set_cons_zero, List.set_cons_succ]
            refine wpAnyH_take (i := 16) (oi := { dst := some 100, op := Op.indexAddr 36 (Operand.tmp 97) (Operand.tmp 99), type := 0, pos := "law.go:64", after := #[{ on := 13, ground := Ground.data }, { on := 15, ground := Ground.data }, { on := 12, ground := Ground.guard }], guard := some (12, true) }) (v := undef) rfl (by kernel_rfl) (by kernel_rfl) (by kernel_rfl) (fun _ _ _ h => h) (Or.inr ⟨by rfl, rfl⟩) (by assumption) ?_
            try simp only [Act.put, List.setIfInBounds_toArray, List.set_cons_zero, List.set_cons_succ]
            refine wpAnyH_take (i := 17) (oi := { dst := some 101, op := Op.load 23 (Operand.tmp 100), type := 23, pos := "law.go:64", after := #[{ on := 16, ground := Ground.data }, { on := 12, ground := Ground.guard }], guard := some (12, true) }) (v := undef) rfl (by kernel_rfl) (by kernel_rfl) (by kernel_rfl) (fun _ _ _ h => h) (Or.inr ⟨by rfl, rfl⟩) (by assumption) ?_
            try simp only [Act.put, List.setIfInBounds_toArray, List.set_cons_zero, List.set_cons_succ]
            refine wpAnyH_take (i := 18) (oi := { dst := some 102, op := Op.call { callee := Callee.value (Operand.func 16), args := #[Operand.tmp 101], argTypes := #[23] }, type := 5, pos := "law.go:64", after := #[{ on := 17, ground := Ground.data }, { on := 12, ground := Ground.chain }, { on := 12, ground := Ground.guard }], guard := some (12, true) }) (v := undef) rfl (by kernel_rfl) (by kernel_rfl) (by kernel_rfl) (fun _ _ _ h => h) (Or.inr ⟨by rfl, rfl⟩) (by assumption) ?_
            try simp only [Act.put, List.setIfInBounds_toArray, List.set_cons_zero, List.set_cons_succ]
            refine wpAnyH_take (i := 19) (oi := { dst := some 103, op := Op.move (Operand.tmp 10), type := 36, pos := "law.go:64", after := #[{ on := 12, ground := Ground.guard }], guard := some (12, true) }) (v := undef) rfl (by kernel_rfl) (by kernel_rfl) (by kernel_rfl) (fun _ _ _ h => h) (Or.inr ⟨by rfl, rfl⟩) (by assumption) ?_
            try simp only [Act.put, List.setIfInBounds_toArray, List.set_cons_zero, List.set_cons_succ]
            refine wpAnyH_take (i := 20) (oi := { dst := some 104, op := Op.move (Operand.tmp 11), type := 3, pos := "law.go:64", after := #[{ on := 12, ground := Ground.guard }], guard := some (12, true) }) (v := undef) rfl (by kernel_rfl) (by kernel_rfl) (by kernel_rfl) (fun _ _ _ h => h) (Or.inr ⟨by rfl, rfl⟩) (by assumption) ?_
            try simp only [Act.put, List.setIfInBounds_toArray, List.set_cons_zero, List.set_cons_succ]
            refine wpAnyH_take (i := 21) (oi := { dst := some 105, op := Op.indexAddr 36 (Operand.tmp 103) (Operand.tmp 104), type := 0, pos := "law.go:64", after := #[{ on := 19, ground := Ground.data }, { on := 20, ground := Ground.data }, { on := 12, ground := Ground.guard }], guard := some (12, true) }) (v := undef) rfl (by kernel_rfl) (by kernel_rfl) (by kernel_rfl) (fun _ _ _ h => h) (Or.inr ⟨by rfl, rfl⟩) (by assumption) ?_
            try simp only [Act.put, List.setIfInBounds_toArray, List.set_cons_zero, List.set_cons_succ]
            refine wpAnyH_take (i := 22) (oi := { dst := some 106, op := Op.load 23 (Operand.tmp 105), type := 23, pos := "law.go:64", after := #[{ on := 21, ground := Ground.data }, { on := 12, ground := Ground.guard }], guard := some (12, true) }) (v := undef) rfl (by kernel_rfl) (by kernel_rfl) (by kernel_rfl) (fun _ _ _ h => h) (Or.inr ⟨by rfl, rfl⟩) (by assumption) ?_
            try simp only [Act.put, List.setIfInBounds_toArray, List.set_cons_zero, List.set_cons_succ]
            refine wpAnyH_take (i := 23) (oi := { dst := some 107, op := Op.call { callee := Callee.value (Operand.func 16), args := #[Operand.tmp 106], argTypes := #[23] }, type := 5, pos := "law.go:64", after := #[{ on := 22, ground := Ground.data }, { on := 18, ground := Ground.chain }, { on := 12, ground := Ground.guard }], guard := some (12, true) }) (v := undef) rfl (by kernel_rfl) (by kernel_rfl) (by kernel_rfl) (fun _ _ _ h => h) (Or.inr ⟨by rfl, rfl⟩) (by assumption) ?_
            try simp only [Act.put, List.setIfInBounds_toArray, List.set_cons_zero, List.set_cons_succ]
            refine wpAnyH_take (i := 24) (oi := { dst := some 108, op := Op.binOp BinOp.geq 5 (Operand.tmp 102) (Operand.tmp 107) 5, type := 4, pos := "law.go:64", after := #[{ on := 18, ground := Ground.data }, { on := 23, ground := Ground.data }, { on := 12, ground := Ground.guard }], guard := some (12, true) }) (v := undef) rfl (by kernel_rfl) (by kernel_rfl) (by kernel_rfl) (fun _ _ _ h => h) (Or.inr ⟨by rfl, rfl⟩) (by assumption) ?_
            try simp only [Act.put, List.setIfInBounds_toArray, List.set_cons_zero, List.set_cons_succ]
            refine wpAnyH_take (i := 25) (oi := { dst := some 109, op := Op.pick (Operand.tmp 96) (Operand.tmp 108) (Operand.const (Value.bool false)), type := 4, pos := "law.go:64", after := #[{ on := 12, ground := Ground.data }, { on := 24, ground := Ground.data }, { on := 9, ground := Ground.guard }], guard := some (9, false) }) (v := ?_) rfl (by kernel_rfl) (by kernel_rfl) (by kernel_rfl) (fun _ _ _ h => h) (Or.inl ⟨by rfl, ?_⟩) (by assumption) ?_
            rotate_left
            · (intro w hSw; (try dsimp only at hSw); go_simp; try with_reducible rfl)
            try simp only [Act.put, List.setIfInBounds_toArray, List.set_cons_zero, List.set_cons_succ]
            refine wpAnyH_take (i := 26) (oi := { dst := some 110, op := Op.pick (Operand.tmp 93) (Operand.const (Value.bool true)) (Operand.tmp 109), type := 4, pos := "law.go:64", after := #[{ on := 9, ground := Ground.data }, { on := 25, ground := Ground.data }], guard := none }) (v := ?_) rfl (by kernel_rfl) (by kernel_rfl) (by kernel_rfl) (fun _ _ _ h => h) (Or.inl ⟨by rfl, ?_⟩) (by assumption) ?_
            rotate_left
            · (intro w hSw; (try dsimp only at hSw); go_simp; try with_reducible rfl)
            try simp only [Act.put, List.setIfInBounds_toArray, List.set_cons_zero, List.set_cons_succ]
            refine wpAnyH_done (by kernel_rfl) ?_ _
            refine NoPanic.normal ?_
            have HK2 : Hid (Kp N W9 _) := hH
            clear hH HK
            go_wp2
            go_roundw
            case rel => exact ⟨j + 1, by omega, by go_num, HK2.out⟩
            case measure => simp [intOf]; omega
          · have dz : decide (0 < j) = true := decide_eq_true (by omega)
            have h1j : (1 : Int) ≤ (j : Int) := by omega
            have n1' : ((j : Int) - 1).toNat = j - 1 := by omega
            have i1h : Hid (IntKind.i64.wrap ((j : Int) - 1) = (j : Int) - 1) := IntWalk.i64_in _ (by omega)
            have p0 : (0 : Int) ≤ (j : Int) - 1 := by omega
            have p1 : (j : Int) - 1 < 12 := by omega
            have hcod := code_rises j hlt (by omega)
            obtain ⟨a4, a5⟩ := HA2.out.cell (j - 1) (by omega)
            have C1 := fun w => code_any (tK (j - 1)) (tO (j - 1)) w
            have C2 := fun w => code_any (tK j) (tO j) w
            generalize code (tK (j - 1), tO (j - 1)) = d1 at *
            generalize code (tK j, tO j) = d2 at *
            generalize tK (j - 1) = Kp1 at *
            generalize tO (j - 1) = Op1 at *
            generalize tK j = K at *
            generalize tO j = O at *
            have dc : decide (d2 ≤ d1) = false := decide_eq_false (by omega)
            have HC := Lib.hid (And.intro C1 C2)
            clear C1 C2
            go_wp2_with fail
            have i1 := i1h.out
            refine wp_region_noPanic ?_
            refine wp_region_held_drew (S := (fun W => (∀ b o, b < N → W.cell? ⟨b, o, none⟩ = W9.cell? ⟨b, o, none⟩) ∧ Hid (Below N W9 W) ∧ Hid (N ≤ W.heap.size))) (by kernel_rfl) ?_ (fun hH => ?_)
            · exact HK.out.drew
            refine wpAnyH_take (i := 0) (oi := { dst := some 84, op := Op.move (Operand.tmp 10), type := 36, pos := "law.go:64", after := #[], guard := none }) (v := ?_) rfl (by kernel_rfl) (by kernel_rfl) (by kernel_rfl) (fun _ _ _ h => h) (Or.inl ⟨by rfl, ?_⟩) (by assumption) ?_
            rotate_left
            · (intro w hSw; (try dsimp only at hSw); go_simp; try with_reducible rfl)
            try simp only [Act.put, List.setIfInBounds_toArray, List.set_cons_zero, List.set_cons_succ]
            refine wpAnyH_take (i := 1) (oi := { dst := some 85, op := Op.move (Operand.tmp 11), type := 3, pos := "law.go:64", after := #[], guard := none }) (v := ?_) rfl (by kernel_rfl) (by kernel_rfl) (by kernel_rfl) (fun _ _ _ h => h) (Or.inl ⟨by rfl, ?_⟩) (by assumption) ?_
            rotate_left
            · (intro w hSw; (try dsimp only at hSw); go_simp; try with_reducible rfl)
            try simp only [Act.put, List.setIfInBounds_toArray, List.set_cons_zero, List.set_cons_succ]
            refine wpAnyH_take (i := 2) (oi := { dst := some 86, op := Op.indexAddr 36 (Operand.tmp 84) (Operand.tmp 85), type := 0, pos := "law.go:64", after := #[{ on := 0, ground := Ground.data }, { on := 1, ground := Ground.data }], guard := none }) (v := ?_) rfl (by kernel_rfl) (by kernel_rfl) (by kernel_rfl) (fun _ _ _ h => h) (Or.inl ⟨by rfl, ?_⟩) (by assumption) ?_
            rotate_left
            · (intro w hSw; (try dsimp only at hSw); go_simp; try with_reducible rfl)
            try simp only [Act.put, List.setIfInBounds_toArray, List.set_cons_zero, List.set_cons_succ]
            refine wpAnyH_take (i := 3) (oi := { dst := some 87, op := Op.load 23 (Operand.tmp 86), type := 23, pos := "law.go:64", after := #[{ on := 2, ground := Ground.data }], guard := none }) (v := ?_) rfl (by kernel_rfl) (by kernel_rfl) (by kernel_rfl) (fun _ _ _ h => h) (Or.inl ⟨by rfl, ?_⟩) (by assumption) ?_
            rotate_left
            · (intro w hSw; (try dsimp only at hSw); go_simp; try with_reducible rfl)
            try simp only [Act.put, List.setIfInBounds_toArray, List.set_cons_zero, List.set_cons_succ]
            refine wpAnyH_take (i := 4) (oi := { dst := some 88, op := Op.move (Operand.tmp 9), type := 36, pos := "law.go:64", after := #[], guard := none }) (v := ?_) rfl (by kernel_rfl) (by kernel_rfl) (by kernel_rfl) (fun _ _ _ h => h) (Or.inl ⟨by rfl, ?_⟩) (by assumption) ?_
            rotate_left
            · (intro w hSw; (try dsimp only at hSw); go_simp; try with_reducible rfl)
            try simp only [Act.put, List.setIfInBounds_toArray, List.set_cons_zero, List.set_cons_succ]
            refine wpAnyH_take (i := 5) (oi := { dst := some 89, op := Op.move (Operand.tmp 11), type := 3, pos := "law.go:64", after := #[], guard := none }) (v := ?_) rfl (by kernel_rfl) (by kernel_rfl) (by kernel_rfl) (fun _ _ _ h => h) (Or.inl ⟨by rfl, ?_⟩) (by assumption) ?_
            rotate_left
            · (intro w hSw; (try dsimp only at hSw); go_simp; try with_reducible rfl)
            try simp only [Act.put, List.setIfInBounds_toArray, List.set_cons_zero, List.set_cons_succ]
            refine wpAnyH_take (i := 6) (oi := { dst := some 90, op := Op.indexAddr 36 (Operand.tmp 88) (Operand.tmp 89), type := 0, pos := "law.go:64", after := #[{ on := 4, ground := Ground.data }, { on := 5, ground := Ground.data }], guard := none }) (v := ?_) rfl (by kernel_rfl) (by kernel_rfl) (by kernel_rfl) (fun _ _ _ h => h) (Or.inl ⟨by rfl, ?_⟩) (by assumption) ?_
            rotate_left
            · (intro w hSw; (try dsimp only at hSw); go_simp; try with_reducible rfl)
            try simp only [Act.put, List.setIfInBounds_toArray, List.set_cons_zero, List.set_cons_succ]
            refine wpAnyH_take (i := 7) (oi := { dst := some 91, op := Op.load 23 (Operand.tmp 90), type := 23, pos := "law.go:64", after := #[{ on := 6, ground := Ground.data }], guard := none }) (v := ?_) rfl (by kernel_rfl) (by kernel_rfl) (by kernel_rfl) (fun _ _ _ h => h) (Or.inl ⟨by rfl, ?_⟩) (by assumption) ?_
            rotate_left
            · (intro w hSw; (try dsimp only at hSw); go_simp; try with_reducible rfl)
            try simp only [Act.put, List.setIfInBounds_toArray, List.set_cons_zero, List.set_cons_succ]
            refine wpAnyH_take (i := 8) (oi := { dst := some 92, op := Op.binOp BinOp.neq 23 (Operand.tmp 87) (Operand.tmp 91) 23, type := 4, pos := "law.go:64", after := #[{ on := 3, ground := Ground.data }, { on := 7, ground := Ground.data }], guard := none }) (v := ?_) rfl (by kernel_rfl) (by kernel_rfl) (by kernel_rfl) (fun _ _ _ h => h) (Or.inl ⟨by rfl, ?_⟩) (by assumption) ?_
            rotate_left
            · (intro w hSw; (try dsimp only at hSw); go_simp; try with_reducible rfl)
            try simp only [Act.put, List.setIfInBounds_toArray, List.set_cons_zero, List.set_cons_succ]
            refine wpAnyH_take (i := 9) (oi := { dst := some 93, op := Op.move (Operand.tmp 92), type := 4, pos := "law.go:64", after := #[{ on := 8, ground := Ground.data }], guard := none }) (v := ?_) rfl (by kernel_rfl) (by kernel_rfl) (by kernel_rfl) (fun _ _ _ h => h) (Or.inl ⟨by rfl, ?_⟩) (by assumption) ?_
            rotate_left
            · (intro w hSw; (try dsimp only at hSw); go_simp; try with_reducible rfl)
            try simp only [Act.put, List.setIfInBounds_toArray, List.set_cons_zero, List.set_cons_succ]
            refine wpAnyH_take (i := 10) (oi := { dst := some 94, op := Op.move (Operand.tmp 11), type := 3, pos := "law.go:64", after := #[{ on := 9, ground := Ground.guard }], guard := some (9, false) }) (v := ?_) rfl (by kernel_rfl) (by kernel_rfl) (by kernel_rfl) (fun _ _ _ h => h) (Or.inl ⟨by rfl, ?_⟩) (by assumption) ?_
            rotate_left
            · (intro w hSw; (try dsimp only at hSw); go_simp; try with_reducible rfl)
            try simp only [Act.put, List.setIfInBounds_toArray, List.set_cons_zero, List.set_cons_succ]
            refine wpAnyH_take (i := 11) (oi := { dst := some 95, op := Op.binOp BinOp.gtr 3 (Operand.tmp 94) (Operand.const (Value.int IntKind.i64 0)) 3, type := 4, pos := "law.go:64", after := #[{ on := 10, ground := Ground.data }, { on := 9, ground := Ground.guard }], guard := some (9, false) }) (v := ?_) rfl (by kernel_rfl) (by kernel_rfl) (by kernel_rfl) (fun _ _ _ h => h) (Or.inl ⟨by rfl, ?_⟩) (by assumption) ?_
            rotate_left
            · (intro w hSw; (try dsimp only at hSw); go_simp; try with_reducible rfl)
            try simp only [Act.put, List.setIfInBounds_toArray, List.set_cons_zero, List.set_cons_succ]
            refine wpAnyH_take (i := 12) (oi := { dst := some 96, op := Op.move (Operand.tmp 95), type := 4, pos := "law.go:64", after := #[{ on := 11, ground := Ground.data }, { on := 9, ground := Ground.chain }, { on := 9, ground := Ground.guard }], guard := some (9, false) }) (v := ?_) rfl (by kernel_rfl) (by kernel_rfl) (by kernel_rfl) (fun _ _ _ h => h) (Or.inl ⟨by rfl, ?_⟩) (by assumption) ?_
            rotate_left
            · (intro w hSw; (try dsimp only at hSw); go_simp; try with_reducible rfl)
            try simp only [Act.put, List.setIfInBounds_toArray, List.set_cons_zero, List.set_cons_succ]
            refine wpAnyH_take (i := 13) (oi := { dst := some 97, op := Op.move (Operand.tmp 10), type := 36, pos := "law.go:64", after := #[{ on := 12, ground := Ground.guard }], guard := some (12, true) }) (v := ?_) rfl (by kernel_rfl) (by kernel_rfl) (by kernel_rfl) (fun _ _ _ h => h) (Or.inl ⟨by rfl, ?_⟩) (by assumption) ?_
            rotate_left
            · (intro w hSw; (try dsimp only at hSw); go_simp; try with_reducible rfl)
            try simp only [Act.put, List.setIfInBounds_toArray, List.set_cons_zero, List.set_cons_succ]
            refine wpAnyH_take (i := 14) (oi := { dst := some 98, op := Op.move (Operand.tmp 11), type := 3, pos := "law.go:64", after := #[{ on := 12, ground := Ground.guard }], guard := some (12, true) }) (v := ?_) rfl (by kernel_rfl) (by kernel_rfl) (by kernel_rfl) (fun _ _ _ h => h) (Or.inl ⟨by rfl, ?_⟩) (by assumption) ?_
            rotate_left
            · (intro w hSw; (try dsimp only at hSw); go_simp; try with_reducible rfl)
            try simp only [Act.put, List.setIfInBounds_toArray, List.set_cons_zero, List.set_cons_succ]
            refine wpAnyH_take (i := 15) (oi := { dst := some 99, op := Op.binOp BinOp.sub 3 (Operand.tmp 98) (Operand.const (Value.int IntKind.i64 1)) 3, type := 3, pos := "law.go:64", after := #[{ on := 14, ground := Ground.data }, { on := 12, ground := Ground.guard }], guard := some (12, true) }) (v := ?_) rfl (by kernel_rfl) (by kernel_rfl) (by kernel_rfl) (fun _ _ _ h => h) (Or.inl ⟨by rfl, ?_⟩) (by assumption) ?_
            rotate_left
            · (intro w hSw; (try dsimp only at hSw); go_simp; try with_reducible rfl)
            try simp only [Act.put, List.setIfInBounds_toArray, List.set_cons_zero, List.set_cons_succ]
            refine wpAnyH_take (i := 16) (oi := { dst := some 100, op := Op.indexAddr 36 (Operand.tmp 97) (Operand.tmp 99), type := 0, pos := "law.go:64", after := #[{ on := 13, ground := Ground.data }, { on := 15, ground := Ground.data }, { on := 12, ground := Ground.guard }], guard := some (12, true) }) (v := ?_) rfl (by kernel_rfl) (by kernel_rfl) (by kernel_rfl) (fun _ _ _ h => h) (Or.inl ⟨by rfl, ?_⟩) (by assumption) ?_
            rotate_left
            · (intro w hSw; (try dsimp only at hSw); go_simp; try with_reducible rfl)
            try simp only [Act.put, List.setIfInBounds_toArray, List.set_cons_zero, List.set_cons_succ]
            refine wpAnyH_take (i := 17) (oi := { dst := some 101, op := Op.load 23 (Operand.tmp 100), type := 23, pos := "law.go:64", after := #[{ on := 16, ground := Ground.data }, { on := 12, ground := Ground.guard }], guard := some (12, true) }) (v := ?_) rfl (by kernel_rfl) (by kernel_rfl) (by kernel_rfl) (fun _ _ _ h => h) (Or.inl ⟨by rfl, ?_⟩) (by assumption) ?_
            rotate_left
            · (intro w hSw; (try dsimp only at hSw); go_simp; try with_reducible rfl)
            try simp only [Act.put, List.setIfInBounds_toArray, List.set_cons_zero, List.set_cons_succ]
            refine wpAnyH_take (i := 19) (oi := { dst := some 103, op := Op.move (Operand.tmp 10), type := 36, pos := "law.go:64", after := #[{ on := 12, ground := Ground.guard }], guard := some (12, true) }) (v := ?_) rfl (by kernel_rfl) (by kernel_rfl) (by kernel_rfl) (fun _ _ _ h => h) (Or.inl ⟨by rfl, ?_⟩) (by assumption) ?_
            rotate_left
            · (intro w hSw; (try dsimp only at hSw); go_simp; try with_reducible rfl)
            try simp only [Act.put, List.setIfInBounds_toArray, List.set_cons_zero, List.set_cons_succ]
            refine wpAnyH_take (i := 20) (oi := { dst := some 104, op := Op.move (Operand.tmp 11), type := 3, pos := "law.go:64", after := #[{ on := 12, ground := Ground.guard }], guard := some (12, true) }) (v := ?_) rfl (by kernel_rfl) (by kernel_rfl) (by kernel_rfl) (fun _ _ _ h => h) (Or.inl ⟨by rfl, ?_⟩) (by assumption) ?_
            rotate_left
            · (intro w hSw; (try dsimp only at hSw); go_simp; try with_reducible rfl)
            try simp only [Act.put, List.setIfInBounds_toArray, List.set_cons_zero, List.set_cons_succ]
            refine wpAnyH_take (i := 21) (oi := { dst := some 105, op := Op.indexAddr 36 (Operand.tmp 103) (Operand.tmp 104), type := 0, pos := "law.go:64", after := #[{ on := 19, ground := Ground.data }, { on := 20, ground := Ground.data }, { on := 12, ground := Ground.guard }], guard := some (12, true) }) (v := ?_) rfl (by kernel_rfl) (by kernel_rfl) (by kernel_rfl) (fun _ _ _ h => h) (Or.inl ⟨by rfl, ?_⟩) (by assumption) ?_
            rotate_left
            · (intro w hSw; (try dsimp only at hSw); go_simp; try with_reducible rfl)
            try simp only [Act.put, List.setIfInBounds_toArray, List.set_cons_zero, List.set_cons_succ]
            refine wpAnyH_take (i := 22) (oi := { dst := some 106, op := Op.load 23 (Operand.tmp 105), type := 23, pos := "law.go:64", after := #[{ on := 21, ground := Ground.data }, { on := 12, ground := Ground.guard }], guard := some (12, true) }) (v := ?_) rfl (by kernel_rfl) (by kernel_rfl) (by kernel_rfl) (fun _ _ _ h => h) (Or.inl ⟨by rfl, ?_⟩) (by assumption) ?_
            rotate_left
            · (intro w hSw; (try dsimp only at hSw); go_simp; try with_reducible rfl)
            try simp only [Act.put, List.setIfInBounds_toArray, List.set_cons_zero, List.set_cons_succ]
            refine wpAnyH_ready (rs := [18]) (by kernel_rfl) (by simp) ?_
            refine AllReadyH.cons (o := { dst := some 102, op := Op.call { callee := Callee.value (Operand.func 16), args := #[Operand.tmp 101], argTypes := #[23] }, type := 5, pos := "law.go:64", after := #[{ on := 17, ground := Ground.data }, { on := 12, ground := Ground.chain }, { on := 12, ground := Ground.guard }], guard := some (12, true) }) rfl (fun K hK => ?_) AllReadyH.nil
            go_simp
            refine (HC.out.1 _).mono ?_
            rintro e W_0 ⟨rfl, b⟩
            refine hK.out _ _ ?_ (fun hH' => ?_)
            · exact held_next (by assumption) hH
            clear hK K hH
            have hH := hH'
            clear hH'
            try simp only [Act.put, List.setIfInBounds_toArray, List.set_cons_zero, List.set_cons_succ]
            refine wpAnyH_ready (rs := [23]) (by kernel_rfl) (by simp) ?_
            refine AllReadyH.cons (o := { dst := some 107, op := Op.call { callee := Callee.value (Operand.func 16), args := #[Operand.tmp 106], argTypes := #[23] }, type := 5, pos := "law.go:64", after := #[{ on := 22, ground := Ground.data }, { on := 18, ground := Ground.chain }, { on := 12, ground := Ground.guard }], guard := some (12, true) }) rfl (fun K hK => ?_) AllReadyH.nil
            go_simp
            refine (HC.out.2 _).mono ?_
            rintro e W_1 ⟨rfl, b⟩
            refine hK.out _ _ ?_ (fun hH' => ?_)
            · exact held_next (by assumption) hH
            clear hK K hH
            have hH := hH'
            clear hH'
            try simp only [Act.put, List.setIfInBounds_toArray, List.set_cons_zero, List.set_cons_succ]
            refine wpAnyH_take (i := 24) (oi := { dst := some 108, op := Op.binOp BinOp.geq 5 (Operand.tmp 102) (Operand.tmp 107) 5, type := 4, pos := "law.go:64", after := #[{ on := 18, ground := Ground.data }, { on := 23, ground := Ground.data }, { on := 12, ground := Ground.guard }], guard := some (12, true) }) (v := ?_) rfl (by kernel_rfl) (by kernel_rfl) (by kernel_rfl) (fun _ _ _ h => h) (Or.inl ⟨by rfl, ?_⟩) (by assumption) ?_
            rotate_left
            · (intro w hSw; (try dsimp only at hSw); go_simp; try with_reducible rfl)
            try simp only [Act.put, List.setIfInBounds_toArray, List.set_cons_zero, List.set_cons_succ]
            refine wpAnyH_take (i := 25) (oi := { dst := some 109, op := Op.pick (Operand.tmp 96) (Operand.tmp 108) (Operand.const (Value.bool false)), type := 4, pos := "law.go:64", after := #[{ on := 12, ground := Ground.data }, { on := 24, ground := Ground.data }, { on := 9, ground := Ground.guard }], guard := some (9, false) }) (v := ?_) rfl (by kernel_rfl) (by kernel_rfl) (by kernel_rfl) (fun _ _ _ h => h) (Or.inl ⟨by rfl, ?_⟩) (by assumption) ?_
            rotate_left
            · (intro w hSw; (try dsimp only at hSw); go_simp; try with_reducible rfl)
            try simp only [Act.put, List.setIfInBounds_toArray, List.set_cons_zero, List.set_cons_succ]
            refine wpAnyH_take (i := 26) (oi := { dst := some 110, op := Op.pick (Operand.tmp 93) (Operand.const (Value.bool true)) (Operand.tmp 109), type := 4, pos := "law.go:64", after := #[{ on := 9, ground := Ground.data }, { on := 25, ground := Ground.data }], guard := none }) (v := ?_) rfl (by kernel_rfl) (by kernel_rfl) (by kernel_rfl) (fun _ _ _ h => h) (Or.inl ⟨by rfl, ?_⟩) (by assumption) ?_
            rotate_left
            · (intro w hSw; (try dsimp only at hSw); go_simp; try with_reducible rfl)
            try simp only [Act.put, List.setIfInBounds_toArray, List.set_cons_zero, List.set_cons_succ]
            refine wpAnyH_done (by kernel_rfl) ?_ _
            refine NoPanic.normal ?_
            have HK2 : Hid (Kp N W9 _) := hH
            clear hH HK i1 n1'
            go_wp2
            go_roundw
            case rel => exact ⟨j + 1, by omega, by go_num, HK2.out⟩
            case measure => simp [intOf]; omega
        · have hj12 : j = 12 := by omega
          subst hj12
          go_wp2_with fail
          refine (awake_true _).mono ?_
          rintro e Wa ⟨rfl, ba⟩
          have BF := Lib.hid ((BY.out.trans (HK.out.2.1.out.mono (by rw [HN.out]; exact BY.out.size))))
          go_wp2
          go_ret
          exact ⟨rfl, BF.out.trans (ba.mono BF.out.size)⟩
end Go.Proofs.Yticbogldplohpaa

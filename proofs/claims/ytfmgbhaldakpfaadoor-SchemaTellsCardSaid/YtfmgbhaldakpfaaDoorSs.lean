/- Complete's parts: missing. -/
import Derived.Test.YtfmgbhaldakpfaaDoorSq
namespace Go.Proofs.YtfmgbhaldakpfaaDoor
open Go.RowKit

set_option maxHeartbeats 4000000 in
set_option maxRecDepth 100000 in
theorem missing_ok {n : Nat} {V : Val} {v : Value} {w : World} {l : List Atr} {o : Option Addr} {cap : Nat} (hno : ∀ j, j < l.length → lacksB (aa l j) (elt V (aa l j).nm) = false) (hs : sz V ≤ 50000) (hkl : V.k = 5 → V.ks.length = V.l.length) (h : Lies n w V v) (hR : AtRow (fun b => b < n) w o cap l) (hn : n ≤ w.heap.size) :
    Calls Tryd.prog 52 #[.slice o l.length cap, v] w fun e w' => e = .returned (.tuple #[.string ⟨#[]⟩, .int .i64 0]) ∧ Below w.heap.size w w' := by
  obtain ⟨oL, oK, cL, cK, c, rfl, O⟩ := h.inv
  have b0 : Below w.heap.size w (w.alloc (bx V oL oK cL cK)) := bal (Below.refl _ _) _
  have HB := Lib.hid b0
  have HO := Lib.hid (O.kept (b0.mono hn)).lies
  have HX := Lib.hid (Hd.made w V (.slice oL V.l.length cL) (.slice oK V.ks.length cK))
  have HR := Lib.hid (hR.below (b0.mono hn))
  have l1 := hR.1
  have l2 := hR.2.1
  unfold maxLen at l2
  have HS : Hid ((w.alloc (bx V oL oK cL cK)).heap.size = w.heap.size + 1) := by simp [Hid]
  have HH := Lib.hid hno
  have CE : Hid (∀ (a : Atr) (W : World), Below w.heap.size (w.alloc (bx V oL oK cL cK)) W → Calls Tryd.prog 69 #[vv V.k V.i V.s (.slice oL V.l.length cL) (.slice oK V.ks.length cK) V.tk V.to V.x, av a] W (VPost (elt V a.nm) W)) := fun a W hW => element_any a (by omega) hkl (HO.out.kept (hW.mono hn)) (by have := hW.size; simp at this; omega)
  have CL : Hid (∀ (a : Atr) (Y : Val) (W1 W : World) (o1 o3 : Option Addr) (c1 c3 : Nat) (cc : Nat → Nat → Value), OpnP (Fr W1 W) W Y o1 o3 c1 c3 cc → Calls Tryd.prog 57 #[av a, vv Y.k Y.i Y.s (.slice o1 Y.l.length c1) (.slice o3 Y.ks.length c3) Y.tk Y.to Y.x] W fun e w' => e = .returned (.bool (lacksB a Y)) ∧ Below W.heap.size W w') :=
    fun a Y W1 W o1 o3 c1 c3 cc hOY => lacks_any a (hOY.mono (P' := fun b => b < W.heap.size) fun _ hk => hk.2).lies (Nat.le_refl _)
  clear h O b0 hR hs hkl
  go_enter Tryd.func52, Tryd.ntmps52
  go_upto_region 1 with (fail)
  generalize w.alloc _ = wa at *
  have hw1 : w.heap.size < wa.heap.size := by rw [HS.out]; exact Nat.lt_succ_self _
  go_wp2_with fail
  go_loopw [10] (fun i wr => ∃ j : Nat, j ≤ l.length ∧ i = .int .i64 j ∧ Hid (Below wa.heap.size wa wr)) (fun i _ => l.length - (intOf i).toNat)
  case atStart => exact ⟨0, Nat.zero_le _, rfl, Below.refl _ _⟩
  case round =>
    obtain ⟨j, hj, rfl, HRel⟩ := hrel
    have hz1 := HRel.out.size
    by_cases hlt : j < l.length
    · obtain ⟨b1, off, rfl, hb1, E1⟩ := AtRow.el (RowP.below HR.out (HRel.out.mono (by rw [HS.out]; omega))) hlt
      have hlk := Lib.hid (HH.out j hlt)
      obtain ⟨a, ha⟩ : ∃ a, aa l j = a := ⟨_, rfl⟩
      rw [ha] at E1 hlk
      have HAj := Lib.hid ha
      obtain ⟨y0, y1, y2, y3, y4, y5, y6⟩ := E1
      have BW := Lib.hid (bal (Below.refl wr.heap.size wr) (.cells (ac a) 31))
      have BA := Lib.hid (HRel.out.trans (BW.out.mono hz1))
      have HA := Lib.hid (rc7 (heap_alloc_new wr (.cells (ac a) 31)))
      have HZ3 : Hid ((wr.alloc (.cells (ac a) 31)).heap.size = wr.heap.size + 1) := by simp [Hid]
      clear ha
      go_upto_region 4 with (fail)
      clear y0 y1 y2 y3 y4 y5 y6
      generalize World.alloc wr _ = w0 at *
      obtain ⟨x8, x0, x1, x2, x3, x4, x5, x6, x7⟩ := HX.out.kept BA.out hw1
      obtain ⟨a0, a1, a2, a3, a4, a5, a6, a7⟩ := HA.out
      obtain ⟨N, hN⟩ : ∃ N, N = w0.heap.size := ⟨_, rfl⟩
      have S0 := held_at hN
      have lA : w.heap.size < N := by rw [hN, HZ3.out]; omega
      have lB : wr.heap.size < N := by rw [hN, HZ3.out]; omega
      have HN := Lib.hid hN
      have CE2 : Hid (∀ W, Below N w0 W → Calls Tryd.prog 69 #[vv V.k V.i V.s (.slice oL V.l.length cL) (.slice oK V.ks.length cK) V.tk V.to V.x, av a] W (VPost (elt V a.nm) W)) := fun W hW => CE.out a W ((BA.out.mono (by omega)).trans (hW.mono (by omega)))
      obtain ⟨lk, hlk2⟩ : ∃ b, lacksB a (elt V a.nm) = b := ⟨_, rfl⟩
      have HLK := Lib.hid hlk2
      generalize elt V a.nm = Y at *
      have CL2 := Lib.hid (CL.out a Y)
      rw [hlk2] at CL2
      clear hN hlk2
      cases lk with
      | true => exact absurd (HLK.out.symm.trans hlk.out) (by decide)
      | false =>
        refine wp_region_noPanic ?_
        refine wp_region_held_drew (S := (fun W => (∀ b o, b < N → W.cell? ⟨b, o, none⟩ = w0.cell? ⟨b, o, none⟩) ∧ Hid (Below N w0 W) ∧ Hid (N ≤ W.heap.size))) (by kernel_rfl) ?_ (fun hH => ?_)
        · exact S0
        refine wpAnyH_take (i := 0) (oi := { dst := some 14, op := Op.load 31 (Operand.tmp 7), type := 31, pos := "complete.go:49", after := #[], guard := none }) (v := ?_) rfl (by kernel_rfl) (by kernel_rfl) (by kernel_rfl) (fun _ _ _ h => h) (Or.inl ⟨by rfl, ?_⟩) (by assumption) ?_
        rotate_left
        · (intro w hSw; (try dsimp only at hSw); go_simp; try with_reducible rfl)
        try simp only [Act.put, List.setIfInBounds_toArray, List.set_cons_zero, List.set_cons_succ]
        refine wpAnyH_take (i := 1) (oi := { dst := some 15, op := Op.load 42 (Operand.tmp 3), type := 42, pos := "complete.go:49", after := #[], guard := none }) (v := ?_) rfl (by kernel_rfl) (by kernel_rfl) (by kernel_rfl) (fun _ _ _ h => h) (Or.inl ⟨by rfl, ?_⟩) (by assumption) ?_
        rotate_left
        · (intro w hSw; (try dsimp only at hSw); go_simp; try with_reducible rfl)
        try simp only [Act.put, List.setIfInBounds_toArray, List.set_cons_zero, List.set_cons_succ]
        refine wpAnyH_take (i := 2) (oi := { dst := some 16, op := Op.load 31 (Operand.tmp 7), type := 31, pos := "complete.go:49", after := #[], guard := none }) (v := ?_) rfl (by kernel_rfl) (by kernel_rfl) (by kernel_rfl) (fun _ _ _ h => h) (Or.inl ⟨by rfl, ?_⟩) (by assumption) ?_
        rotate_left
        · (intro w hSw; (try dsimp only at hSw); go_simp; try with_reducible rfl)
        try simp only [Act.put, List.setIfInBounds_toArray, List.set_cons_zero, List.set_cons_succ]
        refine wpAnyH_ready (rs := [3]) (by kernel_rfl) (by simp) ?_
        refine AllReadyH.cons (o := { dst := some 17, op := Op.call { callee := Callee.value (Operand.func 69), args := #[Operand.tmp 15, Operand.tmp 16], argTypes := #[42, 31] }, type := 42, pos := "complete.go:49", after := #[{ on := 1, ground := Ground.data }, { on := 2, ground := Ground.data }], guard := none }) rfl (fun K hK => ?_) AllReadyH.nil
        go_simp
        refine (CE2.out _ hH.2.1.out).mono ?_
        rintro e W_0 ⟨o1, o3, c1, c3, cc, rfl, OY, b⟩
        refine hK.out _ _ ?_ (fun hH' => ?_)
        · exact held_next (by assumption) hH
        clear hK K hH
        have hH := hH'
        clear hH'
        try simp only [Act.put, List.setIfInBounds_toArray, List.set_cons_zero, List.set_cons_succ]
        refine wpAnyH_ready (rs := [4]) (by kernel_rfl) (by simp) ?_
        refine AllReadyH.cons (o := { dst := some 18, op := Op.call { callee := Callee.value (Operand.func 57), args := #[Operand.tmp 14, Operand.tmp 17], argTypes := #[31, 42] }, type := 4, pos := "complete.go:49", after := #[{ on := 0, ground := Ground.data }, { on := 3, ground := Ground.data }, { on := 3, ground := Ground.chain }], guard := none }) rfl (fun K hK => ?_) AllReadyH.nil
        go_simp
        refine (CL2.out _ _ _ _ _ _ _ OY).mono ?_
        rintro e W_1 ⟨rfl, b⟩
        refine hK.out _ _ ?_ (fun hH' => ?_)
        · exact held_next (by assumption) hH
        clear hK K hH
        have hH := hH'
        clear hH'
        try simp only [Act.put, List.setIfInBounds_toArray, List.set_cons_zero, List.set_cons_succ]
        refine wpAnyH_done (by kernel_rfl) ?_ _
        refine NoPanic.normal ?_
        have BZ := Lib.hid (HRel.out.trans ((BW.out.trans (hH.2.1.out.mono (by rw [HN.out, HZ3.out]; omega))).mono hz1))
        clear S0 hH
        go_wp2_with fail
        go_roundw
        case rel => exact ⟨j + 1, by omega, by go_num, BZ.out⟩
        case measure => simp [intOf]; omega
    · have BZ := Lib.hid (HB.out.trans (HRel.out.mono HB.out.size))
      go_wp2_with fail
      go_ret2
      exact ⟨rfl, BZ.out⟩
set_option maxHeartbeats 4000000 in
set_option maxRecDepth 100000 in
theorem missing_no {n : Nat} {V : Val} {v : Value} {w : World} {l : List Atr} {o : Option Addr} {cap : Nat} (j0 : Nat) (hj0l : j0 < l.length) (hno : ∀ j, j < l.length → j < j0 → lacksB (aa l j) (elt V (aa l j).nm) = false) (hyes : lacksB (aa l j0) (elt V (aa l j0).nm) = true) (hs : sz V ≤ 50000) (hkl : V.k = 5 → V.ks.length = V.l.length) (h : Lies n w V v) (hR : AtRow (fun b => b < n) w o cap l) (hn : n ≤ w.heap.size) :
    Calls Tryd.prog 52 #[.slice o l.length cap, v] w fun e w' => e = .returned (.tuple #[.string (aa l j0).nm, .int .i64 15]) ∧ Below w.heap.size w w' := by
  obtain ⟨oL, oK, cL, cK, c, rfl, O⟩ := h.inv
  have b0 : Below w.heap.size w (w.alloc (bx V oL oK cL cK)) := bal (Below.refl _ _) _
  have HB := Lib.hid b0
  have HO := Lib.hid (O.kept (b0.mono hn)).lies
  have HX := Lib.hid (Hd.made w V (.slice oL V.l.length cL) (.slice oK V.ks.length cK))
  have HR := Lib.hid (hR.below (b0.mono hn))
  have l1 := hR.1
  have l2 := hR.2.1
  unfold maxLen at l2
  have HS : Hid ((w.alloc (bx V oL oK cL cK)).heap.size = w.heap.size + 1) := by simp [Hid]
  have HH := Lib.hid hno
  have HY := Lib.hid hyes
  clear hno hyes
  have CE : Hid (∀ (a : Atr) (W : World), Below w.heap.size (w.alloc (bx V oL oK cL cK)) W → Calls Tryd.prog 69 #[vv V.k V.i V.s (.slice oL V.l.length cL) (.slice oK V.ks.length cK) V.tk V.to V.x, av a] W (VPost (elt V a.nm) W)) := fun a W hW => element_any a (by omega) hkl (HO.out.kept (hW.mono hn)) (by have := hW.size; simp at this; omega)
  have CL : Hid (∀ (a : Atr) (Y : Val) (W1 W : World) (o1 o3 : Option Addr) (c1 c3 : Nat) (cc : Nat → Nat → Value), OpnP (Fr W1 W) W Y o1 o3 c1 c3 cc → Calls Tryd.prog 57 #[av a, vv Y.k Y.i Y.s (.slice o1 Y.l.length c1) (.slice o3 Y.ks.length c3) Y.tk Y.to Y.x] W fun e w' => e = .returned (.bool (lacksB a Y)) ∧ Below W.heap.size W w') :=
    fun a Y W1 W o1 o3 c1 c3 cc hOY => lacks_any a (hOY.mono (P' := fun b => b < W.heap.size) fun _ hk => hk.2).lies (Nat.le_refl _)
  clear h O b0 hR hs hkl
  go_enter Tryd.func52, Tryd.ntmps52
  go_upto_region 1 with (fail)
  generalize w.alloc _ = wa at *
  have hw1 : w.heap.size < wa.heap.size := by rw [HS.out]; exact Nat.lt_succ_self _
  go_wp2_with fail
  go_loopw [10] (fun i wr => ∃ j : Nat, j ≤ l.length ∧ i = .int .i64 j ∧ Hid (Below wa.heap.size wa wr) ∧ j ≤ j0) (fun i _ => l.length - (intOf i).toNat)
  case atStart => exact ⟨0, Nat.zero_le _, rfl, Below.refl _ _, Nat.zero_le _⟩
  case round =>
    obtain ⟨j, hj, rfl, HRel, hj0⟩ := hrel
    have hz1 := HRel.out.size
    by_cases hlt : j < l.length
    · obtain ⟨b1, off, rfl, hb1, E1⟩ := AtRow.el (RowP.below HR.out (HRel.out.mono (by rw [HS.out]; omega))) hlt
      have hlk : Hid (lacksB (aa l j) (elt V (aa l j).nm) = decide (j = j0)) := by
        unfold Hid
        by_cases e : j = j0
        · rw [decide_eq_true e, e]; exact HY.out
        · rw [decide_eq_false e]; exact HH.out j hlt (by omega)
      obtain ⟨a, ha⟩ : ∃ a, aa l j = a := ⟨_, rfl⟩
      rw [ha] at E1 hlk
      have HAj := Lib.hid ha
      obtain ⟨y0, y1, y2, y3, y4, y5, y6⟩ := E1
      have BW := Lib.hid (bal (Below.refl wr.heap.size wr) (.cells (ac a) 31))
      have BA := Lib.hid (HRel.out.trans (BW.out.mono hz1))
      have HA := Lib.hid (rc7 (heap_alloc_new wr (.cells (ac a) 31)))
      have HZ3 : Hid ((wr.alloc (.cells (ac a) 31)).heap.size = wr.heap.size + 1) := by simp [Hid]
      clear ha
      go_upto_region 4 with (fail)
      clear y0 y1 y2 y3 y4 y5 y6
      generalize World.alloc wr _ = w0 at *
      obtain ⟨x8, x0, x1, x2, x3, x4, x5, x6, x7⟩ := HX.out.kept BA.out hw1
      obtain ⟨a0, a1, a2, a3, a4, a5, a6, a7⟩ := HA.out
      obtain ⟨N, hN⟩ : ∃ N, N = w0.heap.size := ⟨_, rfl⟩
      have S0 := held_at hN
      have lA : w.heap.size < N := by rw [hN, HZ3.out]; omega
      have lB : wr.heap.size < N := by rw [hN, HZ3.out]; omega
      have HN := Lib.hid hN
      have CE2 : Hid (∀ W, Below N w0 W → Calls Tryd.prog 69 #[vv V.k V.i V.s (.slice oL V.l.length cL) (.slice oK V.ks.length cK) V.tk V.to V.x, av a] W (VPost (elt V a.nm) W)) := fun W hW => CE.out a W ((BA.out.mono (by omega)).trans (hW.mono (by omega)))
      obtain ⟨lk, hlk2⟩ : ∃ b, lacksB a (elt V a.nm) = b := ⟨_, rfl⟩
      have HLK := Lib.hid hlk2
      generalize elt V a.nm = Y at *
      have CL2 := Lib.hid (CL.out a Y)
      rw [hlk2] at CL2
      clear hN hlk2
      cases lk with
      | true =>
        have hje : j = j0 := of_decide_eq_true (hlk.out.symm.trans HLK.out)
        subst hje
        refine wp_region_noPanic ?_
        refine wp_region_held_drew (S := (fun W => (∀ b o, b < N → W.cell? ⟨b, o, none⟩ = w0.cell? ⟨b, o, none⟩) ∧ Hid (Below N w0 W) ∧ Hid (N ≤ W.heap.size))) (by kernel_rfl) ?_ (fun hH => ?_)
        · exact S0
        refine wpAnyH_take (i := 0) (oi := { dst := some 14, op := Op.load 31 (Operand.tmp 7), type := 31, pos := "complete.go:49", after := #[], guard := none }) (v := ?_) rfl (by kernel_rfl) (by kernel_rfl) (by kernel_rfl) (fun _ _ _ h => h) (Or.inl ⟨by rfl, ?_⟩) (by assumption) ?_
        rotate_left
        · (intro w hSw; (try dsimp only at hSw); go_simp; try with_reducible rfl)
        try simp only [Act.put, List.setIfInBounds_toArray, List.set_cons_zero, List.set_cons_succ]
        refine wpAnyH_take (i := 1) (oi := { dst := some 15, op := Op.load 42 (Operand.tmp 3), type := 42, pos := "complete.go:49", after := #[], guard := none }) (v := ?_) rfl (by kernel_rfl) (by kernel_rfl) (by kernel_rfl) (fun _ _ _ h => h) (Or.inl ⟨by rfl, ?_⟩) (by assumption) ?_
        rotate_left
        · (intro w hSw; (try dsimp only at hSw); go_simp; try with_reducible rfl)
        try simp only [Act.put, List.setIfInBounds_toArray, List.set_cons_zero, List.set_cons_succ]
        refine wpAnyH_take (i := 2) (oi := { dst := some 16, op := Op.load 31 (Operand.tmp 7), type := 31, pos := "complete.go:49", after := #[], guard := none }) (v := ?_) rfl (by kernel_rfl) (by kernel_rfl) (by kernel_rfl) (fun _ _ _ h => h) (Or.inl ⟨by rfl, ?_⟩) (by assumption) ?_
        rotate_left
        · (intro w hSw; (try dsimp only at hSw); go_simp; try with_reducible rfl)
        try simp only [Act.put, List.setIfInBounds_toArray, List.set_cons_zero, List.set_cons_succ]
        refine wpAnyH_ready (rs := [3]) (by kernel_rfl) (by simp) ?_
        refine AllReadyH.cons (o := { dst := some 17, op := Op.call { callee := Callee.value (Operand.func 69), args := #[Operand.tmp 15, Operand.tmp 16], argTypes := #[42, 31] }, type := 42, pos := "complete.go:49", after := #[{ on := 1, ground := Ground.data }, { on := 2, ground := Ground.data }], guard := none }) rfl (fun K hK => ?_) AllReadyH.nil
        go_simp
        refine (CE2.out _ hH.2.1.out).mono ?_
        rintro e W_0 ⟨o1, o3, c1, c3, cc, rfl, OY, b⟩
        refine hK.out _ _ ?_ (fun hH' => ?_)
        · exact held_next (by assumption) hH
        clear hK K hH
        have hH := hH'
        clear hH'
        try simp only [Act.put, List.setIfInBounds_toArray, List.set_cons_zero, List.set_cons_succ]
        refine wpAnyH_ready (rs := [4]) (by kernel_rfl) (by simp) ?_
        refine AllReadyH.cons (o := { dst := some 18, op := Op.call { callee := Callee.value (Operand.func 57), args := #[Operand.tmp 14, Operand.tmp 17], argTypes := #[31, 42] }, type := 4, pos := "complete.go:49", after := #[{ on := 0, ground := Ground.data }, { on := 3, ground := Ground.data }, { on := 3, ground := Ground.chain }], guard := none }) rfl (fun K hK => ?_) AllReadyH.nil
        go_simp
        refine (CL2.out _ _ _ _ _ _ _ OY).mono ?_
        rintro e W_1 ⟨rfl, b⟩
        refine hK.out _ _ ?_ (fun hH' => ?_)
        · exact held_next (by assumption) hH
        clear hK K hH
        have hH := hH'
        clear hH'
        try simp only [Act.put, List.setIfInBounds_toArray, List.set_cons_zero, List.set_cons_succ]
        refine wpAnyH_done (by kernel_rfl) ?_ _
        refine NoPanic.normal ?_
        have BZ := Lib.hid (HB.out.trans ((HRel.out.trans ((BW.out.trans (hH.2.1.out.mono (by rw [HN.out, HZ3.out]; omega))).mono hz1)).mono HB.out.size))
        have z0 := (hH.1 wr.heap.size 0 lB).trans a0
        clear S0 hH
        go_wp2_with fail
        go_ret2
        exact ⟨by rw [HAj.out]; rfl, BZ.out⟩
      | false =>
        have hje : j ≠ j0 := of_decide_eq_false (hlk.out.symm.trans HLK.out)
        refine wp_region_noPanic ?_
        refine wp_region_held_drew (S := (fun W => (∀ b o, b < N → W.cell? ⟨b, o, none⟩ = w0.cell? ⟨b, o, none⟩) ∧ Hid (Below N w0 W) ∧ Hid (N ≤ W.heap.size))) (by kernel_rfl) ?_ (fun hH => ?_)
        · exact S0
        refine wpAnyH_take (i := 0) (oi := { dst := some 14, op := Op.load 31 (Operand.tmp 7), type := 31, pos := "complete.go:49", after := #[], guard := none }) (v := ?_) rfl (by kernel_rfl) (by kernel_rfl) (by kernel_rfl) (fun _ _ _ h => h) (Or.inl ⟨by rfl, ?_⟩) (by assumption) ?_
        rotate_left
        · (intro w hSw; (try dsimp only at hSw); go_simp; try with_reducible rfl)
        try simp only [Act.put, List.setIfInBounds_toArray, List.set_cons_zero, List.set_cons_succ]
        refine wpAnyH_take (i := 1) (oi := { dst := some 15, op := Op.load 42 (Operand.tmp 3), type := 42, pos := "complete.go:49", after := #[], guard := none }) (v := ?_) rfl (by kernel_rfl) (by kernel_rfl) (by kernel_rfl) (fun _ _ _ h => h) (Or.inl ⟨by rfl, ?_⟩) (by assumption) ?_
        rotate_left
        · (intro w hSw; (try dsimp only at hSw); go_simp; try with_reducible rfl)
        try simp only [Act.put, List.setIfInBounds_toArray, List.set_cons_zero, List.set_cons_succ]
        refine wpAnyH_take (i := 2) (oi := { dst := some 16, op := Op.load 31 (Operand.tmp 7), type := 31, pos := "complete.go:49", after := #[], guard := none }) (v := ?_) rfl (by kernel_rfl) (by kernel_rfl) (by kernel_rfl) (fun _ _ _ h => h) (Or.inl ⟨by rfl, ?_⟩) (by assumption) ?_
        rotate_left
        · (intro w hSw; (try dsimp only at hSw); go_simp; try with_reducible rfl)
        try simp only [Act.put, List.setIfInBounds_toArray, List.set_cons_zero, List.set_cons_succ]
        refine wpAnyH_ready (rs := [3]) (by kernel_rfl) (by simp) ?_
        refine AllReadyH.cons (o := { dst := some 17, op := Op.call { callee := Callee.value (Operand.func 69), args := #[Operand.tmp 15, Operand.tmp 16], argTypes := #[42, 31] }, type := 42, pos := "complete.go:49", after := #[{ on := 1, ground := Ground.data }, { on := 2, ground := Ground.data }], guard := none }) rfl (fun K hK => ?_) AllReadyH.nil
        go_simp
        refine (CE2.out _ hH.2.1.out).mono ?_
        rintro e W_0 ⟨o1, o3, c1, c3, cc, rfl, OY, b⟩
        refine hK.out _ _ ?_ (fun hH' => ?_)
        · exact held_next (by assumption) hH
        clear hK K hH
        have hH := hH'
        clear hH'
        try simp only [Act.put, List.setIfInBounds_toArray, List.set_cons_zero, List.set_cons_succ]
        refine wpAnyH_ready (rs := [4]) (by kernel_rfl) (by simp) ?_
        refine AllReadyH.cons (o := { dst := some 18, op := Op.call { callee := Callee.value (Operand.func 57), args := #[Operand.tmp 14, Operand.tmp 17], argTypes := #[31, 42] }, type := 4, pos := "complete.go:49", after := #[{ on := 0, ground := Ground.data }, { on := 3, ground := Ground.data }, { on := 3, ground := Ground.chain }], guard := none }) rfl (fun K hK => ?_) AllReadyH.nil
        go_simp
        refine (CL2.out _ _ _ _ _ _ _ OY).mono ?_
        rintro e W_1 ⟨rfl, b⟩
        refine hK.out _ _ ?_ (fun hH' => ?_)
        · exact held_next (by assumption) hH
        clear hK K hH
        have hH := hH'
        clear hH'
        try simp only [Act.put, List.setIfInBounds_toArray, List.set_cons_zero, List.set_cons_succ]
        refine wpAnyH_done (by kernel_rfl) ?_ _
        refine NoPanic.normal ?_
        have BZ := Lib.hid (HRel.out.trans ((BW.out.trans (hH.2.1.out.mono (by rw [HN.out, HZ3.out]; omega))).mono hz1))
        clear S0 hH
        go_wp2_with fail
        go_roundw
        case rel => exact ⟨j + 1, by omega, by go_num, BZ.out, by omega⟩
        case measure => simp [intOf]; omega
    · omega
end Go.Proofs.YtfmgbhaldakpfaaDoor

/- Complete's parts: wrongKey. -/
import Derived.Test.YtfmgbhaldakpfaaDoorSl
import Derived.Deep.Cut
import Derived.Deep.RegionHeld3
namespace Go.Proofs.YtfmgbhaldakpfaaDoor
open Go.RowKit

theorem held_next {N : Nat} {W0 W1 W2 : World} (b : Below W1.heap.size W1 W2) (h : (∀ b o, b < N → W1.cell? ⟨b, o, none⟩ = W0.cell? ⟨b, o, none⟩) ∧ Hid (Below N W0 W1) ∧ Hid (N ≤ W1.heap.size)) :
    (∀ b o, b < N → W2.cell? ⟨b, o, none⟩ = W0.cell? ⟨b, o, none⟩) ∧ Hid (Below N W0 W2) ∧ Hid (N ≤ W2.heap.size) := by
  have hB : Below N W0 W2 := h.2.1.out.trans (b.mono h.2.2.out)
  exact ⟨fun b o hb => hB.cell (p := ⟨b, o, none⟩) hb, hB, Nat.le_trans h.2.2.out b.size⟩
theorem held_at {N : Nat} {W0 : World} (h : N = W0.heap.size) : (∀ b o, b < N → W0.drew.cell? ⟨b, o, none⟩ = W0.cell? ⟨b, o, none⟩) ∧ Hid (Below N W0 W0.drew) ∧ Hid (N ≤ W0.drew.heap.size) :=
  ⟨fun _ _ _ => rfl, (Below.refl _ _).drew, Nat.le_of_eq h⟩
/-- every key is an attribute's, that may be given, and its element fits -/
def KeysFit (t : ByteArray) (V : Val) : Prop := ∀ j X, j < V.ks.length → V.l[j]? = some X → ∃ a, find t (kk V.ks j) = some a ∧ a.cm = false ∧ fits X a.tk a.to = true
set_option maxHeartbeats 4000000 in
set_option maxRecDepth 100000 in
theorem wrongKey_ok {n : Nat} {V : Val} {v : Value} {w : World} (t : ByteArray) (hs : sz V ≤ 50000) (hkl : V.ks.length = V.l.length) (hk : KeysFit t V) (ht : t.size ≤ maxLen) (h : Lies n w V v) (hn : n ≤ w.heap.size) (hT : Tab w) :
    Calls Tryd.prog 51 #[.string t, v] w fun e w' => e = .returned (.tuple #[.string ⟨#[]⟩, .int .i64 0]) ∧ Below w.heap.size w w' := by
  obtain ⟨oL, oK, cL, cK, c, rfl, O⟩ := h.inv
  have b0 : Below w.heap.size w (w.alloc (bx V oL oK cL cK)) := bal (Below.refl _ _) _
  have HB := Lib.hid b0
  have HP := Lib.hid (byPlace_any (w.alloc (bx V oL oK cL cK)) (hT.below b0 hT.lt))
  have HO := Lib.hid (O.kept (b0.mono hn))
  have HX := Lib.hid (Hd.made w V (.slice oL V.l.length cL) (.slice oK V.ks.length cK))
  have HK := Lib.hid hk
  have HKL := Lib.hid hkl
  have l1 := O.K.1
  have l2 := O.K.2.1
  unfold maxLen at l2
  have HWK := Lib.hid O.wks
  have HKEY := Lib.hid (fun (s : ByteArray) (h2 : s.size ≤ maxLen) => pk_key t s ht h2)
  have HS : Hid ((w.alloc (bx V oL oK cL cK)).heap.size = w.heap.size + 1) := by simp [Hid]
  clear hT h O b0 hk hkl ht
  go_enter Tryd.func51, Tryd.ntmps51
  go_upto_region 1 with (fail)
  generalize w.alloc _ = wa at *
  have hw1 : w.heap.size < wa.heap.size := by rw [HS.out]; exact Nat.lt_succ_self _
  obtain ⟨x8, x0, x1, x2, x3, x4, x5, x6, x7⟩ := HX.out
  go_wp2_with fail
  refine HP.out.mono ?_
  rintro e w1 ⟨b, f, rfl, hm, hF, hB⟩
  have HM := Lib.hid (And.intro hm hF)
  have HB1 := Lib.hid hB
  clear hm hF hB x8 x0 x1 x2 x3 x4 x5 x6 x7
  obtain ⟨x8, x0, x1, x2, x3, x4, x5, x6, x7⟩ := HX.out.kept HB1.out hw1
  go_wp2_with fail
  clear x8 x0 x1 x2 x3 x4 x5 x6 x7
  go_loopw [15] (fun i wr => ∃ j : Nat, j ≤ V.ks.length ∧ i = .int .i64 j ∧ Hid (Below w1.heap.size w1 wr)) (fun i _ => V.ks.length - (intOf i).toNat)
  case atStart => exact ⟨0, Nat.zero_le _, rfl, Below.refl _ _⟩
  case round =>
    obtain ⟨j, hj, rfl, HR⟩ := hrel
    have hz1 := HB1.out.size
    have hz2 := HR.out.size
    have BR := Lib.hid (HB1.out.trans (HR.out.mono hz1))
    by_cases hlt : j < V.ks.length
    · have hjl : j < V.l.length := by rw [← HKL.out]; exact hlt
      obtain ⟨X, hX⟩ : ∃ X, V.l[j]? = some X := ⟨_, List.getElem?_eq_getElem hjl⟩
      obtain ⟨a, ha, hcm, hft⟩ := HK.out j X hlt hX
      obtain ⟨nm, tk, t2, nd, cm, an, ow⟩ := a
      obtain rfl : cm = false := hcm
      have hks := HWK.out _ (kk_mem hlt)
      obtain ⟨bK, oK', rfl, hbK, k0⟩ := (HO.out.K.below (BR.out.mono (by rw [HS.out]; omega))).key hlt
      have hbK2 : bK < wr.heap.size := by have := BR.out.size; rw [HS.out] at this; omega
      obtain ⟨bL, oL', oL3, oK3, cL3, cK3, c3, rfl, hbL, ⟨y0, y1, y2, y3, y4, y5, y6, y7⟩, OX⟩ := (HO.out.L.below (BR.out.mono (by rw [HS.out]; omega))).elv hjl ((HO.out.el j X hX).kept (BR.out.mono (by rw [HS.out]; omega)))
      obtain ⟨kl, hkl⟩ := HKEY.out (kk V.ks j) hks
      have look := (HM.out.1.keep HR.out).look law66 Tryd.underlying63 zero31 hkl
      rw [HM.out.2 t, findR_all, ha] at look
      simp only [Option.map_some, Option.getD_some, Option.isSome_some] at look
      obtain ⟨x8, x0, x1, x2, x3, x4, x5, x6, x7⟩ := HX.out.kept BR.out hw1
      obtain ⟨key, hkey⟩ : ∃ key, kk V.ks j = key := ⟨_, rfl⟩
      rw [hkey] at k0 look
      have hm1 := sz_mem (List.mem_of_getElem? hX)
      have hbL2 : bL < wr.heap.size := by have := BR.out.size; rw [HS.out] at this; omega
      have hw2 : w.heap.size < wr.heap.size := Nat.lt_of_lt_of_le hw1 BR.out.size
      have hjl' : (j : Int) < (V.l.length : Int) := by omega
      have l3 := HO.out.L.1
      have l4 := HO.out.L.2.1
      unfold maxLen at l4
      have HF := Lib.hid (And.intro hX hft)
      have OX2 := Lib.hid OX
      have HA := Lib.hid (rc7 (heap_alloc_new wr (.cells (ac ⟨nm, tk, t2, nd, false, an, ow⟩) 31)))
      have BA := Lib.hid (BR.out.trans ((bal (Below.refl wr.heap.size wr) (.cells (ac ⟨nm, tk, t2, nd, false, an, ow⟩) 31)).mono BR.out.size))
      have hz3 : (wr.alloc (.cells (ac ⟨nm, tk, t2, nd, false, an, ow⟩) 31)).heap.size = wr.heap.size + 1 := by simp
      have HZ3 := Lib.hid hz3
      have BW := Lib.hid (bal (Below.refl wr.heap.size wr) (.cells (ac ⟨nm, tk, t2, nd, false, an, ow⟩) 31))
      clear hX hft ha hkl hkey hks OX hm1 hz3
      have hm1 := sz_mem (List.mem_of_getElem? HF.out.1)
      go_upto_region 8 with (fail)
      clear look k0 x8 x0 x1 x2 x3 x4 x5 x6 x7 y0 y1 y2 y3 y4 y5 y6 y7
      generalize World.alloc wr _ = w0 at *
      obtain ⟨x8, x0, x1, x2, x3, x4, x5, x6, x7⟩ := HX.out.kept BA.out hw1
      obtain ⟨-, a1, a2, -, -, -, -, a7⟩ := HA.out
      have hbe := (HO.out.L.below (BA.out.mono (by rw [HS.out]; omega))).elv hjl ((HO.out.el j X HF.out.1).kept (BA.out.mono (by rw [HS.out]; omega)))
      obtain ⟨bL2, oL2', oL4, oK4, cL4, cK4, c4, e4, hbL4, ⟨y0, y1, y2, y3, y4, y5, y6, y7⟩, OX4⟩ := hbe
      injection e4 with e4
      injection e4 with e5 e6
      subst e5 e6
      have OX3 := Lib.hid OX4
      clear OX4
      obtain ⟨N, hN⟩ : ∃ N, N = w0.heap.size := ⟨_, rfl⟩
      have S0 := held_at hN
      have lA : w.heap.size < N := by rw [hN, HZ3.out]; omega
      have lB : wr.heap.size < N := by rw [hN, HZ3.out]; omega
      have lC : bL < N := by rw [hN, HZ3.out]; omega
      have lN := Lib.hid (show n ≤ N by rw [hN, HZ3.out]; omega)
      have HN := Lib.hid hN
      have CF : Hid (∀ W, Below N w0 W → N ≤ W.heap.size → Calls Tryd.prog 56 #[vv X.k X.i X.s (.slice oL4 X.l.length cL4) (.slice oK4 X.ks.length cK4) X.tk X.to X.x, Typ.ty tk t2] W fun e w' => e = .returned (.bool true) ∧ Below W.heap.size W w') := fun W hW hs2 => by
        have hc := fits_all 60000 n X _ W tk t2 (by omega) ((OX3.out.kept (hW.mono lN.out)).lies) (Nat.le_trans lN.out hs2)
        rw [HF.out.2] at hc
        exact hc
      clear hN
      refine wp_region_noPanic ?_
      refine wp_region_held_drew (S := (fun W => (∀ b o, b < N → W.cell? ⟨b, o, none⟩ = w0.cell? ⟨b, o, none⟩) ∧ Hid (Below N w0 W) ∧ Hid (N ≤ W.heap.size))) (by kernel_rfl) ?_ (fun hH => ?_)
      · exact S0
      refine wpAnyH_take (i := 0) (oi := { dst := some 35, op := Op.fieldAddr 42 (Operand.tmp 3) 3, type := 0, pos := "complete.go:39", after := #[], guard := none }) (v := ?_) rfl (by kernel_rfl) (by kernel_rfl) (by kernel_rfl) (fun _ _ _ h => h) (Or.inl ⟨by rfl, ?_⟩) (by assumption) ?_
      rotate_left
      · (intro w hSw; (try dsimp only at hSw); go_simp; try with_reducible rfl)
      try simp only [Act.put, List.setIfInBounds_toArray, List.set_cons_zero, List.set_cons_succ]
      refine wpAnyH_take (i := 1) (oi := { dst := some 36, op := Op.load 40 (Operand.tmp 35), type := 40, pos := "complete.go:39", after := #[{ on := 0, ground := Ground.data }], guard := none }) (v := ?_) rfl (by kernel_rfl) (by kernel_rfl) (by kernel_rfl) (fun _ _ _ h => h) (Or.inl ⟨by rfl, ?_⟩) (by assumption) ?_
      rotate_left
      · (intro w hSw; (try dsimp only at hSw); go_simp; try with_reducible rfl)
      try simp only [Act.put, List.setIfInBounds_toArray, List.set_cons_zero, List.set_cons_succ]
      refine wpAnyH_take (i := 2) (oi := { dst := some 37, op := Op.move (Operand.tmp 7), type := 3, pos := "complete.go:39", after := #[], guard := none }) (v := ?_) rfl (by kernel_rfl) (by kernel_rfl) (by kernel_rfl) (fun _ _ _ h => h) (Or.inl ⟨by rfl, ?_⟩) (by assumption) ?_
      rotate_left
      · (intro w hSw; (try dsimp only at hSw); go_simp; try with_reducible rfl)
      try simp only [Act.put, List.setIfInBounds_toArray, List.set_cons_zero, List.set_cons_succ]
      refine wpAnyH_take (i := 3) (oi := { dst := some 38, op := Op.indexAddr 40 (Operand.tmp 36) (Operand.tmp 37), type := 0, pos := "complete.go:39", after := #[{ on := 1, ground := Ground.data }, { on := 2, ground := Ground.data }], guard := none }) (v := ?_) rfl (by kernel_rfl) (by kernel_rfl) (by kernel_rfl) (fun _ _ _ h => h) (Or.inl ⟨by rfl, ?_⟩) (by assumption) ?_
      rotate_left
      · (intro w hSw; (try dsimp only at hSw); go_simp; try with_reducible rfl)
      try simp only [Act.put, List.setIfInBounds_toArray, List.set_cons_zero, List.set_cons_succ]
      refine wpAnyH_take (i := 4) (oi := { dst := some 39, op := Op.load 42 (Operand.tmp 38), type := 42, pos := "complete.go:39", after := #[{ on := 3, ground := Ground.data }], guard := none }) (v := ?_) rfl (by kernel_rfl) (by kernel_rfl) (by kernel_rfl) (fun _ _ _ h => h) (Or.inl ⟨by rfl, ?_⟩) (by assumption) ?_
      rotate_left
      · (intro w hSw; (try dsimp only at hSw); go_simp; try with_reducible rfl)
      try simp only [Act.put, List.setIfInBounds_toArray, List.set_cons_zero, List.set_cons_succ]
      refine wpAnyH_take (i := 5) (oi := { dst := some 40, op := Op.fieldAddr 31 (Operand.tmp 9) 1, type := 0, pos := "complete.go:39", after := #[], guard := none }) (v := ?_) rfl (by kernel_rfl) (by kernel_rfl) (by kernel_rfl) (fun _ _ _ h => h) (Or.inl ⟨by rfl, ?_⟩) (by assumption) ?_
      rotate_left
      · (intro w hSw; (try dsimp only at hSw); go_simp; try with_reducible rfl)
      try simp only [Act.put, List.setIfInBounds_toArray, List.set_cons_zero, List.set_cons_succ]
      refine wpAnyH_take (i := 6) (oi := { dst := some 41, op := Op.load 29 (Operand.tmp 40), type := 29, pos := "complete.go:39", after := #[{ on := 5, ground := Ground.data }], guard := none }) (v := ?_) rfl (by kernel_rfl) (by kernel_rfl) (by kernel_rfl) (fun _ _ _ h => h) (Or.inl ⟨by rfl, ?_⟩) (by assumption) ?_
      rotate_left
      · (intro w hSw; (try dsimp only at hSw); go_simp; try with_reducible rfl)
      try simp only [Act.put, List.setIfInBounds_toArray, List.set_cons_zero, List.set_cons_succ]
      refine wpAnyH_ready (rs := [7]) (by kernel_rfl) (by simp) ?_
      refine AllReadyH.cons (o := { dst := some 42, op := Op.call { callee := Callee.value (Operand.func 56), args := #[Operand.tmp 39, Operand.tmp 41], argTypes := #[42, 29] }, type := 4, pos := "complete.go:39", after := #[{ on := 4, ground := Ground.data }, { on := 6, ground := Ground.data }], guard := none }) rfl (fun K hK => ?_) AllReadyH.nil
      go_simp
      refine (CF.out _ hH.2.1.out hH.2.2.out).mono ?_
      rintro e W_0 ⟨rfl, b⟩
      refine hK.out _ _ ?_ (fun hH' => ?_)
      · exact held_next (by assumption) hH
      clear hK K hH
      have hH := hH'
      clear hH'
      try simp only [Act.put, List.setIfInBounds_toArray, List.set_cons_zero, List.set_cons_succ]
      refine wpAnyH_take (i := 8) (oi := { dst := some 43, op := Op.unOp UnOp.not 4 (Operand.tmp 42), type := 4, pos := "complete.go:39", after := #[{ on := 7, ground := Ground.data }], guard := none }) (v := ?_) rfl (by kernel_rfl) (by kernel_rfl) (by kernel_rfl) (fun _ _ _ h => h) (Or.inl ⟨by rfl, ?_⟩) (by assumption) ?_
      rotate_left
      · (intro w hSw; (try dsimp only at hSw); go_simp; try with_reducible rfl)
      try simp only [Act.put, List.setIfInBounds_toArray, List.set_cons_zero, List.set_cons_succ]
      refine wpAnyH_done (by kernel_rfl) ?_ _
      refine NoPanic.normal ?_
      have BZ := Lib.hid (HR.out.trans ((BW.out.trans (hH.2.1.out.mono (by rw [HN.out, HZ3.out]; omega))).mono hz2))
      clear S0 hH
      go_wp2_with fail
      go_roundw
      case rel => exact ⟨j + 1, by omega, by go_num, BZ.out⟩
      case measure => simp [intOf]; omega
    · have BZ := Lib.hid (HB.out.trans (BR.out.mono HB.out.size))
      go_wp2_with fail
      go_ret2
      exact ⟨rfl, BZ.out⟩
end Go.Proofs.YtfmgbhaldakpfaaDoor

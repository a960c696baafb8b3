/- Complete's parts: wrongKey. -/
import Derived.Test.YtfmgbhaldakpfaaDoorSk
import Derived.Deep.Cut
import Derived.Deep.RegionHeld3
import Derived.BigRegion
namespace Go.Proofs.YtfmgbhaldakpfaaDoor
open Go.RowKit

theorem held_next {N : Nat} {W0 W1 W2 : World} (b : Below W1.heap.size W1 W2) (h : (∀ b o, b < N → W1.cell? ⟨b, o, none⟩ = W0.cell? ⟨b, o, none⟩) ∧ Hid (Below N W0 W1) ∧ Hid (N ≤ W1.heap.size)) :
    (∀ b o, b < N → W2.cell? ⟨b, o, none⟩ = W0.cell? ⟨b, o, none⟩) ∧ Hid (Below N W0 W2) ∧ Hid (N ≤ W2.heap.size) := by
  have hB : Below N W0 W2 := h.2.1.out.trans (b.mono h.2.2.out)
  exact ⟨fun b o hb => hB.cell (p := ⟨b, o, none⟩) hb, hB, Nat.le_trans h.2.2.out b.size⟩
theorem held_at {N : Nat} {W0 : World} (h : N = W0.heap.size) : (∀ b o, b < N → W0.drew.cell? ⟨b, o, none⟩ = W0.cell? ⟨b, o, none⟩) ∧ Hid (Below N W0 W0.drew) ∧ Hid (N ≤ W0.drew.heap.size) :=
  ⟨fun _ _ _ => rfl, (Below.refl _ _).drew, Nat.le_of_eq h⟩
/-- every key is an attribute's, that may be given, and its element fits -/
def KeysFit (t : ByteArray) (V : Val) : Prop := ∀ j X, j < V.ks.length → V.l[j]? = some X → ∃ a, find t (kk V.ks j) = some a ∧ a.cm = false ∧ fits X a.tk a.to = true
set_option maxHeartbeats 4000000 in
set_option maxRecDepth 100000 in
theorem wrongKey_ok {n : Nat} {V : Val} {v : Value} {w : World} (t : ByteArray) (hs : sz V ≤ 50000) (hkl : V.ks.length = V.l.length) (hk : KeysFit t V) (ht : t.size ≤ maxLen) (h : Lies n w V v) (hn : n ≤ w.heap.size) (hT : Tab w) :
    Calls Tryd.prog 51 #[.string t, v] w fun e w' => e = .returned (.tuple #[.string ⟨#[]⟩, .int .i64 0]) ∧ Below w.heap.size w w' := by
  obtain ⟨oL, oK, cL, cK, c, rfl, O⟩ := h.inv
  have b0 : Below w.heap.size w (w.alloc (bx V oL oK cL cK)) := bal (Below.refl _ _) _
  have HB := Lib.hid b0
  have HP := Lib.hid (byPlace_any (w.alloc (bx V oL oK cL cK)) (hT.below b0 hT.lt))
  have HO := Lib.hid (O.kept (b0.mono hn))
  have HX := Lib.hid (Hd.made w V (.slice oL V.l.length cL) (.slice oK V.ks.length cK))
  have HK := Lib.hid hk
  have HKL := Lib.hid hkl
  have l1 := O.K.1
  have l2 := O.K.2.1
  unfold maxLen at l2
  have HWK := Lib.hid O.wks
  have HKEY := Lib.hid (fun (s : ByteArray) (h2 : s.size ≤ maxLen) => pk_key t s ht h2)
  have HS : Hid ((w.alloc (bx V oL oK cL cK)).heap.size = w.heap.size + 1) := by simp [Hid]
  clear hT h O b0 hk hkl ht
  go_enter Tryd.func51, Tryd.ntmps51
  go_upto_region 1 with (fail)
  generalize w.alloc _ = wa at *
  have hw1 : w.heap.size < wa.heap.size := by rw [HS.out]; exact Nat.lt_succ_self _
  obtain ⟨x8, x0, x1, x2, x3, x4, x5, x6, x7⟩ := HX.out
  go_wp2_with fail
  refine HP.out.mono ?_
  rintro e w1 ⟨b, f, rfl, hm, hF, hB⟩
  have HM := Lib.hid (And.intro hm hF)
  have HB1 := Lib.hid hB
  clear hm hF hB x8 x0 x1 x2 x3 x4 x5 x6 x7
  obtain ⟨x8, x0, x1, x2, x3, x4, x5, x6, x7⟩ := HX.out.kept HB1.out hw1
  go_wp2_with fail
  clear x8 x0 x1 x2 x3 x4 x5 x6 x7
  go_loopw [15] (fun i wr => ∃ j : Nat, j ≤ V.ks.length ∧ i = .int .i64 j ∧ Hid (Below w1.heap.size w1 wr)) (fun i _ => V.ks.length - (intOf i).toNat)
  case atStart => exact ⟨0, Nat.zero_le _, rfl, Below.refl _ _⟩
  case round =>
    obtain ⟨j, hj, rfl, HR⟩ := hrel
    have hz1 := HB1.out.size
    have hz2 := HR.out.size
    have BR := Lib.hid (HB1.out.trans (HR.out.mono hz1))
    by_cases hlt : j < V.ks.length
    · have hjl : j < V.l.length := by rw [← HKL.out]; exact hlt
      obtain ⟨X, hX⟩ : ∃ X, V.l[j]? = some X := ⟨_, List.getElem?_eq_getElem hjl⟩
      obtain ⟨a, ha, hcm, hft⟩ := HK.out j X hlt hX
      obtain ⟨nm, tk, t2, nd, cm, an, ow⟩ := a
      obtain rfl : cm = false := hcm
      have hks := HWK.out _ (kk_mem hlt)
      obtain ⟨bK, oK', rfl, hbK, k0⟩ := (HO.out.K.below (BR.out.mono (by rw [HS.out]; omega))).key hlt
      have hbK2 : bK < wr.heap.size := by have := BR.out.size; rw [HS.out] at this; omega
      obtain ⟨bL, oL', oL3, oK3, cL3, cK3, c3, rfl, hbL, ⟨y0, y1, y2, y3, y4, y5, y6, y7⟩, OX⟩ := (HO.out.L.below (BR.out.mono (by rw [HS.out]; omega))).elv hjl ((HO.out.el j X hX).kept (BR.out.mono (by rw [HS.out]; omega)))
      obtain ⟨kl, hkl⟩ := HKEY.out (kk V.ks j) hks
      have look := (HM.out.1.keep HR.out).look law66 Tryd.underlying63 zero31 hkl
      rw [HM.out.2 t, findR_all, ha] at look
      simp only [Option.map_some, Option.getD_some, Option.isSome_some] at look
      obtain ⟨x8, x0, x1, x2, x3, x4, x5, x6, x7⟩ := HX.out.kept BR.out hw1
      obtain ⟨key, hkey⟩ : ∃ key, kk V.ks j = key := ⟨_, rfl⟩
      rw [hkey] at k0 look
      have hm1 := sz_mem (List.mem_of_getElem? hX)
      have hbL2 : bL < wr.heap.size := by have := BR.out.size; rw [HS.out] at this; omega
      have hw2 : w.heap.size < wr.heap.size := Nat.lt_of_lt_of_le hw1 BR.out.size
      have hjl' : (j : Int) < (V.l.length : Int) := by omega
      have l3 := HO.out.L.1
      have l4 := HO.out.L.2.1
      unfold maxLen at l4
      have HF := Lib.hid (And.intro hX hft)
      have OX2 := Lib.hid OX
      have HA := Lib.hid (rc7 (heap_alloc_new wr (.cells (ac ⟨nm, tk, t2, nd, false, an, ow⟩) 31)))
      have BA := Lib.hid (BR.out.trans ((bal (Below.refl wr.heap.size wr) (.cells (ac ⟨nm, tk, t2, nd, false, an, ow⟩) 31)).mono BR.out.size))
      have hz3 : (wr.alloc (.cells (ac ⟨nm, tk, t2, nd, false, an, ow⟩) 31)).heap.size = wr.heap.size + 1 := by simp
      have HZ3 := Lib.hid hz3
      have BW := Lib.hid (bal (Below.refl wr.heap.size wr) (.cells (ac ⟨nm, tk, t2, nd, false, an, ow⟩) 31))
      clear hX hft ha hkl hkey hks OX hm1 hz3
      have hm1 := sz_mem (List.mem_of_getElem? HF.out.1)
      go_upto_region 8 with (fail)
      clear look k0 x8 x0 x1 x2 x3 x4 x5 x6 x7 y0 y1 y2 y3 y4 y5 y6 y7
      generalize World.alloc wr _ = w0 at *
      obtain ⟨x8, x0, x1, x2, x3, x4, x5, x6, x7⟩ := HX.out.kept BA.out hw1
      obtain ⟨-, a1, a2, -, -, -, -, a7⟩ := HA.out
      have hbe := (HO.out.L.below (BA.out.mono (by rw [HS.out]; omega))).elv hjl ((HO.out.el j X HF.out.1).kept (BA.out.mono (by rw [HS.out]; omega)))
      obtain ⟨bL2, oL2', oL4, oK4, cL4, cK4, c4, e4, hbL4, ⟨y0, y1, y2, y3, y4, y5, y6, y7⟩, OX4⟩ := hbe
      injection e4 with e4
      injection e4 with e5 e6
      subst e5 e6
      have OX3 := Lib.hid OX4
      clear OX4
      obtain ⟨N, hN⟩ : ∃ N, N = w0.heap.size := ⟨_, rfl⟩
      have S0 := held_at hN
      have lA : w.heap.size < N := by rw [hN, HZ3.out]; omega
      have lB : wr.heap.size < N := by rw [hN, HZ3.out]; omega
      have lC : bL < N := by rw [hN, HZ3.out]; omega
      have lN := Lib.hid (show n ≤ N by rw [hN, HZ3.out]; omega)
      have HN := Lib.hid hN
      have CF : Hid (∀ W, Below N w0 W → N ≤ W.heap.size → Calls Tryd.prog 56 #[vv X.k X.i X.s (.slice oL4 X.l.length cL4) (.slice oK4 X.ks.length cK4) X.tk X.to X.x, Typ.ty tk t2] W fun e w' => e = .returned (.bool true) ∧ Below W.heap.size W w') := fun W hW hs2 => by
        have hc := fits_all 60000 n X _ W tk t2 (by omega) ((OX3.out.kept (hW.mono lN.out)).lies) (Nat.le_trans lN.out hs2)
        rw [HF.out.2] at hc
        exact hc
      clear hN
      refine wp_region_noPanic ?_
      refine wp_region_held_drew (S := (fun W => (∀ b o, b < N → W.cell? ⟨b, o, none⟩ = w0.cell? ⟨b, o, none⟩) ∧ Hid (Below N w0 W) ∧ Hid (N ≤ W.heap.size))) (by kernel_rfl) ?_ (fun hH => ?_)
      · exact S0
      refine wpAnyH_take (i := 0) (oi := { dst := some 35, op := Op.fieldAddr 42 (Operand.tmp 3) 3, type := 0, pos := "complete.go:39", after := #[], guard := none }) (v := ?_) rfl (by kernel_rfl) (by kernel_rfl) (by kernel_rfl) (fun _ _ _ h => h) (Or.inl ⟨by rfl, ?_⟩) (by assumption) ?_
      rotate_left
      · (intro w hSw; (try dsimp only at hSw); go_simp; try with_reducible rfl)
      try simp only [Act.put, List.setIfInBounds_toArray, List.set_cons_zero, List.set_cons_succ]
      refine wpAnyH_take (i := 1) (oi := { dst := some 36, op := Op.load 40 (Operand.tmp 35), type := 40, pos := "complete.go:39", after := #[{ on := 0, ground := Ground.data }], guard := none }) (v := ?_) rfl (by kernel_rfl) (by kernel_rfl) (by kernel_rfl) (fun _ _ _ h => h) (Or.inl ⟨by rfl, ?_⟩) (by assumption) ?_
      rotate_left
      · (intro w hSw; (try dsimp only at hSw); go_simp; try with_reducible rfl)
      try simp only [Act.put, List.setIfInBounds_toArray, List.set_cons_zero, List.set_cons_succ]
      refine wpAnyH_take (i := 2) (oi := { dst := some 37, op := Op.move (Operand.tmp 7), type := 3, pos := "complete.go:39", after := #[], guard := none }) (v := ?_) rfl (by kernel_rfl) (by kernel_rfl) (by kernel_rfl) (fun _ _ _ h => h) (Or.inl ⟨by rfl, ?_⟩) (by assumption) ?_
      rotate_left
      · (intro w hSw; (try dsimp only at hSw); go_simp; try with_reducible rfl)
      try simp only [Act.put, List.setIfInBounds_toArray, List.set_cons_zero, List.set_cons_succ]
      refine wpAnyH_take (i := 3) (oi := { dst := some 38, op := Op.indexAddr 40 (Operand.tmp 36) (Operand.tmp 37), type := 0, pos := "complete.go:39", after := #[{ on := 1, ground := Ground.data }, { on := 2, ground := Ground.data }], guard := none }) (v := ?_) rfl (by kernel_rfl) (by kernel_rfl) (by kernel_rfl) (fun _ _ _ h => h) (Or.inl ⟨by rfl, ?_⟩) (by assumption) ?_
      rotate_left
      · (intro w hSw; (try dsimp only at hSw); go_simp; try with_reducible rfl)
      try simp only [Act.put, List.setIfInBounds_toArray, List.set_cons_zero, List.set_cons_succ]
      refine wpAnyH_take (i := 4) (oi := { dst := some 39, op := Op.load 42 (Operand.tmp 38), type := 42, pos := "complete.go:39", after := #[{ on := 3, ground := Ground.data }], guard := none }) (v := ?_) rfl (by kernel_rfl) (by kernel_rfl) (by kernel_rfl) (fun _ _ _ h => h) (Or.inl ⟨by rfl, ?_⟩) (by assumption) ?_
      rotate_left
      · (intro w hSw; (try dsimp only at hSw); go_simp; try with_reducible rfl)
      try simp only [Act.put, List.setIfInBounds_toArray, List.set_cons_zero, List.set_cons_succ]
      refine wpAnyH_take (i := 5) (oi := { dst := some 40, op := Op.fieldAddr 31 (Operand.tmp 9) 1, type := 0, pos := "complete.go:39", after := #[], guard := none }) (v := ?_) rfl (by kernel_rfl) (by kernel_rfl) (by kernel_rfl) (fun _ _ _ h => h) (Or.inl ⟨by rfl, ?_⟩) (by assumption) ?_
      rotate_left
      · (intro w hSw; (try dsimp only at hSw); go_simp; try with_reducible rfl)
      try simp only [Act.put, List.setIfInBounds_toArray, List.set_cons_zero, List.set_cons_succ]
      refine wpAnyH_take (i := 6) (oi := { dst := some 41, op := Op.load 29 (Operand.tmp 40), type := 29, pos := "complete.go:39", after := #[{ on := 5, ground := Ground.data }], guard := none }) (v := ?_) rfl (by kernel_rfl) (by kernel_rfl) (by kernel_rfl) (fun _ _ _ h => h) (Or.inl ⟨by rfl, ?_⟩) (by assumption) ?_
      rotate_left
      · (intro w hSw; (try dsimp only at hSw); go_simp; try with_reducible rfl)
      try simp only [Act.put, List.setIfInBounds_toArray, List.set_cons_zero, List.set_cons_succ]
      refine wpAnyH_ready (rs := [7]) (by kernel_rfl) (by simp) ?_
      refine AllReadyH.cons (o := { dst := some 42, op := Op.call { callee := Callee.value (Operand.func 56), args := #[Operand.tmp 39, Operand.tmp 41], argTypes := #[42, 29] }, type := 4, pos := "complete.go:39", after := #[{ on := 4, ground := Ground.data }, { on := 6, ground := Ground.data }], guard := none }) rfl (fun K hK => ?_) AllReadyH.nil
      go_simp
      refine (CF.out _ hH.2.1.out hH.2.2.out).mono ?_
      rintro e W_0 ⟨rfl, b⟩
      refine hK.out _ _ ?_ (fun hH' => ?_)
      · exact held_next (by assumption) hH
      clear hK K hH
      have hH := hH'
      clear hH'
      try simp only [Act.put, List.setIfInBounds_toArray, List.set_cons_zero, List.set_cons_succ]
      refine wpAnyH_take (i := 8) (oi := { dst := some 43, op := Op.unOp UnOp.not 4 (Operand.tmp 42), type := 4, pos := "complete.go:39", after := #[{ on := 7, ground := Ground.data }], guard := none }) (v := ?_) rfl (by kernel_rfl) (by kernel_rfl) (by kernel_rfl) (fun _ _ _ h => h) (Or.inl ⟨by rfl, ?_⟩) (by assumption) ?_
      rotate_left
      · (intro w hSw; (try dsimp only at hSw); go_simp; try with_reducible rfl)
      try simp only [Act.put, List.setIfInBounds_toArray, List.set_cons_zero, List.set_cons_succ]
      refine wpAnyH_done (by kernel_rfl) ?_ _
      refine NoPanic.normal ?_
      have BZ := Lib.hid (HR.out.trans ((BW.out.trans (hH.2.1.out.mono (by rw [HN.out, HZ3.out]; omega))).mono hz2))
      clear S0 hH
      go_wp2_with fail
      go_roundw
      case rel => exact ⟨j + 1, by omega, by go_num, BZ.out⟩
      case measure => simp [intOf]; omega
    · have BZ := Lib.hid (HB.out.trans (BR.out.mono HB.out.size))
      go_wp2_with fail
      go_ret2
      exact ⟨rfl, BZ.out⟩
end Go.Proofs.YtfmgbhaldakpfaaDoor

/- Complete's parts: missing. -/
namespace Go.Proofs.YtfmgbhaldakpfaaDoor
open Go.RowKit

set_option maxHeartbeats 4000000 in
set_option maxRecDepth 100000 in
theorem missing_ok {n : Nat} {V : Val} {v : Value} {w : World} {l : List Atr} {o : Option Addr} {cap : Nat} (hno : ∀ j, j < l.length → lacksB (aa l j) (elt V (aa l j).nm) = false) (hs : sz V ≤ 50000) (hkl : V.k = 5 → V.ks.length = V.l.length) (h : Lies n w V v) (hR : AtRow (fun b => b < n) w o cap l) (hn : n ≤ w.heap.size) :
    Calls Tryd.prog 52 #[.slice o l.length cap, v] w fun e w' => e = .returned (.tuple #[.string ⟨#[]⟩, .int .i64 0]) ∧ Below w.heap.size w w' := by
  obtain ⟨oL, oK, cL, cK, c, rfl, O⟩ := h.inv
  have b0 : Below w.heap.size w (w.alloc (bx V oL oK cL cK)) := bal (Below.refl _ _) _
  have HB := Lib.hid b0
  have HO := Lib.hid (O.kept (b0.mono hn)).lies
  have HX := Lib.hid (Hd.made w V (.slice oL V.l.length cL) (.slice oK V.ks.length cK))
  have HR := Lib.hid (hR.below (b0.mono hn))
  have l1 := hR.1
  have l2 := hR.2.1
  unfold maxLen at l2
  have HS : Hid ((w.alloc (bx V oL oK cL cK)).heap.size = w.heap.size + 1) := by simp [Hid]
  have HH := Lib.hid hno
  have CE : Hid (∀ (a : Atr) (W : World), Below w.heap.size (w.alloc (bx V oL oK cL cK)) W → Calls Tryd.prog 69 #[vv V.k V.i V.s (.slice oL V.l.length cL) (.slice oK V.ks.length cK) V.tk V.to V.x, av a] W (VPost (elt V a.nm) W)) := fun a W hW => element_any a (by omega) hkl (HO.out.kept (hW.mono hn)) (by have := hW.size; simp at this; omega)
  have CL : Hid (∀ (a : Atr) (Y : Val) (W1 W : World) (o1 o3 : Option Addr) (c1 c3 : Nat) (cc : Nat → Nat → Value), OpnP (Fr W1 W) W Y o1 o3 c1 c3 cc → Calls Tryd.prog 57 #[av a, vv Y.k Y.i Y.s (.slice o1 Y.l.length c1) (.slice o3 Y.ks.length c3) Y.tk Y.to Y.x] W fun e w' => e = .returned (.bool (lacksB a Y)) ∧ Below W.heap.size W w') :=
    fun a Y W1 W o1 o3 c1 c3 cc hOY => lacks_any a (hOY.mono (P' := fun b => b < W.heap.size) fun _ hk => hk.2).lies (Nat.le_refl _)
  clear h O b0 hR hs hkl
  go_enter Tryd.func52, Tryd.ntmps52
  go_upto_region 1 with (fail)
  generalize w.alloc _ = wa at *
  have hw1 : w.heap.size < wa.heap.size := by rw [HS.out]; exact Nat.lt_succ_self _
  go_wp2_with fail
  go_loopw [10] (fun i wr => ∃ j : Nat, j ≤ l.length ∧ i = .int .i64 j ∧ Hid (Below wa.heap.size wa wr)) (fun i _ => l.length - (intOf i).toNat)
  case atStart => exact ⟨0, Nat.zero_le _, rfl, Below.refl _ _⟩
  case round =>
    obtain ⟨j, hj, rfl, HRel⟩ := hrel
    have hz1 := HRel.out.size
    by_cases hlt : j < l.length
    · obtain ⟨b1, off, rfl, hb1, E1⟩ := AtRow.el (RowP.below HR.out (HRel.out.mono (by rw [HS.out]; omega))) hlt
      have hlk := Lib.hid (HH.out j hlt)
      obtain ⟨a, ha⟩ : ∃ a, aa l j = a := ⟨_, rfl⟩
      rw [ha] at E1 hlk
      have HAj := Lib.hid ha
      obtain ⟨y0, y1, y2, y3, y4, y5, y6⟩ := E1
      have BW := Lib.hid (bal (Below.refl wr.heap.size wr) (.cells (ac a) 31))
      have BA := Lib.hid (HRel.out.trans (BW.out.mono hz1))
      have HA := Lib.hid (rc7 (heap_alloc_new wr (.cells (ac a) 31)))
      have HZ3 : Hid ((wr.alloc (.cells (ac a) 31)).heap.size = wr.heap.size + 1) := by simp [Hid]
      clear ha
      go_upto_region 4 with (fail)
      clear y0 y1 y2 y3 y4 y5 y6
      generalize World.alloc wr _ = w0 at *
      obtain ⟨x8, x0, x1, x2, x3, x4, x5, x6, x7⟩ := HX.out.kept BA.out hw1
      obtain ⟨a0, a1, a2, a3, a4, a5, a6, a7⟩ := HA.out
      obtain ⟨N, hN⟩ : ∃ N, N = w0.heap.size := ⟨_, rfl⟩
      have S0 := held_at hN
      have lA : w.heap.size < N := by rw [hN, HZ3.out]; omega
      have lB : wr.heap.size < N := by rw [hN, HZ3.out]; omega
      have HN := Lib.hid hN
      have CE2 : Hid (∀ W, Below N w0 W → Calls Tryd.prog 69 #[vv V.k V.i V.s (.slice oL V.l.length cL) (.slice oK V.ks.length cK) V.tk V.to V.x, av a] W (VPost (elt V a.nm) W)) := fun W hW => CE.out a W ((BA.out.mono (by omega)).trans (hW.mono (by omega)))
      obtain ⟨lk, hlk2⟩ : ∃ b, lacksB a (elt V a.nm) = b := ⟨_, rfl⟩
      have HLK := Lib.hid hlk2
      generalize elt V a.nm = Y at *
      have CL2 := Lib.hid (CL.out a Y)
      rw [hlk2] at CL2
      clear hN hlk2
      cases lk with
      | true => exact absurd (HLK.out.symm.trans hlk.out) (by decide)
      | false =>
        refine wp_region_noPanic ?_
        refine wp_region_held_drew (S := (fun W => (∀ b o, b < N → W.cell? ⟨b, o, none⟩ = w0.cell? ⟨b, o, none⟩) ∧ Hid (Below N w0 W) ∧ Hid (N ≤ W.heap.size))) (by kernel_rfl) ?_ (fun hH => ?_)
        · exact S0
        refine wpAnyH_take (i := 0) (oi := { dst := some 14, op := Op.load 31 (Operand.tmp 7), type := 31, pos := "complete.go:49", after := #[], guard := none }) (v := ?_) rfl (by kernel_rfl) (by kernel_rfl) (by kernel_rfl) (fun _ _ _ h => h) (Or.inl ⟨by rfl, ?_⟩) (by assumption) ?_
        rotate_left
        · (intro w hSw; (try dsimp only at hSw); go_simp; try with_reducible rfl)
        try simp only [Act.put, List.setIfInBounds_toArray, List.set_cons_zero, List.set_cons_succ]
        refine wpAnyH_take (i := 1) (oi := { dst := some 15, op := Op.load 42 (Operand.tmp 3), type := 42, pos := "complete.go:49", after := #[], guard := none }) (v := ?_) rfl (by kernel_rfl) (by kernel_rfl) (by kernel_rfl) (fun _ _ _ h => h) (Or.inl ⟨by rfl, ?_⟩) (by assumption) ?_
        rotate_left
        · (intro w hSw; (try dsimp only at hSw); go_simp; try with_reducible rfl)
        try simp only [Act.put, List.setIfInBounds_toArray, List.set_cons_zero, List.set_cons_succ]
        refine wpAnyH_take (i := 2) (oi := { dst := some 16, op := Op.load 31 (Operand.tmp 7), type := 31, pos := "complete.go:49", after := #[], guard := none }) (v := ?_) rfl (by kernel_rfl) (by kernel_rfl) (by kernel_rfl) (fun _ _ _ h => h) (Or.inl ⟨by rfl, ?_⟩) (by assumption) ?_
        rotate_left
        · (intro w hSw; (try dsimp only at hSw); go_simp; try with_reducible rfl)
        try simp only [Act.put, List.setIfInBounds_toArray, List.set_cons_zero, List.set_cons_succ]
        refine wpAnyH_ready (rs := [3]) (by kernel_rfl) (by simp) ?_
        refine AllReadyH.cons (o := { dst := some 17, op := Op.call { callee := Callee.value (Operand.func 69), args := #[Operand.tmp 15, Operand.tmp 16], argTypes := #[42, 31] }, type := 42, pos := "complete.go:49", after := #[{ on := 1, ground := Ground.data }, { on := 2, ground := Ground.data }], guard := none }) rfl (fun K hK => ?_) AllReadyH.nil
        go_simp
        refine (CE2.out _ hH.2.1.out).mono ?_
        rintro e W_0 ⟨o1, o3, c1, c3, cc, rfl, OY, b⟩
        refine hK.out _ _ ?_ (fun hH' => ?_)
        · exact held_next (by assumption) hH
        clear hK K hH
        have hH := hH'
        clear hH'
        try simp only [Act.put, List.setIfInBounds_toArray, List.set_cons_zero, List.set_cons_succ]
        refine wpAnyH_ready (rs := [4]) (by kernel_rfl) (by simp) ?_
        refine AllReadyH.cons (o := { dst := some 18, op := Op.call { callee := Callee.value (Operand.func 57), args := #[Operand.tmp 14, Operand.tmp 17], argTypes := #[31, 42] }, type := 4, pos := "complete.go:49", after := #[{ on := 0, ground := Ground.data }, { on := 3, ground := Ground.data }, { on := 3, ground := Ground.chain }], guard := none }) rfl (fun K hK => ?_) AllReadyH.nil
        go_simp
        refine (CL2.out _ _ _ _ _ _ _ OY).mono ?_
        rintro e W_1 ⟨rfl, b⟩
        refine hK.out _ _ ?_ (fun hH' => ?_)
        · exact held_next (by assumption) hH
        clear hK K hH
        have hH := hH'
        clear hH'
        try simp only [Act.put, List.setIfInBounds_toArray, List.set_cons_zero, List.set_cons_succ]
        refine wpAnyH_done (by kernel_rfl) ?_ _
        refine NoPanic.normal ?_
        have BZ := Lib.hid (HRel.out.trans ((BW.out.trans (hH.2.1.out.mono (by rw [HN.out, HZ3.out]; omega))).mono hz1))
        clear S0 hH
        go_wp2_with fail
        go_roundw
        case rel => exact ⟨j + 1, by omega, by go_num, BZ.out⟩
        case measure => simp [intOf]; omega
    · have BZ := Lib.hid (HB.out.trans (HRel.out.mono HB.out.size))
      go_wp2_with fail
      go_ret2
      exact ⟨rfl, BZ.out⟩
set_option maxHeartbeats 4000000 in
set_option maxRecDepth 100000 in
theorem missing_no {n : Nat} {V : Val} {v : Value} {w : World} {l : List Atr} {o : Option Addr} {cap : Nat} (j0 : Nat) (hj0l : j0 < l.length) (hno : ∀ j, j < l.length → j < j0 → lacksB (aa l j) (elt V (aa l j).nm) = false) (hyes : lacksB (aa l j0) (elt V (aa l j0).nm) = true) (hs : sz V ≤ 50000) (hkl : V.k = 5 → V.ks.length = V.l.length) (h : Lies n w V v) (hR : AtRow (fun b => b < n) w o cap l) (hn : n ≤ w.heap.size) :
    Calls Tryd.prog 52 #[.slice o l.length cap, v] w fun e w' => e = .returned (.tuple #[.string (aa l j0).nm, .int .i64 15]) ∧ Below w.heap.size w w' := by
  obtain ⟨oL, oK, cL, cK, c, rfl, O⟩ := h.inv
  have b0 : Below w.heap.size w (w.alloc (bx V oL oK cL cK)) := bal (Below.refl _ _) _
  have HB := Lib.hid b0
  have HO := Lib.hid (O.kept (b0.mono hn)).lies
  have HX := Lib.hid (Hd.made w V (.slice oL V.l.length cL) (.slice oK V.ks.length cK))
  have HR := Lib.hid (hR.below (b0.mono hn))
  have l1 := hR.1
  have l2 := hR.2.1
  unfold maxLen at l2
  have HS : Hid ((w.alloc (bx V oL oK cL cK)).heap.size = w.heap.size + 1) := by simp [Hid]
  have HH := Lib.hid hno
  have HY := Lib.hid hyes
  clear hno hyes
  have CE : Hid (∀ (a : Atr) (W : World), Below w.heap.size (w.alloc (bx V oL oK cL cK)) W → Calls Tryd.prog 69 #[vv V.k V.i V.s (.slice oL V.l.length cL) (.slice oK V.ks.length cK) V.tk V.to V.x, av a] W (VPost (elt V a.nm) W)) := fun a W hW => element_any a (by omega) hkl (HO.out.kept (hW.mono hn)) (by have := hW.size; simp at this; omega)
  have CL : Hid (∀ (a : Atr) (Y : Val) (W1 W : World) (o1 o3 : Option Addr) (c1 c3 : Nat) (cc : Nat → Nat → Value), OpnP (Fr W1 W) W Y o1 o3 c1 c3 cc → Calls Tryd.prog 57 #[av a, vv Y.k Y.i Y.s (.slice o1 Y.l.length c1) (.slice o3 Y.ks.length c3) Y.tk Y.to Y.x] W fun e w' => e = .returned (.bool (lacksB a Y)) ∧ Below W.heap.size W w') :=
    fun a Y W1 W o1 o3 c1 c3 cc hOY => lacks_any a (hOY.mono (P' := fun b => b < W.heap.size) fun _ hk => hk.2).lies (Nat.le_refl _)
  clear h O b0 hR hs hkl
  go_enter Tryd.func52, Tryd.ntmps52
  go_upto_region 1 with (fail)
  generalize w.alloc _ = wa at *
  have hw1 : w.heap.size < wa.heap.size := by rw [HS.out]; exact Nat.lt_succ_self _
  go_wp2_with fail
  go_loopw [10] (fun i wr => ∃ j : Nat, j ≤ l.length ∧ i = .int .i64 j ∧ Hid (Below wa.heap.size wa wr) ∧ j ≤ j0) (fun i _ => l.length - (intOf i).toNat)
  case atStart => exact ⟨0, Nat.zero_le _, rfl, Below.refl _ _, Nat.zero_le _⟩
  case round =>
    obtain ⟨j, hj, rfl, HRel, hj0⟩ := hrel
    have hz1 := HRel.out.size
    by_cases hlt : j < l.length
    · obtain ⟨b1, off, rfl, hb1, E1⟩ := AtRow.el (RowP.below HR.out (HRel.out.mono (by rw [HS.out]; omega))) hlt
      have hlk : Hid (lacksB (aa l j) (elt V (aa l j).nm) = decide (j = j0)) := by
        unfold Hid
        by_cases e : j = j0
        · rw [decide_eq_true e, e]; exact HY.out
        · rw [decide_eq_false e]; exact HH.out j hlt (by omega)
      obtain ⟨a, ha⟩ : ∃ a, aa l j = a := ⟨_, rfl⟩
      rw [ha] at E1 hlk
      have HAj := Lib.hid ha
      obtain ⟨y0, y1, y2, y3, y4, y5, y6⟩ := E1
      have BW := Lib.hid (bal (Below.refl wr.heap.size wr) (.cells (ac a) 31))
      have BA := Lib.hid (HRel.out.trans (BW.out.mono hz1))
      have HA := Lib.hid (rc7 (heap_alloc_new wr (.cells (ac a) 31)))
      have HZ3 : Hid ((wr.alloc (.cells (ac a) 31)).heap.size = wr.heap.size + 1) := by simp [Hid]
      clear ha
      go_upto_region 4 with (fail)
      clear y0 y1 y2 y3 y4 y5 y6
      generalize World.alloc wr _ = w0 at *
      obtain ⟨x8, x0, x1, x2, x3, x4, x5, x6, x7⟩ := HX.out.kept BA.out hw1
      obtain ⟨a0, a1, a2, a3, a4, a5, a6, a7⟩ := HA.out
      obtain ⟨N, hN⟩ : ∃ N, N = w0.heap.size := ⟨_, rfl⟩
      have S0 := held_at hN
      have lA : w.heap.size < N := by rw [hN, HZ3.out]; omega
      have lB : wr.heap.size < N := by rw [hN, HZ3.out]; omega
      have HN := Lib.hid hN
      have CE2 : Hid (∀ W, Below N w0 W → Calls Tryd.prog 69 #[vv V.k V.i V.s (.slice oL V.l.length cL) (.slice oK V.ks.length cK) V.tk V.to V.x, av a] W (VPost (elt V a.nm) W)) := fun W hW => CE.out a W ((BA.out.mono (by omega)).trans (hW.mono (by omega)))
      obtain ⟨lk, hlk2⟩ : ∃ b, lacksB a (elt V a.nm) = b := ⟨_, rfl⟩
      have HLK := Lib.hid hlk2
      generalize elt V a.nm = Y at *
      have CL2 := Lib.hid (CL.out a Y)
      rw [hlk2] at CL2
      clear hN hlk2
      cases lk with
      | true =>
        have hje : j = j0 := of_decide_eq_true (hlk.out.symm.trans HLK.out)
        subst hje
        refine wp_region_noPanic ?_
        refine wp_region_held_drew (S := (fun W => (∀ b o, b < N → W.cell? ⟨b, o, none⟩ = w0.cell? ⟨b, o, none⟩) ∧ Hid (Below N w0 W) ∧ Hid (N ≤ W.heap.size))) (by kernel_rfl) ?_ (fun hH => ?_)
        · exact S0
        refine wpAnyH_take (i := 0) (oi := { dst := some 14, op := Op.load 31 (Operand.tmp 7), type := 31, pos := "complete.go:49", after := #[], guard := none }) (v := ?_) rfl (by kernel_rfl) (by kernel_rfl) (by kernel_rfl) (fun _ _ _ h => h) (Or.inl ⟨by rfl, ?_⟩) (by assumption) ?_
        rotate_left
        · (intro w hSw; (try dsimp only at hSw); go_simp; try with_reducible rfl)
        try simp only [Act.put, List.setIfInBounds_toArray, List.set_cons_zero, List.set_cons_succ]
        refine wpAnyH_take (i := 1) (oi := { dst := some 15, op := Op.load 42 (Operand.tmp 3), type := 42, pos := "complete.go:49", after := #[], guard := none }) (v := ?_) rfl (by kernel_rfl) (by kernel_rfl) (by kernel_rfl) (fun _ _ _ h => h) (Or.inl ⟨by rfl, ?_⟩) (by assumption) ?_
        rotate_left
        · (intro w hSw; (try dsimp only at hSw); go_simp; try with_reducible rfl)
        try simp only [Act.put, List.setIfInBounds_toArray, List.set_cons_zero, List.set_cons_succ]
        refine wpAnyH_take (i := 2) (oi := { dst := some 16, op := Op.load 31 (Operand.tmp 7), type := 31, pos := "complete.go:49", after := #[], guard := none }) (v := ?_) rfl (by kernel_rfl) (by kernel_rfl) (by kernel_rfl) (fun _ _ _ h => h) (Or.inl ⟨by rfl, ?_⟩) (by assumption) ?_
        rotate_left
        · (intro w hSw; (try dsimp only at hSw); go_simp; try with_reducible rfl)
        try simp only [Act.put, List.setIfInBounds_toArray, List.set_cons_zero, List.set_cons_succ]
        refine wpAnyH_ready (rs := [3]) (by kernel_rfl) (by simp) ?_
        refine AllReadyH.cons (o := { dst := some 17, op := Op.call { callee := Callee.value (Operand.func 69), args := #[Operand.tmp 15, Operand.tmp 16], argTypes := #[42, 31] }, type := 42, pos := "complete.go:49", after := #[{ on := 1, ground := Ground.data }, { on := 2, ground := Ground.data }], guard := none }) rfl (fun K hK => ?_) AllReadyH.nil
        go_simp
        refine (CE2.out _ hH.2.1.out).mono ?_
        rintro e W_0 ⟨o1, o3, c1, c3, cc, rfl, OY, b⟩
        refine hK.out _ _ ?_ (fun hH' => ?_)
        · exact held_next (by assumption) hH
        clear hK K hH
        have hH := hH'
        clear hH'
        try simp only [Act.put, List.setIfInBounds_toArray, List.set_cons_zero, List.set_cons_succ]
        refine wpAnyH_ready (rs := [4]) (by kernel_rfl) (by simp) ?_
        refine AllReadyH.cons (o := { dst := some 18, op := Op.call { callee := Callee.value (Operand.func 57), args := #[Operand.tmp 14, Operand.tmp 17], argTypes := #[31, 42] }, type := 4, pos := "complete.go:49", after := #[{ on := 0, ground := Ground.data }, { on := 3, ground := Ground.data }, { on := 3, ground := Ground.chain }], guard := none }) rfl (fun K hK => ?_) AllReadyH.nil
        go_simp
        refine (CL2.out _ _ _ _ _ _ _ OY).mono ?_
        rintro e W_1 ⟨rfl, b⟩
        refine hK.out _ _ ?_ (fun hH' => ?_)
        · exact held_next (by assumption) hH
        clear hK K hH
        have hH := hH'
        clear hH'
        try simp only [Act.put, List.setIfInBounds_toArray, List.set_cons_zero, List.set_cons_succ]
        refine wpAnyH_done (by kernel_rfl) ?_ _
        refine NoPanic.normal ?_
        have BZ := Lib.hid (HB.out.trans ((HRel.out.trans ((BW.out.trans (hH.2.1.out.mono (by rw [HN.out, HZ3.out]; omega))).mono hz1)).mono HB.out.size))
        have z0 := (hH.1 wr.heap.size 0 lB).trans a0
        clear S0 hH
        go_wp2_with fail
        go_ret2
        exact ⟨by rw [HAj.out]; rfl, BZ.out⟩
      | false =>
        have hje : j ≠ j0 := of_decide_eq_false (hlk.out.symm.trans HLK.out)
        refine wp_region_noPanic ?_
        refine wp_region_held_drew (S := (fun W => (∀ b o, b < N → W.cell? ⟨b, o, none⟩ = w0.cell? ⟨b, o, none⟩) ∧ Hid (Below N w0 W) ∧ Hid (N ≤ W.heap.size))) (by kernel_rfl) ?_ (fun hH => ?_)
        · exact S0
        refine wpAnyH_take (i := 0) (oi := { dst := some 14, op := Op.load 31 (Operand.tmp 7), type := 31, pos := "complete.go:49", after := #[], guard := none }) (v := ?_) rfl (by kernel_rfl) (by kernel_rfl) (by kernel_rfl) (fun _ _ _ h => h) (Or.inl ⟨by rfl, ?_⟩) (by assumption) ?_
        rotate_left
        · (intro w hSw; (try dsimp only at hSw); go_simp; try with_reducible rfl)
        try simp only [Act.put, List.setIfInBounds_toArray, List.set_cons_zero, List.set_cons_succ]
        refine wpAnyH_take (i := 1) (oi := { dst := some 15, op := Op.load 42 (Operand.tmp 3), type := 42, pos := "complete.go:49", after := #[], guard := none }) (v := ?_) rfl (by kernel_rfl) (by kernel_rfl) (by kernel_rfl) (fun _ _ _ h => h) (Or.inl ⟨by rfl, ?_⟩) (by assumption) ?_
        rotate_left
        · (intro w hSw; (try dsimp only at hSw); go_simp; try with_reducible rfl)
        try simp only [Act.put, List.setIfInBounds_toArray, List.set_cons_zero, List.set_cons_succ]
        refine wpAnyH_take (i := 2) (oi := { dst := some 16, op := Op.load 31 (Operand.tmp 7), type := 31, pos := "complete.go:49", after := #[], guard := none }) (v := ?_) rfl (by kernel_rfl) (by kernel_rfl) (by kernel_rfl) (fun _ _ _ h => h) (Or.inl ⟨by rfl, ?_⟩) (by assumption) ?_
        rotate_left
        · (intro w hSw; (try dsimp only at hSw); go_simp; try with_reducible rfl)
        try simp only [Act.put, List.setIfInBounds_toArray, List.set_cons_zero, List.set_cons_succ]
        refine wpAnyH_ready (rs := [3]) (by kernel_rfl) (by simp) ?_
        refine AllReadyH.cons (o := { dst := some 17, op := Op.call { callee := Callee.value (Operand.func 69), args := #[Operand.tmp 15, Operand.tmp 16], argTypes := #[42, 31] }, type := 42, pos := "complete.go:49", after := #[{ on := 1, ground := Ground.data }, { on := 2, ground := Ground.data }], guard := none }) rfl (fun K hK => ?_) AllReadyH.nil
        go_simp
        refine (CE2.out _ hH.2.1.out).mono ?_
        rintro e W_0 ⟨o1, o3, c1, c3, cc, rfl, OY, b⟩
        refine hK.out _ _ ?_ (fun hH' => ?_)
        · exact held_next (by assumption) hH
        clear hK K hH
        have hH := hH'
        clear hH'
        try simp only [Act.put, List.setIfInBounds_toArray, List.set_cons_zero, List.set_cons_succ]
        refine wpAnyH_ready (rs := [4]) (by kernel_rfl) (by simp) ?_
        refine AllReadyH.cons (o := { dst := some 18, op := Op.call { callee := Callee.value (Operand.func 57), args := #[Operand.tmp 14, Operand.tmp 17], argTypes := #[31, 42] }, type := 4, pos := "complete.go:49", after := #[{ on := 0, ground := Ground.data }, { on := 3, ground := Ground.data }, { on := 3, ground := Ground.chain }], guard := none }) rfl (fun K hK => ?_) AllReadyH.nil
        go_simp
        refine (CL2.out _ _ _ _ _ _ _ OY).mono ?_
        rintro e W_1 ⟨rfl, b⟩
        refine hK.out _ _ ?_ (fun hH' => ?_)
        · exact held_next (by assumption) hH
        clear hK K hH
        have hH := hH'
        clear hH'
        try simp only [Act.put, List.setIfInBounds_toArray, List.set_cons_zero, List.set_cons_succ]
        refine wpAnyH_done (by kernel_rfl) ?_ _
        refine NoPanic.normal ?_
        have BZ := Lib.hid (HRel.out.trans ((BW.out.trans (hH.2.1.out.mono (by rw [HN.out, HZ3.out]; omega))).mono hz1))
        clear S0 hH
        go_wp2_with fail
        go_roundw
        case rel => exact ⟨j + 1, by omega, by go_num, BZ.out, by omega⟩
        case measure => simp [intOf]; omega
    · omega
end Go.Proofs.YtfmgbhaldakpfaaDoor

/- Complete's parts: completed. -/
namespace Go.Proofs.YtfmgbhaldakpfaaDoor
open Go.RowKit

/-- what is completed -/
def cmpl (l : List Atr) (V : Val) : Val := .mk 5 0 ⟨#[]⟩ (l.map fun a => elt V a.nm) (l.map (·.nm)) 0 0 V.x
abbrev bxB (x : Bool) (len gK gL : Nat) : Array Value := #[.int .i64 5, .int .i64 0, .string ⟨#[]⟩, .slice (some ⟨gL, 0, none⟩) len len, .slice (some ⟨gK, 0, none⟩) len len, .int .i64 0, .int .i64 0, .bool x]
/-- the new value, empty -/
structure Fin0 (w0 wx : World) (x : Bool) (len gB gK gL : Nat) : Prop where
  b : Below w0.heap.size w0 wx
  lB : w0.heap.size ≤ gB ∧ gB < wx.heap.size
  lK : w0.heap.size ≤ gK ∧ gK < wx.heap.size
  lL : w0.heap.size ≤ gL ∧ gL < wx.heap.size
  ne : gB ≠ gK ∧ gB ≠ gL ∧ gK ≠ gL
  hB : wx.heap[gB]? = some (.cells (bxB x len gK gL) 42 (0, 0))
  hK : wx.heap[gK]? = some (.cells (madeCells #[.string ⟨#[]⟩] len) 9 (0, 0))
  hL : wx.heap[gL]? = some (.cells (madeCells zc (len * 8)) 42 (0, 0))
/-- three new blocks -/
def Pos3 (w0 : World) (A0 A1 A2 : Obj) (g : Nat) (o : Obj) : Prop := (g = w0.heap.size ∧ A0 = o) ∨ (g = w0.heap.size + 1 ∧ A1 = o) ∨ (g = w0.heap.size + 1 + 1 ∧ A2 = o)
theorem Pos3.at {w0 : World} {A0 A1 A2 : Obj} {g : Nat} {o : Obj} (h : Pos3 w0 A0 A1 A2 g o) : (((w0.alloc A0).alloc A1).alloc A2).drew.heap[g]? = some o := by
  show (((w0.alloc A0).alloc A1).alloc A2).heap[g]? = some o
  have b1 : Below (w0.heap.size + 1) (w0.alloc A0) (((w0.alloc A0).alloc A1).alloc A2) := (((Below.refl _ _).alloc (by simp) _).alloc (by simp) _)
  have b2 : Below (w0.heap.size + 1 + 1) ((w0.alloc A0).alloc A1) (((w0.alloc A0).alloc A1).alloc A2) := (Below.refl _ _).alloc (by simp) _
  rcases h with ⟨rfl, rfl⟩ | ⟨rfl, rfl⟩ | ⟨rfl, rfl⟩
  · exact (b1.block _ (Nat.lt_succ_self _)).trans (heap_alloc_new _ _)
  · exact (b2.block _ (Nat.lt_succ_self _)).trans (at_top _ _ _ (by simp))
  · exact at_top _ _ _ (by simp)
theorem Pos3.bd {w0 : World} {A0 A1 A2 : Obj} {g : Nat} {o : Obj} (h : Pos3 w0 A0 A1 A2 g o) : w0.heap.size ≤ g ∧ g < (((w0.alloc A0).alloc A1).alloc A2).drew.heap.size := by
  have : (((w0.alloc A0).alloc A1).alloc A2).drew.heap.size = w0.heap.size + 3 := by show (((w0.alloc A0).alloc A1).alloc A2).heap.size = _; simp
  rw [this]
  rcases h with ⟨rfl, _⟩ | ⟨rfl, _⟩ | ⟨rfl, _⟩ <;> omega
theorem fin_mk {w0 : World} {A0 A1 A2 : Obj} {x : Bool} {len gB gK gL : Nat} (hB : Pos3 w0 A0 A1 A2 gB (.cells (bxB x len gK gL) 42)) (hK : Pos3 w0 A0 A1 A2 gK (.cells (madeCells #[.string ⟨#[]⟩] len) 9)) (hL : Pos3 w0 A0 A1 A2 gL (.cells (madeCells zc (len * 8)) 42))
    (ne : gB ≠ gK ∧ gB ≠ gL ∧ gK ≠ gL) : Fin0 w0 (((w0.alloc A0).alloc A1).alloc A2).drew x len gB gK gL :=
  ⟨(bal (bal (bal (Below.refl _ _) _) _) _).drew, hB.bd, hK.bd, hL.bd, ne, hB.at, hK.at, hL.at⟩
/-- while it is filled: j keys and i elements -/
structure Cmp (V : Val) (l : List Atr) (n M gB gK gL : Nat) (wx : World) (j i : Nat) (wr : World) : Prop where
  b : Below n wx wr
  sz : wx.heap.size ≤ wr.heap.size
  bB : wr.heap[gB]? = wx.heap[gB]?
  k : Out wr gK 9 l.length 1 j (fun i _ => .string (aa l i).nm)
  e : ∃ C, Out wr gL 42 l.length 8 i C ∧ ∀ m, m < i → LiesP (fun b => M ≤ b ∧ b < wr.heap.size) wr (elt V (aa l m).nm) (.agg #[C m 0, C m 1, C m 2, C m 3, C m 4, C m 5, C m 6, C m 7])
variable {V : Val} {l : List Atr} {n M gB gK gL j i : Nat} {wx wr w1 : World}
theorem Cmp.keep (h : Cmp V l n M gB gK gL wx j i wr) (hb : Below wr.heap.size wr w1) (hn : n ≤ wr.heap.size) (hg : gB < wr.heap.size) : Cmp V l n M gB gK gL wx j i w1 := by
  obtain ⟨b, sz, bB, k, C, e, f⟩ := h
  exact ⟨b.trans (hb.mono hn), Nat.le_trans sz hb.size, (hb.block _ hg).trans bB, k.keep hb k.lt, C, e.keep hb e.lt, fun m hm => (f m hm).keptP fun q hq => ⟨⟨hq.1, Nat.lt_of_lt_of_le hq.2 hb.size⟩, hb.block q hq.2⟩⟩
theorem Cmp.key (h : Cmp V l n M gB gK gL wx j i wr) (v : Value) (hv : v = .string (aa l j).nm) (hj : j < l.length) (hn : n ≤ gK) (hM : gK < M) (h1 : gB ≠ gK) (h2 : gK ≠ gL) : Cmp V l n M gB gK gL wx (j + 1) i (wr.setCell ⟨gK, j, none⟩ v) := by
  obtain ⟨b, sz, bB, k, C, e, f⟩ := h
  refine ⟨b.setCell (p := ⟨gK, j, none⟩) hn v, by simpa using sz, (heap_setCell_other wr ⟨gK, j, none⟩ gB v h1).trans bB, k.set1 v hv hj, C, e.same (heap_setCell_other wr ⟨gK, j, none⟩ gL v h2.symm), fun m hm => (f m hm).keptP fun q hq => ⟨⟨hq.1, by simpa using hq.2⟩, heap_setCell_other wr ⟨gK, j, none⟩ q v (by have := hq.1; show q ≠ gK; omega)⟩⟩
theorem Cmp.elem (h : Cmp V l n M gB gK gL wx j i wr) {oL oK : Option Addr} {cL cK : Nat} {c : Nat → Nat → Value} {cs : Array Value} (hO : OpnP (fun b => M ≤ b ∧ b < wr.heap.size) wr (elt V (aa l i).nm) oL oK cL cK c)
    (hi : i < l.length) (hn : n ≤ gL) (hM : gL < M) (h1 : gB ≠ gL) (h2 : gK ≠ gL) (hcs : wr.heap[gL]? = some (.cells cs 42 (0, 0))) (part : Array Value)
    (hp : part = c8 (elt V (aa l i).nm) (.slice oL (elt V (aa l i).nm).l.length cL) (.slice oK (elt V (aa l i).nm).ks.length cK)) :
    Cmp V l n M gB gK gL wx j (i + 1) (wr.setRow gL (cs.toList.take (i * 8) ++ part.toList ++ cs.toList.drop (i * 8 + part.size)).toArray) := by
  obtain ⟨b, sz, bB, k, C, ⟨cs', e1, e2, e3⟩, f⟩ := h
  rw [hcs] at e1
  simp only [Option.some.injEq, Obj.cells.injEq, and_true] at e1
  subst e1
  refine ⟨below_setRow b hn _, by rw [size_setRow]; exact sz, (setRow_other _ _ _ _ h1).trans bB, k.same (setRow_other _ _ _ _ h2), _, Out.store hcs e2 e3 hi (by rw [hp]; rfl) (fun m => part[m]?.getD undef) (fun m hm => ?_), fun m hm => ?_⟩
  · have : m < part.size := by rw [hp]; exact hm
    simp [this]
  · by_cases e : m = i
    · subst e
      simp only [if_true]
      rw [hp]
      exact hO.lies.keptP fun q hq => ⟨⟨hq.1, by rw [size_setRow]; exact hq.2⟩, setRow_other _ _ _ _ (by have := hq.1; omega)⟩
    · simp only [if_neg e]
      exact (f m (by omega)).keptP fun q hq => ⟨⟨hq.1, by rw [size_setRow]; exact hq.2⟩, setRow_other _ _ _ _ (by have := hq.1; omega)⟩
/-- a whole struct into the middle of a block, in a region that draws -/
theorem step_store_at {P : Program} {ops : Array Oper} {o : Oper} {a : Act} {w : World} {K : Act → World → Prop} {Q : Exit → Act → World → Prop} {E : Prop} (hgd : o.guard = none) (ty : TypeId) (x y : Operand) (ho : o.op = .store ty x y)
    (g off : Nat) (hx : a.eval x = .pointer (some ⟨g, off, none⟩)) (part : Array Value) (hy : a.eval y = .agg part) (t : TypeId) (cs : Array Value) (hg : w.heap[g]? = some (.cells cs t (0, 0)))
    (hfit : off + part.size ≤ cs.size) (hi : (P.info? ty).map (·.size) = some part.size) (h1 : part.all (·.oneCell') = true)
    (h : K (a.put o.dst undef) (w.setRow g (cs.toList.take off ++ part.toList ++ cs.toList.drop (off + part.size)).toArray)) : if Region.wanted o (yielded ops a.tmps) = true then Oper.wp P o a w K Q else E := by
  have hw : Region.wanted o (yielded ops a.tmps) = true := by simp [Region.wanted, hgd]
  rw [if_pos hw]
  unfold Oper.wp execOp
  simp only [ho, hx, hy, Instr.storeAt, Instr.sureAddr, Sem.run_bind, Sem.run_pure, Result.andThen_ok, run_storeVar_at w g off ty t cs part hg hfit hi h1]
  exact h
set_option maxHeartbeats 8000000 in
set_option maxRecDepth 100000 in
theorem completed_any {n : Nat} {V : Val} {v : Value} {w : World} {l : List Atr} {o : Option Addr} {cap : Nat} (hl : l.length ≤ 19) (hno : ∀ a, a ∈ l → a.ow = false) (hz : ∀ a, a ∈ l → a.nm.size ≤ maxLen) (hs : sz V ≤ 50000) (hkl : V.k = 5 → V.ks.length = V.l.length) (h : Lies n w V v) (hR : AtRow (fun b => b < n) w o cap l) (hn : n ≤ w.heap.size) :
    Calls Tryd.prog 53 #[.slice o l.length cap, v] w (VPost (cmpl l V) w) := by
  obtain ⟨oL, oK, cL, cK, c, rfl, O⟩ := h.inv
  have b0 : Below w.heap.size w ((w.alloc (bx V oL oK cL cK)).alloc (.cells zc 42)) := bal (bal (Below.refl _ _) _) _
  have HB := Lib.hid b0
  have HO := Lib.hid (O.kept (b0.mono hn)).lies
  have HX := Lib.hid ((Hd.made w V (.slice oL V.l.length cL) (.slice oK V.ks.length cK)).kept ((Below.refl (w.heap.size + 1) _).alloc (by simp) (.cells zc 42)) (Nat.lt_succ_self _))
  have HZC : Hid (((w.alloc (bx V oL oK cL cK)).alloc (.cells zc 42)).heap[w.heap.size + 1]? = some (.cells zc 42 (0, 0))) := at_top _ _ _ (by simp)
  have HR := Lib.hid (hR.below (b0.mono hn))
  have l1 := hR.1
  have l2 := hR.2.1
  unfold maxLen at l2
  have HS : Hid (((w.alloc (bx V oL oK cL cK)).alloc (.cells zc 42)).heap.size = w.heap.size + 2) := by simp [Hid]
  have HNO := Lib.hid (And.intro hno hz)
  have mk9 := Lib.hid (make9 l.length (by omega))
  have mk42 := Lib.hid (make42 l.length (by omega))
  have CE : Hid (∀ (a : Atr) (W : World), Below w.heap.size ((w.alloc (bx V oL oK cL cK)).alloc (.cells zc 42)) W → Calls Tryd.prog 69 #[vv V.k V.i V.s (.slice oL V.l.length cL) (.slice oK V.ks.length cK) V.tk V.to V.x, av a] W (VPost (elt V a.nm) W)) := fun a W hW => element_any a (by omega) hkl (HO.out.kept (hW.mono hn)) (by have := hW.size; simp at this; omega)
  clear h O b0 hR hs hkl hno hz
  go_enter Tryd.func53, Tryd.ntmps53
  go_upto_region 1 with (fail)
  generalize (w.alloc _).alloc _ = w0 at *
  obtain ⟨x8, x0, x1, x2, x3, x4, x5, x6, x7⟩ := HX.out
  have y1 : w.heap.size < w0.heap.size + 1 := by omega
  have y2 : w.heap.size < w0.heap.size + 1 + 1 := by omega
  have y3 : w.heap.size < w0.heap.size + 1 + 1 + 1 := by omega
  have m9 := fun W => mk9.out W
  have m42 := fun W => mk42.out W
  go_cut [5] (fun p wx => ∃ gB gK gL : Nat, p = .pointer (some ⟨gB, 0, none⟩) ∧ Hid (Fin0 w0 wx V.x l.length gB gK gL))
  case first =>
    go_region
    all_goals
      go_wp2_with fail
      go_meet
      first
        | exact ⟨_, _, _, rfl, fin_mk (.inl ⟨rfl, rfl⟩) (.inr (.inl ⟨rfl, rfl⟩)) (.inr (.inr ⟨rfl, rfl⟩)) (by omega)⟩
        | exact ⟨_, _, _, rfl, fin_mk (.inl ⟨rfl, rfl⟩) (.inr (.inr ⟨rfl, rfl⟩)) (.inr (.inl ⟨rfl, rfl⟩)) (by omega)⟩
        | exact ⟨_, _, _, rfl, fin_mk (.inr (.inl ⟨rfl, rfl⟩)) (.inl ⟨rfl, rfl⟩) (.inr (.inr ⟨rfl, rfl⟩)) (by omega)⟩
        | exact ⟨_, _, _, rfl, fin_mk (.inr (.inl ⟨rfl, rfl⟩)) (.inr (.inr ⟨rfl, rfl⟩)) (.inl ⟨rfl, rfl⟩) (by omega)⟩
        | exact ⟨_, _, _, rfl, fin_mk (.inr (.inr ⟨rfl, rfl⟩)) (.inl ⟨rfl, rfl⟩) (.inr (.inl ⟨rfl, rfl⟩)) (by omega)⟩
        | exact ⟨_, _, _, rfl, fin_mk (.inr (.inr ⟨rfl, rfl⟩)) (.inr (.inl ⟨rfl, rfl⟩)) (.inl ⟨rfl, rfl⟩) (by omega)⟩
  case rest =>
    clear m9 m42 y1 y2 y3 x8 x0 x1 x2 x3 x4 x5 x6 x7
    obtain ⟨gB, gK, gL, rfl, HF⟩ := hcut
    have hwx := HF.out.b.size
    have HN1 : Hid (w.heap.size + 2 ≤ wc.heap.size) := by unfold Hid; rw [← HS.out]; exact hwx
    have HC : Hid (Cmp V l (w.heap.size + 2) wc.heap.size gB gK gL wc 0 0 wc) := by
      refine ⟨Below.refl _ _, Nat.le_refl _, rfl, ?_, fun _ _ => undef, ?_, fun m hm => absurd hm (Nat.not_lt_zero _)⟩
      · exact ⟨_, HF.out.hK, by rw [size_madeCells, Nat.mul_one], fun i hi => absurd hi (Nat.not_lt_zero _)⟩
      · exact ⟨_, HF.out.hL, size_madeCells _ _, fun i hi => absurd hi (Nat.not_lt_zero _)⟩
    go_wp2_with fail
    go_loopw [19] (fun i wr => ∃ j : Nat, j ≤ l.length ∧ i = .int .i64 j ∧ Hid (Cmp V l (w.heap.size + 2) wc.heap.size gB gK gL wc j j wr)) (fun i _ => l.length - (intOf i).toNat)
    case atStart => exact ⟨0, Nat.zero_le _, rfl, HC⟩
    case round =>
      obtain ⟨j, hj, rfl, HRel⟩ := hrel
      by_cases hlt : j < l.length
      · obtain ⟨b1, off, rfl, hb1, E1⟩ := AtRow.el (RowP.below HR.out ((HF.out.b.mono (by rw [HS.out]; omega)).trans (HRel.out.b.mono (by omega)))) hlt
        have BWr := Lib.hid ((HF.out.b.mono (by rw [HS.out]; exact Nat.le_refl _)).trans HRel.out.b : Below (w.heap.size + 2) w0 wr)
        have hsw := HRel.out.sz
        have hgB : gB < wr.heap.size := Nat.lt_of_lt_of_le HF.out.lB.2 hsw
        have hgK : gK < wr.heap.size := Nat.lt_of_lt_of_le HF.out.lK.2 hsw
        have hgL : gL < wr.heap.size := Nat.lt_of_lt_of_le HF.out.lL.2 hsw
        have hnw : w.heap.size + 2 ≤ wr.heap.size := Nat.le_trans HN1.out hsw
        obtain ⟨a, ha⟩ : ∃ a, aa l j = a := ⟨_, rfl⟩
        have how := HNO.out.1 a (by rw [← ha]; exact aa_mem hlt)
        have HNM := Lib.hid (HNO.out.2 a (by rw [← ha]; exact aa_mem hlt))
        rw [ha] at E1
        obtain ⟨nm, tk, t2, nd, cm, an, ow⟩ := a
        obtain rfl : ow = false := how
        have HA := Lib.hid ha
        obtain ⟨y0, y1, y2, y3, y4, y5, y6⟩ := E1
        obtain ⟨z0, z1, z2, z3, z4, z5, z6, z7⟩ := cells8 (HRel.out.bB.trans HF.out.hB)
        obtain ⟨vk, ck⟩ := HRel.out.k.cell1 j hlt
        have fk := HRel.out.k.free j
        have hb1' : b1 < wr.heap.size := by omega
        have hlt' : (j : Int) < (l.length : Int) := by omega
        have hgKn : w.heap.size + 2 ≤ gK := by have := HF.out.lK.1; rw [HS.out] at this; exact this
        have C0 := HRel.out.key (.string nm) (by rw [HA.out]) hlt hgKn HF.out.lK.2 HF.out.ne.1 HF.out.ne.2.2
        have C1 := Lib.hid (C0.keep (w1 := ((wr.setCell ⟨gK, j, none⟩ (.string nm)).alloc (.cells (ac ⟨nm, tk, t2, nd, cm, an, false⟩) 31))) (bal (Below.refl _ _) _) (by simp; omega) (by simp; omega))
        clear C0
        have HAB : Hid (((wr.setCell ⟨gK, j, none⟩ (.string nm)).alloc (.cells (ac ⟨nm, tk, t2, nd, cm, an, false⟩) 31)).heap[wr.heap.size]? = some (.cells (ac ⟨nm, tk, t2, nd, cm, an, false⟩) 31 (0, 0))) := at_top _ _ _ (by simp)
        have HZ3 : Hid (((wr.setCell ⟨gK, j, none⟩ (.string nm)).alloc (.cells (ac ⟨nm, tk, t2, nd, cm, an, false⟩) 31)).heap.size = wr.heap.size + 1) := by simp [Hid]
        have BW1 : Hid (Below (w.heap.size + 2) wr ((wr.setCell ⟨gK, j, none⟩ (.string nm)).alloc (.cells (ac ⟨nm, tk, t2, nd, cm, an, false⟩) 31))) := ((Below.refl _ _).setCell (p := ⟨gK, j, none⟩) hgKn _).alloc (by simp; omega) _
        clear ha
        go_upto_region 6 with (fail)
        clear y0 y1 y2 y3 y4 y5 y6 z0 z1 z2 z3 z4 z5 z6 z7 ck fk
        generalize World.alloc (wr.setCell _ _) _ = w1 at *
        obtain ⟨x8, x0, x1, x2, x3, x4, x5, x6, x7⟩ := HX.out.kept (BWr.out.trans BW1.out) (by omega)
        obtain ⟨z0, z1, z2, z3, z4, z5, z6, z7⟩ := cells8 (C1.out.bB.trans HF.out.hB)
        obtain ⟨a0, a1, a2, a3, a4, a5, a6, a7⟩ := rc7 HAB.out
        obtain ⟨N, hN⟩ : ∃ N, N = w1.heap.size := ⟨_, rfl⟩
        have S0 : (∀ b o, b < N → b ≠ gL → w1.drew.cell? ⟨b, o, none⟩ = w1.cell? ⟨b, o, none⟩) ∧ Hid (N ≤ w1.drew.heap.size) ∧ Hid (∀ b, b < N → b ≠ gL → w1.drew.heap[b]? = w1.heap[b]?) := ⟨fun _ _ _ _ => rfl, Nat.le_of_eq hN, fun _ _ _ => rfl⟩
        have lA : w.heap.size < N := by rw [hN, HZ3.out]; omega
        have lB : wr.heap.size < N := by rw [hN, HZ3.out]; omega
        have lC : gB < N := by rw [hN, HZ3.out]; omega
        have nA : w.heap.size ≠ gL := by have := HF.out.lL.1; rw [HS.out] at this; omega
        have nB : wr.heap.size ≠ gL := by omega
        have nC : gB ≠ gL := HF.out.ne.2.1
        have lL' : gL < N := by rw [hN, HZ3.out]; omega
        have hjl8 := hlt
        have HN := Lib.hid hN
        have CE2 : Hid (Calls Tryd.prog 69 #[vv V.k V.i V.s (.slice oL V.l.length cL) (.slice oK V.ks.length cK) V.tk V.to V.x, av ⟨nm, tk, t2, nd, cm, an, false⟩] w1.drew (VPost (elt V nm) w1.drew)) := CE.out ⟨nm, tk, t2, nd, cm, an, false⟩ w1.drew ((BWr.out.trans BW1.out).drew.mono (by omega))
        have HY : Hid (elt V (aa l j).nm = elt V nm) := by rw [HA.out]; rfl
        generalize elt V nm = Y at *
        obtain ⟨C, ⟨cs, e1, e2, e3⟩, f⟩ := C1.out.e
        have HCS := Lib.hid (And.intro e1 e2)
        clear hN e1 e2 e3 f
        refine wp_region_noPanic ?_
        refine wp_region_held_drew (S := (fun W => (∀ b o, b < N → b ≠ gL → W.cell? ⟨b, o, none⟩ = w1.cell? ⟨b, o, none⟩) ∧ Hid (N ≤ W.heap.size) ∧ Hid (∀ b, b < N → b ≠ gL → W.heap[b]? = w1.heap[b]?))) (by kernel_rfl) ?_ (fun hH => ?_)
        · exact S0
        refine wpAnyH_take (i := 0) (oi := { dst := some 30, op := Op.fieldAddr 42 (Operand.tmp 5) 3, type := 0, pos := "complete.go:65", after := #[], guard := none }) (v := ?_) rfl (by kernel_rfl) (by kernel_rfl) (by kernel_rfl) (fun _ _ _ h => h) (Or.inl ⟨by rfl, ?_⟩) (by assumption) ?_
        rotate_left
        · (intro w hSw; (try dsimp only at hSw); go_simp; try with_reducible rfl)
        try simp only [Act.put, List.setIfInBounds_toArray, List.set_cons_zero, List.set_cons_succ]
        refine wpAnyH_take (i := 1) (oi := { dst := some 31, op := Op.load 40 (Operand.tmp 30), type := 40, pos := "complete.go:65", after := #[{ on := 0, ground := Ground.data }], guard := none }) (v := ?_) rfl (by kernel_rfl) (by kernel_rfl) (by kernel_rfl) (fun _ _ _ h => h) (Or.inl ⟨by rfl, ?_⟩) (by assumption) ?_
        rotate_left
        · (intro w hSw; (try dsimp only at hSw); go_simp; try with_reducible rfl)
        try simp only [Act.put, List.setIfInBounds_toArray, List.set_cons_zero, List.set_cons_succ]
        refine wpAnyH_take (i := 2) (oi := { dst := some 32, op := Op.move (Operand.tmp 6), type := 3, pos := "complete.go:65", after := #[], guard := none }) (v := ?_) rfl (by kernel_rfl) (by kernel_rfl) (by kernel_rfl) (fun _ _ _ h => h) (Or.inl ⟨by rfl, ?_⟩) (by assumption) ?_
        rotate_left
        · (intro w hSw; (try dsimp only at hSw); go_simp; try with_reducible rfl)
        try simp only [Act.put, List.setIfInBounds_toArray, List.set_cons_zero, List.set_cons_succ]
        refine wpAnyH_take (i := 3) (oi := { dst := some 33, op := Op.load 42 (Operand.tmp 3), type := 42, pos := "complete.go:65", after := #[], guard := none }) (v := ?_) rfl (by kernel_rfl) (by kernel_rfl) (by kernel_rfl) (fun _ _ _ h => h) (Or.inl ⟨by rfl, ?_⟩) (by assumption) ?_
        rotate_left
        · (intro w hSw; (try dsimp only at hSw); go_simp; try with_reducible rfl)
        try simp only [Act.put, List.setIfInBounds_toArray, List.set_cons_zero, List.set_cons_succ]
        refine wpAnyH_take (i := 4) (oi := { dst := some 34, op := Op.load 31 (Operand.tmp 7), type := 31, pos := "complete.go:65", after := #[], guard := none }) (v := ?_) rfl (by kernel_rfl) (by kernel_rfl) (by kernel_rfl) (fun _ _ _ h => h) (Or.inl ⟨by rfl, ?_⟩) (by assumption) ?_
        rotate_left
        · (intro w hSw; (try dsimp only at hSw); go_simp; try with_reducible rfl)
        try simp only [Act.put, List.setIfInBounds_toArray, List.set_cons_zero, List.set_cons_succ]
        refine wpAnyH_ready (rs := [5]) (by kernel_rfl) (by simp) ?_
        refine AllReadyH.cons (o := { dst := some 35, op := Op.call { callee := Callee.value (Operand.func 69), args := #[Operand.tmp 33, Operand.tmp 34], argTypes := #[42, 31] }, type := 42, pos := "complete.go:65", after := #[{ on := 3, ground := Ground.data }, { on := 4, ground := Ground.data }], guard := none }) rfl (fun K hK => ?_) AllReadyH.nil
        go_simp
        refine (CE2.out).mono ?_
        rintro e W_0 ⟨o1, o3, c1, c3, cc, rfl, OY, b⟩
        refine hK.out _ _ ?_ (fun hH' => ?_)
        · exact ⟨fun b o hb hne => ((by assumption : Below w1.drew.heap.size w1.drew _).cell (p := ⟨b, o, none⟩) (by show b < w1.heap.size; rw [← HN.out]; exact hb)).trans (hH.1 b o hb hne), Nat.le_trans hH.2.1.out (by assumption : Below w1.drew.heap.size w1.drew _).size, fun b hb hne => ((by assumption : Below w1.drew.heap.size w1.drew _).block b (by show b < w1.heap.size; rw [← HN.out]; exact hb))⟩
        clear hK K hH
        have hH := hH'
        clear hH'
        try simp only [Act.put, List.setIfInBounds_toArray, List.set_cons_zero, List.set_cons_succ]
        refine wpAnyH_take (i := 6) (oi := { dst := some 36, op := Op.indexAddr 40 (Operand.tmp 31) (Operand.tmp 32), type := 0, pos := "complete.go:65", after := #[{ on := 1, ground := Ground.data }, { on := 2, ground := Ground.data }, { on := 0, ground := Ground.phase }, { on := 1, ground := Ground.phase }, { on := 2, ground := Ground.phase }, { on := 3, ground := Ground.phase }, { on := 4, ground := Ground.phase }, { on := 5, ground := Ground.phase }], guard := none }) (v := ?_) rfl (by kernel_rfl) (by kernel_rfl) (by kernel_rfl) (fun _ _ _ h => h) (Or.inl ⟨by rfl, ?_⟩) (by assumption) ?_
        rotate_left
        · (intro w hSw; (try dsimp only at hSw); go_simp; try with_reducible rfl)
        try simp only [Act.put, List.setIfInBounds_toArray, List.set_cons_zero, List.set_cons_succ]
        refine wpAnyH_ready (rs := [7]) (by kernel_rfl) (by simp) ?_
        refine AllReadyH.cons (o := { dst := none, op := Op.store 42 (Operand.tmp 36) (Operand.tmp 35), type := 0, pos := "complete.go:65", after := #[{ on := 6, ground := Ground.data }, { on := 5, ground := Ground.data }, { on := 5, ground := Ground.chain }, { on := 0, ground := Ground.phase }, { on := 1, ground := Ground.phase }, { on := 2, ground := Ground.phase }, { on := 3, ground := Ground.phase }, { on := 4, ground := Ground.phase }, { on := 5, ground := Ground.phase }], guard := none }) rfl (fun K hK => ?_) AllReadyH.nil
        have hcs7 : W_0.heap[gL]? = some (.cells cs 42 (0, 0)) := ((by assumption : Below w1.drew.heap.size w1.drew W_0).block gL (by show gL < w1.heap.size; rw [← HN.out]; exact lL')).trans HCS.out.1
        have hbW := (by assumption : Below w1.drew.heap.size w1.drew W_0)
        have hY8 := HY.out
        have FIN0 := ((C1.out.keep ((Below.refl w1.heap.size w1).drew.trans hbW) (by have := HZ3.out; omega) (by have := HZ3.out; omega)).elem (oL := o1) (oK := o3) (cL := c1) (cK := c3) (c := cc) (by rw [HY.out]; exact OY.mono fun q hq => ⟨Nat.le_trans hsw (Nat.le_trans (by have := HZ3.out; show wr.heap.size ≤ w1.heap.size; omega) hq.1), hq.2⟩) hlt (by have := HF.out.lL.1; rw [HS.out] at this; omega) HF.out.lL.2 HF.out.ne.2.1 HF.out.ne.2.2 hcs7 _ rfl)
        rw [HY.out] at FIN0
        have FIN := Lib.hid FIN0
        clear hY8 FIN0
        refine step_store_at rfl 42 (.tmp 36) (.tmp 35) rfl gL (j * 8) rfl (c8 Y (.slice o1 Y.l.length c1) (.slice o3 Y.ks.length c3)) rfl 42 cs hcs7 ?_ ?_ ?_ ?_
        · have := HCS.out.2; have : (j + 1) * 8 ≤ l.length * 8 := Nat.mul_le_mul_right 8 hlt; simp; omega
        · kernel_rfl
        · exact oneCell8 _ _ _ _ _ _ _
        refine hK.out _ _ ?_ (fun hH' => ?_)
        · exact ⟨fun b o hb hne => (World.cell?_of_block (setRow_other _ _ _ _ hne)).trans (hH.1 b o hb hne), by unfold Hid; rw [size_setRow]; exact hH.2.1.out, fun b hb hne => (setRow_other _ _ _ _ hne).trans (hH.2.2.out b hb hne)⟩
        clear hK K hH
        have hH := hH'
        clear hH'
        try simp only [Act.put, List.setIfInBounds_toArray, List.set_cons_zero, List.set_cons_succ]
        refine wpAnyH_done (by kernel_rfl) ?_ _
        refine NoPanic.normal ?_
        have q6 := (hH.1 wr.heap.size 6 lB nB).trans a6
        clear S0 hH x0 x1 x2 x3 x4 x5 x6 x7 z0 z1 z2 z3 z4 z5 z6 a0 a1 a2 a3 a4 a5 a6
        generalize World.setRow _ _ _ = wf at *
        go_wp2_with fail
        go_roundw
        case rel => exact ⟨j + 1, by omega, by go_num, FIN⟩
        case measure => simp [intOf]; omega
      · have hjl : j = l.length := by omega
        subst hjl
        have hsw := HRel.out.sz
        have BWr := Lib.hid ((HF.out.b.mono (by rw [HS.out]; exact Nat.le_refl _)).trans HRel.out.b : Below (w.heap.size + 2) w0 wr)
        obtain ⟨z0, z1, z2, z3, z4, z5, z6, z7⟩ := cells8 (HRel.out.bB.trans HF.out.hB)
        have QZ : Hid (wr.heap[w.heap.size + 1]? = some (.cells zc 42 (0, 0))) := (BWr.out.block _ (by omega)).trans HZC.out
        obtain ⟨C, ⟨cs, e1, e2, e3⟩, f⟩ := HRel.out.e
        obtain ⟨ck, d1, d2, d3⟩ := HRel.out.k
        have hgL : gL < wr.heap.size := Nat.lt_of_lt_of_le HF.out.lL.2 hsw
        have hgK : gK < wr.heap.size := Nat.lt_of_lt_of_le HF.out.lK.2 hsw
        have PART : Hid (OpnP (fun b => w.heap.size + 2 ≤ b ∧ b < wr.heap.size) wr (cmpl l V) (some ⟨gL, 0, none⟩) (some ⟨gK, 0, none⟩) l.length l.length C) := by
          have hl1 : (cmpl l V).l.length = l.length := by simp [cmpl, Val.l]
          have hl2 : (cmpl l V).ks.length = l.length := by simp [cmpl, Val.ks]
          refine ⟨(show (Lit.int .i64 (5 : Int)).wf = true by decide), (show (Lit.int .i64 (0 : Int)).wf = true by decide), (show (Lit.int .i64 (0 : Int)).wf = true by decide), (show (Lit.int .i64 (0 : Int)).wf = true by decide), Nat.zero_le _, fun s hs => ?_, ?_, ?_, fun q x hx => ?_⟩
          · simp only [cmpl, Val.ks, List.mem_map] at hs
            obtain ⟨a, ha, rfl⟩ := hs
            exact HNO.out.2 a ha
          · rw [hl1]
            refine ⟨Nat.le_refl _, by unfold maxLen; omega, fun e => (by cases e), fun _ => ⟨gL, 0, rfl, ⟨by have := HF.out.lL.1; rw [HS.out] at this; omega, hgL⟩, fun q hq m hm => ?_⟩⟩
            rw [cell_of_row wr gL _ cs 42 (0, 0) e1, Nat.zero_add]
            exact e3 q hq m hm
          · rw [hl2]
            refine ⟨Nat.le_refl _, by unfold maxLen; omega, fun e => (by cases e), fun _ => ⟨gK, 0, rfl, ⟨by have := HF.out.lK.1; rw [HS.out] at this; omega, hgK⟩, fun q hq m hm => ?_⟩⟩
            rw [cell_of_row wr gK _ ck 9 (0, 0) d1, Nat.zero_add, d3 q hq m hm]
            have : (cmpl l V).ks.getD q default = (aa l q).nm := by
              simp only [cmpl, Val.ks]
              rw [List.getD_eq_getElem?_getD, List.getElem?_map, aa_get hq]; rfl
            show some (Value.string (aa l q).nm) = some (Value.string ((cmpl l V).ks.getD q default))
            rw [this]
          · have hq : q < l.length := by
              have := (List.getElem?_eq_some_iff.1 hx).1; rw [hl1] at this; exact this
            have hx2 : x = elt V (aa l q).nm := by
              simp only [cmpl, Val.l, List.getElem?_map, aa_get hq, Option.map_some, Option.some.injEq] at hx
              exact hx.symm
            rw [hx2]
            exact (f q hq).mono fun b hb => ⟨by have := HN1.out; omega, hb.2⟩
        clear e1 e2 e3 f d1 d2 d3
        have R := Lib.hid (store_box' QZ.out (bxB V.x l.length gK gL) rfl)
        have BZ := Lib.hid (below_setRow (HB.out.trans (BWr.out.mono (by omega))) (Nat.le_succ _) (over zc (bxB V.x l.length gK gL)) : Below w.heap.size w (wr.setRow (w.heap.size + 1) (over zc (bxB V.x l.length gK gL))))
        have PZ := Lib.hid (PART.out.keptP (w' := wr.setRow (w.heap.size + 1) (over zc (bxB V.x l.length gK gL))) (P' := Fr w (wr.setRow (w.heap.size + 1) (over zc (bxB V.x l.length gK gL)))) fun q hq => ⟨⟨by have := hq.1; omega, by rw [size_setRow]; exact hq.2⟩, setRow_other _ _ _ _ (by have := hq.1; omega)⟩)
        go_upto_region 10 with (fail)
        go_wp2_with ((with_reducible refine wpList_store_at rfl 42 (.tmp 4) (.tmp 50) rfl (w.heap.size + 1) 0 rfl _ rfl 42 zc QZ.out ?su1 ?su2 ?su3 ?su4); case' su4 => generalize World.setRow _ _ _ = w5 at *)
        case su1 => simp
        case su2 => have := size42; simpa using this
        case su3 => simp [Value.oneCell']
        obtain ⟨p0, p1, p2, p3, p4, p5, p6, p7⟩ := cells8 (show w5.heap[w.heap.size + 1]? = some (.cells (bxB V.x l.length gK gL) 42 (0, 0)) from R.out)
        have hl1 : (cmpl l V).l.length = l.length := by simp [cmpl, Val.l]
        have hl2 : (cmpl l V).ks.length = l.length := by simp [cmpl, Val.ks]
        exact bodyPost_ret (v := vv 5 0 ⟨#[]⟩ (.slice (some ⟨gL, 0, none⟩) l.length l.length) (.slice (some ⟨gK, 0, none⟩) l.length l.length) 0 0 V.x) (by simp [results, Tryd.results53, go_sem, p0, p1, p2, p3, p4, p5, p6, p7]) rfl ⟨_, _, _, _, C, by rw [hl1, hl2]; rfl, PZ.out, BZ.out⟩
end Go.Proofs.YtfmgbhaldakpfaaDoor

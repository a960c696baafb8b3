/- GraphAsks: the law's walk. -/
import Derived.Test.YtonnopcafmhaaaaDoorD9
namespace Go.Proofs.YtonnopcafmhaaaaDoor
open Go.RowKit

theorem rowI_len3 (A : Nat → Nat → Bool) (N : Nat) (i : Int) : (rowI A N i).length ≤ 128 := by
  unfold rowI
  split
  · exact lst_len _ _
  · exact Nat.zero_le _
theorem nl_under_len3 (A : Nat → Nat → Bool) (N : Nat) (S : Nat → Bool) : (nl (underM A N S)).length ≤ N := by
  rw [nl_len]
  unfold underM
  exact Nat.le_trans (List.length_filter_le _ _) (by simp)
set_option maxRecDepth 20000 in
set_option maxHeartbeats 8000000 in
theorem gasks_any (n : Int) (pp : Option Addr) (m cap : Nat) (S : Nat → Option Addr) (M : Nat → List Int) (C : Nat → Nat) (xi : Int) (sq : Option Addr) (cq : Nat) (l : List Int) (w : World) (h : Pt w pp m S M C) (hm : m ≤ maxLen) (hr : Rd w sq l) (hl : l.length ≤ maxLen) (hT : Tab w) :
    Calls Tryd.prog 3 #[.int .i64 n, .slice pp m cap, .int .i64 xi, .slice sq l.length cq] w fun e w' => e = .returned (.bool true) ∧ Below w.heap.size w w' := by
  have HT := Lib.hid hT
  have GA := great_any n pp m cap S M C w h hm
  have AW := Lib.hid (awake_any w hT)
  have HL := Lib.hid hr
  have HLM := Lib.hid hl
  clear hr
  cases hg : greatB n m M with
  | true =>
    rw [hg] at GA
    clear hl
    clear h hT hg
    go_enter Tryd.func3, Tryd.ntmps3
    go_wp2_with fail
    refine GA.mono ?_
    rintro e w1 ⟨rfl, rfl⟩
    clear GA
    go_wp2_with fail
    refine AW.out.mono ?_
    rintro e w2 ⟨rfl, b⟩
    have B2 := Lib.hid b
    clear b AW
    go_wp2
    go_ret
    exact ⟨rfl, B2.out⟩
  | false =>
    rw [hg] at GA
    by_cases hl40 : 40 < l.length
    · have hl4 : decide ((40 : Int) < (l.length : Int)) = true := decide_eq_true (by omega)
      unfold maxLen at hl
      clear HL HLM hl40
      generalize l.length = ln at *
      clear h hT hg
      go_enter Tryd.func3, Tryd.ntmps3
      go_wp2_with fail
      refine GA.mono ?_
      rintro e w1 ⟨rfl, rfl⟩
      clear GA
      go_wp2_with fail
      refine AW.out.mono ?_
      rintro e w2 ⟨rfl, b⟩
      have B2 := Lib.hid b
      clear b AW
      go_wp2
      go_ret
      exact ⟨rfl, B2.out⟩
    · have hl4 : decide ((40 : Int) < (l.length : Int)) = false := decide_eq_false (by omega)
      have HP := Lib.hid h
      have hN := clamp_le n
      have CN := new_any n pp m cap S M C w h hm
      generalize hNN : clamp n = N at *
      have HNN := Lib.hid hNN
      generalize hAA : ahA N m M = A at *
      have HAA := Lib.hid hAA
      obtain ⟨s0, hs0⟩ : ∃ k, w.heap.size = k := ⟨_, rfl⟩
      have HS0 := Lib.hid hs0
      have hT0 : 0 < s0 := by rw [← hs0]; exact hT.1
      rw [hs0] at CN
      clear h hT hg hNN hAA AW hl
      go_enter Tryd.func3, Tryd.ntmps3
      go_wp2_with fail
      refine GA.mono ?_
      rintro e w1 ⟨rfl, rfl⟩
      clear GA
      go_wp2_with fail
      refine CN.mono ?_
      rintro e wa ⟨rfl, ga, ba⟩
      have HGa := Lib.hid ga
      have HBa := Lib.hid ba
      have hsa := ga.lt
      have CM := rnew_any n pp m cap S M C wa (HP.out.below ba (by have := HS0.out; omega)) hm
      rw [HNN.out, HAA.out] at CM
      clear CN ga ba hs0
      obtain ⟨sa, hsa2⟩ : ∃ k, wa.heap.size = k := ⟨_, rfl⟩
      rw [hsa2] at CM hsa
      have HSa := Lib.hid hsa2
      clear hsa2
      go_wp2_with fail
      refine CM.mono ?_
      rintro e wb ⟨rfl, gb, bb⟩
      have HXb := Lib.hid gb
      have HGb : Hid (GR wb s0 N A) := HGa.out.below bb (by omega)
      have HBb : Hid (Below s0 w wb) := HBa.out.trans (bb.mono (by omega))
      have CT := rturned_any gb
      have hxb := gb.lt
      clear CM gb bb HGa HBa
      obtain ⟨sb, hsb2⟩ : ∃ k, wb.heap.size = k := ⟨_, rfl⟩
      rw [hsb2] at CT hxb
      have HSb := Lib.hid hsb2
      clear hsb2
      go_wp2_with fail
      refine CT.mono ?_
      rintro e w1 ⟨rfl, gt, bt⟩
      obtain ⟨s1, hs⟩ : ∃ k, w1.heap.size = k := ⟨_, rfl⟩
      have HS1 := Lib.hid hs
      have hs1 : sb < s1 := by have := gt.lt; omega
      have HT1 := Lib.hid gt
      have HX1 : Hid (RG w1 sa N A) := HXb.out.below bt (by have := HSb.out; omega)
      have HG1 : Hid (GR w1 s0 N A) := HGb.out.below bt (by omega)
      have HW0 : Hid (Below s0 w w1) := HBb.out.trans (bt.mono (by omega))
      have HLE : Hid (∀ W, Below s1 w1 W → s1 ≤ W.heap.size) := fun W b => by have := b.size; omega
      have HTW : Hid (∀ W, Below s1 w1 W → Tab W) := fun W b => HT.out.below (HW0.out.trans (b.mono (by omega))) hT0
      have HGW : Hid (∀ W, Below s1 w1 W → GR W s0 N A) := fun W b => HG1.out.below b (by omega)
      have HXW : Hid (∀ W, Below s1 w1 W → RG W sa N A) := fun W b => HX1.out.below b (by omega)
      have HYW : Hid (∀ W, Below s1 w1 W → RG W sb N (turnA A)) := fun W b => HT1.out.below b (by omega)
      have HLW : Hid (∀ W, Below s1 w1 W → Rd W sq l) := fun W b => (HL.out.below HW0.out (by have := HS0.out; omega)).below b (by omega)
      have hf1 : Hid (∀ i k, A i k = true → i < N ∧ k < N) := HG1.out.fit
      have hML : ∀ k : Nat, k ≤ 128 → k ≤ maxLen := fun k hk => by unfold maxLen; omega
      have HML := Lib.hid hML
      have HB1 : Hid (Below s1 w1 w1) := Below.refl _ _
      have HR1 := Lib.hid (HML.out _ (rowI_len3 A N xi))
      have HR2 := Lib.hid (HML.out _ (rowI_len3 (turnA A) N xi))
      have HU1 := Lib.hid (HML.out _ (Nat.le_trans (nl_under_len3 A N (inL l)) hN))
      have HU2 := Lib.hid (HML.out _ (Nat.le_trans (nl_under_len3 (turnA A) N (inL l)) hN))
      have HD1 := Lib.hid (HML.out _ (Nat.le_trans (Nat.le_of_eq (dL_len A N)) hN))
      clear CT gt bt hs hML HXb HGb HBb hl4 hl40
      go_upto_region 5 with fail
      refine wp_region_noPanic ?_
      refine wp_region_held_drew (S := (fun W => Bw s1 w1 W)) (by kernel_rfl) ?_ (fun hH => ?_)
      · exact (show Bw s1 w1 w1 from Bw.of HB1.out)
      refine wpAnyH_take (i := 0) (oi := { dst := some 29, op := Op.move (Operand.tmp 9), type := 26, pos := "law.go:34", after := #[], guard := none }) (v := ?_) rfl (by kernel_rfl) (by kernel_rfl) (by kernel_rfl) (fun _ _ _ h => h) (Or.inl ⟨by rfl, ?_⟩) (by assumption) ?_
      rotate_left
      · (intro w hSw; (try dsimp only at hSw); go_simp; try with_reducible rfl)
      try simp only [Act.put, List.setIfInBounds_toArray, List.set_cons_zero, List.set_cons_succ]
      refine wpAnyH_take (i := 2) (oi := { dst := some 31, op := Op.move (Operand.tmp 10), type := 28, pos := "law.go:34", after := #[], guard := none }) (v := ?_) rfl (by kernel_rfl) (by kernel_rfl) (by kernel_rfl) (fun _ _ _ h => h) (Or.inl ⟨by rfl, ?_⟩) (by assumption) ?_
      rotate_left
      · (intro w hSw; (try dsimp only at hSw); go_simp; try with_reducible rfl)
      try simp only [Act.put, List.setIfInBounds_toArray, List.set_cons_zero, List.set_cons_succ]
      refine wpAnyH_take (i := 3) (oi := { dst := some 32, op := Op.nilCheck (Operand.tmp 31), type := 0, pos := "law.go:34", after := #[{ on := 2, ground := Ground.data }], guard := none }) (v := ?_) rfl (by kernel_rfl) (by kernel_rfl) (by kernel_rfl) (fun _ _ _ h => h) (Or.inl ⟨by rfl, ?_⟩) (by assumption) ?_
      rotate_left
      · (intro w hSw; (try dsimp only at hSw); go_simp; try with_reducible rfl)
      try simp only [Act.put, List.setIfInBounds_toArray, List.set_cons_zero, List.set_cons_succ]
      refine wpAnyH_take (i := 4) (oi := { dst := some 33, op := Op.fieldAddr 34 (Operand.tmp 32) 0, type := 0, pos := "law.go:34", after := #[{ on := 3, ground := Ground.data }], guard := none }) (v := ?_) rfl (by kernel_rfl) (by kernel_rfl) (by kernel_rfl) (fun _ _ _ h => h) (Or.inl ⟨by rfl, ?_⟩) (by assumption) ?_
      rotate_left
      · (intro w hSw; (try dsimp only at hSw); go_simp; try with_reducible rfl)
      try simp only [Act.put, List.setIfInBounds_toArray, List.set_cons_zero, List.set_cons_succ]
      refine wpAnyH_take (i := 5) (oi := { dst := some 34, op := Op.load 3 (Operand.tmp 33), type := 3, pos := "law.go:34", after := #[{ on := 4, ground := Ground.data }], guard := none }) (v := .int .i64 (N : Int)) rfl (by kernel_rfl) (by kernel_rfl) (by kernel_rfl) (fun _ _ _ h => h) (Or.inl ⟨by rfl, ?_⟩) (by assumption) ?_
      · (intro W hSw; have c0 := (HXW.out _ (Bw.below hSw)).c0; go_simp)
      try simp only [Act.put, List.setIfInBounds_toArray, List.set_cons_zero, List.set_cons_succ]
      refine wpAnyH_ready (rs := [1]) (by kernel_rfl) (by simp) ?_
      refine AllReadyH.cons (o := { dst := some 30, op := Op.call { callee := Callee.value (Operand.func 13), args := #[Operand.tmp 29], argTypes := #[26] }, type := 3, pos := "law.go:34", after := #[{ on := 0, ground := Ground.data }], guard := none }) rfl (fun K hK => ?_) AllReadyH.nil
      go_simp
      refine (len_any (HGW.out _ (Bw.below hH)).blk).mono ?_
      rintro e0 WZ ⟨rfl, rfl⟩
      refine hK.out _ _ ?_ (fun hH' => ?_)
      · exact hH
      clear hK K hH
      have hH := hH'
      clear hH'
      try simp only [Act.put, List.setIfInBounds_toArray, List.set_cons_zero, List.set_cons_succ]
      refine wpAnyH_take (i := 6) (oi := { dst := some 35, op := Op.binOp BinOp.eql 3 (Operand.tmp 30) (Operand.tmp 34) 3, type := 4, pos := "law.go:34", after := #[{ on := 1, ground := Ground.data }, { on := 5, ground := Ground.data }], guard := none }) (v := ?_) rfl (by kernel_rfl) (by kernel_rfl) (by kernel_rfl) (fun _ _ _ h => h) (Or.inl ⟨by rfl, ?_⟩) (by assumption) ?_
      rotate_left
      · (intro w hSw; (try dsimp only at hSw); go_simp; try with_reducible rfl)
      try simp only [Act.put, List.setIfInBounds_toArray, List.set_cons_zero, List.set_cons_succ]
      refine wpAnyH_take (i := 7) (oi := { dst := some 36, op := Op.move (Operand.tmp 35), type := 4, pos := "law.go:34", after := #[{ on := 6, ground := Ground.data }, { on := 1, ground := Ground.chain }], guard := none }) (v := ?_) rfl (by kernel_rfl) (by kernel_rfl) (by kernel_rfl) (fun _ _ _ h => h) (Or.inl ⟨by rfl, ?_⟩) (by assumption) ?_
      rotate_left
      · (intro w hSw; (try dsimp only at hSw); go_simp; try with_reducible rfl)
      try simp only [Act.put, List.setIfInBounds_toArray, List.set_cons_zero, List.set_cons_succ]
      refine wpAnyH_take (i := 8) (oi := { dst := some 37, op := Op.move (Operand.tmp 9), type := 26, pos := "law.go:34", after := #[{ on := 7, ground := Ground.guard }], guard := some (7, true) }) (v := ?_) rfl (by kernel_rfl) (by kernel_rfl) (by kernel_rfl) (fun _ _ _ h => h) (Or.inl ⟨by rfl, ?_⟩) (by assumption) ?_
      rotate_left
      · (intro w hSw; (try dsimp only at hSw); go_simp; try with_reducible rfl)
      try simp only [Act.put, List.setIfInBounds_toArray, List.set_cons_zero, List.set_cons_succ]
      refine wpAnyH_take (i := 9) (oi := { dst := some 38, op := Op.move (Operand.tmp 2), type := 3, pos := "law.go:34", after := #[{ on := 7, ground := Ground.guard }], guard := some (7, true) }) (v := ?_) rfl (by kernel_rfl) (by kernel_rfl) (by kernel_rfl) (fun _ _ _ h => h) (Or.inl ⟨by rfl, ?_⟩) (by assumption) ?_
      rotate_left
      · (intro w hSw; (try dsimp only at hSw); go_simp; try with_reducible rfl)
      try simp only [Act.put, List.setIfInBounds_toArray, List.set_cons_zero, List.set_cons_succ]
      refine wpAnyH_take (i := 11) (oi := { dst := some 40, op := Op.move (Operand.tmp 10), type := 28, pos := "law.go:34", after := #[{ on := 7, ground := Ground.guard }], guard := some (7, true) }) (v := ?_) rfl (by kernel_rfl) (by kernel_rfl) (by kernel_rfl) (fun _ _ _ h => h) (Or.inl ⟨by rfl, ?_⟩) (by assumption) ?_
      rotate_left
      · (intro w hSw; (try dsimp only at hSw); go_simp; try with_reducible rfl)
      try simp only [Act.put, List.setIfInBounds_toArray, List.set_cons_zero, List.set_cons_succ]
      refine wpAnyH_take (i := 12) (oi := { dst := some 41, op := Op.move (Operand.tmp 2), type := 3, pos := "law.go:34", after := #[{ on := 7, ground := Ground.guard }], guard := some (7, true) }) (v := ?_) rfl (by kernel_rfl) (by kernel_rfl) (by kernel_rfl) (fun _ _ _ h => h) (Or.inl ⟨by rfl, ?_⟩) (by assumption) ?_
      rotate_left
      · (intro w hSw; (try dsimp only at hSw); go_simp; try with_reducible rfl)
      try simp only [Act.put, List.setIfInBounds_toArray, List.set_cons_zero, List.set_cons_succ]
      refine wpAnyH_ready (rs := [10]) (by kernel_rfl) (by simp) ?_
      refine AllReadyH.cons (o := { dst := some 39, op := Op.call { callee := Callee.value (Operand.func 15), args := #[Operand.tmp 37, Operand.tmp 38], argTypes := #[26, 3] }, type := 23, pos := "law.go:34", after := #[{ on := 8, ground := Ground.data }, { on := 9, ground := Ground.data }, { on := 7, ground := Ground.chain }, { on := 7, ground := Ground.guard }], guard := some (7, true) }) rfl (fun K hK => ?_) AllReadyH.nil
      go_simp
      refine (ahead_any xi (HGW.out _ (Bw.below hH)).blk hN (HTW.out _ (Bw.below hH))).mono ?_
      rintro e0 W2 ⟨va, rfl, ⟨pa, ca, rfl, -, -, rd, -⟩, b⟩
      have HBB := Lib.hid b
      have Ha : Hid (Rd W2 pa (rowI A N xi)) := rd
      clear rd
      clear b
      refine hK.out _ _ ?_ (fun hH' => ?_)
      · exact Bw.of ((Bw.below hH).trans (HBB.out.mono (HLE.out _ (Bw.below hH))))
      clear hK K hH
      have hH := hH'
      clear hH'
      try simp only [Act.put, List.setIfInBounds_toArray, List.set_cons_zero, List.set_cons_succ]
      refine wpAnyH_ready (rs := [13]) (by kernel_rfl) (by simp) ?_
      refine AllReadyH.cons (o := { dst := some 42, op := Op.call { callee := Callee.value (Operand.func 16), args := #[Operand.tmp 40, Operand.tmp 41], argTypes := #[28, 3] }, type := 23, pos := "law.go:34", after := #[{ on := 11, ground := Ground.data }, { on := 12, ground := Ground.data }, { on := 10, ground := Ground.chain }, { on := 7, ground := Ground.guard }], guard := some (7, true) }) rfl (fun K hK => ?_) AllReadyH.nil
      go_simp
      refine (rlist_any xi (HXW.out _ (Bw.below hH)) (fun i k h => (hf1.out i k h).2)).mono ?_
      rintro e0 W3 ⟨vb, rfl, ⟨pb, cb, rfl, -, -, rd, -⟩, b⟩
      have HBB := Lib.hid b
      have Ha : Hid (Rd W3 pa (rowI A N xi)) := Ha.out.below HBB.out (Nat.le_refl _)
      have Hb : Hid (Rd W3 pb (rowI A N xi)) := rd
      clear rd
      clear b
      refine hK.out _ _ ?_ (fun hH' => ?_)
      · exact Bw.of ((Bw.below hH).trans (HBB.out.mono (HLE.out _ (Bw.below hH))))
      clear hK K hH
      have hH := hH'
      clear hH'
      try simp only [Act.put, List.setIfInBounds_toArray, List.set_cons_zero, List.set_cons_succ]
      refine wpAnyH_ready (rs := [14]) (by kernel_rfl) (by simp) ?_
      refine AllReadyH.cons (o := { dst := some 43, op := Op.call { callee := Callee.value (Operand.func 14), args := #[Operand.tmp 39, Operand.tmp 42], argTypes := #[23, 23] }, type := 4, pos := "law.go:34", after := #[{ on := 10, ground := Ground.data }, { on := 13, ground := Ground.data }, { on := 13, ground := Ground.chain }, { on := 7, ground := Ground.guard }], guard := some (7, true) }) rfl (fun K hK => ?_) AllReadyH.nil
      go_simp
      have CI := ints_any pa pb ca cb (rowI A N xi) (rowI A N xi) _ Ha.out Hb.out HR1.out HR1.out
      rw [decide_eq_true rfl] at CI
      refine CI.mono ?_
      rintro e0 W4 ⟨rfl, b⟩
      have HBB := Lib.hid b
      clear CI Ha Hb
      clear b
      refine hK.out _ _ ?_ (fun hH' => ?_)
      · exact Bw.of ((Bw.below hH).trans (HBB.out.mono (HLE.out _ (Bw.below hH))))
      clear hK K hH
      have hH := hH'
      clear hH'
      try simp only [Act.put, List.setIfInBounds_toArray, List.set_cons_zero, List.set_cons_succ]
      refine wpAnyH_take (i := 15) (oi := { dst := some 44, op := Op.pick (Operand.tmp 36) (Operand.tmp 43) (Operand.const (Value.bool false)), type := 4, pos := "law.go:34", after := #[{ on := 7, ground := Ground.data }, { on := 14, ground := Ground.data }], guard := none }) (v := ?_) rfl (by kernel_rfl) (by kernel_rfl) (by kernel_rfl) (fun _ _ _ h => h) (Or.inl ⟨by rfl, ?_⟩) (by assumption) ?_
      rotate_left
      · (intro w hSw; (try dsimp only at hSw); go_simp; try with_reducible rfl)
      try simp only [Act.put, List.setIfInBounds_toArray, List.set_cons_zero, List.set_cons_succ]
      refine wpAnyH_take (i := 16) (oi := { dst := some 45, op := Op.move (Operand.tmp 44), type := 4, pos := "law.go:34", after := #[{ on := 15, ground := Ground.data }, { on := 14, ground := Ground.chain }], guard := none }) (v := ?_) rfl (by kernel_rfl) (by kernel_rfl) (by kernel_rfl) (fun _ _ _ h => h) (Or.inl ⟨by rfl, ?_⟩) (by assumption) ?_
      rotate_left
      · (intro w hSw; (try dsimp only at hSw); go_simp; try with_reducible rfl)
      try simp only [Act.put, List.setIfInBounds_toArray, List.set_cons_zero, List.set_cons_succ]
      refine wpAnyH_take (i := 17) (oi := { dst := some 46, op := Op.move (Operand.tmp 9), type := 26, pos := "law.go:34", after := #[{ on := 16, ground := Ground.guard }], guard := some (16, true) }) (v := ?_) rfl (by kernel_rfl) (by kernel_rfl) (by kernel_rfl) (fun _ _ _ h => h) (Or.inl ⟨by rfl, ?_⟩) (by assumption) ?_
      rotate_left
      · (intro w hSw; (try dsimp only at hSw); go_simp; try with_reducible rfl)
      try simp only [Act.put, List.setIfInBounds_toArray, List.set_cons_zero, List.set_cons_succ]
      refine wpAnyH_take (i := 18) (oi := { dst := some 47, op := Op.move (Operand.tmp 2), type := 3, pos := "law.go:34", after := #[{ on := 16, ground := Ground.guard }], guard := some (16, true) }) (v := ?_) rfl (by kernel_rfl) (by kernel_rfl) (by kernel_rfl) (fun _ _ _ h => h) (Or.inl ⟨by rfl, ?_⟩) (by assumption) ?_
      rotate_left
      · (intro w hSw; (try dsimp only at hSw); go_simp; try with_reducible rfl)
      try simp only [Act.put, List.setIfInBounds_toArray, List.set_cons_zero, List.set_cons_succ]
      refine wpAnyH_take (i := 20) (oi := { dst := some 49, op := Op.move (Operand.tmp 11), type := 28, pos := "law.go:34", after := #[{ on := 16, ground := Ground.guard }], guard := some (16, true) }) (v := ?_) rfl (by kernel_rfl) (by kernel_rfl) (by kernel_rfl) (fun _ _ _ h => h) (Or.inl ⟨by rfl, ?_⟩) (by assumption) ?_
      rotate_left
      · (intro w hSw; (try dsimp only at hSw); go_simp; try with_reducible rfl)
      try simp only [Act.put, List.setIfInBounds_toArray, List.set_cons_zero, List.set_cons_succ]
      refine wpAnyH_take (i := 21) (oi := { dst := some 50, op := Op.move (Operand.tmp 2), type := 3, pos := "law.go:34", after := #[{ on := 16, ground := Ground.guard }], guard := some (16, true) }) (v := ?_) rfl (by kernel_rfl) (by kernel_rfl) (by kernel_rfl) (fun _ _ _ h => h) (Or.inl ⟨by rfl, ?_⟩) (by assumption) ?_
      rotate_left
      · (intro w hSw; (try dsimp only at hSw); go_simp; try with_reducible rfl)
      try simp only [Act.put, List.setIfInBounds_toArray, List.set_cons_zero, List.set_cons_succ]
      refine wpAnyH_ready (rs := [19]) (by kernel_rfl) (by simp) ?_
      refine AllReadyH.cons (o := { dst := some 48, op := Op.call { callee := Callee.value (Operand.func 17), args := #[Operand.tmp 46, Operand.tmp 47], argTypes := #[26, 3] }, type := 23, pos := "law.go:34", after := #[{ on := 17, ground := Ground.data }, { on := 18, ground := Ground.data }, { on := 16, ground := Ground.chain }, { on := 16, ground := Ground.guard }], guard := some (16, true) }) rfl (fun K hK => ?_) AllReadyH.nil
      go_simp
      refine (behind_any xi (HGW.out _ (Bw.below hH)).blk hN (HTW.out _ (Bw.below hH))).mono ?_
      rintro e0 W5 ⟨vc, rfl, ⟨pc, cc, rfl, -, -, rd, -⟩, b⟩
      have HBB := Lib.hid b
      have Hc : Hid (Rd W5 pc (rowI (turnA A) N xi)) := rd
      clear rd
      clear b
      refine hK.out _ _ ?_ (fun hH' => ?_)
      · exact Bw.of ((Bw.below hH).trans (HBB.out.mono (HLE.out _ (Bw.below hH))))
      clear hK K hH
      have hH := hH'
      clear hH'
      try simp only [Act.put, List.setIfInBounds_toArray, List.set_cons_zero, List.set_cons_succ]
      refine wpAnyH_ready (rs := [22]) (by kernel_rfl) (by simp) ?_
      refine AllReadyH.cons (o := { dst := some 51, op := Op.call { callee := Callee.value (Operand.func 16), args := #[Operand.tmp 49, Operand.tmp 50], argTypes := #[28, 3] }, type := 23, pos := "law.go:34", after := #[{ on := 20, ground := Ground.data }, { on := 21, ground := Ground.data }, { on := 19, ground := Ground.chain }, { on := 16, ground := Ground.guard }], guard := some (16, true) }) rfl (fun K hK => ?_) AllReadyH.nil
      go_simp
      refine (rlist_any xi (HYW.out _ (Bw.below hH)) (fun i k h => (hf1.out k i h).1)).mono ?_
      rintro e0 W6 ⟨vd, rfl, ⟨pd, cd, rfl, -, -, rd, -⟩, b⟩
      have HBB := Lib.hid b
      have Hc : Hid (Rd W6 pc (rowI (turnA A) N xi)) := Hc.out.below HBB.out (Nat.le_refl _)
      have Hd : Hid (Rd W6 pd (rowI (turnA A) N xi)) := rd
      clear rd
      clear b
      refine hK.out _ _ ?_ (fun hH' => ?_)
      · exact Bw.of ((Bw.below hH).trans (HBB.out.mono (HLE.out _ (Bw.below hH))))
      clear hK K hH
      have hH := hH'
      clear hH'
      try simp only [Act.put, List.setIfInBounds_toArray, List.set_cons_zero, List.set_cons_succ]
      refine wpAnyH_ready (rs := [23]) (by kernel_rfl) (by simp) ?_
      refine AllReadyH.cons (o := { dst := some 52, op := Op.call { callee := Callee.value (Operand.func 14), args := #[Operand.tmp 48, Operand.tmp 51], argTypes := #[23, 23] }, type := 4, pos := "law.go:34", after := #[{ on := 19, ground := Ground.data }, { on := 22, ground := Ground.data }, { on := 22, ground := Ground.chain }, { on := 16, ground := Ground.guard }], guard := some (16, true) }) rfl (fun K hK => ?_) AllReadyH.nil
      go_simp
      have CI := ints_any pc pd cc cd (rowI (turnA A) N xi) (rowI (turnA A) N xi) _ Hc.out Hd.out HR2.out HR2.out
      rw [decide_eq_true rfl] at CI
      refine CI.mono ?_
      rintro e0 W7 ⟨rfl, b⟩
      have HBB := Lib.hid b
      clear CI Hc Hd
      clear b
      refine hK.out _ _ ?_ (fun hH' => ?_)
      · exact Bw.of ((Bw.below hH).trans (HBB.out.mono (HLE.out _ (Bw.below hH))))
      clear hK K hH
      have hH := hH'
      clear hH'
      try simp only [Act.put, List.setIfInBounds_toArray, List.set_cons_zero, List.set_cons_succ]
      refine wpAnyH_take (i := 24) (oi := { dst := some 53, op := Op.pick (Operand.tmp 45) (Operand.tmp 52) (Operand.const (Value.bool false)), type := 4, pos := "law.go:34", after := #[{ on := 16, ground := Ground.data }, { on := 23, ground := Ground.data }], guard := none }) (v := ?_) rfl (by kernel_rfl) (by kernel_rfl) (by kernel_rfl) (fun _ _ _ h => h) (Or.inl ⟨by rfl, ?_⟩) (by assumption) ?_
      rotate_left
      · (intro w hSw; (try dsimp only at hSw); go_simp; try with_reducible rfl)
      try simp only [Act.put, List.setIfInBounds_toArray, List.set_cons_zero, List.set_cons_succ]
      refine wpAnyH_take (i := 25) (oi := { dst := some 54, op := Op.move (Operand.tmp 53), type := 4, pos := "law.go:34", after := #[{ on := 24, ground := Ground.data }, { on := 23, ground := Ground.chain }], guard := none }) (v := ?_) rfl (by kernel_rfl) (by kernel_rfl) (by kernel_rfl) (fun _ _ _ h => h) (Or.inl ⟨by rfl, ?_⟩) (by assumption) ?_
      rotate_left
      · (intro w hSw; (try dsimp only at hSw); go_simp; try with_reducible rfl)
      try simp only [Act.put, List.setIfInBounds_toArray, List.set_cons_zero, List.set_cons_succ]
      refine wpAnyH_take (i := 26) (oi := { dst := some 55, op := Op.move (Operand.tmp 9), type := 26, pos := "law.go:34", after := #[{ on := 25, ground := Ground.guard }], guard := some (25, true) }) (v := ?_) rfl (by kernel_rfl) (by kernel_rfl) (by kernel_rfl) (fun _ _ _ h => h) (Or.inl ⟨by rfl, ?_⟩) (by assumption) ?_
      rotate_left
      · (intro w hSw; (try dsimp only at hSw); go_simp; try with_reducible rfl)
      try simp only [Act.put, List.setIfInBounds_toArray, List.set_cons_zero, List.set_cons_succ]
      refine wpAnyH_take (i := 27) (oi := { dst := some 56, op := Op.move (Operand.tmp 3), type := 23, pos := "law.go:34", after := #[{ on := 25, ground := Ground.guard }], guard := some (25, true) }) (v := ?_) rfl (by kernel_rfl) (by kernel_rfl) (by kernel_rfl) (fun _ _ _ h => h) (Or.inl ⟨by rfl, ?_⟩) (by assumption) ?_
      rotate_left
      · (intro w hSw; (try dsimp only at hSw); go_simp; try with_reducible rfl)
      try simp only [Act.put, List.setIfInBounds_toArray, List.set_cons_zero, List.set_cons_succ]
      refine wpAnyH_take (i := 29) (oi := { dst := some 58, op := Op.move (Operand.tmp 10), type := 28, pos := "law.go:34", after := #[{ on := 25, ground := Ground.guard }], guard := some (25, true) }) (v := ?_) rfl (by kernel_rfl) (by kernel_rfl) (by kernel_rfl) (fun _ _ _ h => h) (Or.inl ⟨by rfl, ?_⟩) (by assumption) ?_
      rotate_left
      · (intro w hSw; (try dsimp only at hSw); go_simp; try with_reducible rfl)
      try simp only [Act.put, List.setIfInBounds_toArray, List.set_cons_zero, List.set_cons_succ]
      refine wpAnyH_take (i := 30) (oi := { dst := some 59, op := Op.move (Operand.tmp 3), type := 23, pos := "law.go:34", after := #[{ on := 25, ground := Ground.guard }], guard := some (25, true) }) (v := ?_) rfl (by kernel_rfl) (by kernel_rfl) (by kernel_rfl) (fun _ _ _ h => h) (Or.inl ⟨by rfl, ?_⟩) (by assumption) ?_
      rotate_left
      · (intro w hSw; (try dsimp only at hSw); go_simp; try with_reducible rfl)
      try simp only [Act.put, List.setIfInBounds_toArray, List.set_cons_zero, List.set_cons_succ]
      refine wpAnyH_ready (rs := [28]) (by kernel_rfl) (by simp) ?_
      refine AllReadyH.cons (o := { dst := some 57, op := Op.call { callee := Callee.value (Operand.func 18), args := #[Operand.tmp 55, Operand.tmp 56], argTypes := #[26, 23] }, type := 23, pos := "law.go:34", after := #[{ on := 26, ground := Ground.data }, { on := 27, ground := Ground.data }, { on := 25, ground := Ground.chain }, { on := 25, ground := Ground.guard }], guard := some (25, true) }) rfl (fun K hK => ?_) AllReadyH.nil
      go_simp
      refine (under_any sq cq l (HGW.out _ (Bw.below hH)) (HTW.out _ (Bw.below hH)) (HLW.out _ (Bw.below hH)) HLM.out).mono ?_
      rintro e0 W8 ⟨vf, rfl, ⟨pf, cf, rfl, -, -, rd, -⟩, b⟩
      have HBB := Lib.hid b
      have Hf : Hid (Rd W8 pf (nl (underM A N (inL l)))) := rd
      clear rd
      clear b
      refine hK.out _ _ ?_ (fun hH' => ?_)
      · exact Bw.of ((Bw.below hH).trans (HBB.out.mono (HLE.out _ (Bw.below hH))))
      clear hK K hH
      have hH := hH'
      clear hH'
      try simp only [Act.put, List.setIfInBounds_toArray, List.set_cons_zero, List.set_cons_succ]
      refine wpAnyH_ready (rs := [31]) (by kernel_rfl) (by simp) ?_
      refine AllReadyH.cons (o := { dst := some 60, op := Op.call { callee := Callee.value (Operand.func 19), args := #[Operand.tmp 58, Operand.tmp 59], argTypes := #[28, 23] }, type := 23, pos := "law.go:34", after := #[{ on := 29, ground := Ground.data }, { on := 30, ground := Ground.data }, { on := 28, ground := Ground.chain }, { on := 25, ground := Ground.guard }], guard := some (25, true) }) rfl (fun K hK => ?_) AllReadyH.nil
      go_simp
      refine (runder_any sq cq l (HXW.out _ (Bw.below hH)) (HLW.out _ (Bw.below hH)) HLM.out).mono ?_
      rintro e0 W9 ⟨vg, rfl, ⟨pg, cg, rfl, -, -, rd, -⟩, b⟩
      have HBB := Lib.hid b
      have Hf : Hid (Rd W9 pf (nl (underM A N (inL l)))) := Hf.out.below HBB.out (Nat.le_refl _)
      have Hg : Hid (Rd W9 pg (nl (underM A N (inL l)))) := rd
      clear rd
      clear b
      refine hK.out _ _ ?_ (fun hH' => ?_)
      · exact Bw.of ((Bw.below hH).trans (HBB.out.mono (HLE.out _ (Bw.below hH))))
      clear hK K hH
      have hH := hH'
      clear hH'
      try simp only [Act.put, List.setIfInBounds_toArray, List.set_cons_zero, List.set_cons_succ]
      refine wpAnyH_ready (rs := [32]) (by kernel_rfl) (by simp) ?_
      refine AllReadyH.cons (o := { dst := some 61, op := Op.call { callee := Callee.value (Operand.func 14), args := #[Operand.tmp 57, Operand.tmp 60], argTypes := #[23, 23] }, type := 4, pos := "law.go:34", after := #[{ on := 28, ground := Ground.data }, { on := 31, ground := Ground.data }, { on := 31, ground := Ground.chain }, { on := 25, ground := Ground.guard }], guard := some (25, true) }) rfl (fun K hK => ?_) AllReadyH.nil
      go_simp
      have CI := ints_any pf pg cf cg (nl (underM A N (inL l))) (nl (underM A N (inL l))) _ Hf.out Hg.out HU1.out HU1.out
      rw [decide_eq_true rfl] at CI
      refine CI.mono ?_
      rintro e0 W10 ⟨rfl, b⟩
      have HBB := Lib.hid b
      clear CI Hf Hg
      clear b
      refine hK.out _ _ ?_ (fun hH' => ?_)
      · exact Bw.of ((Bw.below hH).trans (HBB.out.mono (HLE.out _ (Bw.below hH))))
      clear hK K hH
      have hH := hH'
      clear hH'
      try simp only [Act.put, List.setIfInBounds_toArray, List.set_cons_zero, List.set_cons_succ]
      refine wpAnyH_take (i := 33) (oi := { dst := some 62, op := Op.pick (Operand.tmp 54) (Operand.tmp 61) (Operand.const (Value.bool false)), type := 4, pos := "law.go:34", after := #[{ on := 25, ground := Ground.data }, { on := 32, ground := Ground.data }], guard := none }) (v := ?_) rfl (by kernel_rfl) (by kernel_rfl) (by kernel_rfl) (fun _ _ _ h => h) (Or.inl ⟨by rfl, ?_⟩) (by assumption) ?_
      rotate_left
      · (intro w hSw; (try dsimp only at hSw); go_simp; try with_reducible rfl)
      try simp only [Act.put, List.setIfInBounds_toArray, List.set_cons_zero, List.set_cons_succ]
      refine wpAnyH_take (i := 34) (oi := { dst := some 63, op := Op.move (Operand.tmp 62), type := 4, pos := "law.go:34", after := #[{ on := 33, ground := Ground.data }, { on := 32, ground := Ground.chain }], guard := none }) (v := ?_) rfl (by kernel_rfl) (by kernel_rfl) (by kernel_rfl) (fun _ _ _ h => h) (Or.inl ⟨by rfl, ?_⟩) (by assumption) ?_
      rotate_left
      · (intro w hSw; (try dsimp only at hSw); go_simp; try with_reducible rfl)
      try simp only [Act.put, List.setIfInBounds_toArray, List.set_cons_zero, List.set_cons_succ]
      refine wpAnyH_take (i := 35) (oi := { dst := some 64, op := Op.move (Operand.tmp 9), type := 26, pos := "law.go:34", after := #[{ on := 34, ground := Ground.guard }], guard := some (34, true) }) (v := ?_) rfl (by kernel_rfl) (by kernel_rfl) (by kernel_rfl) (fun _ _ _ h => h) (Or.inl ⟨by rfl, ?_⟩) (by assumption) ?_
      rotate_left
      · (intro w hSw; (try dsimp only at hSw); go_simp; try with_reducible rfl)
      try simp only [Act.put, List.setIfInBounds_toArray, List.set_cons_zero, List.set_cons_succ]
      refine wpAnyH_take (i := 36) (oi := { dst := some 65, op := Op.move (Operand.tmp 3), type := 23, pos := "law.go:34", after := #[{ on := 34, ground := Ground.guard }], guard := some (34, true) }) (v := ?_) rfl (by kernel_rfl) (by kernel_rfl) (by kernel_rfl) (fun _ _ _ h => h) (Or.inl ⟨by rfl, ?_⟩) (by assumption) ?_
      rotate_left
      · (intro w hSw; (try dsimp only at hSw); go_simp; try with_reducible rfl)
      try simp only [Act.put, List.setIfInBounds_toArray, List.set_cons_zero, List.set_cons_succ]
      refine wpAnyH_take (i := 38) (oi := { dst := some 67, op := Op.move (Operand.tmp 11), type := 28, pos := "law.go:34", after := #[{ on := 34, ground := Ground.guard }], guard := some (34, true) }) (v := ?_) rfl (by kernel_rfl) (by kernel_rfl) (by kernel_rfl) (fun _ _ _ h => h) (Or.inl ⟨by rfl, ?_⟩) (by assumption) ?_
      rotate_left
      · (intro w hSw; (try dsimp only at hSw); go_simp; try with_reducible rfl)
      try simp only [Act.put, List.setIfInBounds_toArray, List.set_cons_zero, List.set_cons_succ]
      refine wpAnyH_take (i := 39) (oi := { dst := some 68, op := Op.move (Operand.tmp 3), type := 23, pos := "law.go:34", after := #[{ on := 34, ground := Ground.guard }], guard := some (34, true) }) (v := ?_) rfl (by kernel_rfl) (by kernel_rfl) (by kernel_rfl) (fun _ _ _ h => h) (Or.inl ⟨by rfl, ?_⟩) (by assumption) ?_
      rotate_left
      · (intro w hSw; (try dsimp only at hSw); go_simp; try with_reducible rfl)
      try simp only [Act.put, List.setIfInBounds_toArray, List.set_cons_zero, List.set_cons_succ]
      refine wpAnyH_ready (rs := [37]) (by kernel_rfl) (by simp) ?_
      refine AllReadyH.cons (o := { dst := some 66, op := Op.call { callee := Callee.value (Operand.func 20), args := #[Operand.tmp 64, Operand.tmp 65], argTypes := #[26, 23] }, type := 23, pos := "law.go:34", after := #[{ on := 35, ground := Ground.data }, { on := 36, ground := Ground.data }, { on := 34, ground := Ground.chain }, { on := 34, ground := Ground.guard }], guard := some (34, true) }) rfl (fun K hK => ?_) AllReadyH.nil
      go_simp
      refine (over_any sq cq l (HGW.out _ (Bw.below hH)) (HTW.out _ (Bw.below hH)) (HLW.out _ (Bw.below hH)) HLM.out).mono ?_
      rintro e0 W11 ⟨vi, rfl, ⟨pi, ci, rfl, -, -, rd, -⟩, b⟩
      have HBB := Lib.hid b
      have Hi : Hid (Rd W11 pi (nl (underM (turnA A) N (inL l)))) := rd
      clear rd
      clear b
      refine hK.out _ _ ?_ (fun hH' => ?_)
      · exact Bw.of ((Bw.below hH).trans (HBB.out.mono (HLE.out _ (Bw.below hH))))
      clear hK K hH
      have hH := hH'
      clear hH'
      try simp only [Act.put, List.setIfInBounds_toArray, List.set_cons_zero, List.set_cons_succ]
      refine wpAnyH_ready (rs := [40]) (by kernel_rfl) (by simp) ?_
      refine AllReadyH.cons (o := { dst := some 69, op := Op.call { callee := Callee.value (Operand.func 19), args := #[Operand.tmp 67, Operand.tmp 68], argTypes := #[28, 23] }, type := 23, pos := "law.go:34", after := #[{ on := 38, ground := Ground.data }, { on := 39, ground := Ground.data }, { on := 37, ground := Ground.chain }, { on := 34, ground := Ground.guard }], guard := some (34, true) }) rfl (fun K hK => ?_) AllReadyH.nil
      go_simp
      refine (runder_any sq cq l (HYW.out _ (Bw.below hH)) (HLW.out _ (Bw.below hH)) HLM.out).mono ?_
      rintro e0 W12 ⟨vj, rfl, ⟨pj, cj, rfl, -, -, rd, -⟩, b⟩
      have HBB := Lib.hid b
      have Hi : Hid (Rd W12 pi (nl (underM (turnA A) N (inL l)))) := Hi.out.below HBB.out (Nat.le_refl _)
      have Hj : Hid (Rd W12 pj (nl (underM (turnA A) N (inL l)))) := rd
      clear rd
      clear b
      refine hK.out _ _ ?_ (fun hH' => ?_)
      · exact Bw.of ((Bw.below hH).trans (HBB.out.mono (HLE.out _ (Bw.below hH))))
      clear hK K hH
      have hH := hH'
      clear hH'
      try simp only [Act.put, List.setIfInBounds_toArray, List.set_cons_zero, List.set_cons_succ]
      refine wpAnyH_ready (rs := [41]) (by kernel_rfl) (by simp) ?_
      refine AllReadyH.cons (o := { dst := some 70, op := Op.call { callee := Callee.value (Operand.func 14), args := #[Operand.tmp 66, Operand.tmp 69], argTypes := #[23, 23] }, type := 4, pos := "law.go:34", after := #[{ on := 37, ground := Ground.data }, { on := 40, ground := Ground.data }, { on := 40, ground := Ground.chain }, { on := 34, ground := Ground.guard }], guard := some (34, true) }) rfl (fun K hK => ?_) AllReadyH.nil
      go_simp
      have CI := ints_any pi pj ci cj (nl (underM (turnA A) N (inL l))) (nl (underM (turnA A) N (inL l))) _ Hi.out Hj.out HU2.out HU2.out
      rw [decide_eq_true rfl] at CI
      refine CI.mono ?_
      rintro e0 W13 ⟨rfl, b⟩
      have HBB := Lib.hid b
      clear CI Hi Hj
      clear b
      refine hK.out _ _ ?_ (fun hH' => ?_)
      · exact Bw.of ((Bw.below hH).trans (HBB.out.mono (HLE.out _ (Bw.below hH))))
      clear hK K hH
      have hH := hH'
      clear hH'
      try simp only [Act.put, List.setIfInBounds_toArray, List.set_cons_zero, List.set_cons_succ]
      refine wpAnyH_take (i := 42) (oi := { dst := some 71, op := Op.pick (Operand.tmp 63) (Operand.tmp 70) (Operand.const (Value.bool false)), type := 4, pos := "law.go:34", after := #[{ on := 34, ground := Ground.data }, { on := 41, ground := Ground.data }], guard := none }) (v := ?_) rfl (by kernel_rfl) (by kernel_rfl) (by kernel_rfl) (fun _ _ _ h => h) (Or.inl ⟨by rfl, ?_⟩) (by assumption) ?_
      rotate_left
      · (intro w hSw; (try dsimp only at hSw); go_simp; try with_reducible rfl)
      try simp only [Act.put, List.setIfInBounds_toArray, List.set_cons_zero, List.set_cons_succ]
      refine wpAnyH_take (i := 43) (oi := { dst := some 72, op := Op.move (Operand.tmp 71), type := 4, pos := "law.go:34", after := #[{ on := 42, ground := Ground.data }, { on := 41, ground := Ground.chain }], guard := none }) (v := ?_) rfl (by kernel_rfl) (by kernel_rfl) (by kernel_rfl) (fun _ _ _ h => h) (Or.inl ⟨by rfl, ?_⟩) (by assumption) ?_
      rotate_left
      · (intro w hSw; (try dsimp only at hSw); go_simp; try with_reducible rfl)
      try simp only [Act.put, List.setIfInBounds_toArray, List.set_cons_zero, List.set_cons_succ]
      refine wpAnyH_take (i := 44) (oi := { dst := some 73, op := Op.move (Operand.tmp 9), type := 26, pos := "law.go:34", after := #[{ on := 43, ground := Ground.guard }], guard := some (43, true) }) (v := ?_) rfl (by kernel_rfl) (by kernel_rfl) (by kernel_rfl) (fun _ _ _ h => h) (Or.inl ⟨by rfl, ?_⟩) (by assumption) ?_
      rotate_left
      · (intro w hSw; (try dsimp only at hSw); go_simp; try with_reducible rfl)
      try simp only [Act.put, List.setIfInBounds_toArray, List.set_cons_zero, List.set_cons_succ]
      refine wpAnyH_take (i := 46) (oi := { dst := some 75, op := Op.move (Operand.tmp 10), type := 28, pos := "law.go:34", after := #[{ on := 43, ground := Ground.guard }], guard := some (43, true) }) (v := ?_) rfl (by kernel_rfl) (by kernel_rfl) (by kernel_rfl) (fun _ _ _ h => h) (Or.inl ⟨by rfl, ?_⟩) (by assumption) ?_
      rotate_left
      · (intro w hSw; (try dsimp only at hSw); go_simp; try with_reducible rfl)
      try simp only [Act.put, List.setIfInBounds_toArray, List.set_cons_zero, List.set_cons_succ]
      refine wpAnyH_ready (rs := [45]) (by kernel_rfl) (by simp) ?_
      refine AllReadyH.cons (o := { dst := some 74, op := Op.call { callee := Callee.value (Operand.func 21), args := #[Operand.tmp 73], argTypes := #[26] }, type := 23, pos := "law.go:34", after := #[{ on := 44, ground := Ground.data }, { on := 43, ground := Ground.chain }, { on := 43, ground := Ground.guard }], guard := some (43, true) }) rfl (fun K hK => ?_) AllReadyH.nil
      go_simp
      refine (deep_any (HGW.out _ (Bw.below hH)) (HTW.out _ (Bw.below hH))).mono ?_
      rintro e0 W14 ⟨vk, rfl, ⟨pk, ck, rfl, -, -, rd, -⟩, b⟩
      have HBB := Lib.hid b
      have Hk : Hid (Rd W14 pk (dL A N)) := rd
      clear rd
      clear b
      refine hK.out _ _ ?_ (fun hH' => ?_)
      · exact Bw.of ((Bw.below hH).trans (HBB.out.mono (HLE.out _ (Bw.below hH))))
      clear hK K hH
      have hH := hH'
      clear hH'
      try simp only [Act.put, List.setIfInBounds_toArray, List.set_cons_zero, List.set_cons_succ]
      refine wpAnyH_ready (rs := [47]) (by kernel_rfl) (by simp) ?_
      refine AllReadyH.cons (o := { dst := some 76, op := Op.call { callee := Callee.value (Operand.func 22), args := #[Operand.tmp 75], argTypes := #[28] }, type := 23, pos := "law.go:34", after := #[{ on := 46, ground := Ground.data }, { on := 45, ground := Ground.chain }, { on := 43, ground := Ground.guard }], guard := some (43, true) }) rfl (fun K hK => ?_) AllReadyH.nil
      go_simp
      refine (rdeep_any (HXW.out _ (Bw.below hH))).mono ?_
      rintro e0 W15 ⟨vq, rfl, ⟨pq, cq, rfl, -, -, rd, -⟩, b⟩
      have HBB := Lib.hid b
      have Hk : Hid (Rd W15 pk (dL A N)) := Hk.out.below HBB.out (Nat.le_refl _)
      have Hq : Hid (Rd W15 pq (dL A N)) := rd
      clear rd
      clear b
      refine hK.out _ _ ?_ (fun hH' => ?_)
      · exact Bw.of ((Bw.below hH).trans (HBB.out.mono (HLE.out _ (Bw.below hH))))
      clear hK K hH
      have hH := hH'
      clear hH'
      try simp only [Act.put, List.setIfInBounds_toArray, List.set_cons_zero, List.set_cons_succ]
      refine wpAnyH_ready (rs := [48]) (by kernel_rfl) (by simp) ?_
      refine AllReadyH.cons (o := { dst := some 77, op := Op.call { callee := Callee.value (Operand.func 14), args := #[Operand.tmp 74, Operand.tmp 76], argTypes := #[23, 23] }, type := 4, pos := "law.go:34", after := #[{ on := 45, ground := Ground.data }, { on := 47, ground := Ground.data }, { on := 47, ground := Ground.chain }, { on := 43, ground := Ground.guard }], guard := some (43, true) }) rfl (fun K hK => ?_) AllReadyH.nil
      go_simp
      have CI := ints_any pk pq ck cq (dL A N) (dL A N) _ Hk.out Hq.out HD1.out HD1.out
      rw [decide_eq_true rfl] at CI
      refine CI.mono ?_
      rintro e0 W16 ⟨rfl, b⟩
      have HBB := Lib.hid b
      clear CI Hk Hq
      clear b
      refine hK.out _ _ ?_ (fun hH' => ?_)
      · exact Bw.of ((Bw.below hH).trans (HBB.out.mono (HLE.out _ (Bw.below hH))))
      clear hK K hH
      have hH := hH'
      clear hH'
      try simp only [Act.put, List.setIfInBounds_toArray, List.set_cons_zero, List.set_cons_succ]
      refine wpAnyH_take (i := 49) (oi := { dst := some 78, op := Op.pick (Operand.tmp 72) (Operand.tmp 77) (Operand.const (Value.bool false)), type := 4, pos := "law.go:34", after := #[{ on := 43, ground := Ground.data }, { on := 48, ground := Ground.data }], guard := none }) (v := ?_) rfl (by kernel_rfl) (by kernel_rfl) (by kernel_rfl) (fun _ _ _ h => h) (Or.inl ⟨by rfl, ?_⟩) (by assumption) ?_
      rotate_left
      · (intro w hSw; (try dsimp only at hSw); go_simp; try with_reducible rfl)
      try simp only [Act.put, List.setIfInBounds_toArray, List.set_cons_zero, List.set_cons_succ]
      refine wpAnyH_take (i := 50) (oi := { dst := some 79, op := Op.move (Operand.tmp 78), type := 4, pos := "law.go:34", after := #[{ on := 49, ground := Ground.data }, { on := 48, ground := Ground.chain }], guard := none }) (v := ?_) rfl (by kernel_rfl) (by kernel_rfl) (by kernel_rfl) (fun _ _ _ h => h) (Or.inl ⟨by rfl, ?_⟩) (by assumption) ?_
      rotate_left
      · (intro w hSw; (try dsimp only at hSw); go_simp; try with_reducible rfl)
      try simp only [Act.put, List.setIfInBounds_toArray, List.set_cons_zero, List.set_cons_succ]
      refine wpAnyH_take (i := 51) (oi := { dst := some 80, op := Op.move (Operand.tmp 9), type := 26, pos := "law.go:34", after := #[{ on := 50, ground := Ground.guard }], guard := some (50, true) }) (v := ?_) rfl (by kernel_rfl) (by kernel_rfl) (by kernel_rfl) (fun _ _ _ h => h) (Or.inl ⟨by rfl, ?_⟩) (by assumption) ?_
      rotate_left
      · (intro w hSw; (try dsimp only at hSw); go_simp; try with_reducible rfl)
      try simp only [Act.put, List.setIfInBounds_toArray, List.set_cons_zero, List.set_cons_succ]
      refine wpAnyH_take (i := 53) (oi := { dst := some 82, op := Op.move (Operand.tmp 2), type := 3, pos := "law.go:34", after := #[{ on := 50, ground := Ground.guard }], guard := some (50, true) }) (v := ?_) rfl (by kernel_rfl) (by kernel_rfl) (by kernel_rfl) (fun _ _ _ h => h) (Or.inl ⟨by rfl, ?_⟩) (by assumption) ?_
      rotate_left
      · (intro w hSw; (try dsimp only at hSw); go_simp; try with_reducible rfl)
      try simp only [Act.put, List.setIfInBounds_toArray, List.set_cons_zero, List.set_cons_succ]
      refine wpAnyH_take (i := 55) (oi := { dst := some 84, op := Op.move (Operand.tmp 11), type := 28, pos := "law.go:34", after := #[{ on := 50, ground := Ground.guard }], guard := some (50, true) }) (v := ?_) rfl (by kernel_rfl) (by kernel_rfl) (by kernel_rfl) (fun _ _ _ h => h) (Or.inl ⟨by rfl, ?_⟩) (by assumption) ?_
      rotate_left
      · (intro w hSw; (try dsimp only at hSw); go_simp; try with_reducible rfl)
      try simp only [Act.put, List.setIfInBounds_toArray, List.set_cons_zero, List.set_cons_succ]
      refine wpAnyH_take (i := 56) (oi := { dst := some 85, op := Op.move (Operand.tmp 2), type := 3, pos := "law.go:34", after := #[{ on := 50, ground := Ground.guard }], guard := some (50, true) }) (v := ?_) rfl (by kernel_rfl) (by kernel_rfl) (by kernel_rfl) (fun _ _ _ h => h) (Or.inl ⟨by rfl, ?_⟩) (by assumption) ?_
      rotate_left
      · (intro w hSw; (try dsimp only at hSw); go_simp; try with_reducible rfl)
      try simp only [Act.put, List.setIfInBounds_toArray, List.set_cons_zero, List.set_cons_succ]
      refine wpAnyH_ready (rs := [52]) (by kernel_rfl) (by simp) ?_
      refine AllReadyH.cons (o := { dst := some 81, op := Op.call { callee := Callee.value (Operand.func 23), args := #[Operand.tmp 80], argTypes := #[26] }, type := 26, pos := "law.go:34", after := #[{ on := 51, ground := Ground.data }, { on := 50, ground := Ground.chain }, { on := 50, ground := Ground.guard }], guard := some (50, true) }) rfl (fun K hK => ?_) AllReadyH.nil
      go_simp
      refine (turned_any (HGW.out _ (Bw.below hH))).mono ?_
      rintro e0 W17 ⟨rfl, gt, b⟩
      have HBB := Lib.hid b
      have HGT := Lib.hid gt
      clear gt
      clear b
      refine hK.out _ _ ?_ (fun hH' => ?_)
      · exact Bw.of ((Bw.below hH).trans (HBB.out.mono (HLE.out _ (Bw.below hH))))
      clear hK K hH
      have hH := hH'
      clear hH'
      try simp only [Act.put, List.setIfInBounds_toArray, List.set_cons_zero, List.set_cons_succ]
      refine wpAnyH_ready (rs := [54]) (by kernel_rfl) (by simp) ?_
      refine AllReadyH.cons (o := { dst := some 83, op := Op.call { callee := Callee.value (Operand.func 15), args := #[Operand.tmp 81, Operand.tmp 82], argTypes := #[26, 3] }, type := 23, pos := "law.go:34", after := #[{ on := 52, ground := Ground.data }, { on := 53, ground := Ground.data }, { on := 52, ground := Ground.chain }, { on := 50, ground := Ground.guard }], guard := some (50, true) }) rfl (fun K hK => ?_) AllReadyH.nil
      go_simp
      refine (ahead_any xi HGT.out.blk hN (HTW.out _ (Bw.below hH))).mono ?_
      rintro e0 W18 ⟨vr, rfl, ⟨pr, cr, rfl, -, -, rd, -⟩, b⟩
      have HBB := Lib.hid b
      have Hr : Hid (Rd W18 pr (rowI (turnA A) N xi)) := rd
      clear rd
      clear HGT
      clear b
      refine hK.out _ _ ?_ (fun hH' => ?_)
      · exact Bw.of ((Bw.below hH).trans (HBB.out.mono (HLE.out _ (Bw.below hH))))
      clear hK K hH
      have hH := hH'
      clear hH'
      try simp only [Act.put, List.setIfInBounds_toArray, List.set_cons_zero, List.set_cons_succ]
      refine wpAnyH_ready (rs := [57]) (by kernel_rfl) (by simp) ?_
      refine AllReadyH.cons (o := { dst := some 86, op := Op.call { callee := Callee.value (Operand.func 16), args := #[Operand.tmp 84, Operand.tmp 85], argTypes := #[28, 3] }, type := 23, pos := "law.go:34", after := #[{ on := 55, ground := Ground.data }, { on := 56, ground := Ground.data }, { on := 54, ground := Ground.chain }, { on := 50, ground := Ground.guard }], guard := some (50, true) }) rfl (fun K hK => ?_) AllReadyH.nil
      go_simp
      refine (rlist_any xi (HYW.out _ (Bw.below hH)) (fun i k h => (hf1.out k i h).1)).mono ?_
      rintro e0 W19 ⟨vt, rfl, ⟨pt, ct, rfl, -, -, rd, -⟩, b⟩
      have HBB := Lib.hid b
      have Hr : Hid (Rd W19 pr (rowI (turnA A) N xi)) := Hr.out.below HBB.out (Nat.le_refl _)
      have Ht : Hid (Rd W19 pt (rowI (turnA A) N xi)) := rd
      clear rd
      clear b
      refine hK.out _ _ ?_ (fun hH' => ?_)
      · exact Bw.of ((Bw.below hH).trans (HBB.out.mono (HLE.out _ (Bw.below hH))))
      clear hK K hH
      have hH := hH'
      clear hH'
      try simp only [Act.put, List.setIfInBounds_toArray, List.set_cons_zero, List.set_cons_succ]
      refine wpAnyH_ready (rs := [58]) (by kernel_rfl) (by simp) ?_
      refine AllReadyH.cons (o := { dst := some 87, op := Op.call { callee := Callee.value (Operand.func 14), args := #[Operand.tmp 83, Operand.tmp 86], argTypes := #[23, 23] }, type := 4, pos := "law.go:34", after := #[{ on := 54, ground := Ground.data }, { on := 57, ground := Ground.data }, { on := 57, ground := Ground.chain }, { on := 50, ground := Ground.guard }], guard := some (50, true) }) rfl (fun K hK => ?_) AllReadyH.nil
      go_simp
      have CI := ints_any pr pt cr ct (rowI (turnA A) N xi) (rowI (turnA A) N xi) _ Hr.out Ht.out HR2.out HR2.out
      rw [decide_eq_true rfl] at CI
      refine CI.mono ?_
      rintro e0 W20 ⟨rfl, b⟩
      have HBB := Lib.hid b
      clear CI Hr Ht
      clear b
      refine hK.out _ _ ?_ (fun hH' => ?_)
      · exact Bw.of ((Bw.below hH).trans (HBB.out.mono (HLE.out _ (Bw.below hH))))
      clear hK K hH
      have hH := hH'
      clear hH'
      try simp only [Act.put, List.setIfInBounds_toArray, List.set_cons_zero, List.set_cons_succ]
      refine wpAnyH_take (i := 59) (oi := { dst := some 88, op := Op.pick (Operand.tmp 79) (Operand.tmp 87) (Operand.const (Value.bool false)), type := 4, pos := "law.go:34", after := #[{ on := 50, ground := Ground.data }, { on := 58, ground := Ground.data }], guard := none }) (v := ?_) rfl (by kernel_rfl) (by kernel_rfl) (by kernel_rfl) (fun _ _ _ h => h) (Or.inl ⟨by rfl, ?_⟩) (by assumption) ?_
      rotate_left
      · (intro w hSw; (try dsimp only at hSw); go_simp; try with_reducible rfl)
      try simp only [Act.put, List.setIfInBounds_toArray, List.set_cons_zero, List.set_cons_succ]
      refine wpAnyH_take (i := 60) (oi := { dst := some 89, op := Op.move (Operand.tmp 88), type := 4, pos := "law.go:34", after := #[{ on := 59, ground := Ground.data }, { on := 58, ground := Ground.chain }], guard := none }) (v := ?_) rfl (by kernel_rfl) (by kernel_rfl) (by kernel_rfl) (fun _ _ _ h => h) (Or.inl ⟨by rfl, ?_⟩) (by assumption) ?_
      rotate_left
      · (intro w hSw; (try dsimp only at hSw); go_simp; try with_reducible rfl)
      try simp only [Act.put, List.setIfInBounds_toArray, List.set_cons_zero, List.set_cons_succ]
      refine wpAnyH_ready (rs := [61]) (by kernel_rfl) (by simp) ?_
      refine AllReadyH.cons (o := { dst := some 90, op := Op.call { callee := Callee.value (Operand.func 9), args := #[], argTypes := #[] }, type := 4, pos := "law.go:34", after := #[{ on := 60, ground := Ground.chain }, { on := 60, ground := Ground.guard }], guard := some (60, true) }) rfl (fun K hK => ?_) AllReadyH.nil
      go_simp
      refine (awake_any _ (HTW.out _ (Bw.below hH))).mono ?_
      rintro e0 W21 ⟨rfl, b⟩
      have HBB := Lib.hid b
      clear b
      refine hK.out _ _ ?_ (fun hH' => ?_)
      · exact Bw.of ((Bw.below hH).trans (HBB.out.mono (HLE.out _ (Bw.below hH))))
      clear hK K hH
      have hH := hH'
      clear hH'
      try simp only [Act.put, List.setIfInBounds_toArray, List.set_cons_zero, List.set_cons_succ]
      refine wpAnyH_take (i := 62) (oi := { dst := some 91, op := Op.pick (Operand.tmp 89) (Operand.tmp 90) (Operand.const (Value.bool false)), type := 4, pos := "law.go:34", after := #[{ on := 60, ground := Ground.data }, { on := 61, ground := Ground.data }], guard := none }) (v := ?_) rfl (by kernel_rfl) (by kernel_rfl) (by kernel_rfl) (fun _ _ _ h => h) (Or.inl ⟨by rfl, ?_⟩) (by assumption) ?_
      rotate_left
      · (intro w hSw; (try dsimp only at hSw); go_simp; try with_reducible rfl)
      try simp only [Act.put, List.setIfInBounds_toArray, List.set_cons_zero, List.set_cons_succ]
      refine wpAnyH_take (i := 63) (oi := { dst := some 8, op := Op.assign (Operand.tmp 91), type := 4, pos := "law.go:34", after := ([{ on := 62, ground := Ground.data }, { on := 61, ground := Ground.chain }, { on := 0, ground := Ground.phase }, { on := 1, ground := Ground.phase }, { on := 2, ground := Ground.phase }, { on := 3, ground := Ground.phase }, { on := 4, ground := Ground.phase }, { on := 5, ground := Ground.phase }, { on := 6, ground := Ground.phase }, { on := 7, ground := Ground.phase }, { on := 8, ground := Ground.phase }, { on := 9, ground := Ground.phase }, { on := 10, ground := Ground.phase }, { on := 11, ground := Ground.phase }, { on := 12, ground := Ground.phase }, { on := 13, ground := Ground.phase }, { on := 14, ground := Ground.phase }, { on := 15, ground := Ground.phase }, { on := 16, ground := Ground.phase }, { on := 17, ground := Ground.phase }, { on := 18, ground := Ground.phase }, { on := 19, ground := Ground.phase }, { on := 20, ground := Ground.phase }, { on := 21, ground := Ground.phase }, { on := 22, ground := Ground.phase }, { on := 23, ground := Ground.phase }, { on := 24, ground := Ground.phase }, { on := 25, ground := Ground.phase }, { on := 26, ground := Ground.phase }, { on := 27, ground := Ground.phase }, { on := 28, ground := Ground.phase }, { on := 29, ground := Ground.phase }].append [{ on := 30, ground := Ground.phase }, { on := 31, ground := Ground.phase }, { on := 32, ground := Ground.phase }, { on := 33, ground := Ground.phase }, { on := 34, ground := Ground.phase }, { on := 35, ground := Ground.phase }, { on := 36, ground := Ground.phase }, { on := 37, ground := Ground.phase }, { on := 38, ground := Ground.phase }, { on := 39, ground := Ground.phase }, { on := 40, ground := Ground.phase }, { on := 41, ground := Ground.phase }, { on := 42, ground := Ground.phase }, { on := 43, ground := Ground.phase }, { on := 44, ground := Ground.phase }, { on := 45, ground := Ground.phase }, { on := 46, ground := Ground.phase }, { on := 47, ground := Ground.phase }, { on := 48, ground := Ground.phase }, { on := 49, ground := Ground.phase }, { on := 50, ground := Ground.phase }, { on := 51, ground := Ground.phase }, { on := 52, ground := Ground.phase }, { on := 53, ground := Ground.phase }, { on := 54, ground := Ground.phase }, { on := 55, ground := Ground.phase }, { on := 56, ground := Ground.phase }, { on := 57, ground := Ground.phase }, { on := 58, ground := Ground.phase }, { on := 59, ground := Ground.phase }, { on := 60, ground := Ground.phase }, { on := 61, ground := Ground.phase }, { on := 62, ground := Ground.phase }]).toArray, guard := none }) (v := ?_) rfl (by kernel_rfl) (by kernel_rfl) (by kernel_rfl) (fun _ _ _ h => h) (Or.inl ⟨by rfl, ?_⟩) (by assumption) ?_
      rotate_left
      · (intro w hSw; (try dsimp only at hSw); go_simp; try with_reducible rfl)
      try simp only [Act.put, List.setIfInBounds_toArray, List.set_cons_zero, List.set_cons_succ]
      refine wpAnyH_done (by kernel_rfl) ?_ _
      refine NoPanic.normal ?_
      have HEND : Hid (Below w.heap.size w W21) := by
        unfold Hid; rw [HS0.out]; exact HW0.out.trans ((Bw.below hH).mono (by omega))
      clear hH
      go_wp2_with fail
      go_ret
      exact ⟨rfl, HEND.out⟩
end Go.Proofs.YtonnopcafmhaaaaDoor

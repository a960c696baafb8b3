/- LexPlaces' walk. -/
import Derived.Test.YtejpbebfkogmfaaDoorPb
namespace Go.Proofs.YtejpbebfkogmfaaDoor
open Go.RowKit

theorem held_next {N : Nat} {W0 W1 W2 : World} (b : Below W1.heap.size W1 W2) (h : (∀ b o, b < N → W1.cell? ⟨b, o, none⟩ = W0.cell? ⟨b, o, none⟩) ∧ Hid (Below N W0 W1) ∧ Hid (N ≤ W1.heap.size)) :
    (∀ b o, b < N → W2.cell? ⟨b, o, none⟩ = W0.cell? ⟨b, o, none⟩) ∧ Hid (Below N W0 W2) ∧ Hid (N ≤ W2.heap.size) := by
  have hB : Below N W0 W2 := h.2.1.out.trans (b.mono h.2.2.out)
  exact ⟨fun b o hb => hB.cell (p := ⟨b, o, none⟩) hb, hB, Nat.le_trans h.2.2.out b.size⟩
theorem held_at {N : Nat} {W0 : World} (h : N = W0.heap.size) : (∀ b o, b < N → W0.drew.cell? ⟨b, o, none⟩ = W0.cell? ⟨b, o, none⟩) ∧ Hid (Below N W0 W0.drew) ∧ Hid (N ≤ W0.drew.heap.size) :=
  ⟨fun _ _ _ => rfl, (Below.refl _ _).drew, Nat.le_of_eq h⟩
theorem PR.mono {n m : Nat} {w : World} {o : Option Addr} {cap : Nat} {ps : List PA} (h : PR n w o cap ps) (hm : n ≤ m) : PR m w o cap ps :=
  ⟨h.le, h.cm, fun i x hx => by obtain ⟨b, off, e, hn, h5⟩ := h.el i x hx; exact ⟨b, off, e, by omega, h5⟩⟩
set_option maxRecDepth 100000 in
set_option maxHeartbeats 8000000 in
theorem lplaces_any {s : ByteArray} {x : Int} {A B : TA} {w : World} (hT : Tab w) (hs : s.size ≤ 9223372036854775807) (PA' : PR w.heap.size w A.o A.cap A.ps) (PB : PR w.heap.size w B.o B.cap B.ps) :
    Calls Tryd.prog 3 #[.string s, .int .i64 x, tav A, tav B] w fun e w' => e = .returned (.bool true) ∧ Below w.heap.size w w' := by
  obtain ⟨N, hN⟩ : ∃ N, N = w.heap.size := ⟨_, rfl⟩
  obtain ⟨w0, hw0⟩ : ∃ w0, w0 = (w.alloc (.cells (tac A) 26)).alloc (.cells (tac B) 26) := ⟨_, rfl⟩
  have hb : Below N w w0 := by rw [hw0, hN]; exact below2 w _ _
  have ra : w0.heap[N]? = some (.cells (tac A) 26 (0, 0)) := by
    rw [hw0, hN]; exact ((Below.refl (w.heap.size + 1) (w.alloc _)).alloc (by simp) _).block _ (Nat.lt_succ_self _) |>.trans (heap_alloc_new w _)
  have rb : w0.heap[N + 1]? = some (.cells (tac B) 26 (0, 0)) := by
    have := heap_alloc_new (w.alloc (.cells (tac A) 26)) (.cells (tac B) 26)
    rw [show (w.alloc (.cells (tac A) 26)).heap.size = N + 1 by simp [hN]] at this
    rw [hw0]; exact this
  rw [← hN] at PA' PB
  obtain ⟨N2, hN2⟩ : ∃ N2, N2 = w0.heap.size := ⟨_, rfl⟩
  have hT0 : Tab w0 := hT.below hb (by rw [hN]; exact hT.1)
  have hNN : N ≤ N2 := by have := (Array.getElem?_eq_some_iff.1 ra).1; omega
  have HPA : Hid (∀ W, Below N2 w0 W → PR W.heap.size W A.o A.cap A.ps) := fun W h => ((PA'.kept hb).kept (h.mono hNN)).mono (by have := h.size; omega)
  have HPB : Hid (∀ W, Below N2 w0 W → PR W.heap.size W B.o B.cap B.ps) := fun W h => ((PB.kept hb).kept (h.mono hNN)).mono (by have := h.size; omega)
  have HAW : Hid (∀ W, Below N2 w0 W → Calls Tryd.prog 7 #[] W fun e w' => e = .returned (.bool true) ∧ Below W.heap.size W w') := fun W h => awake_any (hT0.below h (by rw [hN2]; exact hT0.1))
  have HB0 := Lib.hid hb
  have HFN : Hid (∀ w', Below N w w' → Below w.heap.size w w') := fun w' h => by rw [← hN]; exact h
  obtain ⟨⟨a0, a1, a2, a3, a4, a5, a6⟩, -, la⟩ := rc7 ra
  obtain ⟨⟨b0, b1, b2, b3, b4, b5, b6⟩, -, lb'⟩ := rc7 rb
  have hNl : N < N2 := by omega
  have hNl1 : N + 1 < N2 := by omega
  clear hT hT0 PA' PB hb ra rb
  have HN2 := Lib.hid hN2
  clear hN2 hNN
  by_cases hbig : 5000 < s.size
  case pos =>
    have hbg : (5000 : Int) < s.size := by omega
    clear hbig
    go_enter Tryd.func3, Tryd.ntmps3
    go_upto_region 1 with fail
    rw [← hw0, ← hN]
    clear hw0 hN
    rw [HN2.out] at HAW
    go_wp2_with fail
    refine (HAW.out w0 (Below.refl _ _)).mono ?_
    rintro e w4 ⟨rfl, hB4⟩
    have HB4 := Lib.hid (HB0.out.trans (hB4.mono (by omega)))
    clear hB4
    go_wp2_with fail
    go_ret
    exact ⟨rfl, HFN.out _ HB4.out⟩
  have hbg : ¬ (5000 : Int) < s.size := by omega
  by_cases hpa : 40 < A.ps.length
  case pos =>
    have hpa' : (40 : Int) < A.ps.length := by omega
    clear hpa
    go_enter Tryd.func3, Tryd.ntmps3
    go_upto_region 1 with fail
    rw [← hw0, ← hN]
    clear hw0 hN
    rw [HN2.out] at HAW
    go_wp2_with fail
    refine (HAW.out w0 (Below.refl _ _)).mono ?_
    rintro e w4 ⟨rfl, hB4⟩
    have HB4 := Lib.hid (HB0.out.trans (hB4.mono (by omega)))
    clear hB4
    go_wp2_with fail
    go_ret
    exact ⟨rfl, HFN.out _ HB4.out⟩
  have hpa' : ¬ (40 : Int) < A.ps.length := by omega
  by_cases hpb : 40 < B.ps.length
  case pos =>
    have hpb' : (40 : Int) < B.ps.length := by omega
    clear hpb
    go_enter Tryd.func3, Tryd.ntmps3
    go_upto_region 1 with fail
    rw [← hw0, ← hN]
    clear hw0 hN
    rw [HN2.out] at HAW
    go_wp2_with fail
    refine (HAW.out w0 (Below.refl _ _)).mono ?_
    rintro e w4 ⟨rfl, hB4⟩
    have HB4 := Lib.hid (HB0.out.trans (hB4.mono (by omega)))
    clear hB4
    go_wp2_with fail
    go_ret
    exact ⟨rfl, HFN.out _ HB4.out⟩
  case neg =>
    have hpb' : ¬ (40 : Int) < B.ps.length := by omega
    have C8 := fun w => at_any s (by omega) x w
    have C9 := fun w => rat_any s (by omega) x w
    generalize plc (lb s) x.toNat = p at *
    have C8 := Lib.hid C8
    have C9 := Lib.hid C9
    clear hpa hpb hbig
    go_enter Tryd.func3, Tryd.ntmps3
    go_upto_region 1 with fail
    rw [← hw0, ← hN]
    clear hw0 hN
    go_upto_region 3 with fail
    have S0 := held_at HN2.out
    refine wp_region_noPanic ?_
    refine wp_region_held_drew (S := (fun W => (∀ b o, b < N2 → W.cell? ⟨b, o, none⟩ = w0.cell? ⟨b, o, none⟩) ∧ Hid (Below N2 w0 W) ∧ Hid (N2 ≤ W.heap.size))) (by kernel_rfl) ?_ (fun hH => ?_)
    · exact S0
    refine wpAnyH_take (i := 0) (oi := { dst := some 25, op := Op.move (Operand.tmp 0), type := 9, pos := "law.go:32", after := #[], guard := none }) (v := ?_) rfl (by kernel_rfl) (by kernel_rfl) (by kernel_rfl) (fun _ _ _ h => h) (Or.inl ⟨by rfl, ?_⟩) (by assumption) ?_
    rotate_left
    · (intro w hSw; (try dsimp only at hSw); go_simp; try with_reducible rfl)
    try simp only [Act.put, List.setIfInBounds_toArray, List.set_cons_zero, List.set_cons_succ]
    refine wpAnyH_take (i := 1) (oi := { dst := some 26, op := Op.move (Operand.tmp 1), type := 3, pos := "law.go:32", after := #[], guard := none }) (v := ?_) rfl (by kernel_rfl) (by kernel_rfl) (by kernel_rfl) (fun _ _ _ h => h) (Or.inl ⟨by rfl, ?_⟩) (by assumption) ?_
    rotate_left
    · (intro w hSw; (try dsimp only at hSw); go_simp; try with_reducible rfl)
    try simp only [Act.put, List.setIfInBounds_toArray, List.set_cons_zero, List.set_cons_succ]
    refine wpAnyH_take (i := 3) (oi := { dst := some 28, op := Op.move (Operand.tmp 0), type := 9, pos := "law.go:32", after := #[], guard := none }) (v := ?_) rfl (by kernel_rfl) (by kernel_rfl) (by kernel_rfl) (fun _ _ _ h => h) (Or.inl ⟨by rfl, ?_⟩) (by assumption) ?_
    rotate_left
    · (intro w hSw; (try dsimp only at hSw); go_simp; try with_reducible rfl)
    try simp only [Act.put, List.setIfInBounds_toArray, List.set_cons_zero, List.set_cons_succ]
    refine wpAnyH_take (i := 4) (oi := { dst := some 29, op := Op.move (Operand.tmp 1), type := 3, pos := "law.go:32", after := #[], guard := none }) (v := ?_) rfl (by kernel_rfl) (by kernel_rfl) (by kernel_rfl) (fun _ _ _ h => h) (Or.inl ⟨by rfl, ?_⟩) (by assumption) ?_
    rotate_left
    · (intro w hSw; (try dsimp only at hSw); go_simp; try with_reducible rfl)
    try simp only [Act.put, List.setIfInBounds_toArray, List.set_cons_zero, List.set_cons_succ]
    refine wpAnyH_ready (rs := [2]) (by kernel_rfl) (by simp) ?_
    refine AllReadyH.cons (o := { dst := some 27, op := Op.call { callee := Callee.value (Operand.func 8), args := #[Operand.tmp 25, Operand.tmp 26], argTypes := #[9, 3] }, type := 24, pos := "law.go:32", after := #[{ on := 0, ground := Ground.data }, { on := 1, ground := Ground.data }], guard := none }) rfl (fun K hK => ?_) AllReadyH.nil
    go_simp
    refine (C8.out _).mono ?_
    rintro e W_0 ⟨rfl, bq⟩
    refine hK.out _ _ ?_ (fun hH' => ?_)
    · exact held_next (by assumption) hH
    clear hK K hH
    have hH := hH'
    clear hH'
    try simp only [Act.put, List.setIfInBounds_toArray, List.set_cons_zero, List.set_cons_succ]
    refine wpAnyH_ready (rs := [5]) (by kernel_rfl) (by simp) ?_
    refine AllReadyH.cons (o := { dst := some 30, op := Op.call { callee := Callee.value (Operand.func 9), args := #[Operand.tmp 28, Operand.tmp 29], argTypes := #[9, 3] }, type := 24, pos := "law.go:32", after := #[{ on := 3, ground := Ground.data }, { on := 4, ground := Ground.data }, { on := 2, ground := Ground.chain }], guard := none }) rfl (fun K hK => ?_) AllReadyH.nil
    go_simp
    refine (C9.out _).mono ?_
    rintro e W_1 ⟨rfl, bq⟩
    refine hK.out _ _ ?_ (fun hH' => ?_)
    · exact held_next (by assumption) hH
    clear hK K hH
    have hH := hH'
    clear hH'
    try simp only [Act.put, List.setIfInBounds_toArray, List.set_cons_zero, List.set_cons_succ]
    refine wpAnyH_take (i := 6) (oi := { dst := some 31, op := Op.binOp BinOp.eql 24 (Operand.tmp 27) (Operand.tmp 30) 24, type := 4, pos := "law.go:32", after := #[{ on := 2, ground := Ground.data }, { on := 5, ground := Ground.data }], guard := none }) (v := ?_) rfl (by kernel_rfl) (by kernel_rfl) (by kernel_rfl) (fun _ _ _ h => h) (Or.inl ⟨by rfl, ?_⟩) (by assumption) ?_
    rotate_left
    · (intro w hSw; (try dsimp only at hSw); go_simp; try with_reducible rfl)
    try simp only [Act.put, List.setIfInBounds_toArray, List.set_cons_zero, List.set_cons_succ]
    refine wpAnyH_take (i := 7) (oi := { dst := some 32, op := Op.move (Operand.tmp 31), type := 4, pos := "law.go:32", after := #[{ on := 6, ground := Ground.data }, { on := 5, ground := Ground.chain }], guard := none }) (v := ?_) rfl (by kernel_rfl) (by kernel_rfl) (by kernel_rfl) (fun _ _ _ h => h) (Or.inl ⟨by rfl, ?_⟩) (by assumption) ?_
    rotate_left
    · (intro w hSw; (try dsimp only at hSw); go_simp; try with_reducible rfl)
    try simp only [Act.put, List.setIfInBounds_toArray, List.set_cons_zero, List.set_cons_succ]
    refine wpAnyH_take (i := 8) (oi := { dst := some 33, op := Op.load 26 (Operand.tmp 6), type := 26, pos := "law.go:32", after := #[{ on := 7, ground := Ground.guard }], guard := some (7, true) }) (v := ?_) rfl (by kernel_rfl) (by kernel_rfl) (by kernel_rfl) (fun _ _ _ h => h) (Or.inl ⟨by rfl, ?_⟩) (by assumption) ?_
    rotate_left
    · (intro w hSw; (try dsimp only at hSw); go_simp; try with_reducible rfl)
    try simp only [Act.put, List.setIfInBounds_toArray, List.set_cons_zero, List.set_cons_succ]
    refine wpAnyH_take (i := 9) (oi := { dst := some 34, op := Op.load 26 (Operand.tmp 7), type := 26, pos := "law.go:32", after := #[{ on := 7, ground := Ground.guard }], guard := some (7, true) }) (v := ?_) rfl (by kernel_rfl) (by kernel_rfl) (by kernel_rfl) (fun _ _ _ h => h) (Or.inl ⟨by rfl, ?_⟩) (by assumption) ?_
    rotate_left
    · (intro w hSw; (try dsimp only at hSw); go_simp; try with_reducible rfl)
    try simp only [Act.put, List.setIfInBounds_toArray, List.set_cons_zero, List.set_cons_succ]
    refine wpAnyH_take (i := 11) (oi := { dst := some 36, op := Op.load 26 (Operand.tmp 6), type := 26, pos := "law.go:32", after := #[{ on := 7, ground := Ground.guard }], guard := some (7, true) }) (v := ?_) rfl (by kernel_rfl) (by kernel_rfl) (by kernel_rfl) (fun _ _ _ h => h) (Or.inl ⟨by rfl, ?_⟩) (by assumption) ?_
    rotate_left
    · (intro w hSw; (try dsimp only at hSw); go_simp; try with_reducible rfl)
    try simp only [Act.put, List.setIfInBounds_toArray, List.set_cons_zero, List.set_cons_succ]
    refine wpAnyH_take (i := 12) (oi := { dst := some 37, op := Op.load 26 (Operand.tmp 7), type := 26, pos := "law.go:32", after := #[{ on := 7, ground := Ground.guard }], guard := some (7, true) }) (v := ?_) rfl (by kernel_rfl) (by kernel_rfl) (by kernel_rfl) (fun _ _ _ h => h) (Or.inl ⟨by rfl, ?_⟩) (by assumption) ?_
    rotate_left
    · (intro w hSw; (try dsimp only at hSw); go_simp; try with_reducible rfl)
    try simp only [Act.put, List.setIfInBounds_toArray, List.set_cons_zero, List.set_cons_succ]
    refine wpAnyH_ready (rs := [10]) (by kernel_rfl) (by simp) ?_
    refine AllReadyH.cons (o := { dst := some 35, op := Op.call { callee := Callee.value (Operand.func 10), args := #[Operand.tmp 33, Operand.tmp 34], argTypes := #[26, 26] }, type := 4, pos := "law.go:32", after := #[{ on := 8, ground := Ground.data }, { on := 9, ground := Ground.data }, { on := 7, ground := Ground.chain }, { on := 7, ground := Ground.guard }], guard := some (7, true) }) rfl (fun K hK => ?_) AllReadyH.nil
    go_simp
    refine (same_any (HPA.out _ hH.2.1.out) (HPB.out _ hH.2.1.out)).mono ?_
    rintro e W_2 ⟨b1, rfl, hb1, bq⟩
    have HB1 := Lib.hid hb1
    clear hb1
    refine hK.out _ _ ?_ (fun hH' => ?_)
    · exact held_next (by assumption) hH
    clear hK K hH
    have hH := hH'
    clear hH'
    try simp only [Act.put, List.setIfInBounds_toArray, List.set_cons_zero, List.set_cons_succ]
    refine wpAnyH_ready (rs := [13]) (by kernel_rfl) (by simp) ?_
    refine AllReadyH.cons (o := { dst := some 38, op := Op.call { callee := Callee.value (Operand.func 11), args := #[Operand.tmp 36, Operand.tmp 37], argTypes := #[26, 26] }, type := 4, pos := "law.go:32", after := #[{ on := 11, ground := Ground.data }, { on := 12, ground := Ground.data }, { on := 10, ground := Ground.chain }, { on := 7, ground := Ground.guard }], guard := some (7, true) }) rfl (fun K hK => ?_) AllReadyH.nil
    go_simp
    refine (rsame_any (HPA.out _ hH.2.1.out) (HPB.out _ hH.2.1.out)).mono ?_
    rintro e W_3 ⟨b2, rfl, hb2, bq⟩
    obtain rfl : b2 = b1 := Bool.eq_iff_iff.2 (hb2.trans HB1.out.symm)
    clear hb2
    refine hK.out _ _ ?_ (fun hH' => ?_)
    · exact held_next (by assumption) hH
    clear hK K hH
    have hH := hH'
    clear hH'
    try simp only [Act.put, List.setIfInBounds_toArray, List.set_cons_zero, List.set_cons_succ]
    refine wpAnyH_take (i := 14) (oi := { dst := some 39, op := Op.binOp BinOp.eql 4 (Operand.tmp 35) (Operand.tmp 38) 4, type := 4, pos := "law.go:32", after := #[{ on := 10, ground := Ground.data }, { on := 13, ground := Ground.data }, { on := 7, ground := Ground.guard }], guard := some (7, true) }) (v := ?_) rfl (by kernel_rfl) (by kernel_rfl) (by kernel_rfl) (fun _ _ _ h => h) (Or.inl ⟨by rfl, ?_⟩) (by assumption) ?_
    rotate_left
    · (intro w hSw; (try dsimp only at hSw); go_simp; try with_reducible rfl)
    try simp only [Act.put, List.setIfInBounds_toArray, List.set_cons_zero, List.set_cons_succ]
    refine wpAnyH_take (i := 15) (oi := { dst := some 40, op := Op.pick (Operand.tmp 32) (Operand.tmp 39) (Operand.const (Value.bool false)), type := 4, pos := "law.go:32", after := #[{ on := 7, ground := Ground.data }, { on := 14, ground := Ground.data }], guard := none }) (v := ?_) rfl (by kernel_rfl) (by kernel_rfl) (by kernel_rfl) (fun _ _ _ h => h) (Or.inl ⟨by rfl, ?_⟩) (by assumption) ?_
    rotate_left
    · (intro w hSw; (try dsimp only at hSw); go_simp; try with_reducible rfl)
    try simp only [Act.put, List.setIfInBounds_toArray, List.set_cons_zero, List.set_cons_succ]
    refine wpAnyH_take (i := 16) (oi := { dst := some 41, op := Op.move (Operand.tmp 40), type := 4, pos := "law.go:32", after := #[{ on := 15, ground := Ground.data }, { on := 13, ground := Ground.chain }], guard := none }) (v := ?_) rfl (by kernel_rfl) (by kernel_rfl) (by kernel_rfl) (fun _ _ _ h => h) (Or.inl ⟨by rfl, ?_⟩) (by assumption) ?_
    rotate_left
    · (intro w hSw; (try dsimp only at hSw); go_simp; try with_reducible rfl)
    try simp only [Act.put, List.setIfInBounds_toArray, List.set_cons_zero, List.set_cons_succ]
    refine wpAnyH_ready (rs := [17]) (by kernel_rfl) (by simp) ?_
    refine AllReadyH.cons (o := { dst := some 42, op := Op.call { callee := Callee.value (Operand.func 7), args := #[], argTypes := #[] }, type := 4, pos := "law.go:32", after := #[{ on := 16, ground := Ground.chain }, { on := 16, ground := Ground.guard }], guard := some (16, true) }) rfl (fun K hK => ?_) AllReadyH.nil
    go_simp
    refine (HAW.out _ hH.2.1.out).mono ?_
    rintro e W_4 ⟨rfl, bq⟩
    refine hK.out _ _ ?_ (fun hH' => ?_)
    · exact held_next (by assumption) hH
    clear hK K hH
    have hH := hH'
    clear hH'
    try simp only [Act.put, List.setIfInBounds_toArray, List.set_cons_zero, List.set_cons_succ]
    refine wpAnyH_take (i := 18) (oi := { dst := some 43, op := Op.pick (Operand.tmp 41) (Operand.tmp 42) (Operand.const (Value.bool false)), type := 4, pos := "law.go:32", after := #[{ on := 16, ground := Ground.data }, { on := 17, ground := Ground.data }], guard := none }) (v := ?_) rfl (by kernel_rfl) (by kernel_rfl) (by kernel_rfl) (fun _ _ _ h => h) (Or.inl ⟨by rfl, ?_⟩) (by assumption) ?_
    rotate_left
    · (intro w hSw; (try dsimp only at hSw); go_simp; try with_reducible rfl)
    try simp only [Act.put, List.setIfInBounds_toArray, List.set_cons_zero, List.set_cons_succ]
    refine wpAnyH_take (i := 19) (oi := { dst := some 8, op := Op.assign (Operand.tmp 43), type := 4, pos := "law.go:32", after := #[{ on := 18, ground := Ground.data }, { on := 17, ground := Ground.chain }, { on := 0, ground := Ground.phase }, { on := 1, ground := Ground.phase }, { on := 2, ground := Ground.phase }, { on := 3, ground := Ground.phase }, { on := 4, ground := Ground.phase }, { on := 5, ground := Ground.phase }, { on := 6, ground := Ground.phase }, { on := 7, ground := Ground.phase }, { on := 8, ground := Ground.phase }, { on := 9, ground := Ground.phase }, { on := 10, ground := Ground.phase }, { on := 11, ground := Ground.phase }, { on := 12, ground := Ground.phase }, { on := 13, ground := Ground.phase }, { on := 14, ground := Ground.phase }, { on := 15, ground := Ground.phase }, { on := 16, ground := Ground.phase }, { on := 17, ground := Ground.phase }, { on := 18, ground := Ground.phase }], guard := none }) (v := ?_) rfl (by kernel_rfl) (by kernel_rfl) (by kernel_rfl) (fun _ _ _ h => h) (Or.inl ⟨by rfl, ?_⟩) (by assumption) ?_
    rotate_left
    · (intro w hSw; (try dsimp only at hSw); go_simp; try with_reducible rfl)
    try simp only [Act.put, List.setIfInBounds_toArray, List.set_cons_zero, List.set_cons_succ]
    refine wpAnyH_done (by kernel_rfl) ?_ _
    refine NoPanic.normal ?_
    have HF := Lib.hid (hH.2.1.out)
    have HSZ := Lib.hid (hH.2.2.out)
    clear S0 hH
    go_wp2_with fail
    go_ret
    exact ⟨rfl, HFN.out _ (HB0.out.trans (HF.out.mono (by omega)))⟩
end Go.Proofs.YtejpbebfkogmfaaDoor

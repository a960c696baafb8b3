/- Contracts: Check, CheckKey, the reference's Check, CheckKey. -/
import Derived.Test.YtakoghdkllfhlaaDoorF
import Derived.Test.YtakoghdkllfhlaaDoorC
import Derived.Laws.StructEq
namespace Go.Proofs.YtakoghdkllfhlaaDoor
open Go.RowKit

/-- what is behind the Name may be -/
def lastB (a : Adr) : Bool := if a.kd = 0 then (a.i == 0) && decide (a.k.size = 0) else if a.kd = 1 then decide (0 ≤ a.i) && decide (a.i < 128) && decide (a.k.size = 0) else if a.kd = 2 then (a.i == 0) && wordB a.k else false
def checkB (a : Adr) : Bool := nameB a.t && nameB a.n && lastB a
def checkKB (k : Obt) : Bool := checkB k.a && decide (0 < k.N)
/-- its texts are no longer than texts may be -/
structure Sm (a : Adr) : Prop where
  t : a.t.size ≤ 9223372036854775807
  n : a.n.size ≤ 9223372036854775807
  k : a.k.size ≤ 9223372036854775807
set_option maxHeartbeats 1000000 in
theorem base_31 (a : Adr) (w : World) : Calls Tryd.prog 31 #[av a] w fun e w' => e = .returned (av ⟨a.t, a.n, 0, 0, ⟨#[]⟩⟩) ∧ Below w.heap.size w w' := by
  have HW := Lib.hid (((Below.refl w.heap.size w).alloc (Nat.le_refl _) (ba a)).alloc (by simp) (ba ⟨a.t, a.n, 0, 0, ⟨#[]⟩⟩))
  go_enter Tryd.func31, Tryd.ntmps31
  go_wp2_with fail
  exact bodyPost_ret (v := av ⟨a.t, a.n, 0, 0, ⟨#[]⟩⟩) (by simp [results, Tryd.results31, go_sem]) rfl ⟨rfl, HW.out⟩
theorem emp_not {s : ByteArray} (h : ¬ s.size = 0) : s.toList.isEmpty = false ∧ ¬ s.toList = [] := empty_iff s (by omega)
set_option maxRecDepth 100000 in
set_option maxHeartbeats 4000000 in
theorem last_0i (t n k : ByteArray) (i : Int) (w : World) (hi : ¬ i = 0) : Calls Tryd.prog 39 #[av ⟨t, n, 0, i, k⟩] w (Tru w false) := by
  have e1 : (i == 0) = false := beq_eq_false_iff_ne.2 hi
  clear hi
  have HA0 := Lib.hid (Ha.made w ⟨t, n, 0, i, k⟩)
  have HW := Lib.hid ((Below.refl w.heap.size w).alloc (Nat.le_refl _) (ba ⟨t, n, 0, i, k⟩))
  have HZ : Hid ((w.alloc (ba ⟨t, n, 0, i, k⟩)).heap.size = w.heap.size + 1) := by simp [Hid]
  go_enter Tryd.func39, Tryd.ntmps39
  go_upto_region 3 with fail
  generalize World.alloc w _ = w0 at *
  obtain ⟨x8, x0, x1, x2, x3, x4⟩ := HA0.out
  dsimp only at x0 x1 x2 x3 x4
  obtain ⟨N, hN⟩ : ∃ N, N = w0.heap.size := ⟨_, rfl⟩
  have S0 := held_at hN
  have lA : w.heap.size < N := by have := HZ.out; omega
  have HN := Lib.hid hN
  clear hN
  refine wp_region_noPanic ?_
  refine wp_region_held_drew (S := (fun W => (∀ b o, b < N → W.cell? ⟨b, o, none⟩ = w0.cell? ⟨b, o, none⟩) ∧ Hid (Below N w0 W) ∧ Hid (N ≤ W.heap.size))) (by kernel_rfl) ?_ (fun hH => ?_)
  · exact S0
  refine wpAnyH_take (i := 0) (oi := { dst := some 7, op := Op.load 23 (Operand.tmp 1), type := 23, pos := "addr.go:56", after := #[], guard := none }) (v := ?_) rfl (by kernel_rfl) (by kernel_rfl) (by kernel_rfl) (fun _ _ _ h => h) (Or.inl ⟨by rfl, ?_⟩) (by assumption) ?_
  rotate_left
  · (intro w hSw; (try dsimp only at hSw); go_simp; try with_reducible rfl)
  try simp only [Act.put, List.setIfInBounds_toArray, List.set_cons_zero, List.set_cons_succ]
  refine wpAnyH_take (i := 1) (oi := { dst := some 8, op := Op.load 23 (Operand.tmp 1), type := 23, pos := "addr.go:56", after := #[], guard := none }) (v := ?_) rfl (by kernel_rfl) (by kernel_rfl) (by kernel_rfl) (fun _ _ _ h => h) (Or.inl ⟨by rfl, ?_⟩) (by assumption) ?_
  rotate_left
  · (intro w hSw; (try dsimp only at hSw); go_simp; try with_reducible rfl)
  try simp only [Act.put, List.setIfInBounds_toArray, List.set_cons_zero, List.set_cons_succ]
  refine wpAnyH_ready (rs := [2]) (by kernel_rfl) (by simp) ?_
  refine AllReadyH.cons (o := { dst := some 9, op := Op.call { callee := Callee.value (Operand.func 31), args := #[Operand.tmp 8], argTypes := #[23] }, type := 23, pos := "addr.go:56", after := #[{ on := 1, ground := Ground.data }], guard := none }) rfl (fun K hK => ?_) AllReadyH.nil
  go_simp
  refine (base_31 ⟨t, n, 0, i, k⟩ _).mono ?_
  rintro e W_0 ⟨rfl, b⟩
  refine hK.out _ _ ?_ (fun hH' => ?_)
  · exact held_next (by assumption) hH
  clear hK K hH
  have hH := hH'
  clear hH'
  refine wpAnyH_take (i := 3) (oi := { dst := some 10, op := Op.binOp BinOp.eql 23 (Operand.tmp 7) (Operand.tmp 9) 23, type := 4, pos := "addr.go:56", after := #[{ on := 0, ground := Ground.data }, { on := 2, ground := Ground.data }], guard := none }) (v := ?_) rfl (by kernel_rfl) (by kernel_rfl) (by kernel_rfl) (fun _ _ _ h => h) (Or.inl ⟨by rfl, ?_⟩) (by assumption) ?_
  rotate_left
  · (intro w hSw; (try dsimp only at hSw); go_simp; try with_reducible rfl)
  try simp only [Act.put, List.setIfInBounds_toArray, List.set_cons_zero, List.set_cons_succ]
  refine wpAnyH_take (i := 4) (oi := { dst := some 2, op := Op.assign (Operand.tmp 10), type := 4, pos := "addr.go:56", after := #[{ on := 3, ground := Ground.data }, { on := 2, ground := Ground.chain }, { on := 0, ground := Ground.phase }, { on := 1, ground := Ground.phase }, { on := 2, ground := Ground.phase }, { on := 3, ground := Ground.phase }], guard := none }) (v := ?_) rfl (by kernel_rfl) (by kernel_rfl) (by kernel_rfl) (fun _ _ _ h => h) (Or.inl ⟨by rfl, ?_⟩) (by assumption) ?_
  rotate_left
  · (intro w hSw; (try dsimp only at hSw); go_simp; try with_reducible rfl)
  try simp only [Act.put, List.setIfInBounds_toArray, List.set_cons_zero, List.set_cons_succ]
  refine wpAnyH_done (by kernel_rfl) ?_ _
  refine NoPanic.normal ?_
  have BZ := Lib.hid (HW.out.trans (hH.2.1.out.mono (by have := HZ.out; rw [HN.out]; omega)))
  clear S0 hH
  go_wp2_with fail
  go_ret
  exact ⟨rfl, BZ.out⟩
set_option maxRecDepth 100000 in
set_option maxHeartbeats 4000000 in
theorem last_0k (t n k : ByteArray) (w : World) (hk : ¬ k.size = 0) : Calls Tryd.prog 39 #[av ⟨t, n, 0, 0, k⟩] w (Tru w false) := by
  obtain ⟨E1, E2⟩ := emp_not hk
  clear hk
  have HA0 := Lib.hid (Ha.made w ⟨t, n, 0, 0, k⟩)
  have HW := Lib.hid ((Below.refl w.heap.size w).alloc (Nat.le_refl _) (ba ⟨t, n, 0, 0, k⟩))
  have HZ : Hid ((w.alloc (ba ⟨t, n, 0, 0, k⟩)).heap.size = w.heap.size + 1) := by simp [Hid]
  go_enter Tryd.func39, Tryd.ntmps39
  go_upto_region 3 with fail
  generalize World.alloc w _ = w0 at *
  obtain ⟨x8, x0, x1, x2, x3, x4⟩ := HA0.out
  dsimp only at x0 x1 x2 x3 x4
  obtain ⟨N, hN⟩ : ∃ N, N = w0.heap.size := ⟨_, rfl⟩
  have S0 := held_at hN
  have lA : w.heap.size < N := by have := HZ.out; omega
  have HN := Lib.hid hN
  clear hN
  refine wp_region_noPanic ?_
  refine wp_region_held_drew (S := (fun W => (∀ b o, b < N → W.cell? ⟨b, o, none⟩ = w0.cell? ⟨b, o, none⟩) ∧ Hid (Below N w0 W) ∧ Hid (N ≤ W.heap.size))) (by kernel_rfl) ?_ (fun hH => ?_)
  · exact S0
  refine wpAnyH_take (i := 0) (oi := { dst := some 7, op := Op.load 23 (Operand.tmp 1), type := 23, pos := "addr.go:56", after := #[], guard := none }) (v := ?_) rfl (by kernel_rfl) (by kernel_rfl) (by kernel_rfl) (fun _ _ _ h => h) (Or.inl ⟨by rfl, ?_⟩) (by assumption) ?_
  rotate_left
  · (intro w hSw; (try dsimp only at hSw); go_simp; try with_reducible rfl)
  try simp only [Act.put, List.setIfInBounds_toArray, List.set_cons_zero, List.set_cons_succ]
  refine wpAnyH_take (i := 1) (oi := { dst := some 8, op := Op.load 23 (Operand.tmp 1), type := 23, pos := "addr.go:56", after := #[], guard := none }) (v := ?_) rfl (by kernel_rfl) (by kernel_rfl) (by kernel_rfl) (fun _ _ _ h => h) (Or.inl ⟨by rfl, ?_⟩) (by assumption) ?_
  rotate_left
  · (intro w hSw; (try dsimp only at hSw); go_simp; try with_reducible rfl)
  try simp only [Act.put, List.setIfInBounds_toArray, List.set_cons_zero, List.set_cons_succ]
  refine wpAnyH_ready (rs := [2]) (by kernel_rfl) (by simp) ?_
  refine AllReadyH.cons (o := { dst := some 9, op := Op.call { callee := Callee.value (Operand.func 31), args := #[Operand.tmp 8], argTypes := #[23] }, type := 23, pos := "addr.go:56", after := #[{ on := 1, ground := Ground.data }], guard := none }) rfl (fun K hK => ?_) AllReadyH.nil
  go_simp
  refine (base_31 ⟨t, n, 0, 0, k⟩ _).mono ?_
  rintro e W_0 ⟨rfl, b⟩
  refine hK.out _ _ ?_ (fun hH' => ?_)
  · exact held_next (by assumption) hH
  clear hK K hH
  have hH := hH'
  clear hH'
  refine wpAnyH_take (i := 3) (oi := { dst := some 10, op := Op.binOp BinOp.eql 23 (Operand.tmp 7) (Operand.tmp 9) 23, type := 4, pos := "addr.go:56", after := #[{ on := 0, ground := Ground.data }, { on := 2, ground := Ground.data }], guard := none }) (v := ?_) rfl (by kernel_rfl) (by kernel_rfl) (by kernel_rfl) (fun _ _ _ h => h) (Or.inl ⟨by rfl, ?_⟩) (by assumption) ?_
  rotate_left
  · (intro w hSw; (try dsimp only at hSw); go_simp; try with_reducible rfl)
  try simp only [Act.put, List.setIfInBounds_toArray, List.set_cons_zero, List.set_cons_succ]
  refine wpAnyH_take (i := 4) (oi := { dst := some 2, op := Op.assign (Operand.tmp 10), type := 4, pos := "addr.go:56", after := #[{ on := 3, ground := Ground.data }, { on := 2, ground := Ground.chain }, { on := 0, ground := Ground.phase }, { on := 1, ground := Ground.phase }, { on := 2, ground := Ground.phase }, { on := 3, ground := Ground.phase }], guard := none }) (v := ?_) rfl (by kernel_rfl) (by kernel_rfl) (by kernel_rfl) (fun _ _ _ h => h) (Or.inl ⟨by rfl, ?_⟩) (by assumption) ?_
  rotate_left
  · (intro w hSw; (try dsimp only at hSw); go_simp; try with_reducible rfl)
  try simp only [Act.put, List.setIfInBounds_toArray, List.set_cons_zero, List.set_cons_succ]
  refine wpAnyH_done (by kernel_rfl) ?_ _
  refine NoPanic.normal ?_
  have BZ := Lib.hid (HW.out.trans (hH.2.1.out.mono (by have := HZ.out; rw [HN.out]; omega)))
  clear S0 hH
  go_wp2_with fail
  go_ret
  exact ⟨rfl, BZ.out⟩
set_option maxRecDepth 100000 in
set_option maxHeartbeats 4000000 in
theorem last_0y (t n : ByteArray) (w : World) : Calls Tryd.prog 39 #[av ⟨t, n, 0, 0, ⟨#[]⟩⟩] w (Tru w true) := by
  have HA0 := Lib.hid (Ha.made w ⟨t, n, 0, 0, ⟨#[]⟩⟩)
  have HW := Lib.hid ((Below.refl w.heap.size w).alloc (Nat.le_refl _) (ba ⟨t, n, 0, 0, ⟨#[]⟩⟩))
  have HZ : Hid ((w.alloc (ba ⟨t, n, 0, 0, ⟨#[]⟩⟩)).heap.size = w.heap.size + 1) := by simp [Hid]
  go_enter Tryd.func39, Tryd.ntmps39
  go_upto_region 3 with fail
  generalize World.alloc w _ = w0 at *
  obtain ⟨x8, x0, x1, x2, x3, x4⟩ := HA0.out
  dsimp only at x0 x1 x2 x3 x4
  obtain ⟨N, hN⟩ : ∃ N, N = w0.heap.size := ⟨_, rfl⟩
  have S0 := held_at hN
  have lA : w.heap.size < N := by have := HZ.out; omega
  have HN := Lib.hid hN
  clear hN
  refine wp_region_noPanic ?_
  refine wp_region_held_drew (S := (fun W => (∀ b o, b < N → W.cell? ⟨b, o, none⟩ = w0.cell? ⟨b, o, none⟩) ∧ Hid (Below N w0 W) ∧ Hid (N ≤ W.heap.size))) (by kernel_rfl) ?_ (fun hH => ?_)
  · exact S0
  refine wpAnyH_take (i := 0) (oi := { dst := some 7, op := Op.load 23 (Operand.tmp 1), type := 23, pos := "addr.go:56", after := #[], guard := none }) (v := ?_) rfl (by kernel_rfl) (by kernel_rfl) (by kernel_rfl) (fun _ _ _ h => h) (Or.inl ⟨by rfl, ?_⟩) (by assumption) ?_
  rotate_left
  · (intro w hSw; (try dsimp only at hSw); go_simp; try with_reducible rfl)
  try simp only [Act.put, List.setIfInBounds_toArray, List.set_cons_zero, List.set_cons_succ]
  refine wpAnyH_take (i := 1) (oi := { dst := some 8, op := Op.load 23 (Operand.tmp 1), type := 23, pos := "addr.go:56", after := #[], guard := none }) (v := ?_) rfl (by kernel_rfl) (by kernel_rfl) (by kernel_rfl) (fun _ _ _ h => h) (Or.inl ⟨by rfl, ?_⟩) (by assumption) ?_
  rotate_left
  · (intro w hSw; (try dsimp only at hSw); go_simp; try with_reducible rfl)
  try simp only [Act.put, List.setIfInBounds_toArray, List.set_cons_zero, List.set_cons_succ]
  refine wpAnyH_ready (rs := [2]) (by kernel_rfl) (by simp) ?_
  refine AllReadyH.cons (o := { dst := some 9, op := Op.call { callee := Callee.value (Operand.func 31), args := #[Operand.tmp 8], argTypes := #[23] }, type := 23, pos := "addr.go:56", after := #[{ on := 1, ground := Ground.data }], guard := none }) rfl (fun K hK => ?_) AllReadyH.nil
  go_simp
  refine (base_31 ⟨t, n, 0, 0, ⟨#[]⟩⟩ _).mono ?_
  rintro e W_0 ⟨rfl, b⟩
  refine hK.out _ _ ?_ (fun hH' => ?_)
  · exact held_next (by assumption) hH
  clear hK K hH
  have hH := hH'
  clear hH'
  refine wpAnyH_take (i := 3) (oi := { dst := some 10, op := Op.binOp BinOp.eql 23 (Operand.tmp 7) (Operand.tmp 9) 23, type := 4, pos := "addr.go:56", after := #[{ on := 0, ground := Ground.data }, { on := 2, ground := Ground.data }], guard := none }) (v := ?_) rfl (by kernel_rfl) (by kernel_rfl) (by kernel_rfl) (fun _ _ _ h => h) (Or.inl ⟨by rfl, ?_⟩) (by assumption) ?_
  rotate_left
  · (intro w hSw; (try dsimp only at hSw); go_simp; try with_reducible rfl)
  try simp only [Act.put, List.setIfInBounds_toArray, List.set_cons_zero, List.set_cons_succ]
  refine wpAnyH_take (i := 4) (oi := { dst := some 2, op := Op.assign (Operand.tmp 10), type := 4, pos := "addr.go:56", after := #[{ on := 3, ground := Ground.data }, { on := 2, ground := Ground.chain }, { on := 0, ground := Ground.phase }, { on := 1, ground := Ground.phase }, { on := 2, ground := Ground.phase }, { on := 3, ground := Ground.phase }], guard := none }) (v := ?_) rfl (by kernel_rfl) (by kernel_rfl) (by kernel_rfl) (fun _ _ _ h => h) (Or.inl ⟨by rfl, ?_⟩) (by assumption) ?_
  rotate_left
  · (intro w hSw; (try dsimp only at hSw); go_simp; try with_reducible rfl)
  try simp only [Act.put, List.setIfInBounds_toArray, List.set_cons_zero, List.set_cons_succ]
  refine wpAnyH_done (by kernel_rfl) ?_ _
  refine NoPanic.normal ?_
  have BZ := Lib.hid (HW.out.trans (hH.2.1.out.mono (by have := HZ.out; rw [HN.out]; omega)))
  clear S0 hH
  go_wp2_with fail
  go_ret
  exact ⟨rfl, BZ.out⟩
theorem last_0 (t n k : ByteArray) (i : Int) (w : World) : Calls Tryd.prog 39 #[av ⟨t, n, 0, i, k⟩] w (Tru w ((i == 0) && decide (k.size = 0))) := by
  by_cases hi : i = 0
  · subst hi
    by_cases hk : k.size = 0
    · obtain rfl := size_zero k hk
      exact last_0y t n w
    · rw [decide_eq_false hk]; exact last_0k t n k w hk
  · rw [beq_eq_false_iff_ne.2 hi]; exact last_0i t n k i w hi
set_option maxHeartbeats 2000000 in
theorem last_1 (t n k : ByteArray) (i : Int) (w : World) : Calls Tryd.prog 39 #[av ⟨t, n, 1, i, k⟩] w (Tru w (decide (0 ≤ i) && decide (i < 128) && decide (k.size = 0))) := by
  have HW := Lib.hid ((Below.refl w.heap.size w).alloc (Nat.le_refl _) (ba ⟨t, n, 1, i, k⟩))
  by_cases h1 : 0 ≤ i
  case neg =>
    rw [decide_eq_false h1]
    go_enter Tryd.func39, Tryd.ntmps39
    go_wp2_with fail
    go_ret
    exact ⟨rfl, HW.out⟩
  by_cases h2 : i < 128
  case neg =>
    rw [decide_eq_true h1, decide_eq_false h2]
    go_enter Tryd.func39, Tryd.ntmps39
    go_wp2_with fail
    go_ret
    exact ⟨rfl, HW.out⟩
  by_cases hk : k.size = 0
  case neg =>
    rw [decide_eq_true h1, decide_eq_true h2, decide_eq_false hk]
    obtain ⟨E1, E2⟩ := emp_not hk
    clear hk
    go_enter Tryd.func39, Tryd.ntmps39
    go_wp2_with fail
    go_ret
    exact ⟨ret_b (by simp), HW.out⟩
  case pos =>
    obtain rfl := size_zero k hk
    rw [decide_eq_true h1, decide_eq_true h2]
    go_enter Tryd.func39, Tryd.ntmps39
    go_wp2_with fail
    go_ret
    exact ⟨rfl, HW.out⟩
set_option maxHeartbeats 2000000 in
theorem last_2 (t n k : ByteArray) (i : Int) (w : World) (hs : k.size ≤ 9223372036854775807) : Calls Tryd.prog 39 #[av ⟨t, n, 2, i, k⟩] w (Tru w ((i == 0) && wordB k)) := by
  have HW := Lib.hid ((Below.refl w.heap.size w).alloc (Nat.le_refl _) (ba ⟨t, n, 2, i, k⟩))
  by_cases h1 : i = 0
  case neg =>
    have e1 : (i == 0) = false := beq_eq_false_iff_ne.2 h1
    rw [e1]
    clear h1
    go_enter Tryd.func39, Tryd.ntmps39
    go_wp2_with fail
    go_ret
    exact ⟨rfl, HW.out⟩
  case pos =>
    subst h1
    have C := Lib.hid (fun w => word_any k w hs)
    go_enter Tryd.func39, Tryd.ntmps39
    go_wp2_with fail
    refine (C.out _).mono ?_
    rintro e w1 ⟨rfl, rfl⟩
    go_wp2_with fail
    go_ret
    exact ⟨rfl, HW.out⟩
set_option maxHeartbeats 2000000 in
theorem last_o (t n k : ByteArray) (kd i : Int) (w : World) (h0 : ¬ kd = 0) (h1 : ¬ kd = 1) (h2 : ¬ kd = 2) : Calls Tryd.prog 39 #[av ⟨t, n, kd, i, k⟩] w (Tru w false) := by
  have HW := Lib.hid ((Below.refl w.heap.size w).alloc (Nat.le_refl _) (ba ⟨t, n, kd, i, k⟩))
  have e0 : (kd == 0) = false := beq_eq_false_iff_ne.2 h0
  have e1 : (kd == 1) = false := beq_eq_false_iff_ne.2 h1
  have e2 : (kd == 2) = false := beq_eq_false_iff_ne.2 h2
  clear h0 h1 h2
  go_enter Tryd.func39, Tryd.ntmps39
  go_wp2_with fail
  go_ret
  exact ⟨rfl, HW.out⟩
theorem last_any (a : Adr) (w : World) (hs : Sm a) : Calls Tryd.prog 39 #[av a] w (Tru w (lastB a)) := by
  obtain ⟨t, n, kd, i, k⟩ := a
  by_cases h0 : kd = 0
  · subst h0; exact last_0 t n k i w
  by_cases h1 : kd = 1
  · subst h1; exact last_1 t n k i w
  by_cases h2 : kd = 2
  · subst h2; exact last_2 t n k i w hs.k
  · have : lastB ⟨t, n, kd, i, k⟩ = false := by unfold lastB; rw [if_neg h0, if_neg h1, if_neg h2]
    rw [this]; exact last_o t n k kd i w h0 h1 h2
/-- the number of an error -/
def argN (b : Bool) : Int := if b then 0 else 1
/-- a number of an error: none, or that it may not be -/
abbrev Arg (w : World) (b : Bool) (e : Ending) (w' : World) : Prop := e = .returned (.int .i64 (argN b)) ∧ Below w.heap.size w w'
set_option maxHeartbeats 2000000 in
theorem check_any (a : Adr) (w : World) (hs : Sm a) : Calls Tryd.prog 10 #[av a] w (Arg w (checkB a)) := by
  have HW := Lib.hid ((Below.refl w.heap.size w).alloc (Nat.le_refl _) (ba a))
  have C1 := fun w => name_any a.t w hs.t
  have C2 := fun w => name_any a.n w hs.n
  have C3 := fun w => last_any a w hs
  unfold checkB
  generalize nameB a.t = x at *
  generalize nameB a.n = y at *
  generalize lastB a = z at *
  have C1 := Lib.hid C1
  have C2 := Lib.hid C2
  have C3 := Lib.hid C3
  cases x with
  | false =>
    go_enter Tryd.func10, Tryd.ntmps10
    go_wp2_with fail
    refine (C1.out _).mono ?_
    rintro e w1 ⟨rfl, rfl⟩
    go_wp2_with fail
    go_ret
    exact ⟨rfl, HW.out⟩
  | true =>
    cases y with
    | false =>
      go_enter Tryd.func10, Tryd.ntmps10
      go_wp2_with fail
      refine (C1.out _).mono ?_
      rintro e w1 ⟨rfl, rfl⟩
      go_wp2_with fail
      refine (C2.out _).mono ?_
      rintro e w1 ⟨rfl, rfl⟩
      go_wp2_with fail
      go_ret
      exact ⟨rfl, HW.out⟩
    | true =>
      cases z
      all_goals
        go_enter Tryd.func10, Tryd.ntmps10
        go_wp2_with fail
        refine (C1.out _).mono ?_
        rintro e w1 ⟨rfl, rfl⟩
        go_wp2_with fail
        refine (C2.out _).mono ?_
        rintro e w1 ⟨rfl, rfl⟩
        go_wp2_with fail
        refine (C3.out _).mono ?_
        rintro e w1 ⟨rfl, b1⟩
        have B1 := Lib.hid (HW.out.trans (b1.mono HW.out.size))
        clear b1
        go_wp2_with fail
        go_ret
        exact ⟨rfl, B1.out⟩
set_option maxHeartbeats 2000000 in
theorem checkK_any (k : Obt) (w : World) (hs : Sm k.a) (hN : 0 ≤ k.N) : Calls Tryd.prog 11 #[kv k] w (Arg w (checkKB k)) := by
  have HW := Lib.hid ((Below.refl w.heap.size w).alloc (Nat.le_refl _) (bk k))
  by_cases h0 : k.N = 0
  case pos =>
    have HX : Hid (checkKB k = false) := by unfold Hid checkKB; rw [decide_eq_false (by omega), Bool.and_false]
    have e0 : (k.N == 0) = true := by simp [h0]
    clear h0
    go_enter Tryd.func11, Tryd.ntmps11
    go_wp2_with fail
    go_ret
    exact ⟨by rw [HX.out]; rfl, HW.out⟩
  case neg =>
    have HX : Hid (checkKB k = checkB k.a) := by unfold Hid checkKB; rw [decide_eq_true (by omega), Bool.and_true]
    have e0 : (k.N == 0) = false := beq_eq_false_iff_ne.2 h0
    have C := Lib.hid (fun w => check_any k.a w hs)
    clear h0
    go_enter Tryd.func11, Tryd.ntmps11
    go_wp2_with fail
    refine (C.out _).mono ?_
    rintro e w1 ⟨rfl, b1⟩
    have B1 := Lib.hid (HW.out.trans (b1.mono HW.out.size))
    clear b1
    go_wp2_with fail
    go_ret
    exact ⟨by rw [HX.out]; rfl, B1.out⟩
set_option maxHeartbeats 4000000 in
theorem rcheck_any (a : Adr) (w : World) (hs : Sm a) : Calls Tryd.prog 16 #[av a] w (Tru w (checkB a)) := by
  have HW := Lib.hid ((Below.refl w.heap.size w).alloc (Nat.le_refl _) (ba a))
  have C1 := fun w => rname_any a.t w hs.t
  have C2 := fun w => rname_any a.n w hs.n
  have C3 := Lib.hid (fun w => rword_any a.k w hs.k)
  unfold checkB
  generalize nameB a.t = x at *
  generalize nameB a.n = y at *
  have C1 := Lib.hid C1
  have C2 := Lib.hid C2
  cases x with
  | false =>
    go_enter Tryd.func16, Tryd.ntmps16
    go_wp2_with fail
    refine (C1.out _).mono ?_
    rintro e w1 ⟨rfl, rfl⟩
    go_wp2_with fail
    go_ret
    exact ⟨rfl, HW.out⟩
  | true =>
    cases y with
    | false =>
      go_enter Tryd.func16, Tryd.ntmps16
      go_wp2_with fail
      refine (C1.out _).mono ?_
      rintro e w1 ⟨rfl, rfl⟩
      go_wp2_with fail
      refine (C2.out _).mono ?_
      rintro e w1 ⟨rfl, rfl⟩
      go_wp2_with fail
      go_ret
      exact ⟨rfl, HW.out⟩
    | true =>
      obtain ⟨t, n, kd, i, k⟩ := a
      dsimp only at *
      have HY : Hid (∀ b, lastB ⟨t, n, kd, i, k⟩ = b → (true && true && lastB ⟨t, n, kd, i, k⟩) = b) := fun b h => by rw [h]; rfl
      by_cases h0 : kd = 0
      · subst h0
        by_cases h1 : i = 0
        · subst h1
          by_cases hk : k.size = 0
          · obtain rfl := size_zero k hk
            go_enter Tryd.func16, Tryd.ntmps16
            go_wp2_with fail
            refine (C1.out _).mono ?_
            rintro e w1 ⟨rfl, rfl⟩
            go_wp2_with fail
            refine (C2.out _).mono ?_
            rintro e w1 ⟨rfl, rfl⟩
            go_wp2_with fail
            go_ret
            exact ⟨rfl, HW.out⟩
          · have HL : Hid (lastB ⟨t, n, 0, 0, k⟩ = false) := by unfold Hid; rw [show lastB ⟨t, n, 0, 0, k⟩ = (((0 : Int) == 0) && decide (k.size = 0)) from rfl, decide_eq_false hk, Bool.and_false]
            obtain ⟨E1, E2⟩ := emp_not hk
            clear hk
            go_enter Tryd.func16, Tryd.ntmps16
            go_wp2_with fail
            refine (C1.out _).mono ?_
            rintro e w1 ⟨rfl, rfl⟩
            go_wp2_with fail
            refine (C2.out _).mono ?_
            rintro e w1 ⟨rfl, rfl⟩
            go_wp2_with fail
            go_ret
            exact ⟨ret_b (by first | exact HL.out.symm | (rw [HY.out _ HL.out] <;> simp)), HW.out⟩
        · have HL : Hid (lastB ⟨t, n, 0, i, k⟩ = false) := by unfold Hid; rw [show lastB ⟨t, n, 0, i, k⟩ = ((i == 0) && decide (k.size = 0)) from rfl, beq_eq_false_iff_ne.2 h1, Bool.false_and]
          have e1 : (i == 0) = false := beq_eq_false_iff_ne.2 h1
          clear h1
          go_enter Tryd.func16, Tryd.ntmps16
          go_wp2_with fail
          refine (C1.out _).mono ?_
          rintro e w1 ⟨rfl, rfl⟩
          go_wp2_with fail
          refine (C2.out _).mono ?_
          rintro e w1 ⟨rfl, rfl⟩
          go_wp2_with fail
          go_ret
          exact ⟨ret_b (by first | exact HL.out.symm | (rw [HY.out _ HL.out] <;> simp)), HW.out⟩
      by_cases h1 : kd = 1
      · subst h1
        by_cases g1 : 0 ≤ i
        · by_cases g2 : i < 128
          · by_cases hk : k.size = 0
            · have HL : Hid (lastB ⟨t, n, 1, i, k⟩ = true) := by unfold Hid; rw [show lastB ⟨t, n, 1, i, k⟩ = (decide (0 ≤ i) && decide (i < 128) && decide (k.size = 0)) from rfl, decide_eq_true g1, decide_eq_true g2, decide_eq_true hk]; rfl
              obtain rfl := size_zero k hk
              clear h0 hk
              go_enter Tryd.func16, Tryd.ntmps16
              go_wp2_with fail
              refine (C1.out _).mono ?_
              rintro e w1 ⟨rfl, rfl⟩
              go_wp2_with fail
              refine (C2.out _).mono ?_
              rintro e w1 ⟨rfl, rfl⟩
              go_wp2_with fail
              go_ret
              exact ⟨ret_b (by first | exact HL.out.symm | (rw [HY.out _ HL.out] <;> simp)), HW.out⟩
            · have HL : Hid (lastB ⟨t, n, 1, i, k⟩ = false) := by unfold Hid; rw [show lastB ⟨t, n, 1, i, k⟩ = (decide (0 ≤ i) && decide (i < 128) && decide (k.size = 0)) from rfl, decide_eq_false hk, Bool.and_false]
              obtain ⟨E1, E2⟩ := emp_not hk
              clear hk h0
              go_enter Tryd.func16, Tryd.ntmps16
              go_wp2_with fail
              refine (C1.out _).mono ?_
              rintro e w1 ⟨rfl, rfl⟩
              go_wp2_with fail
              refine (C2.out _).mono ?_
              rintro e w1 ⟨rfl, rfl⟩
              go_wp2_with fail
              go_ret
              exact ⟨ret_b (by first | exact HL.out.symm | (rw [HY.out _ HL.out] <;> simp)), HW.out⟩
          · have HL : Hid (lastB ⟨t, n, 1, i, k⟩ = false) := by unfold Hid; rw [show lastB ⟨t, n, 1, i, k⟩ = (decide (0 ≤ i) && decide (i < 128) && decide (k.size = 0)) from rfl, decide_eq_false g2, Bool.and_false, Bool.false_and]
            clear h0
            go_enter Tryd.func16, Tryd.ntmps16
            go_wp2_with fail
            refine (C1.out _).mono ?_
            rintro e w1 ⟨rfl, rfl⟩
            go_wp2_with fail
            refine (C2.out _).mono ?_
            rintro e w1 ⟨rfl, rfl⟩
            go_wp2_with fail
            go_ret
            exact ⟨ret_b (by first | exact HL.out.symm | (rw [HY.out _ HL.out] <;> simp)), HW.out⟩
        · have HL : Hid (lastB ⟨t, n, 1, i, k⟩ = false) := by unfold Hid; rw [show lastB ⟨t, n, 1, i, k⟩ = (decide (0 ≤ i) && decide (i < 128) && decide (k.size = 0)) from rfl, decide_eq_false g1, Bool.false_and, Bool.false_and]
          clear h0
          go_enter Tryd.func16, Tryd.ntmps16
          go_wp2_with fail
          refine (C1.out _).mono ?_
          rintro e w1 ⟨rfl, rfl⟩
          go_wp2_with fail
          refine (C2.out _).mono ?_
          rintro e w1 ⟨rfl, rfl⟩
          go_wp2_with fail
          go_ret
          exact ⟨ret_b (by first | exact HL.out.symm | (rw [HY.out _ HL.out] <;> simp)), HW.out⟩
      by_cases h2 : kd = 2
      · subst h2
        by_cases g1 : i = 0
        · subst g1
          have HL : Hid (lastB ⟨t, n, 2, 0, k⟩ = wordB k) := rfl
          clear h0 h1
          go_enter Tryd.func16, Tryd.ntmps16
          go_wp2_with fail
          refine (C1.out _).mono ?_
          rintro e w1 ⟨rfl, rfl⟩
          go_wp2_with fail
          refine (C2.out _).mono ?_
          rintro e w1 ⟨rfl, rfl⟩
          go_wp2_with fail
          refine (C3.out _).mono ?_
          rintro e w1 ⟨rfl, rfl⟩
          go_wp2_with fail
          go_ret
          exact ⟨ret_b (by first | exact HL.out.symm | (rw [HY.out _ HL.out] <;> simp)), HW.out⟩
        · have HL : Hid (lastB ⟨t, n, 2, i, k⟩ = false) := by unfold Hid; rw [show lastB ⟨t, n, 2, i, k⟩ = ((i == 0) && wordB k) from rfl, beq_eq_false_iff_ne.2 g1, Bool.false_and]
          have e1 : (i == 0) = false := beq_eq_false_iff_ne.2 g1
          clear g1 h0 h1
          go_enter Tryd.func16, Tryd.ntmps16
          go_wp2_with fail
          refine (C1.out _).mono ?_
          rintro e w1 ⟨rfl, rfl⟩
          go_wp2_with fail
          refine (C2.out _).mono ?_
          rintro e w1 ⟨rfl, rfl⟩
          go_wp2_with fail
          go_ret
          exact ⟨ret_b (by first | exact HL.out.symm | (rw [HY.out _ HL.out] <;> simp)), HW.out⟩
      · have HL : Hid (lastB ⟨t, n, kd, i, k⟩ = false) := by unfold Hid lastB; rw [if_neg h0, if_neg h1, if_neg h2]
        have e0 : (kd == 0) = false := beq_eq_false_iff_ne.2 h0
        have e1 : (kd == 1) = false := beq_eq_false_iff_ne.2 h1
        have e2 : (kd == 2) = false := beq_eq_false_iff_ne.2 h2
        clear h0 h1 h2
        go_enter Tryd.func16, Tryd.ntmps16
        go_wp2_with fail
        refine (C1.out _).mono ?_
        rintro e w1 ⟨rfl, rfl⟩
        go_wp2_with fail
        refine (C2.out _).mono ?_
        rintro e w1 ⟨rfl, rfl⟩
        go_wp2_with fail
        go_ret
        exact ⟨ret_b (by first | exact HL.out.symm | (rw [HY.out _ HL.out] <;> simp)), HW.out⟩
set_option maxHeartbeats 2000000 in
theorem rcheckK_any (k : Obt) (w : World) (hs : Sm k.a) : Calls Tryd.prog 17 #[kv k] w (Tru w (checkKB k)) := by
  have HW := Lib.hid ((Below.refl w.heap.size w).alloc (Nat.le_refl _) (bk k))
  have HK := Lib.hid (Hk.made w k)
  have HZ : Hid ((w.alloc (bk k)).heap.size = w.heap.size + 1) := by simp [Hid]
  have C := fun w => rcheck_any k.a w hs
  unfold checkKB
  generalize checkB k.a = x at *
  have C := Lib.hid C
  go_enter Tryd.func17, Tryd.ntmps17
  go_wp2_with fail
  generalize World.alloc w _ = w0 at *
  refine (C.out _).mono ?_
  rintro e w1 ⟨rfl, b1⟩
  obtain ⟨x8, x0, x1, x2, x3, x4, x5⟩ := HK.out.kept b1 (by have := HZ.out; omega)
  have B1 := Lib.hid (HW.out.trans (b1.mono HW.out.size))
  clear b1
  cases x
  all_goals
    go_wp2_with fail
    go_ret
    exact ⟨rfl, B1.out⟩
end Go.Proofs.YtakoghdkllfhlaaDoor

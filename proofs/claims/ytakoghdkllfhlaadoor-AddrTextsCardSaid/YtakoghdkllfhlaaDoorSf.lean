/- The text of an object. -/
import Derived.Test.YtakoghdkllfhlaaDoorSe
namespace Go.Proofs.YtakoghdkllfhlaaDoor
open Go.RowKit

def prK (k : Obt) : ByteArray := prA k.a ++ ⟨#[35]⟩ ++ ⟨(Lib.itoa k.N).toArray⟩
theorem prA_sz {a : Adr} (h : Lo a) : (prA a).size ≤ 5000000 := by
  have h1 := h.t
  have h2 := h.n
  have h3 := h.k
  have h4 := itoa_sz a.i h.i1 h.i2
  have e1 : ∀ c : UInt8, (⟨#[c]⟩ : ByteArray).size = 1 := fun _ => rfl
  unfold prA
  generalize (⟨(Lib.itoa a.i).toArray⟩ : ByteArray) = I at *
  split
  · simp only [ByteArray.size_append, e1]; omega
  · split
    · simp only [ByteArray.size_append, e1]; omega
    · simp only [ByteArray.size_append, e1]; omega
set_option maxRecDepth 100000 in
set_option maxHeartbeats 4000000 in
theorem printKey_any (k : Obt) (w : World) (h : Lo k.a) (hN1 : 0 ≤ k.N) (hN2 : k.N < 4294967296) (hT : TabW w) : Calls Tryd.prog 29 #[kv k] w fun e w' => e = .returned (.string (prK k)) ∧ Below w.heap.size w w' := by
  have hHk := Hk.made w k
  have hW := (Below.refl w.heap.size w).alloc (Nat.le_refl _) (bk k)
  have HZ : Hid ((w.alloc (bk k)).heap.size = w.heap.size + 1) := by simp [Hid]
  have HC1 : Hid (∀ W, Below (w.alloc (bk k)).heap.size (w.alloc (bk k)) W → Calls Tryd.prog 27 #[av k.a] W fun e w' => e = .returned (.string (prA k.a)) ∧ Below W.heap.size W w') := fun W hb => printA_any k.a W h (tab_below (tab_below hT hW (Nat.le_refl _)) hb (Nat.le_refl _))
  have HC2 : Hid (∀ W, Below (w.alloc (bk k)).heap.size (w.alloc (bk k)) W → Calls Tryd.prog 52 #[.int .i64 k.N] W fun e w' => e = .returned (.string ⟨(Lib.itoa k.N).toArray⟩) ∧ Below W.heap.size W w') := fun W hb => print_any k.N W (by omega) (by omega) (tab_below (tab_below hT hW (Nat.le_refl _)) hb (Nat.le_refl _))
  have hp := prA_sz h
  have hi := itoa_sz k.N (by omega) (by omega)
  unfold prK
  generalize prA k.a = P at *
  generalize (⟨(Lib.itoa k.N).toArray⟩ : ByteArray) = I at *
  have hwN : IntKind.i64.wrap k.N = k.N := IntWalk.i64_in _ (by omega)
  have hq1 : ¬ 9223372036854775807 < P.size + 1 := by omega
  have hq2 : ¬ 9223372036854775807 < P.size + 1 + I.size := by omega
  have HW := Lib.hid hW
  have HA0 := Lib.hid hHk
  clear hW hHk hT
  go_enter Tryd.func29, Tryd.ntmps29
  go_upto_region 1 with fail
  generalize World.alloc w _ = w0 at *
  obtain ⟨x8, x0, x1, x2, x3, x4, x5⟩ := HA0.out
  obtain ⟨N, hN⟩ : ∃ N, N = w0.heap.size := ⟨_, rfl⟩
  rw [← hN] at HC1 HC2
  have S0 := held_at hN
  have lA : w.heap.size < N := by have := HZ.out; omega
  have HN := Lib.hid hN
  clear hN h
  refine wp_region_noPanic ?_
  refine wp_region_held_drew (S := (fun W => (∀ b o, b < N → W.cell? ⟨b, o, none⟩ = w0.cell? ⟨b, o, none⟩) ∧ Hid (Below N w0 W) ∧ Hid (N ≤ W.heap.size))) (by kernel_rfl) ?_ (fun hH => ?_)
  · exact S0
  refine wpAnyH_take (i := 0) (oi := { dst := some 3, op := Op.fieldAddr 26 (Operand.tmp 1) 0, type := 0, pos := "text.go:35", after := #[], guard := none }) (v := ?_) rfl (by kernel_rfl) (by kernel_rfl) (by kernel_rfl) (fun _ _ _ h => h) (Or.inl ⟨by rfl, ?_⟩) (by assumption) ?_
  rotate_left
  · (intro w hSw; (try dsimp only at hSw); go_simp; try with_reducible rfl)
  try simp only [Act.put, List.setIfInBounds_toArray, List.set_cons_zero, List.set_cons_succ]
  refine wpAnyH_take (i := 1) (oi := { dst := some 4, op := Op.load 23 (Operand.tmp 3), type := 23, pos := "text.go:35", after := #[{ on := 0, ground := Ground.data }], guard := none }) (v := ?_) rfl (by kernel_rfl) (by kernel_rfl) (by kernel_rfl) (fun _ _ _ h => h) (Or.inl ⟨by rfl, ?_⟩) (by assumption) ?_
  rotate_left
  · (intro w hSw; (try dsimp only at hSw); go_simp; try with_reducible rfl)
  try simp only [Act.put, List.setIfInBounds_toArray, List.set_cons_zero, List.set_cons_succ]
  refine wpAnyH_take (i := 4) (oi := { dst := some 7, op := Op.fieldAddr 26 (Operand.tmp 1) 1, type := 0, pos := "text.go:35", after := #[], guard := none }) (v := ?_) rfl (by kernel_rfl) (by kernel_rfl) (by kernel_rfl) (fun _ _ _ h => h) (Or.inl ⟨by rfl, ?_⟩) (by assumption) ?_
  rotate_left
  · (intro w hSw; (try dsimp only at hSw); go_simp; try with_reducible rfl)
  try simp only [Act.put, List.setIfInBounds_toArray, List.set_cons_zero, List.set_cons_succ]
  refine wpAnyH_take (i := 5) (oi := { dst := some 8, op := Op.load 24 (Operand.tmp 7), type := 24, pos := "text.go:35", after := #[{ on := 4, ground := Ground.data }], guard := none }) (v := ?_) rfl (by kernel_rfl) (by kernel_rfl) (by kernel_rfl) (fun _ _ _ h => h) (Or.inl ⟨by rfl, ?_⟩) (by assumption) ?_
  rotate_left
  · (intro w hSw; (try dsimp only at hSw); go_simp; try with_reducible rfl)
  try simp only [Act.put, List.setIfInBounds_toArray, List.set_cons_zero, List.set_cons_succ]
  refine wpAnyH_take (i := 6) (oi := { dst := some 9, op := Op.convert 24 2 (Operand.tmp 8), type := 2, pos := "text.go:35", after := #[{ on := 5, ground := Ground.data }], guard := none }) (v := ?_) rfl (by kernel_rfl) (by kernel_rfl) (by kernel_rfl) (fun _ _ _ h => h) (Or.inl ⟨by rfl, ?_⟩) (by assumption) ?_
  rotate_left
  · (intro w hSw; (try dsimp only at hSw); go_simp; try with_reducible rfl)
  try simp only [Act.put, List.setIfInBounds_toArray, List.set_cons_zero, List.set_cons_succ]
  refine wpAnyH_ready (rs := [2]) (by kernel_rfl) (by simp) ?_
  refine AllReadyH.cons (o := { dst := some 5, op := Op.call { callee := Callee.value (Operand.func 27), args := #[Operand.tmp 4], argTypes := #[23] }, type := 9, pos := "text.go:35", after := #[{ on := 1, ground := Ground.data }], guard := none }) rfl (fun K hK => ?_) AllReadyH.nil
  go_simp
  refine (HC1.out _ hH.2.1.out).mono ?_
  rintro e W_0 ⟨rfl, bq⟩
  refine hK.out _ _ ?_ (fun hH' => ?_)
  · exact held_next (by assumption) hH
  clear hK K hH
  have hH := hH'
  clear hH'
  try simp only [Act.put, List.setIfInBounds_toArray, List.set_cons_zero, List.set_cons_succ]
  refine wpAnyH_take (i := 3) (oi := { dst := some 6, op := Op.binOp BinOp.add 9 (Operand.tmp 5) (Operand.const (Value.string { data := #[35] })) 9, type := 9, pos := "text.go:35", after := #[{ on := 2, ground := Ground.data }], guard := none }) (v := ?_) rfl (by kernel_rfl) (by kernel_rfl) (by kernel_rfl) (fun _ _ _ h => h) (Or.inl ⟨by rfl, ?_⟩) (by assumption) ?_
  rotate_left
  · (intro w hSw; (try dsimp only at hSw); go_simp; try with_reducible rfl)
  try simp only [Act.put, List.setIfInBounds_toArray, List.set_cons_zero, List.set_cons_succ]
  refine wpAnyH_ready (rs := [7]) (by kernel_rfl) (by simp) ?_
  refine AllReadyH.cons (o := { dst := some 10, op := Op.call { callee := Callee.value (Operand.func 52), args := #[Operand.tmp 9], argTypes := #[2] }, type := 9, pos := "text.go:35", after := #[{ on := 6, ground := Ground.data }, { on := 2, ground := Ground.chain }], guard := none }) rfl (fun K hK => ?_) AllReadyH.nil
  go_simp
  refine (HC2.out _ hH.2.1.out).mono ?_
  rintro e W_1 ⟨rfl, bq⟩
  refine hK.out _ _ ?_ (fun hH' => ?_)
  · exact held_next (by assumption) hH
  clear hK K hH
  have hH := hH'
  clear hH'
  try simp only [Act.put, List.setIfInBounds_toArray, List.set_cons_zero, List.set_cons_succ]
  refine wpAnyH_take (i := 8) (oi := { dst := some 11, op := Op.binOp BinOp.add 9 (Operand.tmp 6) (Operand.tmp 10) 9, type := 9, pos := "text.go:35", after := #[{ on := 3, ground := Ground.data }, { on := 7, ground := Ground.data }], guard := none }) (v := ?_) rfl (by kernel_rfl) (by kernel_rfl) (by kernel_rfl) (fun _ _ _ h => h) (Or.inl ⟨by rfl, ?_⟩) (by assumption) ?_
  rotate_left
  · (intro w hSw; (try dsimp only at hSw); go_simp; try with_reducible rfl)
  try simp only [Act.put, List.setIfInBounds_toArray, List.set_cons_zero, List.set_cons_succ]
  refine wpAnyH_take (i := 9) (oi := { dst := some 2, op := Op.assign (Operand.tmp 11), type := 9, pos := "text.go:35", after := #[{ on := 8, ground := Ground.data }, { on := 7, ground := Ground.chain }, { on := 0, ground := Ground.phase }, { on := 1, ground := Ground.phase }, { on := 2, ground := Ground.phase }, { on := 3, ground := Ground.phase }, { on := 4, ground := Ground.phase }, { on := 5, ground := Ground.phase }, { on := 6, ground := Ground.phase }, { on := 7, ground := Ground.phase }, { on := 8, ground := Ground.phase }], guard := none }) (v := ?_) rfl (by kernel_rfl) (by kernel_rfl) (by kernel_rfl) (fun _ _ _ h => h) (Or.inl ⟨by rfl, ?_⟩) (by assumption) ?_
  rotate_left
  · (intro w hSw; (try dsimp only at hSw); go_simp; try with_reducible rfl)
  try simp only [Act.put, List.setIfInBounds_toArray, List.set_cons_zero, List.set_cons_succ]
  refine wpAnyH_done (by kernel_rfl) ?_ _
  refine NoPanic.normal ?_
  have BZ := Lib.hid (HW.out.trans (hH.2.1.out.mono (by have := HZ.out; rw [HN.out]; omega)))
  clear S0 hH
  go_wp2_with fail
  go_ret
  exact ⟨rfl, BZ.out⟩
set_option maxRecDepth 100000 in
set_option maxHeartbeats 4000000 in
theorem rprintKey_any (k : Obt) (w : World) (h : Lo k.a) (hN1 : 0 ≤ k.N) (hN2 : k.N < 4294967296) : Calls Tryd.prog 30 #[kv k] w fun e w' => e = .returned (.string (prK k)) ∧ Below w.heap.size w w' := by
  have hHk := Hk.made w k
  have hW := (Below.refl w.heap.size w).alloc (Nat.le_refl _) (bk k)
  have HZ : Hid ((w.alloc (bk k)).heap.size = w.heap.size + 1) := by simp [Hid]
  have HC1 : Hid (∀ W, Below (w.alloc (bk k)).heap.size (w.alloc (bk k)) W → Calls Tryd.prog 28 #[av k.a] W fun e w' => e = .returned (.string (prA k.a)) ∧ Below W.heap.size W w') := fun W hb => rprintA_any k.a W h
  have HC2 : Hid (∀ W, Below (w.alloc (bk k)).heap.size (w.alloc (bk k)) W → Calls Tryd.prog 53 #[.int .i64 k.N] W fun e w' => e = .returned (.string ⟨(Lib.itoa k.N).toArray⟩) ∧ Below W.heap.size W w') := fun W hb => (rprint_any k.N W (by omega) (by omega)).mono fun e w' ⟨q1, q, q2⟩ => ⟨q1, by rw [q2]; exact below_drewN (Below.refl _ _) q⟩
  have hp := prA_sz h
  have hi := itoa_sz k.N (by omega) (by omega)
  unfold prK
  generalize prA k.a = P at *
  generalize (⟨(Lib.itoa k.N).toArray⟩ : ByteArray) = I at *
  have hwN : IntKind.i64.wrap k.N = k.N := IntWalk.i64_in _ (by omega)
  have hq1 : ¬ 9223372036854775807 < P.size + 1 := by omega
  have hq2 : ¬ 9223372036854775807 < P.size + 1 + I.size := by omega
  have HW := Lib.hid hW
  have HA0 := Lib.hid hHk
  clear hW hHk
  go_enter Tryd.func30, Tryd.ntmps30
  go_upto_region 1 with fail
  generalize World.alloc w _ = w0 at *
  obtain ⟨x8, x0, x1, x2, x3, x4, x5⟩ := HA0.out
  obtain ⟨N, hN⟩ : ∃ N, N = w0.heap.size := ⟨_, rfl⟩
  rw [← hN] at HC1 HC2
  have S0 := held_at hN
  have lA : w.heap.size < N := by have := HZ.out; omega
  have HN := Lib.hid hN
  clear hN h
  refine wp_region_noPanic ?_
  refine wp_region_held_drew (S := (fun W => (∀ b o, b < N → W.cell? ⟨b, o, none⟩ = w0.cell? ⟨b, o, none⟩) ∧ Hid (Below N w0 W) ∧ Hid (N ≤ W.heap.size))) (by kernel_rfl) ?_ (fun hH => ?_)
  · exact S0
  refine wpAnyH_take (i := 0) (oi := { dst := some 3, op := Op.fieldAddr 26 (Operand.tmp 1) 0, type := 0, pos := "ref.go:130", after := #[], guard := none }) (v := ?_) rfl (by kernel_rfl) (by kernel_rfl) (by kernel_rfl) (fun _ _ _ h => h) (Or.inl ⟨by rfl, ?_⟩) (by assumption) ?_
  rotate_left
  · (intro w hSw; (try dsimp only at hSw); go_simp; try with_reducible rfl)
  try simp only [Act.put, List.setIfInBounds_toArray, List.set_cons_zero, List.set_cons_succ]
  refine wpAnyH_take (i := 1) (oi := { dst := some 4, op := Op.load 23 (Operand.tmp 3), type := 23, pos := "ref.go:130", after := #[{ on := 0, ground := Ground.data }], guard := none }) (v := ?_) rfl (by kernel_rfl) (by kernel_rfl) (by kernel_rfl) (fun _ _ _ h => h) (Or.inl ⟨by rfl, ?_⟩) (by assumption) ?_
  rotate_left
  · (intro w hSw; (try dsimp only at hSw); go_simp; try with_reducible rfl)
  try simp only [Act.put, List.setIfInBounds_toArray, List.set_cons_zero, List.set_cons_succ]
  refine wpAnyH_take (i := 4) (oi := { dst := some 7, op := Op.fieldAddr 26 (Operand.tmp 1) 1, type := 0, pos := "ref.go:130", after := #[], guard := none }) (v := ?_) rfl (by kernel_rfl) (by kernel_rfl) (by kernel_rfl) (fun _ _ _ h => h) (Or.inl ⟨by rfl, ?_⟩) (by assumption) ?_
  rotate_left
  · (intro w hSw; (try dsimp only at hSw); go_simp; try with_reducible rfl)
  try simp only [Act.put, List.setIfInBounds_toArray, List.set_cons_zero, List.set_cons_succ]
  refine wpAnyH_take (i := 5) (oi := { dst := some 8, op := Op.load 24 (Operand.tmp 7), type := 24, pos := "ref.go:130", after := #[{ on := 4, ground := Ground.data }], guard := none }) (v := ?_) rfl (by kernel_rfl) (by kernel_rfl) (by kernel_rfl) (fun _ _ _ h => h) (Or.inl ⟨by rfl, ?_⟩) (by assumption) ?_
  rotate_left
  · (intro w hSw; (try dsimp only at hSw); go_simp; try with_reducible rfl)
  try simp only [Act.put, List.setIfInBounds_toArray, List.set_cons_zero, List.set_cons_succ]
  refine wpAnyH_take (i := 6) (oi := { dst := some 9, op := Op.convert 24 2 (Operand.tmp 8), type := 2, pos := "ref.go:130", after := #[{ on := 5, ground := Ground.data }], guard := none }) (v := ?_) rfl (by kernel_rfl) (by kernel_rfl) (by kernel_rfl) (fun _ _ _ h => h) (Or.inl ⟨by rfl, ?_⟩) (by assumption) ?_
  rotate_left
  · (intro w hSw; (try dsimp only at hSw); go_simp; try with_reducible rfl)
  try simp only [Act.put, List.setIfInBounds_toArray, List.set_cons_zero, List.set_cons_succ]
  refine wpAnyH_ready (rs := [2]) (by kernel_rfl) (by simp) ?_
  refine AllReadyH.cons (o := { dst := some 5, op := Op.call { callee := Callee.value (Operand.func 28), args := #[Operand.tmp 4], argTypes := #[23] }, type := 9, pos := "ref.go:130", after := #[{ on := 1, ground := Ground.data }], guard := none }) rfl (fun K hK => ?_) AllReadyH.nil
  go_simp
  refine (HC1.out _ hH.2.1.out).mono ?_
  rintro e W_0 ⟨rfl, bq⟩
  refine hK.out _ _ ?_ (fun hH' => ?_)
  · exact held_next (by assumption) hH
  clear hK K hH
  have hH := hH'
  clear hH'
  try simp only [Act.put, List.setIfInBounds_toArray, List.set_cons_zero, List.set_cons_succ]
  refine wpAnyH_take (i := 3) (oi := { dst := some 6, op := Op.binOp BinOp.add 9 (Operand.tmp 5) (Operand.const (Value.string { data := #[35] })) 9, type := 9, pos := "ref.go:130", after := #[{ on := 2, ground := Ground.data }], guard := none }) (v := ?_) rfl (by kernel_rfl) (by kernel_rfl) (by kernel_rfl) (fun _ _ _ h => h) (Or.inl ⟨by rfl, ?_⟩) (by assumption) ?_
  rotate_left
  · (intro w hSw; (try dsimp only at hSw); go_simp; try with_reducible rfl)
  try simp only [Act.put, List.setIfInBounds_toArray, List.set_cons_zero, List.set_cons_succ]
  refine wpAnyH_ready (rs := [7]) (by kernel_rfl) (by simp) ?_
  refine AllReadyH.cons (o := { dst := some 10, op := Op.call { callee := Callee.value (Operand.func 53), args := #[Operand.tmp 9], argTypes := #[2] }, type := 9, pos := "ref.go:130", after := #[{ on := 6, ground := Ground.data }, { on := 2, ground := Ground.chain }], guard := none }) rfl (fun K hK => ?_) AllReadyH.nil
  go_simp
  refine (HC2.out _ hH.2.1.out).mono ?_
  rintro e W_1 ⟨rfl, bq⟩
  refine hK.out _ _ ?_ (fun hH' => ?_)
  · exact held_next (by assumption) hH
  clear hK K hH
  have hH := hH'
  clear hH'
  try simp only [Act.put, List.setIfInBounds_toArray, List.set_cons_zero, List.set_cons_succ]
  refine wpAnyH_take (i := 8) (oi := { dst := some 11, op := Op.binOp BinOp.add 9 (Operand.tmp 6) (Operand.tmp 10) 9, type := 9, pos := "ref.go:130", after := #[{ on := 3, ground := Ground.data }, { on := 7, ground := Ground.data }], guard := none }) (v := ?_) rfl (by kernel_rfl) (by kernel_rfl) (by kernel_rfl) (fun _ _ _ h => h) (Or.inl ⟨by rfl, ?_⟩) (by assumption) ?_
  rotate_left
  · (intro w hSw; (try dsimp only at hSw); go_simp; try with_reducible rfl)
  try simp only [Act.put, List.setIfInBounds_toArray, List.set_cons_zero, List.set_cons_succ]
  refine wpAnyH_take (i := 9) (oi := { dst := some 2, op := Op.assign (Operand.tmp 11), type := 9, pos := "ref.go:130", after := #[{ on := 8, ground := Ground.data }, { on := 7, ground := Ground.chain }, { on := 0, ground := Ground.phase }, { on := 1, ground := Ground.phase }, { on := 2, ground := Ground.phase }, { on := 3, ground := Ground.phase }, { on := 4, ground := Ground.phase }, { on := 5, ground := Ground.phase }, { on := 6, ground := Ground.phase }, { on := 7, ground := Ground.phase }, { on := 8, ground := Ground.phase }], guard := none }) (v := ?_) rfl (by kernel_rfl) (by kernel_rfl) (by kernel_rfl) (fun _ _ _ h => h) (Or.inl ⟨by rfl, ?_⟩) (by assumption) ?_
  rotate_left
  · (intro w hSw; (try dsimp only at hSw); go_simp; try with_reducible rfl)
  try simp only [Act.put, List.setIfInBounds_toArray, List.set_cons_zero, List.set_cons_succ]
  refine wpAnyH_done (by kernel_rfl) ?_ _
  refine NoPanic.normal ?_
  have BZ := Lib.hid (HW.out.trans (hH.2.1.out.mono (by have := HZ.out; rw [HN.out]; omega)))
  clear S0 hH
  go_wp2_with fail
  go_ret
  exact ⟨rfl, BZ.out⟩
end Go.Proofs.YtakoghdkllfhlaaDoor

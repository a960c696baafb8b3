/- awake: the document's examples hold. -/
import Derived.Test.YtakoghdkllfhlaaDoorF
namespace Go.Proofs.YtakoghdkllfhlaaDoor
open Go.RowKit

abbrev Str (w : World) (s : ByteArray) (e : Ending) (w' : World) : Prop := e = .returned (.string s) ∧ w = w'
theorem s114_2 (w : World) : Calls Tryd.prog 114 #[.int .i64 2] w (Str w ⟨#[50]⟩) := by
  go_enter Tryd.func114, Tryd.ntmps114
  go_wp2
  go_ret
  exact ⟨rfl, rfl⟩
theorem s114_3 (w : World) : Calls Tryd.prog 114 #[.int .i64 3] w (Str w ⟨#[51]⟩) := by
  go_enter Tryd.func114, Tryd.ntmps114
  go_wp2
  go_ret
  exact ⟨rfl, rfl⟩
theorem p2 (w : World) : Calls Tryd.prog 52 #[.int .i64 2] w (Str w ⟨#[50]⟩) := by
  have A : ∀ w, Calls Tryd.prog 94 #[.int .i64 2, .int .i64 10] w (Str w ⟨#[50]⟩) := fun w => by
    go_enter Tryd.func94, Tryd.ntmps94
    go_wp2_with fail
    refine (s114_2 _).mono ?_
    rintro e w1 ⟨rfl, rfl⟩
    go_wp2_with fail
    go_ret
    exact ⟨rfl, rfl⟩
  have B : ∀ w, Calls Tryd.prog 75 #[.int .i64 2, .int .i64 10] w (Str w ⟨#[50]⟩) := fun w => by
    go_enter Tryd.func75, Tryd.ntmps75
    go_wp2_with fail
    refine (A _).mono ?_
    rintro e w1 ⟨rfl, rfl⟩
    go_wp2_with fail
    go_ret
    exact ⟨rfl, rfl⟩
  clear A
  go_enter Tryd.func52, Tryd.ntmps52
  go_wp2_with fail
  refine (B _).mono ?_
  rintro e w1 ⟨rfl, rfl⟩
  go_wp2_with fail
  go_ret
  exact ⟨rfl, rfl⟩
theorem p3 (w : World) : Calls Tryd.prog 52 #[.int .i64 3] w (Str w ⟨#[51]⟩) := by
  have A : ∀ w, Calls Tryd.prog 94 #[.int .i64 3, .int .i64 10] w (Str w ⟨#[51]⟩) := fun w => by
    go_enter Tryd.func94, Tryd.ntmps94
    go_wp2_with fail
    refine (s114_3 _).mono ?_
    rintro e w1 ⟨rfl, rfl⟩
    go_wp2_with fail
    go_ret
    exact ⟨rfl, rfl⟩
  have B : ∀ w, Calls Tryd.prog 75 #[.int .i64 3, .int .i64 10] w (Str w ⟨#[51]⟩) := fun w => by
    go_enter Tryd.func75, Tryd.ntmps75
    go_wp2_with fail
    refine (A _).mono ?_
    rintro e w1 ⟨rfl, rfl⟩
    go_wp2_with fail
    go_ret
    exact ⟨rfl, rfl⟩
  clear A
  go_enter Tryd.func52, Tryd.ntmps52
  go_wp2_with fail
  refine (B _).mono ?_
  rintro e w1 ⟨rfl, rfl⟩
  go_wp2_with fail
  go_ret
  exact ⟨rfl, rfl⟩
def exA : Adr := ⟨⟨#[100, 105, 115, 107]⟩, ⟨#[100]⟩, 1, 3, ⟨#[]⟩⟩
def exB : Adr := ⟨⟨#[100, 105, 115, 107]⟩, ⟨#[100]⟩, 2, 0, ⟨#[97]⟩⟩
theorem print_A (w : World) : Calls Tryd.prog 27 #[.agg #[.string ⟨#[100, 105, 115, 107]⟩, .string ⟨#[100]⟩, .int .i64 1, .int .i64 3, .string ⟨#[]⟩]] w fun e w' => e = .returned (.string ⟨#[100, 105, 115, 107, 46, 100, 91, 51, 93]⟩) ∧ Below w.heap.size w w' := by
  have HW := Lib.hid ((Below.refl w.heap.size w).alloc (Nat.le_refl _) (ba exA))
  go_enter Tryd.func27, Tryd.ntmps27
  go_wp2_with fail
  refine (p3 _).mono ?_
  rintro e w1 ⟨rfl, rfl⟩
  go_wp2_with fail
  go_ret
  exact ⟨rfl, HW.out⟩
theorem print_B (w : World) : Calls Tryd.prog 27 #[.agg #[.string ⟨#[100, 105, 115, 107]⟩, .string ⟨#[100]⟩, .int .i64 2, .int .i64 0, .string ⟨#[97]⟩]] w fun e w' => e = .returned (.string ⟨#[100, 105, 115, 107, 46, 100, 91, 34, 97, 34, 93]⟩) ∧ Below w.heap.size w w' := by
  have HW := Lib.hid ((Below.refl w.heap.size w).alloc (Nat.le_refl _) (ba exB))
  go_enter Tryd.func27, Tryd.ntmps27
  go_wp2_with fail
  go_ret
  exact ⟨rfl, HW.out⟩
/-- the object of the examples -/
def exK : Obt := ⟨exB, 2⟩
theorem p2B (w : World) : Calls Tryd.prog 52 #[.int .i64 2] w fun e w' => e = .returned (.string ⟨#[50]⟩) ∧ Below w.heap.size w w' := (p2 w).mono fun e w' h => ⟨h.1, by rw [← h.2]; exact Below.refl _ _⟩
set_option maxRecDepth 100000 in
set_option maxHeartbeats 4000000 in
theorem printK_B (w : World) : Calls Tryd.prog 29 #[.agg #[.string ⟨#[100, 105, 115, 107]⟩, .string ⟨#[100]⟩, .int .i64 2, .int .i64 0, .string ⟨#[97]⟩, .int .u32 2]] w fun e w' => e = .returned (.string ⟨#[100, 105, 115, 107, 46, 100, 91, 34, 97, 34, 93, 35, 50]⟩) ∧ Below w.heap.size w w' := by
  have HA0 : Hid (Hk (w.alloc (Obj.cells #[.string ⟨#[100, 105, 115, 107]⟩, .string ⟨#[100]⟩, .int .i64 2, .int .i64 0, .string ⟨#[97]⟩, .int .u32 2] 26)) w.heap.size exK) := Hk.made w exK
  have HW : Hid (Below w.heap.size w (w.alloc (Obj.cells #[.string ⟨#[100, 105, 115, 107]⟩, .string ⟨#[100]⟩, .int .i64 2, .int .i64 0, .string ⟨#[97]⟩, .int .u32 2] 26))) := (Below.refl w.heap.size w).alloc (Nat.le_refl _) _
  have HZ : Hid ((w.alloc (Obj.cells #[.string ⟨#[100, 105, 115, 107]⟩, .string ⟨#[100]⟩, .int .i64 2, .int .i64 0, .string ⟨#[97]⟩, .int .u32 2] 26)).heap.size = w.heap.size + 1) := by simp [Hid]
  go_enter Tryd.func29, Tryd.ntmps29
  go_upto_region 1 with fail
  generalize World.alloc w _ = w0 at *
  obtain ⟨x8, x0, x1, x2, x3, x4, x5⟩ := HA0.out
  dsimp only [exK, exB] at x0 x1 x2 x3 x4 x5
  obtain ⟨N, hN⟩ : ∃ N, N = w0.heap.size := ⟨_, rfl⟩
  have S0 := held_at hN
  have lA : w.heap.size < N := by have := HZ.out; omega
  have HN := Lib.hid hN
  clear hN
  refine wp_region_noPanic ?_
  refine wp_region_held_drew (S := (fun W => (∀ b o, b < N → W.cell? ⟨b, o, none⟩ = w0.cell? ⟨b, o, none⟩) ∧ Hid (Below N w0 W) ∧ Hid (N ≤ W.heap.size))) (by kernel_rfl) ?_ (fun hH => ?_)
  · exact S0
  refine wpAnyH_take (i := 0) (oi := { dst := some 3, op := Op.fieldAddr 26 (Operand.tmp 1) 0, type := 0, pos := "text.go:35", after := #[], guard := none }) (v := ?_) rfl (by kernel_rfl) (by kernel_rfl) (by kernel_rfl) (fun _ _ _ h => h) (Or.inl ⟨by rfl, ?_⟩) (by assumption) ?_
  rotate_left
  · (intro w hSw; (try dsimp only at hSw); go_simp; try with_reducible rfl)
  try simp only [Act.put, List.setIfInBounds_toArray, List.set_cons_zero, List.set_cons_succ]
  refine wpAnyH_take (i := 1) (oi := { dst := some 4, op := Op.load 23 (Operand.tmp 3), type := 23, pos := "text.go:35", after := #[{ on := 0, ground := Ground.data }], guard := none }) (v := ?_) rfl (by kernel_rfl) (by kernel_rfl) (by kernel_rfl) (fun _ _ _ h => h) (Or.inl ⟨by rfl, ?_⟩) (by assumption) ?_
  rotate_left
  · (intro w hSw; (try dsimp only at hSw); go_simp; try with_reducible rfl)
  try simp only [Act.put, List.setIfInBounds_toArray, List.set_cons_zero, List.set_cons_succ]
  refine wpAnyH_take (i := 4) (oi := { dst := some 7, op := Op.fieldAddr 26 (Operand.tmp 1) 1, type := 0, pos := "text.go:35", after := #[], guard := none }) (v := ?_) rfl (by kernel_rfl) (by kernel_rfl) (by kernel_rfl) (fun _ _ _ h => h) (Or.inl ⟨by rfl, ?_⟩) (by assumption) ?_
  rotate_left
  · (intro w hSw; (try dsimp only at hSw); go_simp; try with_reducible rfl)
  try simp only [Act.put, List.setIfInBounds_toArray, List.set_cons_zero, List.set_cons_succ]
  refine wpAnyH_take (i := 5) (oi := { dst := some 8, op := Op.load 24 (Operand.tmp 7), type := 24, pos := "text.go:35", after := #[{ on := 4, ground := Ground.data }], guard := none }) (v := ?_) rfl (by kernel_rfl) (by kernel_rfl) (by kernel_rfl) (fun _ _ _ h => h) (Or.inl ⟨by rfl, ?_⟩) (by assumption) ?_
  rotate_left
  · (intro w hSw; (try dsimp only at hSw); go_simp; try with_reducible rfl)
  try simp only [Act.put, List.setIfInBounds_toArray, List.set_cons_zero, List.set_cons_succ]
  refine wpAnyH_take (i := 6) (oi := { dst := some 9, op := Op.convert 24 2 (Operand.tmp 8), type := 2, pos := "text.go:35", after := #[{ on := 5, ground := Ground.data }], guard := none }) (v := ?_) rfl (by kernel_rfl) (by kernel_rfl) (by kernel_rfl) (fun _ _ _ h => h) (Or.inl ⟨by rfl, ?_⟩) (by assumption) ?_
  rotate_left
  · (intro w hSw; (try dsimp only at hSw); go_simp; try with_reducible rfl)
  try simp only [Act.put, List.setIfInBounds_toArray, List.set_cons_zero, List.set_cons_succ]
  refine wpAnyH_ready (rs := [2]) (by kernel_rfl) (by simp) ?_
  refine AllReadyH.cons (o := { dst := some 5, op := Op.call { callee := Callee.value (Operand.func 27), args := #[Operand.tmp 4], argTypes := #[23] }, type := 9, pos := "text.go:35", after := #[{ on := 1, ground := Ground.data }], guard := none }) rfl (fun K hK => ?_) AllReadyH.nil
  go_simp
  refine (print_B _).mono ?_
  rintro e W_0 ⟨rfl, b⟩
  refine hK.out _ _ ?_ (fun hH' => ?_)
  · exact held_next (by assumption) hH
  clear hK K hH
  have hH := hH'
  clear hH'
  try simp only [Act.put, List.setIfInBounds_toArray, List.set_cons_zero, List.set_cons_succ]
  refine wpAnyH_take (i := 3) (oi := { dst := some 6, op := Op.binOp BinOp.add 9 (Operand.tmp 5) (Operand.const (Value.string { data := #[35] })) 9, type := 9, pos := "text.go:35", after := #[{ on := 2, ground := Ground.data }], guard := none }) (v := ?_) rfl (by kernel_rfl) (by kernel_rfl) (by kernel_rfl) (fun _ _ _ h => h) (Or.inl ⟨by rfl, ?_⟩) (by assumption) ?_
  rotate_left
  · (intro w hSw; (try dsimp only at hSw); go_simp; try with_reducible rfl)
  try simp only [Act.put, List.setIfInBounds_toArray, List.set_cons_zero, List.set_cons_succ]
  refine wpAnyH_ready (rs := [7]) (by kernel_rfl) (by simp) ?_
  refine AllReadyH.cons (o := { dst := some 10, op := Op.call { callee := Callee.value (Operand.func 52), args := #[Operand.tmp 9], argTypes := #[2] }, type := 9, pos := "text.go:35", after := #[{ on := 6, ground := Ground.data }, { on := 2, ground := Ground.chain }], guard := none }) rfl (fun K hK => ?_) AllReadyH.nil
  go_simp
  refine (p2B _).mono ?_
  rintro e W_1 ⟨rfl, b⟩
  refine hK.out _ _ ?_ (fun hH' => ?_)
  · exact held_next (by assumption) hH
  clear hK K hH
  have hH := hH'
  clear hH'
  try simp only [Act.put, List.setIfInBounds_toArray, List.set_cons_zero, List.set_cons_succ]
  refine wpAnyH_take (i := 8) (oi := { dst := some 11, op := Op.binOp BinOp.add 9 (Operand.tmp 6) (Operand.tmp 10) 9, type := 9, pos := "text.go:35", after := #[{ on := 3, ground := Ground.data }, { on := 7, ground := Ground.data }], guard := none }) (v := ?_) rfl (by kernel_rfl) (by kernel_rfl) (by kernel_rfl) (fun _ _ _ h => h) (Or.inl ⟨by rfl, ?_⟩) (by assumption) ?_
  rotate_left
  · (intro w hSw; (try dsimp only at hSw); go_simp; try with_reducible rfl)
  try simp only [Act.put, List.setIfInBounds_toArray, List.set_cons_zero, List.set_cons_succ]
  refine wpAnyH_take (i := 9) (oi := { dst := some 2, op := Op.assign (Operand.tmp 11), type := 9, pos := "text.go:35", after := #[{ on := 8, ground := Ground.data }, { on := 7, ground := Ground.chain }, { on := 0, ground := Ground.phase }, { on := 1, ground := Ground.phase }, { on := 2, ground := Ground.phase }, { on := 3, ground := Ground.phase }, { on := 4, ground := Ground.phase }, { on := 5, ground := Ground.phase }, { on := 6, ground := Ground.phase }, { on := 7, ground := Ground.phase }, { on := 8, ground := Ground.phase }], guard := none }) (v := ?_) rfl (by kernel_rfl) (by kernel_rfl) (by kernel_rfl) (fun _ _ _ h => h) (Or.inl ⟨by rfl, ?_⟩) (by assumption) ?_
  rotate_left
  · (intro w hSw; (try dsimp only at hSw); go_simp; try with_reducible rfl)
  try simp only [Act.put, List.setIfInBounds_toArray, List.set_cons_zero, List.set_cons_succ]
  refine wpAnyH_done (by kernel_rfl) ?_ _
  refine NoPanic.normal ?_
  have BZ := Lib.hid (HW.out.trans (hH.2.1.out.mono (by have := HZ.out; rw [HN.out]; omega)))
  clear S0 hH
  go_wp2_with fail
  go_ret
  exact ⟨rfl, BZ.out⟩
theorem less_ex : decide (ordA exA exB < 0) = true := by
  rw [decide_eq_true_eq, lessA_iff]
  unfold lessA exA exB
  simp
set_option maxHeartbeats 2000000 in
theorem awake_any (w : World) : Calls Tryd.prog 9 #[] w (Tru w true) := by
  have HA : Hid (Ha ((w.alloc (Obj.cells #[.string ⟨#[100, 105, 115, 107]⟩, .string ⟨#[100]⟩, .int .i64 1, .int .i64 3, .string ⟨#[]⟩] 23)).alloc (Obj.cells #[.string ⟨#[100, 105, 115, 107]⟩, .string ⟨#[100]⟩, .int .i64 2, .int .i64 0, .string ⟨#[97]⟩] 23)) w.heap.size exA) := (Ha.made w exA).kept ((Below.refl (w.heap.size + 1) _).alloc (by simp) (ba exB)) (Nat.lt_succ_self _)
  have HB : Hid (Ha ((w.alloc (Obj.cells #[.string ⟨#[100, 105, 115, 107]⟩, .string ⟨#[100]⟩, .int .i64 1, .int .i64 3, .string ⟨#[]⟩] 23)).alloc (Obj.cells #[.string ⟨#[100, 105, 115, 107]⟩, .string ⟨#[100]⟩, .int .i64 2, .int .i64 0, .string ⟨#[97]⟩] 23)) (w.heap.size + 1) exB) := by have := Ha.made (w.alloc (ba exA)) exB; rw [World.size_alloc] at this; exact this
  have HW : Hid (Below w.heap.size w ((w.alloc (Obj.cells #[.string ⟨#[100, 105, 115, 107]⟩, .string ⟨#[100]⟩, .int .i64 1, .int .i64 3, .string ⟨#[]⟩] 23)).alloc (Obj.cells #[.string ⟨#[100, 105, 115, 107]⟩, .string ⟨#[100]⟩, .int .i64 2, .int .i64 0, .string ⟨#[97]⟩] 23))) := ((Below.refl w.heap.size w).alloc (Nat.le_refl _) _).alloc (by simp) _
  have HZ : Hid (((w.alloc (Obj.cells #[.string ⟨#[100, 105, 115, 107]⟩, .string ⟨#[100]⟩, .int .i64 1, .int .i64 3, .string ⟨#[]⟩] 23)).alloc (Obj.cells #[.string ⟨#[100, 105, 115, 107]⟩, .string ⟨#[100]⟩, .int .i64 2, .int .i64 0, .string ⟨#[97]⟩] 23)).heap.size = w.heap.size + 2) := by simp [Hid]
  have C : Hid (∀ w, Calls Tryd.prog 20 #[.agg #[.string ⟨#[100, 105, 115, 107]⟩, .string ⟨#[100]⟩, .int .i64 1, .int .i64 3, .string ⟨#[]⟩], .agg #[.string ⟨#[100, 105, 115, 107]⟩, .string ⟨#[100]⟩, .int .i64 2, .int .i64 0, .string ⟨#[97]⟩]] w (Tru w true)) := fun w => by
    have := less_any exA exB w
    rw [less_ex] at this
    exact this
  go_enter Tryd.func9, Tryd.ntmps9
  go_upto_region 3 with fail
  generalize World.alloc (World.alloc w _) _ = w0 at *
  obtain ⟨x8, x0, x1, x2, x3, x4⟩ := HA.out
  obtain ⟨y8, y0, y1, y2, y3, y4⟩ := HB.out
  dsimp only [exA, exB] at x0 x1 x2 x3 x4 y0 y1 y2 y3 y4
  go_wp2_with fail
  refine (C.out _).mono ?_
  rintro e w1 ⟨rfl, b1⟩
  have B1 := Lib.hid b1
  clear b1 x8 x0 x1 x2 x3 x4 y8 y0 y1 y2 y3 y4
  obtain ⟨x8, x0, x1, x2, x3, x4⟩ := HA.out.kept B1.out (by have := HZ.out; omega)
  obtain ⟨y8, y0, y1, y2, y3, y4⟩ := HB.out.kept B1.out (by have := HZ.out; omega)
  dsimp only [exA, exB] at x0 x1 x2 x3 x4 y0 y1 y2 y3 y4
  go_wp2_with fail
  refine (printK_B _).mono ?_
  rintro e w2 ⟨rfl, b2⟩
  have B2 := Lib.hid (B1.out.trans (b2.mono B1.out.size))
  clear b2 x8 x0 x1 x2 x3 x4 y8 y0 y1 y2 y3 y4
  obtain ⟨x8, x0, x1, x2, x3, x4⟩ := HA.out.kept B2.out (by have := HZ.out; omega)
  dsimp only [exA] at x0 x1 x2 x3 x4
  go_wp2_with fail
  refine (print_A _).mono ?_
  rintro e w3 ⟨rfl, b3⟩
  have B3 := Lib.hid (HW.out.trans ((B2.out.trans (b3.mono B2.out.size)).mono HW.out.size))
  clear b3 x8 x0 x1 x2 x3 x4
  go_wp2_with fail
  go_ret
  exact ⟨rfl, B3.out⟩
end Go.Proofs.YtakoghdkllfhlaaDoor

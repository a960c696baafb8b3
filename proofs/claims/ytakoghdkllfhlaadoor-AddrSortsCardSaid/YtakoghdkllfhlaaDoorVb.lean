/- The order of addresses and of objects, told with the count of draws. -/
import Derived.Test.YtakoghdkllfhlaaDoorF
import Derived.Lib.QuietBelow
namespace Go.Proofs.YtakoghdkllfhlaaDoor
open Go.RowKit

/-- of what lay below m nothing has turned; the tape was asked no less often -/
structure BD (m : Nat) (w w' : World) : Prop where
  below : Below m w w'
  dr : w.drawn ≤ w'.drawn
theorem BD.refl (m : Nat) (w : World) : BD m w w := ⟨Below.refl _ _, Nat.le_refl _⟩
theorem BD.trans {m : Nat} {a b c : World} (h : BD m a b) (k : BD m b c) : BD m a c := ⟨h.below.trans k.below, Nat.le_trans h.dr k.dr⟩
theorem BD.mono {m n : Nat} {a b : World} (h : BD n a b) (hn : m ≤ n) : BD m a b := ⟨h.below.mono hn, h.dr⟩
theorem BD.alloc {m : Nat} {a b : World} (h : BD m a b) (hn : m ≤ b.heap.size) (o : Obj) : BD m a (b.alloc o) := ⟨h.below.alloc hn o, h.dr⟩
theorem BD.drew {m : Nat} {a b : World} (h : BD m a b) : BD m a b.drew := ⟨h.below.drew, Nat.le_succ_of_le h.dr⟩
theorem BD.size {m : Nat} {a b : World} (h : BD m a b) : a.heap.size ≤ b.heap.size := h.below.size
theorem held_nextD {N : Nat} {W0 W1 W2 : World} (b : BD W1.heap.size W1 W2) (h : (∀ b o, b < N → W1.cell? ⟨b, o, none⟩ = W0.cell? ⟨b, o, none⟩) ∧ Hid (BD N W0 W1) ∧ Hid (N ≤ W1.heap.size)) :
    (∀ b o, b < N → W2.cell? ⟨b, o, none⟩ = W0.cell? ⟨b, o, none⟩) ∧ Hid (BD N W0 W2) ∧ Hid (N ≤ W2.heap.size) := by
  have hB : BD N W0 W2 := h.2.1.out.trans (b.mono h.2.2.out)
  exact ⟨fun b o hb => hB.below.cell (p := ⟨b, o, none⟩) hb, hB, Nat.le_trans h.2.2.out b.size⟩
theorem held_atD {N : Nat} {W0 : World} (h : N = W0.heap.size) : (∀ b o, b < N → W0.drew.cell? ⟨b, o, none⟩ = W0.cell? ⟨b, o, none⟩) ∧ Hid (BD N W0 W0.drew) ∧ Hid (N ≤ W0.drew.heap.size) :=
  ⟨fun _ _ _ => rfl, (BD.refl _ _).drew, Nat.le_of_eq h⟩
/-- a number, and what lay below stays -/
abbrev NumD (w : World) (n : Int) (e : Ending) (w' : World) : Prop := e = .returned (.int .i64 n) ∧ BD w.heap.size w w'
theorem cmpD_65 (a b : Int) (w : World) : Calls Tryd.prog 65 #[.int .u32 a, .int .u32 b] w (NumD w (cmpI a b)) := (cmp_65 a b w).mono fun e w' h => ⟨h.1, by rw [← h.2]; exact BD.refl _ _⟩
theorem cmpD_66 (a b : ByteArray) (w : World) : Calls Tryd.prog 66 #[.string a, .string b] w (NumD w (cmpS a b)) := (cmp_66 a b w).mono fun e w' h => ⟨h.1, by rw [← h.2]; exact BD.refl _ _⟩
theorem cmpD_67 (a b : Int) (w : World) : Calls Tryd.prog 67 #[.int .i64 a, .int .i64 b] w (NumD w (cmpI a b)) := (cmp_67 a b w).mono fun e w' h => ⟨h.1, by rw [← h.2]; exact BD.refl _ _⟩
theorem cmpD_68 (a b : Int) (w : World) : Calls Tryd.prog 68 #[.int .i64 a, .int .i64 b] w (NumD w (cmpI a b)) := (cmp_68 a b w).mono fun e w' h => ⟨h.1, by rw [← h.2]; exact BD.refl _ _⟩
theorem or5D (a b c d f : Int) (w : World) : Calls Tryd.prog 64 #[.slice (some ⟨w.heap.size, 0, none⟩) 5 5] (w.alloc (.cells #[.int .i64 a, .int .i64 b, .int .i64 c, .int .i64 d, .int .i64 f] 3)) (NumD (w.alloc (.cells #[.int .i64 a, .int .i64 b, .int .i64 c, .int .i64 d, .int .i64 f] 3)) (orL [a, b, c, d, f])) :=
  (or_any [a, b, c, d, f] w.heap.size _ (by simp) (fun i hi => by
    rw [cell_of_row _ _ _ _ _ _ (heap_alloc_new _ _)]
    match i, hi with
    | 0, _ => rfl
    | 1, _ => rfl
    | 2, _ => rfl
    | 3, _ => rfl
    | 4, _ => rfl)).mono fun e w' h => ⟨h.1, by rw [← h.2]; exact BD.refl _ _⟩
theorem or2D (a b : Int) (w : World) : Calls Tryd.prog 64 #[.slice (some ⟨w.heap.size, 0, none⟩) 2 2] (w.alloc (.cells #[.int .i64 a, .int .i64 b] 3)) (NumD (w.alloc (.cells #[.int .i64 a, .int .i64 b] 3)) (orL [a, b])) :=
  (or_any [a, b] w.heap.size _ (by simp) (fun i hi => by
    rw [cell_of_row _ _ _ _ _ _ (heap_alloc_new _ _)]
    match i, hi with
    | 0, _ => rfl
    | 1, _ => rfl)).mono fun e w' h => ⟨h.1, by rw [← h.2]; exact BD.refl _ _⟩
set_option maxRecDepth 100000 in
set_option maxHeartbeats 4000000 in
theorem order_anyD (a b : Adr) (w : World) : Calls Tryd.prog 46 #[av a, av b] w (NumD w (ordA a b)) := by
  have HA0 := Lib.hid ((Ha.made w a).kept ((Below.refl (w.heap.size + 1) _).alloc (by simp) (ba b)) (Nat.lt_succ_self _))
  have HB0 : Hid (Ha ((w.alloc (ba a)).alloc (ba b)) (w.heap.size + 1) b) := by have := Ha.made (w.alloc (ba a)) b; rw [World.size_alloc] at this; exact this
  have HW := Lib.hid (((BD.refl w.heap.size w).alloc (Nat.le_refl _) (ba a)).alloc (by simp) (ba b))
  have HZ : Hid (((w.alloc (ba a)).alloc (ba b)).heap.size = w.heap.size + 2) := by simp [Hid]
  go_enter Tryd.func46, Tryd.ntmps46
  go_upto_region 1 with fail
  generalize World.alloc (World.alloc w _) _ = w0 at *
  obtain ⟨x8, x0, x1, x2, x3, x4⟩ := HA0.out
  obtain ⟨y8, y0, y1, y2, y3, y4⟩ := HB0.out
  obtain ⟨N, hN⟩ : ∃ N, N = w0.heap.size := ⟨_, rfl⟩
  have S0 := held_atD hN
  have lA : w.heap.size < N := by have := HZ.out; omega
  have lB : w.heap.size + 1 < N := by have := HZ.out; omega
  have HN := Lib.hid hN
  clear hN
  refine wp_region_noPanic ?_
  refine wp_region_held_drew (S := (fun W => (∀ b o, b < N → W.cell? ⟨b, o, none⟩ = w0.cell? ⟨b, o, none⟩) ∧ Hid (BD N w0 W) ∧ Hid (N ≤ W.heap.size))) (by kernel_rfl) ?_ (fun hH => ?_)
  · exact S0
  refine wpAnyH_take (i := 0) (oi := { dst := some 5, op := Op.fieldAddr 23 (Operand.tmp 2) 0, type := 0, pos := "addr.go:84", after := #[], guard := none }) (v := ?_) rfl (by kernel_rfl) (by kernel_rfl) (by kernel_rfl) (fun _ _ _ h => h) (Or.inl ⟨by rfl, ?_⟩) (by assumption) ?_
  rotate_left
  · (intro w hSw; (try dsimp only at hSw); go_simp; try with_reducible rfl)
  try simp only [Act.put, List.setIfInBounds_toArray, List.set_cons_zero, List.set_cons_succ]
  refine wpAnyH_take (i := 1) (oi := { dst := some 6, op := Op.load 9 (Operand.tmp 5), type := 9, pos := "addr.go:84", after := #[{ on := 0, ground := Ground.data }], guard := none }) (v := ?_) rfl (by kernel_rfl) (by kernel_rfl) (by kernel_rfl) (fun _ _ _ h => h) (Or.inl ⟨by rfl, ?_⟩) (by assumption) ?_
  rotate_left
  · (intro w hSw; (try dsimp only at hSw); go_simp; try with_reducible rfl)
  try simp only [Act.put, List.setIfInBounds_toArray, List.set_cons_zero, List.set_cons_succ]
  refine wpAnyH_take (i := 2) (oi := { dst := some 7, op := Op.fieldAddr 23 (Operand.tmp 3) 0, type := 0, pos := "addr.go:84", after := #[], guard := none }) (v := ?_) rfl (by kernel_rfl) (by kernel_rfl) (by kernel_rfl) (fun _ _ _ h => h) (Or.inl ⟨by rfl, ?_⟩) (by assumption) ?_
  rotate_left
  · (intro w hSw; (try dsimp only at hSw); go_simp; try with_reducible rfl)
  try simp only [Act.put, List.setIfInBounds_toArray, List.set_cons_zero, List.set_cons_succ]
  refine wpAnyH_take (i := 3) (oi := { dst := some 8, op := Op.load 9 (Operand.tmp 7), type := 9, pos := "addr.go:84", after := #[{ on := 2, ground := Ground.data }], guard := none }) (v := ?_) rfl (by kernel_rfl) (by kernel_rfl) (by kernel_rfl) (fun _ _ _ h => h) (Or.inl ⟨by rfl, ?_⟩) (by assumption) ?_
  rotate_left
  · (intro w hSw; (try dsimp only at hSw); go_simp; try with_reducible rfl)
  try simp only [Act.put, List.setIfInBounds_toArray, List.set_cons_zero, List.set_cons_succ]
  refine wpAnyH_take (i := 5) (oi := { dst := some 10, op := Op.fieldAddr 23 (Operand.tmp 2) 1, type := 0, pos := "addr.go:84", after := #[], guard := none }) (v := ?_) rfl (by kernel_rfl) (by kernel_rfl) (by kernel_rfl) (fun _ _ _ h => h) (Or.inl ⟨by rfl, ?_⟩) (by assumption) ?_
  rotate_left
  · (intro w hSw; (try dsimp only at hSw); go_simp; try with_reducible rfl)
  try simp only [Act.put, List.setIfInBounds_toArray, List.set_cons_zero, List.set_cons_succ]
  refine wpAnyH_take (i := 6) (oi := { dst := some 11, op := Op.load 9 (Operand.tmp 10), type := 9, pos := "addr.go:84", after := #[{ on := 5, ground := Ground.data }], guard := none }) (v := ?_) rfl (by kernel_rfl) (by kernel_rfl) (by kernel_rfl) (fun _ _ _ h => h) (Or.inl ⟨by rfl, ?_⟩) (by assumption) ?_
  rotate_left
  · (intro w hSw; (try dsimp only at hSw); go_simp; try with_reducible rfl)
  try simp only [Act.put, List.setIfInBounds_toArray, List.set_cons_zero, List.set_cons_succ]
  refine wpAnyH_take (i := 7) (oi := { dst := some 12, op := Op.fieldAddr 23 (Operand.tmp 3) 1, type := 0, pos := "addr.go:84", after := #[], guard := none }) (v := ?_) rfl (by kernel_rfl) (by kernel_rfl) (by kernel_rfl) (fun _ _ _ h => h) (Or.inl ⟨by rfl, ?_⟩) (by assumption) ?_
  rotate_left
  · (intro w hSw; (try dsimp only at hSw); go_simp; try with_reducible rfl)
  try simp only [Act.put, List.setIfInBounds_toArray, List.set_cons_zero, List.set_cons_succ]
  refine wpAnyH_take (i := 8) (oi := { dst := some 13, op := Op.load 9 (Operand.tmp 12), type := 9, pos := "addr.go:84", after := #[{ on := 7, ground := Ground.data }], guard := none }) (v := ?_) rfl (by kernel_rfl) (by kernel_rfl) (by kernel_rfl) (fun _ _ _ h => h) (Or.inl ⟨by rfl, ?_⟩) (by assumption) ?_
  rotate_left
  · (intro w hSw; (try dsimp only at hSw); go_simp; try with_reducible rfl)
  try simp only [Act.put, List.setIfInBounds_toArray, List.set_cons_zero, List.set_cons_succ]
  refine wpAnyH_take (i := 10) (oi := { dst := some 15, op := Op.fieldAddr 23 (Operand.tmp 2) 2, type := 0, pos := "addr.go:84", after := #[], guard := none }) (v := ?_) rfl (by kernel_rfl) (by kernel_rfl) (by kernel_rfl) (fun _ _ _ h => h) (Or.inl ⟨by rfl, ?_⟩) (by assumption) ?_
  rotate_left
  · (intro w hSw; (try dsimp only at hSw); go_simp; try with_reducible rfl)
  try simp only [Act.put, List.setIfInBounds_toArray, List.set_cons_zero, List.set_cons_succ]
  refine wpAnyH_take (i := 11) (oi := { dst := some 16, op := Op.load 3 (Operand.tmp 15), type := 3, pos := "addr.go:84", after := #[{ on := 10, ground := Ground.data }], guard := none }) (v := ?_) rfl (by kernel_rfl) (by kernel_rfl) (by kernel_rfl) (fun _ _ _ h => h) (Or.inl ⟨by rfl, ?_⟩) (by assumption) ?_
  rotate_left
  · (intro w hSw; (try dsimp only at hSw); go_simp; try with_reducible rfl)
  try simp only [Act.put, List.setIfInBounds_toArray, List.set_cons_zero, List.set_cons_succ]
  refine wpAnyH_take (i := 12) (oi := { dst := some 17, op := Op.fieldAddr 23 (Operand.tmp 3) 2, type := 0, pos := "addr.go:84", after := #[], guard := none }) (v := ?_) rfl (by kernel_rfl) (by kernel_rfl) (by kernel_rfl) (fun _ _ _ h => h) (Or.inl ⟨by rfl, ?_⟩) (by assumption) ?_
  rotate_left
  · (intro w hSw; (try dsimp only at hSw); go_simp; try with_reducible rfl)
  try simp only [Act.put, List.setIfInBounds_toArray, List.set_cons_zero, List.set_cons_succ]
  refine wpAnyH_take (i := 13) (oi := { dst := some 18, op := Op.load 3 (Operand.tmp 17), type := 3, pos := "addr.go:84", after := #[{ on := 12, ground := Ground.data }], guard := none }) (v := ?_) rfl (by kernel_rfl) (by kernel_rfl) (by kernel_rfl) (fun _ _ _ h => h) (Or.inl ⟨by rfl, ?_⟩) (by assumption) ?_
  rotate_left
  · (intro w hSw; (try dsimp only at hSw); go_simp; try with_reducible rfl)
  try simp only [Act.put, List.setIfInBounds_toArray, List.set_cons_zero, List.set_cons_succ]
  refine wpAnyH_take (i := 15) (oi := { dst := some 20, op := Op.fieldAddr 23 (Operand.tmp 2) 3, type := 0, pos := "addr.go:84", after := #[], guard := none }) (v := ?_) rfl (by kernel_rfl) (by kernel_rfl) (by kernel_rfl) (fun _ _ _ h => h) (Or.inl ⟨by rfl, ?_⟩) (by assumption) ?_
  rotate_left
  · (intro w hSw; (try dsimp only at hSw); go_simp; try with_reducible rfl)
  try simp only [Act.put, List.setIfInBounds_toArray, List.set_cons_zero, List.set_cons_succ]
  refine wpAnyH_take (i := 16) (oi := { dst := some 21, op := Op.load 2 (Operand.tmp 20), type := 2, pos := "addr.go:84", after := #[{ on := 15, ground := Ground.data }], guard := none }) (v := ?_) rfl (by kernel_rfl) (by kernel_rfl) (by kernel_rfl) (fun _ _ _ h => h) (Or.inl ⟨by rfl, ?_⟩) (by assumption) ?_
  rotate_left
  · (intro w hSw; (try dsimp only at hSw); go_simp; try with_reducible rfl)
  try simp only [Act.put, List.setIfInBounds_toArray, List.set_cons_zero, List.set_cons_succ]
  refine wpAnyH_take (i := 17) (oi := { dst := some 22, op := Op.fieldAddr 23 (Operand.tmp 3) 3, type := 0, pos := "addr.go:84", after := #[], guard := none }) (v := ?_) rfl (by kernel_rfl) (by kernel_rfl) (by kernel_rfl) (fun _ _ _ h => h) (Or.inl ⟨by rfl, ?_⟩) (by assumption) ?_
  rotate_left
  · (intro w hSw; (try dsimp only at hSw); go_simp; try with_reducible rfl)
  try simp only [Act.put, List.setIfInBounds_toArray, List.set_cons_zero, List.set_cons_succ]
  refine wpAnyH_take (i := 18) (oi := { dst := some 23, op := Op.load 2 (Operand.tmp 22), type := 2, pos := "addr.go:84", after := #[{ on := 17, ground := Ground.data }], guard := none }) (v := ?_) rfl (by kernel_rfl) (by kernel_rfl) (by kernel_rfl) (fun _ _ _ h => h) (Or.inl ⟨by rfl, ?_⟩) (by assumption) ?_
  rotate_left
  · (intro w hSw; (try dsimp only at hSw); go_simp; try with_reducible rfl)
  try simp only [Act.put, List.setIfInBounds_toArray, List.set_cons_zero, List.set_cons_succ]
  refine wpAnyH_take (i := 20) (oi := { dst := some 25, op := Op.fieldAddr 23 (Operand.tmp 2) 4, type := 0, pos := "addr.go:84", after := #[], guard := none }) (v := ?_) rfl (by kernel_rfl) (by kernel_rfl) (by kernel_rfl) (fun _ _ _ h => h) (Or.inl ⟨by rfl, ?_⟩) (by assumption) ?_
  rotate_left
  · (intro w hSw; (try dsimp only at hSw); go_simp; try with_reducible rfl)
  try simp only [Act.put, List.setIfInBounds_toArray, List.set_cons_zero, List.set_cons_succ]
  refine wpAnyH_take (i := 21) (oi := { dst := some 26, op := Op.load 9 (Operand.tmp 25), type := 9, pos := "addr.go:84", after := #[{ on := 20, ground := Ground.data }], guard := none }) (v := ?_) rfl (by kernel_rfl) (by kernel_rfl) (by kernel_rfl) (fun _ _ _ h => h) (Or.inl ⟨by rfl, ?_⟩) (by assumption) ?_
  rotate_left
  · (intro w hSw; (try dsimp only at hSw); go_simp; try with_reducible rfl)
  try simp only [Act.put, List.setIfInBounds_toArray, List.set_cons_zero, List.set_cons_succ]
  refine wpAnyH_take (i := 22) (oi := { dst := some 27, op := Op.fieldAddr 23 (Operand.tmp 3) 4, type := 0, pos := "addr.go:84", after := #[], guard := none }) (v := ?_) rfl (by kernel_rfl) (by kernel_rfl) (by kernel_rfl) (fun _ _ _ h => h) (Or.inl ⟨by rfl, ?_⟩) (by assumption) ?_
  rotate_left
  · (intro w hSw; (try dsimp only at hSw); go_simp; try with_reducible rfl)
  try simp only [Act.put, List.setIfInBounds_toArray, List.set_cons_zero, List.set_cons_succ]
  refine wpAnyH_take (i := 23) (oi := { dst := some 28, op := Op.load 9 (Operand.tmp 27), type := 9, pos := "addr.go:84", after := #[{ on := 22, ground := Ground.data }], guard := none }) (v := ?_) rfl (by kernel_rfl) (by kernel_rfl) (by kernel_rfl) (fun _ _ _ h => h) (Or.inl ⟨by rfl, ?_⟩) (by assumption) ?_
  rotate_left
  · (intro w hSw; (try dsimp only at hSw); go_simp; try with_reducible rfl)
  try simp only [Act.put, List.setIfInBounds_toArray, List.set_cons_zero, List.set_cons_succ]
  refine wpAnyH_ready (rs := [4]) (by kernel_rfl) (by simp) ?_
  refine AllReadyH.cons (o := { dst := some 9, op := Op.call { callee := Callee.value (Operand.func 66), args := #[Operand.tmp 6, Operand.tmp 8], argTypes := #[9, 9] }, type := 3, pos := "addr.go:85", after := #[{ on := 1, ground := Ground.data }, { on := 3, ground := Ground.data }], guard := none }) rfl (fun K hK => ?_) AllReadyH.nil
  go_simp
  refine (cmpD_66 _ _ _).mono ?_
  rintro e W_0 ⟨rfl, b⟩
  refine hK.out _ _ ?_ (fun hH' => ?_)
  · exact held_nextD (by assumption) hH
  clear hK K hH
  have hH := hH'
  clear hH'
  try simp only [Act.put, List.setIfInBounds_toArray, List.set_cons_zero, List.set_cons_succ]
  refine wpAnyH_ready (rs := [9]) (by kernel_rfl) (by simp) ?_
  refine AllReadyH.cons (o := { dst := some 14, op := Op.call { callee := Callee.value (Operand.func 66), args := #[Operand.tmp 11, Operand.tmp 13], argTypes := #[9, 9] }, type := 3, pos := "addr.go:86", after := #[{ on := 6, ground := Ground.data }, { on := 8, ground := Ground.data }, { on := 4, ground := Ground.chain }], guard := none }) rfl (fun K hK => ?_) AllReadyH.nil
  go_simp
  refine (cmpD_66 _ _ _).mono ?_
  rintro e W_1 ⟨rfl, b⟩
  refine hK.out _ _ ?_ (fun hH' => ?_)
  · exact held_nextD (by assumption) hH
  clear hK K hH
  have hH := hH'
  clear hH'
  try simp only [Act.put, List.setIfInBounds_toArray, List.set_cons_zero, List.set_cons_succ]
  refine wpAnyH_ready (rs := [14]) (by kernel_rfl) (by simp) ?_
  refine AllReadyH.cons (o := { dst := some 19, op := Op.call { callee := Callee.value (Operand.func 67), args := #[Operand.tmp 16, Operand.tmp 18], argTypes := #[3, 3] }, type := 3, pos := "addr.go:87", after := #[{ on := 11, ground := Ground.data }, { on := 13, ground := Ground.data }, { on := 9, ground := Ground.chain }], guard := none }) rfl (fun K hK => ?_) AllReadyH.nil
  go_simp
  refine (cmpD_67 _ _ _).mono ?_
  rintro e W_2 ⟨rfl, b⟩
  refine hK.out _ _ ?_ (fun hH' => ?_)
  · exact held_nextD (by assumption) hH
  clear hK K hH
  have hH := hH'
  clear hH'
  try simp only [Act.put, List.setIfInBounds_toArray, List.set_cons_zero, List.set_cons_succ]
  refine wpAnyH_ready (rs := [19]) (by kernel_rfl) (by simp) ?_
  refine AllReadyH.cons (o := { dst := some 24, op := Op.call { callee := Callee.value (Operand.func 68), args := #[Operand.tmp 21, Operand.tmp 23], argTypes := #[2, 2] }, type := 3, pos := "addr.go:88", after := #[{ on := 16, ground := Ground.data }, { on := 18, ground := Ground.data }, { on := 14, ground := Ground.chain }], guard := none }) rfl (fun K hK => ?_) AllReadyH.nil
  go_simp
  refine (cmpD_68 _ _ _).mono ?_
  rintro e W_3 ⟨rfl, b⟩
  refine hK.out _ _ ?_ (fun hH' => ?_)
  · exact held_nextD (by assumption) hH
  clear hK K hH
  have hH := hH'
  clear hH'
  try simp only [Act.put, List.setIfInBounds_toArray, List.set_cons_zero, List.set_cons_succ]
  refine wpAnyH_ready (rs := [24]) (by kernel_rfl) (by simp) ?_
  refine AllReadyH.cons (o := { dst := some 29, op := Op.call { callee := Callee.value (Operand.func 66), args := #[Operand.tmp 26, Operand.tmp 28], argTypes := #[9, 9] }, type := 3, pos := "addr.go:89", after := #[{ on := 21, ground := Ground.data }, { on := 23, ground := Ground.data }, { on := 19, ground := Ground.chain }], guard := none }) rfl (fun K hK => ?_) AllReadyH.nil
  go_simp
  refine (cmpD_66 _ _ _).mono ?_
  rintro e W_4 ⟨rfl, b⟩
  refine hK.out _ _ ?_ (fun hH' => ?_)
  · exact held_nextD (by assumption) hH
  clear hK K hH
  have hH := hH'
  clear hH'
  try simp only [Act.put, List.setIfInBounds_toArray, List.set_cons_zero, List.set_cons_succ]
  refine wpAnyH_ready (rs := [25]) (by kernel_rfl) (by simp) ?_
  refine AllReadyH.cons (o := { dst := some 30, op := Op.buildSlice 108 5 #[(0, Operand.tmp 9), (1, Operand.tmp 14), (2, Operand.tmp 19), (3, Operand.tmp 24), (4, Operand.tmp 29)], type := 108, pos := "addr.go:84", after := #[{ on := 4, ground := Ground.data }, { on := 9, ground := Ground.data }, { on := 14, ground := Ground.data }, { on := 19, ground := Ground.data }, { on := 24, ground := Ground.data }], guard := none }) rfl (fun K hK => ?_) AllReadyH.nil
  go_simp
  refine hK.out _ _ ?_ (fun hH' => ?_)
  · exact held_nextD ((BD.refl _ _).alloc (Nat.le_refl _) _) hH
  clear hK K hH
  have hH := hH'
  clear hH'
  try simp only [Act.put, List.setIfInBounds_toArray, List.set_cons_zero, List.set_cons_succ]
  refine wpAnyH_ready (rs := [26]) (by kernel_rfl) (by simp) ?_
  refine AllReadyH.cons (o := { dst := some 31, op := Op.call { callee := Callee.value (Operand.func 64), args := #[Operand.tmp 30], argTypes := #[108] }, type := 3, pos := "addr.go:84", after := #[{ on := 25, ground := Ground.data }, { on := 24, ground := Ground.chain }], guard := none }) rfl (fun K hK => ?_) AllReadyH.nil
  go_simp
  refine (or5D _ _ _ _ _ _).mono ?_
  rintro e W_6 ⟨rfl, b⟩
  refine hK.out _ _ ?_ (fun hH' => ?_)
  · exact held_nextD (by assumption) hH
  clear hK K hH
  have hH := hH'
  clear hH'
  try simp only [Act.put, List.setIfInBounds_toArray, List.set_cons_zero, List.set_cons_succ]
  refine wpAnyH_take (i := 27) (oi := { dst := some 4, op := Op.assign (Operand.tmp 31), type := 3, pos := "addr.go:84", after := #[{ on := 26, ground := Ground.data }, { on := 26, ground := Ground.chain }, { on := 0, ground := Ground.phase }, { on := 1, ground := Ground.phase }, { on := 2, ground := Ground.phase }, { on := 3, ground := Ground.phase }, { on := 4, ground := Ground.phase }, { on := 5, ground := Ground.phase }, { on := 6, ground := Ground.phase }, { on := 7, ground := Ground.phase }, { on := 8, ground := Ground.phase }, { on := 9, ground := Ground.phase }, { on := 10, ground := Ground.phase }, { on := 11, ground := Ground.phase }, { on := 12, ground := Ground.phase }, { on := 13, ground := Ground.phase }, { on := 14, ground := Ground.phase }, { on := 15, ground := Ground.phase }, { on := 16, ground := Ground.phase }, { on := 17, ground := Ground.phase }, { on := 18, ground := Ground.phase }, { on := 19, ground := Ground.phase }, { on := 20, ground := Ground.phase }, { on := 21, ground := Ground.phase }, { on := 22, ground := Ground.phase }, { on := 23, ground := Ground.phase }, { on := 24, ground := Ground.phase }, { on := 25, ground := Ground.phase }, { on := 26, ground := Ground.phase }], guard := none }) (v := ?_) rfl (by kernel_rfl) (by kernel_rfl) (by kernel_rfl) (fun _ _ _ h => h) (Or.inl ⟨by rfl, ?_⟩) (by assumption) ?_
  rotate_left
  · (intro w hSw; (try dsimp only at hSw); go_simp; try with_reducible rfl)
  try simp only [Act.put, List.setIfInBounds_toArray, List.set_cons_zero, List.set_cons_succ]
  refine wpAnyH_done (by kernel_rfl) ?_ _
  refine NoPanic.normal ?_
  have BZ := Lib.hid (HW.out.trans (hH.2.1.out.mono (by have := HZ.out; rw [HN.out]; omega)))
  clear S0 hH
  go_wp2_with fail
  go_ret
  exact ⟨rfl, BZ.out⟩
set_option maxRecDepth 100000 in
set_option maxHeartbeats 4000000 in
theorem orderK_anyD (a b : Obt) (w : World) : Calls Tryd.prog 45 #[kv a, kv b] w (NumD w (ordK a b)) := by
  have HA0 := Lib.hid ((Hk.made w a).kept ((Below.refl (w.heap.size + 1) _).alloc (by simp) (bk b)) (Nat.lt_succ_self _))
  have HB0 : Hid (Hk ((w.alloc (bk a)).alloc (bk b)) (w.heap.size + 1) b) := by have := Hk.made (w.alloc (bk a)) b; rw [World.size_alloc] at this; exact this
  have HW := Lib.hid (((BD.refl w.heap.size w).alloc (Nat.le_refl _) (bk a)).alloc (by simp) (bk b))
  have HZ : Hid (((w.alloc (bk a)).alloc (bk b)).heap.size = w.heap.size + 2) := by simp [Hid]
  go_enter Tryd.func45, Tryd.ntmps45
  go_upto_region 1 with fail
  generalize World.alloc (World.alloc w _) _ = w0 at *
  obtain ⟨x8, x0, x1, x2, x3, x4, x5⟩ := HA0.out
  obtain ⟨y8, y0, y1, y2, y3, y4, y5⟩ := HB0.out
  obtain ⟨N, hN⟩ : ∃ N, N = w0.heap.size := ⟨_, rfl⟩
  have S0 := held_atD hN
  have lA : w.heap.size < N := by have := HZ.out; omega
  have lB : w.heap.size + 1 < N := by have := HZ.out; omega
  have HN := Lib.hid hN
  clear hN
  refine wp_region_noPanic ?_
  refine wp_region_held_drew (S := (fun W => (∀ b o, b < N → W.cell? ⟨b, o, none⟩ = w0.cell? ⟨b, o, none⟩) ∧ Hid (BD N w0 W) ∧ Hid (N ≤ W.heap.size))) (by kernel_rfl) ?_ (fun hH => ?_)
  · exact S0
  refine wpAnyH_take (i := 0) (oi := { dst := some 5, op := Op.fieldAddr 26 (Operand.tmp 2) 0, type := 0, pos := "addr.go:94", after := #[], guard := none }) (v := ?_) rfl (by kernel_rfl) (by kernel_rfl) (by kernel_rfl) (fun _ _ _ h => h) (Or.inl ⟨by rfl, ?_⟩) (by assumption) ?_
  rotate_left
  · (intro w hSw; (try dsimp only at hSw); go_simp; try with_reducible rfl)
  try simp only [Act.put, List.setIfInBounds_toArray, List.set_cons_zero, List.set_cons_succ]
  refine wpAnyH_take (i := 1) (oi := { dst := some 6, op := Op.load 23 (Operand.tmp 5), type := 23, pos := "addr.go:94", after := #[{ on := 0, ground := Ground.data }], guard := none }) (v := ?_) rfl (by kernel_rfl) (by kernel_rfl) (by kernel_rfl) (fun _ _ _ h => h) (Or.inl ⟨by rfl, ?_⟩) (by assumption) ?_
  rotate_left
  · (intro w hSw; (try dsimp only at hSw); go_simp; try with_reducible rfl)
  try simp only [Act.put, List.setIfInBounds_toArray, List.set_cons_zero, List.set_cons_succ]
  refine wpAnyH_take (i := 2) (oi := { dst := some 7, op := Op.fieldAddr 26 (Operand.tmp 3) 0, type := 0, pos := "addr.go:94", after := #[], guard := none }) (v := ?_) rfl (by kernel_rfl) (by kernel_rfl) (by kernel_rfl) (fun _ _ _ h => h) (Or.inl ⟨by rfl, ?_⟩) (by assumption) ?_
  rotate_left
  · (intro w hSw; (try dsimp only at hSw); go_simp; try with_reducible rfl)
  try simp only [Act.put, List.setIfInBounds_toArray, List.set_cons_zero, List.set_cons_succ]
  refine wpAnyH_take (i := 3) (oi := { dst := some 8, op := Op.load 23 (Operand.tmp 7), type := 23, pos := "addr.go:94", after := #[{ on := 2, ground := Ground.data }], guard := none }) (v := ?_) rfl (by kernel_rfl) (by kernel_rfl) (by kernel_rfl) (fun _ _ _ h => h) (Or.inl ⟨by rfl, ?_⟩) (by assumption) ?_
  rotate_left
  · (intro w hSw; (try dsimp only at hSw); go_simp; try with_reducible rfl)
  try simp only [Act.put, List.setIfInBounds_toArray, List.set_cons_zero, List.set_cons_succ]
  refine wpAnyH_take (i := 5) (oi := { dst := some 10, op := Op.fieldAddr 26 (Operand.tmp 2) 1, type := 0, pos := "addr.go:94", after := #[], guard := none }) (v := ?_) rfl (by kernel_rfl) (by kernel_rfl) (by kernel_rfl) (fun _ _ _ h => h) (Or.inl ⟨by rfl, ?_⟩) (by assumption) ?_
  rotate_left
  · (intro w hSw; (try dsimp only at hSw); go_simp; try with_reducible rfl)
  try simp only [Act.put, List.setIfInBounds_toArray, List.set_cons_zero, List.set_cons_succ]
  refine wpAnyH_take (i := 6) (oi := { dst := some 11, op := Op.load 24 (Operand.tmp 10), type := 24, pos := "addr.go:94", after := #[{ on := 5, ground := Ground.data }], guard := none }) (v := ?_) rfl (by kernel_rfl) (by kernel_rfl) (by kernel_rfl) (fun _ _ _ h => h) (Or.inl ⟨by rfl, ?_⟩) (by assumption) ?_
  rotate_left
  · (intro w hSw; (try dsimp only at hSw); go_simp; try with_reducible rfl)
  try simp only [Act.put, List.setIfInBounds_toArray, List.set_cons_zero, List.set_cons_succ]
  refine wpAnyH_take (i := 7) (oi := { dst := some 12, op := Op.fieldAddr 26 (Operand.tmp 3) 1, type := 0, pos := "addr.go:94", after := #[], guard := none }) (v := ?_) rfl (by kernel_rfl) (by kernel_rfl) (by kernel_rfl) (fun _ _ _ h => h) (Or.inl ⟨by rfl, ?_⟩) (by assumption) ?_
  rotate_left
  · (intro w hSw; (try dsimp only at hSw); go_simp; try with_reducible rfl)
  try simp only [Act.put, List.setIfInBounds_toArray, List.set_cons_zero, List.set_cons_succ]
  refine wpAnyH_take (i := 8) (oi := { dst := some 13, op := Op.load 24 (Operand.tmp 12), type := 24, pos := "addr.go:94", after := #[{ on := 7, ground := Ground.data }], guard := none }) (v := ?_) rfl (by kernel_rfl) (by kernel_rfl) (by kernel_rfl) (fun _ _ _ h => h) (Or.inl ⟨by rfl, ?_⟩) (by assumption) ?_
  rotate_left
  · (intro w hSw; (try dsimp only at hSw); go_simp; try with_reducible rfl)
  try simp only [Act.put, List.setIfInBounds_toArray, List.set_cons_zero, List.set_cons_succ]
  refine wpAnyH_ready (rs := [4]) (by kernel_rfl) (by simp) ?_
  refine AllReadyH.cons (o := { dst := some 9, op := Op.call { callee := Callee.value (Operand.func 46), args := #[Operand.tmp 6, Operand.tmp 8], argTypes := #[23, 23] }, type := 3, pos := "addr.go:94", after := #[{ on := 1, ground := Ground.data }, { on := 3, ground := Ground.data }], guard := none }) rfl (fun K hK => ?_) AllReadyH.nil
  go_simp
  refine (order_anyD a.a b.a _).mono ?_
  rintro e W_0 ⟨rfl, b⟩
  refine hK.out _ _ ?_ (fun hH' => ?_)
  · exact held_nextD (by assumption) hH
  clear hK K hH
  have hH := hH'
  clear hH'
  try simp only [Act.put, List.setIfInBounds_toArray, List.set_cons_zero, List.set_cons_succ]
  refine wpAnyH_ready (rs := [9]) (by kernel_rfl) (by simp) ?_
  refine AllReadyH.cons (o := { dst := some 14, op := Op.call { callee := Callee.value (Operand.func 65), args := #[Operand.tmp 11, Operand.tmp 13], argTypes := #[24, 24] }, type := 3, pos := "addr.go:94", after := #[{ on := 6, ground := Ground.data }, { on := 8, ground := Ground.data }, { on := 4, ground := Ground.chain }], guard := none }) rfl (fun K hK => ?_) AllReadyH.nil
  go_simp
  refine (cmpD_65 _ _ _).mono ?_
  rintro e W_1 ⟨rfl, b⟩
  refine hK.out _ _ ?_ (fun hH' => ?_)
  · exact held_nextD (by assumption) hH
  clear hK K hH
  have hH := hH'
  clear hH'
  try simp only [Act.put, List.setIfInBounds_toArray, List.set_cons_zero, List.set_cons_succ]
  refine wpAnyH_ready (rs := [10]) (by kernel_rfl) (by simp) ?_
  refine AllReadyH.cons (o := { dst := some 15, op := Op.buildSlice 108 2 #[(0, Operand.tmp 9), (1, Operand.tmp 14)], type := 108, pos := "addr.go:94", after := #[{ on := 4, ground := Ground.data }, { on := 9, ground := Ground.data }], guard := none }) rfl (fun K hK => ?_) AllReadyH.nil
  go_simp
  refine hK.out _ _ ?_ (fun hH' => ?_)
  · exact held_nextD ((BD.refl _ _).alloc (Nat.le_refl _) _) hH
  clear hK K hH
  have hH := hH'
  clear hH'
  try simp only [Act.put, List.setIfInBounds_toArray, List.set_cons_zero, List.set_cons_succ]
  refine wpAnyH_ready (rs := [11]) (by kernel_rfl) (by simp) ?_
  refine AllReadyH.cons (o := { dst := some 16, op := Op.call { callee := Callee.value (Operand.func 64), args := #[Operand.tmp 15], argTypes := #[108] }, type := 3, pos := "addr.go:94", after := #[{ on := 10, ground := Ground.data }, { on := 9, ground := Ground.chain }], guard := none }) rfl (fun K hK => ?_) AllReadyH.nil
  go_simp
  refine (or2D _ _ _).mono ?_
  rintro e W_3 ⟨rfl, b⟩
  refine hK.out _ _ ?_ (fun hH' => ?_)
  · exact held_nextD (by assumption) hH
  clear hK K hH
  have hH := hH'
  clear hH'
  try simp only [Act.put, List.setIfInBounds_toArray, List.set_cons_zero, List.set_cons_succ]
  refine wpAnyH_take (i := 12) (oi := { dst := some 4, op := Op.assign (Operand.tmp 16), type := 3, pos := "addr.go:94", after := #[{ on := 11, ground := Ground.data }, { on := 11, ground := Ground.chain }, { on := 0, ground := Ground.phase }, { on := 1, ground := Ground.phase }, { on := 2, ground := Ground.phase }, { on := 3, ground := Ground.phase }, { on := 4, ground := Ground.phase }, { on := 5, ground := Ground.phase }, { on := 6, ground := Ground.phase }, { on := 7, ground := Ground.phase }, { on := 8, ground := Ground.phase }, { on := 9, ground := Ground.phase }, { on := 10, ground := Ground.phase }, { on := 11, ground := Ground.phase }], guard := none }) (v := ?_) rfl (by kernel_rfl) (by kernel_rfl) (by kernel_rfl) (fun _ _ _ h => h) (Or.inl ⟨by rfl, ?_⟩) (by assumption) ?_
  rotate_left
  · (intro w hSw; (try dsimp only at hSw); go_simp; try with_reducible rfl)
  try simp only [Act.put, List.setIfInBounds_toArray, List.set_cons_zero, List.set_cons_succ]
  refine wpAnyH_done (by kernel_rfl) ?_ _
  refine NoPanic.normal ?_
  have BZ := Lib.hid (HW.out.trans (hH.2.1.out.mono (by have := HZ.out; rw [HN.out]; omega)))
  clear S0 hH
  go_wp2_with fail
  go_ret
  exact ⟨rfl, BZ.out⟩
/-- what the sort asks of its order -/
theorem grown_of_BD {w w' : World} (h : BD w.heap.size w w') : ∃ q os', w' = Go.Sort.grow (w.drewN q) os' := by
  obtain ⟨p, e⟩ := Go.regrown_of_below h.below
  refine ⟨p.d - w.drawn, p.os, ?_⟩
  have hd : w'.drawn = p.d := by rw [e]; rfl
  have := h.dr
  rw [e]
  congr 1
  unfold Go.redrawn World.drewN
  congr 1
  omega
end Go.Proofs.YtakoghdkllfhlaaDoor

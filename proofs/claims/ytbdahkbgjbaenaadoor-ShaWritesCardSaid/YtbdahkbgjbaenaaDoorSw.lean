/- The law of fingerprints at once: its walk. -/
import Derived.Test.YtbdahkbgjbaenaaDoorLn
import Derived.Test.YtbdahkbgjbaenaaDoorTy
namespace Go.Proofs.YtbdahkbgjbaenaaDoor
open Go.RowKit
attribute [local go_sem ↓] Go.wp_at_zero Go.wp_at_succ

theorem size22e (W : World) : (sizeOf (Tryd.prog.elem 22)).run Tryd.prog W = .ok 1 W := by
  have : (Tryd.prog.info? (Tryd.prog.elem 22)).map (·.size) = some 1 := by kernel_rfl
  cases hq : Tryd.prog.info? (Tryd.prog.elem 22) with
  | none => simp [hq] at this
  | some i => simp [hq] at this; simp [sizeOf, typeInfo, hq, this]
theorem slice22h (g n len cap : Nat) (h2 : n ≤ cap) (W : World) : (Instr.slice 22 (.slice (some ⟨g, 0, none⟩) len cap) none (some (.int .i64 n)) none).run Tryd.prog W = .ok (.slice (some ⟨g, 0, none⟩) n cap) W := by
  rw [run_slice_h W 22 (some ⟨g, 0, none⟩) len cap (by simp [Program.elem, Tryd.underlying22]) .i64 n (by omega) (by omega)]
  rw [size22e, Result.andThen_ok]
  unfold sliced
  simp
  try (unfold Addr.add; split <;> simp_all)
theorem slice22from (g l len cap : Nat) (h2 : l ≤ len) (h3 : len < cap) (W : World) : (Instr.slice 22 (.slice (some ⟨g, 0, none⟩) len cap) (some (.int .i64 l)) none none).run Tryd.prog W = .ok (.slice (some ⟨g, l, none⟩) (len - l) (cap - l)) W := by
  rw [run_slice_l W 22 (some ⟨g, 0, none⟩) len cap (by simp [Program.elem, Tryd.underlying22]) .i64 l (by omega) (by omega)]
  rw [size22e, Result.andThen_ok]
  unfold sliced
  have e1 : ((l : Int)).toNat = l := by omega
  rw [e1, if_neg (by omega)]
  simp
  unfold Addr.add
  split <;> simp_all
/-- what a region keeps: all that stood -/
def Kq (N : Nat) (W0 W : World) : Prop := Below N W0 W ∧ N ≤ W.heap.size
theorem Kq.next {N : Nat} {W0 W1 W2 : World} (h : Kq N W0 W1) (b : Below W1.heap.size W1 W2) : Kq N W0 W2 := ⟨h.1.trans (b.mono h.2), Nat.le_trans h.2 b.size⟩
theorem Kq.alloc {N : Nat} {W0 W1 : World} (h : Kq N W0 W1) (o : Obj) : Kq N W0 (W1.alloc o) := h.next ((Below.refl _ _).alloc (Nat.le_refl _) o)
theorem isB_take (M : List Int) (k : Nat) (h : isB M) : isB (M.take k) := by
  intro i
  rw [List.getD_eq_getElem?_getD, List.getElem?_take]
  split
  · have := h i; rw [List.getD_eq_getElem?_getD] at this; exact this
  · simp
theorem isB_drop (M : List Int) (k : Nat) (h : isB M) : isB (M.drop k) := by
  intro i
  rw [List.getD_eq_getElem?_getD, List.getElem?_drop]
  have := h (k + i); rw [List.getD_eq_getElem?_getD] at this; exact this
/-- lent bytes as one part -/
theorem pt_one {W0 W : World} {N g b : Nat} {M : List Int} (hK : Kq N W0 W) (hV : W.heap[b]? = some (.cells #[.slice (some ⟨g, 0, none⟩) M.length (M.length + 8)] 22)) (hg : Row W0 g 5 .u8 (M.length + 8) (lentF M)) (hN : N = W0.heap.size) (hb : isB M) (hl : M.length ≤ 300) :
    Pt W (some ⟨b, 0, none⟩) 1 (fun _ => some ⟨g, 0, none⟩) (fun _ => M) (fun _ => M.length + 8) := by
  subst hN
  refine ⟨fun i hi => ⟨b, 0, rfl, (Array.getElem?_eq_some_iff.1 hV).1, ?_⟩, fun i hi j hj => ⟨g, 0, rfl, Nat.lt_of_lt_of_le hg.lt hK.2, ?_⟩, fun i hi => hb, fun i hi => ⟨by omega, by unfold maxLen; omega⟩⟩
  · obtain rfl : i = 0 := by omega
    rw [cell_of_row _ _ _ _ _ _ hV]; rfl
  · rw [Nat.zero_add, (hg.below hK.1 hg.lt).cell j (by omega), lentF_lo M j hj]
/-- lent bytes as two parts -/
theorem pt_two {W0 W : World} {N g k b : Nat} {M : List Int} (hk : k ≤ M.length) (hK : Kq N W0 W) (hV : W.heap[b]? = some (.cells #[.slice (some ⟨g, 0, none⟩) k (M.length + 8), .slice (some ⟨g, k, none⟩) (M.length - k) (M.length + 8 - k)] 22)) (hg : Row W0 g 5 .u8 (M.length + 8) (lentF M)) (hN : N = W0.heap.size) (hb : isB M) (hl : M.length ≤ 300) :
    Pt W (some ⟨b, 0, none⟩) 2 (fun i => if i = 0 then some ⟨g, 0, none⟩ else some ⟨g, k, none⟩) (fun i => if i = 0 then M.take k else M.drop k) (fun i => if i = 0 then M.length + 8 else M.length + 8 - k) := by
  subst hN
  have R := hg.below hK.1 hg.lt
  have lg := Nat.lt_of_lt_of_le hg.lt hK.2
  refine ⟨fun i hi => ⟨b, 0, rfl, (Array.getElem?_eq_some_iff.1 hV).1, ?_⟩, fun i hi j hj => ?_, fun i hi => ?_, fun i hi => ?_⟩
  · obtain rfl | rfl : i = 0 ∨ i = 1 := by omega
    · rw [cell_of_row _ _ _ _ _ _ hV]; simp [Nat.min_eq_left hk]
    · rw [cell_of_row _ _ _ _ _ _ hV]; simp
  · obtain rfl | rfl : i = 0 ∨ i = 1 := by omega
    · simp at hj
      have hj' : j < k := by omega
      refine ⟨g, 0, rfl, lg, ?_⟩
      rw [Nat.zero_add, R.cell j (by omega), lentF_lo M j (by omega)]
      simp [List.getD, hj']
    · simp at hj
      refine ⟨g, k, rfl, lg, ?_⟩
      rw [R.cell (k + j) (by omega), lentF_lo M (k + j) (by omega)]
      simp [List.getD, List.getElem?_drop]
  · obtain rfl | rfl : i = 0 ∨ i = 1 := by omega
    · exact isB_take M k hb
    · exact isB_drop M k hb
  · obtain rfl | rfl : i = 0 ∨ i = 1 := by omega
    · simp; unfold maxLen; omega
    · simp; unfold maxLen; omega
theorem cat_one (M : List Int) : catN (fun _ => M) 1 = M := by simp [catN]
theorem cat_two (M : List Int) (k : Nat) : catN (fun i => if i = 0 then M.take k else M.drop k) 2 = M := by simp [catN]
set_option maxRecDepth 100000 in
set_option maxHeartbeats 8000000 in
theorem sums_walk (sp : Option Addr) (cap : Nat) (M : List Int) (x : Int) (w : World) (hr : Rd w sp M) (hs : sp = none → M = [] ∧ cap = 0) (hb : isB M) (hl : M.length ≤ 300) (hsp : ∀ a, sp = some a → a.spot = none)
    (h1 : -9223372036854775808 ≤ x) (h2 : x ≤ 9223372036854775807) (hT : Tab w) :
    Calls Tryd.prog 3 #[.slice sp M.length cap, .int .i64 x] w fun e w' => e = .returned (.bool true) ∧ Below w.heap.size w w' := by
  have LN := Lib.hid (lent_any sp cap M w hr hl)
  have PK : Hid (∀ W, Calls Tryd.prog 9 #[.int .i64 x, .int .i64 ((M.length : Int) + 1)] W (PickPost (M.length + 1) W)) := fun W => by
    have := pick_any x (M.length + 1) W (by omega) (by omega) h1 h2
    rw [show ((M.length + 1 : Nat) : Int) = (M.length : Int) + 1 by omega] at this
    exact this
  have RS : Hid (∀ W, Below w.heap.size w W → Calls Tryd.prog 10 #[.slice sp M.length cap] W fun e w' => e = .returned (.agg (mk .u8 32 (dig M))) ∧ Below W.heap.size W w') := fun W b => rsum_any sp cap M W (hr.below b (Nat.le_refl _)) hs hb hl hsp
  have HT := Lib.hid hT
  have HR := Lib.hid hr
  have HB := Lib.hid hb
  have hl' : (M.length : Int) ≤ 300 := by omega
  clear hr hs hb hsp hT
  go_enter Tryd.func3, Tryd.ntmps3
  go_wp2_with fail
  refine LN.out.mono ?_
  rintro e W1 ⟨rfl, r1, b1⟩
  have R1 := Lib.hid r1
  have B1 := Lib.hid b1
  clear r1 b1 LN
  go_wp2_with fail
  refine (PK.out _).mono ?_
  rintro e W' ⟨k, hk, rfl, rfl⟩
  clear PK
  go_wp2_with fail
  refine (RS.out _ B1.out).mono ?_
  rintro e W2 ⟨rfl, b2⟩
  have R2 := Lib.hid (R1.out.below b2 R1.out.lt)
  have B2 := Lib.hid (B1.out.trans (b2.mono B1.out.size))
  have R3 := Lib.hid (row_set_other (cs := mk .u8 32 (dig M)) (R2.out.alloc (.cells (mk .u8 32 fun _ => 0) 27)) (by have := R2.out.lt; omega : w.heap.size ≠ W2.heap.size))
  have F3 := Lib.hid ((Row.made W2 27 .u8 32 fun _ => 0).setRow .u8 32 (dig M))
  have B3 := Lib.hid (below_setRow (g := W2.heap.size) (B2.out.alloc B2.out.size (.cells (mk .u8 32 fun _ => 0) 27)) B2.out.size (mk .u8 32 (dig M)))
  have m2 := made27 W2
  rw [Z27] at R3 F3 B3
  clear b2 R1 B1 R2 RS B2
  go_wp2_with (refine wpList_store_row rfl 27 (.tmp 7) (.tmp 20) rfl W2.heap.size rfl (mk .u8 32 (dig M)) rfl 27 _ m2 (by simp [mk_size]) (info27 _) (mk_one _ _ _) ?_)
  clear m2
  generalize World.setRow _ _ _ = W3 at *
  generalize W2.heap.size = g7 at *
  obtain ⟨N, hN⟩ : ∃ N, N = W3.heap.size := ⟨_, rfl⟩
  have HN := Lib.hid hN
  clear hN
  have sz := B3.out.size
  have C1 : Hid (∀ (W : World) (b : Nat), Hid (Kq N W3 W) → W.heap[b]? = some (.cells #[.slice (some ⟨w.heap.size, 0, none⟩) M.length (M.length + 8)] 22) → Calls Tryd.prog 11 #[.slice (some ⟨b, 0, none⟩) 1 1] W fun e w' => e = .returned (.agg (mk .u8 32 (dig M))) ∧ Below W.heap.size W w') := fun W b h hV => by
    have := sum_any _ 1 1 _ _ _ _ (pt_one h.out hV R3.out HN.out HB.out hl) (by rw [cat_one]; omega) (by unfold maxLen; omega) (HT.out.below (B3.out.trans (h.out.1.mono (by rw [HN.out]; exact sz))) HT.out.1)
    rw [cat_one] at this
    exact this
  have C2 : Hid (∀ (W : World) (b : Nat), Hid (Kq N W3 W) → W.heap[b]? = some (.cells #[.slice (some ⟨w.heap.size, 0, none⟩) k (M.length + 8), .slice (some ⟨w.heap.size, k, none⟩) (M.length - k) (M.length + 8 - k)] 22) → Calls Tryd.prog 11 #[.slice (some ⟨b, 0, none⟩) 2 2] W fun e w' => e = .returned (.agg (mk .u8 32 (dig M))) ∧ Below W.heap.size W w') := fun W b h hV => by
    have := sum_any _ 2 2 _ _ _ _ (pt_two (by omega) h.out hV R3.out HN.out HB.out hl) (by rw [cat_two]; omega) (by unfold maxLen; omega) (HT.out.below (B3.out.trans (h.out.1.mono (by rw [HN.out]; exact sz))) HT.out.1)
    rw [cat_two] at this
    exact this
  have C3 : Hid (∀ W : World, Hid (Kq N W3 W) → Calls Tryd.prog 12 #[.slice (some ⟨w.heap.size, 0, none⟩) M.length (M.length + 8), .slice sp M.length cap] W fun e w' => e = .returned (.bool true) ∧ Below W.heap.size W w') := fun W h => by
    have hb' : Below w.heap.size w W := B3.out.trans (h.out.1.mono (by rw [HN.out]; exact sz))
    exact kept_any _ _ _ _ M W rfl hl (R3.out.below (by rw [← HN.out]; exact h.out.1) R3.out.lt) (HR.out.below hb' (Nat.le_refl _))
  have C4 : Hid (∀ W : World, Hid (Kq N W3 W) → Calls Tryd.prog 7 #[] W fun e w' => e = .returned (.bool true) ∧ Below W.heap.size W w') := fun W h => awake_true W (HT.out.below (B3.out.trans (h.out.1.mono (by rw [HN.out]; exact sz))) HT.out.1)
  have FF : Hid (∀ W : World, Hid (Kq N W3 W) → Row W g7 27 .u8 32 (dig M)) := fun W h => F3.out.below (by rw [← HN.out]; exact h.out.1) F3.out.lt
  have BF : Hid (∀ W : World, Hid (Kq N W3 W) → Below w.heap.size w W) := fun W h => B3.out.trans (h.out.1.mono (by rw [HN.out]; exact sz))
  have K0 : Hid (Kq N W3 W3.drew) := ⟨(Below.refl _ _).drew, Nat.le_of_eq HN.out⟩
  have hs1 := slice22h w.heap.size k M.length (M.length + 8) (by omega)
  have hs2 := slice22from w.heap.size k M.length (M.length + 8) (by omega) (by omega)
  clear R3 F3 B3 HT HR HB HN sz
  go_wp2_with fail
  refine wp_region_noPanic ?_
  refine wp_region_held_drew (S := (fun W => Hid (Kq N W3 W))) (by kernel_rfl) ?_ (fun hH => ?_)
  · exact K0
  refine wpAnyH_take (i := 0) (oi := { dst := some 21, op := Op.move (Operand.tmp 5), type := 22, pos := "law.go:24", after := #[], guard := none }) (v := ?_) rfl (by kernel_rfl) (by kernel_rfl) (by kernel_rfl) (fun _ _ _ h => h) (Or.inl ⟨by rfl, ?_⟩) (by assumption) ?_
  rotate_left
  · (intro w hSw; (try dsimp only at hSw); go_simp; try with_reducible rfl)
  try simp only [Act.put, List.setIfInBounds_toArray, List.set_cons_zero, List.set_cons_succ]
  refine wpAnyH_take (i := 3) (oi := { dst := some 24, op := Op.load 27 (Operand.tmp 7), type := 27, pos := "law.go:24", after := #[], guard := none }) (v := .agg (mk .u8 32 (dig M))) rfl (by kernel_rfl) (by kernel_rfl) (by kernel_rfl) (fun _ _ _ h => h) (Or.inl ⟨by rfl, ?_⟩) (by assumption) ?_
  · (intro W hSw; exact exec_load27 rfl rfl (FF.out _ hSw))
  try simp only [Act.put, List.setIfInBounds_toArray, List.set_cons_zero, List.set_cons_succ]
  refine wpAnyH_ready (rs := [1]) (by kernel_rfl) (by simp) ?_
  refine AllReadyH.cons (o := { dst := some 22, op := Op.buildSlice 32 1 #[(0, Operand.tmp 21)], type := 32, pos := "law.go:24", after := #[{ on := 0, ground := Ground.data }], guard := none }) rfl (fun K hK => ?_) AllReadyH.nil
  go_simp
  refine hK.out _ _ ?_ (fun hH' => ?_)
  · exact Kq.alloc hH.out _
  clear hK K hH
  have hH := hH'
  clear hH'
  try simp only [Act.put, List.setIfInBounds_toArray, List.set_cons_zero, List.set_cons_succ]
  refine wpAnyH_ready (rs := [2]) (by kernel_rfl) (by simp) ?_
  refine AllReadyH.cons (o := { dst := some 23, op := Op.call { callee := Callee.value (Operand.func 11), args := #[Operand.tmp 22], argTypes := #[32] }, type := 27, pos := "law.go:24", after := #[{ on := 1, ground := Ground.data }], guard := none }) rfl (fun K hK => ?_) AllReadyH.nil
  go_simp
  refine (C1.out _ _ hH (heap_alloc_new _ _)).mono ?_
  rintro e W_1 ⟨rfl, b⟩
  refine hK.out _ _ ?_ (fun hH' => ?_)
  · exact Kq.next hH.out b
  clear hK K hH
  have hH := hH'
  clear hH'
  try simp only [Act.put, List.setIfInBounds_toArray, List.set_cons_zero, List.set_cons_succ]
  refine wpAnyH_take (i := 4) (oi := { dst := some 25, op := Op.binOp BinOp.eql 27 (Operand.tmp 23) (Operand.tmp 24) 27, type := 4, pos := "law.go:24", after := #[{ on := 2, ground := Ground.data }, { on := 3, ground := Ground.data }], guard := none }) (v := .bool true) rfl (by kernel_rfl) (by kernel_rfl) (by kernel_rfl) (fun _ _ _ h => h) (Or.inl ⟨by rfl, ?_⟩) (by assumption) ?_
  · (intro W hSw; exact exec_eql27 (F := dig M) rfl rfl rfl)
  try simp only [Act.put, List.setIfInBounds_toArray, List.set_cons_zero, List.set_cons_succ]
  refine wpAnyH_take (i := 5) (oi := { dst := some 26, op := Op.move (Operand.tmp 25), type := 4, pos := "law.go:24", after := #[{ on := 4, ground := Ground.data }, { on := 2, ground := Ground.chain }], guard := none }) (v := ?_) rfl (by kernel_rfl) (by kernel_rfl) (by kernel_rfl) (fun _ _ _ h => h) (Or.inl ⟨by rfl, ?_⟩) (by assumption) ?_
  rotate_left
  · (intro w hSw; (try dsimp only at hSw); go_simp; try with_reducible rfl)
  try simp only [Act.put, List.setIfInBounds_toArray, List.set_cons_zero, List.set_cons_succ]
  refine wpAnyH_take (i := 6) (oi := { dst := some 27, op := Op.move (Operand.tmp 5), type := 22, pos := "law.go:24", after := #[{ on := 5, ground := Ground.guard }], guard := some (5, true) }) (v := ?_) rfl (by kernel_rfl) (by kernel_rfl) (by kernel_rfl) (fun _ _ _ h => h) (Or.inl ⟨by rfl, ?_⟩) (by assumption) ?_
  rotate_left
  · (intro w hSw; (try dsimp only at hSw); go_simp; try with_reducible rfl)
  try simp only [Act.put, List.setIfInBounds_toArray, List.set_cons_zero, List.set_cons_succ]
  refine wpAnyH_take (i := 7) (oi := { dst := some 28, op := Op.move (Operand.tmp 6), type := 3, pos := "law.go:24", after := #[{ on := 5, ground := Ground.guard }], guard := some (5, true) }) (v := ?_) rfl (by kernel_rfl) (by kernel_rfl) (by kernel_rfl) (fun _ _ _ h => h) (Or.inl ⟨by rfl, ?_⟩) (by assumption) ?_
  rotate_left
  · (intro w hSw; (try dsimp only at hSw); go_simp; try with_reducible rfl)
  try simp only [Act.put, List.setIfInBounds_toArray, List.set_cons_zero, List.set_cons_succ]
  refine wpAnyH_take (i := 8) (oi := { dst := some 29, op := Op.slice 22 (Operand.tmp 27) none (some (Operand.tmp 28)) none, type := 22, pos := "law.go:24", after := #[{ on := 6, ground := Ground.data }, { on := 7, ground := Ground.data }, { on := 5, ground := Ground.guard }], guard := some (5, true) }) (v := ?_) rfl (by kernel_rfl) (by kernel_rfl) (by kernel_rfl) (fun _ _ _ h => h) (Or.inl ⟨by rfl, ?_⟩) (by assumption) ?_
  rotate_left
  · (intro w hSw; (try dsimp only at hSw); go_simp; try with_reducible rfl)
  try simp only [Act.put, List.setIfInBounds_toArray, List.set_cons_zero, List.set_cons_succ]
  refine wpAnyH_take (i := 9) (oi := { dst := some 30, op := Op.move (Operand.tmp 5), type := 22, pos := "law.go:24", after := #[{ on := 5, ground := Ground.guard }], guard := some (5, true) }) (v := ?_) rfl (by kernel_rfl) (by kernel_rfl) (by kernel_rfl) (fun _ _ _ h => h) (Or.inl ⟨by rfl, ?_⟩) (by assumption) ?_
  rotate_left
  · (intro w hSw; (try dsimp only at hSw); go_simp; try with_reducible rfl)
  try simp only [Act.put, List.setIfInBounds_toArray, List.set_cons_zero, List.set_cons_succ]
  refine wpAnyH_take (i := 10) (oi := { dst := some 31, op := Op.move (Operand.tmp 6), type := 3, pos := "law.go:24", after := #[{ on := 5, ground := Ground.guard }], guard := some (5, true) }) (v := ?_) rfl (by kernel_rfl) (by kernel_rfl) (by kernel_rfl) (fun _ _ _ h => h) (Or.inl ⟨by rfl, ?_⟩) (by assumption) ?_
  rotate_left
  · (intro w hSw; (try dsimp only at hSw); go_simp; try with_reducible rfl)
  try simp only [Act.put, List.setIfInBounds_toArray, List.set_cons_zero, List.set_cons_succ]
  refine wpAnyH_take (i := 11) (oi := { dst := some 32, op := Op.slice 22 (Operand.tmp 30) (some (Operand.tmp 31)) none none, type := 22, pos := "law.go:24", after := #[{ on := 9, ground := Ground.data }, { on := 10, ground := Ground.data }, { on := 5, ground := Ground.guard }], guard := some (5, true) }) (v := ?_) rfl (by kernel_rfl) (by kernel_rfl) (by kernel_rfl) (fun _ _ _ h => h) (Or.inl ⟨by rfl, ?_⟩) (by assumption) ?_
  rotate_left
  · (intro w hSw; (try dsimp only at hSw); go_simp; try with_reducible rfl)
  try simp only [Act.put, List.setIfInBounds_toArray, List.set_cons_zero, List.set_cons_succ]
  refine wpAnyH_take (i := 14) (oi := { dst := some 35, op := Op.load 27 (Operand.tmp 7), type := 27, pos := "law.go:24", after := #[{ on := 5, ground := Ground.guard }], guard := some (5, true) }) (v := .agg (mk .u8 32 (dig M))) rfl (by kernel_rfl) (by kernel_rfl) (by kernel_rfl) (fun _ _ _ h => h) (Or.inl ⟨by rfl, ?_⟩) (by assumption) ?_
  · (intro W hSw; exact exec_load27 rfl rfl (FF.out _ hSw))
  try simp only [Act.put, List.setIfInBounds_toArray, List.set_cons_zero, List.set_cons_succ]
  refine wpAnyH_ready (rs := [12]) (by kernel_rfl) (by simp) ?_
  refine AllReadyH.cons (o := { dst := some 33, op := Op.buildSlice 32 2 #[(0, Operand.tmp 29), (1, Operand.tmp 32)], type := 32, pos := "law.go:24", after := #[{ on := 8, ground := Ground.data }, { on := 11, ground := Ground.data }, { on := 5, ground := Ground.guard }], guard := some (5, true) }) rfl (fun K hK => ?_) AllReadyH.nil
  go_simp
  refine hK.out _ _ ?_ (fun hH' => ?_)
  · exact Kq.alloc hH.out _
  clear hK K hH
  have hH := hH'
  clear hH'
  try simp only [Act.put, List.setIfInBounds_toArray, List.set_cons_zero, List.set_cons_succ]
  refine wpAnyH_ready (rs := [13]) (by kernel_rfl) (by simp) ?_
  refine AllReadyH.cons (o := { dst := some 34, op := Op.call { callee := Callee.value (Operand.func 11), args := #[Operand.tmp 33], argTypes := #[32] }, type := 27, pos := "law.go:24", after := #[{ on := 12, ground := Ground.data }, { on := 5, ground := Ground.chain }, { on := 5, ground := Ground.guard }], guard := some (5, true) }) rfl (fun K hK => ?_) AllReadyH.nil
  go_simp
  refine (C2.out _ _ hH (heap_alloc_new _ _)).mono ?_
  rintro e W_3 ⟨rfl, b⟩
  refine hK.out _ _ ?_ (fun hH' => ?_)
  · exact Kq.next hH.out b
  clear hK K hH
  have hH := hH'
  clear hH'
  try simp only [Act.put, List.setIfInBounds_toArray, List.set_cons_zero, List.set_cons_succ]
  refine wpAnyH_take (i := 15) (oi := { dst := some 36, op := Op.binOp BinOp.eql 27 (Operand.tmp 34) (Operand.tmp 35) 27, type := 4, pos := "law.go:24", after := #[{ on := 13, ground := Ground.data }, { on := 14, ground := Ground.data }, { on := 5, ground := Ground.guard }], guard := some (5, true) }) (v := .bool true) rfl (by kernel_rfl) (by kernel_rfl) (by kernel_rfl) (fun _ _ _ h => h) (Or.inl ⟨by rfl, ?_⟩) (by assumption) ?_
  · (intro W hSw; exact exec_eql27 (F := dig M) rfl rfl rfl)
  try simp only [Act.put, List.setIfInBounds_toArray, List.set_cons_zero, List.set_cons_succ]
  refine wpAnyH_take (i := 16) (oi := { dst := some 37, op := Op.pick (Operand.tmp 26) (Operand.tmp 36) (Operand.const (Value.bool false)), type := 4, pos := "law.go:24", after := #[{ on := 5, ground := Ground.data }, { on := 15, ground := Ground.data }], guard := none }) (v := ?_) rfl (by kernel_rfl) (by kernel_rfl) (by kernel_rfl) (fun _ _ _ h => h) (Or.inl ⟨by rfl, ?_⟩) (by assumption) ?_
  rotate_left
  · (intro w hSw; (try dsimp only at hSw); go_simp; try with_reducible rfl)
  try simp only [Act.put, List.setIfInBounds_toArray, List.set_cons_zero, List.set_cons_succ]
  refine wpAnyH_take (i := 17) (oi := { dst := some 38, op := Op.move (Operand.tmp 37), type := 4, pos := "law.go:24", after := #[{ on := 16, ground := Ground.data }, { on := 13, ground := Ground.chain }], guard := none }) (v := ?_) rfl (by kernel_rfl) (by kernel_rfl) (by kernel_rfl) (fun _ _ _ h => h) (Or.inl ⟨by rfl, ?_⟩) (by assumption) ?_
  rotate_left
  · (intro w hSw; (try dsimp only at hSw); go_simp; try with_reducible rfl)
  try simp only [Act.put, List.setIfInBounds_toArray, List.set_cons_zero, List.set_cons_succ]
  refine wpAnyH_take (i := 18) (oi := { dst := some 39, op := Op.move (Operand.tmp 5), type := 22, pos := "law.go:24", after := #[{ on := 17, ground := Ground.guard }], guard := some (17, true) }) (v := ?_) rfl (by kernel_rfl) (by kernel_rfl) (by kernel_rfl) (fun _ _ _ h => h) (Or.inl ⟨by rfl, ?_⟩) (by assumption) ?_
  rotate_left
  · (intro w hSw; (try dsimp only at hSw); go_simp; try with_reducible rfl)
  try simp only [Act.put, List.setIfInBounds_toArray, List.set_cons_zero, List.set_cons_succ]
  refine wpAnyH_take (i := 19) (oi := { dst := some 40, op := Op.move (Operand.tmp 0), type := 22, pos := "law.go:24", after := #[{ on := 17, ground := Ground.guard }], guard := some (17, true) }) (v := ?_) rfl (by kernel_rfl) (by kernel_rfl) (by kernel_rfl) (fun _ _ _ h => h) (Or.inl ⟨by rfl, ?_⟩) (by assumption) ?_
  rotate_left
  · (intro w hSw; (try dsimp only at hSw); go_simp; try with_reducible rfl)
  try simp only [Act.put, List.setIfInBounds_toArray, List.set_cons_zero, List.set_cons_succ]
  refine wpAnyH_ready (rs := [20]) (by kernel_rfl) (by simp) ?_
  refine AllReadyH.cons (o := { dst := some 41, op := Op.call { callee := Callee.value (Operand.func 12), args := #[Operand.tmp 39, Operand.tmp 40], argTypes := #[22, 22] }, type := 4, pos := "law.go:24", after := #[{ on := 18, ground := Ground.data }, { on := 19, ground := Ground.data }, { on := 17, ground := Ground.chain }, { on := 17, ground := Ground.guard }], guard := some (17, true) }) rfl (fun K hK => ?_) AllReadyH.nil
  go_simp
  refine (C3.out _ hH).mono ?_
  rintro e W_4 ⟨rfl, b⟩
  refine hK.out _ _ ?_ (fun hH' => ?_)
  · exact Kq.next hH.out b
  clear hK K hH
  have hH := hH'
  clear hH'
  try simp only [Act.put, List.setIfInBounds_toArray, List.set_cons_zero, List.set_cons_succ]
  refine wpAnyH_take (i := 21) (oi := { dst := some 42, op := Op.pick (Operand.tmp 38) (Operand.tmp 41) (Operand.const (Value.bool false)), type := 4, pos := "law.go:24", after := #[{ on := 17, ground := Ground.data }, { on := 20, ground := Ground.data }], guard := none }) (v := ?_) rfl (by kernel_rfl) (by kernel_rfl) (by kernel_rfl) (fun _ _ _ h => h) (Or.inl ⟨by rfl, ?_⟩) (by assumption) ?_
  rotate_left
  · (intro w hSw; (try dsimp only at hSw); go_simp; try with_reducible rfl)
  try simp only [Act.put, List.setIfInBounds_toArray, List.set_cons_zero, List.set_cons_succ]
  refine wpAnyH_take (i := 22) (oi := { dst := some 43, op := Op.move (Operand.tmp 42), type := 4, pos := "law.go:24", after := #[{ on := 21, ground := Ground.data }, { on := 20, ground := Ground.chain }], guard := none }) (v := ?_) rfl (by kernel_rfl) (by kernel_rfl) (by kernel_rfl) (fun _ _ _ h => h) (Or.inl ⟨by rfl, ?_⟩) (by assumption) ?_
  rotate_left
  · (intro w hSw; (try dsimp only at hSw); go_simp; try with_reducible rfl)
  try simp only [Act.put, List.setIfInBounds_toArray, List.set_cons_zero, List.set_cons_succ]
  refine wpAnyH_ready (rs := [23]) (by kernel_rfl) (by simp) ?_
  refine AllReadyH.cons (o := { dst := some 44, op := Op.call { callee := Callee.value (Operand.func 7), args := #[], argTypes := #[] }, type := 4, pos := "law.go:24", after := #[{ on := 22, ground := Ground.chain }, { on := 22, ground := Ground.guard }], guard := some (22, true) }) rfl (fun K hK => ?_) AllReadyH.nil
  go_simp
  refine (C4.out _ hH).mono ?_
  rintro e W_5 ⟨rfl, b⟩
  refine hK.out _ _ ?_ (fun hH' => ?_)
  · exact Kq.next hH.out b
  clear hK K hH
  have hH := hH'
  clear hH'
  try simp only [Act.put, List.setIfInBounds_toArray, List.set_cons_zero, List.set_cons_succ]
  refine wpAnyH_take (i := 24) (oi := { dst := some 45, op := Op.pick (Operand.tmp 43) (Operand.tmp 44) (Operand.const (Value.bool false)), type := 4, pos := "law.go:24", after := #[{ on := 22, ground := Ground.data }, { on := 23, ground := Ground.data }], guard := none }) (v := ?_) rfl (by kernel_rfl) (by kernel_rfl) (by kernel_rfl) (fun _ _ _ h => h) (Or.inl ⟨by rfl, ?_⟩) (by assumption) ?_
  rotate_left
  · (intro w hSw; (try dsimp only at hSw); go_simp; try with_reducible rfl)
  try simp only [Act.put, List.setIfInBounds_toArray, List.set_cons_zero, List.set_cons_succ]
  refine wpAnyH_take (i := 25) (oi := { dst := some 4, op := Op.assign (Operand.tmp 45), type := 4, pos := "law.go:24", after := #[{ on := 24, ground := Ground.data }, { on := 23, ground := Ground.chain }, { on := 0, ground := Ground.phase }, { on := 1, ground := Ground.phase }, { on := 2, ground := Ground.phase }, { on := 3, ground := Ground.phase }, { on := 4, ground := Ground.phase }, { on := 5, ground := Ground.phase }, { on := 6, ground := Ground.phase }, { on := 7, ground := Ground.phase }, { on := 8, ground := Ground.phase }, { on := 9, ground := Ground.phase }, { on := 10, ground := Ground.phase }, { on := 11, ground := Ground.phase }, { on := 12, ground := Ground.phase }, { on := 13, ground := Ground.phase }, { on := 14, ground := Ground.phase }, { on := 15, ground := Ground.phase }, { on := 16, ground := Ground.phase }, { on := 17, ground := Ground.phase }, { on := 18, ground := Ground.phase }, { on := 19, ground := Ground.phase }, { on := 20, ground := Ground.phase }, { on := 21, ground := Ground.phase }, { on := 22, ground := Ground.phase }, { on := 23, ground := Ground.phase }, { on := 24, ground := Ground.phase }], guard := none }) (v := ?_) rfl (by kernel_rfl) (by kernel_rfl) (by kernel_rfl) (fun _ _ _ h => h) (Or.inl ⟨by rfl, ?_⟩) (by assumption) ?_
  rotate_left
  · (intro w hSw; (try dsimp only at hSw); go_simp; try with_reducible rfl)
  try simp only [Act.put, List.setIfInBounds_toArray, List.set_cons_zero, List.set_cons_succ]
  refine wpAnyH_done (by kernel_rfl) ?_ _
  refine NoPanic.normal ?_
  go_wp2
  go_ret
  exact ⟨rfl, BF.out _ hH⟩
end Go.Proofs.YtbdahkbgjbaenaaDoor

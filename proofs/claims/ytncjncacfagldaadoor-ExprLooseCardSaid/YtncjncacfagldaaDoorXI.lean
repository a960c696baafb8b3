/- ExprLoose: the law's walk. -/
import Derived.Test.YtncjncacfagldaaDoorXIc
import Derived.Deep.DeepCutAuto
namespace Go.Proofs.YtncjncacfagldaaDoor
open Go.RowKit Go.Lib

set_option maxRecDepth 100000 in
set_option maxHeartbeats 8000000 in
theorem lloose_any {w : World} (a b : Nat) (ha : a < 256) (hb : b < 256) (hT : Tab w) (hV : Lev w) (h2 : 2 ≤ w.heap.size) : Calls Tryd.prog 4 #[.int .u8 a, .int .u8 b] w fun e w' => e = .returned (.bool true) ∧ Below w.heap.size w w' := by
  have B0 : Below w.heap.size w ((w.alloc (.cells #[.string ⟨#[124, 124]⟩, .string ⟨#[38, 38]⟩, .string ⟨#[61, 61]⟩, .string ⟨#[33, 61]⟩, .string ⟨#[60]⟩, .string ⟨#[60, 61]⟩, .string ⟨#[62]⟩, .string ⟨#[62, 61]⟩, .string ⟨#[43]⟩, .string ⟨#[45]⟩, .string ⟨#[42]⟩, .string ⟨#[47]⟩, .string ⟨#[37]⟩] 9)).alloc (.cells #[.int .i64 1, .int .i64 2, .int .i64 3, .int .i64 3, .int .i64 3, .int .i64 3, .int .i64 3, .int .i64 3, .int .i64 4, .int .i64 4, .int .i64 5, .int .i64 5, .int .i64 5] 3)) := ((Below.refl _ _).alloc (Nat.le_refl _) _).alloc (by simp) _
  have k9 : Hid (((w.alloc (.cells #[.string ⟨#[124, 124]⟩, .string ⟨#[38, 38]⟩, .string ⟨#[61, 61]⟩, .string ⟨#[33, 61]⟩, .string ⟨#[60]⟩, .string ⟨#[60, 61]⟩, .string ⟨#[62]⟩, .string ⟨#[62, 61]⟩, .string ⟨#[43]⟩, .string ⟨#[45]⟩, .string ⟨#[42]⟩, .string ⟨#[47]⟩, .string ⟨#[37]⟩] 9)).alloc (.cells #[.int .i64 1, .int .i64 2, .int .i64 3, .int .i64 3, .int .i64 3, .int .i64 3, .int .i64 3, .int .i64 3, .int .i64 4, .int .i64 4, .int .i64 5, .int .i64 5, .int .i64 5] 3)).heap[w.heap.size]? = some (.cells #[.string ⟨#[124, 124]⟩, .string ⟨#[38, 38]⟩, .string ⟨#[61, 61]⟩, .string ⟨#[33, 61]⟩, .string ⟨#[60]⟩, .string ⟨#[60, 61]⟩, .string ⟨#[62]⟩, .string ⟨#[62, 61]⟩, .string ⟨#[43]⟩, .string ⟨#[45]⟩, .string ⟨#[42]⟩, .string ⟨#[47]⟩, .string ⟨#[37]⟩] 9 (0, 0))) := (heap_alloc_old _ _ (by simp)).trans (heap_alloc_new w _)
  have k3 : Hid (((w.alloc (.cells #[.string ⟨#[124, 124]⟩, .string ⟨#[38, 38]⟩, .string ⟨#[61, 61]⟩, .string ⟨#[33, 61]⟩, .string ⟨#[60]⟩, .string ⟨#[60, 61]⟩, .string ⟨#[62]⟩, .string ⟨#[62, 61]⟩, .string ⟨#[43]⟩, .string ⟨#[45]⟩, .string ⟨#[42]⟩, .string ⟨#[47]⟩, .string ⟨#[37]⟩] 9)).alloc (.cells #[.int .i64 1, .int .i64 2, .int .i64 3, .int .i64 3, .int .i64 3, .int .i64 3, .int .i64 3, .int .i64 3, .int .i64 4, .int .i64 4, .int .i64 5, .int .i64 5, .int .i64 5] 3)).heap[w.heap.size + 1]? = some (.cells #[.int .i64 1, .int .i64 2, .int .i64 3, .int .i64 3, .int .i64 3, .int .i64 3, .int .i64 3, .int .i64 3, .int .i64 4, .int .i64 4, .int .i64 5, .int .i64 5, .int .i64 5] 3 (0, 0))) := by rw [show w.heap.size + 1 = (w.alloc (.cells #[.string ⟨#[124, 124]⟩, .string ⟨#[38, 38]⟩, .string ⟨#[61, 61]⟩, .string ⟨#[33, 61]⟩, .string ⟨#[60]⟩, .string ⟨#[60, 61]⟩, .string ⟨#[62]⟩, .string ⟨#[62, 61]⟩, .string ⟨#[43]⟩, .string ⟨#[45]⟩, .string ⟨#[42]⟩, .string ⟨#[47]⟩, .string ⟨#[37]⟩] 9)).heap.size by simp]; exact heap_alloc_new _ _
  have HB0 := Lib.hid B0
  have HT := Lib.hid (And.intro (hT.at (B0.block 0 (by omega))) (And.intro (hV.at (B0.block 1 (by omega))) (Nat.le_trans h2 B0.size)))
  clear hT hV B0
  go_enter Tryd.func4, Tryd.ntmps4
  go_upto_region 4 with fail
  generalize (w.alloc (Obj.cells #[.string ⟨#[124, 124]⟩, .string ⟨#[38, 38]⟩, .string ⟨#[61, 61]⟩, .string ⟨#[33, 61]⟩, .string ⟨#[60]⟩, .string ⟨#[60, 61]⟩, .string ⟨#[62]⟩, .string ⟨#[62, 61]⟩, .string ⟨#[43]⟩, .string ⟨#[45]⟩, .string ⟨#[42]⟩, .string ⟨#[47]⟩, .string ⟨#[37]⟩] 9)).alloc (Obj.cells #[.int .i64 1, .int .i64 2, .int .i64 3, .int .i64 3, .int .i64 3, .int .i64 3, .int .i64 3, .int .i64 3, .int .i64 4, .int .i64 4, .int .i64 5, .int .i64 5, .int .i64 5] 3) = w4 at *
  obtain ⟨b1, hb1⟩ : ∃ b1, w.heap.size = b1 := ⟨_, rfl⟩
  rw [hb1] at HB0 k9 k3 h2 ⊢
  have HEB := Lib.hid hb1
  clear hb1
  obtain ⟨i, hi, hai⟩ : ∃ i : Nat, i < 13 ∧ (a : Int) % 13 = (i : Int) := ⟨a % 13, Nat.mod_lt _ (by decide), by omega⟩
  obtain ⟨k, hk, hbk⟩ : ∃ k : Nat, k < 13 ∧ (b : Int) % 13 = (k : Int) := ⟨b % 13, Nat.mod_lt _ (by decide), by omega⟩
  rw [hai, hbk]
  clear hai hbk ha hb
  have hi1 : (i : Int) < 13 := by omega
  have hk1 : (k : Int) < 13 := by omega
  have ci := (cell_of_row w4 b1 i _ _ _ k9.out).trans (sg_cell i hi)
  have ck := (cell_of_row w4 b1 k _ _ _ k9.out).trans (sg_cell k hk)
  have HLi := Lib.hid ((cell_of_row w4 (b1 + 1) i _ _ _ k3.out).trans (lv_cell i hi))
  have HLk := Lib.hid ((cell_of_row w4 (b1 + 1) k _ _ _ k3.out).trans (lv_cell k hk))
  have LB : Hid (b1 + 1 < w4.heap.size) := (Array.getElem?_eq_some_iff.1 k3.out).1
  clear k9 k3
  have HLO := Lib.hid (loose_at i k hi hk)
  have PA : Hid (∀ W, Tab W → Lev W → 2 ≤ W.heap.size → Calls Tryd.prog 9 #[.string (tx (looseA i k))] W (PPost W (parseM (looseA i k)))) := fun W x y z => parse_any (s := tx (looseA i k)) x y z (by rw [tx_sz]; have := (loose_len i k).1; omega)
  have PB : Hid (∀ W, Tab W → Lev W → 2 ≤ W.heap.size → Calls Tryd.prog 9 #[.string (tx (looseB i k))] W (PPost W (parseM (looseB i k)))) := fun W x y z => parse_any (s := tx (looseB i k)) x y z (by rw [tx_sz]; have := (loose_len i k).2.1; omega)
  have PC : Hid (∀ W, Tab W → Lev W → 2 ≤ W.heap.size → Calls Tryd.prog 9 #[.string (tx (looseC i k))] W (PPost W (parseM (looseC i k)))) := fun W x y z => parse_any (s := tx (looseC i k)) x y z (by rw [tx_sz]; have := (loose_len i k).2.2; omega)
  generalize parseM (looseA i k) = MA at *
  generalize parseM (looseB i k) = MB at *
  generalize parseM (looseC i k) = MC at *
  have HB1 : Hid (b1 ≤ w4.heap.size) := by have := LB.out; unfold Hid; omega
  obtain ⟨N, hN⟩ : ∃ N, N = w4.heap.size := ⟨_, rfl⟩
  have S0 := held_at hN
  have lb1 : b1 < N := by rw [hN]; have := LB.out; omega
  have HN := Lib.hid hN
  have CC : Hid (∀ W, Below N w4 W → Calls Tryd.prog 9 #[.string (tx (looseA i k))] W (PPost W MA)) := fun W hW => PA.out W (HT.out.1.at (hW.block 0 (by rw [HN.out]; have := HT.out.2.2; omega))) (HT.out.2.1.at (hW.block 1 (by rw [HN.out]; have := HT.out.2.2; omega))) (Nat.le_trans HT.out.2.2 hW.size)
  clear hN
  go_cut [9, 10] (fun p1 p2 wx => ∃ g1 g2 : Nat, p1 = .pointer (some ⟨g1, 0, none⟩) ∧ p2 = .pointer (some ⟨g2, 0, none⟩) ∧ PK N w4 wx g1 g2 MA)
  case first =>
    refine wp_region_noPanic ?_
    refine wp_region_held_drew (S := (fun W => (∀ b o, b < N → W.cell? ⟨b, o, none⟩ = w4.cell? ⟨b, o, none⟩) ∧ Hid (Below N w4 W) ∧ Hid (N ≤ W.heap.size))) (by kernel_rfl) ?_ (fun hH => ?_)
    · exact S0
    generalize w4.drew = Ws at *
    refine wpAnyH_take (i := 0) (oi := { dst := some 24, op := Op.move (Operand.tmp 5), type := 24, pos := "law.go:61", after := #[], guard := none }) (v := ?_) rfl (by kernel_rfl) (by kernel_rfl) (by kernel_rfl) (fun _ _ _ h => h) (Or.inl ⟨by rfl, ?_⟩) (by assumption) ?_
    rotate_left
    · (intro w hSw; (try dsimp only at hSw); go_simp; try with_reducible rfl)
    try simp only [Act.put, List.setIfInBounds_toArray, List.set_cons_zero, List.set_cons_succ]
    refine wpAnyH_take (i := 1) (oi := { dst := some 25, op := Op.move (Operand.tmp 7), type := 3, pos := "law.go:61", after := #[], guard := none }) (v := ?_) rfl (by kernel_rfl) (by kernel_rfl) (by kernel_rfl) (fun _ _ _ h => h) (Or.inl ⟨by rfl, ?_⟩) (by assumption) ?_
    rotate_left
    · (intro w hSw; (try dsimp only at hSw); go_simp; try with_reducible rfl)
    try simp only [Act.put, List.setIfInBounds_toArray, List.set_cons_zero, List.set_cons_succ]
    refine wpAnyH_take (i := 2) (oi := { dst := some 26, op := Op.indexAddr 24 (Operand.tmp 24) (Operand.tmp 25), type := 0, pos := "law.go:61", after := #[{ on := 0, ground := Ground.data }, { on := 1, ground := Ground.data }], guard := none }) (v := ?_) rfl (by kernel_rfl) (by kernel_rfl) (by kernel_rfl) (fun _ _ _ h => h) (Or.inl ⟨by rfl, ?_⟩) (by assumption) ?_
    rotate_left
    · (intro w hSw; (try dsimp only at hSw); go_simp; try with_reducible rfl)
    try simp only [Act.put, List.setIfInBounds_toArray, List.set_cons_zero, List.set_cons_succ]
    refine wpAnyH_take (i := 3) (oi := { dst := some 27, op := Op.load 9 (Operand.tmp 26), type := 9, pos := "law.go:61", after := #[{ on := 2, ground := Ground.data }], guard := none }) (v := ?_) rfl (by kernel_rfl) (by kernel_rfl) (by kernel_rfl) (fun _ _ _ h => h) (Or.inl ⟨by rfl, ?_⟩) (by assumption) ?_
    rotate_left
    · (intro w hSw; (try dsimp only at hSw); go_simp; try with_reducible rfl)
    try simp only [Act.put, List.setIfInBounds_toArray, List.set_cons_zero, List.set_cons_succ]
    refine wpAnyH_take (i := 4) (oi := { dst := some 28, op := Op.binOp BinOp.add 9 (Operand.const (Value.string { data := #[120, 32] })) (Operand.tmp 27) 9, type := 9, pos := "law.go:61", after := #[{ on := 3, ground := Ground.data }], guard := none }) (v := (.string (tx ([120, 32] ++ sg' i)))) rfl (by kernel_rfl) (by kernel_rfl) (by kernel_rfl) (fun _ _ _ h => h) (Or.inl ⟨by rfl, ?_⟩) (by assumption) ?_
    · (intro W hSw; exact exec_cat (s := tx [120, 32]) (t := tx (sg' i)) rfl rfl rfl (by rw [tx_sz, tx_sz]; simp only [List.length_cons, List.length_nil]; have := sg_len i; have := sg_len k; omega) (tx_app _ _))
    try simp only [Act.put, List.setIfInBounds_toArray, List.set_cons_zero, List.set_cons_succ]
    refine wpAnyH_take (i := 5) (oi := { dst := some 29, op := Op.binOp BinOp.add 9 (Operand.tmp 28) (Operand.const (Value.string { data := #[32, 121, 32] })) 9, type := 9, pos := "law.go:61", after := #[{ on := 4, ground := Ground.data }], guard := none }) (v := (.string (tx ([120, 32] ++ sg' i ++ [32, 121, 32])))) rfl (by kernel_rfl) (by kernel_rfl) (by kernel_rfl) (fun _ _ _ h => h) (Or.inl ⟨by rfl, ?_⟩) (by assumption) ?_
    · (intro W hSw; exact exec_cat (s := tx ([120, 32] ++ sg' i)) (t := tx [32, 121, 32]) rfl rfl rfl (by rw [tx_sz, tx_sz]; simp only [List.length_append, List.length_cons, List.length_nil]; have := sg_len i; have := sg_len k; omega) (tx_app _ _))
    try simp only [Act.put, List.setIfInBounds_toArray, List.set_cons_zero, List.set_cons_succ]
    refine wpAnyH_take (i := 6) (oi := { dst := some 30, op := Op.move (Operand.tmp 5), type := 24, pos := "law.go:61", after := #[], guard := none }) (v := ?_) rfl (by kernel_rfl) (by kernel_rfl) (by kernel_rfl) (fun _ _ _ h => h) (Or.inl ⟨by rfl, ?_⟩) (by assumption) ?_
    rotate_left
    · (intro w hSw; (try dsimp only at hSw); go_simp; try with_reducible rfl)
    try simp only [Act.put, List.setIfInBounds_toArray, List.set_cons_zero, List.set_cons_succ]
    refine wpAnyH_take (i := 7) (oi := { dst := some 31, op := Op.move (Operand.tmp 8), type := 3, pos := "law.go:61", after := #[], guard := none }) (v := ?_) rfl (by kernel_rfl) (by kernel_rfl) (by kernel_rfl) (fun _ _ _ h => h) (Or.inl ⟨by rfl, ?_⟩) (by assumption) ?_
    rotate_left
    · (intro w hSw; (try dsimp only at hSw); go_simp; try with_reducible rfl)
    try simp only [Act.put, List.setIfInBounds_toArray, List.set_cons_zero, List.set_cons_succ]
    refine wpAnyH_take (i := 8) (oi := { dst := some 32, op := Op.indexAddr 24 (Operand.tmp 30) (Operand.tmp 31), type := 0, pos := "law.go:61", after := #[{ on := 6, ground := Ground.data }, { on := 7, ground := Ground.data }], guard := none }) (v := ?_) rfl (by kernel_rfl) (by kernel_rfl) (by kernel_rfl) (fun _ _ _ h => h) (Or.inl ⟨by rfl, ?_⟩) (by assumption) ?_
    rotate_left
    · (intro w hSw; (try dsimp only at hSw); go_simp; try with_reducible rfl)
    try simp only [Act.put, List.setIfInBounds_toArray, List.set_cons_zero, List.set_cons_succ]
    refine wpAnyH_take (i := 9) (oi := { dst := some 33, op := Op.load 9 (Operand.tmp 32), type := 9, pos := "law.go:61", after := #[{ on := 8, ground := Ground.data }], guard := none }) (v := ?_) rfl (by kernel_rfl) (by kernel_rfl) (by kernel_rfl) (fun _ _ _ h => h) (Or.inl ⟨by rfl, ?_⟩) (by assumption) ?_
    rotate_left
    · (intro w hSw; (try dsimp only at hSw); go_simp; try with_reducible rfl)
    try simp only [Act.put, List.setIfInBounds_toArray, List.set_cons_zero, List.set_cons_succ]
    refine wpAnyH_take (i := 10) (oi := { dst := some 34, op := Op.binOp BinOp.add 9 (Operand.tmp 29) (Operand.tmp 33) 9, type := 9, pos := "law.go:61", after := #[{ on := 5, ground := Ground.data }, { on := 9, ground := Ground.data }], guard := none }) (v := (.string (tx ([120, 32] ++ sg' i ++ [32, 121, 32] ++ sg' k)))) rfl (by kernel_rfl) (by kernel_rfl) (by kernel_rfl) (fun _ _ _ h => h) (Or.inl ⟨by rfl, ?_⟩) (by assumption) ?_
    · (intro W hSw; exact exec_cat (s := tx ([120, 32] ++ sg' i ++ [32, 121, 32])) (t := tx (sg' k)) rfl rfl rfl (by rw [tx_sz, tx_sz]; simp only [List.length_append, List.length_cons, List.length_nil]; have := sg_len i; have := sg_len k; omega) (tx_app _ _))
    try simp only [Act.put, List.setIfInBounds_toArray, List.set_cons_zero, List.set_cons_succ]
    refine wpAnyH_take (i := 11) (oi := { dst := some 35, op := Op.binOp BinOp.add 9 (Operand.tmp 34) (Operand.const (Value.string { data := #[32, 122] })) 9, type := 9, pos := "law.go:61", after := #[{ on := 10, ground := Ground.data }], guard := none }) (v := (.string (tx (looseA i k)))) rfl (by kernel_rfl) (by kernel_rfl) (by kernel_rfl) (fun _ _ _ h => h) (Or.inl ⟨by rfl, ?_⟩) (by assumption) ?_
    · (intro W hSw; exact exec_cat (s := tx ([120, 32] ++ sg' i ++ [32, 121, 32] ++ sg' k)) (t := tx [32, 122]) rfl rfl rfl (by rw [tx_sz, tx_sz]; simp only [List.length_append, List.length_cons, List.length_nil]; have := sg_len i; have := sg_len k; omega) (tx_app _ _))
    try simp only [Act.put, List.setIfInBounds_toArray, List.set_cons_zero, List.set_cons_succ]
    refine wpAnyH_ready (rs := [12, 16, 17]) (by kernel_rfl) (by simp) ?_
    refine (AllReadyH.cons (o := { dst := some 36, op := Op.call { callee := Callee.value (Operand.func 9), args := #[Operand.tmp 35], argTypes := #[9] }, type := 37, pos := "law.go:61", after := #[{ on := 11, ground := Ground.data }], guard := none }) rfl (fun K hK => ?_) (AllReadyH.cons (o := { dst := some 9, op := Op.alloc 33, type := 0, pos := "law.go:61", after := #[], guard := none }) rfl (fun K hK => ?_) (AllReadyH.cons (o := { dst := some 10, op := Op.alloc 36, type := 0, pos := "law.go:61", after := #[], guard := none }) rfl (fun K hK => ?_) AllReadyH.nil)))
    · go_simp
      refine (CC.out _ hH.2.1.out).mono ?_
      rintro e0 Wc ⟨oV, cV, oK, cK, o, cap, rfl, hx, hb⟩
      refine hK.out _ _ ?_ (fun hH' => ?_)
      · exact held_next hb hH
      have HX : Hid (XP (fun k => Ws.heap.size ≤ k ∧ k < Wc.heap.size) Wc MA.1 (.agg (xc MA.1 oV cV oK cK o cap))) := hx
      have HHI : Hid (Wc.heap.size ≤ Wc.heap.size) := Nat.le_refl _
      clear hx hb
      clear hK K hH
      have hH := hH'
      clear hH'
      try simp only [Act.put, List.setIfInBounds_toArray, List.set_cons_zero, List.set_cons_succ]
      obtain ⟨lo, hlo⟩ : ∃ b, Ws.heap.size = b := ⟨_, rfl⟩
      rw [hlo] at HX
      obtain ⟨hi, hhi⟩ : ∃ b, Wc.heap.size = b := ⟨_, rfl⟩
      replace HHI : Hid (hi ≤ Wc.heap.size) := Nat.le_of_eq hhi.symm
      rw [hhi] at HX
      clear hlo hhi
      refine wpAnyH_take (i := 13) (oi := { dst := some 23, op := Op.move (Operand.tmp 36), type := 37, pos := "law.go:61", after := #[{ on := 12, ground := Ground.data }], guard := none }) (v := ?_) rfl (by kernel_rfl) (by kernel_rfl) (by kernel_rfl) (fun _ _ _ h => h) (Or.inl ⟨by rfl, ?_⟩) (by assumption) ?_
      rotate_left
      · (intro w hSw; (try dsimp only at hSw); go_simp; try with_reducible rfl)
      try simp only [Act.put, List.setIfInBounds_toArray, List.set_cons_zero, List.set_cons_succ]
      refine wpAnyH_take (i := 14) (oi := { dst := some 37, op := Op.extract (Operand.tmp 23) 0, type := 33, pos := "law.go:61", after := #[{ on := 13, ground := Ground.data }], guard := none }) (v := ?_) rfl (by kernel_rfl) (by kernel_rfl) (by kernel_rfl) (fun _ _ _ h => h) (Or.inl ⟨by rfl, ?_⟩) (by assumption) ?_
      rotate_left
      · (intro w hSw; (try dsimp only at hSw); go_simp; try with_reducible rfl)
      try simp only [Act.put, List.setIfInBounds_toArray, List.set_cons_zero, List.set_cons_succ]
      refine wpAnyH_take (i := 15) (oi := { dst := some 38, op := Op.extract (Operand.tmp 23) 1, type := 36, pos := "law.go:61", after := #[{ on := 13, ground := Ground.data }, { on := 18, ground := Ground.gcOnly Departure.lateStores }], guard := none }) (v := ?_) rfl (by kernel_rfl) (by kernel_rfl) (by kernel_rfl) (fun _ _ _ h => h) (Or.inl ⟨by rfl, ?_⟩) (by assumption) ?_
      rotate_left
      · (intro w hSw; (try dsimp only at hSw); go_simp; try with_reducible rfl)
      try simp only [Act.put, List.setIfInBounds_toArray, List.set_cons_zero, List.set_cons_succ]
      refine wpAnyH_ready (rs := [16, 17]) (by kernel_rfl) (by simp) ?_
      refine (AllReadyH.cons (o := { dst := some 9, op := Op.alloc 33, type := 0, pos := "law.go:61", after := #[], guard := none }) rfl (fun K hK => ?_) (AllReadyH.cons (o := { dst := some 10, op := Op.alloc 36, type := 0, pos := "law.go:61", after := #[], guard := none }) rfl (fun K hK => ?_) AllReadyH.nil))
      · go_simp
        have HG1 := hH.2.2
        have BB : Below Wc.heap.size Wc (Wc.alloc (.cells #[.int .i64 0, .string ⟨#[]⟩, .string ⟨#[]⟩, .int .i64 0, .int .i64 0, .string ⟨#[]⟩, .slice none 0 0, .slice none 0 0, .int .i64 0, .int .i64 0, .bool false, .slice none 0 0, .int .i64 0, .int .i64 0, .int .i64 0] 33)) := (Below.refl _ _).alloc (Nat.le_refl _) _
        refine hK.out _ _ ?_ (fun hH' => ?_)
        · exact held_next BB hH
        have R1 := Lib.hid (heap_alloc_new Wc (.cells #[.int .i64 0, .string ⟨#[]⟩, .string ⟨#[]⟩, .int .i64 0, .int .i64 0, .string ⟨#[]⟩, .slice none 0 0, .slice none 0 0, .int .i64 0, .int .i64 0, .bool false, .slice none 0 0, .int .i64 0, .int .i64 0, .int .i64 0] 33))
        have D1 : Hid (Wc.heap.size < lo ∨ hi ≤ Wc.heap.size) := .inr HHI.out
        replace HX := Lib.hid (HX.out.keptP (P' := fun k => lo ≤ k ∧ k < hi) fun k hk => ⟨hk, BB.block k (Nat.lt_of_lt_of_le hk.2 HHI.out)⟩)
        replace HHI : Hid (hi ≤ (Wc.alloc (.cells #[.int .i64 0, .string ⟨#[]⟩, .string ⟨#[]⟩, .int .i64 0, .int .i64 0, .string ⟨#[]⟩, .slice none 0 0, .slice none 0 0, .int .i64 0, .int .i64 0, .bool false, .slice none 0 0, .int .i64 0, .int .i64 0, .int .i64 0] 33)).heap.size) := Nat.le_trans HHI.out BB.size
        clear BB
        clear hK K hH
        have hH := hH'
        clear hH'
        try simp only [Act.put, List.setIfInBounds_toArray, List.set_cons_zero, List.set_cons_succ]
        generalize Wc.alloc (.cells #[.int .i64 0, .string ⟨#[]⟩, .string ⟨#[]⟩, .int .i64 0, .int .i64 0, .string ⟨#[]⟩, .slice none 0 0, .slice none 0 0, .int .i64 0, .int .i64 0, .bool false, .slice none 0 0, .int .i64 0, .int .i64 0, .int .i64 0] 33) = Wa at *
        generalize Wc.heap.size = g1 at *
        refine wpAnyH_ready (rs := [17]) (by kernel_rfl) (by simp) ?_
        refine AllReadyH.cons (o := { dst := some 10, op := Op.alloc 36, type := 0, pos := "law.go:61", after := #[], guard := none }) rfl (fun K hK => ?_) AllReadyH.nil
        go_simp
        have HG2 := hH.2.2
        have BB : Below Wa.heap.size Wa (Wa.alloc (.cells #[.int .i64 0, .int .i64 0, .int .i64 0, .int .i64 0, .string ⟨#[]⟩] 36)) := (Below.refl _ _).alloc (Nat.le_refl _) _
        refine hK.out _ _ ?_ (fun hH' => ?_)
        · exact held_next BB hH
        have HNE : Hid (Wa.heap.size ≠ g1) := Nat.ne_of_gt (Array.getElem?_eq_some_iff.1 R1.out).1
        have R2 := Lib.hid (heap_alloc_new Wa (.cells #[.int .i64 0, .int .i64 0, .int .i64 0, .int .i64 0, .string ⟨#[]⟩] 36))
        replace R1 := Lib.hid ((heap_alloc_old Wa (.cells #[.int .i64 0, .int .i64 0, .int .i64 0, .int .i64 0, .string ⟨#[]⟩] 36) (Array.getElem?_eq_some_iff.1 R1.out).1).trans R1.out)
        have D2 : Hid (Wa.heap.size < lo ∨ hi ≤ Wa.heap.size) := .inr HHI.out
        replace HX := Lib.hid (HX.out.keptP (P' := fun k => lo ≤ k ∧ k < hi) fun k hk => ⟨hk, BB.block k (Nat.lt_of_lt_of_le hk.2 HHI.out)⟩)
        replace HHI : Hid (hi ≤ (Wa.alloc (.cells #[.int .i64 0, .int .i64 0, .int .i64 0, .int .i64 0, .string ⟨#[]⟩] 36)).heap.size) := Nat.le_trans HHI.out BB.size
        clear BB
        clear hK K hH
        have hH := hH'
        clear hH'
        try simp only [Act.put, List.setIfInBounds_toArray, List.set_cons_zero, List.set_cons_succ]
        generalize Wa.alloc (.cells #[.int .i64 0, .int .i64 0, .int .i64 0, .int .i64 0, .string ⟨#[]⟩] 36) = Wb at *
        generalize Wa.heap.size = g2 at *
        refine wpAnyH_ready (rs := [18]) (by kernel_rfl) (by simp) ?_
        refine AllReadyH.cons (o := { dst := none, op := Op.store 33 (Operand.tmp 9) (Operand.tmp 37), type := 0, pos := "law.go:61", after := #[{ on := 16, ground := Ground.data }, { on := 14, ground := Ground.data }, { on := 12, ground := Ground.chain }, { on := 0, ground := Ground.phase }, { on := 1, ground := Ground.phase }, { on := 2, ground := Ground.phase }, { on := 3, ground := Ground.phase }, { on := 4, ground := Ground.phase }, { on := 5, ground := Ground.phase }, { on := 6, ground := Ground.phase }, { on := 7, ground := Ground.phase }, { on := 8, ground := Ground.phase }, { on := 9, ground := Ground.phase }, { on := 10, ground := Ground.phase }, { on := 11, ground := Ground.phase }, { on := 12, ground := Ground.phase }, { on := 13, ground := Ground.phase }, { on := 14, ground := Ground.phase }, { on := 15, ground := Ground.textOnly Departure.lateStores }, { on := 16, ground := Ground.phase }, { on := 17, ground := Ground.phase }], guard := none }) rfl (fun K hK => ?_) AllReadyH.nil
        obtain ⟨⟨x0, x1, x2, x3, x4, x5, x6, x7, x8, x9, x10, x11, x12, x13, x14⟩, gx, hbx⟩ := rc15 R1.out
        have gx0 := gx 0
        have gx1 := gx 1
        have gx2 := gx 2
        have gx3 := gx 3
        have gx4 := gx 4
        have gx5 := gx 5
        have gx6 := gx 6
        have gx7 := gx 7
        have gx8 := gx 8
        have gx9 := gx 9
        have gx10 := gx 10
        have gx11 := gx 11
        have gx12 := gx 12
        have gx13 := gx 13
        have gx14 := gx 14
        clear gx
        go_simp
        have SB : Below N w4 (((((((((((((((Wb.setCell ⟨g1, 0, none⟩ (.int .i64 MA.1.op)).setCell ⟨g1, 1, none⟩ (.string MA.1.s)).setCell ⟨g1, 2, none⟩ (.string MA.1.s2)).setCell ⟨g1, 3, none⟩ (.int .i64 MA.1.v.k)).setCell ⟨g1, 4, none⟩ (.int .i64 MA.1.v.i)).setCell ⟨g1, 5, none⟩ (.string MA.1.v.s)).setCell ⟨g1, 6, none⟩ (.slice oV MA.1.v.l.length cV)).setCell ⟨g1, 7, none⟩ (.slice oK MA.1.v.ks.length cK)).setCell ⟨g1, 8, none⟩ (.int .i64 MA.1.v.tk)).setCell ⟨g1, 9, none⟩ (.int .i64 MA.1.v.to)).setCell ⟨g1, 10, none⟩ (.bool MA.1.v.x)).setCell ⟨g1, 11, none⟩ (.slice o MA.1.l.length cap)).setCell ⟨g1, 12, none⟩ (.int .i64 MA.1.a)).setCell ⟨g1, 13, none⟩ (.int .i64 MA.1.ln)).setCell ⟨g1, 14, none⟩ (.int .i64 MA.1.c)) := set15_b hH.2.1.out HG1.out (.int .i64 MA.1.op) (.string MA.1.s) (.string MA.1.s2) (.int .i64 MA.1.v.k) (.int .i64 MA.1.v.i) (.string MA.1.v.s) (.slice oV MA.1.v.l.length cV) (.slice oK MA.1.v.ks.length cK) (.int .i64 MA.1.v.tk) (.int .i64 MA.1.v.to) (.bool MA.1.v.x) (.slice o MA.1.l.length cap) (.int .i64 MA.1.a) (.int .i64 MA.1.ln) (.int .i64 MA.1.c)
        have SS := (set15_b (b := g1) (Below.refl 0 Wb) (Nat.zero_le _) (.int .i64 MA.1.op) (.string MA.1.s) (.string MA.1.s2) (.int .i64 MA.1.v.k) (.int .i64 MA.1.v.i) (.string MA.1.v.s) (.slice oV MA.1.v.l.length cV) (.slice oK MA.1.v.ks.length cK) (.int .i64 MA.1.v.tk) (.int .i64 MA.1.v.to) (.bool MA.1.v.x) (.slice o MA.1.l.length cap) (.int .i64 MA.1.a) (.int .i64 MA.1.ln) (.int .i64 MA.1.c)).size
        refine hK.out _ _ ?_ (fun hH' => ?_)
        · exact ⟨fun b o hb => SB.cell (p := ⟨b, o, none⟩) hb, SB, Nat.le_trans hH.2.2.out SS⟩
        replace R2 := Lib.hid ((set15_o (show g2 ≠ g1 from HNE.out) (.int .i64 MA.1.op) (.string MA.1.s) (.string MA.1.s2) (.int .i64 MA.1.v.k) (.int .i64 MA.1.v.i) (.string MA.1.v.s) (.slice oV MA.1.v.l.length cV) (.slice oK MA.1.v.ks.length cK) (.int .i64 MA.1.v.tk) (.int .i64 MA.1.v.to) (.bool MA.1.v.x) (.slice o MA.1.l.length cap) (.int .i64 MA.1.a) (.int .i64 MA.1.ln) (.int .i64 MA.1.c)).trans R2.out)
        replace HX := Lib.hid (HX.out.keptP (P' := fun k => lo ≤ k ∧ k < hi) fun k hk => ⟨hk, set15_o (show k ≠ g1 by have := D1.out; have := hk.1; have := hk.2; omega) (.int .i64 MA.1.op) (.string MA.1.s) (.string MA.1.s2) (.int .i64 MA.1.v.k) (.int .i64 MA.1.v.i) (.string MA.1.v.s) (.slice oV MA.1.v.l.length cV) (.slice oK MA.1.v.ks.length cK) (.int .i64 MA.1.v.tk) (.int .i64 MA.1.v.to) (.bool MA.1.v.x) (.slice o MA.1.l.length cap) (.int .i64 MA.1.a) (.int .i64 MA.1.ln) (.int .i64 MA.1.c)⟩)
        replace R1 := Lib.hid (set15 R1.out (.int .i64 MA.1.op) (.string MA.1.s) (.string MA.1.s2) (.int .i64 MA.1.v.k) (.int .i64 MA.1.v.i) (.string MA.1.v.s) (.slice oV MA.1.v.l.length cV) (.slice oK MA.1.v.ks.length cK) (.int .i64 MA.1.v.tk) (.int .i64 MA.1.v.to) (.bool MA.1.v.x) (.slice o MA.1.l.length cap) (.int .i64 MA.1.a) (.int .i64 MA.1.ln) (.int .i64 MA.1.c))
        replace HHI := Lib.hid (Nat.le_trans HHI.out SS)
        clear SB SS x0 x1 x2 x3 x4 x5 x6 x7 x8 x9 x10 x11 x12 x13 x14 hbx gx0 gx1 gx2 gx3 gx4 gx5 gx6 gx7 gx8 gx9 gx10 gx11 gx12 gx13 gx14
        clear hK K hH
        have hH := hH'
        clear hH'
        try simp only [Act.put, List.setIfInBounds_toArray, List.set_cons_zero, List.set_cons_succ]
        generalize (((((((((((((((Wb.setCell ⟨g1, 0, none⟩ (.int .i64 MA.1.op)).setCell ⟨g1, 1, none⟩ (.string MA.1.s)).setCell ⟨g1, 2, none⟩ (.string MA.1.s2)).setCell ⟨g1, 3, none⟩ (.int .i64 MA.1.v.k)).setCell ⟨g1, 4, none⟩ (.int .i64 MA.1.v.i)).setCell ⟨g1, 5, none⟩ (.string MA.1.v.s)).setCell ⟨g1, 6, none⟩ (.slice oV MA.1.v.l.length cV)).setCell ⟨g1, 7, none⟩ (.slice oK MA.1.v.ks.length cK)).setCell ⟨g1, 8, none⟩ (.int .i64 MA.1.v.tk)).setCell ⟨g1, 9, none⟩ (.int .i64 MA.1.v.to)).setCell ⟨g1, 10, none⟩ (.bool MA.1.v.x)).setCell ⟨g1, 11, none⟩ (.slice o MA.1.l.length cap)).setCell ⟨g1, 12, none⟩ (.int .i64 MA.1.a)).setCell ⟨g1, 13, none⟩ (.int .i64 MA.1.ln)).setCell ⟨g1, 14, none⟩ (.int .i64 MA.1.c)) = Wd at *
        refine wpAnyH_ready (rs := [19]) (by kernel_rfl) (by simp) ?_
        refine AllReadyH.cons (o := { dst := none, op := Op.store 36 (Operand.tmp 10) (Operand.tmp 38), type := 0, pos := "law.go:61", after := #[{ on := 17, ground := Ground.data }, { on := 15, ground := Ground.data }, { on := 18, ground := Ground.chain }, { on := 0, ground := Ground.phase }, { on := 1, ground := Ground.phase }, { on := 2, ground := Ground.phase }, { on := 3, ground := Ground.phase }, { on := 4, ground := Ground.phase }, { on := 5, ground := Ground.phase }, { on := 6, ground := Ground.phase }, { on := 7, ground := Ground.phase }, { on := 8, ground := Ground.phase }, { on := 9, ground := Ground.phase }, { on := 10, ground := Ground.phase }, { on := 11, ground := Ground.phase }, { on := 12, ground := Ground.phase }, { on := 13, ground := Ground.phase }, { on := 14, ground := Ground.phase }, { on := 15, ground := Ground.phase }, { on := 16, ground := Ground.phase }, { on := 17, ground := Ground.phase }, { on := 18, ground := Ground.phase }], guard := none }) rfl (fun K hK => ?_) AllReadyH.nil
        obtain ⟨⟨y0, y1, y2, y3, y4⟩, ⟨gy0, gy1, gy2, gy3, gy4⟩, hby⟩ := rc5 R2.out
        go_simp
        have SB : Below N w4 (((((Wd.setCell ⟨g2, 0, none⟩ (.int .i64 (MA.2.1 : Int))).setCell ⟨g2, 1, none⟩ (.int .i64 MA.2.2.a)).setCell ⟨g2, 2, none⟩ (.int .i64 MA.2.2.l)).setCell ⟨g2, 3, none⟩ (.int .i64 MA.2.2.c)).setCell ⟨g2, 4, none⟩ (.string ⟨#[]⟩)) := set5_b hH.2.1.out HG2.out (.int .i64 (MA.2.1 : Int)) (.int .i64 MA.2.2.a) (.int .i64 MA.2.2.l) (.int .i64 MA.2.2.c) (.string ⟨#[]⟩)
        have SS := (set5_b (b := g2) (Below.refl 0 Wd) (Nat.zero_le _) (.int .i64 (MA.2.1 : Int)) (.int .i64 MA.2.2.a) (.int .i64 MA.2.2.l) (.int .i64 MA.2.2.c) (.string ⟨#[]⟩)).size
        refine hK.out _ _ ?_ (fun hH' => ?_)
        · exact ⟨fun b o hb => SB.cell (p := ⟨b, o, none⟩) hb, SB, Nat.le_trans hH.2.2.out SS⟩
        replace R1 := Lib.hid ((set5_o (show g1 ≠ g2 from fun e => HNE.out e.symm) (.int .i64 (MA.2.1 : Int)) (.int .i64 MA.2.2.a) (.int .i64 MA.2.2.l) (.int .i64 MA.2.2.c) (.string ⟨#[]⟩)).trans R1.out)
        replace HX := Lib.hid (HX.out.keptP (P' := fun k => lo ≤ k ∧ k < hi) fun k hk => ⟨hk, set5_o (show k ≠ g2 by have := D2.out; have := hk.1; have := hk.2; omega) (.int .i64 (MA.2.1 : Int)) (.int .i64 MA.2.2.a) (.int .i64 MA.2.2.l) (.int .i64 MA.2.2.c) (.string ⟨#[]⟩)⟩)
        replace R2 := Lib.hid (set5 R2.out (.int .i64 (MA.2.1 : Int)) (.int .i64 MA.2.2.a) (.int .i64 MA.2.2.l) (.int .i64 MA.2.2.c) (.string ⟨#[]⟩))
        replace HHI := Lib.hid (Nat.le_trans HHI.out SS)
        clear SB SS y0 y1 y2 y3 y4 gy0 gy1 gy2 gy3 gy4 hby
        clear hK K hH
        have hH := hH'
        clear hH'
        try simp only [Act.put, List.setIfInBounds_toArray, List.set_cons_zero, List.set_cons_succ]
        generalize (((((Wd.setCell ⟨g2, 0, none⟩ (.int .i64 (MA.2.1 : Int))).setCell ⟨g2, 1, none⟩ (.int .i64 MA.2.2.a)).setCell ⟨g2, 2, none⟩ (.int .i64 MA.2.2.l)).setCell ⟨g2, 3, none⟩ (.int .i64 MA.2.2.c)).setCell ⟨g2, 4, none⟩ (.string ⟨#[]⟩)) = We at *
        refine wpAnyH_done (by kernel_rfl) ?_ _
        refine NoPanic.normal ?_
        go_wp2_with fail
        go_meet
        exact ⟨g1, g2, rfl, rfl, ⟨oV, cV, oK, cK, o, cap, hi, R1.out, R2.out, HX.out.mono fun k hk => hk.2, HHI.out, hH.2.1.out⟩⟩
      · go_simp
        have HG2 := hH.2.2
        have BB : Below Wc.heap.size Wc (Wc.alloc (.cells #[.int .i64 0, .int .i64 0, .int .i64 0, .int .i64 0, .string ⟨#[]⟩] 36)) := (Below.refl _ _).alloc (Nat.le_refl _) _
        refine hK.out _ _ ?_ (fun hH' => ?_)
        · exact held_next BB hH
        have R2 := Lib.hid (heap_alloc_new Wc (.cells #[.int .i64 0, .int .i64 0, .int .i64 0, .int .i64 0, .string ⟨#[]⟩] 36))
        have D2 : Hid (Wc.heap.size < lo ∨ hi ≤ Wc.heap.size) := .inr HHI.out
        replace HX := Lib.hid (HX.out.keptP (P' := fun k => lo ≤ k ∧ k < hi) fun k hk => ⟨hk, BB.block k (Nat.lt_of_lt_of_le hk.2 HHI.out)⟩)
        replace HHI : Hid (hi ≤ (Wc.alloc (.cells #[.int .i64 0, .int .i64 0, .int .i64 0, .int .i64 0, .string ⟨#[]⟩] 36)).heap.size) := Nat.le_trans HHI.out BB.size
        clear BB
        clear hK K hH
        have hH := hH'
        clear hH'
        try simp only [Act.put, List.setIfInBounds_toArray, List.set_cons_zero, List.set_cons_succ]
        generalize Wc.alloc (.cells #[.int .i64 0, .int .i64 0, .int .i64 0, .int .i64 0, .string ⟨#[]⟩] 36) = Wb at *
        generalize Wc.heap.size = g2 at *
        refine wpAnyH_ready (rs := [16]) (by kernel_rfl) (by simp) ?_
        refine AllReadyH.cons (o := { dst := some 9, op := Op.alloc 33, type := 0, pos := "law.go:61", after := #[], guard := none }) rfl (fun K hK => ?_) AllReadyH.nil
        go_simp
        have HG1 := hH.2.2
        have BB : Below Wb.heap.size Wb (Wb.alloc (.cells #[.int .i64 0, .string ⟨#[]⟩, .string ⟨#[]⟩, .int .i64 0, .int .i64 0, .string ⟨#[]⟩, .slice none 0 0, .slice none 0 0, .int .i64 0, .int .i64 0, .bool false, .slice none 0 0, .int .i64 0, .int .i64 0, .int .i64 0] 33)) := (Below.refl _ _).alloc (Nat.le_refl _) _
        refine hK.out _ _ ?_ (fun hH' => ?_)
        · exact held_next BB hH
        have HNE : Hid (g2 ≠ Wb.heap.size) := Nat.ne_of_lt (Array.getElem?_eq_some_iff.1 R2.out).1
        have R1 := Lib.hid (heap_alloc_new Wb (.cells #[.int .i64 0, .string ⟨#[]⟩, .string ⟨#[]⟩, .int .i64 0, .int .i64 0, .string ⟨#[]⟩, .slice none 0 0, .slice none 0 0, .int .i64 0, .int .i64 0, .bool false, .slice none 0 0, .int .i64 0, .int .i64 0, .int .i64 0] 33))
        replace R2 := Lib.hid ((heap_alloc_old Wb (.cells #[.int .i64 0, .string ⟨#[]⟩, .string ⟨#[]⟩, .int .i64 0, .int .i64 0, .string ⟨#[]⟩, .slice none 0 0, .slice none 0 0, .int .i64 0, .int .i64 0, .bool false, .slice none 0 0, .int .i64 0, .int .i64 0, .int .i64 0] 33) (Array.getElem?_eq_some_iff.1 R2.out).1).trans R2.out)
        have D1 : Hid (Wb.heap.size < lo ∨ hi ≤ Wb.heap.size) := .inr HHI.out
        replace HX := Lib.hid (HX.out.keptP (P' := fun k => lo ≤ k ∧ k < hi) fun k hk => ⟨hk, BB.block k (Nat.lt_of_lt_of_le hk.2 HHI.out)⟩)
        replace HHI : Hid (hi ≤ (Wb.alloc (.cells #[.int .i64 0, .string ⟨#[]⟩, .string ⟨#[]⟩, .int .i64 0, .int .i64 0, .string ⟨#[]⟩, .slice none 0 0, .slice none 0 0, .int .i64 0, .int .i64 0, .bool false, .slice none 0 0, .int .i64 0, .int .i64 0, .int .i64 0] 33)).heap.size) := Nat.le_trans HHI.out BB.size
        clear BB
        clear hK K hH
        have hH := hH'
        clear hH'
        try simp only [Act.put, List.setIfInBounds_toArray, List.set_cons_zero, List.set_cons_succ]
        generalize Wb.alloc (.cells #[.int .i64 0, .string ⟨#[]⟩, .string ⟨#[]⟩, .int .i64 0, .int .i64 0, .string ⟨#[]⟩, .slice none 0 0, .slice none 0 0, .int .i64 0, .int .i64 0, .bool false, .slice none 0 0, .int .i64 0, .int .i64 0, .int .i64 0] 33) = Wa at *
        generalize Wb.heap.size = g1 at *
        refine wpAnyH_ready (rs := [18]) (by kernel_rfl) (by simp) ?_
        refine AllReadyH.cons (o := { dst := none, op := Op.store 33 (Operand.tmp 9) (Operand.tmp 37), type := 0, pos := "law.go:61", after := #[{ on := 16, ground := Ground.data }, { on := 14, ground := Ground.data }, { on := 12, ground := Ground.chain }, { on := 0, ground := Ground.phase }, { on := 1, ground := Ground.phase }, { on := 2, ground := Ground.phase }, { on := 3, ground := Ground.phase }, { on := 4, ground := Ground.phase }, { on := 5, ground := Ground.phase }, { on := 6, ground := Ground.phase }, { on := 7, ground := Ground.phase }, { on := 8, ground := Ground.phase }, { on := 9, ground := Ground.phase }, { on := 10, ground := Ground.phase }, { on := 11, ground := Ground.phase }, { on := 12, ground := Ground.phase }, { on := 13, ground := Ground.phase }, { on := 14, ground := Ground.phase }, { on := 15, ground := Ground.textOnly Departure.lateStores }, { on := 16, ground := Ground.phase }, { on := 17, ground := Ground.phase }], guard := none }) rfl (fun K hK => ?_) AllReadyH.nil
        obtain ⟨⟨x0, x1, x2, x3, x4, x5, x6, x7, x8, x9, x10, x11, x12, x13, x14⟩, gx, hbx⟩ := rc15 R1.out
        have gx0 := gx 0
        have gx1 := gx 1
        have gx2 := gx 2
        have gx3 := gx 3
        have gx4 := gx 4
        have gx5 := gx 5
        have gx6 := gx 6
        have gx7 := gx 7
        have gx8 := gx 8
        have gx9 := gx 9
        have gx10 := gx 10
        have gx11 := gx 11
        have gx12 := gx 12
        have gx13 := gx 13
        have gx14 := gx 14
        clear gx
        go_simp
        have SB : Below N w4 (((((((((((((((Wa.setCell ⟨g1, 0, none⟩ (.int .i64 MA.1.op)).setCell ⟨g1, 1, none⟩ (.string MA.1.s)).setCell ⟨g1, 2, none⟩ (.string MA.1.s2)).setCell ⟨g1, 3, none⟩ (.int .i64 MA.1.v.k)).setCell ⟨g1, 4, none⟩ (.int .i64 MA.1.v.i)).setCell ⟨g1, 5, none⟩ (.string MA.1.v.s)).setCell ⟨g1, 6, none⟩ (.slice oV MA.1.v.l.length cV)).setCell ⟨g1, 7, none⟩ (.slice oK MA.1.v.ks.length cK)).setCell ⟨g1, 8, none⟩ (.int .i64 MA.1.v.tk)).setCell ⟨g1, 9, none⟩ (.int .i64 MA.1.v.to)).setCell ⟨g1, 10, none⟩ (.bool MA.1.v.x)).setCell ⟨g1, 11, none⟩ (.slice o MA.1.l.length cap)).setCell ⟨g1, 12, none⟩ (.int .i64 MA.1.a)).setCell ⟨g1, 13, none⟩ (.int .i64 MA.1.ln)).setCell ⟨g1, 14, none⟩ (.int .i64 MA.1.c)) := set15_b hH.2.1.out HG1.out (.int .i64 MA.1.op) (.string MA.1.s) (.string MA.1.s2) (.int .i64 MA.1.v.k) (.int .i64 MA.1.v.i) (.string MA.1.v.s) (.slice oV MA.1.v.l.length cV) (.slice oK MA.1.v.ks.length cK) (.int .i64 MA.1.v.tk) (.int .i64 MA.1.v.to) (.bool MA.1.v.x) (.slice o MA.1.l.length cap) (.int .i64 MA.1.a) (.int .i64 MA.1.ln) (.int .i64 MA.1.c)
        have SS := (set15_b (b := g1) (Below.refl 0 Wa) (Nat.zero_le _) (.int .i64 MA.1.op) (.string MA.1.s) (.string MA.1.s2) (.int .i64 MA.1.v.k) (.int .i64 MA.1.v.i) (.string MA.1.v.s) (.slice oV MA.1.v.l.length cV) (.slice oK MA.1.v.ks.length cK) (.int .i64 MA.1.v.tk) (.int .i64 MA.1.v.to) (.bool MA.1.v.x) (.slice o MA.1.l.length cap) (.int .i64 MA.1.a) (.int .i64 MA.1.ln) (.int .i64 MA.1.c)).size
        refine hK.out _ _ ?_ (fun hH' => ?_)
        · exact ⟨fun b o hb => SB.cell (p := ⟨b, o, none⟩) hb, SB, Nat.le_trans hH.2.2.out SS⟩
        replace R2 := Lib.hid ((set15_o (show g2 ≠ g1 from HNE.out) (.int .i64 MA.1.op) (.string MA.1.s) (.string MA.1.s2) (.int .i64 MA.1.v.k) (.int .i64 MA.1.v.i) (.string MA.1.v.s) (.slice oV MA.1.v.l.length cV) (.slice oK MA.1.v.ks.length cK) (.int .i64 MA.1.v.tk) (.int .i64 MA.1.v.to) (.bool MA.1.v.x) (.slice o MA.1.l.length cap) (.int .i64 MA.1.a) (.int .i64 MA.1.ln) (.int .i64 MA.1.c)).trans R2.out)
        replace HX := Lib.hid (HX.out.keptP (P' := fun k => lo ≤ k ∧ k < hi) fun k hk => ⟨hk, set15_o (show k ≠ g1 by have := D1.out; have := hk.1; have := hk.2; omega) (.int .i64 MA.1.op) (.string MA.1.s) (.string MA.1.s2) (.int .i64 MA.1.v.k) (.int .i64 MA.1.v.i) (.string MA.1.v.s) (.slice oV MA.1.v.l.length cV) (.slice oK MA.1.v.ks.length cK) (.int .i64 MA.1.v.tk) (.int .i64 MA.1.v.to) (.bool MA.1.v.x) (.slice o MA.1.l.length cap) (.int .i64 MA.1.a) (.int .i64 MA.1.ln) (.int .i64 MA.1.c)⟩)
        replace R1 := Lib.hid (set15 R1.out (.int .i64 MA.1.op) (.string MA.1.s) (.string MA.1.s2) (.int .i64 MA.1.v.k) (.int .i64 MA.1.v.i) (.string MA.1.v.s) (.slice oV MA.1.v.l.length cV) (.slice oK MA.1.v.ks.length cK) (.int .i64 MA.1.v.tk) (.int .i64 MA.1.v.to) (.bool MA.1.v.x) (.slice o MA.1.l.length cap) (.int .i64 MA.1.a) (.int .i64 MA.1.ln) (.int .i64 MA.1.c))
        replace HHI := Lib.hid (Nat.le_trans HHI.out SS)
        clear SB SS x0 x1 x2 x3 x4 x5 x6 x7 x8 x9 x10 x11 x12 x13 x14 hbx gx0 gx1 gx2 gx3 gx4 gx5 gx6 gx7 gx8 gx9 gx10 gx11 gx12 gx13 gx14
        clear hK K hH
        have hH := hH'
        clear hH'
        try simp only [Act.put, List.setIfInBounds_toArray, List.set_cons_zero, List.set_cons_succ]
        generalize (((((((((((((((Wa.setCell ⟨g1, 0, none⟩ (.int .i64 MA.1.op)).setCell ⟨g1, 1, none⟩ (.string MA.1.s)).setCell ⟨g1, 2, none⟩ (.string MA.1.s2)).setCell ⟨g1, 3, none⟩ (.int .i64 MA.1.v.k)).setCell ⟨g1, 4, none⟩ (.int .i64 MA.1.v.i)).setCell ⟨g1, 5, none⟩ (.string MA.1.v.s)).setCell ⟨g1, 6, none⟩ (.slice oV MA.1.v.l.length cV)).setCell ⟨g1, 7, none⟩ (.slice oK MA.1.v.ks.length cK)).setCell ⟨g1, 8, none⟩ (.int .i64 MA.1.v.tk)).setCell ⟨g1, 9, none⟩ (.int .i64 MA.1.v.to)).setCell ⟨g1, 10, none⟩ (.bool MA.1.v.x)).setCell ⟨g1, 11, none⟩ (.slice o MA.1.l.length cap)).setCell ⟨g1, 12, none⟩ (.int .i64 MA.1.a)).setCell ⟨g1, 13, none⟩ (.int .i64 MA.1.ln)).setCell ⟨g1, 14, none⟩ (.int .i64 MA.1.c)) = Wd at *
        refine wpAnyH_ready (rs := [19]) (by kernel_rfl) (by simp) ?_
        refine AllReadyH.cons (o := { dst := none, op := Op.store 36 (Operand.tmp 10) (Operand.tmp 38), type := 0, pos := "law.go:61", after := #[{ on := 17, ground := Ground.data }, { on := 15, ground := Ground.data }, { on := 18, ground := Ground.chain }, { on := 0, ground := Ground.phase }, { on := 1, ground := Ground.phase }, { on := 2, ground := Ground.phase }, { on := 3, ground := Ground.phase }, { on := 4, ground := Ground.phase }, { on := 5, ground := Ground.phase }, { on := 6, ground := Ground.phase }, { on := 7, ground := Ground.phase }, { on := 8, ground := Ground.phase }, { on := 9, ground := Ground.phase }, { on := 10, ground := Ground.phase }, { on := 11, ground := Ground.phase }, { on := 12, ground := Ground.phase }, { on := 13, ground := Ground.phase }, { on := 14, ground := Ground.phase }, { on := 15, ground := Ground.phase }, { on := 16, ground := Ground.phase }, { on := 17, ground := Ground.phase }, { on := 18, ground := Ground.phase }], guard := none }) rfl (fun K hK => ?_) AllReadyH.nil
        obtain ⟨⟨y0, y1, y2, y3, y4⟩, ⟨gy0, gy1, gy2, gy3, gy4⟩, hby⟩ := rc5 R2.out
        go_simp
        have SB : Below N w4 (((((Wd.setCell ⟨g2, 0, none⟩ (.int .i64 (MA.2.1 : Int))).setCell ⟨g2, 1, none⟩ (.int .i64 MA.2.2.a)).setCell ⟨g2, 2, none⟩ (.int .i64 MA.2.2.l)).setCell ⟨g2, 3, none⟩ (.int .i64 MA.2.2.c)).setCell ⟨g2, 4, none⟩ (.string ⟨#[]⟩)) := set5_b hH.2.1.out HG2.out (.int .i64 (MA.2.1 : Int)) (.int .i64 MA.2.2.a) (.int .i64 MA.2.2.l) (.int .i64 MA.2.2.c) (.string ⟨#[]⟩)
        have SS := (set5_b (b := g2) (Below.refl 0 Wd) (Nat.zero_le _) (.int .i64 (MA.2.1 : Int)) (.int .i64 MA.2.2.a) (.int .i64 MA.2.2.l) (.int .i64 MA.2.2.c) (.string ⟨#[]⟩)).size
        refine hK.out _ _ ?_ (fun hH' => ?_)
        · exact ⟨fun b o hb => SB.cell (p := ⟨b, o, none⟩) hb, SB, Nat.le_trans hH.2.2.out SS⟩
        replace R1 := Lib.hid ((set5_o (show g1 ≠ g2 from fun e => HNE.out e.symm) (.int .i64 (MA.2.1 : Int)) (.int .i64 MA.2.2.a) (.int .i64 MA.2.2.l) (.int .i64 MA.2.2.c) (.string ⟨#[]⟩)).trans R1.out)
        replace HX := Lib.hid (HX.out.keptP (P' := fun k => lo ≤ k ∧ k < hi) fun k hk => ⟨hk, set5_o (show k ≠ g2 by have := D2.out; have := hk.1; have := hk.2; omega) (.int .i64 (MA.2.1 : Int)) (.int .i64 MA.2.2.a) (.int .i64 MA.2.2.l) (.int .i64 MA.2.2.c) (.string ⟨#[]⟩)⟩)
        replace R2 := Lib.hid (set5 R2.out (.int .i64 (MA.2.1 : Int)) (.int .i64 MA.2.2.a) (.int .i64 MA.2.2.l) (.int .i64 MA.2.2.c) (.string ⟨#[]⟩))
        replace HHI := Lib.hid (Nat.le_trans HHI.out SS)
        clear SB SS y0 y1 y2 y3 y4 gy0 gy1 gy2 gy3 gy4 hby
        clear hK K hH
        have hH := hH'
        clear hH'
        try simp only [Act.put, List.setIfInBounds_toArray, List.set_cons_zero, List.set_cons_succ]
        generalize (((((Wd.setCell ⟨g2, 0, none⟩ (.int .i64 (MA.2.1 : Int))).setCell ⟨g2, 1, none⟩ (.int .i64 MA.2.2.a)).setCell ⟨g2, 2, none⟩ (.int .i64 MA.2.2.l)).setCell ⟨g2, 3, none⟩ (.int .i64 MA.2.2.c)).setCell ⟨g2, 4, none⟩ (.string ⟨#[]⟩)) = We at *
        refine wpAnyH_done (by kernel_rfl) ?_ _
        refine NoPanic.normal ?_
        go_wp2_with fail
        go_meet
        exact ⟨g1, g2, rfl, rfl, ⟨oV, cV, oK, cK, o, cap, hi, R1.out, R2.out, HX.out.mono fun k hk => hk.2, HHI.out, hH.2.1.out⟩⟩
    · go_simp
      have HG1 := hH.2.2
      have BB : Below Ws.heap.size Ws (Ws.alloc (.cells #[.int .i64 0, .string ⟨#[]⟩, .string ⟨#[]⟩, .int .i64 0, .int .i64 0, .string ⟨#[]⟩, .slice none 0 0, .slice none 0 0, .int .i64 0, .int .i64 0, .bool false, .slice none 0 0, .int .i64 0, .int .i64 0, .int .i64 0] 33)) := (Below.refl _ _).alloc (Nat.le_refl _) _
      refine hK.out _ _ ?_ (fun hH' => ?_)
      · exact held_next BB hH
      have R1 := Lib.hid (heap_alloc_new Ws (.cells #[.int .i64 0, .string ⟨#[]⟩, .string ⟨#[]⟩, .int .i64 0, .int .i64 0, .string ⟨#[]⟩, .slice none 0 0, .slice none 0 0, .int .i64 0, .int .i64 0, .bool false, .slice none 0 0, .int .i64 0, .int .i64 0, .int .i64 0] 33))
      clear BB
      clear hK K hH
      have hH := hH'
      clear hH'
      try simp only [Act.put, List.setIfInBounds_toArray, List.set_cons_zero, List.set_cons_succ]
      generalize Ws.alloc (.cells #[.int .i64 0, .string ⟨#[]⟩, .string ⟨#[]⟩, .int .i64 0, .int .i64 0, .string ⟨#[]⟩, .slice none 0 0, .slice none 0 0, .int .i64 0, .int .i64 0, .bool false, .slice none 0 0, .int .i64 0, .int .i64 0, .int .i64 0] 33) = Wa at *
      generalize Ws.heap.size = g1 at *
      refine wpAnyH_ready (rs := [12, 17]) (by kernel_rfl) (by simp) ?_
      refine (AllReadyH.cons (o := { dst := some 36, op := Op.call { callee := Callee.value (Operand.func 9), args := #[Operand.tmp 35], argTypes := #[9] }, type := 37, pos := "law.go:61", after := #[{ on := 11, ground := Ground.data }], guard := none }) rfl (fun K hK => ?_) (AllReadyH.cons (o := { dst := some 10, op := Op.alloc 36, type := 0, pos := "law.go:61", after := #[], guard := none }) rfl (fun K hK => ?_) AllReadyH.nil))
      · go_simp
        refine (CC.out _ hH.2.1.out).mono ?_
        rintro e0 Wc ⟨oV, cV, oK, cK, o, cap, rfl, hx, hb⟩
        refine hK.out _ _ ?_ (fun hH' => ?_)
        · exact held_next hb hH
        have D1 : Hid (g1 < Wa.heap.size ∨ Wc.heap.size ≤ g1) := .inl (Array.getElem?_eq_some_iff.1 R1.out).1
        replace R1 := Lib.hid ((hb.block _ (Array.getElem?_eq_some_iff.1 R1.out).1).trans R1.out)
        have HX : Hid (XP (fun k => Wa.heap.size ≤ k ∧ k < Wc.heap.size) Wc MA.1 (.agg (xc MA.1 oV cV oK cK o cap))) := hx
        have HHI : Hid (Wc.heap.size ≤ Wc.heap.size) := Nat.le_refl _
        clear hx hb
        clear hK K hH
        have hH := hH'
        clear hH'
        try simp only [Act.put, List.setIfInBounds_toArray, List.set_cons_zero, List.set_cons_succ]
        obtain ⟨lo, hlo⟩ : ∃ b, Wa.heap.size = b := ⟨_, rfl⟩
        rw [hlo] at HX
        rw [hlo] at D1
        obtain ⟨hi, hhi⟩ : ∃ b, Wc.heap.size = b := ⟨_, rfl⟩
        replace HHI : Hid (hi ≤ Wc.heap.size) := Nat.le_of_eq hhi.symm
        rw [hhi] at HX
        rw [hhi] at D1
        clear hlo hhi
        refine wpAnyH_take (i := 13) (oi := { dst := some 23, op := Op.move (Operand.tmp 36), type := 37, pos := "law.go:61", after := #[{ on := 12, ground := Ground.data }], guard := none }) (v := ?_) rfl (by kernel_rfl) (by kernel_rfl) (by kernel_rfl) (fun _ _ _ h => h) (Or.inl ⟨by rfl, ?_⟩) (by assumption) ?_
        rotate_left
        · (intro w hSw; (try dsimp only at hSw); go_simp; try with_reducible rfl)
        try simp only [Act.put, List.setIfInBounds_toArray, List.set_cons_zero, List.set_cons_succ]
        refine wpAnyH_take (i := 14) (oi := { dst := some 37, op := Op.extract (Operand.tmp 23) 0, type := 33, pos := "law.go:61", after := #[{ on := 13, ground := Ground.data }], guard := none }) (v := ?_) rfl (by kernel_rfl) (by kernel_rfl) (by kernel_rfl) (fun _ _ _ h => h) (Or.inl ⟨by rfl, ?_⟩) (by assumption) ?_
        rotate_left
        · (intro w hSw; (try dsimp only at hSw); go_simp; try with_reducible rfl)
        try simp only [Act.put, List.setIfInBounds_toArray, List.set_cons_zero, List.set_cons_succ]
        refine wpAnyH_take (i := 15) (oi := { dst := some 38, op := Op.extract (Operand.tmp 23) 1, type := 36, pos := "law.go:61", after := #[{ on := 13, ground := Ground.data }, { on := 18, ground := Ground.gcOnly Departure.lateStores }], guard := none }) (v := ?_) rfl (by kernel_rfl) (by kernel_rfl) (by kernel_rfl) (fun _ _ _ h => h) (Or.inl ⟨by rfl, ?_⟩) (by assumption) ?_
        rotate_left
        · (intro w hSw; (try dsimp only at hSw); go_simp; try with_reducible rfl)
        try simp only [Act.put, List.setIfInBounds_toArray, List.set_cons_zero, List.set_cons_succ]
        refine wpAnyH_ready (rs := [17]) (by kernel_rfl) (by simp) ?_
        refine AllReadyH.cons (o := { dst := some 10, op := Op.alloc 36, type := 0, pos := "law.go:61", after := #[], guard := none }) rfl (fun K hK => ?_) AllReadyH.nil
        go_simp
        have HG2 := hH.2.2
        have BB : Below Wc.heap.size Wc (Wc.alloc (.cells #[.int .i64 0, .int .i64 0, .int .i64 0, .int .i64 0, .string ⟨#[]⟩] 36)) := (Below.refl _ _).alloc (Nat.le_refl _) _
        refine hK.out _ _ ?_ (fun hH' => ?_)
        · exact held_next BB hH
        have HNE : Hid (Wc.heap.size ≠ g1) := Nat.ne_of_gt (Array.getElem?_eq_some_iff.1 R1.out).1
        have R2 := Lib.hid (heap_alloc_new Wc (.cells #[.int .i64 0, .int .i64 0, .int .i64 0, .int .i64 0, .string ⟨#[]⟩] 36))
        replace R1 := Lib.hid ((heap_alloc_old Wc (.cells #[.int .i64 0, .int .i64 0, .int .i64 0, .int .i64 0, .string ⟨#[]⟩] 36) (Array.getElem?_eq_some_iff.1 R1.out).1).trans R1.out)
        have D2 : Hid (Wc.heap.size < lo ∨ hi ≤ Wc.heap.size) := .inr HHI.out
        replace HX := Lib.hid (HX.out.keptP (P' := fun k => lo ≤ k ∧ k < hi) fun k hk => ⟨hk, BB.block k (Nat.lt_of_lt_of_le hk.2 HHI.out)⟩)
        replace HHI : Hid (hi ≤ (Wc.alloc (.cells #[.int .i64 0, .int .i64 0, .int .i64 0, .int .i64 0, .string ⟨#[]⟩] 36)).heap.size) := Nat.le_trans HHI.out BB.size
        clear BB
        clear hK K hH
        have hH := hH'
        clear hH'
        try simp only [Act.put, List.setIfInBounds_toArray, List.set_cons_zero, List.set_cons_succ]
        generalize Wc.alloc (.cells #[.int .i64 0, .int .i64 0, .int .i64 0, .int .i64 0, .string ⟨#[]⟩] 36) = Wb at *
        generalize Wc.heap.size = g2 at *
        refine wpAnyH_ready (rs := [18]) (by kernel_rfl) (by simp) ?_
        refine AllReadyH.cons (o := { dst := none, op := Op.store 33 (Operand.tmp 9) (Operand.tmp 37), type := 0, pos := "law.go:61", after := #[{ on := 16, ground := Ground.data }, { on := 14, ground := Ground.data }, { on := 12, ground := Ground.chain }, { on := 0, ground := Ground.phase }, { on := 1, ground := Ground.phase }, { on := 2, ground := Ground.phase }, { on := 3, ground := Ground.phase }, { on := 4, ground := Ground.phase }, { on := 5, ground := Ground.phase }, { on := 6, ground := Ground.phase }, { on := 7, ground := Ground.phase }, { on := 8, ground := Ground.phase }, { on := 9, ground := Ground.phase }, { on := 10, ground := Ground.phase }, { on := 11, ground := Ground.phase }, { on := 12, ground := Ground.phase }, { on := 13, ground := Ground.phase }, { on := 14, ground := Ground.phase }, { on := 15, ground := Ground.textOnly Departure.lateStores }, { on := 16, ground := Ground.phase }, { on := 17, ground := Ground.phase }], guard := none }) rfl (fun K hK => ?_) AllReadyH.nil
        obtain ⟨⟨x0, x1, x2, x3, x4, x5, x6, x7, x8, x9, x10, x11, x12, x13, x14⟩, gx, hbx⟩ := rc15 R1.out
        have gx0 := gx 0
        have gx1 := gx 1
        have gx2 := gx 2
        have gx3 := gx 3
        have gx4 := gx 4
        have gx5 := gx 5
        have gx6 := gx 6
        have gx7 := gx 7
        have gx8 := gx 8
        have gx9 := gx 9
        have gx10 := gx 10
        have gx11 := gx 11
        have gx12 := gx 12
        have gx13 := gx 13
        have gx14 := gx 14
        clear gx
        go_simp
        have SB : Below N w4 (((((((((((((((Wb.setCell ⟨g1, 0, none⟩ (.int .i64 MA.1.op)).setCell ⟨g1, 1, none⟩ (.string MA.1.s)).setCell ⟨g1, 2, none⟩ (.string MA.1.s2)).setCell ⟨g1, 3, none⟩ (.int .i64 MA.1.v.k)).setCell ⟨g1, 4, none⟩ (.int .i64 MA.1.v.i)).setCell ⟨g1, 5, none⟩ (.string MA.1.v.s)).setCell ⟨g1, 6, none⟩ (.slice oV MA.1.v.l.length cV)).setCell ⟨g1, 7, none⟩ (.slice oK MA.1.v.ks.length cK)).setCell ⟨g1, 8, none⟩ (.int .i64 MA.1.v.tk)).setCell ⟨g1, 9, none⟩ (.int .i64 MA.1.v.to)).setCell ⟨g1, 10, none⟩ (.bool MA.1.v.x)).setCell ⟨g1, 11, none⟩ (.slice o MA.1.l.length cap)).setCell ⟨g1, 12, none⟩ (.int .i64 MA.1.a)).setCell ⟨g1, 13, none⟩ (.int .i64 MA.1.ln)).setCell ⟨g1, 14, none⟩ (.int .i64 MA.1.c)) := set15_b hH.2.1.out HG1.out (.int .i64 MA.1.op) (.string MA.1.s) (.string MA.1.s2) (.int .i64 MA.1.v.k) (.int .i64 MA.1.v.i) (.string MA.1.v.s) (.slice oV MA.1.v.l.length cV) (.slice oK MA.1.v.ks.length cK) (.int .i64 MA.1.v.tk) (.int .i64 MA.1.v.to) (.bool MA.1.v.x) (.slice o MA.1.l.length cap) (.int .i64 MA.1.a) (.int .i64 MA.1.ln) (.int .i64 MA.1.c)
        have SS := (set15_b (b := g1) (Below.refl 0 Wb) (Nat.zero_le _) (.int .i64 MA.1.op) (.string MA.1.s) (.string MA.1.s2) (.int .i64 MA.1.v.k) (.int .i64 MA.1.v.i) (.string MA.1.v.s) (.slice oV MA.1.v.l.length cV) (.slice oK MA.1.v.ks.length cK) (.int .i64 MA.1.v.tk) (.int .i64 MA.1.v.to) (.bool MA.1.v.x) (.slice o MA.1.l.length cap) (.int .i64 MA.1.a) (.int .i64 MA.1.ln) (.int .i64 MA.1.c)).size
        refine hK.out _ _ ?_ (fun hH' => ?_)
        · exact ⟨fun b o hb => SB.cell (p := ⟨b, o, none⟩) hb, SB, Nat.le_trans hH.2.2.out SS⟩
        replace R2 := Lib.hid ((set15_o (show g2 ≠ g1 from HNE.out) (.int .i64 MA.1.op) (.string MA.1.s) (.string MA.1.s2) (.int .i64 MA.1.v.k) (.int .i64 MA.1.v.i) (.string MA.1.v.s) (.slice oV MA.1.v.l.length cV) (.slice oK MA.1.v.ks.length cK) (.int .i64 MA.1.v.tk) (.int .i64 MA.1.v.to) (.bool MA.1.v.x) (.slice o MA.1.l.length cap) (.int .i64 MA.1.a) (.int .i64 MA.1.ln) (.int .i64 MA.1.c)).trans R2.out)
        replace HX := Lib.hid (HX.out.keptP (P' := fun k => lo ≤ k ∧ k < hi) fun k hk => ⟨hk, set15_o (show k ≠ g1 by have := D1.out; have := hk.1; have := hk.2; omega) (.int .i64 MA.1.op) (.string MA.1.s) (.string MA.1.s2) (.int .i64 MA.1.v.k) (.int .i64 MA.1.v.i) (.string MA.1.v.s) (.slice oV MA.1.v.l.length cV) (.slice oK MA.1.v.ks.length cK) (.int .i64 MA.1.v.tk) (.int .i64 MA.1.v.to) (.bool MA.1.v.x) (.slice o MA.1.l.length cap) (.int .i64 MA.1.a) (.int .i64 MA.1.ln) (.int .i64 MA.1.c)⟩)
        replace R1 := Lib.hid (set15 R1.out (.int .i64 MA.1.op) (.string MA.1.s) (.string MA.1.s2) (.int .i64 MA.1.v.k) (.int .i64 MA.1.v.i) (.string MA.1.v.s) (.slice oV MA.1.v.l.length cV) (.slice oK MA.1.v.ks.length cK) (.int .i64 MA.1.v.tk) (.int .i64 MA.1.v.to) (.bool MA.1.v.x) (.slice o MA.1.l.length cap) (.int .i64 MA.1.a) (.int .i64 MA.1.ln) (.int .i64 MA.1.c))
        replace HHI := Lib.hid (Nat.le_trans HHI.out SS)
        clear SB SS x0 x1 x2 x3 x4 x5 x6 x7 x8 x9 x10 x11 x12 x13 x14 hbx gx0 gx1 gx2 gx3 gx4 gx5 gx6 gx7 gx8 gx9 gx10 gx11 gx12 gx13 gx14
        clear hK K hH
        have hH := hH'
        clear hH'
        try simp only [Act.put, List.setIfInBounds_toArray, List.set_cons_zero, List.set_cons_succ]
        generalize (((((((((((((((Wb.setCell ⟨g1, 0, none⟩ (.int .i64 MA.1.op)).setCell ⟨g1, 1, none⟩ (.string MA.1.s)).setCell ⟨g1, 2, none⟩ (.string MA.1.s2)).setCell ⟨g1, 3, none⟩ (.int .i64 MA.1.v.k)).setCell ⟨g1, 4, none⟩ (.int .i64 MA.1.v.i)).setCell ⟨g1, 5, none⟩ (.string MA.1.v.s)).setCell ⟨g1, 6, none⟩ (.slice oV MA.1.v.l.length cV)).setCell ⟨g1, 7, none⟩ (.slice oK MA.1.v.ks.length cK)).setCell ⟨g1, 8, none⟩ (.int .i64 MA.1.v.tk)).setCell ⟨g1, 9, none⟩ (.int .i64 MA.1.v.to)).setCell ⟨g1, 10, none⟩ (.bool MA.1.v.x)).setCell ⟨g1, 11, none⟩ (.slice o MA.1.l.length cap)).setCell ⟨g1, 12, none⟩ (.int .i64 MA.1.a)).setCell ⟨g1, 13, none⟩ (.int .i64 MA.1.ln)).setCell ⟨g1, 14, none⟩ (.int .i64 MA.1.c)) = Wd at *
        refine wpAnyH_ready (rs := [19]) (by kernel_rfl) (by simp) ?_
        refine AllReadyH.cons (o := { dst := none, op := Op.store 36 (Operand.tmp 10) (Operand.tmp 38), type := 0, pos := "law.go:61", after := #[{ on := 17, ground := Ground.data }, { on := 15, ground := Ground.data }, { on := 18, ground := Ground.chain }, { on := 0, ground := Ground.phase }, { on := 1, ground := Ground.phase }, { on := 2, ground := Ground.phase }, { on := 3, ground := Ground.phase }, { on := 4, ground := Ground.phase }, { on := 5, ground := Ground.phase }, { on := 6, ground := Ground.phase }, { on := 7, ground := Ground.phase }, { on := 8, ground := Ground.phase }, { on := 9, ground := Ground.phase }, { on := 10, ground := Ground.phase }, { on := 11, ground := Ground.phase }, { on := 12, ground := Ground.phase }, { on := 13, ground := Ground.phase }, { on := 14, ground := Ground.phase }, { on := 15, ground := Ground.phase }, { on := 16, ground := Ground.phase }, { on := 17, ground := Ground.phase }, { on := 18, ground := Ground.phase }], guard := none }) rfl (fun K hK => ?_) AllReadyH.nil
        obtain ⟨⟨y0, y1, y2, y3, y4⟩, ⟨gy0, gy1, gy2, gy3, gy4⟩, hby⟩ := rc5 R2.out
        go_simp
        have SB : Below N w4 (((((Wd.setCell ⟨g2, 0, none⟩ (.int .i64 (MA.2.1 : Int))).setCell ⟨g2, 1, none⟩ (.int .i64 MA.2.2.a)).setCell ⟨g2, 2, none⟩ (.int .i64 MA.2.2.l)).setCell ⟨g2, 3, none⟩ (.int .i64 MA.2.2.c)).setCell ⟨g2, 4, none⟩ (.string ⟨#[]⟩)) := set5_b hH.2.1.out HG2.out (.int .i64 (MA.2.1 : Int)) (.int .i64 MA.2.2.a) (.int .i64 MA.2.2.l) (.int .i64 MA.2.2.c) (.string ⟨#[]⟩)
        have SS := (set5_b (b := g2) (Below.refl 0 Wd) (Nat.zero_le _) (.int .i64 (MA.2.1 : Int)) (.int .i64 MA.2.2.a) (.int .i64 MA.2.2.l) (.int .i64 MA.2.2.c) (.string ⟨#[]⟩)).size
        refine hK.out _ _ ?_ (fun hH' => ?_)
        · exact ⟨fun b o hb => SB.cell (p := ⟨b, o, none⟩) hb, SB, Nat.le_trans hH.2.2.out SS⟩
        replace R1 := Lib.hid ((set5_o (show g1 ≠ g2 from fun e => HNE.out e.symm) (.int .i64 (MA.2.1 : Int)) (.int .i64 MA.2.2.a) (.int .i64 MA.2.2.l) (.int .i64 MA.2.2.c) (.string ⟨#[]⟩)).trans R1.out)
        replace HX := Lib.hid (HX.out.keptP (P' := fun k => lo ≤ k ∧ k < hi) fun k hk => ⟨hk, set5_o (show k ≠ g2 by have := D2.out; have := hk.1; have := hk.2; omega) (.int .i64 (MA.2.1 : Int)) (.int .i64 MA.2.2.a) (.int .i64 MA.2.2.l) (.int .i64 MA.2.2.c) (.string ⟨#[]⟩)⟩)
        replace R2 := Lib.hid (set5 R2.out (.int .i64 (MA.2.1 : Int)) (.int .i64 MA.2.2.a) (.int .i64 MA.2.2.l) (.int .i64 MA.2.2.c) (.string ⟨#[]⟩))
        replace HHI := Lib.hid (Nat.le_trans HHI.out SS)
        clear SB SS y0 y1 y2 y3 y4 gy0 gy1 gy2 gy3 gy4 hby
        clear hK K hH
        have hH := hH'
        clear hH'
        try simp only [Act.put, List.setIfInBounds_toArray, List.set_cons_zero, List.set_cons_succ]
        generalize (((((Wd.setCell ⟨g2, 0, none⟩ (.int .i64 (MA.2.1 : Int))).setCell ⟨g2, 1, none⟩ (.int .i64 MA.2.2.a)).setCell ⟨g2, 2, none⟩ (.int .i64 MA.2.2.l)).setCell ⟨g2, 3, none⟩ (.int .i64 MA.2.2.c)).setCell ⟨g2, 4, none⟩ (.string ⟨#[]⟩)) = We at *
        refine wpAnyH_done (by kernel_rfl) ?_ _
        refine NoPanic.normal ?_
        go_wp2_with fail
        go_meet
        exact ⟨g1, g2, rfl, rfl, ⟨oV, cV, oK, cK, o, cap, hi, R1.out, R2.out, HX.out.mono fun k hk => hk.2, HHI.out, hH.2.1.out⟩⟩
      · go_simp
        have HG2 := hH.2.2
        have BB : Below Wa.heap.size Wa (Wa.alloc (.cells #[.int .i64 0, .int .i64 0, .int .i64 0, .int .i64 0, .string ⟨#[]⟩] 36)) := (Below.refl _ _).alloc (Nat.le_refl _) _
        refine hK.out _ _ ?_ (fun hH' => ?_)
        · exact held_next BB hH
        have HNE : Hid (Wa.heap.size ≠ g1) := Nat.ne_of_gt (Array.getElem?_eq_some_iff.1 R1.out).1
        have R2 := Lib.hid (heap_alloc_new Wa (.cells #[.int .i64 0, .int .i64 0, .int .i64 0, .int .i64 0, .string ⟨#[]⟩] 36))
        replace R1 := Lib.hid ((heap_alloc_old Wa (.cells #[.int .i64 0, .int .i64 0, .int .i64 0, .int .i64 0, .string ⟨#[]⟩] 36) (Array.getElem?_eq_some_iff.1 R1.out).1).trans R1.out)
        clear BB
        clear hK K hH
        have hH := hH'
        clear hH'
        try simp only [Act.put, List.setIfInBounds_toArray, List.set_cons_zero, List.set_cons_succ]
        generalize Wa.alloc (.cells #[.int .i64 0, .int .i64 0, .int .i64 0, .int .i64 0, .string ⟨#[]⟩] 36) = Wb at *
        generalize Wa.heap.size = g2 at *
        refine wpAnyH_ready (rs := [12]) (by kernel_rfl) (by simp) ?_
        refine AllReadyH.cons (o := { dst := some 36, op := Op.call { callee := Callee.value (Operand.func 9), args := #[Operand.tmp 35], argTypes := #[9] }, type := 37, pos := "law.go:61", after := #[{ on := 11, ground := Ground.data }], guard := none }) rfl (fun K hK => ?_) AllReadyH.nil
        go_simp
        refine (CC.out _ hH.2.1.out).mono ?_
        rintro e0 Wc ⟨oV, cV, oK, cK, o, cap, rfl, hx, hb⟩
        refine hK.out _ _ ?_ (fun hH' => ?_)
        · exact held_next hb hH
        have D1 : Hid (g1 < Wb.heap.size ∨ Wc.heap.size ≤ g1) := .inl (Array.getElem?_eq_some_iff.1 R1.out).1
        replace R1 := Lib.hid ((hb.block _ (Array.getElem?_eq_some_iff.1 R1.out).1).trans R1.out)
        have D2 : Hid (g2 < Wb.heap.size ∨ Wc.heap.size ≤ g2) := .inl (Array.getElem?_eq_some_iff.1 R2.out).1
        replace R2 := Lib.hid ((hb.block _ (Array.getElem?_eq_some_iff.1 R2.out).1).trans R2.out)
        have HX : Hid (XP (fun k => Wb.heap.size ≤ k ∧ k < Wc.heap.size) Wc MA.1 (.agg (xc MA.1 oV cV oK cK o cap))) := hx
        have HHI : Hid (Wc.heap.size ≤ Wc.heap.size) := Nat.le_refl _
        clear hx hb
        clear hK K hH
        have hH := hH'
        clear hH'
        try simp only [Act.put, List.setIfInBounds_toArray, List.set_cons_zero, List.set_cons_succ]
        obtain ⟨lo, hlo⟩ : ∃ b, Wb.heap.size = b := ⟨_, rfl⟩
        rw [hlo] at HX
        rw [hlo] at D1
        rw [hlo] at D2
        obtain ⟨hi, hhi⟩ : ∃ b, Wc.heap.size = b := ⟨_, rfl⟩
        replace HHI : Hid (hi ≤ Wc.heap.size) := Nat.le_of_eq hhi.symm
        rw [hhi] at HX
        rw [hhi] at D1
        rw [hhi] at D2
        clear hlo hhi
        refine wpAnyH_take (i := 13) (oi := { dst := some 23, op := Op.move (Operand.tmp 36), type := 37, pos := "law.go:61", after := #[{ on := 12, ground := Ground.data }], guard := none }) (v := ?_) rfl (by kernel_rfl) (by kernel_rfl) (by kernel_rfl) (fun _ _ _ h => h) (Or.inl ⟨by rfl, ?_⟩) (by assumption) ?_
        rotate_left
        · (intro w hSw; (try dsimp only at hSw); go_simp; try with_reducible rfl)
        try simp only [Act.put, List.setIfInBounds_toArray, List.set_cons_zero, List.set_cons_succ]
        refine wpAnyH_take (i := 14) (oi := { dst := some 37, op := Op.extract (Operand.tmp 23) 0, type := 33, pos := "law.go:61", after := #[{ on := 13, ground := Ground.data }], guard := none }) (v := ?_) rfl (by kernel_rfl) (by kernel_rfl) (by kernel_rfl) (fun _ _ _ h => h) (Or.inl ⟨by rfl, ?_⟩) (by assumption) ?_
        rotate_left
        · (intro w hSw; (try dsimp only at hSw); go_simp; try with_reducible rfl)
        try simp only [Act.put, List.setIfInBounds_toArray, List.set_cons_zero, List.set_cons_succ]
        refine wpAnyH_take (i := 15) (oi := { dst := some 38, op := Op.extract (Operand.tmp 23) 1, type := 36, pos := "law.go:61", after := #[{ on := 13, ground := Ground.data }, { on := 18, ground := Ground.gcOnly Departure.lateStores }], guard := none }) (v := ?_) rfl (by kernel_rfl) (by kernel_rfl) (by kernel_rfl) (fun _ _ _ h => h) (Or.inl ⟨by rfl, ?_⟩) (by assumption) ?_
        rotate_left
        · (intro w hSw; (try dsimp only at hSw); go_simp; try with_reducible rfl)
        try simp only [Act.put, List.setIfInBounds_toArray, List.set_cons_zero, List.set_cons_succ]
        refine wpAnyH_ready (rs := [18]) (by kernel_rfl) (by simp) ?_
        refine AllReadyH.cons (o := { dst := none, op := Op.store 33 (Operand.tmp 9) (Operand.tmp 37), type := 0, pos := "law.go:61", after := #[{ on := 16, ground := Ground.data }, { on := 14, ground := Ground.data }, { on := 12, ground := Ground.chain }, { on := 0, ground := Ground.phase }, { on := 1, ground := Ground.phase }, { on := 2, ground := Ground.phase }, { on := 3, ground := Ground.phase }, { on := 4, ground := Ground.phase }, { on := 5, ground := Ground.phase }, { on := 6, ground := Ground.phase }, { on := 7, ground := Ground.phase }, { on := 8, ground := Ground.phase }, { on := 9, ground := Ground.phase }, { on := 10, ground := Ground.phase }, { on := 11, ground := Ground.phase }, { on := 12, ground := Ground.phase }, { on := 13, ground := Ground.phase }, { on := 14, ground := Ground.phase }, { on := 15, ground := Ground.textOnly Departure.lateStores }, { on := 16, ground := Ground.phase }, { on := 17, ground := Ground.phase }], guard := none }) rfl (fun K hK => ?_) AllReadyH.nil
        obtain ⟨⟨x0, x1, x2, x3, x4, x5, x6, x7, x8, x9, x10, x11, x12, x13, x14⟩, gx, hbx⟩ := rc15 R1.out
        have gx0 := gx 0
        have gx1 := gx 1
        have gx2 := gx 2
        have gx3 := gx 3
        have gx4 := gx 4
        have gx5 := gx 5
        have gx6 := gx 6
        have gx7 := gx 7
        have gx8 := gx 8
        have gx9 := gx 9
        have gx10 := gx 10
        have gx11 := gx 11
        have gx12 := gx 12
        have gx13 := gx 13
        have gx14 := gx 14
        clear gx
        go_simp
        have SB : Below N w4 (((((((((((((((Wc.setCell ⟨g1, 0, none⟩ (.int .i64 MA.1.op)).setCell ⟨g1, 1, none⟩ (.string MA.1.s)).setCell ⟨g1, 2, none⟩ (.string MA.1.s2)).setCell ⟨g1, 3, none⟩ (.int .i64 MA.1.v.k)).setCell ⟨g1, 4, none⟩ (.int .i64 MA.1.v.i)).setCell ⟨g1, 5, none⟩ (.string MA.1.v.s)).setCell ⟨g1, 6, none⟩ (.slice oV MA.1.v.l.length cV)).setCell ⟨g1, 7, none⟩ (.slice oK MA.1.v.ks.length cK)).setCell ⟨g1, 8, none⟩ (.int .i64 MA.1.v.tk)).setCell ⟨g1, 9, none⟩ (.int .i64 MA.1.v.to)).setCell ⟨g1, 10, none⟩ (.bool MA.1.v.x)).setCell ⟨g1, 11, none⟩ (.slice o MA.1.l.length cap)).setCell ⟨g1, 12, none⟩ (.int .i64 MA.1.a)).setCell ⟨g1, 13, none⟩ (.int .i64 MA.1.ln)).setCell ⟨g1, 14, none⟩ (.int .i64 MA.1.c)) := set15_b hH.2.1.out HG1.out (.int .i64 MA.1.op) (.string MA.1.s) (.string MA.1.s2) (.int .i64 MA.1.v.k) (.int .i64 MA.1.v.i) (.string MA.1.v.s) (.slice oV MA.1.v.l.length cV) (.slice oK MA.1.v.ks.length cK) (.int .i64 MA.1.v.tk) (.int .i64 MA.1.v.to) (.bool MA.1.v.x) (.slice o MA.1.l.length cap) (.int .i64 MA.1.a) (.int .i64 MA.1.ln) (.int .i64 MA.1.c)
        have SS := (set15_b (b := g1) (Below.refl 0 Wc) (Nat.zero_le _) (.int .i64 MA.1.op) (.string MA.1.s) (.string MA.1.s2) (.int .i64 MA.1.v.k) (.int .i64 MA.1.v.i) (.string MA.1.v.s) (.slice oV MA.1.v.l.length cV) (.slice oK MA.1.v.ks.length cK) (.int .i64 MA.1.v.tk) (.int .i64 MA.1.v.to) (.bool MA.1.v.x) (.slice o MA.1.l.length cap) (.int .i64 MA.1.a) (.int .i64 MA.1.ln) (.int .i64 MA.1.c)).size
        refine hK.out _ _ ?_ (fun hH' => ?_)
        · exact ⟨fun b o hb => SB.cell (p := ⟨b, o, none⟩) hb, SB, Nat.le_trans hH.2.2.out SS⟩
        replace R2 := Lib.hid ((set15_o (show g2 ≠ g1 from HNE.out) (.int .i64 MA.1.op) (.string MA.1.s) (.string MA.1.s2) (.int .i64 MA.1.v.k) (.int .i64 MA.1.v.i) (.string MA.1.v.s) (.slice oV MA.1.v.l.length cV) (.slice oK MA.1.v.ks.length cK) (.int .i64 MA.1.v.tk) (.int .i64 MA.1.v.to) (.bool MA.1.v.x) (.slice o MA.1.l.length cap) (.int .i64 MA.1.a) (.int .i64 MA.1.ln) (.int .i64 MA.1.c)).trans R2.out)
        replace HX := Lib.hid (HX.out.keptP (P' := fun k => lo ≤ k ∧ k < hi) fun k hk => ⟨hk, set15_o (show k ≠ g1 by have := D1.out; have := hk.1; have := hk.2; omega) (.int .i64 MA.1.op) (.string MA.1.s) (.string MA.1.s2) (.int .i64 MA.1.v.k) (.int .i64 MA.1.v.i) (.string MA.1.v.s) (.slice oV MA.1.v.l.length cV) (.slice oK MA.1.v.ks.length cK) (.int .i64 MA.1.v.tk) (.int .i64 MA.1.v.to) (.bool MA.1.v.x) (.slice o MA.1.l.length cap) (.int .i64 MA.1.a) (.int .i64 MA.1.ln) (.int .i64 MA.1.c)⟩)
        replace R1 := Lib.hid (set15 R1.out (.int .i64 MA.1.op) (.string MA.1.s) (.string MA.1.s2) (.int .i64 MA.1.v.k) (.int .i64 MA.1.v.i) (.string MA.1.v.s) (.slice oV MA.1.v.l.length cV) (.slice oK MA.1.v.ks.length cK) (.int .i64 MA.1.v.tk) (.int .i64 MA.1.v.to) (.bool MA.1.v.x) (.slice o MA.1.l.length cap) (.int .i64 MA.1.a) (.int .i64 MA.1.ln) (.int .i64 MA.1.c))
        replace HHI := Lib.hid (Nat.le_trans HHI.out SS)
        clear SB SS x0 x1 x2 x3 x4 x5 x6 x7 x8 x9 x10 x11 x12 x13 x14 hbx gx0 gx1 gx2 gx3 gx4 gx5 gx6 gx7 gx8 gx9 gx10 gx11 gx12 gx13 gx14
        clear hK K hH
        have hH := hH'
        clear hH'
        try simp only [Act.put, List.setIfInBounds_toArray, List.set_cons_zero, List.set_cons_succ]
        generalize (((((((((((((((Wc.setCell ⟨g1, 0, none⟩ (.int .i64 MA.1.op)).setCell ⟨g1, 1, none⟩ (.string MA.1.s)).setCell ⟨g1, 2, none⟩ (.string MA.1.s2)).setCell ⟨g1, 3, none⟩ (.int .i64 MA.1.v.k)).setCell ⟨g1, 4, none⟩ (.int .i64 MA.1.v.i)).setCell ⟨g1, 5, none⟩ (.string MA.1.v.s)).setCell ⟨g1, 6, none⟩ (.slice oV MA.1.v.l.length cV)).setCell ⟨g1, 7, none⟩ (.slice oK MA.1.v.ks.length cK)).setCell ⟨g1, 8, none⟩ (.int .i64 MA.1.v.tk)).setCell ⟨g1, 9, none⟩ (.int .i64 MA.1.v.to)).setCell ⟨g1, 10, none⟩ (.bool MA.1.v.x)).setCell ⟨g1, 11, none⟩ (.slice o MA.1.l.length cap)).setCell ⟨g1, 12, none⟩ (.int .i64 MA.1.a)).setCell ⟨g1, 13, none⟩ (.int .i64 MA.1.ln)).setCell ⟨g1, 14, none⟩ (.int .i64 MA.1.c)) = Wd at *
        refine wpAnyH_ready (rs := [19]) (by kernel_rfl) (by simp) ?_
        refine AllReadyH.cons (o := { dst := none, op := Op.store 36 (Operand.tmp 10) (Operand.tmp 38), type := 0, pos := "law.go:61", after := #[{ on := 17, ground := Ground.data }, { on := 15, ground := Ground.data }, { on := 18, ground := Ground.chain }, { on := 0, ground := Ground.phase }, { on := 1, ground := Ground.phase }, { on := 2, ground := Ground.phase }, { on := 3, ground := Ground.phase }, { on := 4, ground := Ground.phase }, { on := 5, ground := Ground.phase }, { on := 6, ground := Ground.phase }, { on := 7, ground := Ground.phase }, { on := 8, ground := Ground.phase }, { on := 9, ground := Ground.phase }, { on := 10, ground := Ground.phase }, { on := 11, ground := Ground.phase }, { on := 12, ground := Ground.phase }, { on := 13, ground := Ground.phase }, { on := 14, ground := Ground.phase }, { on := 15, ground := Ground.phase }, { on := 16, ground := Ground.phase }, { on := 17, ground := Ground.phase }, { on := 18, ground := Ground.phase }], guard := none }) rfl (fun K hK => ?_) AllReadyH.nil
        obtain ⟨⟨y0, y1, y2, y3, y4⟩, ⟨gy0, gy1, gy2, gy3, gy4⟩, hby⟩ := rc5 R2.out
        go_simp
        have SB : Below N w4 (((((Wd.setCell ⟨g2, 0, none⟩ (.int .i64 (MA.2.1 : Int))).setCell ⟨g2, 1, none⟩ (.int .i64 MA.2.2.a)).setCell ⟨g2, 2, none⟩ (.int .i64 MA.2.2.l)).setCell ⟨g2, 3, none⟩ (.int .i64 MA.2.2.c)).setCell ⟨g2, 4, none⟩ (.string ⟨#[]⟩)) := set5_b hH.2.1.out HG2.out (.int .i64 (MA.2.1 : Int)) (.int .i64 MA.2.2.a) (.int .i64 MA.2.2.l) (.int .i64 MA.2.2.c) (.string ⟨#[]⟩)
        have SS := (set5_b (b := g2) (Below.refl 0 Wd) (Nat.zero_le _) (.int .i64 (MA.2.1 : Int)) (.int .i64 MA.2.2.a) (.int .i64 MA.2.2.l) (.int .i64 MA.2.2.c) (.string ⟨#[]⟩)).size
        refine hK.out _ _ ?_ (fun hH' => ?_)
        · exact ⟨fun b o hb => SB.cell (p := ⟨b, o, none⟩) hb, SB, Nat.le_trans hH.2.2.out SS⟩
        replace R1 := Lib.hid ((set5_o (show g1 ≠ g2 from fun e => HNE.out e.symm) (.int .i64 (MA.2.1 : Int)) (.int .i64 MA.2.2.a) (.int .i64 MA.2.2.l) (.int .i64 MA.2.2.c) (.string ⟨#[]⟩)).trans R1.out)
        replace HX := Lib.hid (HX.out.keptP (P' := fun k => lo ≤ k ∧ k < hi) fun k hk => ⟨hk, set5_o (show k ≠ g2 by have := D2.out; have := hk.1; have := hk.2; omega) (.int .i64 (MA.2.1 : Int)) (.int .i64 MA.2.2.a) (.int .i64 MA.2.2.l) (.int .i64 MA.2.2.c) (.string ⟨#[]⟩)⟩)
        replace R2 := Lib.hid (set5 R2.out (.int .i64 (MA.2.1 : Int)) (.int .i64 MA.2.2.a) (.int .i64 MA.2.2.l) (.int .i64 MA.2.2.c) (.string ⟨#[]⟩))
        replace HHI := Lib.hid (Nat.le_trans HHI.out SS)
        clear SB SS y0 y1 y2 y3 y4 gy0 gy1 gy2 gy3 gy4 hby
        clear hK K hH
        have hH := hH'
        clear hH'
        try simp only [Act.put, List.setIfInBounds_toArray, List.set_cons_zero, List.set_cons_succ]
        generalize (((((Wd.setCell ⟨g2, 0, none⟩ (.int .i64 (MA.2.1 : Int))).setCell ⟨g2, 1, none⟩ (.int .i64 MA.2.2.a)).setCell ⟨g2, 2, none⟩ (.int .i64 MA.2.2.l)).setCell ⟨g2, 3, none⟩ (.int .i64 MA.2.2.c)).setCell ⟨g2, 4, none⟩ (.string ⟨#[]⟩)) = We at *
        refine wpAnyH_done (by kernel_rfl) ?_ _
        refine NoPanic.normal ?_
        go_wp2_with fail
        go_meet
        exact ⟨g1, g2, rfl, rfl, ⟨oV, cV, oK, cK, o, cap, hi, R1.out, R2.out, HX.out.mono fun k hk => hk.2, HHI.out, hH.2.1.out⟩⟩
    · go_simp
      have HG2 := hH.2.2
      have BB : Below Ws.heap.size Ws (Ws.alloc (.cells #[.int .i64 0, .int .i64 0, .int .i64 0, .int .i64 0, .string ⟨#[]⟩] 36)) := (Below.refl _ _).alloc (Nat.le_refl _) _
      refine hK.out _ _ ?_ (fun hH' => ?_)
      · exact held_next BB hH
      have R2 := Lib.hid (heap_alloc_new Ws (.cells #[.int .i64 0, .int .i64 0, .int .i64 0, .int .i64 0, .string ⟨#[]⟩] 36))
      clear BB
      clear hK K hH
      have hH := hH'
      clear hH'
      try simp only [Act.put, List.setIfInBounds_toArray, List.set_cons_zero, List.set_cons_succ]
      generalize Ws.alloc (.cells #[.int .i64 0, .int .i64 0, .int .i64 0, .int .i64 0, .string ⟨#[]⟩] 36) = Wb at *
      generalize Ws.heap.size = g2 at *
      refine wpAnyH_ready (rs := [12, 16]) (by kernel_rfl) (by simp) ?_
      refine (AllReadyH.cons (o := { dst := some 36, op := Op.call { callee := Callee.value (Operand.func 9), args := #[Operand.tmp 35], argTypes := #[9] }, type := 37, pos := "law.go:61", after := #[{ on := 11, ground := Ground.data }], guard := none }) rfl (fun K hK => ?_) (AllReadyH.cons (o := { dst := some 9, op := Op.alloc 33, type := 0, pos := "law.go:61", after := #[], guard := none }) rfl (fun K hK => ?_) AllReadyH.nil))
      · go_simp
        refine (CC.out _ hH.2.1.out).mono ?_
        rintro e0 Wc ⟨oV, cV, oK, cK, o, cap, rfl, hx, hb⟩
        refine hK.out _ _ ?_ (fun hH' => ?_)
        · exact held_next hb hH
        have D2 : Hid (g2 < Wb.heap.size ∨ Wc.heap.size ≤ g2) := .inl (Array.getElem?_eq_some_iff.1 R2.out).1
        replace R2 := Lib.hid ((hb.block _ (Array.getElem?_eq_some_iff.1 R2.out).1).trans R2.out)
        have HX : Hid (XP (fun k => Wb.heap.size ≤ k ∧ k < Wc.heap.size) Wc MA.1 (.agg (xc MA.1 oV cV oK cK o cap))) := hx
        have HHI : Hid (Wc.heap.size ≤ Wc.heap.size) := Nat.le_refl _
        clear hx hb
        clear hK K hH
        have hH := hH'
        clear hH'
        try simp only [Act.put, List.setIfInBounds_toArray, List.set_cons_zero, List.set_cons_succ]
        obtain ⟨lo, hlo⟩ : ∃ b, Wb.heap.size = b := ⟨_, rfl⟩
        rw [hlo] at HX
        rw [hlo] at D2
        obtain ⟨hi, hhi⟩ : ∃ b, Wc.heap.size = b := ⟨_, rfl⟩
        replace HHI : Hid (hi ≤ Wc.heap.size) := Nat.le_of_eq hhi.symm
        rw [hhi] at HX
        rw [hhi] at D2
        clear hlo hhi
        refine wpAnyH_take (i := 13) (oi := { dst := some 23, op := Op.move (Operand.tmp 36), type := 37, pos := "law.go:61", after := #[{ on := 12, ground := Ground.data }], guard := none }) (v := ?_) rfl (by kernel_rfl) (by kernel_rfl) (by kernel_rfl) (fun _ _ _ h => h) (Or.inl ⟨by rfl, ?_⟩) (by assumption) ?_
        rotate_left
        · (intro w hSw; (try dsimp only at hSw); go_simp; try with_reducible rfl)
        try simp only [Act.put, List.setIfInBounds_toArray, List.set_cons_zero, List.set_cons_succ]
        refine wpAnyH_take (i := 14) (oi := { dst := some 37, op := Op.extract (Operand.tmp 23) 0, type := 33, pos := "law.go:61", after := #[{ on := 13, ground := Ground.data }], guard := none }) (v := ?_) rfl (by kernel_rfl) (by kernel_rfl) (by kernel_rfl) (fun _ _ _ h => h) (Or.inl ⟨by rfl, ?_⟩) (by assumption) ?_
        rotate_left
        · (intro w hSw; (try dsimp only at hSw); go_simp; try with_reducible rfl)
        try simp only [Act.put, List.setIfInBounds_toArray, List.set_cons_zero, List.set_cons_succ]
        refine wpAnyH_take (i := 15) (oi := { dst := some 38, op := Op.extract (Operand.tmp 23) 1, type := 36, pos := "law.go:61", after := #[{ on := 13, ground := Ground.data }, { on := 18, ground := Ground.gcOnly Departure.lateStores }], guard := none }) (v := ?_) rfl (by kernel_rfl) (by kernel_rfl) (by kernel_rfl) (fun _ _ _ h => h) (Or.inl ⟨by rfl, ?_⟩) (by assumption) ?_
        rotate_left
        · (intro w hSw; (try dsimp only at hSw); go_simp; try with_reducible rfl)
        try simp only [Act.put, List.setIfInBounds_toArray, List.set_cons_zero, List.set_cons_succ]
        refine wpAnyH_ready (rs := [16]) (by kernel_rfl) (by simp) ?_
        refine AllReadyH.cons (o := { dst := some 9, op := Op.alloc 33, type := 0, pos := "law.go:61", after := #[], guard := none }) rfl (fun K hK => ?_) AllReadyH.nil
        go_simp
        have HG1 := hH.2.2
        have BB : Below Wc.heap.size Wc (Wc.alloc (.cells #[.int .i64 0, .string ⟨#[]⟩, .string ⟨#[]⟩, .int .i64 0, .int .i64 0, .string ⟨#[]⟩, .slice none 0 0, .slice none 0 0, .int .i64 0, .int .i64 0, .bool false, .slice none 0 0, .int .i64 0, .int .i64 0, .int .i64 0] 33)) := (Below.refl _ _).alloc (Nat.le_refl _) _
        refine hK.out _ _ ?_ (fun hH' => ?_)
        · exact held_next BB hH
        have HNE : Hid (g2 ≠ Wc.heap.size) := Nat.ne_of_lt (Array.getElem?_eq_some_iff.1 R2.out).1
        have R1 := Lib.hid (heap_alloc_new Wc (.cells #[.int .i64 0, .string ⟨#[]⟩, .string ⟨#[]⟩, .int .i64 0, .int .i64 0, .string ⟨#[]⟩, .slice none 0 0, .slice none 0 0, .int .i64 0, .int .i64 0, .bool false, .slice none 0 0, .int .i64 0, .int .i64 0, .int .i64 0] 33))
        replace R2 := Lib.hid ((heap_alloc_old Wc (.cells #[.int .i64 0, .string ⟨#[]⟩, .string ⟨#[]⟩, .int .i64 0, .int .i64 0, .string ⟨#[]⟩, .slice none 0 0, .slice none 0 0, .int .i64 0, .int .i64 0, .bool false, .slice none 0 0, .int .i64 0, .int .i64 0, .int .i64 0] 33) (Array.getElem?_eq_some_iff.1 R2.out).1).trans R2.out)
        have D1 : Hid (Wc.heap.size < lo ∨ hi ≤ Wc.heap.size) := .inr HHI.out
        replace HX := Lib.hid (HX.out.keptP (P' := fun k => lo ≤ k ∧ k < hi) fun k hk => ⟨hk, BB.block k (Nat.lt_of_lt_of_le hk.2 HHI.out)⟩)
        replace HHI : Hid (hi ≤ (Wc.alloc (.cells #[.int .i64 0, .string ⟨#[]⟩, .string ⟨#[]⟩, .int .i64 0, .int .i64 0, .string ⟨#[]⟩, .slice none 0 0, .slice none 0 0, .int .i64 0, .int .i64 0, .bool false, .slice none 0 0, .int .i64 0, .int .i64 0, .int .i64 0] 33)).heap.size) := Nat.le_trans HHI.out BB.size
        clear BB
        clear hK K hH
        have hH := hH'
        clear hH'
        try simp only [Act.put, List.setIfInBounds_toArray, List.set_cons_zero, List.set_cons_succ]
        generalize Wc.alloc (.cells #[.int .i64 0, .string ⟨#[]⟩, .string ⟨#[]⟩, .int .i64 0, .int .i64 0, .string ⟨#[]⟩, .slice none 0 0, .slice none 0 0, .int .i64 0, .int .i64 0, .bool false, .slice none 0 0, .int .i64 0, .int .i64 0, .int .i64 0] 33) = Wa at *
        generalize Wc.heap.size = g1 at *
        refine wpAnyH_ready (rs := [18]) (by kernel_rfl) (by simp) ?_
        refine AllReadyH.cons (o := { dst := none, op := Op.store 33 (Operand.tmp 9) (Operand.tmp 37), type := 0, pos := "law.go:61", after := #[{ on := 16, ground := Ground.data }, { on := 14, ground := Ground.data }, { on := 12, ground := Ground.chain }, { on := 0, ground := Ground.phase }, { on := 1, ground := Ground.phase }, { on := 2, ground := Ground.phase }, { on := 3, ground := Ground.phase }, { on := 4, ground := Ground.phase }, { on := 5, ground := Ground.phase }, { on := 6, ground := Ground.phase }, { on := 7, ground := Ground.phase }, { on := 8, ground := Ground.phase }, { on := 9, ground := Ground.phase }, { on := 10, ground := Ground.phase }, { on := 11, ground := Ground.phase }, { on := 12, ground := Ground.phase }, { on := 13, ground := Ground.phase }, { on := 14, ground := Ground.phase }, { on := 15, ground := Ground.textOnly Departure.lateStores }, { on := 16, ground := Ground.phase }, { on := 17, ground := Ground.phase }], guard := none }) rfl (fun K hK => ?_) AllReadyH.nil
        obtain ⟨⟨x0, x1, x2, x3, x4, x5, x6, x7, x8, x9, x10, x11, x12, x13, x14⟩, gx, hbx⟩ := rc15 R1.out
        have gx0 := gx 0
        have gx1 := gx 1
        have gx2 := gx 2
        have gx3 := gx 3
        have gx4 := gx 4
        have gx5 := gx 5
        have gx6 := gx 6
        have gx7 := gx 7
        have gx8 := gx 8
        have gx9 := gx 9
        have gx10 := gx 10
        have gx11 := gx 11
        have gx12 := gx 12
        have gx13 := gx 13
        have gx14 := gx 14
        clear gx
        go_simp
        have SB : Below N w4 (((((((((((((((Wa.setCell ⟨g1, 0, none⟩ (.int .i64 MA.1.op)).setCell ⟨g1, 1, none⟩ (.string MA.1.s)).setCell ⟨g1, 2, none⟩ (.string MA.1.s2)).setCell ⟨g1, 3, none⟩ (.int .i64 MA.1.v.k)).setCell ⟨g1, 4, none⟩ (.int .i64 MA.1.v.i)).setCell ⟨g1, 5, none⟩ (.string MA.1.v.s)).setCell ⟨g1, 6, none⟩ (.slice oV MA.1.v.l.length cV)).setCell ⟨g1, 7, none⟩ (.slice oK MA.1.v.ks.length cK)).setCell ⟨g1, 8, none⟩ (.int .i64 MA.1.v.tk)).setCell ⟨g1, 9, none⟩ (.int .i64 MA.1.v.to)).setCell ⟨g1, 10, none⟩ (.bool MA.1.v.x)).setCell ⟨g1, 11, none⟩ (.slice o MA.1.l.length cap)).setCell ⟨g1, 12, none⟩ (.int .i64 MA.1.a)).setCell ⟨g1, 13, none⟩ (.int .i64 MA.1.ln)).setCell ⟨g1, 14, none⟩ (.int .i64 MA.1.c)) := set15_b hH.2.1.out HG1.out (.int .i64 MA.1.op) (.string MA.1.s) (.string MA.1.s2) (.int .i64 MA.1.v.k) (.int .i64 MA.1.v.i) (.string MA.1.v.s) (.slice oV MA.1.v.l.length cV) (.slice oK MA.1.v.ks.length cK) (.int .i64 MA.1.v.tk) (.int .i64 MA.1.v.to) (.bool MA.1.v.x) (.slice o MA.1.l.length cap) (.int .i64 MA.1.a) (.int .i64 MA.1.ln) (.int .i64 MA.1.c)
        have SS := (set15_b (b := g1) (Below.refl 0 Wa) (Nat.zero_le _) (.int .i64 MA.1.op) (.string MA.1.s) (.string MA.1.s2) (.int .i64 MA.1.v.k) (.int .i64 MA.1.v.i) (.string MA.1.v.s) (.slice oV MA.1.v.l.length cV) (.slice oK MA.1.v.ks.length cK) (.int .i64 MA.1.v.tk) (.int .i64 MA.1.v.to) (.bool MA.1.v.x) (.slice o MA.1.l.length cap) (.int .i64 MA.1.a) (.int .i64 MA.1.ln) (.int .i64 MA.1.c)).size
        refine hK.out _ _ ?_ (fun hH' => ?_)
        · exact ⟨fun b o hb => SB.cell (p := ⟨b, o, none⟩) hb, SB, Nat.le_trans hH.2.2.out SS⟩
        replace R2 := Lib.hid ((set15_o (show g2 ≠ g1 from HNE.out) (.int .i64 MA.1.op) (.string MA.1.s) (.string MA.1.s2) (.int .i64 MA.1.v.k) (.int .i64 MA.1.v.i) (.string MA.1.v.s) (.slice oV MA.1.v.l.length cV) (.slice oK MA.1.v.ks.length cK) (.int .i64 MA.1.v.tk) (.int .i64 MA.1.v.to) (.bool MA.1.v.x) (.slice o MA.1.l.length cap) (.int .i64 MA.1.a) (.int .i64 MA.1.ln) (.int .i64 MA.1.c)).trans R2.out)
        replace HX := Lib.hid (HX.out.keptP (P' := fun k => lo ≤ k ∧ k < hi) fun k hk => ⟨hk, set15_o (show k ≠ g1 by have := D1.out; have := hk.1; have := hk.2; omega) (.int .i64 MA.1.op) (.string MA.1.s) (.string MA.1.s2) (.int .i64 MA.1.v.k) (.int .i64 MA.1.v.i) (.string MA.1.v.s) (.slice oV MA.1.v.l.length cV) (.slice oK MA.1.v.ks.length cK) (.int .i64 MA.1.v.tk) (.int .i64 MA.1.v.to) (.bool MA.1.v.x) (.slice o MA.1.l.length cap) (.int .i64 MA.1.a) (.int .i64 MA.1.ln) (.int .i64 MA.1.c)⟩)
        replace R1 := Lib.hid (set15 R1.out (.int .i64 MA.1.op) (.string MA.1.s) (.string MA.1.s2) (.int .i64 MA.1.v.k) (.int .i64 MA.1.v.i) (.string MA.1.v.s) (.slice oV MA.1.v.l.length cV) (.slice oK MA.1.v.ks.length cK) (.int .i64 MA.1.v.tk) (.int .i64 MA.1.v.to) (.bool MA.1.v.x) (.slice o MA.1.l.length cap) (.int .i64 MA.1.a) (.int .i64 MA.1.ln) (.int .i64 MA.1.c))
        replace HHI := Lib.hid (Nat.le_trans HHI.out SS)
        clear SB SS x0 x1 x2 x3 x4 x5 x6 x7 x8 x9 x10 x11 x12 x13 x14 hbx gx0 gx1 gx2 gx3 gx4 gx5 gx6 gx7 gx8 gx9 gx10 gx11 gx12 gx13 gx14
        clear hK K hH
        have hH := hH'
        clear hH'
        try simp only [Act.put, List.setIfInBounds_toArray, List.set_cons_zero, List.set_cons_succ]
        generalize (((((((((((((((Wa.setCell ⟨g1, 0, none⟩ (.int .i64 MA.1.op)).setCell ⟨g1, 1, none⟩ (.string MA.1.s)).setCell ⟨g1, 2, none⟩ (.string MA.1.s2)).setCell ⟨g1, 3, none⟩ (.int .i64 MA.1.v.k)).setCell ⟨g1, 4, none⟩ (.int .i64 MA.1.v.i)).setCell ⟨g1, 5, none⟩ (.string MA.1.v.s)).setCell ⟨g1, 6, none⟩ (.slice oV MA.1.v.l.length cV)).setCell ⟨g1, 7, none⟩ (.slice oK MA.1.v.ks.length cK)).setCell ⟨g1, 8, none⟩ (.int .i64 MA.1.v.tk)).setCell ⟨g1, 9, none⟩ (.int .i64 MA.1.v.to)).setCell ⟨g1, 10, none⟩ (.bool MA.1.v.x)).setCell ⟨g1, 11, none⟩ (.slice o MA.1.l.length cap)).setCell ⟨g1, 12, none⟩ (.int .i64 MA.1.a)).setCell ⟨g1, 13, none⟩ (.int .i64 MA.1.ln)).setCell ⟨g1, 14, none⟩ (.int .i64 MA.1.c)) = Wd at *
        refine wpAnyH_ready (rs := [19]) (by kernel_rfl) (by simp) ?_
        refine AllReadyH.cons (o := { dst := none, op := Op.store 36 (Operand.tmp 10) (Operand.tmp 38), type := 0, pos := "law.go:61", after := #[{ on := 17, ground := Ground.data }, { on := 15, ground := Ground.data }, { on := 18, ground := Ground.chain }, { on := 0, ground := Ground.phase }, { on := 1, ground := Ground.phase }, { on := 2, ground := Ground.phase }, { on := 3, ground := Ground.phase }, { on := 4, ground := Ground.phase }, { on := 5, ground := Ground.phase }, { on := 6, ground := Ground.phase }, { on := 7, ground := Ground.phase }, { on := 8, ground := Ground.phase }, { on := 9, ground := Ground.phase }, { on := 10, ground := Ground.phase }, { on := 11, ground := Ground.phase }, { on := 12, ground := Ground.phase }, { on := 13, ground := Ground.phase }, { on := 14, ground := Ground.phase }, { on := 15, ground := Ground.phase }, { on := 16, ground := Ground.phase }, { on := 17, ground := Ground.phase }, { on := 18, ground := Ground.phase }], guard := none }) rfl (fun K hK => ?_) AllReadyH.nil
        obtain ⟨⟨y0, y1, y2, y3, y4⟩, ⟨gy0, gy1, gy2, gy3, gy4⟩, hby⟩ := rc5 R2.out
        go_simp
        have SB : Below N w4 (((((Wd.setCell ⟨g2, 0, none⟩ (.int .i64 (MA.2.1 : Int))).setCell ⟨g2, 1, none⟩ (.int .i64 MA.2.2.a)).setCell ⟨g2, 2, none⟩ (.int .i64 MA.2.2.l)).setCell ⟨g2, 3, none⟩ (.int .i64 MA.2.2.c)).setCell ⟨g2, 4, none⟩ (.string ⟨#[]⟩)) := set5_b hH.2.1.out HG2.out (.int .i64 (MA.2.1 : Int)) (.int .i64 MA.2.2.a) (.int .i64 MA.2.2.l) (.int .i64 MA.2.2.c) (.string ⟨#[]⟩)
        have SS := (set5_b (b := g2) (Below.refl 0 Wd) (Nat.zero_le _) (.int .i64 (MA.2.1 : Int)) (.int .i64 MA.2.2.a) (.int .i64 MA.2.2.l) (.int .i64 MA.2.2.c) (.string ⟨#[]⟩)).size
        refine hK.out _ _ ?_ (fun hH' => ?_)
        · exact ⟨fun b o hb => SB.cell (p := ⟨b, o, none⟩) hb, SB, Nat.le_trans hH.2.2.out SS⟩
        replace R1 := Lib.hid ((set5_o (show g1 ≠ g2 from fun e => HNE.out e.symm) (.int .i64 (MA.2.1 : Int)) (.int .i64 MA.2.2.a) (.int .i64 MA.2.2.l) (.int .i64 MA.2.2.c) (.string ⟨#[]⟩)).trans R1.out)
        replace HX := Lib.hid (HX.out.keptP (P' := fun k => lo ≤ k ∧ k < hi) fun k hk => ⟨hk, set5_o (show k ≠ g2 by have := D2.out; have := hk.1; have := hk.2; omega) (.int .i64 (MA.2.1 : Int)) (.int .i64 MA.2.2.a) (.int .i64 MA.2.2.l) (.int .i64 MA.2.2.c) (.string ⟨#[]⟩)⟩)
        replace R2 := Lib.hid (set5 R2.out (.int .i64 (MA.2.1 : Int)) (.int .i64 MA.2.2.a) (.int .i64 MA.2.2.l) (.int .i64 MA.2.2.c) (.string ⟨#[]⟩))
        replace HHI := Lib.hid (Nat.le_trans HHI.out SS)
        clear SB SS y0 y1 y2 y3 y4 gy0 gy1 gy2 gy3 gy4 hby
        clear hK K hH
        have hH := hH'
        clear hH'
        try simp only [Act.put, List.setIfInBounds_toArray, List.set_cons_zero, List.set_cons_succ]
        generalize (((((Wd.setCell ⟨g2, 0, none⟩ (.int .i64 (MA.2.1 : Int))).setCell ⟨g2, 1, none⟩ (.int .i64 MA.2.2.a)).setCell ⟨g2, 2, none⟩ (.int .i64 MA.2.2.l)).setCell ⟨g2, 3, none⟩ (.int .i64 MA.2.2.c)).setCell ⟨g2, 4, none⟩ (.string ⟨#[]⟩)) = We at *
        refine wpAnyH_done (by kernel_rfl) ?_ _
        refine NoPanic.normal ?_
        go_wp2_with fail
        go_meet
        exact ⟨g1, g2, rfl, rfl, ⟨oV, cV, oK, cK, o, cap, hi, R1.out, R2.out, HX.out.mono fun k hk => hk.2, HHI.out, hH.2.1.out⟩⟩
      · go_simp
        have HG1 := hH.2.2
        have BB : Below Wb.heap.size Wb (Wb.alloc (.cells #[.int .i64 0, .string ⟨#[]⟩, .string ⟨#[]⟩, .int .i64 0, .int .i64 0, .string ⟨#[]⟩, .slice none 0 0, .slice none 0 0, .int .i64 0, .int .i64 0, .bool false, .slice none 0 0, .int .i64 0, .int .i64 0, .int .i64 0] 33)) := (Below.refl _ _).alloc (Nat.le_refl _) _
        refine hK.out _ _ ?_ (fun hH' => ?_)
        · exact held_next BB hH
        have HNE : Hid (g2 ≠ Wb.heap.size) := Nat.ne_of_lt (Array.getElem?_eq_some_iff.1 R2.out).1
        have R1 := Lib.hid (heap_alloc_new Wb (.cells #[.int .i64 0, .string ⟨#[]⟩, .string ⟨#[]⟩, .int .i64 0, .int .i64 0, .string ⟨#[]⟩, .slice none 0 0, .slice none 0 0, .int .i64 0, .int .i64 0, .bool false, .slice none 0 0, .int .i64 0, .int .i64 0, .int .i64 0] 33))
        replace R2 := Lib.hid ((heap_alloc_old Wb (.cells #[.int .i64 0, .string ⟨#[]⟩, .string ⟨#[]⟩, .int .i64 0, .int .i64 0, .string ⟨#[]⟩, .slice none 0 0, .slice none 0 0, .int .i64 0, .int .i64 0, .bool false, .slice none 0 0, .int .i64 0, .int .i64 0, .int .i64 0] 33) (Array.getElem?_eq_some_iff.1 R2.out).1).trans R2.out)
        clear BB
        clear hK K hH
        have hH := hH'
        clear hH'
        try simp only [Act.put, List.setIfInBounds_toArray, List.set_cons_zero, List.set_cons_succ]
        generalize Wb.alloc (.cells #[.int .i64 0, .string ⟨#[]⟩, .string ⟨#[]⟩, .int .i64 0, .int .i64 0, .string ⟨#[]⟩, .slice none 0 0, .slice none 0 0, .int .i64 0, .int .i64 0, .bool false, .slice none 0 0, .int .i64 0, .int .i64 0, .int .i64 0] 33) = Wa at *
        generalize Wb.heap.size = g1 at *
        refine wpAnyH_ready (rs := [12]) (by kernel_rfl) (by simp) ?_
        refine AllReadyH.cons (o := { dst := some 36, op := Op.call { callee := Callee.value (Operand.func 9), args := #[Operand.tmp 35], argTypes := #[9] }, type := 37, pos := "law.go:61", after := #[{ on := 11, ground := Ground.data }], guard := none }) rfl (fun K hK => ?_) AllReadyH.nil
        go_simp
        refine (CC.out _ hH.2.1.out).mono ?_
        rintro e0 Wc ⟨oV, cV, oK, cK, o, cap, rfl, hx, hb⟩
        refine hK.out _ _ ?_ (fun hH' => ?_)
        · exact held_next hb hH
        have D1 : Hid (g1 < Wa.heap.size ∨ Wc.heap.size ≤ g1) := .inl (Array.getElem?_eq_some_iff.1 R1.out).1
        replace R1 := Lib.hid ((hb.block _ (Array.getElem?_eq_some_iff.1 R1.out).1).trans R1.out)
        have D2 : Hid (g2 < Wa.heap.size ∨ Wc.heap.size ≤ g2) := .inl (Array.getElem?_eq_some_iff.1 R2.out).1
        replace R2 := Lib.hid ((hb.block _ (Array.getElem?_eq_some_iff.1 R2.out).1).trans R2.out)
        have HX : Hid (XP (fun k => Wa.heap.size ≤ k ∧ k < Wc.heap.size) Wc MA.1 (.agg (xc MA.1 oV cV oK cK o cap))) := hx
        have HHI : Hid (Wc.heap.size ≤ Wc.heap.size) := Nat.le_refl _
        clear hx hb
        clear hK K hH
        have hH := hH'
        clear hH'
        try simp only [Act.put, List.setIfInBounds_toArray, List.set_cons_zero, List.set_cons_succ]
        obtain ⟨lo, hlo⟩ : ∃ b, Wa.heap.size = b := ⟨_, rfl⟩
        rw [hlo] at HX
        rw [hlo] at D1
        rw [hlo] at D2
        obtain ⟨hi, hhi⟩ : ∃ b, Wc.heap.size = b := ⟨_, rfl⟩
        replace HHI : Hid (hi ≤ Wc.heap.size) := Nat.le_of_eq hhi.symm
        rw [hhi] at HX
        rw [hhi] at D1
        rw [hhi] at D2
        clear hlo hhi
        refine wpAnyH_take (i := 13) (oi := { dst := some 23, op := Op.move (Operand.tmp 36), type := 37, pos := "law.go:61", after := #[{ on := 12, ground := Ground.data }], guard := none }) (v := ?_) rfl (by kernel_rfl) (by kernel_rfl) (by kernel_rfl) (fun _ _ _ h => h) (Or.inl ⟨by rfl, ?_⟩) (by assumption) ?_
        rotate_left
        · (intro w hSw; (try dsimp only at hSw); go_simp; try with_reducible rfl)
        try simp only [Act.put, List.setIfInBounds_toArray, List.set_cons_zero, List.set_cons_succ]
        refine wpAnyH_take (i := 14) (oi := { dst := some 37, op := Op.extract (Operand.tmp 23) 0, type := 33, pos := "law.go:61", after := #[{ on := 13, ground := Ground.data }], guard := none }) (v := ?_) rfl (by kernel_rfl) (by kernel_rfl) (by kernel_rfl) (fun _ _ _ h => h) (Or.inl ⟨by rfl, ?_⟩) (by assumption) ?_
        rotate_left
        · (intro w hSw; (try dsimp only at hSw); go_simp; try with_reducible rfl)
        try simp only [Act.put, List.setIfInBounds_toArray, List.set_cons_zero, List.set_cons_succ]
        refine wpAnyH_take (i := 15) (oi := { dst := some 38, op := Op.extract (Operand.tmp 23) 1, type := 36, pos := "law.go:61", after := #[{ on := 13, ground := Ground.data }, { on := 18, ground := Ground.gcOnly Departure.lateStores }], guard := none }) (v := ?_) rfl (by kernel_rfl) (by kernel_rfl) (by kernel_rfl) (fun _ _ _ h => h) (Or.inl ⟨by rfl, ?_⟩) (by assumption) ?_
        rotate_left
        · (intro w hSw; (try dsimp only at hSw); go_simp; try with_reducible rfl)
        try simp only [Act.put, List.setIfInBounds_toArray, List.set_cons_zero, List.set_cons_succ]
        refine wpAnyH_ready (rs := [18]) (by kernel_rfl) (by simp) ?_
        refine AllReadyH.cons (o := { dst := none, op := Op.store 33 (Operand.tmp 9) (Operand.tmp 37), type := 0, pos := "law.go:61", after := #[{ on := 16, ground := Ground.data }, { on := 14, ground := Ground.data }, { on := 12, ground := Ground.chain }, { on := 0, ground := Ground.phase }, { on := 1, ground := Ground.phase }, { on := 2, ground := Ground.phase }, { on := 3, ground := Ground.phase }, { on := 4, ground := Ground.phase }, { on := 5, ground := Ground.phase }, { on := 6, ground := Ground.phase }, { on := 7, ground := Ground.phase }, { on := 8, ground := Ground.phase }, { on := 9, ground := Ground.phase }, { on := 10, ground := Ground.phase }, { on := 11, ground := Ground.phase }, { on := 12, ground := Ground.phase }, { on := 13, ground := Ground.phase }, { on := 14, ground := Ground.phase }, { on := 15, ground := Ground.textOnly Departure.lateStores }, { on := 16, ground := Ground.phase }, { on := 17, ground := Ground.phase }], guard := none }) rfl (fun K hK => ?_) AllReadyH.nil
        obtain ⟨⟨x0, x1, x2, x3, x4, x5, x6, x7, x8, x9, x10, x11, x12, x13, x14⟩, gx, hbx⟩ := rc15 R1.out
        have gx0 := gx 0
        have gx1 := gx 1
        have gx2 := gx 2
        have gx3 := gx 3
        have gx4 := gx 4
        have gx5 := gx 5
        have gx6 := gx 6
        have gx7 := gx 7
        have gx8 := gx 8
        have gx9 := gx 9
        have gx10 := gx 10
        have gx11 := gx 11
        have gx12 := gx 12
        have gx13 := gx 13
        have gx14 := gx 14
        clear gx
        go_simp
        have SB : Below N w4 (((((((((((((((Wc.setCell ⟨g1, 0, none⟩ (.int .i64 MA.1.op)).setCell ⟨g1, 1, none⟩ (.string MA.1.s)).setCell ⟨g1, 2, none⟩ (.string MA.1.s2)).setCell ⟨g1, 3, none⟩ (.int .i64 MA.1.v.k)).setCell ⟨g1, 4, none⟩ (.int .i64 MA.1.v.i)).setCell ⟨g1, 5, none⟩ (.string MA.1.v.s)).setCell ⟨g1, 6, none⟩ (.slice oV MA.1.v.l.length cV)).setCell ⟨g1, 7, none⟩ (.slice oK MA.1.v.ks.length cK)).setCell ⟨g1, 8, none⟩ (.int .i64 MA.1.v.tk)).setCell ⟨g1, 9, none⟩ (.int .i64 MA.1.v.to)).setCell ⟨g1, 10, none⟩ (.bool MA.1.v.x)).setCell ⟨g1, 11, none⟩ (.slice o MA.1.l.length cap)).setCell ⟨g1, 12, none⟩ (.int .i64 MA.1.a)).setCell ⟨g1, 13, none⟩ (.int .i64 MA.1.ln)).setCell ⟨g1, 14, none⟩ (.int .i64 MA.1.c)) := set15_b hH.2.1.out HG1.out (.int .i64 MA.1.op) (.string MA.1.s) (.string MA.1.s2) (.int .i64 MA.1.v.k) (.int .i64 MA.1.v.i) (.string MA.1.v.s) (.slice oV MA.1.v.l.length cV) (.slice oK MA.1.v.ks.length cK) (.int .i64 MA.1.v.tk) (.int .i64 MA.1.v.to) (.bool MA.1.v.x) (.slice o MA.1.l.length cap) (.int .i64 MA.1.a) (.int .i64 MA.1.ln) (.int .i64 MA.1.c)
        have SS := (set15_b (b := g1) (Below.refl 0 Wc) (Nat.zero_le _) (.int .i64 MA.1.op) (.string MA.1.s) (.string MA.1.s2) (.int .i64 MA.1.v.k) (.int .i64 MA.1.v.i) (.string MA.1.v.s) (.slice oV MA.1.v.l.length cV) (.slice oK MA.1.v.ks.length cK) (.int .i64 MA.1.v.tk) (.int .i64 MA.1.v.to) (.bool MA.1.v.x) (.slice o MA.1.l.length cap) (.int .i64 MA.1.a) (.int .i64 MA.1.ln) (.int .i64 MA.1.c)).size
        refine hK.out _ _ ?_ (fun hH' => ?_)
        · exact ⟨fun b o hb => SB.cell (p := ⟨b, o, none⟩) hb, SB, Nat.le_trans hH.2.2.out SS⟩
        replace R2 := Lib.hid ((set15_o (show g2 ≠ g1 from HNE.out) (.int .i64 MA.1.op) (.string MA.1.s) (.string MA.1.s2) (.int .i64 MA.1.v.k) (.int .i64 MA.1.v.i) (.string MA.1.v.s) (.slice oV MA.1.v.l.length cV) (.slice oK MA.1.v.ks.length cK) (.int .i64 MA.1.v.tk) (.int .i64 MA.1.v.to) (.bool MA.1.v.x) (.slice o MA.1.l.length cap) (.int .i64 MA.1.a) (.int .i64 MA.1.ln) (.int .i64 MA.1.c)).trans R2.out)
        replace HX := Lib.hid (HX.out.keptP (P' := fun k => lo ≤ k ∧ k < hi) fun k hk => ⟨hk, set15_o (show k ≠ g1 by have := D1.out; have := hk.1; have := hk.2; omega) (.int .i64 MA.1.op) (.string MA.1.s) (.string MA.1.s2) (.int .i64 MA.1.v.k) (.int .i64 MA.1.v.i) (.string MA.1.v.s) (.slice oV MA.1.v.l.length cV) (.slice oK MA.1.v.ks.length cK) (.int .i64 MA.1.v.tk) (.int .i64 MA.1.v.to) (.bool MA.1.v.x) (.slice o MA.1.l.length cap) (.int .i64 MA.1.a) (.int .i64 MA.1.ln) (.int .i64 MA.1.c)⟩)
        replace R1 := Lib.hid (set15 R1.out (.int .i64 MA.1.op) (.string MA.1.s) (.string MA.1.s2) (.int .i64 MA.1.v.k) (.int .i64 MA.1.v.i) (.string MA.1.v.s) (.slice oV MA.1.v.l.length cV) (.slice oK MA.1.v.ks.length cK) (.int .i64 MA.1.v.tk) (.int .i64 MA.1.v.to) (.bool MA.1.v.x) (.slice o MA.1.l.length cap) (.int .i64 MA.1.a) (.int .i64 MA.1.ln) (.int .i64 MA.1.c))
        replace HHI := Lib.hid (Nat.le_trans HHI.out SS)
        clear SB SS x0 x1 x2 x3 x4 x5 x6 x7 x8 x9 x10 x11 x12 x13 x14 hbx gx0 gx1 gx2 gx3 gx4 gx5 gx6 gx7 gx8 gx9 gx10 gx11 gx12 gx13 gx14
        clear hK K hH
        have hH := hH'
        clear hH'
        try simp only [Act.put, List.setIfInBounds_toArray, List.set_cons_zero, List.set_cons_succ]
        generalize (((((((((((((((Wc.setCell ⟨g1, 0, none⟩ (.int .i64 MA.1.op)).setCell ⟨g1, 1, none⟩ (.string MA.1.s)).setCell ⟨g1, 2, none⟩ (.string MA.1.s2)).setCell ⟨g1, 3, none⟩ (.int .i64 MA.1.v.k)).setCell ⟨g1, 4, none⟩ (.int .i64 MA.1.v.i)).setCell ⟨g1, 5, none⟩ (.string MA.1.v.s)).setCell ⟨g1, 6, none⟩ (.slice oV MA.1.v.l.length cV)).setCell ⟨g1, 7, none⟩ (.slice oK MA.1.v.ks.length cK)).setCell ⟨g1, 8, none⟩ (.int .i64 MA.1.v.tk)).setCell ⟨g1, 9, none⟩ (.int .i64 MA.1.v.to)).setCell ⟨g1, 10, none⟩ (.bool MA.1.v.x)).setCell ⟨g1, 11, none⟩ (.slice o MA.1.l.length cap)).setCell ⟨g1, 12, none⟩ (.int .i64 MA.1.a)).setCell ⟨g1, 13, none⟩ (.int .i64 MA.1.ln)).setCell ⟨g1, 14, none⟩ (.int .i64 MA.1.c)) = Wd at *
        refine wpAnyH_ready (rs := [19]) (by kernel_rfl) (by simp) ?_
        refine AllReadyH.cons (o := { dst := none, op := Op.store 36 (Operand.tmp 10) (Operand.tmp 38), type := 0, pos := "law.go:61", after := #[{ on := 17, ground := Ground.data }, { on := 15, ground := Ground.data }, { on := 18, ground := Ground.chain }, { on := 0, ground := Ground.phase }, { on := 1, ground := Ground.phase }, { on := 2, ground := Ground.phase }, { on := 3, ground := Ground.phase }, { on := 4, ground := Ground.phase }, { on := 5, ground := Ground.phase }, { on := 6, ground := Ground.phase }, { on := 7, ground := Ground.phase }, { on := 8, ground := Ground.phase }, { on := 9, ground := Ground.phase }, { on := 10, ground := Ground.phase }, { on := 11, ground := Ground.phase }, { on := 12, ground := Ground.phase }, { on := 13, ground := Ground.phase }, { on := 14, ground := Ground.phase }, { on := 15, ground := Ground.phase }, { on := 16, ground := Ground.phase }, { on := 17, ground := Ground.phase }, { on := 18, ground := Ground.phase }], guard := none }) rfl (fun K hK => ?_) AllReadyH.nil
        obtain ⟨⟨y0, y1, y2, y3, y4⟩, ⟨gy0, gy1, gy2, gy3, gy4⟩, hby⟩ := rc5 R2.out
        go_simp
        have SB : Below N w4 (((((Wd.setCell ⟨g2, 0, none⟩ (.int .i64 (MA.2.1 : Int))).setCell ⟨g2, 1, none⟩ (.int .i64 MA.2.2.a)).setCell ⟨g2, 2, none⟩ (.int .i64 MA.2.2.l)).setCell ⟨g2, 3, none⟩ (.int .i64 MA.2.2.c)).setCell ⟨g2, 4, none⟩ (.string ⟨#[]⟩)) := set5_b hH.2.1.out HG2.out (.int .i64 (MA.2.1 : Int)) (.int .i64 MA.2.2.a) (.int .i64 MA.2.2.l) (.int .i64 MA.2.2.c) (.string ⟨#[]⟩)
        have SS := (set5_b (b := g2) (Below.refl 0 Wd) (Nat.zero_le _) (.int .i64 (MA.2.1 : Int)) (.int .i64 MA.2.2.a) (.int .i64 MA.2.2.l) (.int .i64 MA.2.2.c) (.string ⟨#[]⟩)).size
        refine hK.out _ _ ?_ (fun hH' => ?_)
        · exact ⟨fun b o hb => SB.cell (p := ⟨b, o, none⟩) hb, SB, Nat.le_trans hH.2.2.out SS⟩
        replace R1 := Lib.hid ((set5_o (show g1 ≠ g2 from fun e => HNE.out e.symm) (.int .i64 (MA.2.1 : Int)) (.int .i64 MA.2.2.a) (.int .i64 MA.2.2.l) (.int .i64 MA.2.2.c) (.string ⟨#[]⟩)).trans R1.out)
        replace HX := Lib.hid (HX.out.keptP (P' := fun k => lo ≤ k ∧ k < hi) fun k hk => ⟨hk, set5_o (show k ≠ g2 by have := D2.out; have := hk.1; have := hk.2; omega) (.int .i64 (MA.2.1 : Int)) (.int .i64 MA.2.2.a) (.int .i64 MA.2.2.l) (.int .i64 MA.2.2.c) (.string ⟨#[]⟩)⟩)
        replace R2 := Lib.hid (set5 R2.out (.int .i64 (MA.2.1 : Int)) (.int .i64 MA.2.2.a) (.int .i64 MA.2.2.l) (.int .i64 MA.2.2.c) (.string ⟨#[]⟩))
        replace HHI := Lib.hid (Nat.le_trans HHI.out SS)
        clear SB SS y0 y1 y2 y3 y4 gy0 gy1 gy2 gy3 gy4 hby
        clear hK K hH
        have hH := hH'
        clear hH'
        try simp only [Act.put, List.setIfInBounds_toArray, List.set_cons_zero, List.set_cons_succ]
        generalize (((((Wd.setCell ⟨g2, 0, none⟩ (.int .i64 (MA.2.1 : Int))).setCell ⟨g2, 1, none⟩ (.int .i64 MA.2.2.a)).setCell ⟨g2, 2, none⟩ (.int .i64 MA.2.2.l)).setCell ⟨g2, 3, none⟩ (.int .i64 MA.2.2.c)).setCell ⟨g2, 4, none⟩ (.string ⟨#[]⟩)) = We at *
        refine wpAnyH_done (by kernel_rfl) ?_ _
        refine NoPanic.normal ?_
        go_wp2_with fail
        go_meet
        exact ⟨g1, g2, rfl, rfl, ⟨oV, cV, oK, cK, o, cap, hi, R1.out, R2.out, HX.out.mono fun k hk => hk.2, HHI.out, hH.2.1.out⟩⟩
  case rest =>
  obtain ⟨ga, da, rfl, rfl, hpk⟩ := hcut
  generalize wc = w5 at *
  have HBx : Hid (Below w4.heap.size w4 w5) := by have := hpk; obtain ⟨_, _, _, _, _, _, _, _, _, _, _, hb⟩ := this; rw [← HN.out]; exact hb
  replace ci := (HBx.out.cell (p := ⟨b1, i, none⟩) (by rw [← HN.out]; exact lb1)).trans ci
  replace ck := (HBx.out.cell (p := ⟨b1, k, none⟩) (by rw [← HN.out]; exact lb1)).trans ck
  replace HLi := Lib.hid ((HBx.out.cell (p := ⟨b1 + 1, i, none⟩) LB.out).trans HLi.out)
  replace HLk := Lib.hid ((HBx.out.cell (p := ⟨b1 + 1, k, none⟩) LB.out).trans HLk.out)
  replace LB : Hid (b1 + 1 < w5.heap.size) := Nat.lt_of_lt_of_le LB.out HBx.out.size
  replace HT : Hid (Tab w5 ∧ Lev w5 ∧ 2 ≤ w5.heap.size) := ⟨HT.out.1.at (HBx.out.block 0 (by have := HT.out.2.2; omega)), HT.out.2.1.at (HBx.out.block 1 (by have := HT.out.2.2; omega)), Nat.le_trans HT.out.2.2 HBx.out.size⟩
  replace HB0 := Lib.hid (HB0.out.trans (HBx.out.mono HB1.out))
  replace HB1 : Hid (b1 ≤ w5.heap.size) := Nat.le_trans HB1.out HBx.out.size
  have Ka : Hid (∃ N0 W0, PK N0 W0 w5 ga da MA) := ⟨_, _, hpk⟩
  clear hpk HBx S0 lb1 CC HN
  clear N
  refine (show ∀ (a : Act) (w' : World), Code.wp Tryd.prog (lrest 5) _ a w' → _ from by assumption) _ _ (loose_r5 a b i k hi1 hk1 ci ck HLi HLk LB HT HB0 HB1 HEB h2 MA MB PB MC PC HLO ga da Ka _ _ _ _ _ _ _ _ _ _ _ _ _ _ _ _ _ _ _ _ _ _ _ _ _ _ _ _ _ _ _ _ _ _ _ _ _ _ _ _ _ _ _ _ _ _ _ _ _ _ _ _ _ _ _ _ _ _ _ _ _ _ _ _ _ _ _ _ _ _ _ _ _ _ _ _ _ _ _ _ _ _ _ _ _ _ _ _ _ _ _ _ _ _ _ _ _ _ _ _ _ _ _ _ _ _ _ _ _ _ _ _ _)
end Go.Proofs.YtncjncacfagldaaDoor

/- ExprLoose: the third text. -/
import Derived.Test.YtncjncacfagldaaDoorXIa
import Derived.Deep.DeepCutAuto
namespace Go.Proofs.YtncjncacfagldaaDoor
open Go.RowKit Go.Lib

set_option maxRecDepth 100000 in
set_option maxHeartbeats 8000000 in
theorem loose_r6 {w w6 : World} {b1 : Nat} (a b i k : Nat) (hi1 : (i : Int) < 13) (hk1 : (k : Int) < 13) (ci : w6.cell? ⟨b1, i, none⟩ = some (.string (tx (sg' i)))) (ck : w6.cell? ⟨b1, k, none⟩ = some (.string (tx (sg' k)))) (HLi : Hid (w6.cell? ⟨b1 + 1, i, none⟩ = some (.int .i64 (lv' i : Int)))) (HLk : Hid (w6.cell? ⟨b1 + 1, k, none⟩ = some (.int .i64 (lv' k : Int)))) (LB : Hid (b1 + 1 < w6.heap.size)) (HT : Hid (Tab w6 ∧ Lev w6 ∧ 2 ≤ w6.heap.size)) (HB0 : Hid (Below b1 w w6)) (HB1 : Hid (b1 ≤ w6.heap.size)) (HEB : Hid (w.heap.size = b1)) (_ : 2 ≤ b1) (MA : Ex × Nat × Ps) (MB : Ex × Nat × Ps) (MC : Ex × Nat × Ps) (PC : Hid (∀ W, Tab W → Lev W → 2 ≤ W.heap.size → Calls Tryd.prog 9 #[.string (tx (looseC i k))] W (PPost W MC))) (HLO : Hid (MB.2.1 = 0 ∧ MC.2.1 = 0 ∧ (lv' i = 3 → lv' k = 3 → MA.2.1 = 4) ∧ (¬ (lv' i = 3 ∧ lv' k = 3) → lv' k ≤ lv' i → MA.2.1 = 0 ∧ sameX false MA.1 MB.1 = true) ∧ (¬ (lv' i = 3 ∧ lv' k = 3) → ¬ lv' k ≤ lv' i → MA.2.1 = 0 ∧ sameX false MA.1 MC.1 = true))) (ga da : Nat) (Ka : Hid (∃ N0 W0, PK N0 W0 w6 ga da MA)) (gb db : Nat) (Kb : Hid (∃ N0 W0, PK N0 W0 w6 gb db MB)) (u15 u16 u17 u18 u19 u20 u21 u22 u23 u24 u25 u26 u27 u28 u29 u30 u31 u32 u33 u34 u35 u36 u37 u38 u39 u40 u41 u42 u43 u44 u45 u46 u47 u48 u49 u50 u51 u52 u53 u54 u55 u56 u57 u58 u59 u60 u61 u62 u63 u64 u65 u66 u67 u68 u69 u70 u71 u72 u73 u74 u75 u76 u77 u78 u80 u81 u82 u83 u84 u85 u86 u87 u88 u89 u90 u91 u92 u93 u94 u95 u96 u97 u99 u100 u101 u102 u103 u104 u105 u106 u107 u108 u109 u110 u111 u112 u113 u114 u115 u116 u117 u118 u119 u120 u121 u122 u123 u124 u125 u126 u127 u128 u129 : Value) : Code.wp Tryd.prog (lrest 6) (bodyPost Tryd.prog Tryd.f4 fun e w' => e = .returned (.bool true) ∧ Below w.heap.size w w') ⟨#[.int .u8 a, .int .u8 b, undef, undef, .bool false, .slice (some ⟨b1, 0, none⟩) 13 13, .slice (some ⟨b1 + 1, 0, none⟩) 13 13, .int .i64 i, .int .i64 k, .pointer (some ⟨ga, 0, none⟩), .pointer (some ⟨da, 0, none⟩), .pointer (some ⟨gb, 0, none⟩), .pointer (some ⟨db, 0, none⟩), undef, undef, u15, u16, u17, u18, u19, u20, u21, u22, u23, u24, u25, u26, u27, u28, u29, u30, u31, u32, u33, u34, u35, u36, u37, u38, u39, u40, u41, u42, u43, u44, u45, u46, u47, u48, u49, u50, u51, u52, u53, u54, u55, u56, u57, u58, u59, u60, u61, u62, u63, u64, u65, u66, u67, u68, u69, u70, u71, u72, u73, u74, u75, u76, u77, u78, undef, u80, u81, u82, u83, u84, u85, u86, u87, u88, u89, u90, u91, u92, u93, u94, u95, u96, u97, undef, u99, u100, u101, u102, u103, u104, u105, u106, u107, u108, u109, u110, u111, u112, u113, u114, u115, u116, u117, u118, u119, u120, u121, u122, u123, u124, u125, u126, u127, u128, u129], []⟩ w6 := by
  show (let Q' := bodyPost Tryd.prog Tryd.f4 (fun e w' => e = .returned (.bool true) ∧ Below w.heap.size w w'); Code.wp Tryd.prog (lrest 6) Q' _ _)
  intro Q'
  dsimp only [lrest, sndC, lbody, Tryd.f4, Option.getD]
  go_upto_region 6 with fail
  obtain ⟨N, hN⟩ : ∃ N, N = w6.heap.size := ⟨_, rfl⟩
  have S0 := held_at hN
  have lb1 : b1 < N := by rw [hN]; have := LB.out; omega
  have HN := Lib.hid hN
  have CC : Hid (∀ W, Below N w6 W → Calls Tryd.prog 9 #[.string (tx (looseC i k))] W (PPost W MC)) := fun W hW => PC.out W (HT.out.1.at (hW.block 0 (by rw [HN.out]; have := HT.out.2.2; omega))) (HT.out.2.1.at (hW.block 1 (by rw [HN.out]; have := HT.out.2.2; omega))) (Nat.le_trans HT.out.2.2 hW.size)
  clear hN
  go_cut [13, 14] (fun p1 p2 wx => ∃ g1 g2 : Nat, p1 = .pointer (some ⟨g1, 0, none⟩) ∧ p2 = .pointer (some ⟨g2, 0, none⟩) ∧ PK N w6 wx g1 g2 MC)
  case first =>
    refine wp_region_noPanic ?_
    refine wp_region_held_drew (S := (fun W => (∀ b o, b < N → W.cell? ⟨b, o, none⟩ = w6.cell? ⟨b, o, none⟩) ∧ Hid (Below N w6 W) ∧ Hid (N ≤ W.heap.size))) (by kernel_rfl) ?_ (fun hH => ?_)
    · exact S0
    generalize w6.drew = Ws at *
    refine wpAnyH_take (i := 0) (oi := { dst := some 56, op := Op.move (Operand.tmp 5), type := 24, pos := "law.go:63", after := #[], guard := none }) (v := ?_) rfl (by kernel_rfl) (by kernel_rfl) (by kernel_rfl) (fun _ _ _ h => h) (Or.inl ⟨by rfl, ?_⟩) (by assumption) ?_
    rotate_left
    · (intro w hSw; (try dsimp only at hSw); go_simp; try with_reducible rfl)
    try simp only [Act.put, List.setIfInBounds_toArray, List.set_cons_zero, List.set_cons_succ]
    refine wpAnyH_take (i := 1) (oi := { dst := some 57, op := Op.move (Operand.tmp 7), type := 3, pos := "law.go:63", after := #[], guard := none }) (v := ?_) rfl (by kernel_rfl) (by kernel_rfl) (by kernel_rfl) (fun _ _ _ h => h) (Or.inl ⟨by rfl, ?_⟩) (by assumption) ?_
    rotate_left
    · (intro w hSw; (try dsimp only at hSw); go_simp; try with_reducible rfl)
    try simp only [Act.put, List.setIfInBounds_toArray, List.set_cons_zero, List.set_cons_succ]
    refine wpAnyH_take (i := 2) (oi := { dst := some 58, op := Op.indexAddr 24 (Operand.tmp 56) (Operand.tmp 57), type := 0, pos := "law.go:63", after := #[{ on := 0, ground := Ground.data }, { on := 1, ground := Ground.data }], guard := none }) (v := ?_) rfl (by kernel_rfl) (by kernel_rfl) (by kernel_rfl) (fun _ _ _ h => h) (Or.inl ⟨by rfl, ?_⟩) (by assumption) ?_
    rotate_left
    · (intro w hSw; (try dsimp only at hSw); go_simp; try with_reducible rfl)
    try simp only [Act.put, List.setIfInBounds_toArray, List.set_cons_zero, List.set_cons_succ]
    refine wpAnyH_take (i := 3) (oi := { dst := some 59, op := Op.load 9 (Operand.tmp 58), type := 9, pos := "law.go:63", after := #[{ on := 2, ground := Ground.data }], guard := none }) (v := ?_) rfl (by kernel_rfl) (by kernel_rfl) (by kernel_rfl) (fun _ _ _ h => h) (Or.inl ⟨by rfl, ?_⟩) (by assumption) ?_
    rotate_left
    · (intro w hSw; (try dsimp only at hSw); go_simp; try with_reducible rfl)
    try simp only [Act.put, List.setIfInBounds_toArray, List.set_cons_zero, List.set_cons_succ]
    refine wpAnyH_take (i := 4) (oi := { dst := some 60, op := Op.binOp BinOp.add 9 (Operand.const (Value.string { data := #[120, 32] })) (Operand.tmp 59) 9, type := 9, pos := "law.go:63", after := #[{ on := 3, ground := Ground.data }], guard := none }) (v := (.string (tx ([120, 32] ++ sg' i)))) rfl (by kernel_rfl) (by kernel_rfl) (by kernel_rfl) (fun _ _ _ h => h) (Or.inl ⟨by rfl, ?_⟩) (by assumption) ?_
    · (intro W hSw; exact exec_cat (s := tx [120, 32]) (t := tx (sg' i)) rfl rfl rfl (by rw [tx_sz, tx_sz]; simp only [List.length_cons, List.length_nil]; have := sg_len i; have := sg_len k; omega) (tx_app _ _))
    try simp only [Act.put, List.setIfInBounds_toArray, List.set_cons_zero, List.set_cons_succ]
    refine wpAnyH_take (i := 5) (oi := { dst := some 61, op := Op.binOp BinOp.add 9 (Operand.tmp 60) (Operand.const (Value.string { data := #[32, 40, 121, 32] })) 9, type := 9, pos := "law.go:63", after := #[{ on := 4, ground := Ground.data }], guard := none }) (v := (.string (tx ([120, 32] ++ sg' i ++ [32, 40, 121, 32])))) rfl (by kernel_rfl) (by kernel_rfl) (by kernel_rfl) (fun _ _ _ h => h) (Or.inl ⟨by rfl, ?_⟩) (by assumption) ?_
    · (intro W hSw; exact exec_cat (s := tx ([120, 32] ++ sg' i)) (t := tx [32, 40, 121, 32]) rfl rfl rfl (by rw [tx_sz, tx_sz]; simp only [List.length_append, List.length_cons, List.length_nil]; have := sg_len i; have := sg_len k; omega) (tx_app _ _))
    try simp only [Act.put, List.setIfInBounds_toArray, List.set_cons_zero, List.set_cons_succ]
    refine wpAnyH_take (i := 6) (oi := { dst := some 62, op := Op.move (Operand.tmp 5), type := 24, pos := "law.go:63", after := #[], guard := none }) (v := ?_) rfl (by kernel_rfl) (by kernel_rfl) (by kernel_rfl) (fun _ _ _ h => h) (Or.inl ⟨by rfl, ?_⟩) (by assumption) ?_
    rotate_left
    · (intro w hSw; (try dsimp only at hSw); go_simp; try with_reducible rfl)
    try simp only [Act.put, List.setIfInBounds_toArray, List.set_cons_zero, List.set_cons_succ]
    refine wpAnyH_take (i := 7) (oi := { dst := some 63, op := Op.move (Operand.tmp 8), type := 3, pos := "law.go:63", after := #[], guard := none }) (v := ?_) rfl (by kernel_rfl) (by kernel_rfl) (by kernel_rfl) (fun _ _ _ h => h) (Or.inl ⟨by rfl, ?_⟩) (by assumption) ?_
    rotate_left
    · (intro w hSw; (try dsimp only at hSw); go_simp; try with_reducible rfl)
    try simp only [Act.put, List.setIfInBounds_toArray, List.set_cons_zero, List.set_cons_succ]
    refine wpAnyH_take (i := 8) (oi := { dst := some 64, op := Op.indexAddr 24 (Operand.tmp 62) (Operand.tmp 63), type := 0, pos := "law.go:63", after := #[{ on := 6, ground := Ground.data }, { on := 7, ground := Ground.data }], guard := none }) (v := ?_) rfl (by kernel_rfl) (by kernel_rfl) (by kernel_rfl) (fun _ _ _ h => h) (Or.inl ⟨by rfl, ?_⟩) (by assumption) ?_
    rotate_left
    · (intro w hSw; (try dsimp only at hSw); go_simp; try with_reducible rfl)
    try simp only [Act.put, List.setIfInBounds_toArray, List.set_cons_zero, List.set_cons_succ]
    refine wpAnyH_take (i := 9) (oi := { dst := some 65, op := Op.load 9 (Operand.tmp 64), type := 9, pos := "law.go:63", after := #[{ on := 8, ground := Ground.data }], guard := none }) (v := ?_) rfl (by kernel_rfl) (by kernel_rfl) (by kernel_rfl) (fun _ _ _ h => h) (Or.inl ⟨by rfl, ?_⟩) (by assumption) ?_
    rotate_left
    · (intro w hSw; (try dsimp only at hSw); go_simp; try with_reducible rfl)
    try simp only [Act.put, List.setIfInBounds_toArray, List.set_cons_zero, List.set_cons_succ]
    refine wpAnyH_take (i := 10) (oi := { dst := some 66, op := Op.binOp BinOp.add 9 (Operand.tmp 61) (Operand.tmp 65) 9, type := 9, pos := "law.go:63", after := #[{ on := 5, ground := Ground.data }, { on := 9, ground := Ground.data }], guard := none }) (v := (.string (tx ([120, 32] ++ sg' i ++ [32, 40, 121, 32] ++ sg' k)))) rfl (by kernel_rfl) (by kernel_rfl) (by kernel_rfl) (fun _ _ _ h => h) (Or.inl ⟨by rfl, ?_⟩) (by assumption) ?_
    · (intro W hSw; exact exec_cat (s := tx ([120, 32] ++ sg' i ++ [32, 40, 121, 32])) (t := tx (sg' k)) rfl rfl rfl (by rw [tx_sz, tx_sz]; simp only [List.length_append, List.length_cons, List.length_nil]; have := sg_len i; have := sg_len k; omega) (tx_app _ _))
    try simp only [Act.put, List.setIfInBounds_toArray, List.set_cons_zero, List.set_cons_succ]
    refine wpAnyH_take (i := 11) (oi := { dst := some 67, op := Op.binOp BinOp.add 9 (Operand.tmp 66) (Operand.const (Value.string { data := #[32, 122, 41] })) 9, type := 9, pos := "law.go:63", after := #[{ on := 10, ground := Ground.data }], guard := none }) (v := (.string (tx (looseC i k)))) rfl (by kernel_rfl) (by kernel_rfl) (by kernel_rfl) (fun _ _ _ h => h) (Or.inl ⟨by rfl, ?_⟩) (by assumption) ?_
    · (intro W hSw; exact exec_cat (s := tx ([120, 32] ++ sg' i ++ [32, 40, 121, 32] ++ sg' k)) (t := tx [32, 122, 41]) rfl rfl rfl (by rw [tx_sz, tx_sz]; simp only [List.length_append, List.length_cons, List.length_nil]; have := sg_len i; have := sg_len k; omega) (tx_app _ _))
    try simp only [Act.put, List.setIfInBounds_toArray, List.set_cons_zero, List.set_cons_succ]
    refine wpAnyH_ready (rs := [12, 16, 17]) (by kernel_rfl) (by simp) ?_
    refine (AllReadyH.cons (o := { dst := some 68, op := Op.call { callee := Callee.value (Operand.func 9), args := #[Operand.tmp 67], argTypes := #[9] }, type := 37, pos := "law.go:63", after := #[{ on := 11, ground := Ground.data }], guard := none }) rfl (fun K hK => ?_) (AllReadyH.cons (o := { dst := some 13, op := Op.alloc 33, type := 0, pos := "law.go:63", after := #[], guard := none }) rfl (fun K hK => ?_) (AllReadyH.cons (o := { dst := some 14, op := Op.alloc 36, type := 0, pos := "law.go:63", after := #[], guard := none }) rfl (fun K hK => ?_) AllReadyH.nil)))
    · go_simp
      refine (CC.out _ hH.2.1.out).mono ?_
      rintro e0 Wc ⟨oV, cV, oK, cK, o, cap, rfl, hx, hb⟩
      refine hK.out _ _ ?_ (fun hH' => ?_)
      · exact held_next hb hH
      have HX : Hid (XP (fun k => Ws.heap.size ≤ k ∧ k < Wc.heap.size) Wc MC.1 (.agg (xc MC.1 oV cV oK cK o cap))) := hx
      have HHI : Hid (Wc.heap.size ≤ Wc.heap.size) := Nat.le_refl _
      clear hx hb
      clear hK K hH
      have hH := hH'
      clear hH'
      try simp only [Act.put, List.setIfInBounds_toArray, List.set_cons_zero, List.set_cons_succ]
      obtain ⟨lo, hlo⟩ : ∃ b, Ws.heap.size = b := ⟨_, rfl⟩
      rw [hlo] at HX
      obtain ⟨hi, hhi⟩ : ∃ b, Wc.heap.size = b := ⟨_, rfl⟩
      replace HHI : Hid (hi ≤ Wc.heap.size) := Nat.le_of_eq hhi.symm
      rw [hhi] at HX
      clear hlo hhi
      refine wpAnyH_take (i := 13) (oi := { dst := some 55, op := Op.move (Operand.tmp 68), type := 37, pos := "law.go:63", after := #[{ on := 12, ground := Ground.data }], guard := none }) (v := ?_) rfl (by kernel_rfl) (by kernel_rfl) (by kernel_rfl) (fun _ _ _ h => h) (Or.inl ⟨by rfl, ?_⟩) (by assumption) ?_
      rotate_left
      · (intro w hSw; (try dsimp only at hSw); go_simp; try with_reducible rfl)
      try simp only [Act.put, List.setIfInBounds_toArray, List.set_cons_zero, List.set_cons_succ]
      refine wpAnyH_take (i := 14) (oi := { dst := some 69, op := Op.extract (Operand.tmp 55) 0, type := 33, pos := "law.go:63", after := #[{ on := 13, ground := Ground.data }], guard := none }) (v := ?_) rfl (by kernel_rfl) (by kernel_rfl) (by kernel_rfl) (fun _ _ _ h => h) (Or.inl ⟨by rfl, ?_⟩) (by assumption) ?_
      rotate_left
      · (intro w hSw; (try dsimp only at hSw); go_simp; try with_reducible rfl)
      try simp only [Act.put, List.setIfInBounds_toArray, List.set_cons_zero, List.set_cons_succ]
      refine wpAnyH_take (i := 15) (oi := { dst := some 70, op := Op.extract (Operand.tmp 55) 1, type := 36, pos := "law.go:63", after := #[{ on := 13, ground := Ground.data }, { on := 18, ground := Ground.gcOnly Departure.lateStores }], guard := none }) (v := ?_) rfl (by kernel_rfl) (by kernel_rfl) (by kernel_rfl) (fun _ _ _ h => h) (Or.inl ⟨by rfl, ?_⟩) (by assumption) ?_
      rotate_left
      · (intro w hSw; (try dsimp only at hSw); go_simp; try with_reducible rfl)
      try simp only [Act.put, List.setIfInBounds_toArray, List.set_cons_zero, List.set_cons_succ]
      refine wpAnyH_ready (rs := [16, 17]) (by kernel_rfl) (by simp) ?_
      refine (AllReadyH.cons (o := { dst := some 13, op := Op.alloc 33, type := 0, pos := "law.go:63", after := #[], guard := none }) rfl (fun K hK => ?_) (AllReadyH.cons (o := { dst := some 14, op := Op.alloc 36, type := 0, pos := "law.go:63", after := #[], guard := none }) rfl (fun K hK => ?_) AllReadyH.nil))
      · go_simp
        have HG1 := hH.2.2
        have BB : Below Wc.heap.size Wc (Wc.alloc (.cells #[.int .i64 0, .string ⟨#[]⟩, .string ⟨#[]⟩, .int .i64 0, .int .i64 0, .string ⟨#[]⟩, .slice none 0 0, .slice none 0 0, .int .i64 0, .int .i64 0, .bool false, .slice none 0 0, .int .i64 0, .int .i64 0, .int .i64 0] 33)) := (Below.refl _ _).alloc (Nat.le_refl _) _
        refine hK.out _ _ ?_ (fun hH' => ?_)
        · exact held_next BB hH
        have R1 := Lib.hid (heap_alloc_new Wc (.cells #[.int .i64 0, .string ⟨#[]⟩, .string ⟨#[]⟩, .int .i64 0, .int .i64 0, .string ⟨#[]⟩, .slice none 0 0, .slice none 0 0, .int .i64 0, .int .i64 0, .bool false, .slice none 0 0, .int .i64 0, .int .i64 0, .int .i64 0] 33))
        have D1 : Hid (Wc.heap.size < lo ∨ hi ≤ Wc.heap.size) := .inr HHI.out
        replace HX := Lib.hid (HX.out.keptP (P' := fun k => lo ≤ k ∧ k < hi) fun k hk => ⟨hk, BB.block k (Nat.lt_of_lt_of_le hk.2 HHI.out)⟩)
        replace HHI : Hid (hi ≤ (Wc.alloc (.cells #[.int .i64 0, .string ⟨#[]⟩, .string ⟨#[]⟩, .int .i64 0, .int .i64 0, .string ⟨#[]⟩, .slice none 0 0, .slice none 0 0, .int .i64 0, .int .i64 0, .bool false, .slice none 0 0, .int .i64 0, .int .i64 0, .int .i64 0] 33)).heap.size) := Nat.le_trans HHI.out BB.size
        clear BB
        clear hK K hH
        have hH := hH'
        clear hH'
        try simp only [Act.put, List.setIfInBounds_toArray, List.set_cons_zero, List.set_cons_succ]
        generalize Wc.alloc (.cells #[.int .i64 0, .string ⟨#[]⟩, .string ⟨#[]⟩, .int .i64 0, .int .i64 0, .string ⟨#[]⟩, .slice none 0 0, .slice none 0 0, .int .i64 0, .int .i64 0, .bool false, .slice none 0 0, .int .i64 0, .int .i64 0, .int .i64 0] 33) = Wa at *
        generalize Wc.heap.size = g1 at *
        refine wpAnyH_ready (rs := [17]) (by kernel_rfl) (by simp) ?_
        refine AllReadyH.cons (o := { dst := some 14, op := Op.alloc 36, type := 0, pos := "law.go:63", after := #[], guard := none }) rfl (fun K hK => ?_) AllReadyH.nil
        go_simp
        have HG2 := hH.2.2
        have BB : Below Wa.heap.size Wa (Wa.alloc (.cells #[.int .i64 0, .int .i64 0, .int .i64 0, .int .i64 0, .string ⟨#[]⟩] 36)) := (Below.refl _ _).alloc (Nat.le_refl _) _
        refine hK.out _ _ ?_ (fun hH' => ?_)
        · exact held_next BB hH
        have HNE : Hid (Wa.heap.size ≠ g1) := Nat.ne_of_gt (Array.getElem?_eq_some_iff.1 R1.out).1
        have R2 := Lib.hid (heap_alloc_new Wa (.cells #[.int .i64 0, .int .i64 0, .int .i64 0, .int .i64 0, .string ⟨#[]⟩] 36))
        replace R1 := Lib.hid ((heap_alloc_old Wa (.cells #[.int .i64 0, .int .i64 0, .int .i64 0, .int .i64 0, .string ⟨#[]⟩] 36) (Array.getElem?_eq_some_iff.1 R1.out).1).trans R1.out)
        have D2 : Hid (Wa.heap.size < lo ∨ hi ≤ Wa.heap.size) := .inr HHI.out
        replace HX := Lib.hid (HX.out.keptP (P' := fun k => lo ≤ k ∧ k < hi) fun k hk => ⟨hk, BB.block k (Nat.lt_of_lt_of_le hk.2 HHI.out)⟩)
        replace HHI : Hid (hi ≤ (Wa.alloc (.cells #[.int .i64 0, .int .i64 0, .int .i64 0, .int .i64 0, .string ⟨#[]⟩] 36)).heap.size) := Nat.le_trans HHI.out BB.size
        clear BB
        clear hK K hH
        have hH := hH'
        clear hH'
        try simp only [Act.put, List.setIfInBounds_toArray, List.set_cons_zero, List.set_cons_succ]
        generalize Wa.alloc (.cells #[.int .i64 0, .int .i64 0, .int .i64 0, .int .i64 0, .string ⟨#[]⟩] 36) = Wb at *
        generalize Wa.heap.size = g2 at *
        refine wpAnyH_ready (rs := [18]) (by kernel_rfl) (by simp) ?_
        refine AllReadyH.cons (o := { dst := none, op := Op.store 33 (Operand.tmp 13) (Operand.tmp 69), type := 0, pos := "law.go:63", after := #[{ on := 16, ground := Ground.data }, { on := 14, ground := Ground.data }, { on := 12, ground := Ground.chain }, { on := 0, ground := Ground.phase }, { on := 1, ground := Ground.phase }, { on := 2, ground := Ground.phase }, { on := 3, ground := Ground.phase }, { on := 4, ground := Ground.phase }, { on := 5, ground := Ground.phase }, { on := 6, ground := Ground.phase }, { on := 7, ground := Ground.phase }, { on := 8, ground := Ground.phase }, { on := 9, ground := Ground.phase }, { on := 10, ground := Ground.phase }, { on := 11, ground := Ground.phase }, { on := 12, ground := Ground.phase }, { on := 13, ground := Ground.phase }, { on := 14, ground := Ground.phase }, { on := 15, ground := Ground.textOnly Departure.lateStores }, { on := 16, ground := Ground.phase }, { on := 17, ground := Ground.phase }], guard := none }) rfl (fun K hK => ?_) AllReadyH.nil
        obtain ⟨⟨x0, x1, x2, x3, x4, x5, x6, x7, x8, x9, x10, x11, x12, x13, x14⟩, gx, hbx⟩ := rc15 R1.out
        have gx0 := gx 0
        have gx1 := gx 1
        have gx2 := gx 2
        have gx3 := gx 3
        have gx4 := gx 4
        have gx5 := gx 5
        have gx6 := gx 6
        have gx7 := gx 7
        have gx8 := gx 8
        have gx9 := gx 9
        have gx10 := gx 10
        have gx11 := gx 11
        have gx12 := gx 12
        have gx13 := gx 13
        have gx14 := gx 14
        clear gx
        go_simp
        have SB : Below N w6 (((((((((((((((Wb.setCell ⟨g1, 0, none⟩ (.int .i64 MC.1.op)).setCell ⟨g1, 1, none⟩ (.string MC.1.s)).setCell ⟨g1, 2, none⟩ (.string MC.1.s2)).setCell ⟨g1, 3, none⟩ (.int .i64 MC.1.v.k)).setCell ⟨g1, 4, none⟩ (.int .i64 MC.1.v.i)).setCell ⟨g1, 5, none⟩ (.string MC.1.v.s)).setCell ⟨g1, 6, none⟩ (.slice oV MC.1.v.l.length cV)).setCell ⟨g1, 7, none⟩ (.slice oK MC.1.v.ks.length cK)).setCell ⟨g1, 8, none⟩ (.int .i64 MC.1.v.tk)).setCell ⟨g1, 9, none⟩ (.int .i64 MC.1.v.to)).setCell ⟨g1, 10, none⟩ (.bool MC.1.v.x)).setCell ⟨g1, 11, none⟩ (.slice o MC.1.l.length cap)).setCell ⟨g1, 12, none⟩ (.int .i64 MC.1.a)).setCell ⟨g1, 13, none⟩ (.int .i64 MC.1.ln)).setCell ⟨g1, 14, none⟩ (.int .i64 MC.1.c)) := set15_b hH.2.1.out HG1.out (.int .i64 MC.1.op) (.string MC.1.s) (.string MC.1.s2) (.int .i64 MC.1.v.k) (.int .i64 MC.1.v.i) (.string MC.1.v.s) (.slice oV MC.1.v.l.length cV) (.slice oK MC.1.v.ks.length cK) (.int .i64 MC.1.v.tk) (.int .i64 MC.1.v.to) (.bool MC.1.v.x) (.slice o MC.1.l.length cap) (.int .i64 MC.1.a) (.int .i64 MC.1.ln) (.int .i64 MC.1.c)
        have SS := (set15_b (b := g1) (Below.refl 0 Wb) (Nat.zero_le _) (.int .i64 MC.1.op) (.string MC.1.s) (.string MC.1.s2) (.int .i64 MC.1.v.k) (.int .i64 MC.1.v.i) (.string MC.1.v.s) (.slice oV MC.1.v.l.length cV) (.slice oK MC.1.v.ks.length cK) (.int .i64 MC.1.v.tk) (.int .i64 MC.1.v.to) (.bool MC.1.v.x) (.slice o MC.1.l.length cap) (.int .i64 MC.1.a) (.int .i64 MC.1.ln) (.int .i64 MC.1.c)).size
        refine hK.out _ _ ?_ (fun hH' => ?_)
        · exact ⟨fun b o hb => SB.cell (p := ⟨b, o, none⟩) hb, SB, Nat.le_trans hH.2.2.out SS⟩
        replace R2 := Lib.hid ((set15_o (show g2 ≠ g1 from HNE.out) (.int .i64 MC.1.op) (.string MC.1.s) (.string MC.1.s2) (.int .i64 MC.1.v.k) (.int .i64 MC.1.v.i) (.string MC.1.v.s) (.slice oV MC.1.v.l.length cV) (.slice oK MC.1.v.ks.length cK) (.int .i64 MC.1.v.tk) (.int .i64 MC.1.v.to) (.bool MC.1.v.x) (.slice o MC.1.l.length cap) (.int .i64 MC.1.a) (.int .i64 MC.1.ln) (.int .i64 MC.1.c)).trans R2.out)
        replace HX := Lib.hid (HX.out.keptP (P' := fun k => lo ≤ k ∧ k < hi) fun k hk => ⟨hk, set15_o (show k ≠ g1 by have := D1.out; have := hk.1; have := hk.2; omega) (.int .i64 MC.1.op) (.string MC.1.s) (.string MC.1.s2) (.int .i64 MC.1.v.k) (.int .i64 MC.1.v.i) (.string MC.1.v.s) (.slice oV MC.1.v.l.length cV) (.slice oK MC.1.v.ks.length cK) (.int .i64 MC.1.v.tk) (.int .i64 MC.1.v.to) (.bool MC.1.v.x) (.slice o MC.1.l.length cap) (.int .i64 MC.1.a) (.int .i64 MC.1.ln) (.int .i64 MC.1.c)⟩)
        replace R1 := Lib.hid (set15 R1.out (.int .i64 MC.1.op) (.string MC.1.s) (.string MC.1.s2) (.int .i64 MC.1.v.k) (.int .i64 MC.1.v.i) (.string MC.1.v.s) (.slice oV MC.1.v.l.length cV) (.slice oK MC.1.v.ks.length cK) (.int .i64 MC.1.v.tk) (.int .i64 MC.1.v.to) (.bool MC.1.v.x) (.slice o MC.1.l.length cap) (.int .i64 MC.1.a) (.int .i64 MC.1.ln) (.int .i64 MC.1.c))
        replace HHI := Lib.hid (Nat.le_trans HHI.out SS)
        clear SB SS x0 x1 x2 x3 x4 x5 x6 x7 x8 x9 x10 x11 x12 x13 x14 hbx gx0 gx1 gx2 gx3 gx4 gx5 gx6 gx7 gx8 gx9 gx10 gx11 gx12 gx13 gx14
        clear hK K hH
        have hH := hH'
        clear hH'
        try simp only [Act.put, List.setIfInBounds_toArray, List.set_cons_zero, List.set_cons_succ]
        generalize (((((((((((((((Wb.setCell ⟨g1, 0, none⟩ (.int .i64 MC.1.op)).setCell ⟨g1, 1, none⟩ (.string MC.1.s)).setCell ⟨g1, 2, none⟩ (.string MC.1.s2)).setCell ⟨g1, 3, none⟩ (.int .i64 MC.1.v.k)).setCell ⟨g1, 4, none⟩ (.int .i64 MC.1.v.i)).setCell ⟨g1, 5, none⟩ (.string MC.1.v.s)).setCell ⟨g1, 6, none⟩ (.slice oV MC.1.v.l.length cV)).setCell ⟨g1, 7, none⟩ (.slice oK MC.1.v.ks.length cK)).setCell ⟨g1, 8, none⟩ (.int .i64 MC.1.v.tk)).setCell ⟨g1, 9, none⟩ (.int .i64 MC.1.v.to)).setCell ⟨g1, 10, none⟩ (.bool MC.1.v.x)).setCell ⟨g1, 11, none⟩ (.slice o MC.1.l.length cap)).setCell ⟨g1, 12, none⟩ (.int .i64 MC.1.a)).setCell ⟨g1, 13, none⟩ (.int .i64 MC.1.ln)).setCell ⟨g1, 14, none⟩ (.int .i64 MC.1.c)) = Wd at *
        refine wpAnyH_ready (rs := [19]) (by kernel_rfl) (by simp) ?_
        refine AllReadyH.cons (o := { dst := none, op := Op.store 36 (Operand.tmp 14) (Operand.tmp 70), type := 0, pos := "law.go:63", after := #[{ on := 17, ground := Ground.data }, { on := 15, ground := Ground.data }, { on := 18, ground := Ground.chain }, { on := 0, ground := Ground.phase }, { on := 1, ground := Ground.phase }, { on := 2, ground := Ground.phase }, { on := 3, ground := Ground.phase }, { on := 4, ground := Ground.phase }, { on := 5, ground := Ground.phase }, { on := 6, ground := Ground.phase }, { on := 7, ground := Ground.phase }, { on := 8, ground := Ground.phase }, { on := 9, ground := Ground.phase }, { on := 10, ground := Ground.phase }, { on := 11, ground := Ground.phase }, { on := 12, ground := Ground.phase }, { on := 13, ground := Ground.phase }, { on := 14, ground := Ground.phase }, { on := 15, ground := Ground.phase }, { on := 16, ground := Ground.phase }, { on := 17, ground := Ground.phase }, { on := 18, ground := Ground.phase }], guard := none }) rfl (fun K hK => ?_) AllReadyH.nil
        obtain ⟨⟨y0, y1, y2, y3, y4⟩, ⟨gy0, gy1, gy2, gy3, gy4⟩, hby⟩ := rc5 R2.out
        go_simp
        have SB : Below N w6 (((((Wd.setCell ⟨g2, 0, none⟩ (.int .i64 (MC.2.1 : Int))).setCell ⟨g2, 1, none⟩ (.int .i64 MC.2.2.a)).setCell ⟨g2, 2, none⟩ (.int .i64 MC.2.2.l)).setCell ⟨g2, 3, none⟩ (.int .i64 MC.2.2.c)).setCell ⟨g2, 4, none⟩ (.string ⟨#[]⟩)) := set5_b hH.2.1.out HG2.out (.int .i64 (MC.2.1 : Int)) (.int .i64 MC.2.2.a) (.int .i64 MC.2.2.l) (.int .i64 MC.2.2.c) (.string ⟨#[]⟩)
        have SS := (set5_b (b := g2) (Below.refl 0 Wd) (Nat.zero_le _) (.int .i64 (MC.2.1 : Int)) (.int .i64 MC.2.2.a) (.int .i64 MC.2.2.l) (.int .i64 MC.2.2.c) (.string ⟨#[]⟩)).size
        refine hK.out _ _ ?_ (fun hH' => ?_)
        · exact ⟨fun b o hb => SB.cell (p := ⟨b, o, none⟩) hb, SB, Nat.le_trans hH.2.2.out SS⟩
        replace R1 := Lib.hid ((set5_o (show g1 ≠ g2 from fun e => HNE.out e.symm) (.int .i64 (MC.2.1 : Int)) (.int .i64 MC.2.2.a) (.int .i64 MC.2.2.l) (.int .i64 MC.2.2.c) (.string ⟨#[]⟩)).trans R1.out)
        replace HX := Lib.hid (HX.out.keptP (P' := fun k => lo ≤ k ∧ k < hi) fun k hk => ⟨hk, set5_o (show k ≠ g2 by have := D2.out; have := hk.1; have := hk.2; omega) (.int .i64 (MC.2.1 : Int)) (.int .i64 MC.2.2.a) (.int .i64 MC.2.2.l) (.int .i64 MC.2.2.c) (.string ⟨#[]⟩)⟩)
        replace R2 := Lib.hid (set5 R2.out (.int .i64 (MC.2.1 : Int)) (.int .i64 MC.2.2.a) (.int .i64 MC.2.2.l) (.int .i64 MC.2.2.c) (.string ⟨#[]⟩))
        replace HHI := Lib.hid (Nat.le_trans HHI.out SS)
        clear SB SS y0 y1 y2 y3 y4 gy0 gy1 gy2 gy3 gy4 hby
        clear hK K hH
        have hH := hH'
        clear hH'
        try simp only [Act.put, List.setIfInBounds_toArray, List.set_cons_zero, List.set_cons_succ]
        generalize (((((Wd.setCell ⟨g2, 0, none⟩ (.int .i64 (MC.2.1 : Int))).setCell ⟨g2, 1, none⟩ (.int .i64 MC.2.2.a)).setCell ⟨g2, 2, none⟩ (.int .i64 MC.2.2.l)).setCell ⟨g2, 3, none⟩ (.int .i64 MC.2.2.c)).setCell ⟨g2, 4, none⟩ (.string ⟨#[]⟩)) = We at *
        refine wpAnyH_done (by kernel_rfl) ?_ _
        refine NoPanic.normal ?_
        go_wp2_with fail
        go_meet
        exact ⟨g1, g2, rfl, rfl, ⟨oV, cV, oK, cK, o, cap, hi, R1.out, R2.out, HX.out.mono fun k hk => hk.2, HHI.out, hH.2.1.out⟩⟩
      · go_simp
        have HG2 := hH.2.2
        have BB : Below Wc.heap.size Wc (Wc.alloc (.cells #[.int .i64 0, .int .i64 0, .int .i64 0, .int .i64 0, .string ⟨#[]⟩] 36)) := (Below.refl _ _).alloc (Nat.le_refl _) _
        refine hK.out _ _ ?_ (fun hH' => ?_)
        · exact held_next BB hH
        have R2 := Lib.hid (heap_alloc_new Wc (.cells #[.int .i64 0, .int .i64 0, .int .i64 0, .int .i64 0, .string ⟨#[]⟩] 36))
        have D2 : Hid (Wc.heap.size < lo ∨ hi ≤ Wc.heap.size) := .inr HHI.out
        replace HX := Lib.hid (HX.out.keptP (P' := fun k => lo ≤ k ∧ k < hi) fun k hk => ⟨hk, BB.block k (Nat.lt_of_lt_of_le hk.2 HHI.out)⟩)
        replace HHI : Hid (hi ≤ (Wc.alloc (.cells #[.int .i64 0, .int .i64 0, .int .i64 0, .int .i64 0, .string ⟨#[]⟩] 36)).heap.size) := Nat.le_trans HHI.out BB.size
        clear BB
        clear hK K hH
        have hH := hH'
        clear hH'
        try simp only [Act.put, List.setIfInBounds_toArray, List.set_cons_zero, List.set_cons_succ]
        generalize Wc.alloc (.cells #[.int .i64 0, .int .i64 0, .int .i64 0, .int .i64 0, .string ⟨#[]⟩] 36) = Wb at *
        generalize Wc.heap.size = g2 at *
        refine wpAnyH_ready (rs := [16]) (by kernel_rfl) (by simp) ?_
        refine AllReadyH.cons (o := { dst := some 13, op := Op.alloc 33, type := 0, pos := "law.go:63", after := #[], guard := none }) rfl (fun K hK => ?_) AllReadyH.nil
        go_simp
        have HG1 := hH.2.2
        have BB : Below Wb.heap.size Wb (Wb.alloc (.cells #[.int .i64 0, .string ⟨#[]⟩, .string ⟨#[]⟩, .int .i64 0, .int .i64 0, .string ⟨#[]⟩, .slice none 0 0, .slice none 0 0, .int .i64 0, .int .i64 0, .bool false, .slice none 0 0, .int .i64 0, .int .i64 0, .int .i64 0] 33)) := (Below.refl _ _).alloc (Nat.le_refl _) _
        refine hK.out _ _ ?_ (fun hH' => ?_)
        · exact held_next BB hH
        have HNE : Hid (g2 ≠ Wb.heap.size) := Nat.ne_of_lt (Array.getElem?_eq_some_iff.1 R2.out).1
        have R1 := Lib.hid (heap_alloc_new Wb (.cells #[.int .i64 0, .string ⟨#[]⟩, .string ⟨#[]⟩, .int .i64 0, .int .i64 0, .string ⟨#[]⟩, .slice none 0 0, .slice none 0 0, .int .i64 0, .int .i64 0, .bool false, .slice none 0 0, .int .i64 0, .int .i64 0, .int .i64 0] 33))
        replace R2 := Lib.hid ((heap_alloc_old Wb (.cells #[.int .i64 0, .string ⟨#[]⟩, .string ⟨#[]⟩, .int .i64 0, .int .i64 0, .string ⟨#[]⟩, .slice none 0 0, .slice none 0 0, .int .i64 0, .int .i64 0, .bool false, .slice none 0 0, .int .i64 0, .int .i64 0, .int .i64 0] 33) (Array.getElem?_eq_some_iff.1 R2.out).1).trans R2.out)
        have D1 : Hid (Wb.heap.size < lo ∨ hi ≤ Wb.heap.size) := .inr HHI.out
        replace HX := Lib.hid (HX.out.keptP (P' := fun k => lo ≤ k ∧ k < hi) fun k hk => ⟨hk, BB.block k (Nat.lt_of_lt_of_le hk.2 HHI.out)⟩)
        replace HHI : Hid (hi ≤ (Wb.alloc (.cells #[.int .i64 0, .string ⟨#[]⟩, .string ⟨#[]⟩, .int .i64 0, .int .i64 0, .string ⟨#[]⟩, .slice none 0 0, .slice none 0 0, .int .i64 0, .int .i64 0, .bool false, .slice none 0 0, .int .i64 0, .int .i64 0, .int .i64 0] 33)).heap.size) := Nat.le_trans HHI.out BB.size
        clear BB
        clear hK K hH
        have hH := hH'
        clear hH'
        try simp only [Act.put, List.setIfInBounds_toArray, List.set_cons_zero, List.set_cons_succ]
        generalize Wb.alloc (.cells #[.int .i64 0, .string ⟨#[]⟩, .string ⟨#[]⟩, .int .i64 0, .int .i64 0, .string ⟨#[]⟩, .slice none 0 0, .slice none 0 0, .int .i64 0, .int .i64 0, .bool false, .slice none 0 0, .int .i64 0, .int .i64 0, .int .i64 0] 33) = Wa at *
        generalize Wb.heap.size = g1 at *
        refine wpAnyH_ready (rs := [18]) (by kernel_rfl) (by simp) ?_
        refine AllReadyH.cons (o := { dst := none, op := Op.store 33 (Operand.tmp 13) (Operand.tmp 69), type := 0, pos := "law.go:63", after := #[{ on := 16, ground := Ground.data }, { on := 14, ground := Ground.data }, { on := 12, ground := Ground.chain }, { on := 0, ground := Ground.phase }, { on := 1, ground := Ground.phase }, { on := 2, ground := Ground.phase }, { on := 3, ground := Ground.phase }, { on := 4, ground := Ground.phase }, { on := 5, ground := Ground.phase }, { on := 6, ground := Ground.phase }, { on := 7, ground := Ground.phase }, { on := 8, ground := Ground.phase }, { on := 9, ground := Ground.phase }, { on := 10, ground := Ground.phase }, { on := 11, ground := Ground.phase }, { on := 12, ground := Ground.phase }, { on := 13, ground := Ground.phase }, { on := 14, ground := Ground.phase }, { on := 15, ground := Ground.textOnly Departure.lateStores }, { on := 16, ground := Ground.phase }, { on := 17, ground := Ground.phase }], guard := none }) rfl (fun K hK => ?_) AllReadyH.nil
        obtain ⟨⟨x0, x1, x2, x3, x4, x5, x6, x7, x8, x9, x10, x11, x12, x13, x14⟩, gx, hbx⟩ := rc15 R1.out
        have gx0 := gx 0
        have gx1 := gx 1
        have gx2 := gx 2
        have gx3 := gx 3
        have gx4 := gx 4
        have gx5 := gx 5
        have gx6 := gx 6
        have gx7 := gx 7
        have gx8 := gx 8
        have gx9 := gx 9
        have gx10 := gx 10
        have gx11 := gx 11
        have gx12 := gx 12
        have gx13 := gx 13
        have gx14 := gx 14
        clear gx
        go_simp
        have SB : Below N w6 (((((((((((((((Wa.setCell ⟨g1, 0, none⟩ (.int .i64 MC.1.op)).setCell ⟨g1, 1, none⟩ (.string MC.1.s)).setCell ⟨g1, 2, none⟩ (.string MC.1.s2)).setCell ⟨g1, 3, none⟩ (.int .i64 MC.1.v.k)).setCell ⟨g1, 4, none⟩ (.int .i64 MC.1.v.i)).setCell ⟨g1, 5, none⟩ (.string MC.1.v.s)).setCell ⟨g1, 6, none⟩ (.slice oV MC.1.v.l.length cV)).setCell ⟨g1, 7, none⟩ (.slice oK MC.1.v.ks.length cK)).setCell ⟨g1, 8, none⟩ (.int .i64 MC.1.v.tk)).setCell ⟨g1, 9, none⟩ (.int .i64 MC.1.v.to)).setCell ⟨g1, 10, none⟩ (.bool MC.1.v.x)).setCell ⟨g1, 11, none⟩ (.slice o MC.1.l.length cap)).setCell ⟨g1, 12, none⟩ (.int .i64 MC.1.a)).setCell ⟨g1, 13, none⟩ (.int .i64 MC.1.ln)).setCell ⟨g1, 14, none⟩ (.int .i64 MC.1.c)) := set15_b hH.2.1.out HG1.out (.int .i64 MC.1.op) (.string MC.1.s) (.string MC.1.s2) (.int .i64 MC.1.v.k) (.int .i64 MC.1.v.i) (.string MC.1.v.s) (.slice oV MC.1.v.l.length cV) (.slice oK MC.1.v.ks.length cK) (.int .i64 MC.1.v.tk) (.int .i64 MC.1.v.to) (.bool MC.1.v.x) (.slice o MC.1.l.length cap) (.int .i64 MC.1.a) (.int .i64 MC.1.ln) (.int .i64 MC.1.c)
        have SS := (set15_b (b := g1) (Below.refl 0 Wa) (Nat.zero_le _) (.int .i64 MC.1.op) (.string MC.1.s) (.string MC.1.s2) (.int .i64 MC.1.v.k) (.int .i64 MC.1.v.i) (.string MC.1.v.s) (.slice oV MC.1.v.l.length cV) (.slice oK MC.1.v.ks.length cK) (.int .i64 MC.1.v.tk) (.int .i64 MC.1.v.to) (.bool MC.1.v.x) (.slice o MC.1.l.length cap) (.int .i64 MC.1.a) (.int .i64 MC.1.ln) (.int .i64 MC.1.c)).size
        refine hK.out _ _ ?_ (fun hH' => ?_)
        · exact ⟨fun b o hb => SB.cell (p := ⟨b, o, none⟩) hb, SB, Nat.le_trans hH.2.2.out SS⟩
        replace R2 := Lib.hid ((set15_o (show g2 ≠ g1 from HNE.out) (.int .i64 MC.1.op) (.string MC.1.s) (.string MC.1.s2) (.int .i64 MC.1.v.k) (.int .i64 MC.1.v.i) (.string MC.1.v.s) (.slice oV MC.1.v.l.length cV) (.slice oK MC.1.v.ks.length cK) (.int .i64 MC.1.v.tk) (.int .i64 MC.1.v.to) (.bool MC.1.v.x) (.slice o MC.1.l.length cap) (.int .i64 MC.1.a) (.int .i64 MC.1.ln) (.int .i64 MC.1.c)).trans R2.out)
        replace HX := Lib.hid (HX.out.keptP (P' := fun k => lo ≤ k ∧ k < hi) fun k hk => ⟨hk, set15_o (show k ≠ g1 by have := D1.out; have := hk.1; have := hk.2; omega) (.int .i64 MC.1.op) (.string MC.1.s) (.string MC.1.s2) (.int .i64 MC.1.v.k) (.int .i64 MC.1.v.i) (.string MC.1.v.s) (.slice oV MC.1.v.l.length cV) (.slice oK MC.1.v.ks.length cK) (.int .i64 MC.1.v.tk) (.int .i64 MC.1.v.to) (.bool MC.1.v.x) (.slice o MC.1.l.length cap) (.int .i64 MC.1.a) (.int .i64 MC.1.ln) (.int .i64 MC.1.c)⟩)
        replace R1 := Lib.hid (set15 R1.out (.int .i64 MC.1.op) (.string MC.1.s) (.string MC.1.s2) (.int .i64 MC.1.v.k) (.int .i64 MC.1.v.i) (.string MC.1.v.s) (.slice oV MC.1.v.l.length cV) (.slice oK MC.1.v.ks.length cK) (.int .i64 MC.1.v.tk) (.int .i64 MC.1.v.to) (.bool MC.1.v.x) (.slice o MC.1.l.length cap) (.int .i64 MC.1.a) (.int .i64 MC.1.ln) (.int .i64 MC.1.c))
        replace HHI := Lib.hid (Nat.le_trans HHI.out SS)
        clear SB SS x0 x1 x2 x3 x4 x5 x6 x7 x8 x9 x10 x11 x12 x13 x14 hbx gx0 gx1 gx2 gx3 gx4 gx5 gx6 gx7 gx8 gx9 gx10 gx11 gx12 gx13 gx14
        clear hK K hH
        have hH := hH'
        clear hH'
        try simp only [Act.put, List.setIfInBounds_toArray, List.set_cons_zero, List.set_cons_succ]
        generalize (((((((((((((((Wa.setCell ⟨g1, 0, none⟩ (.int .i64 MC.1.op)).setCell ⟨g1, 1, none⟩ (.string MC.1.s)).setCell ⟨g1, 2, none⟩ (.string MC.1.s2)).setCell ⟨g1, 3, none⟩ (.int .i64 MC.1.v.k)).setCell ⟨g1, 4, none⟩ (.int .i64 MC.1.v.i)).setCell ⟨g1, 5, none⟩ (.string MC.1.v.s)).setCell ⟨g1, 6, none⟩ (.slice oV MC.1.v.l.length cV)).setCell ⟨g1, 7, none⟩ (.slice oK MC.1.v.ks.length cK)).setCell ⟨g1, 8, none⟩ (.int .i64 MC.1.v.tk)).setCell ⟨g1, 9, none⟩ (.int .i64 MC.1.v.to)).setCell ⟨g1, 10, none⟩ (.bool MC.1.v.x)).setCell ⟨g1, 11, none⟩ (.slice o MC.1.l.length cap)).setCell ⟨g1, 12, none⟩ (.int .i64 MC.1.a)).setCell ⟨g1, 13, none⟩ (.int .i64 MC.1.ln)).setCell ⟨g1, 14, none⟩ (.int .i64 MC.1.c)) = Wd at *
        refine wpAnyH_ready (rs := [19]) (by kernel_rfl) (by simp) ?_
        refine AllReadyH.cons (o := { dst := none, op := Op.store 36 (Operand.tmp 14) (Operand.tmp 70), type := 0, pos := "law.go:63", after := #[{ on := 17, ground := Ground.data }, { on := 15, ground := Ground.data }, { on := 18, ground := Ground.chain }, { on := 0, ground := Ground.phase }, { on := 1, ground := Ground.phase }, { on := 2, ground := Ground.phase }, { on := 3, ground := Ground.phase }, { on := 4, ground := Ground.phase }, { on := 5, ground := Ground.phase }, { on := 6, ground := Ground.phase }, { on := 7, ground := Ground.phase }, { on := 8, ground := Ground.phase }, { on := 9, ground := Ground.phase }, { on := 10, ground := Ground.phase }, { on := 11, ground := Ground.phase }, { on := 12, ground := Ground.phase }, { on := 13, ground := Ground.phase }, { on := 14, ground := Ground.phase }, { on := 15, ground := Ground.phase }, { on := 16, ground := Ground.phase }, { on := 17, ground := Ground.phase }, { on := 18, ground := Ground.phase }], guard := none }) rfl (fun K hK => ?_) AllReadyH.nil
        obtain ⟨⟨y0, y1, y2, y3, y4⟩, ⟨gy0, gy1, gy2, gy3, gy4⟩, hby⟩ := rc5 R2.out
        go_simp
        have SB : Below N w6 (((((Wd.setCell ⟨g2, 0, none⟩ (.int .i64 (MC.2.1 : Int))).setCell ⟨g2, 1, none⟩ (.int .i64 MC.2.2.a)).setCell ⟨g2, 2, none⟩ (.int .i64 MC.2.2.l)).setCell ⟨g2, 3, none⟩ (.int .i64 MC.2.2.c)).setCell ⟨g2, 4, none⟩ (.string ⟨#[]⟩)) := set5_b hH.2.1.out HG2.out (.int .i64 (MC.2.1 : Int)) (.int .i64 MC.2.2.a) (.int .i64 MC.2.2.l) (.int .i64 MC.2.2.c) (.string ⟨#[]⟩)
        have SS := (set5_b (b := g2) (Below.refl 0 Wd) (Nat.zero_le _) (.int .i64 (MC.2.1 : Int)) (.int .i64 MC.2.2.a) (.int .i64 MC.2.2.l) (.int .i64 MC.2.2.c) (.string ⟨#[]⟩)).size
        refine hK.out _ _ ?_ (fun hH' => ?_)
        · exact ⟨fun b o hb => SB.cell (p := ⟨b, o, none⟩) hb, SB, Nat.le_trans hH.2.2.out SS⟩
        replace R1 := Lib.hid ((set5_o (show g1 ≠ g2 from fun e => HNE.out e.symm) (.int .i64 (MC.2.1 : Int)) (.int .i64 MC.2.2.a) (.int .i64 MC.2.2.l) (.int .i64 MC.2.2.c) (.string ⟨#[]⟩)).trans R1.out)
        replace HX := Lib.hid (HX.out.keptP (P' := fun k => lo ≤ k ∧ k < hi) fun k hk => ⟨hk, set5_o (show k ≠ g2 by have := D2.out; have := hk.1; have := hk.2; omega) (.int .i64 (MC.2.1 : Int)) (.int .i64 MC.2.2.a) (.int .i64 MC.2.2.l) (.int .i64 MC.2.2.c) (.string ⟨#[]⟩)⟩)
        replace R2 := Lib.hid (set5 R2.out (.int .i64 (MC.2.1 : Int)) (.int .i64 MC.2.2.a) (.int .i64 MC.2.2.l) (.int .i64 MC.2.2.c) (.string ⟨#[]⟩))
        replace HHI := Lib.hid (Nat.le_trans HHI.out SS)
        clear SB SS y0 y1 y2 y3 y4 gy0 gy1 gy2 gy3 gy4 hby
        clear hK K hH
        have hH := hH'
        clear hH'
        try simp only [Act.put, List.setIfInBounds_toArray, List.set_cons_zero, List.set_cons_succ]
        generalize (((((Wd.setCell ⟨g2, 0, none⟩ (.int .i64 (MC.2.1 : Int))).setCell ⟨g2, 1, none⟩ (.int .i64 MC.2.2.a)).setCell ⟨g2, 2, none⟩ (.int .i64 MC.2.2.l)).setCell ⟨g2, 3, none⟩ (.int .i64 MC.2.2.c)).setCell ⟨g2, 4, none⟩ (.string ⟨#[]⟩)) = We at *
        refine wpAnyH_done (by kernel_rfl) ?_ _
        refine NoPanic.normal ?_
        go_wp2_with fail
        go_meet
        exact ⟨g1, g2, rfl, rfl, ⟨oV, cV, oK, cK, o, cap, hi, R1.out, R2.out, HX.out.mono fun k hk => hk.2, HHI.out, hH.2.1.out⟩⟩
    · go_simp
      have HG1 := hH.2.2
      have BB : Below Ws.heap.size Ws (Ws.alloc (.cells #[.int .i64 0, .string ⟨#[]⟩, .string ⟨#[]⟩, .int .i64 0, .int .i64 0, .string ⟨#[]⟩, .slice none 0 0, .slice none 0 0, .int .i64 0, .int .i64 0, .bool false, .slice none 0 0, .int .i64 0, .int .i64 0, .int .i64 0] 33)) := (Below.refl _ _).alloc (Nat.le_refl _) _
      refine hK.out _ _ ?_ (fun hH' => ?_)
      · exact held_next BB hH
      have R1 := Lib.hid (heap_alloc_new Ws (.cells #[.int .i64 0, .string ⟨#[]⟩, .string ⟨#[]⟩, .int .i64 0, .int .i64 0, .string ⟨#[]⟩, .slice none 0 0, .slice none 0 0, .int .i64 0, .int .i64 0, .bool false, .slice none 0 0, .int .i64 0, .int .i64 0, .int .i64 0] 33))
      clear BB
      clear hK K hH
      have hH := hH'
      clear hH'
      try simp only [Act.put, List.setIfInBounds_toArray, List.set_cons_zero, List.set_cons_succ]
      generalize Ws.alloc (.cells #[.int .i64 0, .string ⟨#[]⟩, .string ⟨#[]⟩, .int .i64 0, .int .i64 0, .string ⟨#[]⟩, .slice none 0 0, .slice none 0 0, .int .i64 0, .int .i64 0, .bool false, .slice none 0 0, .int .i64 0, .int .i64 0, .int .i64 0] 33) = Wa at *
      generalize Ws.heap.size = g1 at *
      refine wpAnyH_ready (rs := [12, 17]) (by kernel_rfl) (by simp) ?_
      refine (AllReadyH.cons (o := { dst := some 68, op := Op.call { callee := Callee.value (Operand.func 9), args := #[Operand.tmp 67], argTypes := #[9] }, type := 37, pos := "law.go:63", after := #[{ on := 11, ground := Ground.data }], guard := none }) rfl (fun K hK => ?_) (AllReadyH.cons (o := { dst := some 14, op := Op.alloc 36, type := 0, pos := "law.go:63", after := #[], guard := none }) rfl (fun K hK => ?_) AllReadyH.nil))
      · go_simp
        refine (CC.out _ hH.2.1.out).mono ?_
        rintro e0 Wc ⟨oV, cV, oK, cK, o, cap, rfl, hx, hb⟩
        refine hK.out _ _ ?_ (fun hH' => ?_)
        · exact held_next hb hH
        have D1 : Hid (g1 < Wa.heap.size ∨ Wc.heap.size ≤ g1) := .inl (Array.getElem?_eq_some_iff.1 R1.out).1
        replace R1 := Lib.hid ((hb.block _ (Array.getElem?_eq_some_iff.1 R1.out).1).trans R1.out)
        have HX : Hid (XP (fun k => Wa.heap.size ≤ k ∧ k < Wc.heap.size) Wc MC.1 (.agg (xc MC.1 oV cV oK cK o cap))) := hx
        have HHI : Hid (Wc.heap.size ≤ Wc.heap.size) := Nat.le_refl _
        clear hx hb
        clear hK K hH
        have hH := hH'
        clear hH'
        try simp only [Act.put, List.setIfInBounds_toArray, List.set_cons_zero, List.set_cons_succ]
        obtain ⟨lo, hlo⟩ : ∃ b, Wa.heap.size = b := ⟨_, rfl⟩
        rw [hlo] at HX
        rw [hlo] at D1
        obtain ⟨hi, hhi⟩ : ∃ b, Wc.heap.size = b := ⟨_, rfl⟩
        replace HHI : Hid (hi ≤ Wc.heap.size) := Nat.le_of_eq hhi.symm
        rw [hhi] at HX
        rw [hhi] at D1
        clear hlo hhi
        refine wpAnyH_take (i := 13) (oi := { dst := some 55, op := Op.move (Operand.tmp 68), type := 37, pos := "law.go:63", after := #[{ on := 12, ground := Ground.data }], guard := none }) (v := ?_) rfl (by kernel_rfl) (by kernel_rfl) (by kernel_rfl) (fun _ _ _ h => h) (Or.inl ⟨by rfl, ?_⟩) (by assumption) ?_
        rotate_left
        · (intro w hSw; (try dsimp only at hSw); go_simp; try with_reducible rfl)
        try simp only [Act.put, List.setIfInBounds_toArray, List.set_cons_zero, List.set_cons_succ]
        refine wpAnyH_take (i := 14) (oi := { dst := some 69, op := Op.extract (Operand.tmp 55) 0, type := 33, pos := "law.go:63", after := #[{ on := 13, ground := Ground.data }], guard := none }) (v := ?_) rfl (by kernel_rfl) (by kernel_rfl) (by kernel_rfl) (fun _ _ _ h => h) (Or.inl ⟨by rfl, ?_⟩) (by assumption) ?_
        rotate_left
        · (intro w hSw; (try dsimp only at hSw); go_simp; try with_reducible rfl)
        try simp only [Act.put, List.setIfInBounds_toArray, List.set_cons_zero, List.set_cons_succ]
        refine wpAnyH_take (i := 15) (oi := { dst := some 70, op := Op.extract (Operand.tmp 55) 1, type := 36, pos := "law.go:63", after := #[{ on := 13, ground := Ground.data }, { on := 18, ground := Ground.gcOnly Departure.lateStores }], guard := none }) (v := ?_) rfl (by kernel_rfl) (by kernel_rfl) (by kernel_rfl) (fun _ _ _ h => h) (Or.inl ⟨by rfl, ?_⟩) (by assumption) ?_
        rotate_left
        · (intro w hSw; (try dsimp only at hSw); go_simp; try with_reducible rfl)
        try simp only [Act.put, List.setIfInBounds_toArray, List.set_cons_zero, List.set_cons_succ]
        refine wpAnyH_ready (rs := [17]) (by kernel_rfl) (by simp) ?_
        refine AllReadyH.cons (o := { dst := some 14, op := Op.alloc 36, type := 0, pos := "law.go:63", after := #[], guard := none }) rfl (fun K hK => ?_) AllReadyH.nil
        go_simp
        have HG2 := hH.2.2
        have BB : Below Wc.heap.size Wc (Wc.alloc (.cells #[.int .i64 0, .int .i64 0, .int .i64 0, .int .i64 0, .string ⟨#[]⟩] 36)) := (Below.refl _ _).alloc (Nat.le_refl _) _
        refine hK.out _ _ ?_ (fun hH' => ?_)
        · exact held_next BB hH
        have HNE : Hid (Wc.heap.size ≠ g1) := Nat.ne_of_gt (Array.getElem?_eq_some_iff.1 R1.out).1
        have R2 := Lib.hid (heap_alloc_new Wc (.cells #[.int .i64 0, .int .i64 0, .int .i64 0, .int .i64 0, .string ⟨#[]⟩] 36))
        replace R1 := Lib.hid ((heap_alloc_old Wc (.cells #[.int .i64 0, .int .i64 0, .int .i64 0, .int .i64 0, .string ⟨#[]⟩] 36) (Array.getElem?_eq_some_iff.1 R1.out).1).trans R1.out)
        have D2 : Hid (Wc.heap.size < lo ∨ hi ≤ Wc.heap.size) := .inr HHI.out
        replace HX := Lib.hid (HX.out.keptP (P' := fun k => lo ≤ k ∧ k < hi) fun k hk => ⟨hk, BB.block k (Nat.lt_of_lt_of_le hk.2 HHI.out)⟩)
        replace HHI : Hid (hi ≤ (Wc.alloc (.cells #[.int .i64 0, .int .i64 0, .int .i64 0, .int .i64 0, .string ⟨#[]⟩] 36)).heap.size) := Nat.le_trans HHI.out BB.size
        clear BB
        clear hK K hH
        have hH := hH'
        clear hH'
        try simp only [Act.put, List.setIfInBounds_toArray, List.set_cons_zero, List.set_cons_succ]
        generalize Wc.alloc (.cells #[.int .i64 0, .int .i64 0, .int .i64 0, .int .i64 0, .string ⟨#[]⟩] 36) = Wb at *
        generalize Wc.heap.size = g2 at *
        refine wpAnyH_ready (rs := [18]) (by kernel_rfl) (by simp) ?_
        refine AllReadyH.cons (o := { dst := none, op := Op.store 33 (Operand.tmp 13) (Operand.tmp 69), type := 0, pos := "law.go:63", after := #[{ on := 16, ground := Ground.data }, { on := 14, ground := Ground.data }, { on := 12, ground := Ground.chain }, { on := 0, ground := Ground.phase }, { on := 1, ground := Ground.phase }, { on := 2, ground := Ground.phase }, { on := 3, ground := Ground.phase }, { on := 4, ground := Ground.phase }, { on := 5, ground := Ground.phase }, { on := 6, ground := Ground.phase }, { on := 7, ground := Ground.phase }, { on := 8, ground := Ground.phase }, { on := 9, ground := Ground.phase }, { on := 10, ground := Ground.phase }, { on := 11, ground := Ground.phase }, { on := 12, ground := Ground.phase }, { on := 13, ground := Ground.phase }, { on := 14, ground := Ground.phase }, { on := 15, ground := Ground.textOnly Departure.lateStores }, { on := 16, ground := Ground.phase }, { on := 17, ground := Ground.phase }], guard := none }) rfl (fun K hK => ?_) AllReadyH.nil
        obtain ⟨⟨x0, x1, x2, x3, x4, x5, x6, x7, x8, x9, x10, x11, x12, x13, x14⟩, gx, hbx⟩ := rc15 R1.out
        have gx0 := gx 0
        have gx1 := gx 1
        have gx2 := gx 2
        have gx3 := gx 3
        have gx4 := gx 4
        have gx5 := gx 5
        have gx6 := gx 6
        have gx7 := gx 7
        have gx8 := gx 8
        have gx9 := gx 9
        have gx10 := gx 10
        have gx11 := gx 11
        have gx12 := gx 12
        have gx13 := gx 13
        have gx14 := gx 14
        clear gx
        go_simp
        have SB : Below N w6 (((((((((((((((Wb.setCell ⟨g1, 0, none⟩ (.int .i64 MC.1.op)).setCell ⟨g1, 1, none⟩ (.string MC.1.s)).setCell ⟨g1, 2, none⟩ (.string MC.1.s2)).setCell ⟨g1, 3, none⟩ (.int .i64 MC.1.v.k)).setCell ⟨g1, 4, none⟩ (.int .i64 MC.1.v.i)).setCell ⟨g1, 5, none⟩ (.string MC.1.v.s)).setCell ⟨g1, 6, none⟩ (.slice oV MC.1.v.l.length cV)).setCell ⟨g1, 7, none⟩ (.slice oK MC.1.v.ks.length cK)).setCell ⟨g1, 8, none⟩ (.int .i64 MC.1.v.tk)).setCell ⟨g1, 9, none⟩ (.int .i64 MC.1.v.to)).setCell ⟨g1, 10, none⟩ (.bool MC.1.v.x)).setCell ⟨g1, 11, none⟩ (.slice o MC.1.l.length cap)).setCell ⟨g1, 12, none⟩ (.int .i64 MC.1.a)).setCell ⟨g1, 13, none⟩ (.int .i64 MC.1.ln)).setCell ⟨g1, 14, none⟩ (.int .i64 MC.1.c)) := set15_b hH.2.1.out HG1.out (.int .i64 MC.1.op) (.string MC.1.s) (.string MC.1.s2) (.int .i64 MC.1.v.k) (.int .i64 MC.1.v.i) (.string MC.1.v.s) (.slice oV MC.1.v.l.length cV) (.slice oK MC.1.v.ks.length cK) (.int .i64 MC.1.v.tk) (.int .i64 MC.1.v.to) (.bool MC.1.v.x) (.slice o MC.1.l.length cap) (.int .i64 MC.1.a) (.int .i64 MC.1.ln) (.int .i64 MC.1.c)
        have SS := (set15_b (b := g1) (Below.refl 0 Wb) (Nat.zero_le _) (.int .i64 MC.1.op) (.string MC.1.s) (.string MC.1.s2) (.int .i64 MC.1.v.k) (.int .i64 MC.1.v.i) (.string MC.1.v.s) (.slice oV MC.1.v.l.length cV) (.slice oK MC.1.v.ks.length cK) (.int .i64 MC.1.v.tk) (.int .i64 MC.1.v.to) (.bool MC.1.v.x) (.slice o MC.1.l.length cap) (.int .i64 MC.1.a) (.int .i64 MC.1.ln) (.int .i64 MC.1.c)).size
        refine hK.out _ _ ?_ (fun hH' => ?_)
        · exact ⟨fun b o hb => SB.cell (p := ⟨b, o, none⟩) hb, SB, Nat.le_trans hH.2.2.out SS⟩
        replace R2 := Lib.hid ((set15_o (show g2 ≠ g1 from HNE.out) (.int .i64 MC.1.op) (.string MC.1.s) (.string MC.1.s2) (.int .i64 MC.1.v.k) (.int .i64 MC.1.v.i) (.string MC.1.v.s) (.slice oV MC.1.v.l.length cV) (.slice oK MC.1.v.ks.length cK) (.int .i64 MC.1.v.tk) (.int .i64 MC.1.v.to) (.bool MC.1.v.x) (.slice o MC.1.l.length cap) (.int .i64 MC.1.a) (.int .i64 MC.1.ln) (.int .i64 MC.1.c)).trans R2.out)
        replace HX := Lib.hid (HX.out.keptP (P' := fun k => lo ≤ k ∧ k < hi) fun k hk => ⟨hk, set15_o (show k ≠ g1 by have := D1.out; have := hk.1; have := hk.2; omega) (.int .i64 MC.1.op) (.string MC.1.s) (.string MC.1.s2) (.int .i64 MC.1.v.k) (.int .i64 MC.1.v.i) (.string MC.1.v.s) (.slice oV MC.1.v.l.length cV) (.slice oK MC.1.v.ks.length cK) (.int .i64 MC.1.v.tk) (.int .i64 MC.1.v.to) (.bool MC.1.v.x) (.slice o MC.1.l.length cap) (.int .i64 MC.1.a) (.int .i64 MC.1.ln) (.int .i64 MC.1.c)⟩)
        replace R1 := Lib.hid (set15 R1.out (.int .i64 MC.1.op) (.string MC.1.s) (.string MC.1.s2) (.int .i64 MC.1.v.k) (.int .i64 MC.1.v.i) (.string MC.1.v.s) (.slice oV MC.1.v.l.length cV) (.slice oK MC.1.v.ks.length cK) (.int .i64 MC.1.v.tk) (.int .i64 MC.1.v.to) (.bool MC.1.v.x) (.slice o MC.1.l.length cap) (.int .i64 MC.1.a) (.int .i64 MC.1.ln) (.int .i64 MC.1.c))
        replace HHI := Lib.hid (Nat.le_trans HHI.out SS)
        clear SB SS x0 x1 x2 x3 x4 x5 x6 x7 x8 x9 x10 x11 x12 x13 x14 hbx gx0 gx1 gx2 gx3 gx4 gx5 gx6 gx7 gx8 gx9 gx10 gx11 gx12 gx13 gx14
        clear hK K hH
        have hH := hH'
        clear hH'
        try simp only [Act.put, List.setIfInBounds_toArray, List.set_cons_zero, List.set_cons_succ]
        generalize (((((((((((((((Wb.setCell ⟨g1, 0, none⟩ (.int .i64 MC.1.op)).setCell ⟨g1, 1, none⟩ (.string MC.1.s)).setCell ⟨g1, 2, none⟩ (.string MC.1.s2)).setCell ⟨g1, 3, none⟩ (.int .i64 MC.1.v.k)).setCell ⟨g1, 4, none⟩ (.int .i64 MC.1.v.i)).setCell ⟨g1, 5, none⟩ (.string MC.1.v.s)).setCell ⟨g1, 6, none⟩ (.slice oV MC.1.v.l.length cV)).setCell ⟨g1, 7, none⟩ (.slice oK MC.1.v.ks.length cK)).setCell ⟨g1, 8, none⟩ (.int .i64 MC.1.v.tk)).setCell ⟨g1, 9, none⟩ (.int .i64 MC.1.v.to)).setCell ⟨g1, 10, none⟩ (.bool MC.1.v.x)).setCell ⟨g1, 11, none⟩ (.slice o MC.1.l.length cap)).setCell ⟨g1, 12, none⟩ (.int .i64 MC.1.a)).setCell ⟨g1, 13, none⟩ (.int .i64 MC.1.ln)).setCell ⟨g1, 14, none⟩ (.int .i64 MC.1.c)) = Wd at *
        refine wpAnyH_ready (rs := [19]) (by kernel_rfl) (by simp) ?_
        refine AllReadyH.cons (o := { dst := none, op := Op.store 36 (Operand.tmp 14) (Operand.tmp 70), type := 0, pos := "law.go:63", after := #[{ on := 17, ground := Ground.data }, { on := 15, ground := Ground.data }, { on := 18, ground := Ground.chain }, { on := 0, ground := Ground.phase }, { on := 1, ground := Ground.phase }, { on := 2, ground := Ground.phase }, { on := 3, ground := Ground.phase }, { on := 4, ground := Ground.phase }, { on := 5, ground := Ground.phase }, { on := 6, ground := Ground.phase }, { on := 7, ground := Ground.phase }, { on := 8, ground := Ground.phase }, { on := 9, ground := Ground.phase }, { on := 10, ground := Ground.phase }, { on := 11, ground := Ground.phase }, { on := 12, ground := Ground.phase }, { on := 13, ground := Ground.phase }, { on := 14, ground := Ground.phase }, { on := 15, ground := Ground.phase }, { on := 16, ground := Ground.phase }, { on := 17, ground := Ground.phase }, { on := 18, ground := Ground.phase }], guard := none }) rfl (fun K hK => ?_) AllReadyH.nil
        obtain ⟨⟨y0, y1, y2, y3, y4⟩, ⟨gy0, gy1, gy2, gy3, gy4⟩, hby⟩ := rc5 R2.out
        go_simp
        have SB : Below N w6 (((((Wd.setCell ⟨g2, 0, none⟩ (.int .i64 (MC.2.1 : Int))).setCell ⟨g2, 1, none⟩ (.int .i64 MC.2.2.a)).setCell ⟨g2, 2, none⟩ (.int .i64 MC.2.2.l)).setCell ⟨g2, 3, none⟩ (.int .i64 MC.2.2.c)).setCell ⟨g2, 4, none⟩ (.string ⟨#[]⟩)) := set5_b hH.2.1.out HG2.out (.int .i64 (MC.2.1 : Int)) (.int .i64 MC.2.2.a) (.int .i64 MC.2.2.l) (.int .i64 MC.2.2.c) (.string ⟨#[]⟩)
        have SS := (set5_b (b := g2) (Below.refl 0 Wd) (Nat.zero_le _) (.int .i64 (MC.2.1 : Int)) (.int .i64 MC.2.2.a) (.int .i64 MC.2.2.l) (.int .i64 MC.2.2.c) (.string ⟨#[]⟩)).size
        refine hK.out _ _ ?_ (fun hH' => ?_)
        · exact ⟨fun b o hb => SB.cell (p := ⟨b, o, none⟩) hb, SB, Nat.le_trans hH.2.2.out SS⟩
        replace R1 := Lib.hid ((set5_o (show g1 ≠ g2 from fun e => HNE.out e.symm) (.int .i64 (MC.2.1 : Int)) (.int .i64 MC.2.2.a) (.int .i64 MC.2.2.l) (.int .i64 MC.2.2.c) (.string ⟨#[]⟩)).trans R1.out)
        replace HX := Lib.hid (HX.out.keptP (P' := fun k => lo ≤ k ∧ k < hi) fun k hk => ⟨hk, set5_o (show k ≠ g2 by have := D2.out; have := hk.1; have := hk.2; omega) (.int .i64 (MC.2.1 : Int)) (.int .i64 MC.2.2.a) (.int .i64 MC.2.2.l) (.int .i64 MC.2.2.c) (.string ⟨#[]⟩)⟩)
        replace R2 := Lib.hid (set5 R2.out (.int .i64 (MC.2.1 : Int)) (.int .i64 MC.2.2.a) (.int .i64 MC.2.2.l) (.int .i64 MC.2.2.c) (.string ⟨#[]⟩))
        replace HHI := Lib.hid (Nat.le_trans HHI.out SS)
        clear SB SS y0 y1 y2 y3 y4 gy0 gy1 gy2 gy3 gy4 hby
        clear hK K hH
        have hH := hH'
        clear hH'
        try simp only [Act.put, List.setIfInBounds_toArray, List.set_cons_zero, List.set_cons_succ]
        generalize (((((Wd.setCell ⟨g2, 0, none⟩ (.int .i64 (MC.2.1 : Int))).setCell ⟨g2, 1, none⟩ (.int .i64 MC.2.2.a)).setCell ⟨g2, 2, none⟩ (.int .i64 MC.2.2.l)).setCell ⟨g2, 3, none⟩ (.int .i64 MC.2.2.c)).setCell ⟨g2, 4, none⟩ (.string ⟨#[]⟩)) = We at *
        refine wpAnyH_done (by kernel_rfl) ?_ _
        refine NoPanic.normal ?_
        go_wp2_with fail
        go_meet
        exact ⟨g1, g2, rfl, rfl, ⟨oV, cV, oK, cK, o, cap, hi, R1.out, R2.out, HX.out.mono fun k hk => hk.2, HHI.out, hH.2.1.out⟩⟩
      · go_simp
        have HG2 := hH.2.2
        have BB : Below Wa.heap.size Wa (Wa.alloc (.cells #[.int .i64 0, .int .i64 0, .int .i64 0, .int .i64 0, .string ⟨#[]⟩] 36)) := (Below.refl _ _).alloc (Nat.le_refl _) _
        refine hK.out _ _ ?_ (fun hH' => ?_)
        · exact held_next BB hH
        have HNE : Hid (Wa.heap.size ≠ g1) := Nat.ne_of_gt (Array.getElem?_eq_some_iff.1 R1.out).1
        have R2 := Lib.hid (heap_alloc_new Wa (.cells #[.int .i64 0, .int .i64 0, .int .i64 0, .int .i64 0, .string ⟨#[]⟩] 36))
        replace R1 := Lib.hid ((heap_alloc_old Wa (.cells #[.int .i64 0, .int .i64 0, .int .i64 0, .int .i64 0, .string ⟨#[]⟩] 36) (Array.getElem?_eq_some_iff.1 R1.out).1).trans R1.out)
        clear BB
        clear hK K hH
        have hH := hH'
        clear hH'
        try simp only [Act.put, List.setIfInBounds_toArray, List.set_cons_zero, List.set_cons_succ]
        generalize Wa.alloc (.cells #[.int .i64 0, .int .i64 0, .int .i64 0, .int .i64 0, .string ⟨#[]⟩] 36) = Wb at *
        generalize Wa.heap.size = g2 at *
        refine wpAnyH_ready (rs := [12]) (by kernel_rfl) (by simp) ?_
        refine AllReadyH.cons (o := { dst := some 68, op := Op.call { callee := Callee.value (Operand.func 9), args := #[Operand.tmp 67], argTypes := #[9] }, type := 37, pos := "law.go:63", after := #[{ on := 11, ground := Ground.data }], guard := none }) rfl (fun K hK => ?_) AllReadyH.nil
        go_simp
        refine (CC.out _ hH.2.1.out).mono ?_
        rintro e0 Wc ⟨oV, cV, oK, cK, o, cap, rfl, hx, hb⟩
        refine hK.out _ _ ?_ (fun hH' => ?_)
        · exact held_next hb hH
        have D1 : Hid (g1 < Wb.heap.size ∨ Wc.heap.size ≤ g1) := .inl (Array.getElem?_eq_some_iff.1 R1.out).1
        replace R1 := Lib.hid ((hb.block _ (Array.getElem?_eq_some_iff.1 R1.out).1).trans R1.out)
        have D2 : Hid (g2 < Wb.heap.size ∨ Wc.heap.size ≤ g2) := .inl (Array.getElem?_eq_some_iff.1 R2.out).1
        replace R2 := Lib.hid ((hb.block _ (Array.getElem?_eq_some_iff.1 R2.out).1).trans R2.out)
        have HX : Hid (XP (fun k => Wb.heap.size ≤ k ∧ k < Wc.heap.size) Wc MC.1 (.agg (xc MC.1 oV cV oK cK o cap))) := hx
        have HHI : Hid (Wc.heap.size ≤ Wc.heap.size) := Nat.le_refl _
        clear hx hb
        clear hK K hH
        have hH := hH'
        clear hH'
        try simp only [Act.put, List.setIfInBounds_toArray, List.set_cons_zero, List.set_cons_succ]
        obtain ⟨lo, hlo⟩ : ∃ b, Wb.heap.size = b := ⟨_, rfl⟩
        rw [hlo] at HX
        rw [hlo] at D1
        rw [hlo] at D2
        obtain ⟨hi, hhi⟩ : ∃ b, Wc.heap.size = b := ⟨_, rfl⟩
        replace HHI : Hid (hi ≤ Wc.heap.size) := Nat.le_of_eq hhi.symm
        rw [hhi] at HX
        rw [hhi] at D1
        rw [hhi] at D2
        clear hlo hhi
        refine wpAnyH_take (i := 13) (oi := { dst := some 55, op := Op.move (Operand.tmp 68), type := 37, pos := "law.go:63", after := #[{ on := 12, ground := Ground.data }], guard := none }) (v := ?_) rfl (by kernel_rfl) (by kernel_rfl) (by kernel_rfl) (fun _ _ _ h => h) (Or.inl ⟨by rfl, ?_⟩) (by assumption) ?_
        rotate_left
        · (intro w hSw; (try dsimp only at hSw); go_simp; try with_reducible rfl)
        try simp only [Act.put, List.setIfInBounds_toArray, List.set_cons_zero, List.set_cons_succ]
        refine wpAnyH_take (i := 14) (oi := { dst := some 69, op := Op.extract (Operand.tmp 55) 0, type := 33, pos := "law.go:63", after := #[{ on := 13, ground := Ground.data }], guard := none }) (v := ?_) rfl (by kernel_rfl) (by kernel_rfl) (by kernel_rfl) (fun _ _ _ h => h) (Or.inl ⟨by rfl, ?_⟩) (by assumption) ?_
        rotate_left
        · (intro w hSw; (try dsimp only at hSw); go_simp; try with_reducible rfl)
        try simp only [Act.put, List.setIfInBounds_toArray, List.set_cons_zero, List.set_cons_succ]
        refine wpAnyH_take (i := 15) (oi := { dst := some 70, op := Op.extract (Operand.tmp 55) 1, type := 36, pos := "law.go:63", after := #[{ on := 13, ground := Ground.data }, { on := 18, ground := Ground.gcOnly Departure.lateStores }], guard := none }) (v := ?_) rfl (by kernel_rfl) (by kernel_rfl) (by kernel_rfl) (fun _ _ _ h => h) (Or.inl ⟨by rfl, ?_⟩) (by assumption) ?_
        rotate_left
        · (intro w hSw; (try dsimp only at hSw); go_simp; try with_reducible rfl)
        try simp only [Act.put, List.setIfInBounds_toArray, List.set_cons_zero, List.set_cons_succ]
        refine wpAnyH_ready (rs := [18]) (by kernel_rfl) (by simp) ?_
        refine AllReadyH.cons (o := { dst := none, op := Op.store 33 (Operand.tmp 13) (Operand.tmp 69), type := 0, pos := "law.go:63", after := #[{ on := 16, ground := Ground.data }, { on := 14, ground := Ground.data }, { on := 12, ground := Ground.chain }, { on := 0, ground := Ground.phase }, { on := 1, ground := Ground.phase }, { on := 2, ground := Ground.phase }, { on := 3, ground := Ground.phase }, { on := 4, ground := Ground.phase }, { on := 5, ground := Ground.phase }, { on := 6, ground := Ground.phase }, { on := 7, ground := Ground.phase }, { on := 8, ground := Ground.phase }, { on := 9, ground := Ground.phase }, { on := 10, ground := Ground.phase }, { on := 11, ground := Ground.phase }, { on := 12, ground := Ground.phase }, { on := 13, ground := Ground.phase }, { on := 14, ground := Ground.phase }, { on := 15, ground := Ground.textOnly Departure.lateStores }, { on := 16, ground := Ground.phase }, { on := 17, ground := Ground.phase }], guard := none }) rfl (fun K hK => ?_) AllReadyH.nil
        obtain ⟨⟨x0, x1, x2, x3, x4, x5, x6, x7, x8, x9, x10, x11, x12, x13, x14⟩, gx, hbx⟩ := rc15 R1.out
        have gx0 := gx 0
        have gx1 := gx 1
        have gx2 := gx 2
        have gx3 := gx 3
        have gx4 := gx 4
        have gx5 := gx 5
        have gx6 := gx 6
        have gx7 := gx 7
        have gx8 := gx 8
        have gx9 := gx 9
        have gx10 := gx 10
        have gx11 := gx 11
        have gx12 := gx 12
        have gx13 := gx 13
        have gx14 := gx 14
        clear gx
        go_simp
        have SB : Below N w6 (((((((((((((((Wc.setCell ⟨g1, 0, none⟩ (.int .i64 MC.1.op)).setCell ⟨g1, 1, none⟩ (.string MC.1.s)).setCell ⟨g1, 2, none⟩ (.string MC.1.s2)).setCell ⟨g1, 3, none⟩ (.int .i64 MC.1.v.k)).setCell ⟨g1, 4, none⟩ (.int .i64 MC.1.v.i)).setCell ⟨g1, 5, none⟩ (.string MC.1.v.s)).setCell ⟨g1, 6, none⟩ (.slice oV MC.1.v.l.length cV)).setCell ⟨g1, 7, none⟩ (.slice oK MC.1.v.ks.length cK)).setCell ⟨g1, 8, none⟩ (.int .i64 MC.1.v.tk)).setCell ⟨g1, 9, none⟩ (.int .i64 MC.1.v.to)).setCell ⟨g1, 10, none⟩ (.bool MC.1.v.x)).setCell ⟨g1, 11, none⟩ (.slice o MC.1.l.length cap)).setCell ⟨g1, 12, none⟩ (.int .i64 MC.1.a)).setCell ⟨g1, 13, none⟩ (.int .i64 MC.1.ln)).setCell ⟨g1, 14, none⟩ (.int .i64 MC.1.c)) := set15_b hH.2.1.out HG1.out (.int .i64 MC.1.op) (.string MC.1.s) (.string MC.1.s2) (.int .i64 MC.1.v.k) (.int .i64 MC.1.v.i) (.string MC.1.v.s) (.slice oV MC.1.v.l.length cV) (.slice oK MC.1.v.ks.length cK) (.int .i64 MC.1.v.tk) (.int .i64 MC.1.v.to) (.bool MC.1.v.x) (.slice o MC.1.l.length cap) (.int .i64 MC.1.a) (.int .i64 MC.1.ln) (.int .i64 MC.1.c)
        have SS := (set15_b (b := g1) (Below.refl 0 Wc) (Nat.zero_le _) (.int .i64 MC.1.op) (.string MC.1.s) (.string MC.1.s2) (.int .i64 MC.1.v.k) (.int .i64 MC.1.v.i) (.string MC.1.v.s) (.slice oV MC.1.v.l.length cV) (.slice oK MC.1.v.ks.length cK) (.int .i64 MC.1.v.tk) (.int .i64 MC.1.v.to) (.bool MC.1.v.x) (.slice o MC.1.l.length cap) (.int .i64 MC.1.a) (.int .i64 MC.1.ln) (.int .i64 MC.1.c)).size
        refine hK.out _ _ ?_ (fun hH' => ?_)
        · exact ⟨fun b o hb => SB.cell (p := ⟨b, o, none⟩) hb, SB, Nat.le_trans hH.2.2.out SS⟩
        replace R2 := Lib.hid ((set15_o (show g2 ≠ g1 from HNE.out) (.int .i64 MC.1.op) (.string MC.1.s) (.string MC.1.s2) (.int .i64 MC.1.v.k) (.int .i64 MC.1.v.i) (.string MC.1.v.s) (.slice oV MC.1.v.l.length cV) (.slice oK MC.1.v.ks.length cK) (.int .i64 MC.1.v.tk) (.int .i64 MC.1.v.to) (.bool MC.1.v.x) (.slice o MC.1.l.length cap) (.int .i64 MC.1.a) (.int .i64 MC.1.ln) (.int .i64 MC.1.c)).trans R2.out)
        replace HX := Lib.hid (HX.out.keptP (P' := fun k => lo ≤ k ∧ k < hi) fun k hk => ⟨hk, set15_o (show k ≠ g1 by have := D1.out; have := hk.1; have := hk.2; omega) (.int .i64 MC.1.op) (.string MC.1.s) (.string MC.1.s2) (.int .i64 MC.1.v.k) (.int .i64 MC.1.v.i) (.string MC.1.v.s) (.slice oV MC.1.v.l.length cV) (.slice oK MC.1.v.ks.length cK) (.int .i64 MC.1.v.tk) (.int .i64 MC.1.v.to) (.bool MC.1.v.x) (.slice o MC.1.l.length cap) (.int .i64 MC.1.a) (.int .i64 MC.1.ln) (.int .i64 MC.1.c)⟩)
        replace R1 := Lib.hid (set15 R1.out (.int .i64 MC.1.op) (.string MC.1.s) (.string MC.1.s2) (.int .i64 MC.1.v.k) (.int .i64 MC.1.v.i) (.string MC.1.v.s) (.slice oV MC.1.v.l.length cV) (.slice oK MC.1.v.ks.length cK) (.int .i64 MC.1.v.tk) (.int .i64 MC.1.v.to) (.bool MC.1.v.x) (.slice o MC.1.l.length cap) (.int .i64 MC.1.a) (.int .i64 MC.1.ln) (.int .i64 MC.1.c))
        replace HHI := Lib.hid (Nat.le_trans HHI.out SS)
        clear SB SS x0 x1 x2 x3 x4 x5 x6 x7 x8 x9 x10 x11 x12 x13 x14 hbx gx0 gx1 gx2 gx3 gx4 gx5 gx6 gx7 gx8 gx9 gx10 gx11 gx12 gx13 gx14
        clear hK K hH
        have hH := hH'
        clear hH'
        try simp only [Act.put, List.setIfInBounds_toArray, List.set_cons_zero, List.set_cons_succ]
        generalize (((((((((((((((Wc.setCell ⟨g1, 0, none⟩ (.int .i64 MC.1.op)).setCell ⟨g1, 1, none⟩ (.string MC.1.s)).setCell ⟨g1, 2, none⟩ (.string MC.1.s2)).setCell ⟨g1, 3, none⟩ (.int .i64 MC.1.v.k)).setCell ⟨g1, 4, none⟩ (.int .i64 MC.1.v.i)).setCell ⟨g1, 5, none⟩ (.string MC.1.v.s)).setCell ⟨g1, 6, none⟩ (.slice oV MC.1.v.l.length cV)).setCell ⟨g1, 7, none⟩ (.slice oK MC.1.v.ks.length cK)).setCell ⟨g1, 8, none⟩ (.int .i64 MC.1.v.tk)).setCell ⟨g1, 9, none⟩ (.int .i64 MC.1.v.to)).setCell ⟨g1, 10, none⟩ (.bool MC.1.v.x)).setCell ⟨g1, 11, none⟩ (.slice o MC.1.l.length cap)).setCell ⟨g1, 12, none⟩ (.int .i64 MC.1.a)).setCell ⟨g1, 13, none⟩ (.int .i64 MC.1.ln)).setCell ⟨g1, 14, none⟩ (.int .i64 MC.1.c)) = Wd at *
        refine wpAnyH_ready (rs := [19]) (by kernel_rfl) (by simp) ?_
        refine AllReadyH.cons (o := { dst := none, op := Op.store 36 (Operand.tmp 14) (Operand.tmp 70), type := 0, pos := "law.go:63", after := #[{ on := 17, ground := Ground.data }, { on := 15, ground := Ground.data }, { on := 18, ground := Ground.chain }, { on := 0, ground := Ground.phase }, { on := 1, ground := Ground.phase }, { on := 2, ground := Ground.phase }, { on := 3, ground := Ground.phase }, { on := 4, ground := Ground.phase }, { on := 5, ground := Ground.phase }, { on := 6, ground := Ground.phase }, { on := 7, ground := Ground.phase }, { on := 8, ground := Ground.phase }, { on := 9, ground := Ground.phase }, { on := 10, ground := Ground.phase }, { on := 11, ground := Ground.phase }, { on := 12, ground := Ground.phase }, { on := 13, ground := Ground.phase }, { on := 14, ground := Ground.phase }, { on := 15, ground := Ground.phase }, { on := 16, ground := Ground.phase }, { on := 17, ground := Ground.phase }, { on := 18, ground := Ground.phase }], guard := none }) rfl (fun K hK => ?_) AllReadyH.nil
        obtain ⟨⟨y0, y1, y2, y3, y4⟩, ⟨gy0, gy1, gy2, gy3, gy4⟩, hby⟩ := rc5 R2.out
        go_simp
        have SB : Below N w6 (((((Wd.setCell ⟨g2, 0, none⟩ (.int .i64 (MC.2.1 : Int))).setCell ⟨g2, 1, none⟩ (.int .i64 MC.2.2.a)).setCell ⟨g2, 2, none⟩ (.int .i64 MC.2.2.l)).setCell ⟨g2, 3, none⟩ (.int .i64 MC.2.2.c)).setCell ⟨g2, 4, none⟩ (.string ⟨#[]⟩)) := set5_b hH.2.1.out HG2.out (.int .i64 (MC.2.1 : Int)) (.int .i64 MC.2.2.a) (.int .i64 MC.2.2.l) (.int .i64 MC.2.2.c) (.string ⟨#[]⟩)
        have SS := (set5_b (b := g2) (Below.refl 0 Wd) (Nat.zero_le _) (.int .i64 (MC.2.1 : Int)) (.int .i64 MC.2.2.a) (.int .i64 MC.2.2.l) (.int .i64 MC.2.2.c) (.string ⟨#[]⟩)).size
        refine hK.out _ _ ?_ (fun hH' => ?_)
        · exact ⟨fun b o hb => SB.cell (p := ⟨b, o, none⟩) hb, SB, Nat.le_trans hH.2.2.out SS⟩
        replace R1 := Lib.hid ((set5_o (show g1 ≠ g2 from fun e => HNE.out e.symm) (.int .i64 (MC.2.1 : Int)) (.int .i64 MC.2.2.a) (.int .i64 MC.2.2.l) (.int .i64 MC.2.2.c) (.string ⟨#[]⟩)).trans R1.out)
        replace HX := Lib.hid (HX.out.keptP (P' := fun k => lo ≤ k ∧ k < hi) fun k hk => ⟨hk, set5_o (show k ≠ g2 by have := D2.out; have := hk.1; have := hk.2; omega) (.int .i64 (MC.2.1 : Int)) (.int .i64 MC.2.2.a) (.int .i64 MC.2.2.l) (.int .i64 MC.2.2.c) (.string ⟨#[]⟩)⟩)
        replace R2 := Lib.hid (set5 R2.out (.int .i64 (MC.2.1 : Int)) (.int .i64 MC.2.2.a) (.int .i64 MC.2.2.l) (.int .i64 MC.2.2.c) (.string ⟨#[]⟩))
        replace HHI := Lib.hid (Nat.le_trans HHI.out SS)
        clear SB SS y0 y1 y2 y3 y4 gy0 gy1 gy2 gy3 gy4 hby
        clear hK K hH
        have hH := hH'
        clear hH'
        try simp only [Act.put, List.setIfInBounds_toArray, List.set_cons_zero, List.set_cons_succ]
        generalize (((((Wd.setCell ⟨g2, 0, none⟩ (.int .i64 (MC.2.1 : Int))).setCell ⟨g2, 1, none⟩ (.int .i64 MC.2.2.a)).setCell ⟨g2, 2, none⟩ (.int .i64 MC.2.2.l)).setCell ⟨g2, 3, none⟩ (.int .i64 MC.2.2.c)).setCell ⟨g2, 4, none⟩ (.string ⟨#[]⟩)) = We at *
        refine wpAnyH_done (by kernel_rfl) ?_ _
        refine NoPanic.normal ?_
        go_wp2_with fail
        go_meet
        exact ⟨g1, g2, rfl, rfl, ⟨oV, cV, oK, cK, o, cap, hi, R1.out, R2.out, HX.out.mono fun k hk => hk.2, HHI.out, hH.2.1.out⟩⟩
    · go_simp
      have HG2 := hH.2.2
      have BB : Below Ws.heap.size Ws (Ws.alloc (.cells #[.int .i64 0, .int .i64 0, .int .i64 0, .int .i64 0, .string ⟨#[]⟩] 36)) := (Below.refl _ _).alloc (Nat.le_refl _) _
      refine hK.out _ _ ?_ (fun hH' => ?_)
      · exact held_next BB hH
      have R2 := Lib.hid (heap_alloc_new Ws (.cells #[.int .i64 0, .int .i64 0, .int .i64 0, .int .i64 0, .string ⟨#[]⟩] 36))
      clear BB
      clear hK K hH
      have hH := hH'
      clear hH'
      try simp only [Act.put, List.setIfInBounds_toArray, List.set_cons_zero, List.set_cons_succ]
      generalize Ws.alloc (.cells #[.int .i64 0, .int .i64 0, .int .i64 0, .int .i64 0, .string ⟨#[]⟩] 36) = Wb at *
      generalize Ws.heap.size = g2 at *
      refine wpAnyH_ready (rs := [12, 16]) (by kernel_rfl) (by simp) ?_
      refine (AllReadyH.cons (o := { dst := some 68, op := Op.call { callee := Callee.value (Operand.func 9), args := #[Operand.tmp 67], argTypes := #[9] }, type := 37, pos := "law.go:63", after := #[{ on := 11, ground := Ground.data }], guard := none }) rfl (fun K hK => ?_) (AllReadyH.cons (o := { dst := some 13, op := Op.alloc 33, type := 0, pos := "law.go:63", after := #[], guard := none }) rfl (fun K hK => ?_) AllReadyH.nil))
      · go_simp
        refine (CC.out _ hH.2.1.out).mono ?_
        rintro e0 Wc ⟨oV, cV, oK, cK, o, cap, rfl, hx, hb⟩
        refine hK.out _ _ ?_ (fun hH' => ?_)
        · exact held_next hb hH
        have D2 : Hid (g2 < Wb.heap.size ∨ Wc.heap.size ≤ g2) := .inl (Array.getElem?_eq_some_iff.1 R2.out).1
        replace R2 := Lib.hid ((hb.block _ (Array.getElem?_eq_some_iff.1 R2.out).1).trans R2.out)
        have HX : Hid (XP (fun k => Wb.heap.size ≤ k ∧ k < Wc.heap.size) Wc MC.1 (.agg (xc MC.1 oV cV oK cK o cap))) := hx
        have HHI : Hid (Wc.heap.size ≤ Wc.heap.size) := Nat.le_refl _
        clear hx hb
        clear hK K hH
        have hH := hH'
        clear hH'
        try simp only [Act.put, List.setIfInBounds_toArray, List.set_cons_zero, List.set_cons_succ]
        obtain ⟨lo, hlo⟩ : ∃ b, Wb.heap.size = b := ⟨_, rfl⟩
        rw [hlo] at HX
        rw [hlo] at D2
        obtain ⟨hi, hhi⟩ : ∃ b, Wc.heap.size = b := ⟨_, rfl⟩
        replace HHI : Hid (hi ≤ Wc.heap.size) := Nat.le_of_eq hhi.symm
        rw [hhi] at HX
        rw [hhi] at D2
        clear hlo hhi
        refine wpAnyH_take (i := 13) (oi := { dst := some 55, op := Op.move (Operand.tmp 68), type := 37, pos := "law.go:63", after := #[{ on := 12, ground := Ground.data }], guard := none }) (v := ?_) rfl (by kernel_rfl) (by kernel_rfl) (by kernel_rfl) (fun _ _ _ h => h) (Or.inl ⟨by rfl, ?_⟩) (by assumption) ?_
        rotate_left
        · (intro w hSw; (try dsimp only at hSw); go_simp; try with_reducible rfl)
        try simp only [Act.put, List.setIfInBounds_toArray, List.set_cons_zero, List.set_cons_succ]
        refine wpAnyH_take (i := 14) (oi := { dst := some 69, op := Op.extract (Operand.tmp 55) 0, type := 33, pos := "law.go:63", after := #[{ on := 13, ground := Ground.data }], guard := none }) (v := ?_) rfl (by kernel_rfl) (by kernel_rfl) (by kernel_rfl) (fun _ _ _ h => h) (Or.inl ⟨by rfl, ?_⟩) (by assumption) ?_
        rotate_left
        · (intro w hSw; (try dsimp only at hSw); go_simp; try with_reducible rfl)
        try simp only [Act.put, List.setIfInBounds_toArray, List.set_cons_zero, List.set_cons_succ]
        refine wpAnyH_take (i := 15) (oi := { dst := some 70, op := Op.extract (Operand.tmp 55) 1, type := 36, pos := "law.go:63", after := #[{ on := 13, ground := Ground.data }, { on := 18, ground := Ground.gcOnly Departure.lateStores }], guard := none }) (v := ?_) rfl (by kernel_rfl) (by kernel_rfl) (by kernel_rfl) (fun _ _ _ h => h) (Or.inl ⟨by rfl, ?_⟩) (by assumption) ?_
        rotate_left
        · (intro w hSw; (try dsimp only at hSw); go_simp; try with_reducible rfl)
        try simp only [Act.put, List.setIfInBounds_toArray, List.set_cons_zero, List.set_cons_succ]
        refine wpAnyH_ready (rs := [16]) (by kernel_rfl) (by simp) ?_
        refine AllReadyH.cons (o := { dst := some 13, op := Op.alloc 33, type := 0, pos := "law.go:63", after := #[], guard := none }) rfl (fun K hK => ?_) AllReadyH.nil
        go_simp
        have HG1 := hH.2.2
        have BB : Below Wc.heap.size Wc (Wc.alloc (.cells #[.int .i64 0, .string ⟨#[]⟩, .string ⟨#[]⟩, .int .i64 0, .int .i64 0, .string ⟨#[]⟩, .slice none 0 0, .slice none 0 0, .int .i64 0, .int .i64 0, .bool false, .slice none 0 0, .int .i64 0, .int .i64 0, .int .i64 0] 33)) := (Below.refl _ _).alloc (Nat.le_refl _) _
        refine hK.out _ _ ?_ (fun hH' => ?_)
        · exact held_next BB hH
        have HNE : Hid (g2 ≠ Wc.heap.size) := Nat.ne_of_lt (Array.getElem?_eq_some_iff.1 R2.out).1
        have R1 := Lib.hid (heap_alloc_new Wc (.cells #[.int .i64 0, .string ⟨#[]⟩, .string ⟨#[]⟩, .int .i64 0, .int .i64 0, .string ⟨#[]⟩, .slice none 0 0, .slice none 0 0, .int .i64 0, .int .i64 0, .bool false, .slice none 0 0, .int .i64 0, .int .i64 0, .int .i64 0] 33))
        replace R2 := Lib.hid ((heap_alloc_old Wc (.cells #[.int .i64 0, .string ⟨#[]⟩, .string ⟨#[]⟩, .int .i64 0, .int .i64 0, .string ⟨#[]⟩, .slice none 0 0, .slice none 0 0, .int .i64 0, .int .i64 0, .bool false, .slice none 0 0, .int .i64 0, .int .i64 0, .int .i64 0] 33) (Array.getElem?_eq_some_iff.1 R2.out).1).trans R2.out)
        have D1 : Hid (Wc.heap.size < lo ∨ hi ≤ Wc.heap.size) := .inr HHI.out
        replace HX := Lib.hid (HX.out.keptP (P' := fun k => lo ≤ k ∧ k < hi) fun k hk => ⟨hk, BB.block k (Nat.lt_of_lt_of_le hk.2 HHI.out)⟩)
        replace HHI : Hid (hi ≤ (Wc.alloc (.cells #[.int .i64 0, .string ⟨#[]⟩, .string ⟨#[]⟩, .int .i64 0, .int .i64 0, .string ⟨#[]⟩, .slice none 0 0, .slice none 0 0, .int .i64 0, .int .i64 0, .bool false, .slice none 0 0, .int .i64 0, .int .i64 0, .int .i64 0] 33)).heap.size) := Nat.le_trans HHI.out BB.size
        clear BB
        clear hK K hH
        have hH := hH'
        clear hH'
        try simp only [Act.put, List.setIfInBounds_toArray, List.set_cons_zero, List.set_cons_succ]
        generalize Wc.alloc (.cells #[.int .i64 0, .string ⟨#[]⟩, .string ⟨#[]⟩, .int .i64 0, .int .i64 0, .string ⟨#[]⟩, .slice none 0 0, .slice none 0 0, .int .i64 0, .int .i64 0, .bool false, .slice none 0 0, .int .i64 0, .int .i64 0, .int .i64 0] 33) = Wa at *
        generalize Wc.heap.size = g1 at *
        refine wpAnyH_ready (rs := [18]) (by kernel_rfl) (by simp) ?_
        refine AllReadyH.cons (o := { dst := none, op := Op.store 33 (Operand.tmp 13) (Operand.tmp 69), type := 0, pos := "law.go:63", after := #[{ on := 16, ground := Ground.data }, { on := 14, ground := Ground.data }, { on := 12, ground := Ground.chain }, { on := 0, ground := Ground.phase }, { on := 1, ground := Ground.phase }, { on := 2, ground := Ground.phase }, { on := 3, ground := Ground.phase }, { on := 4, ground := Ground.phase }, { on := 5, ground := Ground.phase }, { on := 6, ground := Ground.phase }, { on := 7, ground := Ground.phase }, { on := 8, ground := Ground.phase }, { on := 9, ground := Ground.phase }, { on := 10, ground := Ground.phase }, { on := 11, ground := Ground.phase }, { on := 12, ground := Ground.phase }, { on := 13, ground := Ground.phase }, { on := 14, ground := Ground.phase }, { on := 15, ground := Ground.textOnly Departure.lateStores }, { on := 16, ground := Ground.phase }, { on := 17, ground := Ground.phase }], guard := none }) rfl (fun K hK => ?_) AllReadyH.nil
        obtain ⟨⟨x0, x1, x2, x3, x4, x5, x6, x7, x8, x9, x10, x11, x12, x13, x14⟩, gx, hbx⟩ := rc15 R1.out
        have gx0 := gx 0
        have gx1 := gx 1
        have gx2 := gx 2
        have gx3 := gx 3
        have gx4 := gx 4
        have gx5 := gx 5
        have gx6 := gx 6
        have gx7 := gx 7
        have gx8 := gx 8
        have gx9 := gx 9
        have gx10 := gx 10
        have gx11 := gx 11
        have gx12 := gx 12
        have gx13 := gx 13
        have gx14 := gx 14
        clear gx
        go_simp
        have SB : Below N w6 (((((((((((((((Wa.setCell ⟨g1, 0, none⟩ (.int .i64 MC.1.op)).setCell ⟨g1, 1, none⟩ (.string MC.1.s)).setCell ⟨g1, 2, none⟩ (.string MC.1.s2)).setCell ⟨g1, 3, none⟩ (.int .i64 MC.1.v.k)).setCell ⟨g1, 4, none⟩ (.int .i64 MC.1.v.i)).setCell ⟨g1, 5, none⟩ (.string MC.1.v.s)).setCell ⟨g1, 6, none⟩ (.slice oV MC.1.v.l.length cV)).setCell ⟨g1, 7, none⟩ (.slice oK MC.1.v.ks.length cK)).setCell ⟨g1, 8, none⟩ (.int .i64 MC.1.v.tk)).setCell ⟨g1, 9, none⟩ (.int .i64 MC.1.v.to)).setCell ⟨g1, 10, none⟩ (.bool MC.1.v.x)).setCell ⟨g1, 11, none⟩ (.slice o MC.1.l.length cap)).setCell ⟨g1, 12, none⟩ (.int .i64 MC.1.a)).setCell ⟨g1, 13, none⟩ (.int .i64 MC.1.ln)).setCell ⟨g1, 14, none⟩ (.int .i64 MC.1.c)) := set15_b hH.2.1.out HG1.out (.int .i64 MC.1.op) (.string MC.1.s) (.string MC.1.s2) (.int .i64 MC.1.v.k) (.int .i64 MC.1.v.i) (.string MC.1.v.s) (.slice oV MC.1.v.l.length cV) (.slice oK MC.1.v.ks.length cK) (.int .i64 MC.1.v.tk) (.int .i64 MC.1.v.to) (.bool MC.1.v.x) (.slice o MC.1.l.length cap) (.int .i64 MC.1.a) (.int .i64 MC.1.ln) (.int .i64 MC.1.c)
        have SS := (set15_b (b := g1) (Below.refl 0 Wa) (Nat.zero_le _) (.int .i64 MC.1.op) (.string MC.1.s) (.string MC.1.s2) (.int .i64 MC.1.v.k) (.int .i64 MC.1.v.i) (.string MC.1.v.s) (.slice oV MC.1.v.l.length cV) (.slice oK MC.1.v.ks.length cK) (.int .i64 MC.1.v.tk) (.int .i64 MC.1.v.to) (.bool MC.1.v.x) (.slice o MC.1.l.length cap) (.int .i64 MC.1.a) (.int .i64 MC.1.ln) (.int .i64 MC.1.c)).size
        refine hK.out _ _ ?_ (fun hH' => ?_)
        · exact ⟨fun b o hb => SB.cell (p := ⟨b, o, none⟩) hb, SB, Nat.le_trans hH.2.2.out SS⟩
        replace R2 := Lib.hid ((set15_o (show g2 ≠ g1 from HNE.out) (.int .i64 MC.1.op) (.string MC.1.s) (.string MC.1.s2) (.int .i64 MC.1.v.k) (.int .i64 MC.1.v.i) (.string MC.1.v.s) (.slice oV MC.1.v.l.length cV) (.slice oK MC.1.v.ks.length cK) (.int .i64 MC.1.v.tk) (.int .i64 MC.1.v.to) (.bool MC.1.v.x) (.slice o MC.1.l.length cap) (.int .i64 MC.1.a) (.int .i64 MC.1.ln) (.int .i64 MC.1.c)).trans R2.out)
        replace HX := Lib.hid (HX.out.keptP (P' := fun k => lo ≤ k ∧ k < hi) fun k hk => ⟨hk, set15_o (show k ≠ g1 by have := D1.out; have := hk.1; have := hk.2; omega) (.int .i64 MC.1.op) (.string MC.1.s) (.string MC.1.s2) (.int .i64 MC.1.v.k) (.int .i64 MC.1.v.i) (.string MC.1.v.s) (.slice oV MC.1.v.l.length cV) (.slice oK MC.1.v.ks.length cK) (.int .i64 MC.1.v.tk) (.int .i64 MC.1.v.to) (.bool MC.1.v.x) (.slice o MC.1.l.length cap) (.int .i64 MC.1.a) (.int .i64 MC.1.ln) (.int .i64 MC.1.c)⟩)
        replace R1 := Lib.hid (set15 R1.out (.int .i64 MC.1.op) (.string MC.1.s) (.string MC.1.s2) (.int .i64 MC.1.v.k) (.int .i64 MC.1.v.i) (.string MC.1.v.s) (.slice oV MC.1.v.l.length cV) (.slice oK MC.1.v.ks.length cK) (.int .i64 MC.1.v.tk) (.int .i64 MC.1.v.to) (.bool MC.1.v.x) (.slice o MC.1.l.length cap) (.int .i64 MC.1.a) (.int .i64 MC.1.ln) (.int .i64 MC.1.c))
        replace HHI := Lib.hid (Nat.le_trans HHI.out SS)
        clear SB SS x0 x1 x2 x3 x4 x5 x6 x7 x8 x9 x10 x11 x12 x13 x14 hbx gx0 gx1 gx2 gx3 gx4 gx5 gx6 gx7 gx8 gx9 gx10 gx11 gx12 gx13 gx14
        clear hK K hH
        have hH := hH'
        clear hH'
        try simp only [Act.put, List.setIfInBounds_toArray, List.set_cons_zero, List.set_cons_succ]
        generalize (((((((((((((((Wa.setCell ⟨g1, 0, none⟩ (.int .i64 MC.1.op)).setCell ⟨g1, 1, none⟩ (.string MC.1.s)).setCell ⟨g1, 2, none⟩ (.string MC.1.s2)).setCell ⟨g1, 3, none⟩ (.int .i64 MC.1.v.k)).setCell ⟨g1, 4, none⟩ (.int .i64 MC.1.v.i)).setCell ⟨g1, 5, none⟩ (.string MC.1.v.s)).setCell ⟨g1, 6, none⟩ (.slice oV MC.1.v.l.length cV)).setCell ⟨g1, 7, none⟩ (.slice oK MC.1.v.ks.length cK)).setCell ⟨g1, 8, none⟩ (.int .i64 MC.1.v.tk)).setCell ⟨g1, 9, none⟩ (.int .i64 MC.1.v.to)).setCell ⟨g1, 10, none⟩ (.bool MC.1.v.x)).setCell ⟨g1, 11, none⟩ (.slice o MC.1.l.length cap)).setCell ⟨g1, 12, none⟩ (.int .i64 MC.1.a)).setCell ⟨g1, 13, none⟩ (.int .i64 MC.1.ln)).setCell ⟨g1, 14, none⟩ (.int .i64 MC.1.c)) = Wd at *
        refine wpAnyH_ready (rs := [19]) (by kernel_rfl) (by simp) ?_
        refine AllReadyH.cons (o := { dst := none, op := Op.store 36 (Operand.tmp 14) (Operand.tmp 70), type := 0, pos := "law.go:63", after := #[{ on := 17, ground := Ground.data }, { on := 15, ground := Ground.data }, { on := 18, ground := Ground.chain }, { on := 0, ground := Ground.phase }, { on := 1, ground := Ground.phase }, { on := 2, ground := Ground.phase }, { on := 3, ground := Ground.phase }, { on := 4, ground := Ground.phase }, { on := 5, ground := Ground.phase }, { on := 6, ground := Ground.phase }, { on := 7, ground := Ground.phase }, { on := 8, ground := Ground.phase }, { on := 9, ground := Ground.phase }, { on := 10, ground := Ground.phase }, { on := 11, ground := Ground.phase }, { on := 12, ground := Ground.phase }, { on := 13, ground := Ground.phase }, { on := 14, ground := Ground.phase }, { on := 15, ground := Ground.phase }, { on := 16, ground := Ground.phase }, { on := 17, ground := Ground.phase }, { on := 18, ground := Ground.phase }], guard := none }) rfl (fun K hK => ?_) AllReadyH.nil
        obtain ⟨⟨y0, y1, y2, y3, y4⟩, ⟨gy0, gy1, gy2, gy3, gy4⟩, hby⟩ := rc5 R2.out
        go_simp
        have SB : Below N w6 (((((Wd.setCell ⟨g2, 0, none⟩ (.int .i64 (MC.2.1 : Int))).setCell ⟨g2, 1, none⟩ (.int .i64 MC.2.2.a)).setCell ⟨g2, 2, none⟩ (.int .i64 MC.2.2.l)).setCell ⟨g2, 3, none⟩ (.int .i64 MC.2.2.c)).setCell ⟨g2, 4, none⟩ (.string ⟨#[]⟩)) := set5_b hH.2.1.out HG2.out (.int .i64 (MC.2.1 : Int)) (.int .i64 MC.2.2.a) (.int .i64 MC.2.2.l) (.int .i64 MC.2.2.c) (.string ⟨#[]⟩)
        have SS := (set5_b (b := g2) (Below.refl 0 Wd) (Nat.zero_le _) (.int .i64 (MC.2.1 : Int)) (.int .i64 MC.2.2.a) (.int .i64 MC.2.2.l) (.int .i64 MC.2.2.c) (.string ⟨#[]⟩)).size
        refine hK.out _ _ ?_ (fun hH' => ?_)
        · exact ⟨fun b o hb => SB.cell (p := ⟨b, o, none⟩) hb, SB, Nat.le_trans hH.2.2.out SS⟩
        replace R1 := Lib.hid ((set5_o (show g1 ≠ g2 from fun e => HNE.out e.symm) (.int .i64 (MC.2.1 : Int)) (.int .i64 MC.2.2.a) (.int .i64 MC.2.2.l) (.int .i64 MC.2.2.c) (.string ⟨#[]⟩)).trans R1.out)
        replace HX := Lib.hid (HX.out.keptP (P' := fun k => lo ≤ k ∧ k < hi) fun k hk => ⟨hk, set5_o (show k ≠ g2 by have := D2.out; have := hk.1; have := hk.2; omega) (.int .i64 (MC.2.1 : Int)) (.int .i64 MC.2.2.a) (.int .i64 MC.2.2.l) (.int .i64 MC.2.2.c) (.string ⟨#[]⟩)⟩)
        replace R2 := Lib.hid (set5 R2.out (.int .i64 (MC.2.1 : Int)) (.int .i64 MC.2.2.a) (.int .i64 MC.2.2.l) (.int .i64 MC.2.2.c) (.string ⟨#[]⟩))
        replace HHI := Lib.hid (Nat.le_trans HHI.out SS)
        clear SB SS y0 y1 y2 y3 y4 gy0 gy1 gy2 gy3 gy4 hby
        clear hK K hH
        have hH := hH'
        clear hH'
        try simp only [Act.put, List.setIfInBounds_toArray, List.set_cons_zero, List.set_cons_succ]
        generalize (((((Wd.setCell ⟨g2, 0, none⟩ (.int .i64 (MC.2.1 : Int))).setCell ⟨g2, 1, none⟩ (.int .i64 MC.2.2.a)).setCell ⟨g2, 2, none⟩ (.int .i64 MC.2.2.l)).setCell ⟨g2, 3, none⟩ (.int .i64 MC.2.2.c)).setCell ⟨g2, 4, none⟩ (.string ⟨#[]⟩)) = We at *
        refine wpAnyH_done (by kernel_rfl) ?_ _
        refine NoPanic.normal ?_
        go_wp2_with fail
        go_meet
        exact ⟨g1, g2, rfl, rfl, ⟨oV, cV, oK, cK, o, cap, hi, R1.out, R2.out, HX.out.mono fun k hk => hk.2, HHI.out, hH.2.1.out⟩⟩
      · go_simp
        have HG1 := hH.2.2
        have BB : Below Wb.heap.size Wb (Wb.alloc (.cells #[.int .i64 0, .string ⟨#[]⟩, .string ⟨#[]⟩, .int .i64 0, .int .i64 0, .string ⟨#[]⟩, .slice none 0 0, .slice none 0 0, .int .i64 0, .int .i64 0, .bool false, .slice none 0 0, .int .i64 0, .int .i64 0, .int .i64 0] 33)) := (Below.refl _ _).alloc (Nat.le_refl _) _
        refine hK.out _ _ ?_ (fun hH' => ?_)
        · exact held_next BB hH
        have HNE : Hid (g2 ≠ Wb.heap.size) := Nat.ne_of_lt (Array.getElem?_eq_some_iff.1 R2.out).1
        have R1 := Lib.hid (heap_alloc_new Wb (.cells #[.int .i64 0, .string ⟨#[]⟩, .string ⟨#[]⟩, .int .i64 0, .int .i64 0, .string ⟨#[]⟩, .slice none 0 0, .slice none 0 0, .int .i64 0, .int .i64 0, .bool false, .slice none 0 0, .int .i64 0, .int .i64 0, .int .i64 0] 33))
        replace R2 := Lib.hid ((heap_alloc_old Wb (.cells #[.int .i64 0, .string ⟨#[]⟩, .string ⟨#[]⟩, .int .i64 0, .int .i64 0, .string ⟨#[]⟩, .slice none 0 0, .slice none 0 0, .int .i64 0, .int .i64 0, .bool false, .slice none 0 0, .int .i64 0, .int .i64 0, .int .i64 0] 33) (Array.getElem?_eq_some_iff.1 R2.out).1).trans R2.out)
        clear BB
        clear hK K hH
        have hH := hH'
        clear hH'
        try simp only [Act.put, List.setIfInBounds_toArray, List.set_cons_zero, List.set_cons_succ]
        generalize Wb.alloc (.cells #[.int .i64 0, .string ⟨#[]⟩, .string ⟨#[]⟩, .int .i64 0, .int .i64 0, .string ⟨#[]⟩, .slice none 0 0, .slice none 0 0, .int .i64 0, .int .i64 0, .bool false, .slice none 0 0, .int .i64 0, .int .i64 0, .int .i64 0] 33) = Wa at *
        generalize Wb.heap.size = g1 at *
        refine wpAnyH_ready (rs := [12]) (by kernel_rfl) (by simp) ?_
        refine AllReadyH.cons (o := { dst := some 68, op := Op.call { callee := Callee.value (Operand.func 9), args := #[Operand.tmp 67], argTypes := #[9] }, type := 37, pos := "law.go:63", after := #[{ on := 11, ground := Ground.data }], guard := none }) rfl (fun K hK => ?_) AllReadyH.nil
        go_simp
        refine (CC.out _ hH.2.1.out).mono ?_
        rintro e0 Wc ⟨oV, cV, oK, cK, o, cap, rfl, hx, hb⟩
        refine hK.out _ _ ?_ (fun hH' => ?_)
        · exact held_next hb hH
        have D1 : Hid (g1 < Wa.heap.size ∨ Wc.heap.size ≤ g1) := .inl (Array.getElem?_eq_some_iff.1 R1.out).1
        replace R1 := Lib.hid ((hb.block _ (Array.getElem?_eq_some_iff.1 R1.out).1).trans R1.out)
        have D2 : Hid (g2 < Wa.heap.size ∨ Wc.heap.size ≤ g2) := .inl (Array.getElem?_eq_some_iff.1 R2.out).1
        replace R2 := Lib.hid ((hb.block _ (Array.getElem?_eq_some_iff.1 R2.out).1).trans R2.out)
        have HX : Hid (XP (fun k => Wa.heap.size ≤ k ∧ k < Wc.heap.size) Wc MC.1 (.agg (xc MC.1 oV cV oK cK o cap))) := hx
        have HHI : Hid (Wc.heap.size ≤ Wc.heap.size) := Nat.le_refl _
        clear hx hb
        clear hK K hH
        have hH := hH'
        clear hH'
        try simp only [Act.put, List.setIfInBounds_toArray, List.set_cons_zero, List.set_cons_succ]
        obtain ⟨lo, hlo⟩ : ∃ b, Wa.heap.size = b := ⟨_, rfl⟩
        rw [hlo] at HX
        rw [hlo] at D1
        rw [hlo] at D2
        obtain ⟨hi, hhi⟩ : ∃ b, Wc.heap.size = b := ⟨_, rfl⟩
        replace HHI : Hid (hi ≤ Wc.heap.size) := Nat.le_of_eq hhi.symm
        rw [hhi] at HX
        rw [hhi] at D1
        rw [hhi] at D2
        clear hlo hhi
        refine wpAnyH_take (i := 13) (oi := { dst := some 55, op := Op.move (Operand.tmp 68), type := 37, pos := "law.go:63", after := #[{ on := 12, ground := Ground.data }], guard := none }) (v := ?_) rfl (by kernel_rfl) (by kernel_rfl) (by kernel_rfl) (fun _ _ _ h => h) (Or.inl ⟨by rfl, ?_⟩) (by assumption) ?_
        rotate_left
        · (intro w hSw; (try dsimp only at hSw); go_simp; try with_reducible rfl)
        try simp only [Act.put, List.setIfInBounds_toArray, List.set_cons_zero, List.set_cons_succ]
        refine wpAnyH_take (i := 14) (oi := { dst := some 69, op := Op.extract (Operand.tmp 55) 0, type := 33, pos := "law.go:63", after := #[{ on := 13, ground := Ground.data }], guard := none }) (v := ?_) rfl (by kernel_rfl) (by kernel_rfl) (by kernel_rfl) (fun _ _ _ h => h) (Or.inl ⟨by rfl, ?_⟩) (by assumption) ?_
        rotate_left
        · (intro w hSw; (try dsimp only at hSw); go_simp; try with_reducible rfl)
        try simp only [Act.put, List.setIfInBounds_toArray, List.set_cons_zero, List.set_cons_succ]
        refine wpAnyH_take (i := 15) (oi := { dst := some 70, op := Op.extract (Operand.tmp 55) 1, type := 36, pos := "law.go:63", after := #[{ on := 13, ground := Ground.data }, { on := 18, ground := Ground.gcOnly Departure.lateStores }], guard := none }) (v := ?_) rfl (by kernel_rfl) (by kernel_rfl) (by kernel_rfl) (fun _ _ _ h => h) (Or.inl ⟨by rfl, ?_⟩) (by assumption) ?_
        rotate_left
        · (intro w hSw; (try dsimp only at hSw); go_simp; try with_reducible rfl)
        try simp only [Act.put, List.setIfInBounds_toArray, List.set_cons_zero, List.set_cons_succ]
        refine wpAnyH_ready (rs := [18]) (by kernel_rfl) (by simp) ?_
        refine AllReadyH.cons (o := { dst := none, op := Op.store 33 (Operand.tmp 13) (Operand.tmp 69), type := 0, pos := "law.go:63", after := #[{ on := 16, ground := Ground.data }, { on := 14, ground := Ground.data }, { on := 12, ground := Ground.chain }, { on := 0, ground := Ground.phase }, { on := 1, ground := Ground.phase }, { on := 2, ground := Ground.phase }, { on := 3, ground := Ground.phase }, { on := 4, ground := Ground.phase }, { on := 5, ground := Ground.phase }, { on := 6, ground := Ground.phase }, { on := 7, ground := Ground.phase }, { on := 8, ground := Ground.phase }, { on := 9, ground := Ground.phase }, { on := 10, ground := Ground.phase }, { on := 11, ground := Ground.phase }, { on := 12, ground := Ground.phase }, { on := 13, ground := Ground.phase }, { on := 14, ground := Ground.phase }, { on := 15, ground := Ground.textOnly Departure.lateStores }, { on := 16, ground := Ground.phase }, { on := 17, ground := Ground.phase }], guard := none }) rfl (fun K hK => ?_) AllReadyH.nil
        obtain ⟨⟨x0, x1, x2, x3, x4, x5, x6, x7, x8, x9, x10, x11, x12, x13, x14⟩, gx, hbx⟩ := rc15 R1.out
        have gx0 := gx 0
        have gx1 := gx 1
        have gx2 := gx 2
        have gx3 := gx 3
        have gx4 := gx 4
        have gx5 := gx 5
        have gx6 := gx 6
        have gx7 := gx 7
        have gx8 := gx 8
        have gx9 := gx 9
        have gx10 := gx 10
        have gx11 := gx 11
        have gx12 := gx 12
        have gx13 := gx 13
        have gx14 := gx 14
        clear gx
        go_simp
        have SB : Below N w6 (((((((((((((((Wc.setCell ⟨g1, 0, none⟩ (.int .i64 MC.1.op)).setCell ⟨g1, 1, none⟩ (.string MC.1.s)).setCell ⟨g1, 2, none⟩ (.string MC.1.s2)).setCell ⟨g1, 3, none⟩ (.int .i64 MC.1.v.k)).setCell ⟨g1, 4, none⟩ (.int .i64 MC.1.v.i)).setCell ⟨g1, 5, none⟩ (.string MC.1.v.s)).setCell ⟨g1, 6, none⟩ (.slice oV MC.1.v.l.length cV)).setCell ⟨g1, 7, none⟩ (.slice oK MC.1.v.ks.length cK)).setCell ⟨g1, 8, none⟩ (.int .i64 MC.1.v.tk)).setCell ⟨g1, 9, none⟩ (.int .i64 MC.1.v.to)).setCell ⟨g1, 10, none⟩ (.bool MC.1.v.x)).setCell ⟨g1, 11, none⟩ (.slice o MC.1.l.length cap)).setCell ⟨g1, 12, none⟩ (.int .i64 MC.1.a)).setCell ⟨g1, 13, none⟩ (.int .i64 MC.1.ln)).setCell ⟨g1, 14, none⟩ (.int .i64 MC.1.c)) := set15_b hH.2.1.out HG1.out (.int .i64 MC.1.op) (.string MC.1.s) (.string MC.1.s2) (.int .i64 MC.1.v.k) (.int .i64 MC.1.v.i) (.string MC.1.v.s) (.slice oV MC.1.v.l.length cV) (.slice oK MC.1.v.ks.length cK) (.int .i64 MC.1.v.tk) (.int .i64 MC.1.v.to) (.bool MC.1.v.x) (.slice o MC.1.l.length cap) (.int .i64 MC.1.a) (.int .i64 MC.1.ln) (.int .i64 MC.1.c)
        have SS := (set15_b (b := g1) (Below.refl 0 Wc) (Nat.zero_le _) (.int .i64 MC.1.op) (.string MC.1.s) (.string MC.1.s2) (.int .i64 MC.1.v.k) (.int .i64 MC.1.v.i) (.string MC.1.v.s) (.slice oV MC.1.v.l.length cV) (.slice oK MC.1.v.ks.length cK) (.int .i64 MC.1.v.tk) (.int .i64 MC.1.v.to) (.bool MC.1.v.x) (.slice o MC.1.l.length cap) (.int .i64 MC.1.a) (.int .i64 MC.1.ln) (.int .i64 MC.1.c)).size
        refine hK.out _ _ ?_ (fun hH' => ?_)
        · exact ⟨fun b o hb => SB.cell (p := ⟨b, o, none⟩) hb, SB, Nat.le_trans hH.2.2.out SS⟩
        replace R2 := Lib.hid ((set15_o (show g2 ≠ g1 from HNE.out) (.int .i64 MC.1.op) (.string MC.1.s) (.string MC.1.s2) (.int .i64 MC.1.v.k) (.int .i64 MC.1.v.i) (.string MC.1.v.s) (.slice oV MC.1.v.l.length cV) (.slice oK MC.1.v.ks.length cK) (.int .i64 MC.1.v.tk) (.int .i64 MC.1.v.to) (.bool MC.1.v.x) (.slice o MC.1.l.length cap) (.int .i64 MC.1.a) (.int .i64 MC.1.ln) (.int .i64 MC.1.c)).trans R2.out)
        replace HX := Lib.hid (HX.out.keptP (P' := fun k => lo ≤ k ∧ k < hi) fun k hk => ⟨hk, set15_o (show k ≠ g1 by have := D1.out; have := hk.1; have := hk.2; omega) (.int .i64 MC.1.op) (.string MC.1.s) (.string MC.1.s2) (.int .i64 MC.1.v.k) (.int .i64 MC.1.v.i) (.string MC.1.v.s) (.slice oV MC.1.v.l.length cV) (.slice oK MC.1.v.ks.length cK) (.int .i64 MC.1.v.tk) (.int .i64 MC.1.v.to) (.bool MC.1.v.x) (.slice o MC.1.l.length cap) (.int .i64 MC.1.a) (.int .i64 MC.1.ln) (.int .i64 MC.1.c)⟩)
        replace R1 := Lib.hid (set15 R1.out (.int .i64 MC.1.op) (.string MC.1.s) (.string MC.1.s2) (.int .i64 MC.1.v.k) (.int .i64 MC.1.v.i) (.string MC.1.v.s) (.slice oV MC.1.v.l.length cV) (.slice oK MC.1.v.ks.length cK) (.int .i64 MC.1.v.tk) (.int .i64 MC.1.v.to) (.bool MC.1.v.x) (.slice o MC.1.l.length cap) (.int .i64 MC.1.a) (.int .i64 MC.1.ln) (.int .i64 MC.1.c))
        replace HHI := Lib.hid (Nat.le_trans HHI.out SS)
        clear SB SS x0 x1 x2 x3 x4 x5 x6 x7 x8 x9 x10 x11 x12 x13 x14 hbx gx0 gx1 gx2 gx3 gx4 gx5 gx6 gx7 gx8 gx9 gx10 gx11 gx12 gx13 gx14
        clear hK K hH
        have hH := hH'
        clear hH'
        try simp only [Act.put, List.setIfInBounds_toArray, List.set_cons_zero, List.set_cons_succ]
        generalize (((((((((((((((Wc.setCell ⟨g1, 0, none⟩ (.int .i64 MC.1.op)).setCell ⟨g1, 1, none⟩ (.string MC.1.s)).setCell ⟨g1, 2, none⟩ (.string MC.1.s2)).setCell ⟨g1, 3, none⟩ (.int .i64 MC.1.v.k)).setCell ⟨g1, 4, none⟩ (.int .i64 MC.1.v.i)).setCell ⟨g1, 5, none⟩ (.string MC.1.v.s)).setCell ⟨g1, 6, none⟩ (.slice oV MC.1.v.l.length cV)).setCell ⟨g1, 7, none⟩ (.slice oK MC.1.v.ks.length cK)).setCell ⟨g1, 8, none⟩ (.int .i64 MC.1.v.tk)).setCell ⟨g1, 9, none⟩ (.int .i64 MC.1.v.to)).setCell ⟨g1, 10, none⟩ (.bool MC.1.v.x)).setCell ⟨g1, 11, none⟩ (.slice o MC.1.l.length cap)).setCell ⟨g1, 12, none⟩ (.int .i64 MC.1.a)).setCell ⟨g1, 13, none⟩ (.int .i64 MC.1.ln)).setCell ⟨g1, 14, none⟩ (.int .i64 MC.1.c)) = Wd at *
        refine wpAnyH_ready (rs := [19]) (by kernel_rfl) (by simp) ?_
        refine AllReadyH.cons (o := { dst := none, op := Op.store 36 (Operand.tmp 14) (Operand.tmp 70), type := 0, pos := "law.go:63", after := #[{ on := 17, ground := Ground.data }, { on := 15, ground := Ground.data }, { on := 18, ground := Ground.chain }, { on := 0, ground := Ground.phase }, { on := 1, ground := Ground.phase }, { on := 2, ground := Ground.phase }, { on := 3, ground := Ground.phase }, { on := 4, ground := Ground.phase }, { on := 5, ground := Ground.phase }, { on := 6, ground := Ground.phase }, { on := 7, ground := Ground.phase }, { on := 8, ground := Ground.phase }, { on := 9, ground := Ground.phase }, { on := 10, ground := Ground.phase }, { on := 11, ground := Ground.phase }, { on := 12, ground := Ground.phase }, { on := 13, ground := Ground.phase }, { on := 14, ground := Ground.phase }, { on := 15, ground := Ground.phase }, { on := 16, ground := Ground.phase }, { on := 17, ground := Ground.phase }, { on := 18, ground := Ground.phase }], guard := none }) rfl (fun K hK => ?_) AllReadyH.nil
        obtain ⟨⟨y0, y1, y2, y3, y4⟩, ⟨gy0, gy1, gy2, gy3, gy4⟩, hby⟩ := rc5 R2.out
        go_simp
        have SB : Below N w6 (((((Wd.setCell ⟨g2, 0, none⟩ (.int .i64 (MC.2.1 : Int))).setCell ⟨g2, 1, none⟩ (.int .i64 MC.2.2.a)).setCell ⟨g2, 2, none⟩ (.int .i64 MC.2.2.l)).setCell ⟨g2, 3, none⟩ (.int .i64 MC.2.2.c)).setCell ⟨g2, 4, none⟩ (.string ⟨#[]⟩)) := set5_b hH.2.1.out HG2.out (.int .i64 (MC.2.1 : Int)) (.int .i64 MC.2.2.a) (.int .i64 MC.2.2.l) (.int .i64 MC.2.2.c) (.string ⟨#[]⟩)
        have SS := (set5_b (b := g2) (Below.refl 0 Wd) (Nat.zero_le _) (.int .i64 (MC.2.1 : Int)) (.int .i64 MC.2.2.a) (.int .i64 MC.2.2.l) (.int .i64 MC.2.2.c) (.string ⟨#[]⟩)).size
        refine hK.out _ _ ?_ (fun hH' => ?_)
        · exact ⟨fun b o hb => SB.cell (p := ⟨b, o, none⟩) hb, SB, Nat.le_trans hH.2.2.out SS⟩
        replace R1 := Lib.hid ((set5_o (show g1 ≠ g2 from fun e => HNE.out e.symm) (.int .i64 (MC.2.1 : Int)) (.int .i64 MC.2.2.a) (.int .i64 MC.2.2.l) (.int .i64 MC.2.2.c) (.string ⟨#[]⟩)).trans R1.out)
        replace HX := Lib.hid (HX.out.keptP (P' := fun k => lo ≤ k ∧ k < hi) fun k hk => ⟨hk, set5_o (show k ≠ g2 by have := D2.out; have := hk.1; have := hk.2; omega) (.int .i64 (MC.2.1 : Int)) (.int .i64 MC.2.2.a) (.int .i64 MC.2.2.l) (.int .i64 MC.2.2.c) (.string ⟨#[]⟩)⟩)
        replace R2 := Lib.hid (set5 R2.out (.int .i64 (MC.2.1 : Int)) (.int .i64 MC.2.2.a) (.int .i64 MC.2.2.l) (.int .i64 MC.2.2.c) (.string ⟨#[]⟩))
        replace HHI := Lib.hid (Nat.le_trans HHI.out SS)
        clear SB SS y0 y1 y2 y3 y4 gy0 gy1 gy2 gy3 gy4 hby
        clear hK K hH
        have hH := hH'
        clear hH'
        try simp only [Act.put, List.setIfInBounds_toArray, List.set_cons_zero, List.set_cons_succ]
        generalize (((((Wd.setCell ⟨g2, 0, none⟩ (.int .i64 (MC.2.1 : Int))).setCell ⟨g2, 1, none⟩ (.int .i64 MC.2.2.a)).setCell ⟨g2, 2, none⟩ (.int .i64 MC.2.2.l)).setCell ⟨g2, 3, none⟩ (.int .i64 MC.2.2.c)).setCell ⟨g2, 4, none⟩ (.string ⟨#[]⟩)) = We at *
        refine wpAnyH_done (by kernel_rfl) ?_ _
        refine NoPanic.normal ?_
        go_wp2_with fail
        go_meet
        exact ⟨g1, g2, rfl, rfl, ⟨oV, cV, oK, cK, o, cap, hi, R1.out, R2.out, HX.out.mono fun k hk => hk.2, HHI.out, hH.2.1.out⟩⟩
  case rest =>
  obtain ⟨gc, dc, rfl, rfl, hpk⟩ := hcut
  generalize wc = w7 at *
  have HBx : Hid (Below w6.heap.size w6 w7) := by have := hpk; obtain ⟨_, _, _, _, _, _, _, _, _, _, _, hb⟩ := this; rw [← HN.out]; exact hb
  replace ci := (HBx.out.cell (p := ⟨b1, i, none⟩) (by rw [← HN.out]; exact lb1)).trans ci
  replace ck := (HBx.out.cell (p := ⟨b1, k, none⟩) (by rw [← HN.out]; exact lb1)).trans ck
  replace HLi := Lib.hid ((HBx.out.cell (p := ⟨b1 + 1, i, none⟩) LB.out).trans HLi.out)
  replace HLk := Lib.hid ((HBx.out.cell (p := ⟨b1 + 1, k, none⟩) LB.out).trans HLk.out)
  replace LB : Hid (b1 + 1 < w7.heap.size) := Nat.lt_of_lt_of_le LB.out HBx.out.size
  replace HT : Hid (Tab w7 ∧ Lev w7 ∧ 2 ≤ w7.heap.size) := ⟨HT.out.1.at (HBx.out.block 0 (by have := HT.out.2.2; omega)), HT.out.2.1.at (HBx.out.block 1 (by have := HT.out.2.2; omega)), Nat.le_trans HT.out.2.2 HBx.out.size⟩
  replace HB0 := Lib.hid (HB0.out.trans (HBx.out.mono HB1.out))
  replace HB1 : Hid (b1 ≤ w7.heap.size) := Nat.le_trans HB1.out HBx.out.size
  replace Ka : Hid (∃ N0 W0, PK N0 W0 w7 ga da MA) := by obtain ⟨N0, W0, h⟩ := Ka.out; exact ⟨_, _, h.kept0 HBx.out (Nat.le_refl _)⟩
  replace Kb : Hid (∃ N0 W0, PK N0 W0 w7 gb db MB) := by obtain ⟨N0, W0, h⟩ := Kb.out; exact ⟨_, _, h.kept0 HBx.out (Nat.le_refl _)⟩
  have Kc : Hid (∃ N0 W0, PK N0 W0 w7 gc dc MC) := ⟨_, _, hpk⟩
  clear hpk HBx S0 lb1 CC HN
  clear N
  refine (show ∀ (a : Act) (w' : World), Code.wp Tryd.prog (lrest 7) _ a w' → _ from by assumption) _ _ (loose_r7 a b i k hi1 hk1 HLi HLk LB HT HB0 HB1 HEB MA MB MC HLO ga da Ka gb db Kb gc dc Kc _ _ _ _ _ _ _ _ _ _ _ _ _ _ _ _ _ _ _ _ _ _ _ _ _ _ _ _ _ _ _ _ _ _ _ _ _ _ _ _ _ _ _ _ _ _ _ _ _ _ _ _ _ _ _ _ _ _ _ _ _ _ _ _ _ _ _ _ _ _ _ _ _ _ _ _ _ _ _ _ _ _ _ _ _ _ _ _ _ _ _ _ _ _ _ _ _ _ _ _ _ _ _ _ _ _ _ _ _ _ _ _ _)
end Go.Proofs.YtncjncacfagldaaDoor

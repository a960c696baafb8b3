/- ValueOwn: the law's walk. -/
import Derived.Test.YtfgkkccgecnchaaLg
import Derived.StillTailTactics
import Derived.Laws.Concat
import Derived.Deep.CutBlock
import Derived.Test.YtfgkkccgecnchaaSb
import Derived.Test.YtfgkkccgecnchaaAw
import Derived.Test.YtfgkkccgecnchaaU
import Derived.Deep.Cut
namespace Go.Proofs.Ytfgkkccgecnchaa
open Go.RowKit

set_option maxRecDepth 100000 in
set_option maxHeartbeats 8000000 in
theorem own_any {n : Nat} {V : Val} {v : Value} {w : World} (h : Lies n w V v) (hn : n ≤ w.heap.size) : Calls Try.prog 4 #[v] w fun e w' => e = .returned (.bool true) ∧ Below w.heap.size w w' := by
  obtain ⟨oL, oK, cL, cK, c, rfl, O⟩ := h.inv
  have HB := Lib.hid (Hd.made w V (.slice oL V.l.length cL) (.slice oK V.ks.length cK))
  have HW := Lib.hid ((Below.refl w.heap.size w).alloc (Nat.le_refl _) (bx V oL oK cL cK))
  have HZ : Hid ((w.alloc (bx V oL oK cL cK)).heap.size = w.heap.size + 1) := by simp [Hid]
  have H := Lib.hid (O.kept (HW.out.mono hn))
  clear h O
  go_enter Try.func4, Try.ntmps4
  go_wp2_with fail
  generalize w.alloc _ = w0 at *
  refine (Great_any2 H.out.lies (by have := HZ.out; omega)).mono ?_
  rintro e w1 ⟨bg, rfl, hs, b1⟩
  have B1 := Lib.hid b1
  obtain ⟨x8, x0, x1, x2, x3, x4, x5, x6, x7⟩ := HB.out.kept b1 (by have := HZ.out; omega)
  clear b1
  cases bg with
  | true =>
    clear hs
    go_wp2_with fail
    refine (awake_any _).mono ?_
    rintro e w2 ⟨rfl, b2⟩
    have B2 := Lib.hid (HW.out.trans ((B1.out.trans (b2.mono B1.out.size)).mono (by have := HZ.out; omega)))
    clear b2
    go_wp2_with fail
    go_ret
    exact ⟨rfl, B2.out⟩
  | false =>
    have hss := hs rfl
    have hsz := hss.1
    have HSH := Lib.hid hss.2
    clear hs hss
    -- Copy
    go_wp2_with fail
    refine (copy_any 60000 (Nat.le_refl _) n V _ _ (by omega) (H.out.kept (B1.out.mono (by have := HZ.out; omega))).lies (by have := HZ.out; have := B1.out.size; omega)).mono ?_
    rintro e w2 ⟨oL2, oK2, cL2, cK2, c2, rfl, O2, _, _, b2⟩
    have B2 := Lib.hid (B1.out.trans (b2.mono B1.out.size))
    have HO2 := Lib.hid O2
    clear b2 O2 x8 x0 x1 x2 x3 x4 x5 x6 x7
    obtain ⟨x8, x0, x1, x2, x3, x4, x5, x6, x7⟩ := HB.out.kept B2.out (by have := HZ.out; omega)
    -- List
    have hz := HZ.out
    have hs2 := B2.out.size
    have P3 : Hid (Hd (w2.alloc (.cells (c8 V (.slice oL2 V.l.length cL2) (.slice oK2 V.ks.length cK2)) 27)) w2.heap.size V (.slice oL2 V.l.length cL2) (.slice oK2 V.ks.length cK2)) := Hd.made w2 V _ _
    have s3 : (w2.alloc (.cells (c8 V (.slice oL2 V.l.length cL2) (.slice oK2 V.ks.length cK2)) 27)).heap.size = w2.heap.size + 1 := by simp
    have R3 := row_one (w2.alloc (.cells (c8 V (.slice oL2 V.l.length cL2) (.slice oK2 V.ks.length cK2)) 27)) V (.slice oL V.l.length cL) (.slice oK V.ks.length cK)
    have B3 : Hid (Below w2.heap.size w2 ((w2.alloc (.cells (c8 V (.slice oL2 V.l.length cL2) (.slice oK2 V.ks.length cK2)) 27)).alloc (.cells (c8 V (.slice oL V.l.length cL) (.slice oK V.ks.length cK)) 27))) := ((Below.refl _ _).alloc (Nat.le_refl _) _).alloc (by omega) _
    have P3' := Lib.hid (P3.out.kept ((Below.refl (w2.heap.size + 1) _).alloc (by omega) (.cells (c8 V (.slice oL V.l.length cL) (.slice oK V.ks.length cK)) 27)) (Nat.lt_succ_self _))
    rw [s3] at R3
    have HR3 := Lib.hid R3
    have S3 : Hid (((w2.alloc (.cells (c8 V (.slice oL2 V.l.length cL2) (.slice oK2 V.ks.length cK2)) 27)).alloc (.cells (c8 V (.slice oL V.l.length cL) (.slice oK V.ks.length cK)) 27)).heap.size = w2.heap.size + 2) := by simp [Hid]
    clear R3 s3 P3 hz hs2
    go_wp2_with fail
    generalize (w2.alloc _).alloc _ = w3 at *
    have hz := HZ.out
    have hs2 := B2.out.size
    have hs3 := S3.out
    have B3' := Lib.hid (B2.out.trans (B3.out.mono B2.out.size))
    have hVl : szL [V] ≤ 60000 := by simp [szL]; omega
    refine (dlist_any (n := w3.heap.size) (l := [V]) hVl (HR3.out.mono (fun b hb => by omega)) (fun j x hx => ?_) (Nat.le_refl _)).mono ?_
    · obtain ⟨hj, hx⟩ := List.getElem?_eq_some_iff.1 hx
      obtain rfl : j = 0 := by simpa using hj
      subst hx
      exact ((H.out.kept (B3'.out.mono (by omega))).lies).mono (fun b hb => by omega)
    rintro e w4 ⟨o4, cap4, c4, rfl, r4, e4, m4, b4⟩
    obtain ⟨g4, f4, oL4, oK4, cL4, cK4, rfl, hg4, E4, D4⟩ := one_el r4 (e4 0 V rfl)
    have HE4 := Lib.hid (And.intro E4 D4)
    have B4 := Lib.hid (B3'.out.trans (b4.mono B3'.out.size))
    have P4 := Lib.hid (P3'.out.kept b4 (by omega))
    have B24 := Lib.hid (B3.out.trans (b4.mono (by omega)))
    clear r4 e4 m4 E4 D4 b4 x8 x0 x1 x2 x3 x4 x5 x6 x7
    obtain ⟨x8, x0, x1, x2, x3, x4, x5, x6, x7⟩ := HB.out.kept B4.out (by omega)
    have HT := Lib.hid (t5_made w4 4 (.slice (some ⟨g4, f4, none⟩) 1 cap4) (.slice none 0 0) V (.slice oL V.l.length cL) (.slice oK V.ks.length cK))
    go_wp2_with fail
    generalize ((w4.alloc _).alloc _).alloc _ = w5 at *
    have hs4 := B4.out.size
    have hT := HT.out.size
    have B5 := Lib.hid (B4.out.trans (HT.out.bel.mono B4.out.size))
    refine (make_any (n := w5.heap.size) (ks := [k1]) (l := [V]) (by simp) hVl HT.out.ks (fun s hs => by obtain rfl : s = k1 := (by simpa using hs); unfold maxLen; decide) HT.out.vs (fun j x hx => ?_) (Nat.le_refl _)).mono ?_
    · obtain ⟨hj, hx⟩ := List.getElem?_eq_some_iff.1 hx
      obtain rfl : j = 0 := by simpa using hj
      subst hx
      exact ((H.out.kept (B5.out.mono (by omega))).lies).mono (fun b hb => by omega)
    rintro e w6 hp
    rcases hp with ⟨hne, _⟩ | ⟨_, hnd, _⟩ | ⟨_, _, rs, xs, o5, oK5, cap5, capK5, c5, hS, hx1, hx2, he, r5, e5, m5, rK5, ouK5, b5⟩
    · exact absurd rfl hne
    · exact absurd (dst_one _) hnd
    obtain rfl := srt_one hS
    obtain rfl := xs_one hx1 hx2
    subst he
    obtain ⟨g5, f5, oL5, oK5', cL5, cK5, rfl, hg5, E5, D5⟩ := one_el r5 (e5 0 V rfl)
    have HE5 := Lib.hid (And.intro E5 D5)
    have B6 := Lib.hid (B5.out.trans (b5.mono B5.out.size))
    have P6 := Lib.hid (P4.out.kept (HT.out.bel.trans (b5.mono (by omega))) (by omega))
    have LB6 := Lib.hid (HT.out.lb.kept b5 (by omega))
    have BK := Lib.hid (HT.out.bel.trans (b5.mono (by omega)))
    have b56 := Lib.hid b5
    clear r5 e5 m5 rK5 ouK5 E5 D5 b5 hS hx1 hx2 x8 x0 x1 x2 x3 x4 x5 x6 x7
    obtain ⟨x8, x0, x1, x2, x3, x4, x5, x6, x7⟩ := HB.out.kept B6.out (by omega)
    obtain ⟨z0, z3, z4⟩ := LB6.out.cells
    have z8 := LB6.out.lt
    have LB7 := Lib.hid (LB.made w6 5 (.slice (some ⟨g5, f5, none⟩) 1 cap5) (.slice oK5 1 capK5))
    have K7 := Lib.hid ((Below.refl w6.heap.size w6).alloc (Nat.le_refl _) (.cells #[.int .i64 5, .int .i64 0, .string ⟨#[]⟩, .slice (some ⟨g5, f5, none⟩) 1 cap5, .slice oK5 1 capK5, .int .i64 0, .int .i64 0, .bool false] 27))
    have Z7 : Hid ((w6.alloc (.cells #[.int .i64 5, .int .i64 0, .string ⟨#[]⟩, .slice (some ⟨g5, f5, none⟩) 1 cap5, .slice oK5 1 capK5, .int .i64 0, .int .i64 0, .bool false] 27)).heap.size = w6.heap.size + 1) := by simp [Hid]
    go_upto_region 8 with fail
    generalize w6.alloc _ = w7 at *
    clear x8 x0 x1 x2 x3 x4 x5 x6 x7 z0 z3 z4 z8
    have hs6 := b56.out.size
    have hz7 := Z7.out
    have B7 := Lib.hid (B6.out.trans (K7.out.mono B6.out.size))
    have P7 := Lib.hid (P6.out.kept K7.out (by omega))
    have LC7 := Lib.hid (LB6.out.kept K7.out (by omega))
    have BK7 := Lib.hid (BK.out.trans (K7.out.mono (by omega)))
    have hg4b := hg4.2
    have hg5b := hg5.2
    have E47 := Lib.hid (HE4.out.1.keptP BK7.out hg4b)
    have D47 := Lib.hid (HE4.out.2.kept BK7.out.size (fun k _ h => BK7.out.block k h))
    have E57 := Lib.hid (HE5.out.1.keptP K7.out hg5b)
    have D57 := Lib.hid (HE5.out.2.kept K7.out.size (fun k _ h => K7.out.block k h))
    clear P6 LB6
    obtain ⟨x8, x0, x1, x2, x3, x4, x5, x6, x7⟩ := HB.out.kept B7.out (by omega)
    obtain ⟨z0, z3, z4⟩ := LC7.out.cells
    obtain ⟨u0, u1, u2, u3, u4, u5, u6, u7⟩ := E47.out
    obtain ⟨N7, hN7⟩ : ∃ N, N = w7.heap.size := ⟨_, rfl⟩
    have S0 := held_at hN7
    have la : w.heap.size < N7 := by omega
    have lb : w4.heap.size < N7 := by omega
    have lc : g4 < N7 := by omega
    have HN7 := Lib.hid hN7
    have LW7 : Hid (∀ W, ((∀ b o, b < N7 → W.cell? ⟨b, o, none⟩ = w7.cell? ⟨b, o, none⟩) ∧ Hid (Below N7 w7 W) ∧ Hid (N7 ≤ W.heap.size)) → Below w0.heap.size w0 W) := fun W h => B7.out.trans (h.2.1.out.mono (by rw [HN7.out]; exact B7.out.size))
    have LV : Hid (∀ W, ((∀ b o, b < N7 → W.cell? ⟨b, o, none⟩ = w7.cell? ⟨b, o, none⟩) ∧ Hid (Below N7 w7 W) ∧ Hid (N7 ≤ W.heap.size)) → Lies n W V (vv V.k V.i V.s (.slice oL V.l.length cL) (.slice oK V.ks.length cK) V.tk V.to V.x) ∧ n ≤ W.heap.size) := fun W h => ⟨(H.out.kept ((LW7.out W h).mono (by omega))).lies, by have := (LW7.out W h).size; omega⟩
    obtain ⟨U, hU⟩ : ∃ U, U = bare V := ⟨_, rfl⟩
    obtain ⟨M, hM⟩ : ∃ M, M = V.sx true := ⟨_, rfl⟩
    have CA : Hid (∀ W, ((∀ b o, b < N7 → W.cell? ⟨b, o, none⟩ = w7.cell? ⟨b, o, none⟩) ∧ Hid (Below N7 w7 W) ∧ Hid (N7 ≤ W.heap.size)) → Calls Try.prog 18 #[vv V.k V.i V.s (.slice oL V.l.length cL) (.slice oK V.ks.length cK) V.tk V.to V.x] W (CpPost V W)) := fun W h => copy_any 60000 (Nat.le_refl _) n V _ W (by omega) (LV.out W h).1 (LV.out W h).2
    have CB : Hid (∀ W, ((∀ b o, b < N7 → W.cell? ⟨b, o, none⟩ = w7.cell? ⟨b, o, none⟩) ∧ Hid (Below N7 w7 W) ∧ Hid (N7 ≤ W.heap.size)) → Calls Try.prog 21 #[vv V.k V.i V.s (.slice oL V.l.length cL) (.slice oK V.ks.length cK) V.tk V.to V.x] W (CpPost U W)) := fun W h => by rw [hU]; exact bare_any 60000 (Nat.le_refl _) n V _ W (by omega) (LV.out W h).1 (LV.out W h).2
    have CC : Hid (∀ W, ((∀ b o, b < N7 → W.cell? ⟨b, o, none⟩ = w7.cell? ⟨b, o, none⟩) ∧ Hid (Below N7 w7 W) ∧ Hid (N7 ≤ W.heap.size)) → Calls Try.prog 22 #[vv V.k V.i V.s (.slice oL V.l.length cL) (.slice oK V.ks.length cK) V.tk V.to V.x] W (CpPost M W)) := fun W h => by rw [hM]; exact mark_any (by omega) (LV.out W h).1 (LV.out W h).2
    have HU : Hid (Short U ∧ Short M) := ⟨by rw [hU, bare_eq]; exact HSH.out, by rw [hM]; exact HSH.out⟩
    clear hN7 hU hM
    refine wp_region_noPanic ?_
    refine wp_region_held_drew (S := (fun W => (∀ b o, b < N7 → W.cell? ⟨b, o, none⟩ = w7.cell? ⟨b, o, none⟩) ∧ Hid (Below N7 w7 W) ∧ Hid (N7 ≤ W.heap.size))) (by kernel_rfl) ?_ (fun hH => ?_)
    · exact S0
    refine wpAnyH_take (i := 0) (oi := { dst := some 40, op := Op.load 27 (Operand.tmp 1), type := 27, pos := "law.go:49", after := #[], guard := none }) (v := ?_) rfl (by kernel_rfl) (by kernel_rfl) (by kernel_rfl) (fun _ _ _ h => h) (Or.inl ⟨by rfl, ?_⟩) (by assumption) ?_
    rotate_left
    · (intro w hSw; (try dsimp only at hSw); go_simp; try with_reducible rfl)
    try simp only [Act.put, List.setIfInBounds_toArray, List.set_cons_zero, List.set_cons_succ]
    refine wpAnyH_take (i := 2) (oi := { dst := some 42, op := Op.load 27 (Operand.tmp 1), type := 27, pos := "law.go:49", after := #[], guard := none }) (v := ?_) rfl (by kernel_rfl) (by kernel_rfl) (by kernel_rfl) (fun _ _ _ h => h) (Or.inl ⟨by rfl, ?_⟩) (by assumption) ?_
    rotate_left
    · (intro w hSw; (try dsimp only at hSw); go_simp; try with_reducible rfl)
    try simp only [Act.put, List.setIfInBounds_toArray, List.set_cons_zero, List.set_cons_succ]
    refine wpAnyH_take (i := 4) (oi := { dst := some 44, op := Op.load 27 (Operand.tmp 1), type := 27, pos := "law.go:49", after := #[], guard := none }) (v := ?_) rfl (by kernel_rfl) (by kernel_rfl) (by kernel_rfl) (fun _ _ _ h => h) (Or.inl ⟨by rfl, ?_⟩) (by assumption) ?_
    rotate_left
    · (intro w hSw; (try dsimp only at hSw); go_simp; try with_reducible rfl)
    try simp only [Act.put, List.setIfInBounds_toArray, List.set_cons_zero, List.set_cons_succ]
    refine wpAnyH_take (i := 6) (oi := { dst := some 46, op := Op.fieldAddr 27 (Operand.tmp 4) 3, type := 0, pos := "law.go:49", after := #[], guard := none }) (v := ?_) rfl (by kernel_rfl) (by kernel_rfl) (by kernel_rfl) (fun _ _ _ h => h) (Or.inl ⟨by rfl, ?_⟩) (by assumption) ?_
    rotate_left
    · (intro w hSw; (try dsimp only at hSw); go_simp; try with_reducible rfl)
    try simp only [Act.put, List.setIfInBounds_toArray, List.set_cons_zero, List.set_cons_succ]
    refine wpAnyH_take (i := 7) (oi := { dst := some 47, op := Op.load 22 (Operand.tmp 46), type := 22, pos := "law.go:49", after := #[{ on := 6, ground := Ground.data }], guard := none }) (v := ?_) rfl (by kernel_rfl) (by kernel_rfl) (by kernel_rfl) (fun _ _ _ h => h) (Or.inl ⟨by rfl, ?_⟩) (by assumption) ?_
    rotate_left
    · (intro w hSw; (try dsimp only at hSw); go_simp; try with_reducible rfl)
    try simp only [Act.put, List.setIfInBounds_toArray, List.set_cons_zero, List.set_cons_succ]
    refine wpAnyH_take (i := 8) (oi := { dst := some 48, op := Op.indexAddr 22 (Operand.tmp 47) (Operand.const (Value.int IntKind.i64 0)), type := 0, pos := "law.go:49", after := #[{ on := 7, ground := Ground.data }], guard := none }) (v := ?_) rfl (by kernel_rfl) (by kernel_rfl) (by kernel_rfl) (fun _ _ _ h => h) (Or.inl ⟨by rfl, ?_⟩) (by assumption) ?_
    rotate_left
    · (intro w hSw; (try dsimp only at hSw); go_simp; try with_reducible rfl)
    try simp only [Act.put, List.setIfInBounds_toArray, List.set_cons_zero, List.set_cons_succ]
    refine wpAnyH_take (i := 9) (oi := { dst := some 49, op := Op.load 27 (Operand.tmp 48), type := 27, pos := "law.go:49", after := #[{ on := 8, ground := Ground.data }], guard := none }) (v := ?_) rfl (by kernel_rfl) (by kernel_rfl) (by kernel_rfl) (fun _ _ _ h => h) (Or.inl ⟨by rfl, ?_⟩) (by assumption) ?_
    rotate_left
    · (intro w hSw; (try dsimp only at hSw); go_simp; try with_reducible rfl)
    try simp only [Act.put, List.setIfInBounds_toArray, List.set_cons_zero, List.set_cons_succ]
    refine wpAnyH_ready (rs := [1]) (by kernel_rfl) (by simp) ?_
    refine AllReadyH.cons (o := { dst := some 41, op := Op.call { callee := Callee.value (Operand.func 18), args := #[Operand.tmp 40], argTypes := #[27] }, type := 27, pos := "law.go:49", after := #[{ on := 0, ground := Ground.data }], guard := none }) rfl (fun K hK => ?_) AllReadyH.nil
    go_simp
    refine (CA.out _ hH).mono ?_
    rintro e W_0 ⟨oLa, oKa, cLa, cKa, ca, rfl, Oa, mLa, mKa, ba⟩
    refine hK.out _ _ ?_ (fun hH' => ?_)
    · exact held_next (by assumption) hH
    have Da := Lib.hid (show Deep _ W_0 V (vv V.k V.i V.s (.slice oLa V.l.length cLa) (.slice oKa V.ks.length cKa) V.tk V.to V.x) from ⟨oLa, oKa, cLa, cKa, ca, rfl, Oa, mLa, mKa⟩)
    have BBa := Lib.hid ba
    clear Oa mLa mKa ba
    clear hK K hH
    have hH := hH'
    clear hH'
    try simp only [Act.put, List.setIfInBounds_toArray, List.set_cons_zero, List.set_cons_succ]
    refine wpAnyH_ready (rs := [3]) (by kernel_rfl) (by simp) ?_
    refine AllReadyH.cons (o := { dst := some 43, op := Op.call { callee := Callee.value (Operand.func 21), args := #[Operand.tmp 42], argTypes := #[27] }, type := 27, pos := "law.go:49", after := #[{ on := 2, ground := Ground.data }, { on := 1, ground := Ground.chain }], guard := none }) rfl (fun K hK => ?_) AllReadyH.nil
    go_simp
    refine (CB.out _ hH).mono ?_
    rintro e W_1 ⟨oLb, oKb, cLb, cKb, cb, rfl, Ob, mLb, mKb, bb⟩
    refine hK.out _ _ ?_ (fun hH' => ?_)
    · exact held_next (by assumption) hH
    have Db := Lib.hid (show Deep _ W_1 U (vv U.k U.i U.s (.slice oLb U.l.length cLb) (.slice oKb U.ks.length cKb) U.tk U.to U.x) from ⟨oLb, oKb, cLb, cKb, cb, rfl, Ob, mLb, mKb⟩)
    have BBb := Lib.hid bb
    clear Ob mLb mKb bb
    clear hK K hH
    have hH := hH'
    clear hH'
    try simp only [Act.put, List.setIfInBounds_toArray, List.set_cons_zero, List.set_cons_succ]
    refine wpAnyH_ready (rs := [5]) (by kernel_rfl) (by simp) ?_
    refine AllReadyH.cons (o := { dst := some 45, op := Op.call { callee := Callee.value (Operand.func 22), args := #[Operand.tmp 44], argTypes := #[27] }, type := 27, pos := "law.go:49", after := #[{ on := 4, ground := Ground.data }, { on := 3, ground := Ground.chain }], guard := none }) rfl (fun K hK => ?_) AllReadyH.nil
    go_simp
    refine (CC.out _ hH).mono ?_
    rintro e W_2 ⟨oLd, oKd, cLd, cKd, cd, rfl, Od, mLd, mKd, bd⟩
    refine hK.out _ _ ?_ (fun hH' => ?_)
    · exact held_next (by assumption) hH
    have Dd := Lib.hid (show Deep _ W_2 M (vv M.k M.i M.s (.slice oLd M.l.length cLd) (.slice oKd M.ks.length cKd) M.tk M.to M.x) from ⟨oLd, oKd, cLd, cKd, cd, rfl, Od, mLd, mKd⟩)
    have BBd := Lib.hid bd
    clear Od mLd mKd bd
    clear hK K hH
    have hH := hH'
    clear hH'
    try simp only [Act.put, List.setIfInBounds_toArray, List.set_cons_zero, List.set_cons_succ]
    refine wpAnyH_ready (rs := [10]) (by kernel_rfl) (by simp) ?_
    refine AllReadyH.cons (o := { dst := some 50, op := Op.buildSlice 22 4 #[(0, Operand.tmp 41), (1, Operand.tmp 43), (2, Operand.tmp 45), (3, Operand.tmp 49)], type := 22, pos := "law.go:49", after := #[{ on := 1, ground := Ground.data }, { on := 3, ground := Ground.data }, { on := 5, ground := Ground.data }, { on := 9, ground := Ground.data }], guard := none }) rfl (fun K hK => ?_) AllReadyH.nil
    go_simp
    refine hK.out _ _ ?_ (fun hH' => ?_)
    · exact held_next ((Below.refl _ _).alloc (Nat.le_refl _) _) hH
    clear hK K hH
    have hH := hH'
    clear hH'
    try simp only [Act.put, List.setIfInBounds_toArray, List.set_cons_zero, List.set_cons_succ]
    refine wpAnyH_take (i := 11) (oi := { dst := some 7, op := Op.assign (Operand.tmp 50), type := 22, pos := "law.go:49", after := #[{ on := 10, ground := Ground.data }, { on := 5, ground := Ground.chain }, { on := 0, ground := Ground.phase }, { on := 1, ground := Ground.phase }, { on := 2, ground := Ground.phase }, { on := 3, ground := Ground.phase }, { on := 4, ground := Ground.phase }, { on := 5, ground := Ground.phase }, { on := 6, ground := Ground.phase }, { on := 7, ground := Ground.phase }, { on := 8, ground := Ground.phase }, { on := 9, ground := Ground.phase }, { on := 10, ground := Ground.phase }], guard := none }) (v := ?_) rfl (by kernel_rfl) (by kernel_rfl) (by kernel_rfl) (fun _ _ _ h => h) (Or.inl ⟨by rfl, ?_⟩) (by assumption) ?_
    rotate_left
    · (intro w hSw; (try dsimp only at hSw); go_simp; try with_reducible rfl)
    try simp only [Act.put, List.setIfInBounds_toArray, List.set_cons_zero, List.set_cons_succ]
    refine wpAnyH_done (by kernel_rfl) ?_ _
    refine NoPanic.normal ?_
    have B8 := Lib.hid (LW7.out _ hH)
    have Q8 := Lib.hid (hH.2.1.out)
    have HC8 : Hid ((W_2.alloc (.cells #[.int .i64 V.k, .int .i64 V.i, .string V.s, .slice oLa V.l.length cLa, .slice oKa V.ks.length cKa, .int .i64 V.tk, .int .i64 V.to, .bool V.x, .int .i64 U.k, .int .i64 U.i, .string U.s, .slice oLb U.l.length cLb, .slice oKb U.ks.length cKb, .int .i64 U.tk, .int .i64 U.to, .bool U.x, .int .i64 M.k, .int .i64 M.i, .string M.s, .slice oLd M.l.length cLd, .slice oKd M.ks.length cKd, .int .i64 M.tk, .int .i64 M.to, .bool M.x, .int .i64 V.k, .int .i64 V.i, .string V.s, .slice oL4 V.l.length cL4, .slice oK4 V.ks.length cK4, .int .i64 V.tk, .int .i64 V.to, .bool V.x] 27)).heap[W_2.heap.size]? = some (.cells #[.int .i64 V.k, .int .i64 V.i, .string V.s, .slice oLa V.l.length cLa, .slice oKa V.ks.length cKa, .int .i64 V.tk, .int .i64 V.to, .bool V.x, .int .i64 U.k, .int .i64 U.i, .string U.s, .slice oLb U.l.length cLb, .slice oKb U.ks.length cKb, .int .i64 U.tk, .int .i64 U.to, .bool U.x, .int .i64 M.k, .int .i64 M.i, .string M.s, .slice oLd M.l.length cLd, .slice oKd M.ks.length cKd, .int .i64 M.tk, .int .i64 M.to, .bool M.x, .int .i64 V.k, .int .i64 V.i, .string V.s, .slice oL4 V.l.length cL4, .slice oK4 V.ks.length cK4, .int .i64 V.tk, .int .i64 V.to, .bool V.x] 27 (0, 0))) := heap_alloc_new W_2 _
    have HS8 : Hid ((W_2.alloc (.cells #[.int .i64 V.k, .int .i64 V.i, .string V.s, .slice oLa V.l.length cLa, .slice oKa V.ks.length cKa, .int .i64 V.tk, .int .i64 V.to, .bool V.x, .int .i64 U.k, .int .i64 U.i, .string U.s, .slice oLb U.l.length cLb, .slice oKb U.ks.length cKb, .int .i64 U.tk, .int .i64 U.to, .bool U.x, .int .i64 M.k, .int .i64 M.i, .string M.s, .slice oLd M.l.length cLd, .slice oKd M.ks.length cKd, .int .i64 M.tk, .int .i64 M.to, .bool M.x, .int .i64 V.k, .int .i64 V.i, .string V.s, .slice oL4 V.l.length cL4, .slice oK4 V.ks.length cK4, .int .i64 V.tk, .int .i64 V.to, .bool V.x] 27)).heap.size = W_2.heap.size + 1) := by simp [Hid]
    have KB8 : Hid (Below W_2.heap.size W_2 (W_2.alloc (.cells #[.int .i64 V.k, .int .i64 V.i, .string V.s, .slice oLa V.l.length cLa, .slice oKa V.ks.length cKa, .int .i64 V.tk, .int .i64 V.to, .bool V.x, .int .i64 U.k, .int .i64 U.i, .string U.s, .slice oLb U.l.length cLb, .slice oKb U.ks.length cKb, .int .i64 U.tk, .int .i64 U.to, .bool U.x, .int .i64 M.k, .int .i64 M.i, .string M.s, .slice oLd M.l.length cLd, .slice oKd M.ks.length cKd, .int .i64 M.tk, .int .i64 M.to, .bool M.x, .int .i64 V.k, .int .i64 V.i, .string V.s, .slice oL4 V.l.length cL4, .slice oK4 V.ks.length cK4, .int .i64 V.tk, .int .i64 V.to, .bool V.x] 27))) := (Below.refl _ _).alloc (Nat.le_refl _) _
    have QD := Lib.hid (And.intro BBa.out.size (And.intro BBb.out.size BBd.out.size))
    clear S0 x8 x0 x1 x2 x3 x4 x5 x6 x7 z0 z3 z4 u0 u1 u2 u3 u4 u5 u6 u7 hH
    go_upto_region 9 with fail
    generalize W_2.alloc _ = w8 at *
    have n7 := HN7.out
    have h7 : w7.heap.size ≤ W_0.heap.size := QD.out.1
    have h01 := QD.out.2.1
    have h12 := QD.out.2.2
    have LB8 := Lib.hid (LB7.out.kept Q8.out (by omega))
    obtain ⟨z0, z3, z4⟩ := LB8.out.cells
    obtain ⟨u0, u1, u2, u3, u4, u5, u6, u7⟩ := E57.out.keptP Q8.out (show g5 < N7 by omega)
    obtain ⟨gN, cap, ws, cur, hrun, hg1, hc1, hc2, hgs, hgN, hct, hG⟩ := app5 (W := w8) (g := W_2.heap.size) HC8.out rfl #[.int .i64 V.k, .int .i64 V.i, .string V.s, .slice oL5 V.l.length cL5, .slice oK5' V.ks.length cK5, .int .i64 V.tk, .int .i64 V.to, .bool V.x] rfl (oneCell8 V _ _ _ _ _ _)
    have l7 := hc2
    unfold maxLen at l7
    have HEV := Lib.hid (five_cells (l0 := w7.heap.size) (h0 := W_0.heap.size) (l1 := W_0.heap.size) (h1 := W_1.heap.size) (l2 := W_1.heap.size) (h2 := W_2.heap.size) (l3 := w3.heap.size) (h3 := w4.heap.size) (l4 := w5.heap.size) (h4 := w6.heap.size) hgN hct)
    have hs8 := HS8.out
    have K8s : Hid (∀ k, k < W_2.heap.size → ws.heap[k]? = w8.heap[k]?) := fun k hk => (hG.block k (by simp; omega) (fun e => by injection e with e; omega)).trans (Below.heap_alloc _ _ _ (by omega))
    have K7s : Hid (∀ k, k < w7.heap.size → ws.heap[k]? = w7.heap[k]?) := fun k hk => (K8s.out k (by omega)).trans (Q8.out.block k (by omega))
    have Ba : Hid (Below w0.heap.size w0 ws) := by
      have h0 := B7.out.size
      exact (B8.out.trans ((Below.refl w0.heap.size w8).alloc (by omega) _)).grown hG (by simp; omega) (fun k hk => by injection hk with hk; omega)
    have B7s : Hid (Below w7.heap.size w7 ws) := ((Q8.out.mono (by omega)).trans ((Below.refl w7.heap.size w8).alloc (by omega) _)).grown hG (by simp; omega) (fun k hk => by injection hk with hk; omega)
    have K2s : Hid (∀ k, k < w2.heap.size → ws.heap[k]? = w2.heap[k]?) := fun k hk => by
      have h1 := K7.out.size
      rw [K7s.out k (by omega), K7.out.block k (by omega), BK.out.block k (by omega), B24.out.block k hk]
    obtain ⟨en, hen⟩ : ∃ en, en = five ⟨w7.heap.size, W_0.heap.size, V, oLa, oKa, cLa, cKa⟩ ⟨W_0.heap.size, W_1.heap.size, U, oLb, oKb, cLb, cKb⟩ ⟨W_1.heap.size, W_2.heap.size, M, oLd, oKd, cLd, cKd⟩ ⟨w3.heap.size, w4.heap.size, V, oL4, oK4, cL4, cK4⟩ ⟨w5.heap.size, w6.heap.size, V, oL5, oK5', cL5, cK5⟩ := ⟨_, rfl⟩
    rw [← hen] at HEV
    obtain ⟨a1, a2, a3⟩ := wr_of_deep Da.out
    obtain ⟨b1, b2, b3⟩ := wr_of_deep Db.out
    obtain ⟨d1, d2, d3⟩ := wr_of_deep Dd.out
    obtain ⟨e1, e2, e3⟩ := wr_of_deep HE4.out.2
    obtain ⟨f1, f2, f3⟩ := wr_of_deep HE5.out.2
    have kA : ∀ k, w7.heap.size ≤ k → k < W_0.heap.size → ws.heap[k]? = W_0.heap[k]? := fun k _ hk => by rw [K8s.out k (by omega), KB8.out.block k (by omega), BBd.out.block k (by omega), BBb.out.block k hk]
    have kB : ∀ k, W_0.heap.size ≤ k → k < W_1.heap.size → ws.heap[k]? = W_1.heap[k]? := fun k _ hk => by rw [K8s.out k (by omega), KB8.out.block k (by omega), BBd.out.block k (by omega)]
    have kD : ∀ k, W_1.heap.size ≤ k → k < W_2.heap.size → ws.heap[k]? = W_2.heap[k]? := fun k _ hk => by rw [K8s.out k (by omega), KB8.out.block k (by omega)]
    have kE : ∀ k, w3.heap.size ≤ k → k < w4.heap.size → ws.heap[k]? = w4.heap[k]? := fun k _ hk => by rw [K7s.out k (by omega), K7.out.block k (by omega), BK.out.block k (by omega)]
    have kF : ∀ k, w5.heap.size ≤ k → k < w6.heap.size → ws.heap[k]? = w6.heap[k]? := fun k _ hk => by rw [K7s.out k (by omega), K7.out.block k (by omega)]
    have R0 : Hid (RL en gN w3.heap.size ws ws 0) := by
      refine ⟨Below.refl _ _, rfl, fun i' _ => ?_, fun i' _ => ?_⟩
      · rw [hen]; exact lt5 (P := fun i => WL (five _ _ _ _ _ i) ws) (a1.same kA) (b1.same kB) (d1.same kD) (e1.same kE) (f1.same kF) i'
      · rw [hen]; exact lt5 (P := fun i => WK (five _ _ _ _ _ i) 0 ws) (a2.same kA) (b2.same kB) (d2.same kD) (e2.same kE) (f2.same kF) i'
    have HAP : Hid (Apart en gN w3.heap.size) := by
      refine ⟨fun i i' h1 h2 => ?_, fun i h1 => ?_, fun i h1 => ?_⟩
      · have q : ∀ a, a < 5 → a = 0 ∨ a = 1 ∨ a = 2 ∨ a = 3 ∨ a = 4 := fun a h => by omega
        intro hne
        rw [hen]
        rcases q i h1 with rfl | rfl | rfl | rfl | rfl <;> rcases q i' h2 with rfl | rfl | rfl | rfl | rfl <;> first | exact absurd rfl hne | (simp only [five]; omega)
      · rw [hen]; revert i; refine lt5 ?_ ?_ ?_ ?_ ?_ <;> simp only [five] <;> omega
      · rw [hen]; revert i; refine lt5 ?_ ?_ ?_ ?_ ?_ <;> simp only [five] <;> omega
    have HCP : Hid (∀ i, i < 5 → Caps (en i)) := by rw [hen]; exact lt5 (P := fun i => Caps (five _ _ _ _ _ i)) a3 b3 d3 e3 f3
    have HSX : Hid (∀ i, i < 5 → Short (en i).X) := by rw [hen]; exact lt5 (P := fun i => Short (five _ _ _ _ _ i).X) HSH.out HU.out.1 HU.out.2 HSH.out HSH.out
    have HTP := Lib.hid hgN
    clear a1 a2 a3 b1 b2 b3 d1 d2 d3 e1 e2 e3 f1 f2 f3 kA kB kD kE kF hen hct hG hgN hs8
    have HRUN := Lib.hid hrun
    clear hrun
    go_wp2_with (at_builtin; refine wpList_app5 rfl (.tmp 51) (.tmp 56) rfl rfl (.slice (some ⟨W_2.heap.size, 0, none⟩) 4 4) (.slice (some ⟨w8.heap.size, 0, none⟩) 1 1) _ _ ws rfl rfl HRUN.out ?_)
    clear z0 z3 z4 u0 u1 u2 u3 u4 u5 u6 u7
    go_loopw [8] (fun s wr => ∃ i : Nat, i ≤ 5 ∧ s = .int .i64 i ∧ Hid (RL en gN w3.heap.size ws wr i)) (fun s _ => 5 - (intOf s).toNat)
    case atStart => exact ⟨0, by omega, rfl, R0.out⟩
    case round =>
      obtain ⟨i, hi, rfl, hR⟩ := hrel
      by_cases hlt : i < 5
      · have CP := HCP.out i hlt
        have c1 := CP.l1
        have c2 := CP.l2
        have c3 := CP.k1
        have c4 := CP.k2
        unfold maxLen at c2 c4
        have hd5 : decide ((i : Int) < 5) = true := by simp; omega
        clear CP
        go_wp2_with fail
        go_loopw [9] (fun s wr2 => ∃ k : Nat, k ≤ (en i).X.l.length ∧ s = .int .i64 k ∧ Hid (RL en gN w3.heap.size ws wr2 i)) (fun s _ => (en i).X.l.length - (intOf s).toNat)
        case atStart => exact ⟨0, Nat.zero_le _, rfl, hR.out⟩
        case round =>
          obtain ⟨k, hk, rfl, hR2⟩ := hrel
          obtain ⟨u0, u1, u2, u3, u4, u5, u6, u7⟩ := (HEV.out i hlt).same hR2.out.top
          simp only [Nat.zero_add] at u0 u1 u2 u3 u4 u5 u6 u7
          by_cases hk2 : k < (en i).X.l.length
          · rcases hR2.out.rowL i (Nat.le_refl _) hlt with h0 | ⟨g, cs, ho, hg1, hg2, h1, h2⟩
            · omega
            · have hms : (k + 1) * 8 ≤ (en i).X.l.length * 8 := Nat.mul_le_mul_right 8 hk2
              rw [ho] at u3
              have H1 := Lib.hid (And.intro h1 h2)
              have HN := Lib.hid (hR2.out.storeL HAP.out hlt hg1 hg2 h1 ho (cs.toList.take (k * 8) ++ (#[.int .i64 3, .int .i64 0, .string { data := #[116, 117, 114, 110, 101, 100] }, .slice none 0 0, .slice none 0 0, .int .i64 0, .int .i64 0, .bool false] : Array Value).toList ++ cs.toList.drop (k * 8 + (#[.int .i64 3, .int .i64 0, .string { data := #[116, 117, 114, 110, 101, 100] }, .slice none 0 0, .slice none 0 0, .int .i64 0, .int .i64 0, .bool false] : Array Value).size)).toArray (size_over cs (#[.int .i64 3, .int .i64 0, .string { data := #[116, 117, 114, 110, 101, 100] }, .slice none 0 0, .slice none 0 0, .int .i64 0, .int .i64 0, .bool false] : Array Value) (k * 8) (by show k * 8 + 8 ≤ cs.size; omega)))
              clear h1 h2 ho hg1 hg2
              go_wp2_with ((with_reducible refine wpList_store_at rfl 27 (.tmp 81) (.tmp 80) rfl g (k * 8) rfl _ rfl 27 cs H1.out.1 ?st1 ?st2 ?st3 ?st4); case' st4 => generalize World.setRow _ _ _ = W at *)
              case st1 => have := H1.out.2; simp; omega
              case st2 => have := size27; simpa using this
              case st3 => simp [Value.oneCell']
              go_roundw
              case rel => first | exact ⟨k + 1, by omega, by go_num, HN⟩ | ((repeat apply Exists.intro); refine ⟨?_, rfl⟩; exact ⟨k + 1, by omega, by go_num, HN⟩)
              case measure => simp [intOf]; omega
          · have hdk : decide ((k : Int) < ((en i).X.l.length : Int)) = false := by simp; omega
            go_wp2_with fail
            clear u0 u1 u2 u3 u4 u5 u6 u7
            have HNX := Lib.hid (And.intro hR2.out.next (hR2.out.rowK i (Nat.le_refl _) hlt))
            go_loopw [10] (fun s wr3 => ∃ q : Nat, q ≤ (en i).X.ks.length ∧ s = .int .i64 q ∧ Hid (RL en gN w3.heap.size ws wr3 (i + 1)) ∧ Hid (WK (en i) q wr3)) (fun s _ => (en i).X.ks.length - (intOf s).toNat)
            case atStart => exact ⟨0, Nat.zero_le _, rfl, HNX.out.1, HNX.out.2⟩
            case round =>
              obtain ⟨q, hq, rfl, hR3, hWK⟩ := hrel
              obtain ⟨u0, u1, u2, u3, u4, u5, u6, u7⟩ := (HEV.out i hlt).same hR3.out.top
              simp only [Nat.zero_add] at u0 u1 u2 u3 u4 u5 u6 u7
              by_cases hq2 : q < (en i).X.ks.length
              · rcases hWK.out with h0 | ⟨g, cs, ho, hg1, hg2, h1, h2, h3⟩
                · omega
                · have hsk := HSX.out i hlt _ (kk_mem hq2)
                  have y0 : wr.cell? ⟨g, q, none⟩ = some (.string (kk (en i).X.ks q)) := by rw [cell_of_row wr g q cs 9 (0, 0) h1]; exact h3 q (Nat.le_refl _) hq2
                  have y1 := frozen_of_row wr g q cs 9 h1
                  have HN := Lib.hid (hR3.out.storeK HAP.out hlt hg1 hg2 h1 h2 h3 ho (.string (kk (en i).X.ks q ++ { data := #[120] })))
                  rw [ho] at u4
                  have i5 : (i : Int) < 5 := by omega
                  have i0 : (0 : Int) ≤ i := by omega
                  have q5 : (q : Int) < (en i).X.ks.length := by omega
                  have q0 : (0 : Int) ≤ q := by omega
                  have s0 := run_cat _ hsk
                  clear h1 h2 h3 ho hg1 hg2
                  go_upto_region 20 with fail
                  go_still_tail 16, (by kernel_rfl)
                  change wpList _ _ _ _ _ wr.drew
                  go_wp2
                  go_roundw
                  case rel => first | exact ⟨q + 1, by omega, by go_num, HN.out.1.drew, HN.out.2⟩ | ((repeat apply Exists.intro); refine ⟨?_, rfl⟩; exact ⟨q + 1, by omega, by go_num, HN.out.1.drew, HN.out.2⟩)
                  case measure => simp [intOf]; omega
              · go_wp2_with fail
                go_roundw
                case rel => first | exact ⟨i + 1, by omega, by go_num, hR3⟩ | ((repeat apply Exists.intro); refine ⟨?_, rfl⟩; exact ⟨i + 1, by omega, by go_num, hR3⟩)
                case measure => simp [intOf]; omega
      · have h3n : w3.heap.size ≤ w7.heap.size := by have := K7.out.size; omega
        have Bw : Hid (Below w0.heap.size w0 wr) := Ba.out.trans (hR.out.bel.mono (by omega))
        have P7s := (P7.out.kept B7s.out (by omega)).kept hR.out.bel (by omega)
        obtain ⟨x8, x0, x1, x2, x3, x4, x5, x6, x7⟩ := HB.out.kept Bw.out (by omega)
        obtain ⟨y8, y0, y1, y2, y3, y4, y5, y6, y7⟩ := P7s
        have hsw := hR.out.bel.size
        have HS := Lib.hid (rsame_any 60000 (Nat.le_refl _) w3.heap.size V _ _ wr (by omega) ((H.out.kept (Bw.out.mono (by omega))).lies.mono fun b hb => by omega) (HO2.out.lies.keptP (P' := fun b => b < w3.heap.size) (w' := wr) fun k hk => ⟨by have := hk.2; omega, (hR.out.bel.block k (by have := hk.2; omega)).trans (K2s.out k hk.2)⟩) (by have := B7s.out.size; omega))
        go_wp2_with fail
        refine HS.out.mono ?_
        rintro e wy ⟨rfl, by_⟩
        have By := Lib.hid (Bw.out.trans (by_.mono Bw.out.size))
        clear by_
        go_wp2_with fail
        refine (awake_any _).mono ?_
        rintro e wz ⟨rfl, bz⟩
        have BZ := Lib.hid (HW.out.trans ((By.out.trans (bz.mono By.out.size)).mono HW.out.size))
        clear bz
        go_wp2_with fail
        go_ret
        exact ⟨rfl, BZ.out⟩
end Go.Proofs.Ytfgkkccgecnchaa

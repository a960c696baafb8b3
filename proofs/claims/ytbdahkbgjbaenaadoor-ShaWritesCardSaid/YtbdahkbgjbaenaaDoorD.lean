/- Contract: spreadOut. -/
import Derived.Test.YtbdahkbgjbaenaaDoorC
import Derived.RegionTactic
import Derived.ChangeAlike
import Derived.StillTailTactics
import Derived.Outline
import Derived.Handy
namespace Go.Proofs.YtbdahkbgjbaenaaDoor
open Go.RowKit

theorem Z69 : (mk .u32 64 fun _ => 0) = #[.int .u32 0, .int .u32 0, .int .u32 0, .int .u32 0, .int .u32 0, .int .u32 0, .int .u32 0, .int .u32 0, .int .u32 0, .int .u32 0, .int .u32 0, .int .u32 0, .int .u32 0, .int .u32 0, .int .u32 0, .int .u32 0, .int .u32 0, .int .u32 0, .int .u32 0, .int .u32 0, .int .u32 0, .int .u32 0, .int .u32 0, .int .u32 0, .int .u32 0, .int .u32 0, .int .u32 0, .int .u32 0, .int .u32 0, .int .u32 0, .int .u32 0, .int .u32 0, .int .u32 0, .int .u32 0, .int .u32 0, .int .u32 0, .int .u32 0, .int .u32 0, .int .u32 0, .int .u32 0, .int .u32 0, .int .u32 0, .int .u32 0, .int .u32 0, .int .u32 0, .int .u32 0, .int .u32 0, .int .u32 0, .int .u32 0, .int .u32 0, .int .u32 0, .int .u32 0, .int .u32 0, .int .u32 0, .int .u32 0, .int .u32 0, .int .u32 0, .int .u32 0, .int .u32 0, .int .u32 0, .int .u32 0, .int .u32 0, .int .u32 0, .int .u32 0] := by kernel_rfl
theorem slice56 (g o l n : Nat) (x y : Int) (hx : x = l) (hy : y = l + n) (h0 : 0 < n) (h2 : l + n ≤ 64) (W : World) : (Instr.sliceAt 56 (.pointer (some ⟨g, o, none⟩)) (some (.int .i64 x)) (some (.int .i64 y)) none).run Tryd.prog W =
    .ok (.slice (some ⟨g, o + l, none⟩) n (64 - l)) W := by
  subst hx; subst hy
  have hal : Tryd.prog.arrayLen 56 = 64 := by kernel_rfl
  rw [run_sliceAt_array_lh W 56 ⟨g, o, none⟩ (by simp [Program.arrayLen, Program.elem, Tryd.underlying56]) .i64 .i64 l (l + n) (by omega) (by omega) (by rw [hal]; omega)]
  have hs : (sizeOf (Tryd.prog.elem 56)).run Tryd.prog W = .ok 1 W := by
    have : (Tryd.prog.info? (Tryd.prog.elem 56)).map (·.size) = some 1 := by kernel_rfl
    cases hq : Tryd.prog.info? (Tryd.prog.elem 56) with
    | none => simp [hq] at this
    | some i => simp [hq] at this; simp [sizeOf, typeInfo, hq, this]
  rw [hs, Result.andThen_ok, hal]
  unfold slicedAt
  have e1 : ((l : Int)).toNat = l := by omega
  have e2 : ((l : Int) + n).toNat = l + n := by omega
  rw [e1, e2, if_neg (by omega), show l + n - l = n by omega]
  unfold Addr.add
  split <;> simp_all
theorem or_disj (H L n : Nat) (x y : Int) (hx : x = (H * 2 ^ n : Nat)) (hy : y = L) (hL : L < 2 ^ n) (h : H * 2 ^ n + L < 4294967296) : bits .or .u32 x y = x + y := by
  subst hx; subst hy
  have o := Nat.shiftLeft_add_eq_or_of_lt hL H
  rw [Nat.shiftLeft_eq] at o
  generalize H * 2 ^ n = V at *
  show IntKind.u32.wrap ((BitVec.ofInt 32 (V : Int) ||| BitVec.ofInt 32 (L : Int)).toNat : Int) = _
  rw [BitVec.toNat_or, ofInt_toNat32 _ (by unfold isW; omega), ofInt_toNat32 _ (by unfold isW; omega), Int.toNat_natCast, Int.toNat_natCast, ← o, wrap_u32_eq]
  omega
theorem orWord (x0 x1 x2 x3 : Int) (h0 : 0 ≤ x0 ∧ x0 < 256) (h1 : 0 ≤ x1 ∧ x1 < 256) (h2 : 0 ≤ x2 ∧ x2 < 256) (h3 : 0 ≤ x3 ∧ x3 < 256) :
    bits .or .u32 (bits .or .u32 (bits .or .u32 (x0 * 16777216) (x1 * 65536)) (x2 * 256)) x3 =
      x0 * 16777216 + x1 * 65536 + x2 * 256 + x3 := by
  rw [or_disj x0.toNat (x1.toNat * 65536) 24 (x0 * 16777216) (x1 * 65536) (by omega) (by omega) (by omega) (by omega)]
  rw [or_disj (x0.toNat * 256 + x1.toNat) (x2.toNat * 256) 16 (x0 * 16777216 + x1 * 65536) (x2 * 256) (by omega) (by omega) (by omega) (by omega)]
  rw [or_disj (x0.toNat * 65536 + x1.toNat * 256 + x2.toNat) (x3.toNat) 8 (x0 * 16777216 + x1 * 65536 + x2 * 256) x3 (by omega) (by omega) (by omega) (by omega)]
theorem info69 (F : Nat → Int) : (Tryd.prog.info? 69).map (·.size) = some (mk .u32 64 F).size := by rw [mk_size]; kernel_rfl
/-- what is held of memory while the words are spread out -/
structure Sp (B : Nat) (F : Nat → Int) (w W : World) : Prop where
  res : Row W B 69 .u32 64 fun _ => 0
  row : Row W (B + 1) 69 .u32 64 F
  bel : Below B w W
theorem Sp.drewN {B : Nat} {F : Nat → Int} {w W : World} (h : Sp B F w W) (q : Nat) : Sp B F w (W.drewN q) := ⟨h.res.drewN q, h.row.drewN q, below_drewN h.bel q⟩
theorem Sp.set {B : Nat} {F : Nat → Int} {w W : World} (h : Sp B F w W) (q : Nat) (j : Nat) (v : Int) : Sp B (upd F j v) w ((W.drewN q).setCell ⟨B + 1, j, none⟩ (.int .u32 v)) :=
  ⟨(h.res.drewN q).set_other _ _ (by simp), (h.row.drewN q).set j v, Below.setCell (below_drewN h.bel q) (by simp) _⟩
set_option maxRecDepth 100000 in
set_option maxHeartbeats 2000000 in
theorem spread_any (g o : Nat) (p : Nat → Int) (w : World) (hp : ∀ j, j < 64 → 0 ≤ p j ∧ p j < 256)
    (hc : ∀ j, j < 64 → w.cell? ⟨g, o + j, none⟩ = some (.int .u8 (p j))) :
    Calls Tryd.prog 35 #[.pointer (some ⟨g, o, none⟩)] w fun e w' => e = .returned (.agg (mk .u32 64 (sch (wordOf p)))) ∧ Below w.heap.size w w' := by
  have hg := World.block_lt_of_cell? _ _ (hc 0 (by omega))
  have hg' : g < w.heap.size := hg
  clear hg
  have HC := Lib.hid hc
  have HP := Lib.hid hp
  clear hc
  have M := Lib.hid (sch_isW (wordOf p) (fun i hi => by
    have h0 := hp (4 * i) (by omega)
    have h1 := hp (4 * i + 1) (by omega)
    have h2 := hp (4 * i + 2) (by omega)
    have h3 := hp (4 * i + 3) (by omega)
    unfold isW wordOf
    omega))
  have z := Lib.hid (show Sp w.heap.size (fun _ => 0) w ((w.alloc (.cells (mk .u32 64 fun _ => 0) 69)).alloc (.cells (mk .u32 64 fun _ => 0) 69)) from
    ⟨(Row.made w _ _ _ _).alloc _, heap_alloc2_new w _ _, ((Below.refl _ _).alloc (Nat.le_refl _) _).alloc (by simp) _⟩)
  rw [Z69] at z
  clear hp
  go_enter Tryd.func35, Tryd.ntmps35
  go_wp2
  go_loopw [11] (fun i wr => ∃ (k : Nat) (F : Nat → Int), k ≤ 16 ∧ i = .int .i64 k ∧ Hid (Sp w.heap.size F w wr) ∧ Hid (∀ j, j < k → F j = wordOf p j)) (fun i _ => 16 - (intOf i).toNat)
  case atStart => exact ⟨0, _, Nat.zero_le _, rfl, z.out, fun j hj => by omega⟩
  case round =>
    obtain ⟨k, F, hk, rfl, S, hF⟩ := hrel
    clear z
    by_cases hlt : k < 16
    · have c0 := HC.out (4 * k) (by omega)
      have c1 := HC.out (4 * k + 1) (by omega)
      have c2 := HC.out (4 * k + 2) (by omega)
      have c3 := HC.out (4 * k + 3) (by omega)
      rw [← S.out.bel.cell (p := ⟨g, o + (4 * k), none⟩) hg'] at c0
      rw [← S.out.bel.cell (p := ⟨g, o + (4 * k + 1), none⟩) hg'] at c1
      rw [← S.out.bel.cell (p := ⟨g, o + (4 * k + 2), none⟩) hg'] at c2
      rw [← S.out.bel.cell (p := ⟨g, o + (4 * k + 3), none⟩) hg'] at c3
      have p0 := HP.out (4 * k) (by omega)
      rw [← Nat.add_assoc] at c1
      have p1 := HP.out (4 * k + 1) (by omega)
      rw [← Nat.add_assoc] at c2
      have p2 := HP.out (4 * k + 2) (by omega)
      rw [← Nat.add_assoc] at c3
      have p3 := HP.out (4 * k + 3) (by omega)
      have f1 := S.out.row.free k
      have c4 := S.out.row.cell k (by omega)
      have E := Lib.hid (show wordOf p k = p (4 * k) * 16777216 + p (4 * k + 1) * 65536 + p (4 * k + 2) * 256 + p (4 * k + 3) from rfl)
      have O := Lib.hid (orWord (p (4 * k)) (p (4 * k + 1)) (p (4 * k + 2)) (p (4 * k + 3)) p0 p1 p2 p3)
      generalize p (4 * k) = x0 at *
      generalize p (4 * k + 1) = x1 at *
      generalize p (4 * k + 2) = x2 at *
      generalize p (4 * k + 3) = x3 at *
      generalize F k = y at *
      have hsl := slice56 g o (4 * k) 4 (4 * (k : Int)) (4 * (k : Int) + 4) (by omega) (by omega) (by omega) (by omega)
      go_wp2
      have k64 : (k : Int) < 64 := by omega
      have k0 : (0 : Int) ≤ k := by omega
      go_still_tail 24, (by kernel_rfl)
      change wpList _ _ _ _ _ wr.drew
      go_wp2
      go_roundw
      case rel => exact ⟨k + 1, upd F k _, by omega, by go_num, S.out.set 1 k _, fun j hj => by
        by_cases e : j = k
        · subst e; rw [upd_same, E.out]; exact O.out
        · rw [upd_other _ _ _ _ e]; exact hF.out j (by omega)⟩
      case measure => simp [intOf]; omega
    · have hk16 : 16 ≤ k := by omega
      have hF' := Lib.hid (fun j (hj : j < 16) => hF.out j (by omega))
      go_wp2
      go_loopw [6] (fun i wr => ∃ (k : Nat) (F : Nat → Int), 16 ≤ k ∧ k ≤ 64 ∧ i = .int .i64 k ∧ Hid (Sp w.heap.size F w wr) ∧ Hid (∀ j, j < k → F j = sch (wordOf p) j)) (fun i _ => 64 - (intOf i).toNat)
      case atStart => exact ⟨16, F, by omega, by omega, rfl, S, fun j hj => by rw [hF'.out j hj, sch_lo _ _ hj]⟩
      case round =>
        clear S hF hF' F
        obtain ⟨k', hk'⟩ : ∃ k', k' = k := ⟨_, rfl⟩
        rw [← hk'] at *
        clear hk'
        obtain ⟨k, F, hk, hk2, rfl, S, hF⟩ := hrel
        by_cases hlt : k < 64
        · have c15 := S.out.row.cell (k - 15) (by omega)
          have c2 := S.out.row.cell (k - 2) (by omega)
          have c16 := S.out.row.cell (k - 16) (by omega)
          have c7 := S.out.row.cell (k - 7) (by omega)
          have f1 := S.out.row.free k
          have c4 := S.out.row.cell k (by omega)
          have i15 : IntKind.i64.wrap ((k : Int) - 15) = (k : Int) - 15 := IntWalk.i64_in _ (by omega)
          have i2 : IntKind.i64.wrap ((k : Int) - 2) = (k : Int) - 2 := IntWalk.i64_in _ (by omega)
          have n15 : ((k : Int) - 15).toNat = k - 15 := by omega
          have n2 : ((k : Int) - 2).toNat = k - 2 := by omega
          have l15 : (k : Int) - 15 < 64 := by omega
          have l2 : (k : Int) - 2 < 64 := by omega
          have g15 : 0 ≤ (k : Int) - 15 := by omega
          have g2 : 0 ≤ (k : Int) - 2 := by omega
          have w15 : isW (F (k - 15)) := by rw [hF.out _ (by omega)]; exact M.out _
          have w2 : isW (F (k - 2)) := by rw [hF.out _ (by omega)]; exact M.out _
          have E := Lib.hid (sch_hi (wordOf p) k hk)
          rw [← hF.out (k - 16) (by omega), ← hF.out (k - 15) (by omega), ← hF.out (k - 7) (by omega), ← hF.out (k - 2) (by omega)] at E
          generalize F (k - 15) = x at *
          generalize F (k - 2) = y at *
          generalize F (k - 16) = s at *
          generalize F (k - 7) = t at *
          generalize F k = z at *
          go_wp2
          go_quiet (fail)
          clear i15 i2 n15 n2 l15 l2 g15 g2
          go_wp2_with fail
          refine (right_7 x _ w15).mono ?_
          rintro e w' ⟨rfl, q1, rfl⟩
          go_wp2_with fail
          refine (right_18 x _ w15).mono ?_
          rintro e w' ⟨rfl, q2, rfl⟩
          go_wp2_with fail
          refine (right_17 y _ w2).mono ?_
          rintro e w' ⟨rfl, q3, rfl⟩
          go_wp2_with fail
          refine (right_19 y _ w2).mono ?_
          rintro e w' ⟨rfl, q4, rfl⟩
          go_wp2
          have i16 : IntKind.i64.wrap ((k : Int) - 16) = (k : Int) - 16 := IntWalk.i64_in _ (by omega)
          have i7 : IntKind.i64.wrap ((k : Int) - 7) = (k : Int) - 7 := IntWalk.i64_in _ (by omega)
          have n16 : ((k : Int) - 16).toNat = k - 16 := by omega
          have n7 : ((k : Int) - 7).toNat = k - 7 := by omega
          have l16 : (k : Int) - 16 < 64 := by omega
          have l7 : (k : Int) - 7 < 64 := by omega
          have g16 : 0 ≤ (k : Int) - 16 := by omega
          have g7 : 0 ≤ (k : Int) - 7 := by omega
          have k64 : (k : Int) < 64 := by omega
          have k0 : (0 : Int) ≤ k := by omega
          have j16 : (16 : Int) ≤ k := by omega
          have j7 : (7 : Int) ≤ k := by omega
          have m16 : (k : Int) < 80 := by omega
          have m7 : (k : Int) < 71 := by omega
          obtain ⟨Q, hQ⟩ : ∃ Q : Nat, Q = nq + q1 + q2 + q3 + q4 := ⟨_, rfl⟩
          rw [← hQ]
          clear hQ
          have SQ := Lib.hid (S.out.drewN Q)
          have c16 : (wr.drewN Q).cell? ⟨w.heap.size + 1, k - 16, none⟩ = _ := c16
          have c7 : (wr.drewN Q).cell? ⟨w.heap.size + 1, k - 7, none⟩ = _ := c7
          have c4 : (wr.drewN Q).cell? ⟨w.heap.size + 1, k, none⟩ = _ := c4
          have f1 : (wr.drewN Q).frozen? ⟨w.heap.size + 1, k, none⟩ = _ := f1
          clear S
          generalize wr.drewN Q = wq at *
          generalize hN : bits BinOp.xor IntKind.u32 (bits BinOp.xor IntKind.u32 (rr x 7) (rr x 18)) (x / 8) = N
          generalize hR : bits BinOp.xor IntKind.u32 (bits BinOp.xor IntKind.u32 (rr y 17) (rr y 19)) (y / 1024) = R
          have hN' := Lib.hid hN
          have hR' := Lib.hid hR
          clear hN hR
          go_still_tail 15, (by kernel_rfl)
          clear i16 i7 n16 n7 l16 l7 g16 g7
          change wpList _ _ _ _ _ wq.drew
          go_wp2
          go_roundw
          case rel => exact ⟨k + 1, upd F k _, by omega, by omega, by go_num, SQ.out.set 1 k _, fun j hj => by
            by_cases e : j = k
            · subst e; rw [upd_same, E.out, ← hN'.out, ← hR'.out]; rfl
            · rw [upd_other _ _ _ _ e]; exact hF.out j (by omega)⟩
          case measure => simp [intOf]; omega
        · have hk64 : k = 64 := by omega
          subst hk64
          have S1 := S.out.row.congr (G := sch (wordOf p)) (fun j hj => hF.out j hj)
          have S2 := S.out.res
          have S3 := Lib.hid S.out.bel
          clear S hF
          go_wp2_with (first
            | (refine wpList_load_at rfl 69 (.tmp 3) rfl (w.heap.size + 1) 0 rfl 69 _ (mk .u32 64 (sch (wordOf p))) _ S1 (fun j _ => by rw [Nat.zero_add]) Tryd.underlying69 rfl (info69 _) ?_)
            | (refine wpList_store_row rfl 69 (.tmp 2) (.tmp 90) rfl w.heap.size rfl (mk .u32 64 (sch (wordOf p))) rfl 69 _ S2 (by simp [mk_size]) (info69 _) (mk_one _ _ _) ?_))
          refine bodyPost_ret (v := .agg (mk .u32 64 (sch (wordOf p)))) (results_cell_row rfl _ _ w.heap.size 69 _ (0, 0) _ rfl (S2.setRow _ _ _) Tryd.underlying69 rfl (info69 _)) rfl ⟨rfl, below_setRow S3.out (Nat.le_refl _) _⟩
end Go.Proofs.YtbdahkbgjbaenaaDoor

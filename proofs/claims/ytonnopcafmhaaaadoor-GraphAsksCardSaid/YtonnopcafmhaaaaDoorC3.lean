/- Contracts: TrailingZeros64, list. -/
import Derived.Test.YtonnopcafmhaaaaDoorC2
namespace Go.Proofs.YtonnopcafmhaaaaDoor
open Go.RowKit

theorem neg64 {x : Nat} (h0 : 0 < x) (h : x < 18446744073709551616) : IntKind.u64.wrap (-(x : Int)) = 18446744073709551616 - (x : Int) := by
  rw [IntKind.wrap_u64]; omega
theorem mul64 (P : Nat) : IntKind.u64.wrap ((P : Int) * 285870213051353865) = ((P * 285870213051353865 % 18446744073709551616 : Nat) : Int) := by
  rw [IntKind.wrap_u64]; omega
theorem top58 (M : Nat) : ((M % 18446744073709551616 : Nat) : Int) / 288230376151711744 = ((M % 18446744073709551616 / 288230376151711744 : Nat) : Int) := by omega
theorem lt58 (M : Nat) : M % 18446744073709551616 / 288230376151711744 < 64 := by omega
/-- what the table's way reckons, step by step -/
theorem trail_facts (S : Nat → Bool) (k t : Nat) (w : World) (ht : t < 64) (hs : S (64 * k + t) = true) (hl : ∀ j, j < t → S (64 * k + j) = false) (hT : Tab w) :
    ∃ (V P M : Int) (x : Nat), (wd S k : Int) ≠ 0 ∧ IntKind.u64.wrap (-(wd S k : Int)) = V ∧ bits .and .u64 (wd S k : Int) V = P ∧ IntKind.u64.wrap (P * 285870213051353865) = M ∧ M / 288230376151711744 = (x : Int) ∧ x < 64 ∧ w.cell? ⟨0, x, none⟩ = some (.int .u8 (t : Int)) := by
  refine ⟨_, _, _, 2 ^ t * 285870213051353865 % 18446744073709551616 / 288230376151711744, ?_, neg64 (wd_pos ht hs hl) (wd_lt S k), wd_alone ht hs hl, mul64 (2 ^ t), top58 _, lt58 _, ?_⟩
  · have := wd_pos ht hs hl; omega
  · rw [hT.2 _ (lt58 _), bruijn ht]
set_option maxHeartbeats 1000000 in
theorem trail_any (S : Nat → Bool) (k t : Nat) (w : World) (ht : t < 64) (hs : S (64 * k + t) = true) (hl : ∀ j, j < t → S (64 * k + j) = false) (hT : Tab w) :
    Calls Tryd.prog 34 #[.int .u64 (wd S k : Int)] w fun e w' => e = .returned (.int .i64 (t : Int)) ∧ w = w' := by
  obtain ⟨V, P, M, x, h5, h1, ha, h2, h3, h4, hc⟩ := trail_facts S k t w ht hs hl hT
  have h6 : (t : Int) ≤ 63 := by omega
  have h7 : (0 : Int) ≤ t := by omega
  have x64 : (x : Int) < 64 := by omega
  have x0 : (0 : Int) ≤ x := by omega
  generalize (wd S k : Int) = W at *
  clear hl hs hT
  go_enter Tryd.func34, Tryd.ntmps34
  go_wp2
  go_ret
  exact ⟨rfl, rfl⟩
/-- the nodes below n, rising -/
def lstN (S : Nat → Bool) (n : Nat) : List Nat := (List.range n).filter S
def lst (S : Nat → Bool) (n : Nat) : List Int := (lstN S n).map fun k : Nat => (k : Int)
theorem lst_yes {S : Nat → Bool} {n : Nat} (h : S n = true) : lst S (n + 1) = lst S n ++ [(n : Int)] := by
  unfold lst lstN
  rw [List.range_succ, List.filter_append, List.map_append]; simp [h]
theorem lst_no {S : Nat → Bool} {n : Nat} (h : S n = false) : lst S (n + 1) = lst S n := by
  unfold lst lstN
  rw [List.range_succ, List.filter_append, List.map_append]; simp [h]
theorem lst_skip {S : Nat → Bool} {n : Nat} : ∀ d, (∀ j, j < d → S (n + j) = false) → lst S (n + d) = lst S n
  | 0, _ => rfl
  | d + 1, h => by
    rw [← Nat.add_assoc, lst_no (h d (by omega)), lst_skip d fun j hj => h j (by omega)]
theorem lst_len (S : Nat → Bool) (n : Nat) : (lst S n).length ≤ n := by
  unfold lst lstN
  rw [List.length_map]
  exact Nat.le_trans (List.length_filter_le _ _) (by simp)
/-- those from p on -/
def fro (S : Nat → Bool) (p : Nat) : Nat → Bool := fun i => S i && decide (p ≤ i)
set_option maxHeartbeats 1000000 in
theorem list_any (S : Nat → Bool) (w : World) (hT : Tab w) :
    Calls Tryd.prog 29 #[sv S] w fun e w' => ∃ v, e = .returned v ∧ Is w' w.heap.size v (lst S 128) ∧ Below w.heap.size w w' := by
  obtain ⟨i0, hi, hz0, hz1, hz2⟩ := info_parts info3
  have HT := Lib.hid hT
  have HW : Hid (Below w.heap.size w (w.alloc (.cells #[.int .u64 (wd S 0 : Int), .int .u64 (wd S 1 : Int)] 49))) := (Below.refl _ w).alloc (Nat.le_refl _) _
  have hT0 := hT.1
  clear hT
  unfold sv
  have hx0 : Hid ((wd S 0 : Int) = wd (fro S (64 * 0)) 0) := congrArg _ (wd_congr fun j _ => by simp [fro])
  have hx1 : Hid ((wd S 1 : Int) = wd (fro S (64 * 1)) 1) := congrArg _ (wd_congr fun j hj => by simp [fro])
  generalize (wd S 0 : Int) = x0 at *
  generalize (wd S 1 : Int) = x1 at *
  go_enter Tryd.func29, Tryd.ntmps29
  go_wp2
  go_loopw [3, 7] (fun v c wr => ∃ k : Nat, k ≤ 2 ∧ c = .int .i64 k ∧ Hid (Ow wr w.heap.size v (lst S (64 * k))) ∧ Hid (Below w.heap.size w wr)) (fun _ c _ => 2 - (intOf c).toNat)
  case atStart => exact ⟨0, by omega, rfl, World.ownsRow_nil _ _ _ _, HW.out⟩
  case round =>
    clear HW
    obtain ⟨k, hk, rfl, HO, HB⟩ := hrel
    by_cases hlt : k < 2
    · have hk2 : k = 0 ∨ k = 1 := by omega
      have key : ∃ X : Int, (Instr.index 49 (.agg #[.int .u64 x0, .int .u64 x1]) (.int .i64 (k : Int))).run Tryd.prog wr = .ok (.int .u64 X) wr ∧ X = wd (fro S (64 * k)) k := by
        rcases hk2 with rfl | rfl
        · exact ⟨x0, by kernel_rfl, hx0.out⟩
        · exact ⟨x1, by kernel_rfl, hx1.out⟩
      obtain ⟨X, hX, hXe0⟩ := key
      have hXe := Lib.hid hXe0
      clear hXe0
      have k2 : (k : Int) < 2 := by omega
      go_wp2
      go_loopw [3, 5] (fun v c wr => ∃ p : Nat, 64 * k ≤ p ∧ p ≤ 64 * k + 64 ∧ c = .int .u64 (wd (fro S p) k : Int) ∧ Hid (Ow wr w.heap.size v (lst S p)) ∧ Hid (Below w.heap.size w wr)) (fun _ c _ => (intOf c).toNat)
      case atStart => exact ⟨64 * k, by omega, by omega, by rw [hXe.out], HO.out, HB.out⟩
      case round =>
        clear HO HB hX
        obtain ⟨p, hp1, hp2, rfl, HO, HB⟩ := hrel
        by_cases hz : wd (fro S p) k = 0
        · have HO2 : Hid (Ow wr w.heap.size u3 (lst S (64 * (k + 1)))) := by
            have := lst_skip (S := S) (n := p) (64 * k + 64 - p) fun j hj => by
              have h := wd_zero hz (p + j - 64 * k) (by omega)
              rw [show 64 * k + (p + j - 64 * k) = p + j by omega] at h
              unfold fro at h
              rw [decide_eq_true (by omega)] at h
              simpa using h
            rw [show p + (64 * k + 64 - p) = 64 * (k + 1) by omega] at this
            unfold Hid; rw [this]; exact HO.out
          have hz0 : (wd (fro S p) k : Int) = 0 := by omega
          clear HO
          go_wp2
          go_roundw
          case rel => exact ⟨k + 1, by omega, by go_num, HO2.out, HB.out⟩
          case measure => simp [intOf]; omega
        · obtain ⟨t, ht, hs, hl⟩ := wd_low hz
          have C := trail_any (fro S p) k t wr ht hs hl (HT.out.below HB.out hT0)
          have hnz : (wd (fro S p) k : Int) ≠ 0 := by omega
          have hs2 : S (64 * k + t) = true ∧ p ≤ 64 * k + t := by unfold fro at hs; simpa using hs
          have HL : Hid (lst S (64 * k + t + 1) = lst S p ++ [((64 * k + t : Nat) : Int)]) := by
            unfold Hid
            rw [lst_yes hs2.1]
            have := lst_skip (S := S) (n := p) (64 * k + t - p) fun j hj => by
              have h := hl (p + j - 64 * k) (by omega)
              rw [show 64 * k + (p + j - 64 * k) = p + j by omega] at h
              unfold fro at h
              rw [decide_eq_true (by omega)] at h
              simpa using h
            rw [show p + (64 * k + t - p) = 64 * k + t by omega] at this
            rw [this]
          have hd := wd_drop ht hs hl
          have hdl := Lib.hid (wd_drop_lt ht hs hl)
          have hde : wd (fun i => fro S p i && decide (64 * k + t < i)) k = wd (fro S (64 * k + t + 1)) k := wd_congr fun j _ => by
            unfold fro
            by_cases h : 64 * k + t < 64 * k + j
            · rw [decide_eq_true h, decide_eq_true (show p ≤ 64 * k + j by omega), decide_eq_true (show 64 * k + t + 1 ≤ 64 * k + j by omega)]; simp
            · rw [decide_eq_false h, decide_eq_false (show ¬ 64 * k + t + 1 ≤ 64 * k + j by omega)]; simp
          rw [hde] at hd hdl
          clear hde
          have hsub : IntKind.u64.wrap ((wd (fro S p) k : Int) - 1) = (wd (fro S p) k : Int) - 1 := IntWalk.u64_in _ ⟨by have := wd_pos ht hs hl; omega, by have := wd_lt (fro S p) k; omega⟩
          have HN := Lib.hid (show (lst S p).length ≤ 128 from Nat.le_trans (lst_len S p) (by omega))
          have hp3 := hs2.2
          have HX : Hid (wd (fro S (64 * k + t + 1)) k < wd (fro S p) k) := hdl.out
          clear hdl hs hl hs2 hz
          generalize hy : wd (fro S (64 * k + t + 1)) k = y at *
          generalize wd (fro S p) k = x at *
          obtain ⟨K6, hshl, hadd⟩ : ∃ K6 : Int, IntKind.i64.wrap ((k : Int) * 64) = K6 ∧ IntKind.i64.wrap (K6 + (t : Int)) = ((64 * k + t : Nat) : Int) :=
            ⟨64 * (k : Int), by rw [IntWalk.i64_in _ (by omega)]; omega, by rw [IntWalk.i64_in _ (by omega)]; omega⟩
          obtain ⟨N, hN⟩ : ∃ N, 64 * k + t = N := ⟨_, rfl⟩
          rw [hN] at HL hadd hp3 hy
          have HN1 : Hid (64 * k ≤ N + 1) := by unfold Hid; omega
          have HN2 : Hid (N + 1 ≤ 64 * k + 64) := by unfold Hid; omega
          have HY := Lib.hid hy
          clear hN hy hp1 hp2 hp3 ht hk2
          go_wp2_with fail
          refine C.mono ?_
          rintro e w2 ⟨rfl, rfl⟩
          clear C
          have HO2 := Lib.hid (HO.out.alloc (.cells #[.int .i64 (N : Int)] 3))
          go_wp2_with (at_builtin; go_must (refine wpList_append_own _ rfl (.tmp 17) (.tmp 23) 23 rfl w.heap.size 3 i0 (.int .i64 0) 1 8 Tryd.underlying23 hi hz0 hz1 hz2 rfl (by decide) _ (lst S p).length _ rfl HO2.out ⟨wr.heap.size, 0, none⟩ 1 1 [.int .i64 (N : Int)] rfl rfl (cell_one_new _ _ _) (by intro u hu; simp at hu; subst hu; rfl) (by have := HN.out; unfold maxLen; omega) (by have := HN.out; omega) (by have := HB.out.size; have := HN.out; simp; omega) ?_))
          intro v7 w7 o7 g7 _
          have HO7 : Hid (Ow w7 w.heap.size v7 (lst S (N + 1))) := by unfold Hid; rw [HL.out]; show World.ownsRow _ _ _ _ _ _ _; rw [iv_snoc, List.length_append]; exact o7
          have HB7 := Lib.hid ((HB.out.alloc HB.out.size (.cells #[.int .i64 (N : Int)] 3)).grown g7 (by have := HB.out.size; simp; omega) (fun k hk => (HO2.out.lt k hk).1))
          clear o7 g7 HO HO2 HB
          go_wp2_with fail
          go_roundw
          case rel => exact ⟨N + 1, HN1.out, HN2.out, by rw [HY.out], HO7.out, HB7.out⟩
          case measure => have := HX.out; simp [intOf]; omega
    · have hk2 : k = 2 := by omega
      subst hk2
      go_wp2
      go_ret
      exact ⟨_, rfl, Ow.is HO.out, HB.out⟩
end Go.Proofs.YtonnopcafmhaaaaDoor

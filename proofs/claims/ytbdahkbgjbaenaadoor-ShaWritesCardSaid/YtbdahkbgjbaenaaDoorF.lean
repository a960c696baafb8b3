/- Contracts: starting, num's Put of nothing, padding. -/
import Derived.Test.YtbdahkbgjbaenaaDoorE
import Derived.OwnWalk
import Derived.Maps.AppendAt
import Derived.Deep.DeepMust
namespace Go.Proofs.YtbdahkbgjbaenaaDoor
open Go.RowKit

theorem S55 : #[Value.int .u32 1779033703, .int .u32 3144134277, .int .u32 1013904242, .int .u32 2773480762, .int .u32 1359893119, .int .u32 2600822924, .int .u32 528734635, .int .u32 1541459225] = mk .u32 8 st0.at := by kernel_rfl
theorem starting_any (w : World) : Calls Tryd.prog 28 #[] w fun e w' => e = .returned (.agg (mk .u32 8 st0.at)) ∧ Below w.heap.size w w' := by
  have S2 : Row (w.alloc (.cells (mk .u32 8 fun _ => 0) 55)) w.heap.size 55 .u32 8 fun _ => 0 := Row.made w _ _ _ _
  have S3 := S2
  have B0 := Lib.hid ((Below.refl w.heap.size w).alloc (Nat.le_refl _) (.cells (mk .u32 8 fun _ => 0) 55))
  have S4 := Lib.hid S2
  unfold Row at S3
  rw [Z55] at S3 S4 B0
  go_enter Tryd.func28, Tryd.ntmps28
  go_wp2_with (refine wpList_store_row rfl 55 (.tmp 0) (.tmp 1) rfl w.heap.size rfl (mk .u32 8 st0.at) (by exact congrArg Value.agg S55) 55 _ S3 (by simp [mk_size]) (info55 _) (mk_one _ _ _) ?_)
  exact bodyPost_ret (v := .agg (mk .u32 8 st0.at)) (results_cell_row rfl _ _ w.heap.size 55 _ (0, 0) _ rfl (S4.out.setRow _ _ _) Tryd.underlying55 rfl (info55 _)) rfl ⟨rfl, below_setRow B0.out (Nat.le_refl _) _⟩

theorem mk_toList (k : IntKind) (n : Nat) (F : Nat → Int) : (mk k n F).toList = (List.range n).map fun j => .int k (F j) := by
  apply List.ext_getElem?
  intro j
  by_cases h : j < n
  · rw [Array.getElem?_toList, mk_get _ _ _ _ h]; simp [h]
  · rw [Array.getElem?_toList]
    have e : (mk k n F)[j]? = none := by simp [mk_size]; omega
    have e2 : ((List.range n).map fun j => Value.int k (F j))[j]? = none := by rw [List.getElem?_eq_none_iff]; simp; omega
    rw [e, e2]
theorem row_of_owns {w : World} {base g n : Nat} {F : Nat → Int} {T : TypeId} {k : IntKind} (h : w.ownsRow base T 1 (.slice (some ⟨g, 0, none⟩) n n) n ((List.range n).map fun j => .int k (F j))) : Row w g T k n F := by
  obtain ⟨h1, h2 | ⟨g', cap, cur, e, h3, h4, h5, h6, h7, h8⟩⟩ := h
  · cases h2.1
  · cases e
    unfold Row
    rw [h4]
    have : cur = mk k n F := by
      apply Array.toList_inj.1
      rw [mk_toList, ← h8, List.take_of_length_le (by simp; omega)]
    rw [this]
theorem info5 : (Tryd.prog.info? 5).map (fun i => (i.zero, i.size, i.bytes)) = some (some (.int .u8 0), 1, 1) := by kernel_rfl
theorem size5 : (Tryd.prog.info? 5).map (·.size) = some 1 := by kernel_rfl
theorem isWidth_any (n : Int) (w : World) (h1 : 1 ≤ n) (h2 : n ≤ 8) : Calls Tryd.prog 37 #[.int .i64 n] w fun e w' => e = .returned (.bool true) ∧ w = w' := by
  go_enter Tryd.func37, Tryd.ntmps37
  go_wp2
  go_ret
  exact ⟨rfl, rfl⟩
theorem fresh_nil (n : Nat) (w : World) (hn : n ≤ 8) : Calls Tryd.prog 38 #[.slice none 0 0, .int .i64 n] w fun e w' => e = .returned (.slice (some ⟨w.heap.size, 0, none⟩) 0 n) ∧
    w'.ownsRow w.heap.size 5 1 (.slice (some ⟨w.heap.size, 0, none⟩) 0 n) 0 [] ∧ w.grownBy w' none := by
  obtain ⟨i0, hi, hz0, hz1, hz2⟩ := info_parts info5
  go_enter Tryd.func38, Tryd.ntmps38
  go_wp2_with (first
    | (at_make; go_must (refine wpList_make_own _ rfl (.tmp 7) (.tmp 11) 22 rfl w.heap.size 5 i0 (.int .u8 0) 1 Tryd.underlying22 hi hz0 hz1 .i64 .i64 (n : Int) n rfl rfl rfl (by simp [hz2]; omega) (by unfold maxLen; omega) (Nat.le_refl _) ?_); intro w1 hown hgrow)
    | (refine wpList_copy_nothing (o := ⟨some 15, _, _, _, _, _⟩) rfl (.tmp 13) (.tmp 14) 22 22 rfl 5 Tryd.underlying22 size5 (some ⟨w.heap.size, 0, none⟩) none 0 n 0 0 rfl rfl rfl ?_))
  go_ret
  exact ⟨rfl, hown, hgrow⟩
set_option maxHeartbeats 1000000 in
theorem put_any (x : Int) (n : Nat) (w : World) (hn1 : 1 ≤ n) (hn : n ≤ 8) :
    Calls Tryd.prog 30 #[.slice none 0 0, .int .u64 x, .int .i64 n] w fun e w' => e = .returned (.slice (some ⟨w.heap.size, 0, none⟩) n n) ∧ Row w' w.heap.size 5 .u8 n (formAt x n) ∧ Below w.heap.size w w' := by
  obtain ⟨i0, hi, hz0, hz1, hz2⟩ := info_parts info5
  go_enter Tryd.func30, Tryd.ntmps30
  go_wp2_with fail
  refine (isWidth_any _ _ (by omega) (by omega)).mono ?_
  rintro e w' ⟨rfl, rfl⟩
  go_wp2_with fail
  refine (fresh_nil n _ hn).mono ?_
  rintro e w1 ⟨rfl, hown, hgrow⟩
  have B1 : Below w.heap.size w w1 := (Below.refl _ _).grown hgrow (Nat.le_refl _) (by simp)
  have HB := Lib.hid B1
  have HO := Lib.hid hown
  clear B1 hown hgrow
  go_wp2_with fail
  go_loopw [7, 18] (fun v i wr => ∃ k : Nat, k ≤ n ∧ i = .int .i64 k ∧ v = .slice (some ⟨w.heap.size, 0, none⟩) k n ∧ Hid (wr.ownsRow w.heap.size 5 1 (.slice (some ⟨w.heap.size, 0, none⟩) k n) k ((List.range k).map fun j => .int .u8 (formAt x n j))) ∧ Hid (Below w.heap.size w wr)) (fun _ i _ => n - (intOf i).toNat)
  case atStart => exact ⟨0, Nat.zero_le _, rfl, rfl, HO.out, HB.out⟩
  case round =>
    clear HO HB
    obtain ⟨k, hk, rfl, rfl, HO, HB⟩ := hrel
    by_cases hlt : k < n
    · have c1 : (8 * ((n : Int) - 1 - k)) ≤ 64 := by omega
      have c0 : 0 ≤ (8 * ((n : Int) - 1 - k)) := by omega
      go_wp2_with (at_builtin; go_must (refine wpList_append_fits _ rfl (.tmp 21) (.tmp 30) 22 rfl w.heap.size 5 i0 1 Tryd.underlying22 hi hz1 w.heap.size k n ((List.range k).map fun j => .int .u8 (formAt x n j)) rfl (HO.out.alloc _) ⟨wr.heap.size, 0, none⟩ 1 1 [.int .u8 (x / 2 ^ (8 * (n - 1 - k)) % 256)] rfl rfl (cell_one_new _ _ _) ?c2 (by omega) ?_))
      case c2 => intro u hu; simp at hu; subst hu; rfl
      intro w2 hown2 hgrow2
      have HG := Lib.hid hgrow2
      have H2 := Lib.hid hown2
      clear hown2 hgrow2
      go_wp2_with fail
      go_roundw
      case rel => exact ⟨k + 1, by omega, by go_num, rfl, by
        have := H2.out
        unfold Hid
        rw [List.range_succ, List.map_append]
        exact this, (HB.out.alloc HB.out.size _).grown HG.out (by have := HB.out.size; simp; omega) (by intro k hk; injection hk with hk; omega)⟩
      case measure => simp [intOf]; omega
    · have hkn : k = n := by omega
      go_wp2_with fail
      go_ret
      subst hkn
      exact ⟨rfl, row_of_owns HO.out, HB.out⟩
theorem made_row (n : Nat) : (madeCells #[Value.int .u8 0] n).toList = (List.range n).map fun _ => .int .u8 0 := by
  rw [toList_madeCells_one]
  apply List.ext_getElem?
  intro j
  by_cases h : j < n
  · rw [List.getElem?_replicate, if_pos h, List.getElem?_map, List.getElem?_range h]; rfl
  · rw [List.getElem?_replicate, if_neg h, List.getElem?_map, List.getElem?_eq_none (by simp; omega)]; rfl
theorem padding_any (t : Nat) (w : World) (ht : t < 1152921504606846976) : Calls Tryd.prog 31 #[.int .u64 t] w fun e w' =>
    e = .returned (.slice (some ⟨w.heap.size, 0, none⟩) (1 + zerosOf t) (1 + zerosOf t)) ∧ Row w' w.heap.size 5 .u8 (1 + zerosOf t) (fun j => if j = 0 then 128 else 0) ∧ Below w.heap.size w w' := by
  obtain ⟨i0, hi, hz0, hz1, hz2⟩ := info_parts info5
  have hz : zerosOf t < 64 := by unfold zerosOf; omega
  have hc : (1 : Int) + (119 - (t : Int)) % 64 = ((1 + zerosOf t : Nat) : Int) := by unfold zerosOf; omega
  have HC := Lib.hid hc
  clear hc
  go_enter Tryd.func31, Tryd.ntmps31
  go_wp2_with (at_make; go_must (refine wpList_make_full _ rfl (.tmp 10) (.tmp 10) 22 rfl w.heap.size 5 i0 (.int .u8 0) 1 Tryd.underlying22 hi hz0 hz1 .u64 .u64 (1 + (119 - (t : Int)) % 64) (1 + (119 - (t : Int)) % 64) (1 + zerosOf t) rfl rfl HC.out HC.out (by rw [hz2]; omega) (by unfold maxLen; omega) (Nat.le_refl _) ?_))
  intro w1 hown hgrow
  rw [made_row] at hown
  have R := row_of_owns hown
  have RH := Lib.hid R
  have c0 := R.cell 0 (by omega)
  have f0 := R.free 0
  have HB := Lib.hid ((Below.refl w.heap.size w).grown hgrow (Nat.le_refl _) (by simp))
  have z0 : (0 : Int) < 1 + (zerosOf t : Int) := by omega
  clear R hown hgrow
  go_wp2
  go_ret
  exact ⟨rfl, (RH.out.set 0 128).congr (fun j _ => by by_cases e : j = 0 <;> simp [upd, e]), Below.setCell HB.out (Nat.le_refl _) _⟩
end Go.Proofs.YtbdahkbgjbaenaaDoor

/- Contracts: the reference's Turned. -/
import Derived.Test.YtonnopcafmhaaaaDoorD3
namespace Go.Proofs.YtonnopcafmhaaaaDoor
open Go.RowKit

set_option maxHeartbeats 8000000 in
theorem rturned_any {w : World} {g n : Nat} {A : Nat → Nat → Bool} (h : RG w g n A) :
    Calls Tryd.prog 12 #[.pointer (some ⟨g, 0, none⟩)] w fun e w' => e = .returned (.pointer (some ⟨w.heap.size, 0, none⟩)) ∧ RG w' w.heap.size n (turnA A) ∧ Below w.heap.size w w' := by
  obtain ⟨i5, hi5, hz0, hz1, hz2⟩ := info_parts info55
  have hN := h.le
  obtain ⟨sp, cap, HG⟩ := h.open
  have HG := Lib.hid HG
  have hmk := run_make_row' (P := Tryd.prog) 55 4 (.bool false) 1 Tryd.underlying55 info4 rfl .i64 .i64 n (by omega) (by omega)
  obtain ⟨n0, hn0⟩ : ∃ k, w.heap.size = k := ⟨_, rfl⟩
  rw [hn0] at HG
  have HN0 := Lib.hid hn0
  have R0 : Hid ((w.alloc (.cells #[.int .i64 (n : Int), .slice none 0 0] 34)).rowIs n0 34 2 (c34 n (.slice none 0 0))) := by
    have := World.rowIs_alloc w #[.int .i64 (n : Int), .slice none 0 0] 34 (c34 n (.slice none 0 0)) fun i hi => by
      have : i = 0 ∨ i = 1 := by simp at hi; omega
      rcases this with rfl | rfl <;> rfl
    rw [hn0] at this; exact this
  have HB0 : Hid (Below n0 w (w.alloc (.cells #[.int .i64 (n : Int), .slice none 0 0] 34))) := (Below.refl _ w).alloc (by omega) _
  have k0 := HG.out.c0 w (Below.refl _ _)
  clear h
  go_enter Tryd.func12, Tryd.ntmps12
  go_wp2
  clear hn0
  go_loopg [4] n (fun k c wr => ∃ (i : Nat) (v : Value) (Q : Nat → Nat), i ≤ n ∧ k = n - i ∧ c = .int .i64 i ∧ Hid (RN n0 n (turnA A) w i v Q wr))
  case atStart => exact ⟨0, .slice none 0 0, fun _ => 0, by omega, by omega, rfl, R0.out, World.ownsRow_nil _ _ _ _, fun j h => absurd h (Nat.not_lt_zero _), HB0.out⟩
  case round =>
    clear R0 HB0 k0
    obtain ⟨i, v, Q, hi, rfl, rfl, HR⟩ := hrel
    have k0 := HG.out.c0 _ HR.out.2.2.2
    by_cases hlt : i < n
    · have hg0 := World.rowIs.lt HR.out.1
      have HMR := Lib.hid (World.rowIs_made wr (.bool false) n 4)
      have HRM := Lib.hid (HR.out.keep ((Below.refl _ wr).alloc (Nat.le_refl _) (.cells (madeCells #[.bool false] n) 4)) (by omega))
      have HQ : Hid (∀ j, j < i → Q j < wr.heap.size) := fun j hj => World.rowIs.lt (HR.out.2.2.1 j hj).2
      obtain ⟨q, hq⟩ : ∃ k, wr.heap.size = k := ⟨_, rfl⟩
      rw [hq] at HMR HQ hg0
      have i0 : (0 : Int) ≤ i := by omega
      have iN : (i : Int) < n := by omega
      clear HR
      go_wp2
      clear hq k0
      go_loopg [6] n (fun k c wr => ∃ j : Nat, j ≤ n ∧ k = n - j ∧ c = .int .i64 j ∧ Hid (RN n0 n (turnA A) w i v Q wr) ∧ Hid (Bl wr q n fun k => decide (k < j) && A k i))
      case atStart => exact ⟨0, by omega, by omega, rfl, HRM.out, HMR.out.congr fun k _ => by simp⟩
      case round =>
        clear HRM HMR
        obtain ⟨j, hj, rfl, rfl, HRM, HMR⟩ := hrel
        have k0 := HG.out.c0 _ HRM.out.2.2.2
        by_cases hjl : j < n
        · obtain ⟨r, qb, rfl, k1, k2⟩ := HG.out.rows _ HRM.out.2.2.2 j hjl
          have k3 := HG.out.c1 _ HRM.out.2.2.2
          have ca := World.rowIs.cell k2 hlt
          unfold rv at k1
          have j0 : (0 : Int) ≤ j := by omega
          have jl : (j : Int) < n := by omega
          have cx := HMR.out.cell hjl
          have fx := HMR.out.frozen j
          have HMR2 : Hid (Bl (wr.setCell ⟨q, j, none⟩ (.bool (A j i))) q n fun k => decide (k < j + 1) && A k i) := (HMR.out.set j (.bool (A j i))).congr fun k _ => by
            show (if k = j then Value.bool (A j i) else Value.bool (decide (k < j) && A k i)) = Value.bool (decide (k < j + 1) && A k i)
            by_cases e : k = j
            · subst e; rw [if_pos rfl]; simp
            · rw [if_neg e, decide_eq_decide.2 (show (k < j + 1 ↔ k < j) by omega)]
          have hqs := World.rowIs.lt HMR.out
          have HRM2 : Hid (RN n0 n (turnA A) w i v Q (wr.setCell ⟨q, j, none⟩ (.bool (A j i)))) :=
            HRM.out.exc (exc_set wr q j (.bool (A j i)) 0) hg0 (by omega) (fun j hj e => by have := HQ.out j hj; omega) (owns_ne HRM.out.2.1 HMR.out (by decide))
          clear HMR HRM hqs k2
          generalize A j i = ab at *
          go_wp2
          go_roundg (n - (j + 1))
          case rel => exact ⟨j + 1, by omega, rfl, by go_num, HRM2.out, HMR2.out⟩
          case measure => omega
        · have hjl : j = n := by omega
          subst hjl
          have HMR : Hid (Bl wr q j (turnA A i)) := HMR.out.congr fun k hk => by
            show Value.bool (decide (k < j) && A k i) = Value.bool (A k i)
            rw [decide_eq_true hk, Bool.true_and]
          have HRN : Hid (RN n0 j (turnA A) w i v Q wr) := HRM.out
          have c1 := HRN.out.1.cell (i := 1) (by omega)
          have f1 := HRN.out.1.frozen 1
          have c1 : wr.cell? ⟨n0, 1, none⟩ = some v := c1
          have hq1 : n0 + 1 ≤ wr.heap.size := by have := World.rowIs.lt HRN.out.1; omega
          have HOW := Lib.hid (HRN.out.2.1.alloc (.cells #[.slice (some ⟨q, 0, none⟩) j j] 55))
          clear HRM
          go_wp2_with (at_builtin; go_must (refine wpList_append_own _ rfl (.tmp 51) (.tmp 53) 32 rfl (n0 + 1) 55 i5 (.slice none 0 0) 1 24 Tryd.underlying32 hi5 hz0 hz1 hz2 rfl (by decide) _ i _ rfl HOW.out ⟨wr.heap.size, 0, none⟩ 1 1 [.slice (some ⟨q, 0, none⟩) j j] rfl rfl (cell_one_new _ _ _) (by intro u hu; simp at hu; subst hu; rfl) (by unfold maxLen; omega) (by omega) (by simp; omega) ?_))
          intro v7 w7 o7 g7 _
          obtain ⟨sp7, cp7, rfl, -, -, -, -⟩ := owns_form1 o7
          have HR7 : Hid (RN n0 j (turnA A) w (i + 1) (.slice sp7 (i + 1) cp7) (fun j => if j = i then q else Q j) (w7.setCell ⟨n0, 1, none⟩ (.slice sp7 (i + 1) cp7))) := HRN.out.grow HMR.out (by omega) o7 g7 rfl
          have hk0 : w7.cell? ⟨n0, 1, none⟩ = some v := by
            have o1 : v.ownBlock ≠ some n0 := fun e => by have := (HRN.out.2.1.lt n0 e).1; omega
            rw [World.cell?_of_block (w := wr.alloc (.cells #[.slice (some ⟨q, 0, none⟩) j j] 55)) (a := ⟨n0, 1, none⟩) (g7.block n0 (by simp; omega) (fun e => o1 e.symm)), World.cell?_of_block (w := wr) (a := ⟨n0, 1, none⟩) (Below.heap_alloc _ _ _ (by show n0 < wr.heap.size; omega))]
            exact c1
          have hk1 : w7.frozen? ⟨n0, 1, none⟩ = false := by
            have o1 : v.ownBlock ≠ some n0 := fun e => by have := (HRN.out.2.1.lt n0 e).1; omega
            rw [World.frozen?_of_block (w := wr.alloc (.cells #[.slice (some ⟨q, 0, none⟩) j j] 55)) (a := ⟨n0, 1, none⟩) (g7.block n0 (by simp; omega) (fun e => o1 e.symm)), World.frozen?_of_block (w := wr) (a := ⟨n0, 1, none⟩) (Below.heap_alloc _ _ _ (by show n0 < wr.heap.size; omega))]
            exact f1
          clear o7 g7 HRN HOW HMR c1 f1 hq1 HQ
          go_wp2_with fail
          go_roundg (j - (i + 1))
          case rel => exact ⟨i + 1, _, _, by omega, rfl, by go_num, HR7.out⟩
          case measure => omega
    · have hiN : i = n := by omega
      subst hiN
      have HE : Hid (RG wr n0 i (turnA A)) := HR.out.done hN
      have HB2 : Hid (Below w.heap.size w wr) := by unfold Hid; rw [HN0.out]; exact HR.out.2.2.2
      clear HR
      go_wp2
      go_ret
      exact ⟨by rw [HN0.out]; rfl, by rw [HN0.out]; exact HE.out, HB2.out⟩
end Go.Proofs.YtonnopcafmhaaaaDoor

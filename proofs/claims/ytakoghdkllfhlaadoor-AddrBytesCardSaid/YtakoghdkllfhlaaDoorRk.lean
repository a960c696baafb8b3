/- Grow, Concat, Put. -/
import Derived.Test.YtakoghdkllfhlaaDoorRj
import Derived.Lib.AppendZeros
namespace Go.Proofs.YtakoghdkllfhlaaDoor
open Go.RowKit Go.Lib

theorem size_zeroCells' (z : Array Value) (n : Nat) : (Builtin.zeroCells z n).size = n * z.size := by simp [Builtin.zeroCells]
set_option maxRecDepth 100000 in
set_option maxHeartbeats 1000000 in
theorem grow_any (n : Nat) (hn : n ≤ 100000) (w : World) : Calls Tryd.prog 77 #[.slice none 0 0, .int .i64 n] w (NewRow [] w) := by
  obtain ⟨i, hi, hz, hs, hb⟩ := info_parts info5
  by_cases h0 : 0 < n
  · have hrun := run_append_nil_zeros (P := Tryd.prog) w 49 3 49 5 i (.int .u8 0) .i64 .i64 Tryd.underlying49 Tryd.underlying3 hi hz n h0 (by omega) (by omega) (by rw [hb]; omega)
    have hcap : n ≤ grownCap w n 0 5 := grownCap_ge _ _ _ _
    have hmax : grownCap w n 0 5 ≤ maxLen := grownCap_le_maxLen _ _ _ _ (by unfold maxLen; omega)
    have HO : Hid (World.ownsRow _ w.heap.size 5 1 (.slice (some ⟨w.heap.size, 0, none⟩) 0 (grownCap w n 0 5)) 0 []) := World.ownsRow_made w.drew (Builtin.zeroCells (Value.int .u8 0).cells n ++ Builtin.zeroCells (Value.int .u8 0).cells (grownCap w n 0 5 - n)) (grownCap w n 0 5) (base := w.heap.size) (e := 5) (size := 1) (Nat.le_refl _) hmax (by rw [Array.size_append, size_zeroCells', size_zeroCells']; simp [Value.cells]; omega)
    have HB := Lib.hid ((Below.refl w.heap.size w).drew.alloc (Nat.le_refl _) (.cells (Builtin.zeroCells (Value.int .u8 0).cells n ++ Builtin.zeroCells (Value.int .u8 0).cells (grownCap w n 0 5 - n)) 5))
    generalize w.drew.alloc _ = w1 at *
    generalize grownCap w n 0 5 = cp at *
    have HR := Lib.hid hrun
    unfold maxLen at hmax
    clear hrun
    go_enter Tryd.func77, Tryd.ntmps77
    go_wp2_with (at_builtin; refine Lib.wpList_append_run _ rfl (.tmp 20) (.tmp 21) 49 3 rfl (.slice none 0 0) (.int .i64 n) rfl rfl _ _ HR.out ?_)
    go_ret
    exact ⟨_, rfl, HO.out, HB.out⟩
  · obtain rfl : n = 0 := by omega
    go_enter Tryd.func77, Tryd.ntmps77
    go_wp2_with fail
    go_ret
    exact ⟨_, rfl, World.ownsRow_nil _ _ _ _, Below.refl _ _⟩
/-- of two rows of bytes, what is behind the first j -/
def two (A B : List Nat) (j : Nat) : List Nat := if j = 0 then [] else if j = 1 then A else A ++ B
set_option maxRecDepth 100000 in
set_option maxHeartbeats 2000000 in
theorem concat_any {na nb b c1 c2 : Nat} {o1 o2 : Option Addr} {A B : List Nat} {w : World} (HA : Bts na w o1 c1 A) (HB : Bts nb w o2 c2 B) (hna : na ≤ w.heap.size) (hnb : nb ≤ w.heap.size) (hA : A.length ≤ 10000) (hB : B.length ≤ 10000)
    (y0 : w.cell? ⟨b, 0, none⟩ = some (.slice o1 A.length c1)) (y1 : w.cell? ⟨b, 1, none⟩ = some (.slice o2 B.length c2)) (hb : b < w.heap.size) : Calls Tryd.prog 54 #[.slice (some ⟨b, 0, none⟩) 2 2] w (NewRow (A ++ B) w) := by
  have HA := Lib.hid HA
  have HB := Lib.hid HB
  have GR := Lib.hid (fun w => grow_any (A.length + B.length) (by omega) w)
  have HY := Lib.hid (And.intro y0 y1)
  go_enter Tryd.func54, Tryd.ntmps54
  go_wp2
  go_loop [3, 11] (fun s i => ∃ j : Nat, j ≤ 2 ∧ i = .int .i64 j ∧ s = .int .i64 (if j = 0 then 0 else if j = 1 then (A.length : Int) else (A.length : Int) + B.length)) (fun _ i => 2 - (RowKit.intOf i).toNat)
  case atStart => exact ⟨0, by omega, rfl, rfl⟩
  case round =>
    obtain ⟨j, hj, rfl, rfl⟩ := hrel
    have hj3 : j = 0 ∨ j = 1 ∨ j = 2 := by omega
    rcases hj3 with rfl | rfl | rfl
    · go_wp2
      go_round
      case rel => exact ⟨1, by omega, by go_num, by go_num⟩
      case measure => simp [RowKit.intOf]
    · go_wp2
      go_round
      case rel => exact ⟨2, by omega, by go_num, by go_num⟩
      case measure => simp [RowKit.intOf]
    · clear y0 y1
      go_wp2_with fail
      refine (GR.out _).mono ?_
      rintro e w1 ⟨v1, rfl, o1x, b1⟩
      have E1 := Lib.hid b1
      have O1 := Lib.hid o1x
      clear o1x b1
      go_wp2_with fail
      go_loopw [6, 27] (fun v i wr => ∃ j : Nat, j ≤ 2 ∧ i = .int .i64 j ∧ Hid (Below w.heap.size w wr) ∧ Hid (wr.ownsRow w.heap.size 5 1 v (two A B j).length (bcs (two A B j)))) (fun _ i _ => 2 - (RowKit.intOf i).toNat)
      case atStart => exact ⟨0, by omega, rfl, E1.out, O1.out⟩
      case round =>
        obtain ⟨j, hj, rfl, EB, OB⟩ := hrel
        have hj3 : j = 0 ∨ j = 1 ∨ j = 2 := by omega
        rcases hj3 with rfl | rfl | rfl
        · have z0 := (EB.out.cell (p := ⟨b, 0, none⟩) hb).trans HY.out.1
          have OB0 : Hid (wr.ownsRow w.heap.size 5 1 _ ([] : List Nat).length (bcs [])) := OB.out
          have S0 := Lib.hid (HA.out.kept (EB.out.mono hna))
          have zs := EB.out.size
          clear OB
          go_wp2_with (at_builtin; go_must (refine app_bts rfl (.tmp 31) (.tmp 32) rfl (base := w.heap.size) (N := []) (M := A) rfl rfl OB0.out S0.out (by simp; omega) zs ?_))
          intro v2 w2 o2x b2 z2
          have E2 := Lib.hid (EB.out.trans b2)
          have O2 : Hid (w2.ownsRow w.heap.size 5 1 v2 (two A B 1).length (bcs (two A B 1))) := o2x
          clear o2x b2
          go_wp2_with fail
          go_roundw
          case rel => exact ⟨1, by omega, by go_num, E2, O2⟩
          case measure => simp [RowKit.intOf]
        · have z0 := (EB.out.cell (p := ⟨b, 1, none⟩) hb).trans HY.out.2
          have OB0 : Hid (wr.ownsRow w.heap.size 5 1 _ A.length (bcs A)) := OB.out
          have S0 := Lib.hid (HB.out.kept (EB.out.mono hnb))
          have zs := EB.out.size
          clear OB
          go_wp2_with (at_builtin; go_must (refine app_bts rfl (.tmp 31) (.tmp 32) rfl (base := w.heap.size) (N := A) (M := B) rfl rfl OB0.out S0.out (by omega) zs ?_))
          intro v2 w2 o2x b2 z2
          rw [← List.length_append] at o2x
          have E2 := Lib.hid (EB.out.trans b2)
          have O2 : Hid (w2.ownsRow w.heap.size 5 1 v2 (two A B 2).length (bcs (two A B 2))) := o2x
          clear o2x b2
          go_wp2_with fail
          go_roundw
          case rel => exact ⟨2, by omega, by go_num, E2, O2⟩
          case measure => simp [RowKit.intOf]
        · go_wp2_with fail
          go_ret
          exact ⟨_, rfl, OB.out, EB.out⟩
set_option maxRecDepth 100000 in
set_option maxHeartbeats 2000000 in
theorem put_any (k : Obt) (hk : Okk k) {nb cap : Nat} {o : Option Addr} {M : List Nat} {w : World} (HM : Bts nb w o cap M) (hnb : nb ≤ w.heap.size) (hM : M.length ≤ 1000) : Calls Tryd.prog 33 #[.slice o M.length cap, kv k] w (NewRow (M ++ fmK k) w) := by
  have hF : (fmK k).length ≤ 200 := by
    unfold fmK
    cases hc : checkKB k with
    | false => simp
    | true => exact formK_len (may_of hc) hk.N1
  have FM := Lib.hid (fun w => form_any k w hk)
  obtain ⟨F, hFe⟩ : ∃ F, fmK k = F := ⟨_, rfl⟩
  rw [hFe] at FM hF ⊢
  clear hFe
  have HW := Lib.hid ((Below.refl w.heap.size w).alloc (Nat.le_refl _) (bk k))
  have HB := Lib.hid (HM.kept (HW.out.mono hnb))
  have HZ : Hid ((w.alloc (bk k)).heap.size = w.heap.size + 1) := by simp [Hid]
  clear HM
  go_enter Tryd.func33, Tryd.ntmps33
  go_wp2_with fail
  generalize w.alloc _ = w0 at *
  refine (FM.out _).mono ?_
  rintro e w1 ⟨o1, c1, rfl, B1, b1⟩
  have E1 := Lib.hid b1
  have HB1 := Lib.hid B1
  have hz1 := b1.size
  have E2 := Lib.hid ((Below.refl w1.heap.size w1).alloc (Nat.le_refl _) (.cells #[.slice o M.length cap, .slice o1 F.length c1] 49))
  have HR : Hid ((w1.alloc (.cells #[.slice o M.length cap, .slice o1 F.length c1] 49)).heap[w1.heap.size]? = some (.cells #[.slice o M.length cap, .slice o1 F.length c1] 49 (0, 0))) := heap_alloc_new _ _
  have HZ2 : Hid ((w1.alloc (.cells #[.slice o M.length cap, .slice o1 F.length c1] 49)).heap.size = w1.heap.size + 1) := by simp [Hid]
  clear B1 b1
  go_wp2_with fail
  generalize w1.alloc _ = w2 at *
  have hz := HZ.out
  have hz2 := HZ2.out
  refine (concat_any (HB.out.kept ((E1.out.mono (by omega)).trans (E2.out.mono (by omega)))) (HB1.out.kept E2.out) (by omega) (by omega) (by omega) (by omega) (by rw [cell_of_row _ _ _ _ _ _ HR.out]; rfl) (by rw [cell_of_row _ _ _ _ _ _ HR.out]; rfl) (by omega)).mono ?_
  rintro e w3 ⟨v3, rfl, o3, b3⟩
  have E3 := Lib.hid (HW.out.trans ((E1.out.trans (E2.out.mono hz1)).mono HW.out.size |>.trans (b3.mono (by omega))))
  have O3 := Lib.hid o3
  clear o3 b3
  go_wp2_with fail
  go_ret
  exact ⟨_, rfl, own_up O3.out (by omega), E3.out⟩
end Go.Proofs.YtakoghdkllfhlaaDoor

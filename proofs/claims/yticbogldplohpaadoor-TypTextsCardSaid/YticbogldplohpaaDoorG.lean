/- Contract: All of the program. -/
import Derived.Test.YticbogldplohpaaDoorF
namespace Go.Proofs.YticbogldplohpaaDoor
open Go.RowKit

set_option maxRecDepth 100000 in
set_option maxHeartbeats 2000000 in
theorem all_any (w : World) : Calls Tryd.prog 19 #[] w (AllPost w) := by
  obtain ⟨i0, hi, hz0, hz1, hz2⟩ := info_parts info23
  go_enter Tryd.func19, Tryd.ntmps19
  go_wp2
  go_loopw [1, 5] (fun v c wr => ∃ j : Nat, j ≤ 255 ∧ c = .int .i64 j ∧ Hid (wr.ownsRow w.heap.size 23 2 v (L j).length (cellsL (L j))) ∧ Hid (Below w.heap.size w wr)) (fun _ c _ => 255 - (intOf c).toNat)
  case atStart => exact ⟨0, by omega, rfl, World.ownsRow_nil _ _ _ _, Below.refl _ _⟩
  case round =>
    obtain ⟨j, hj, rfl, HO, HB⟩ := hrel
    by_cases hlt : j < 255
    · cases hk : okB ((j / 8 : Nat) : Int) ((j % 8 : Nat) : Int) with
      | false =>
        have HL := Lib.hid (L_no j hk)
        simp only [Int.natCast_ediv, Int.natCast_emod, Int.cast_ofNat_Int] at hk
        have C := fun w => of_no (j : Int) w (by omega) (by omega) hk
        clear hk
        go_wp2_with fail
        refine (C _).mono ?_
        rintro e w2 ⟨rfl, b2⟩
        have HO2 := Lib.hid ((owns_below HO.out b2).alloc (.cells #[.int .i64 0, .int .i64 0] 23))
        have HB2 := Lib.hid ((HB.out.trans (b2.mono HB.out.size)).alloc (by have := HB.out.size; have := b2.size; omega) (.cells #[.int .i64 0, .int .i64 0] 23))
        clear b2 HO HB C
        go_wp2
        go_roundw
        case rel => exact ⟨j + 1, by omega, by go_num, by unfold Hid; rw [HL.out]; exact HO2.out, HB2.out⟩
        case measure => simp [intOf]; omega
      | true =>
        have HL := Lib.hid (L_yes j hk)
        have HN := L_len j
        simp only [Int.natCast_ediv, Int.natCast_emod, Int.cast_ofNat_Int] at hk HL
        have C := fun w => of_ok (j : Int) w (by omega) (by omega) hk
        clear hk
        go_wp2_with fail
        refine (C _).mono ?_
        rintro e w2 ⟨rfl, b2⟩
        have HO2 := Lib.hid (((owns_below HO.out b2).alloc (.cells #[.int .i64 (j / 8), .int .i64 (j % 8)] 23)).alloc (.cells #[.int .i64 (j / 8), .int .i64 (j % 8)] 23))
        have HB2 := Lib.hid (((HB.out.trans (b2.mono HB.out.size)).alloc (by have := HB.out.size; have := b2.size; omega) (.cells #[.int .i64 (j / 8), .int .i64 (j % 8)] 23)).alloc (by have := HB.out.size; have := b2.size; simp; omega) (.cells #[.int .i64 (j / 8), .int .i64 (j % 8)] 23))
        have sz : w.heap.size ≤ w2.heap.size := by have := HB.out.size; have := b2.size; omega
        have cn : ∀ i u, [Value.int .i64 ((j : Int) / 8), Value.int .i64 ((j : Int) % 8)][i]? = some u → ((w2.alloc (.cells #[.int .i64 (j / 8), .int .i64 (j % 8)] 23)).alloc (.cells #[.int .i64 (j / 8), .int .i64 (j % 8)] 23)).cell? ((⟨w2.heap.size + 1, 0, none⟩ : Addr).add i) = some u := by
          have := cell_two_new (w2.alloc (.cells #[.int .i64 (j / 8), .int .i64 (j % 8)] 23)) (.int .i64 (j / 8)) (.int .i64 (j % 8)) 23
          simp only [World.size_alloc] at this
          exact this
        have CN := Lib.hid cn
        clear b2 HO HB C cn
        go_wp2_with (at_builtin; go_must (refine wpList_append_own _ rfl (.tmp 16) (.tmp 18) 40 rfl w.heap.size 23 i0 (.agg #[.int .i64 0, .int .i64 0]) 2 16 Tryd.underlying40 hi hz0 hz1 hz2 rfl (by decide) _ (L j).length _ rfl HO2.out ⟨w2.heap.size + 1, 0, none⟩ 1 1 [.int .i64 (j / 8), .int .i64 (j % 8)] rfl rfl CN.out (by intro u hu; simp at hu; rcases hu with rfl | rfl <;> rfl) (by unfold maxLen; omega) (by omega) (by simp; omega) ?_))
        intro v7 w7 o7 g7 _
        have HO7 := Lib.hid o7
        have HB7 := Lib.hid (HB2.out.grown g7 HB2.out.size (fun k hk => (HO2.out.lt k hk).1))
        clear o7 g7
        go_wp2_with fail
        go_roundw
        case rel => exact ⟨j + 1, by omega, by go_num, by unfold Hid; rw [HL.out, cellsL_snoc, List.length_append]; exact HO7.out, HB7.out⟩
        case measure => simp [intOf]; omega
    · have hj48 : j = 255 := by omega
      subst hj48
      rw [L255] at HO
      go_wp2
      go_ret
      exact all_post HO.out HB.out
end Go.Proofs.YticbogldplohpaaDoor

/- awake: the document's examples. -/
import Derived.Test.YtgjacapalahgkaaDoorN2
import Derived.Below
import Derived.WalkSmall
import Derived.Deep.DeepMust
import Derived.Laws.CopyOwn
import Derived.Maps.AppendAt
import Derived.Handy
import Derived.WalkLawsBesides
namespace Go.Proofs.YtgjacapalahgkaaDoor
open Go.ChangeShapes Go.WideShapes Go.ChangeAt Go.RowKit

theorem b45 : (⟨#[45, 48]⟩ : ByteArray)[0]'(by decide) = 45 := by decide
theorem b48 : (⟨#[48]⟩ : ByteArray)[0]'(by decide) = 48 := by decide
theorem bx : (⟨#[45, 48]⟩ : ByteArray).extract 1 2 = ⟨#[48]⟩ := by decide
theorem parse_minus0 (w : World) : Calls Tryd.prog 6 #[.string ⟨#[45, 48]⟩] w fun e w' => e = .returned (.tuple #[.int .i64 0, .int .i64 4]) ∧ w = w' := by
  have h1 := b45
  have h2 := b48
  have h3 := bx
  go_enter Tryd.func6, Tryd.ntmps6
  go_wp2
  go_ret2
  exact ⟨rfl, rfl⟩
theorem info5 : (Tryd.prog.info? 5).map (fun i => (i.zero, i.size, i.bytes)) = some (some (.int .u8 0), 1, 1) := by kernel_rfl
theorem size5 : (Tryd.prog.info? 5).map (·.size) = some 1 := by kernel_rfl
theorem fresh_nil (w : World) : Calls Tryd.prog 20 #[.slice none 0 0, .int .i64 10] w fun e w' => e = .returned (.slice (some ⟨w.heap.size, 0, none⟩) 0 10) ∧
    w'.ownsRow w.heap.size 5 1 (.slice (some ⟨w.heap.size, 0, none⟩) 0 10) 0 [] ∧ w.grownBy w' none := by
  obtain ⟨i0, hi, hz0, hz1, hz2⟩ := info_parts info5
  go_enter Tryd.func20, Tryd.ntmps20
  go_wp2_with (first
    | (at_make; go_must (refine wpList_make_own _ rfl (.tmp 7) (.tmp 11) 32 rfl w.heap.size 5 i0 (.int .u8 0) 1 Tryd.underlying32 hi hz0 hz1 .i64 .i64 (10 : Int) 10 rfl rfl rfl (by simp [hz2]) (by decide) (Nat.le_refl _) ?_); intro w1 hown hgrow)
    | (refine wpList_copy_nothing (o := ⟨some 15, _, _, _, _, _⟩) rfl (.tmp 13) (.tmp 14) 32 32 rfl 5 Tryd.underlying32 size5 (some ⟨w.heap.size, 0, none⟩) none 0 10 0 0 rfl rfl rfl ?_))
  go_ret
  exact ⟨rfl, hown, hgrow⟩
theorem put_300 (w : World) : Calls Tryd.prog 13 #[.slice none 0 0, .int .u64 300] w fun e w' => e = .returned (.slice (some ⟨w.heap.size, 0, none⟩) 2 10) ∧
    w'.ownsRow w.heap.size 5 1 (.slice (some ⟨w.heap.size, 0, none⟩) 2 10) 2 [.int .u8 172, .int .u8 2] ∧ Below w.heap.size w w' := by
  obtain ⟨i0, hi, hz0, hz1, hz2⟩ := info_parts info5
  go_enter Tryd.func13, Tryd.ntmps13
  go_wp2_with fail
  refine (fresh_nil _).mono ?_
  rintro e w1 ⟨rfl, hown, hgrow⟩
  go_wp2_with fail
  have hbits : bits .or .u8 44 128 = 172 := by decide
  refine wp_loop_rounds 2 ?_; rw [rounds_succ]
  go_wp2_with (at_builtin; go_must (refine wpList_append_fits _ rfl (.tmp 13) (.tmp 17) 32 rfl w.heap.size 5 i0 1 Tryd.underlying32 hi hz1 w.heap.size 0 10 [] rfl (hown.alloc _) ⟨w1.heap.size, 0, none⟩ 1 1 [.int .u8 172] rfl rfl (cell_one_new _ _ _) ?c2 (by omega) ?_))
  case c2 => intro u hu; simp at hu; subst hu; rfl
  intro w2 hown2 hgrow2
  go_wp2_with fail
  rw [rounds_succ]
  go_wp2_with (at_builtin; go_must (refine wpList_append_fits _ rfl (.tmp 19) (.tmp 22) 32 rfl w.heap.size 5 i0 1 Tryd.underlying32 hi hz1 w.heap.size 1 10 [.int .u8 172] rfl (hown2.alloc _) ⟨w2.heap.size, 0, none⟩ 1 1 [.int .u8 2] rfl rfl (cell_one_new _ _ _) ?c3 (by omega) ?_))
  case c3 => intro u hu; simp at hu; subst hu; rfl
  intro w3 hown3 hgrow3
  go_wp2_with fail
  go_ret
  refine ⟨rfl, hown3, ?_⟩
  have b1 : Below w.heap.size w w1 := (Below.refl _ _).grown hgrow (Nat.le_refl _) (by simp)
  have b2 := ((b1.alloc b1.size _).grown hgrow2 (by have := b1.size; simp; omega) (by intro k hk; injection hk with hk; omega))
  exact ((b2.alloc b2.size _).grown hgrow3 (by have := b2.size; simp; omega) (by intro k hk; injection hk with hk; omega))
end Go.Proofs.YtgjacapalahgkaaDoor

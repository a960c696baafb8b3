/- awake: the document's examples hold. -/
import Derived.Test.YticbogldplohpaaDoorJ
import Derived.Deep.RegionHeld3
import Derived.Deep.DrawnRows
namespace Go.Proofs.YticbogldplohpaaDoor
open Go.RowKit
attribute [local go_sem ↓] Go.wp_at_zero Go.wp_at_succ

/-- block b holds a type -/
structure Bx (w : World) (b : Nat) (k o : Int) : Prop where
  lt : b < w.heap.size
  c0 : w.cell? ⟨b, 0, none⟩ = some (.int .i64 k)
  c1 : w.cell? ⟨b, 1, none⟩ = some (.int .i64 o)
theorem Bx.below {w w' : World} {b n : Nat} {k o : Int} (h : Bx w b k o) (hb : Below n w w') (hn : b < n) (hs : n ≤ w.heap.size) : Bx w' b k o :=
  ⟨Nat.lt_of_lt_of_le (Nat.lt_of_lt_of_le hn hs) (Nat.le_trans (Nat.le_refl _) hb.size), (hb.cell (p := ⟨b, 0, none⟩) hn).trans h.c0, (hb.cell (p := ⟨b, 1, none⟩) hn).trans h.c1⟩
theorem Bx.keep {w w' : World} {b : Nat} {k o : Int} (h : Bx w b k o) (hb : Below w.heap.size w w') : Bx w' b k o := h.below hb h.lt (Nat.le_refl _)
theorem Bx.new (w : World) (k o : Int) : Bx (w.alloc (.cells #[.int .i64 k, .int .i64 o] 23)) w.heap.size k o := ⟨by simp, by simp [go_sem], by simp [go_sem]⟩
theorem Bx.alloc {w : World} {b : Nat} {k o : Int} (h : Bx w b k o) (x : Obj) : Bx (w.alloc x) b k o := h.keep ((Below.refl _ _).alloc (Nat.le_refl _) x)
/-- what a region keeps over its calls: all that stood when it began -/
theorem held_next {N : Nat} {W0 W1 W2 : World} (b : Below W1.heap.size W1 W2) (h : (∀ b o, b < N → W1.cell? ⟨b, o, none⟩ = W0.cell? ⟨b, o, none⟩) ∧ Hid (Below N W0 W1) ∧ Hid (N ≤ W1.heap.size)) :
    (∀ b o, b < N → W2.cell? ⟨b, o, none⟩ = W0.cell? ⟨b, o, none⟩) ∧ Hid (Below N W0 W2) ∧ Hid (N ≤ W2.heap.size) := by
  have hB : Below N W0 W2 := h.2.1.out.trans (b.mono h.2.2.out)
  exact ⟨fun b o hb => hB.cell (p := ⟨b, o, none⟩) hb, hB, Nat.le_trans h.2.2.out b.size⟩
theorem held_at {N : Nat} {W0 : World} (h : N = W0.heap.size) : (∀ b o, b < N → W0.drew.cell? ⟨b, o, none⟩ = W0.cell? ⟨b, o, none⟩) ∧ Hid (Below N W0 W0.drew) ∧ Hid (N ≤ W0.drew.heap.size) :=
  ⟨fun _ _ _ => rfl, (Below.refl _ _).drew, Nat.le_of_eq h⟩
set_option maxHeartbeats 1000000 in
theorem awake_true (w : World) : Calls Tryd.prog 4 #[] w fun e w' => e = .returned (.bool true) ∧ Below w.heap.size w w' := by
  have M := meet_any 4 0 4 2 4 2 true (by decide)
  have I1 := fun w => within_any 4 2 4 0 w
  rw [show inB (4, 2) (4, 0) = true by decide] at I1
  have I2 := fun w => within_any 4 0 4 2 w
  rw [show inB (4, 0) (4, 2) = false by decide] at I2
  have J := join_is 4 0 4 2 4 0 (by decide)
  have C := fun w => code_any 5 3 w
  rw [show code (5, 3) = 43 by decide] at C
  have X0 : Bx ((w.alloc (.cells #[.int .i64 4, .int .i64 0] 23)).alloc (.cells #[.int .i64 4, .int .i64 2] 23)) w.heap.size 4 0 := (Bx.new _ _ _).alloc _
  have X1 : Bx ((w.alloc (.cells #[.int .i64 4, .int .i64 0] 23)).alloc (.cells #[.int .i64 4, .int .i64 2] 23)) (w.heap.size + 1) 4 2 := by have := Bx.new (w.alloc (.cells #[.int .i64 4, .int .i64 0] 23)) 4 2; simpa using this
  have HX := Lib.hid (And.intro X0 X1)
  clear X0 X1
  have HM := Lib.hid M
  have H := Lib.hid (And.intro I1 (And.intro I2 (And.intro J C)))
  clear I1 I2 J C M
  go_enter Tryd.func4, Tryd.ntmps4
  go_wp2_with fail
  refine (HM.out _).mono ?_
  rintro e w1 ⟨rfl, b1⟩
  have X0 := (HX.out.1.keep b1).alloc (.cells #[.int .i64 4, .int .i64 2] 23)
  have X1 := (HX.out.2.keep b1).alloc (.cells #[.int .i64 4, .int .i64 2] 23)
  have X2 := Bx.new w1 4 2
  have B1 := Lib.hid (((((Below.refl _ _).alloc (Nat.le_refl _) _).alloc (by simp) _).trans (b1.mono (by simp; omega))).alloc (by have := b1.size; simp at this; omega) (.cells #[.int .i64 4, .int .i64 2] 23) : Below w.heap.size w (w1.alloc (.cells #[.int .i64 4, .int .i64 2] 23)))
  clear b1 HX HM
  go_wp2
  generalize w1.alloc (.cells #[.int .i64 4, .int .i64 2] 23) = W0 at *
  obtain ⟨N, hN⟩ : ∃ N, N = W0.heap.size := ⟨_, rfl⟩
  have S0 := held_at hN
  obtain ⟨l0, c0, c1⟩ := X0
  obtain ⟨l1, c2, c3⟩ := X1
  obtain ⟨l2, c4, c5⟩ := X2
  rw [← hN] at l0 l1 l2
  have HN := Lib.hid hN
  clear hN
  go_region_held3 (fun W => (∀ b o, b < N → W.cell? ⟨b, o, none⟩ = W0.cell? ⟨b, o, none⟩) ∧ Hid (Below N W0 W) ∧ Hid (N ≤ W.heap.size))
    (first | assumption | with_reducible exact held_next (by assumption) (by assumption))
    (first
      | (go_at_call 11; (with_reducible refine (H.out.1 _).mono ?_); rintro e W ⟨rfl, b⟩)
      | (go_at_call 11; (with_reducible refine (H.out.2.1 _).mono ?_); rintro e W ⟨rfl, b⟩)
      | (go_at_call 12; (with_reducible refine (H.out.2.2.1 _).mono ?_); rintro e W ⟨rfl, b⟩)
      | (go_at_call 13; (with_reducible refine (H.out.2.2.2 _).mono ?_); rintro e W ⟨rfl, b⟩))
  go_wp2
  go_ret
  rename_i hH
  exact ⟨rfl, B1.out.trans (hH.2.1.out.mono (by rw [HN.out]; exact B1.out.size))⟩
end Go.Proofs.YticbogldplohpaaDoor

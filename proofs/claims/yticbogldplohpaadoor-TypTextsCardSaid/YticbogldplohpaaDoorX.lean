/- The law of types' texts: its walk. -/
import Derived.Test.YticbogldplohpaaDoorV
import Derived.Deep.DeepCutAuto
namespace Go.Proofs.YticbogldplohpaaDoor
open Go.RowKit
attribute [local go_sem ↓] Go.wp_at_zero Go.wp_at_succ

theorem rcheck_any (k o : Int) (w : World) : Calls Tryd.prog 9 #[ty k o] w fun e w' => e = .returned (.bool (okB k o)) ∧ Below w.heap.size w w' := by
  cases h : okB k o
  · exact rcheck_no k o w h
  · exact rcheck_ok k o w h
theorem ok_at : ∀ a ∈ all, ∃ i, i < 12 ∧ tK i = a.1 ∧ tO i = a.2 := by
  intro a h
  obtain ⟨i, hi, e⟩ := List.getElem_of_mem h
  have e2 := all_at i hi
  rw [List.getElem?_eq_getElem hi, e] at e2
  have e3 := Option.some.inj e2
  exact ⟨i, hi, by rw [e3], by rw [e3]⟩
theorem txt_ne : ∀ i, i < 12 → txtAt i ≠ ⟨#[63]⟩ := by decide
/-- what is read of a type's text -/
theorem pa_txt (k o : Int) : ∃ k2 o2 e2, PA (txt k o) k2 o2 e2 ∧ (txt k o).size ≤ 200 ∧ ((okB k o = true ∧ k2 = k ∧ o2 = o ∧ e2 = 0) ∨ (okB k o = false ∧ e2 = 4)) := by
  cases h : okB k o
  · rw [txt_no h]
    exact ⟨0, 0, 4, .inr ⟨txt_ne, rfl, rfl, rfl⟩, by decide, .inr ⟨rfl, rfl⟩⟩
  · obtain ⟨i, hi, e1, e2⟩ := ok_at (k, o) (ok_mem (a := (k, o)) h)
    simp only at e1 e2
    subst e1 e2
    exact ⟨_, _, 0, .inl ⟨i, hi, rfl, rfl, rfl, rfl⟩, Nat.le_trans (txt_size i hi) (by omega), .inl ⟨rfl, rfl, rfl, rfl⟩⟩
set_option maxRecDepth 100000 in
set_option maxHeartbeats 2000000 in
theorem texts_long (k o : Int) (s : ByteArray) (w : World) (hs : ¬ s.size ≤ 200) : Calls Tryd.prog 3 #[ty k o, .string s] w fun e w' => e = .returned (.bool true) ∧ Below w.heap.size w w' := by
  have B0 := Lib.hid ((Below.refl _ _).alloc (Nat.le_refl _) _ : Below w.heap.size w (w.alloc (.cells #[.int .i64 k, .int .i64 o] 23)))
  have AW := Lib.hid awake_true
  have hi : (200 : Int) < s.size := by omega
  go_enter Tryd.func3, Tryd.ntmps3
  go_wp2_with fail
  refine (AW.out _).mono ?_
  rintro e W ⟨rfl, b⟩
  go_wp2
  go_ret
  exact ⟨rfl, B0.out.trans (b.mono B0.out.size)⟩
set_option maxRecDepth 100000 in
set_option maxHeartbeats 8000000 in
theorem texts_short (k o : Int) (s : ByteArray) (w : World) (hs : s.size ≤ 200) (hw : Wd w) : Calls Tryd.prog 3 #[ty k o, .string s] w fun e w' => e = .returned (.bool true) ∧ Below w.heap.size w w' := by
  obtain ⟨k1, o1, e1, p1⟩ := pa_of s
  have P1 := Lib.hid (fun w hw => parse_any s k1 o1 e1 p1 hs w hw)
  have R1 := Lib.hid (fun w => rparse_any s k1 o1 e1 p1 hs w)
  obtain ⟨k2, o2, e2, p2, hz, hE⟩ := pa_txt k o
  have P2 := Lib.hid (fun w hw => parse_any (txt k o) k2 o2 e2 p2 hz w hw)
  have T1 := Lib.hid (fun w hw => text_any k o w hw)
  have T2 := Lib.hid (fun w => rtext_any k o w)
  have CC := Lib.hid (fun w => rcheck_any k o w)
  have AW := Lib.hid awake_true
  have HE := Lib.hid hE
  clear p1 p2 hz hE
  generalize txt k o = X at *
  generalize okB k o = OB at *
  have BD := ((Below.refl _ _).alloc (Nat.le_refl _) _ : Below w.heap.size w (w.alloc (.cells #[.int .i64 k, .int .i64 o] 23)))
  have X0 := Lib.hid (Bx.new w k o)
  have W0 := Lib.hid (hw.keep BD)
  have B0 := Lib.hid BD
  clear BD hw
  have hi : (s.size : Int) ≤ 200 := by omega
  go_enter Tryd.func3, Tryd.ntmps3
  go_wp2_with fail
  refine (P1.out _ W0.out).mono ?_
  rintro e w1 ⟨rfl, b⟩
  have BD := ((Below.refl _ _).alloc (Nat.le_refl _) _ : Below w1.heap.size w1 (w1.alloc (.cells #[.int .i64 k1, .int .i64 o1] 23)))
  have Y0 := Lib.hid ((X0.out.keep b).keep BD)
  have Y1 := Lib.hid (Bx.new w1 k1 o1)
  have W1 := Lib.hid ((W0.out.keep b).keep BD)
  have BB := (B0.out.trans (b.mono B0.out.size))
  have B1 := Lib.hid (BB.trans (BD.mono BB.size))
  clear BD BB b X0 W0 B0 P1
  have c0 := Y0.out.c0
  have c1 := Y0.out.c1
  go_upto_region 4 with fail
  generalize w1.alloc (.cells #[.int .i64 k1, .int .i64 o1] 23) = V1 at *
  generalize w1.heap.size = n1 at *
  go_wp2_with fail
  refine (R1.out _).mono ?_
  rintro e w2 ⟨rfl, b⟩
  have BD := ((Below.refl _ _).alloc (Nat.le_refl _) _ : Below w2.heap.size w2 (w2.alloc (.cells #[.int .i64 k1, .int .i64 o1] 23)))
  have Z0 := Lib.hid ((Y0.out.keep b).keep BD)
  have Z1 := Lib.hid ((Y1.out.keep b).keep BD)
  have Z2 := Lib.hid (Bx.new w2 k1 o1)
  have W2 := Lib.hid ((W1.out.keep b).keep BD)
  have BB := (B1.out.trans (b.mono B1.out.size))
  have B2 := Lib.hid (BB.trans (BD.mono BB.size))
  clear BD BB b Y0 Y1 W1 B1 R1 c0 c1
  have c0 := Z0.out.c0
  have c1 := Z0.out.c1
  go_upto_region 5 with fail
  generalize w2.alloc (.cells #[.int .i64 k1, .int .i64 o1] 23) = V2 at *
  generalize w2.heap.size = n2 at *
  go_wp2_with fail
  refine (T1.out _ W2.out).mono ?_
  rintro e w3 ⟨rfl, b⟩
  have U0 := Lib.hid (Z0.out.keep b)
  have U1 := Lib.hid (Z1.out.keep b)
  have U2 := Lib.hid (Z2.out.keep b)
  have W3 := Lib.hid (W2.out.keep b)
  have B3 := Lib.hid (B2.out.trans (b.mono B2.out.size))
  clear b Z0 Z1 Z2 W2 B2 T1 c0 c1
  have c0 := U0.out.c0
  have c1 := U0.out.c1
  go_wp2_with fail
  refine (P2.out _ W3.out).mono ?_
  rintro e w4 ⟨rfl, b⟩
  have BD := ((Below.refl _ _).alloc (Nat.le_refl _) _ : Below w4.heap.size w4 (w4.alloc (.cells #[.int .i64 k2, .int .i64 o2] 23)))
  have Q0 := Lib.hid ((U0.out.keep b).keep BD)
  have Q1 := Lib.hid ((U1.out.keep b).keep BD)
  have Q2 := Lib.hid ((U2.out.keep b).keep BD)
  have Q3 := Lib.hid (Bx.new w4 k2 o2)
  have BB := (B3.out.trans (b.mono B3.out.size))
  have B4 := Lib.hid (BB.trans (BD.mono BB.size))
  clear BD BB b U0 U1 U2 W3 B3 P2 c0 c1
  have c0 := Q0.out.c0
  have c1 := Q0.out.c1
  go_upto_region 7 with fail
  generalize w4.alloc (.cells #[.int .i64 k2, .int .i64 o2] 23) = V4 at *
  generalize w4.heap.size = n4 at *
  go_wp2_with fail
  refine (T2.out _).mono ?_
  rintro e w5 ⟨rfl, b⟩
  have R0 := Lib.hid (Q0.out.keep b)
  have R1 := Lib.hid (Q1.out.keep b)
  have R2 := Lib.hid (Q2.out.keep b)
  have R3 := Lib.hid (Q3.out.keep b)
  have B5 := Lib.hid (B4.out.trans (b.mono B4.out.size))
  clear b Q0 Q1 Q2 Q3 B4 c0 c1
  have c0 := R0.out.c0
  have c1 := R0.out.c1
  have c2 := R1.out.c0
  have c3 := R1.out.c1
  have c4 := R2.out.c0
  have c5 := R2.out.c1
  rcases HE.out with ⟨rfl, rfl, rfl, rfl⟩ | ⟨rfl, rfl⟩
  all_goals
    go_wp2_with fail
    refine (CC.out _).mono ?_
    rintro e w6 ⟨rfl, b⟩
    have S0 := Lib.hid (R0.out.keep b)
    have S3 := Lib.hid (R3.out.keep b)
    have B6 := Lib.hid (B5.out.trans (b.mono B5.out.size))
    clear b R0 R1 R2 R3 B5 c0 c1 c2 c3 c4 c5
    have c0 := S0.out.c0
    have c1 := S0.out.c1
    have c2 := S3.out.c0
    have c3 := S3.out.c1
    go_wp2_with fail
    refine (AW.out _).mono ?_
    rintro e w7 ⟨rfl, b⟩
    go_wp2
    go_ret
    exact ⟨rfl, B6.out.trans (b.mono B6.out.size)⟩
theorem texts_any (k o : Int) (s : ByteArray) (w : World) (hw : Wd w) : Calls Tryd.prog 3 #[ty k o, .string s] w fun e w' => e = .returned (.bool true) ∧ Below w.heap.size w w' := by
  by_cases hs : s.size ≤ 200
  · exact texts_short k o s w hs hw
  · exact texts_long k o s w hs
end Go.Proofs.YticbogldplohpaaDoor

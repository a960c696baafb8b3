/- The reference's check. -/
import Derived.Test.YtfmgbhaldakpfaaDoorO
import Derived.Test.YtfmgbhaldakpfaaDoorC
import Derived.Test.YtfmgbhaldakpfaaDoorTc
namespace Go.Proofs.YtfmgbhaldakpfaaDoor
open Go.RowKit

theorem okT_no {V : Val} {m : Nat} (h : ok1 V = false) : okT m V = false := by cases m with | zero => rfl | succ m => rw [okT, h]; rfl
theorem emp_size {s : ByteArray} (h : s.toList.isEmpty = true) : s.size = 0 := by
  rw [List.isEmpty_iff, ByteArray.toList_eq, Array.toList_eq_nil_iff] at h
  obtain ⟨d⟩ := s
  subst h; rfl
theorem ok1_facts {V : Val} (h : ok1 V = true) : (0 ≤ V.k ∧ V.k ≤ 6) ∧ (V.k = 1 ∨ V.k = 2 ∨ V.i = 0) ∧ (V.k = 1 → V.i = 0 ∨ V.i = 1) ∧ (V.k = 3 ∨ V.s.toList.isEmpty = true) ∧ V.s.size ≤ 1024 ∧ (V.k = 6 ∨ V.tk = 0 ∧ V.to = 0) ∧ (V.k = 6 → Typ.okB V.tk V.to = true) ∧
    (V.k = 4 ∨ V.k = 5 ∨ V.l.length = 0) ∧ V.l.length ≤ 128 ∧ (V.k = 5 ∨ V.ks.length = 0) ∧ (V.k = 5 → V.ks.length = V.l.length ∧ keysOk V.ks = true) := by
  unfold ok1 plV limV pl lim at h
  simp only [Bool.and_eq_true, decide_eq_true_eq, Bool.or_eq_true] at h
  obtain ⟨⟨⟨⟨⟨a1, a2⟩, a3⟩, a4⟩, a5⟩, a6⟩ := h
  have hs : V.k = 3 ∨ V.s.size = 0 := a2.imp id emp_size
  by_cases h0 : V.k = 0 ∨ V.k = 2
  · exact ⟨by omega, a1, by omega, a2, by omega, a5, by omega, a3, by omega, a4, by omega⟩
  · rw [if_neg h0] at a6
    by_cases h1 : V.k = 1
    · rw [if_pos h1] at a6
      simp only [decide_eq_true_eq] at a6
      exact ⟨by omega, a1, fun _ => a6, a2, by omega, a5, by omega, a3, by omega, a4, by omega⟩
    · rw [if_neg h1] at a6
      by_cases h3 : V.k = 3
      · rw [if_pos h3] at a6
        simp only [decide_eq_true_eq] at a6
        exact ⟨by omega, a1, by omega, a2, a6, a5, by omega, a3, by omega, a4, by omega⟩
      · rw [if_neg h3] at a6
        by_cases h5 : V.k = 5
        · rw [if_pos h5] at a6
          simp only [Bool.and_eq_true, decide_eq_true_eq] at a6
          exact ⟨by omega, a1, by omega, a2, by omega, a5, by omega, a3, by omega, a4, fun _ => a6.1⟩
        · rw [if_neg h5] at a6
          by_cases h4 : V.k = 4
          · rw [if_pos h4] at a6
            simp only [decide_eq_true_eq] at a6
            exact ⟨by omega, a1, by omega, a2, by omega, a5, by omega, a3, a6, a4, by omega⟩
          · rw [if_neg h4] at a6
            by_cases h6 : V.k = 6
            · rw [if_pos h6] at a6
              exact ⟨by omega, a1, by omega, a2, by omega, a5, fun _ => a6, a3, by omega, a4, by omega⟩
            · rw [if_neg h6] at a6; cases a6
theorem ok1_mk {V : Val} (h0 : 0 ≤ V.k ∧ V.k ≤ 6) (a1 : V.k = 1 ∨ V.k = 2 ∨ V.i = 0) (b1 : V.k = 1 → V.i = 0 ∨ V.i = 1) (a2 : V.k = 3 ∨ V.s.toList.isEmpty = true) (b2 : V.s.size ≤ 1024) (a5 : V.k = 6 ∨ V.tk = 0 ∧ V.to = 0) (b5 : V.k = 6 → Typ.okB V.tk V.to = true)
    (a3 : V.k = 4 ∨ V.k = 5 ∨ V.l.length = 0) (b3 : V.l.length ≤ 128) (a4 : V.k = 5 ∨ V.ks.length = 0) (b4 : V.k = 5 → V.ks.length = V.l.length ∧ keysOk V.ks = true) : ok1 V = true := by
  have hp : plV V = true := by
    unfold plV pl
    simp only [Bool.and_eq_true, decide_eq_true_eq, Bool.or_eq_true]
    exact ⟨⟨⟨⟨a1, a2⟩, a3⟩, a4⟩, a5⟩
  have hl : limV V = true := by
    unfold limV lim
    by_cases h02 : V.k = 0 ∨ V.k = 2
    · rw [if_pos h02]
    · rw [if_neg h02]
      by_cases h1 : V.k = 1
      · rw [if_pos h1, decide_eq_true_eq]; exact b1 h1
      · rw [if_neg h1]
        by_cases h3 : V.k = 3
        · rw [if_pos h3, decide_eq_true_eq]; exact b2
        · rw [if_neg h3]
          by_cases h5 : V.k = 5
          · rw [if_pos h5, (b4 h5).2, decide_eq_true (b4 h5).1, decide_eq_true b3]; rfl
          · rw [if_neg h5]
            by_cases h4 : V.k = 4
            · rw [if_pos h4, decide_eq_true_eq]; exact b3
            · rw [if_neg h4]
              by_cases h6 : V.k = 6
              · rw [if_pos h6]; exact b5 h6
              · omega
  unfold ok1; rw [hp, hl]; rfl
theorem ok1_no {V : Val} (h : ok1 V = true → False) : ok1 V = false := by cases e : ok1 V with | false => rfl | true => exact (h e).elim
/-- a value without elements that is of a right shape is right -/
theorem okT_flat {V : Val} {m : Nat} (h : ok1 V = true) (hl : V.l.length = 0) : okT (m + 1) V = true := by
  rw [okT, h, List.length_eq_zero_iff.1 hl]; rfl
set_option maxRecDepth 100000 in
set_option maxHeartbeats 4000000 in
theorem rchk_0 (m : Nat) (V : Val) (v : Value) (w : World) (n : Nat) (hk : V.k = 0) (h : Lies n w V v) : Calls Tryd.prog 44 #[v, .int .i64 ((m + 1 : Nat) : Int)] w fun e w' => e = .returned (.bool (okT (m + 1) V)) ∧ Below w.heap.size w w' := by
  obtain ⟨oL, oK, cL, cK, c, rfl, O⟩ := h.inv
  have l1 := O.L.1
  have l2 := O.L.2.1
  have l3 := O.K.1
  have l4 := O.K.2.1
  have ws := O.ws
  unfold maxLen at l2 l4 ws
  have HK := Lib.hid hk
  rw [hk]
  clear h O hk
  go_enter Tryd.func44, Tryd.ntmps44
  go_wp2_with fail
  all_goals
    first
      | (go_ret
         refine ⟨ret_b' (okT_no (ok1_no fun hh => ?_)).symm, (Below.refl _ _).alloc (Nat.le_refl _) _⟩
         obtain ⟨f0, f1, f2, f3, f4, f5, f6, f7, f8, f9, f10⟩ := ok1_facts hh
         have hkk := HK.out
         first | omega | (exfalso; simp_all; done) | (rcases f3 with f3 | f3; omega; simp_all))
      | (have hks : V.ks.length = 0 := by omega
         have hls : V.l.length = 0 := by omega
         have HR : Hid (okT (m + 1) V = true) := okT_flat (ok1_mk (by have := HK.out; omega) (by have := HK.out; omega) (by have := HK.out; omega) (by first | (left; exact HK.out) | (right; assumption)) (by first | omega | (have := emp_size ‹V.s.toList.isEmpty = true›; omega)) (by have := HK.out; first | (left; exact HK.out) | (right; exact ⟨by omega, by omega⟩)) (by have := HK.out; omega) (by omega) (by omega) (by omega) (by have := HK.out; omega)) hls
         refine wp_loop_rounds 1 ?_
         rw [rounds_succ]
         go_wp2
         refine wp_loop_rounds 1 ?_
         rw [rounds_succ]
         go_wp2
         go_ret
         exact ⟨by rw [HR.out]; rfl, (Below.refl _ _).alloc (Nat.le_refl _) _⟩)
set_option maxRecDepth 100000 in
set_option maxHeartbeats 4000000 in
theorem rchk_2 (m : Nat) (V : Val) (v : Value) (w : World) (n : Nat) (hk : V.k = 2) (h : Lies n w V v) : Calls Tryd.prog 44 #[v, .int .i64 ((m + 1 : Nat) : Int)] w fun e w' => e = .returned (.bool (okT (m + 1) V)) ∧ Below w.heap.size w w' := by
  obtain ⟨oL, oK, cL, cK, c, rfl, O⟩ := h.inv
  have l1 := O.L.1
  have l2 := O.L.2.1
  have l3 := O.K.1
  have l4 := O.K.2.1
  have ws := O.ws
  unfold maxLen at l2 l4 ws
  have HK := Lib.hid hk
  rw [hk]
  clear h O hk
  go_enter Tryd.func44, Tryd.ntmps44
  go_wp2_with fail
  all_goals
    first
      | (go_ret
         refine ⟨ret_b' (okT_no (ok1_no fun hh => ?_)).symm, (Below.refl _ _).alloc (Nat.le_refl _) _⟩
         obtain ⟨f0, f1, f2, f3, f4, f5, f6, f7, f8, f9, f10⟩ := ok1_facts hh
         have hkk := HK.out
         first | omega | (exfalso; simp_all; done) | (rcases f3 with f3 | f3; omega; simp_all))
      | (have hks : V.ks.length = 0 := by omega
         have hls : V.l.length = 0 := by omega
         have HR : Hid (okT (m + 1) V = true) := okT_flat (ok1_mk (by have := HK.out; omega) (by have := HK.out; omega) (by have := HK.out; omega) (by first | (left; exact HK.out) | (right; assumption)) (by first | omega | (have := emp_size ‹V.s.toList.isEmpty = true›; omega)) (by have := HK.out; first | (left; exact HK.out) | (right; exact ⟨by omega, by omega⟩)) (by have := HK.out; omega) (by omega) (by omega) (by omega) (by have := HK.out; omega)) hls
         refine wp_loop_rounds 1 ?_
         rw [rounds_succ]
         go_wp2
         refine wp_loop_rounds 1 ?_
         rw [rounds_succ]
         go_wp2
         go_ret
         exact ⟨by rw [HR.out]; rfl, (Below.refl _ _).alloc (Nat.le_refl _) _⟩)
set_option maxRecDepth 100000 in
set_option maxHeartbeats 4000000 in
theorem rchk_3 (m : Nat) (V : Val) (v : Value) (w : World) (n : Nat) (hk : V.k = 3) (h : Lies n w V v) : Calls Tryd.prog 44 #[v, .int .i64 ((m + 1 : Nat) : Int)] w fun e w' => e = .returned (.bool (okT (m + 1) V)) ∧ Below w.heap.size w w' := by
  obtain ⟨oL, oK, cL, cK, c, rfl, O⟩ := h.inv
  have l1 := O.L.1
  have l2 := O.L.2.1
  have l3 := O.K.1
  have l4 := O.K.2.1
  have ws := O.ws
  unfold maxLen at l2 l4 ws
  have HK := Lib.hid hk
  rw [hk]
  clear h O hk
  go_enter Tryd.func44, Tryd.ntmps44
  go_wp2_with fail
  all_goals
    first
      | (go_ret
         refine ⟨ret_b' (okT_no (ok1_no fun hh => ?_)).symm, (Below.refl _ _).alloc (Nat.le_refl _) _⟩
         obtain ⟨f0, f1, f2, f3, f4, f5, f6, f7, f8, f9, f10⟩ := ok1_facts hh
         have hkk := HK.out
         first | omega | (exfalso; simp_all; done) | (rcases f3 with f3 | f3; omega; simp_all))
      | (have hks : V.ks.length = 0 := by omega
         have hls : V.l.length = 0 := by omega
         have HR : Hid (okT (m + 1) V = true) := okT_flat (ok1_mk (by have := HK.out; omega) (by have := HK.out; omega) (by have := HK.out; omega) (by first | (left; exact HK.out) | (right; assumption)) (by first | omega | (have := emp_size ‹V.s.toList.isEmpty = true›; omega)) (by have := HK.out; first | (left; exact HK.out) | (right; exact ⟨by omega, by omega⟩)) (by have := HK.out; omega) (by omega) (by omega) (by omega) (by have := HK.out; omega)) hls
         refine wp_loop_rounds 1 ?_
         rw [rounds_succ]
         go_wp2
         refine wp_loop_rounds 1 ?_
         rw [rounds_succ]
         go_wp2
         go_ret
         exact ⟨by rw [HR.out]; rfl, (Below.refl _ _).alloc (Nat.le_refl _) _⟩)
set_option maxRecDepth 100000 in
set_option maxHeartbeats 4000000 in
theorem rchk_1 (m : Nat) (V : Val) (v : Value) (w : World) (n : Nat) (hk : V.k = 1) (h : Lies n w V v) : Calls Tryd.prog 44 #[v, .int .i64 ((m + 1 : Nat) : Int)] w fun e w' => e = .returned (.bool (okT (m + 1) V)) ∧ Below w.heap.size w w' := by
  obtain ⟨oL, oK, cL, cK, c, rfl, O⟩ := h.inv
  have l1 := O.L.1
  have l2 := O.L.2.1
  have l3 := O.K.1
  have l4 := O.K.2.1
  have ws := O.ws
  unfold maxLen at l2 l4 ws
  have HK := Lib.hid hk
  rw [hk]
  clear h O hk
  have ic : V.i = 0 ∨ V.i = 1 ∨ ((V.i == 0) = false ∧ (V.i == 1) = false) := by simp only [beq_eq_false_iff_ne]; omega
  rcases ic with i0 | i0 | ⟨i0, i1⟩
  · have HI := Lib.hid i0
    go_enter Tryd.func44, Tryd.ntmps44
    go_wp2_with fail
    all_goals
      first
        | (go_ret
           refine ⟨ret_b' (okT_no (ok1_no fun hh => ?_)).symm, (Below.refl _ _).alloc (Nat.le_refl _) _⟩
           obtain ⟨f0, f1, f2, f3, f4, f5, f6, f7, f8, f9, f10⟩ := ok1_facts hh
           have hkk := HK.out
           have hii := HI.out
           first | omega | (exfalso; simp_all; done) | (rcases f3 with f3 | f3; omega; simp_all))
        | (have hks : V.ks.length = 0 := by omega
           have hls : V.l.length = 0 := by omega
           have HR : Hid (okT (m + 1) V = true) := okT_flat (ok1_mk (by have := HK.out; have := HI.out; omega) (by have := HK.out; have := HI.out; omega) (by have := HK.out; have := HI.out; omega) (by first | (left; exact HK.out) | (right; assumption)) (by first | omega | (have := emp_size ‹V.s.toList.isEmpty = true›; omega)) (by have := HK.out; first | (left; exact HK.out) | (right; exact ⟨by omega, by omega⟩)) (by have := HK.out; have := HI.out; omega) (by omega) (by omega) (by omega) (by have := HK.out; have := HI.out; omega)) hls
           refine wp_loop_rounds 1 ?_
           rw [rounds_succ]
           go_wp2
           refine wp_loop_rounds 1 ?_
           rw [rounds_succ]
           go_wp2
           go_ret
           exact ⟨by rw [HR.out]; rfl, (Below.refl _ _).alloc (Nat.le_refl _) _⟩)
  · have HI := Lib.hid i0
    go_enter Tryd.func44, Tryd.ntmps44
    go_wp2_with fail
    all_goals
      first
        | (go_ret
           refine ⟨ret_b' (okT_no (ok1_no fun hh => ?_)).symm, (Below.refl _ _).alloc (Nat.le_refl _) _⟩
           obtain ⟨f0, f1, f2, f3, f4, f5, f6, f7, f8, f9, f10⟩ := ok1_facts hh
           have hkk := HK.out
           have hii := HI.out
           first | omega | (exfalso; simp_all; done) | (rcases f3 with f3 | f3; omega; simp_all))
        | (have hks : V.ks.length = 0 := by omega
           have hls : V.l.length = 0 := by omega
           have HR : Hid (okT (m + 1) V = true) := okT_flat (ok1_mk (by have := HK.out; have := HI.out; omega) (by have := HK.out; have := HI.out; omega) (by have := HK.out; have := HI.out; omega) (by first | (left; exact HK.out) | (right; assumption)) (by first | omega | (have := emp_size ‹V.s.toList.isEmpty = true›; omega)) (by have := HK.out; first | (left; exact HK.out) | (right; exact ⟨by omega, by omega⟩)) (by have := HK.out; have := HI.out; omega) (by omega) (by omega) (by omega) (by have := HK.out; have := HI.out; omega)) hls
           refine wp_loop_rounds 1 ?_
           rw [rounds_succ]
           go_wp2
           refine wp_loop_rounds 1 ?_
           rw [rounds_succ]
           go_wp2
           go_ret
           exact ⟨by rw [HR.out]; rfl, (Below.refl _ _).alloc (Nat.le_refl _) _⟩)
  · have HI : Hid (V.i ≠ 0 ∧ V.i ≠ 1) := by simp only [beq_eq_false_iff_ne] at i0 i1; exact ⟨i0, i1⟩
    have j0 : (V.i != 0) = true := by simp only [beq_eq_false_iff_ne] at i0; simpa using i0
    have j1 : (V.i != 1) = true := by simp only [beq_eq_false_iff_ne] at i1; simpa using i1
    go_enter Tryd.func44, Tryd.ntmps44
    go_wp2_with fail
    go_ret
    refine ⟨ret_b' (okT_no (ok1_no fun hh => ?_)).symm, (Below.refl _ _).alloc (Nat.le_refl _) _⟩
    obtain ⟨f0, f1, f2, f3, f4, f5, f6, f7, f8, f9, f10⟩ := ok1_facts hh
    have := HK.out
    have := HI.out
    omega
set_option maxRecDepth 100000 in
set_option maxHeartbeats 4000000 in
theorem rchk_o (m : Nat) (V : Val) (v : Value) (w : World) (n : Nat) (h : Lies n w V v) (ho : V.k < 0 ∨ 6 < V.k) : Calls Tryd.prog 44 #[v, .int .i64 ((m + 1 : Nat) : Int)] w fun e w' => e = .returned (.bool (okT (m + 1) V)) ∧ Below w.heap.size w w' := by
  obtain ⟨oL, oK, cL, cK, c, rfl, O⟩ := h.inv
  have l1 := O.L.1
  have l2 := O.L.2.1
  have l3 := O.K.1
  have l4 := O.K.2.1
  have ws := O.ws
  unfold maxLen at l2 l4 ws
  clear h O
  have HO := Lib.hid ho
  rcases ho with ho | ho
  all_goals
    go_enter Tryd.func44, Tryd.ntmps44
    go_wp2_with fail
    all_goals
      go_ret
      refine ⟨ret_b' (okT_no (ok1_no fun hh => ?_)).symm, (Below.refl _ _).alloc (Nat.le_refl _) _⟩
      obtain ⟨f0, _⟩ := ok1_facts hh
      have := HO.out
      omega
set_option maxRecDepth 100000 in
theorem rchk_z (V : Val) (v : Value) (w : World) (n : Nat) (h : Lies n w V v) : Calls Tryd.prog 44 #[v, .int .i64 ((0 : Nat) : Int)] w fun e w' => e = .returned (.bool (okT 0 V)) ∧ Below w.heap.size w w' := by
  obtain ⟨oL, oK, cL, cK, c, rfl, O⟩ := h.inv
  clear h O
  go_enter Tryd.func44, Tryd.ntmps44
  go_wp2_with fail
  go_ret
  exact ⟨rfl, (Below.refl _ _).alloc (Nat.le_refl _) _⟩
end Go.Proofs.YtfmgbhaldakpfaaDoor

/- The reference's check: what is unknown; lists and maps. -/
namespace Go.Proofs.YtfmgbhaldakpfaaDoor
open Go.RowKit

set_option maxRecDepth 100000 in
set_option maxHeartbeats 4000000 in
theorem rchk_6 (m : Nat) (V : Val) (v : Value) (w : World) (n : Nat) (hk : V.k = 6) (h : Lies n w V v) : Calls Tryd.prog 44 #[v, .int .i64 ((m + 1 : Nat) : Int)] w fun e w' => e = .returned (.bool (okT (m + 1) V)) ∧ Below w.heap.size w w' := by
  obtain ⟨oL, oK, cL, cK, c, rfl, O⟩ := h.inv
  have l1 := O.L.1
  have l2 := O.L.2.1
  have l3 := O.K.1
  have l4 := O.K.2.1
  have ws := O.ws
  unfold maxLen at l2 l4 ws
  have HK := Lib.hid hk
  rw [hk]
  clear h O hk
  cases ho : Typ.okB V.tk V.to with
  | false =>
    have HO := Lib.hid ho
    clear ho
    have A := Lib.hid (fun w => Typ.rcheck_no V.tk V.to w HO.out)
    go_enter Tryd.func44, Tryd.ntmps44
    go_wp2_with (go_at_call 59; refine (A.out _).mono ?_; rintro e w1 ⟨rfl, b1⟩; have B1 := Lib.hid b1; obtain ⟨hc, hf⟩ := bcell b1; have hz : w.heap.size < w1.heap.size := (by have := b1.size; simp at this; omega); clear b1)
    all_goals
      go_ret
      refine ⟨ret_b' (okT_no (ok1_no fun hh => ?_)).symm, ?_⟩
      · obtain ⟨f0, f1, f2, f3, f4, f5, f6, f7, f8, f9, f10⟩ := ok1_facts hh
        have hkk := HK.out
        have := f6 hkk
        rw [HO.out] at this
        cases this
      · first | exact (Below.refl _ _).alloc (Nat.le_refl _) _ | exact (((Below.refl w.heap.size w).alloc (Nat.le_refl _) _).trans (B1.out.mono (by simp)))
  | true =>
    have HO := Lib.hid ho
    clear ho
    have A := Lib.hid (fun w => Typ.rcheck_ok V.tk V.to w HO.out)
    go_enter Tryd.func44, Tryd.ntmps44
    go_wp2_with (go_at_call 59; refine (A.out _).mono ?_; rintro e w1 ⟨rfl, b1⟩; have B1 := Lib.hid b1; obtain ⟨hc, hf⟩ := bcell b1; have hz : w.heap.size < w1.heap.size := (by have := b1.size; simp at this; omega); clear b1)
    all_goals
      first
        | (go_ret
           refine ⟨ret_b' (okT_no (ok1_no fun hh => ?_)).symm, (by first | exact (Below.refl _ _).alloc (Nat.le_refl _) _ | exact (((Below.refl w.heap.size w).alloc (Nat.le_refl _) _).trans (B1.out.mono (by simp))))⟩
           obtain ⟨f0, f1, f2, f3, f4, f5, f6, f7, f8, f9, f10⟩ := ok1_facts hh
           have hkk := HK.out
           first | omega | (exfalso; simp_all; done) | (rcases f3 with f3 | f3; omega; simp_all))
        | (have hks : V.ks.length = 0 := by omega
           have hls : V.l.length = 0 := by omega
           have HR : Hid (okT (m + 1) V = true) := okT_flat (ok1_mk (by have := HK.out; omega) (by have := HK.out; omega) (by have := HK.out; omega) (by first | (left; exact HK.out) | (right; assumption)) (by first | omega | (have := emp_size ‹V.s.toList.isEmpty = true›; omega)) (by have := HK.out; first | (left; exact HK.out) | (right; exact ⟨by omega, by omega⟩)) (by intro _; exact HO.out) (by omega) (by omega) (by omega) (by have := HK.out; omega)) hls
           refine wp_loop_rounds 1 ?_
           rw [rounds_succ]
           go_wp2
           refine wp_loop_rounds 1 ?_
           rw [rounds_succ]
           go_wp2
           go_ret
           exact ⟨by rw [HR.out]; rfl, (((Below.refl w.heap.size w).alloc (Nat.le_refl _) _).trans (B1.out.mono (by simp)))⟩)
end Go.Proofs.YtfmgbhaldakpfaaDoor

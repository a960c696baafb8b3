/- Contract: Join. -/
import Derived.Test.YtfgkkccgecnchaaTm
namespace Go.Proofs.Ytfgkkccgecnchaa.Typ
open Go.RowKit
open Go.Maps (Keyed)

theorem laidOut : laidOutB Try.prog = true := by kernel_rfl
theorem row25 : (25 : TypeId) < Try.prog.types.size := of_decide_eq_true (by kernel_rfl)
theorem wide23 : (match Try.prog.underlying 25 with | some (.array _ _) | some (.struct _) => true | _ => false) = true := by rw [Try.underlying25]
set_option maxRecDepth 100000 in
theorem law23 : Keyed Try.prog 25 := Keyed.of_law (deep_law_laid laidOut (m := 2) (by omega) row25 (by kernel_rfl) wide23)
theorem zero3 (w : World) : (zeroValue 3).run Try.prog w = .ok (.int .i64 0) w := by kernel_rfl
theorem key_ok (k o : Int) (h : okB k o = true) : ∃ kl, keyOf Try.prog 25 (ty k o) = some kl := by
  have m := ok_mem (a := (k, o)) h
  clear h
  unfold all at m
  simp only [List.mem_cons, Prod.mk.injEq, List.not_mem_nil, or_false] at m
  rw [← Option.isSome_iff_exists]
  rcases m with ⟨rfl, rfl⟩ | ⟨rfl, rfl⟩ | ⟨rfl, rfl⟩ | ⟨rfl, rfl⟩ | ⟨rfl, rfl⟩ | ⟨rfl, rfl⟩ | ⟨rfl, rfl⟩ | ⟨rfl, rfl⟩ | ⟨rfl, rfl⟩ | ⟨rfl, rfl⟩ | ⟨rfl, rfl⟩ | ⟨rfl, rfl⟩
  · kernel_rfl
  · kernel_rfl
  · kernel_rfl
  · kernel_rfl
  · kernel_rfl
  · kernel_rfl
  · kernel_rfl
  · kernel_rfl
  · kernel_rfl
  · kernel_rfl
  · kernel_rfl
  · kernel_rfl
/-- what t is within, by place: the Kinds, the Ofs -/
def uK (k : Int) : Nat → Int | 0 => k | 1 => k | _ => 0
def uO (o : Int) : Nat → Int | 0 => o | _ => 0
theorem u_ok (k o : Int) (h : okB k o = true) (j : Nat) : okB (uK k j) (uO o j) = true := by
  rw [ok_iff] at *
  match j with
  | 0 => exact h
  | 1 => show (0 ≤ k ∧ k ≤ 3 ∧ (0 : Int) = 0) ∨ ((k = 4 ∨ k = 5) ∧ (0 : Int) ≤ 0 ∧ (0 : Int) ≤ 3); omega
  | n + 2 => left; simp [uK, uO]
theorem idx39 (k o : Int) (j : Nat) (h : j < 3) (w : World) : (Instr.index 90 (.agg #[.int .i64 k, .int .i64 o, .int .i64 k, .int .i64 0, .int .i64 0, .int .i64 0]) (.int .i64 j)).run Try.prog w = .ok (.agg #[.int .i64 (uK k j), .int .i64 (uO o j)]) w := by
  obtain rfl | rfl | rfl : j = 0 ∨ j = 1 ∨ j = 2 := by omega
  · exact idx0 _ _ _ _ _ _ _
  · exact idx1 _ _ _ _ _ _ _
  · exact idx2 _ _ _ _ _ _ _
/-- how often a value stands among the first j -/
noncomputable def cnt (k o : Int) : Nat → Value → Int
  | 0, _ => 0
  | j + 1, x => open Classical in if x = ty (uK k j) (uO o j) then cnt k o j x + 1 else cnt k o j x
theorem cnt_bd (k o : Int) (x : Value) : ∀ j, 0 ≤ cnt k o j x ∧ cnt k o j x ≤ j
  | 0 => by simp [cnt]
  | j + 1 => by
    have := cnt_bd k o x j
    unfold cnt
    split <;> omega
theorem cnt_put (k o : Int) (j : Nat) : put (fun x => .int .i64 (cnt k o j x)) (ty (uK k j) (uO o j)) (.int .i64 (cnt k o j (ty (uK k j) (uO o j)) + 1)) = fun x => .int .i64 (cnt k o (j + 1) x) := by
  funext x
  unfold put
  by_cases e : x = ty (uK k j) (uO o j)
  · simp [e, cnt]
  · simp [e, cnt]
theorem ty_inj {a b c d : Int} : ty a b = ty c d ↔ a = c ∧ b = d := by simp
theorem cnt3 (k o x y : Int) : 0 < cnt k o 3 (ty x y) ↔ upB (k, o) (x, y) = true := by
  simp only [cnt, ty_inj, uK, uO, upB, Bool.or_eq_true, beq_iff_eq, Prod.mk.injEq]
  by_cases a : x = k ∧ y = o
  · rw [if_pos a]; simp [a]; split <;> split <;> omega
  · rw [if_neg a]
    by_cases b : x = k ∧ y = 0
    · rw [if_pos b]; simp [b]; split <;> omega
    · rw [if_neg b]
      by_cases c : x = 0 ∧ y = 0
      · rw [if_pos c]; simp [c]
      · rw [if_neg c]
        simp [a, b, c]
theorem join_find (k o k' o' : Int) (ha : okB k o = true) (hb : okB k' o' = true) (j : Nat) (hj : j < 3) (h0 : ∀ m, m < j → cnt k' o' 3 (ty (uK k m) (uO o m)) = 0) (h1 : 0 < cnt k' o' 3 (ty (uK k j) (uO o j))) :
    join (k, o) (k', o') = (uK k j, uO o j) := by
  have n : ∀ m, m < j → upB (k', o') (uK k m, uO o m) = false := fun m hm => by
    have := h0 m hm
    cases e : upB (k', o') (uK k m, uO o m)
    · rfl
    · have := (cnt3 k' o' _ _).2 e; omega
  have y := (cnt3 k' o' _ _).1 h1
  unfold join
  simp only [ha, hb, Bool.and_self, if_true]
  obtain rfl | rfl | rfl : j = 0 ∨ j = 1 ∨ j = 2 := by omega
  · rw [show (uK k 0, uO o 0) = (k, o) from rfl] at y ⊢; rw [y]; rfl
  · have n0 := n 0 (by omega)
    rw [show (uK k 0, uO o 0) = (k, o) from rfl] at n0
    rw [n0]; rw [show (uK k 1, uO o 1) = (k, 0) from rfl] at y ⊢
    rw [y]; rfl
  · have n0 := n 0 (by omega)
    have n1 := n 1 (by omega)
    rw [show (uK k 0, uO o 0) = (k, o) from rfl] at n0
    rw [show (uK k 1, uO o 1) = (k, 0) from rfl] at n1
    rw [n0, n1]; rfl
set_option maxRecDepth 100000 in
set_option maxHeartbeats 2000000 in
theorem join_ok (k o k' o' : Int) (w : World) (ha : okB k o = true) (hb : okB k' o' = true) : Calls Try.prog 86 #[ty k o, ty k' o'] w fun e w' => e = .returned (ty (join (k, o) (k', o')).1 (join (k, o) (k', o')).2) ∧ Below w.heap.size w w' := by
  have HA := Lib.hid ha
  have HB := Lib.hid hb
  clear ha hb
  have hmm := @run_makeMap Try.prog
  go_enter Try.func86, Try.ntmps86
  go_wp2_with fail
  refine (may_ok _ _ _ HA.out).mono ?_
  rintro e w1 ⟨rfl, b1⟩
  have B1 := Lib.hid b1
  obtain ⟨hc, hf⟩ := bcell b1
  have hz1 : w.heap.size + 1 < w1.heap.size := by have := b1.size; simp at this; omega
  clear b1
  go_wp2_with fail
  refine (may_ok _ _ _ HB.out).mono ?_
  rintro e w2 ⟨rfl, b2⟩
  have B2 := Lib.hid (B1.out.trans (b2.mono B1.out.size))
  clear b2 hc hf hz1 B1
  obtain ⟨hc, hf⟩ := bcell B2.out
  have hz0 : w.heap.size < w2.heap.size := by have := B2.out.size; simp at this; omega
  have hz1 : w.heap.size + 1 < w2.heap.size := by have := B2.out.size; simp at this; omega
  go_wp2_with fail
  refine (upward_any _ _ _).mono ?_
  rintro e w3 ⟨rfl, b3⟩
  have HM : Hid (Has Try.prog 25 (.int .i64 0) w3 w2.heap.size fun x => .int .i64 (cnt k' o' 0 x)) := (Has.made w2 Try.prog 25 (.int .i64 0)).below b3 (by simp)
  have B3 := Lib.hid (B2.out.trans (((Below.refl _ _).alloc (Nat.le_refl _) _).trans (b3.mono (by simp)) |>.mono B2.out.size))
  have B3' : Hid (Below (w.heap.size + 3) w3 w3) := Below.refl _ _
  have hB : Hid (w.heap.size + 3 ≤ w2.heap.size) := by have := B2.out.size; unfold Hid; simp at this; omega
  have hz3 : Hid (w2.heap.size < w3.heap.size) := by have := b3.size; simp at this; exact this
  clear b3 hc hf hz1 hz0 B2 hmm
  go_wp2
  go_loopw [22] (fun i wr => ∃ j : Nat, j ≤ 3 ∧ i = .int .i64 j ∧ Hid (Has Try.prog 25 (.int .i64 0) wr w2.heap.size fun x => .int .i64 (cnt k' o' j x)) ∧ Hid (Below (w.heap.size + 3) w3 wr)) (fun i _ => 3 - (intOf i).toNat)
  case atStart => exact ⟨0, by omega, rfl, HM.out, B3'.out⟩
  case round =>
    clear HM B3'
    obtain ⟨j, hj, rfl, HM, HW⟩ := hrel
    by_cases hlt : j < 3
    · have ix := idx39 k' o' j hlt
      have KO := u_ok k' o' HB.out j
      generalize hK : uK k' j = K at *
      generalize hO : uO o' j = O at *
      obtain ⟨kl, hkl⟩ := key_ok K O KO
      have H7 : Has Try.prog 25 (.int .i64 0) (wr.alloc (.cells #[.int .i64 K, .int .i64 O] 25)).drew w2.heap.size fun x => .int .i64 (cnt k' o' j x) := (HM.out.alloc _).drew
      have l1 := H7.look law23 Try.underlying95 zero3 hkl
      obtain ⟨st, w5, e1, h5, g5, e2⟩ := H7.entry law23 Try.underlying95 zero3 hkl
      have l2 := h5.look law23 Try.underlying95 zero3 hkl
      obtain ⟨w6, e3, h6, g6⟩ := e2 (.int .i64 (cnt k' o' j (ty K O) + 1))
      have H6 : Hid (Has Try.prog 25 (.int .i64 0) w6 w2.heap.size fun x => .int .i64 (cnt k' o' (j + 1) x)) := by
        have := cnt_put k' o' j
        rw [hK, hO] at this
        rw [this] at h6
        exact h6
      have G : Hid (Below (w.heap.size + 3) w3 w6) := by
        have b1 : Below (w.heap.size + 3) w3 (wr.alloc (.cells #[.int .i64 K, .int .i64 O] 25)).drew := (HW.out.alloc (Nat.le_trans hB.out (Nat.le_of_lt HM.out.lt)) _).drew
        have n1 := HM.out.lt
        have b2 := b1.grown g5 (by simp; have := hB.out; omega) (fun i hi => by injection hi with hi; subst hi; exact hB.out)
        exact b2.grown g6 (by have := hB.out; have := h5.lt; omega) (fun i hi => by injection hi with hi; subst hi; exact hB.out)
      have bd := cnt_bd k' o' (ty K O) j
      obtain ⟨bd1, bd2⟩ := bd
      generalize cnt k' o' j (ty K O) = C at *
      clear H7 e2 h5 h6 g5 g6 KO hkl HM HW
      have HKO := Lib.hid (And.intro hK hO)
      clear hK hO
      have e3' : (Instr.entryStore 95 (.map (some w2.heap.size)) (.int .i64 st) (.int .i64 (IntKind.i64.wrap (C + 1)))).run Try.prog w5 = .ok () w6 := by
        rw [IntWalk.i64_in _ (by omega)]; exact e3
      go_wp2
      go_region
      all_goals
        go_wp2
        go_roundw
        case rel => exact ⟨j + 1, by omega, by go_num, H6.out, G.out⟩
        case measure => simp [intOf]; omega
    · have hj3 : j = 3 := by omega
      subst hj3
      clear hlt hj
      have B4 := Lib.hid (B3.out.trans (HW.out.mono (by simp)))
      clear HW B3
      obtain ⟨hc, hf⟩ := bcell B4.out
      have hz0 : w.heap.size < wr.heap.size := by have := B4.out.size; simp at this; omega
      go_wp2_with fail
      refine (upward_any _ _ _).mono ?_
      rintro e w7 ⟨rfl, b7⟩
      have H7 := Lib.hid (HM.out.below b7 HM.out.lt)
      have B7 := Lib.hid (B4.out.trans (b7.mono B4.out.size))
      clear b7 hc hf hz0 B4 HM
      go_wp2
      go_loopw [34] (fun i wr => ∃ j : Nat, j ≤ 3 ∧ i = .int .i64 j ∧ Hid (∀ m, m < j → cnt k' o' 3 (ty (uK k m) (uO o m)) = 0) ∧ Hid (Has Try.prog 25 (.int .i64 0) wr w2.heap.size fun x => .int .i64 (cnt k' o' 3 x)) ∧ Hid (Below w7.heap.size w7 wr)) (fun i _ => 3 - (intOf i).toNat)
      case atStart => exact ⟨0, by omega, rfl, fun m hm => by omega, H7.out, Below.refl _ _⟩
      case round =>
        clear H7
        obtain ⟨j, hj, rfl, HN, HM, HW⟩ := hrel
        have B8 := Lib.hid (B7.out.trans (HW.out.mono B7.out.size))
        have jl : j < 3 := by
          refine Nat.lt_of_le_of_ne hj fun e => ?_
          subst e
          have := HN.out 2 (by omega)
          have h3 := (cnt3 k' o' 0 0).2 (by simp [upB])
          exact absurd this (by show cnt k' o' 3 (ty 0 0) ≠ 0; omega)
        have ix := idx39 k o j jl
        have KO := u_ok k o HA.out j
        have JF := Lib.hid (join_find k o k' o' HA.out HB.out j jl HN.out)
        have NN : Hid (cnt k' o' 3 (ty (uK k j) (uO o j)) = 0 → ∀ m, m < j + 1 → cnt k' o' 3 (ty (uK k m) (uO o m)) = 0) := fun h m hm => by
          by_cases e : m = j
          · subst e; exact h
          · exact HN.out m (by omega)
        clear HN
        generalize hK : uK k j = K at *
        generalize hO : uO o j = O at *
        clear hK hO
        obtain ⟨kl, hkl⟩ := key_ok K O KO
        have l1 := ((HM.out.alloc (.cells #[.int .i64 K, .int .i64 O] 25))).look law23 Try.underlying95 zero3 hkl
        have bd := (cnt_bd k' o' (ty K O) 3).1
        generalize cnt k' o' 3 (ty K O) = C at *
        obtain ⟨hc, hf⟩ := bcell B8.out
        have hz2 : w.heap.size + 1 + 1 < wr.heap.size := by have := B8.out.size; simp at this; omega
        by_cases hC : 0 < C
        · have J := Lib.hid (JF.out hC)
          clear JF NN HM HW
          go_wp2
          have q0 := hc (w.heap.size + 1 + 1) 0 (by simp)
          have q1 := hc (w.heap.size + 1 + 1) 1 (by simp)
          refine bodyPost_ret (v := ty K O) (by simp [results, Try.results86, go_sem, q0, q1, hz2]) rfl ⟨by rw [J.out], ?_⟩
          refine Below.alloc ?_ (by simp; omega) _
          refine Below.setCell (Below.setCell ?_ (by simp; omega) _) (by simp; omega) _
          exact ((((Below.refl _ _).alloc (Nat.le_refl _) _).alloc (by simp) _).alloc (by simp; omega) _).trans (B8.out.mono (by simp; omega))
        · have HC := Lib.hid (show C = 0 by omega)
          clear JF
          go_wp2
          go_roundw
          case rel => exact ⟨j + 1, by omega, by go_num, NN.out HC.out, HM.out.alloc _, HW.out.alloc (by have := HW.out.size; omega) _⟩
          case measure => simp [intOf]; omega
theorem join_n1 (k o k' o' : Int) (w : World) (ha : okB k o = false) : Calls Try.prog 86 #[ty k o, ty k' o'] w fun e w' => e = .returned (ty 0 0) ∧ Below w.heap.size w w' := by
  have HA := Lib.hid ha
  clear ha
  go_enter Try.func86, Try.ntmps86
  go_wp2_with fail
  refine (may_no _ _ _ HA.out).mono ?_
  rintro e w1 ⟨rfl, b1⟩
  have B1 := Lib.hid b1
  obtain ⟨hc, hf⟩ := bcell b1
  have hz2 : w.heap.size + 1 + 1 < w1.heap.size := by have := b1.size; simp at this; omega
  clear b1
  go_wp2
  have q0 := hc (w.heap.size + 1 + 1) 0 (by simp)
  have q1 := hc (w.heap.size + 1 + 1) 1 (by simp)
  refine bodyPost_ret (v := ty 0 0) (by simp [results, Try.results86, go_sem, q0, q1]) rfl ⟨rfl, ?_⟩
  refine Below.setCell ?_ (by simp; try omega) _
  refine Below.setCell ?_ (by simp; try omega) _
  exact ((((Below.refl _ _).alloc (Nat.le_refl _) _).alloc (by simp) _).alloc (by simp; omega) _).trans (B1.out.mono (by simp; omega))
theorem join_n2 (k o k' o' : Int) (w : World) (ha : okB k o = true) (hb : okB k' o' = false) : Calls Try.prog 86 #[ty k o, ty k' o'] w fun e w' => e = .returned (ty 0 0) ∧ Below w.heap.size w w' := by
  have HA := Lib.hid ha
  have HB := Lib.hid hb
  clear ha hb
  go_enter Try.func86, Try.ntmps86
  go_wp2_with fail
  refine (may_ok _ _ _ HA.out).mono ?_
  rintro e w1 ⟨rfl, b1⟩
  have B1 := Lib.hid b1
  obtain ⟨hc, hf⟩ := bcell b1
  have hz1 : w.heap.size + 1 < w1.heap.size := by have := b1.size; simp at this; omega
  clear b1
  go_wp2_with fail
  refine (may_no _ _ _ HB.out).mono ?_
  rintro e w2 ⟨rfl, b2⟩
  have B2 := Lib.hid (B1.out.trans (b2.mono B1.out.size))
  clear b2 hc hf hz1 B1
  obtain ⟨hc, hf⟩ := bcell B2.out
  have hz2 : w.heap.size + 1 + 1 < w2.heap.size := by have := B2.out.size; simp at this; omega
  go_wp2
  have q0 := hc (w.heap.size + 1 + 1) 0 (by simp)
  have q1 := hc (w.heap.size + 1 + 1) 1 (by simp)
  refine bodyPost_ret (v := ty 0 0) (by simp [results, Try.results86, go_sem, q0, q1]) rfl ⟨rfl, ?_⟩
  refine Below.setCell ?_ (by simp; try omega) _
  refine Below.setCell ?_ (by simp; try omega) _
  exact ((((Below.refl _ _).alloc (Nat.le_refl _) _).alloc (by simp) _).alloc (by simp; omega) _).trans (B2.out.mono (by simp; omega))
theorem join_is (k o k' o' x y : Int) (hj : join (k, o) (k', o') = (x, y)) (w : World) : Calls Try.prog 86 #[ty k o, ty k' o'] w fun e w' => e = .returned (ty x y) ∧ Below w.heap.size w w' := by
  cases ha : okB k o
  · rw [join_no (a := (k, o)) (.inl ha)] at hj
    injection hj with h1 h2; subst h1 h2
    exact join_n1 k o k' o' w ha
  · cases hb : okB k' o'
    · rw [join_no (b := (k', o')) (.inr hb)] at hj
      injection hj with h1 h2; subst h1 h2
      exact join_n2 k o k' o' w ha hb
    · have := join_ok k o k' o' w ha hb
      rw [hj] at this
      exact this
end Go.Proofs.Ytfgkkccgecnchaa.Typ

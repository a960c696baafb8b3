/- areKeys, isInLimits. -/
import Derived.Test.YtfmgbhaldakpfaaDoorB
import Derived.Test.YtfmgbhaldakpfaaDoorTa
namespace Go.Proofs.YtfmgbhaldakpfaaDoor
open Go.RowKit

/-- a is ahead of b, byte by byte -/
def bl (a b : ByteArray) : Bool := Op.bytesLess a.toList b.toList
def keyOk (ks : List ByteArray) (j : Nat) : Bool := decide ((kk ks j).size ≤ 1024) && (decide (j = 0) || bl (kk ks (j - 1)) (kk ks j))
def keysOkN (ks : List ByteArray) (j : Nat) : Bool := (List.range j).all (keyOk ks)
/-- keys that rise, none too long -/
def keysOk (ks : List ByteArray) : Bool := keysOkN ks ks.length
theorem keysOkN_succ (ks : List ByteArray) (j : Nat) : keysOkN ks (j + 1) = (keysOkN ks j && keyOk ks j) := by unfold keysOkN; rw [List.range_succ, List.all_append]; simp
theorem keysOk_no {ks : List ByteArray} {j : Nat} (hj : j < ks.length) (h : keyOk ks j = false) : keysOk ks = false := by
  unfold keysOk keysOkN
  rw [List.all_eq_false]
  exact ⟨j, List.mem_range.2 hj, by rw [h]; decide⟩
set_option maxHeartbeats 1000000 in
theorem areKeys_any {n : Nat} {ks : List ByteArray} {o : Option Addr} {cap : Nat} {w : World} (hR : Row n w o cap ks.length 1 (fun j _ => .string (ks.getD j default))) (hks : ∀ s, s ∈ ks → s.size ≤ maxLen) :
    Calls Tryd.prog 83 #[.slice o ks.length cap] w fun e w' => e = .returned (.bool (keysOk ks)) ∧ w = w' := by
  have HR := Lib.hid (And.intro hR hks)
  have l1 := hR.1
  have l2 := hR.2.1
  unfold maxLen at l2
  clear hR hks
  go_enter Tryd.func83, Tryd.ntmps83
  go_wp2
  go_loop [7] (fun i => ∃ j : Nat, j ≤ ks.length ∧ i = .int .i64 j ∧ Hid (keysOkN ks j = true)) (fun i => ks.length - (intOf i).toNat)
  case atStart => exact ⟨0, Nat.zero_le _, rfl, rfl⟩
  case round =>
    obtain ⟨j, hj, rfl, hok⟩ := hrel
    by_cases hlt : j < ks.length
    · obtain ⟨b, off, e1, hb, y0⟩ := HR.out.1.key hlt
      subst e1
      have hz : (kk ks j).size ≤ 9223372036854775807 := by have := HR.out.2 _ (kk_mem hlt); unfold maxLen at this; omega
      by_cases h1 : 1024 < (kk ks j).size
      · have HX : Hid (keysOk ks = false) := keysOk_no hlt (by unfold keyOk; rw [decide_eq_false (by omega)]; rfl)
        go_wp2
        go_ret
        exact ⟨by rw [HX.out]; rfl, rfl⟩
      · by_cases h2 : j = 0
        · subst h2
          simp only [Nat.add_zero] at y0
          have HX : Hid (keysOkN ks (0 + 1) = true) := by unfold Hid; rw [keysOkN_succ, hok.out]; unfold keyOk; rw [decide_eq_true (by omega)]; rfl
          go_wp2
          go_round
          case rel => exact ⟨0 + 1, by omega, by go_num, HX⟩
          case measure => simp [intOf]; omega
        · obtain ⟨i, rfl⟩ : ∃ i, j = i + 1 := ⟨j - 1, by omega⟩
          obtain ⟨b', off', e2, _, y1⟩ := HR.out.1.key (show i < ks.length by omega)
          injection e2 with e2
          injection e2 with e2 e3
          subst e2 e3
          have h1' : ¬ 1024 < ((kk ks (i + 1)).size : Int) := by omega
          clear h1 h2
          have e4 : Op.bytesLess (kk ks i).toList (kk ks (i + 1)).toList = bl (kk ks i) (kk ks (i + 1)) := rfl
          have HK : Hid (keyOk ks (i + 1) = bl (kk ks i) (kk ks (i + 1))) := by unfold Hid keyOk; rw [decide_eq_true (by omega)]; simp
          cases hb2 : bl (kk ks i) (kk ks (i + 1)) with
          | false =>
            rw [hb2] at e4 HK
            have HX : Hid (keysOk ks = false) := keysOk_no hlt HK.out
            go_wp2
            go_ret
            exact ⟨by rw [HX.out]; rfl, rfl⟩
          | true =>
            rw [hb2] at e4 HK
            have HX : Hid (keysOkN ks (i + 1 + 1) = true) := by unfold Hid; rw [keysOkN_succ, hok.out, HK.out]; rfl
            go_wp2
            go_round
            case rel => exact ⟨i + 1 + 1, by omega, by go_num, HX⟩
            case measure => simp [intOf]; omega
    · have hjl : j = ks.length := by omega
      subst hjl
      go_wp2
      go_ret
      exact ⟨by rw [show keysOk ks = true from hok.out]; rfl, rfl⟩
/-- what the kind names is within its limits -/
def lim (k i : Int) (s : ByteArray) (nL : Nat) (ks : List ByteArray) (t1 t2 : Int) : Bool :=
  if k = 0 ∨ k = 2 then true else if k = 1 then decide (i = 0 ∨ i = 1) else if k = 3 then decide (s.size ≤ 1024) else if k = 5 then decide (ks.length = nL) && keysOk ks && decide (nL ≤ 128) else if k = 4 then decide (nL ≤ 128) else if k = 6 then Typ.okB t1 t2 else false
theorem ret_b' {a b : Bool} (h : a = b) : Ending.returned (.bool a) = .returned (.bool b) := by rw [h]
set_option maxRecDepth 100000 in
set_option maxHeartbeats 2000000 in
theorem limits_any {n : Nat} {V : Val} {v : Value} {w : World} (h : Lies n w V v) (hn : n ≤ w.heap.size) :
    Calls Tryd.prog 73 #[v] w fun e w' => e = .returned (.bool (lim V.k V.i V.s V.l.length V.ks V.tk V.to)) ∧ Below w.heap.size w w' := by
  obtain ⟨oL, oK, cL, cK, c, rfl, O⟩ := h.inv
  have l1 := O.L.1
  have l2 := O.L.2.1
  have l3 := O.K.1
  have l4 := O.K.2.1
  have ws := O.ws
  have HB := Lib.hid (Hd.made w V (.slice oL V.l.length cL) (.slice oK V.ks.length cK))
  have HW := Lib.hid ((Below.refl w.heap.size w).alloc (Nat.le_refl _) (bx V oL oK cL cK))
  unfold maxLen at l2 l4 ws
  clear h
  generalize hk : V.k = k at *
  have hk2 := Lib.hid hk
  clear hk
  have kc : k = 0 ∨ k = 1 ∨ k = 2 ∨ k = 3 ∨ k = 4 ∨ k = 5 ∨ k = 6 ∨ ((k == 0) = false ∧ (k == 1) = false ∧ (k == 2) = false ∧ (k == 3) = false ∧ (k == 4) = false ∧ (k == 5) = false ∧ (k == 6) = false) := by
    simp only [beq_eq_false_iff_ne]; omega
  clear HW HB
  rcases kc with rfl | rfl | rfl | rfl | rfl | rfl | rfl | ⟨e0, e1, e2, e3, e4, e5, e6⟩
  · go_enter Tryd.func73, Tryd.ntmps73
    go_wp2
    go_ret
    exact ⟨rfl, (Below.refl _ _).alloc (Nat.le_refl _) _⟩
  · go_enter Tryd.func73, Tryd.ntmps73
    go_wp2
    all_goals
      go_ret
      refine ⟨ret_b' ?_, (Below.refl _ _).alloc (Nat.le_refl _) _⟩
      first | (simp [lim, *]; done) | (simp [lim, *]; rw [Bool.eq_iff_iff]; simp)
  · go_enter Tryd.func73, Tryd.ntmps73
    go_wp2
    go_ret
    exact ⟨rfl, (Below.refl _ _).alloc (Nat.le_refl _) _⟩
  · go_enter Tryd.func73, Tryd.ntmps73
    go_wp2
    all_goals
      go_ret
      exact ⟨ret_b' (by simp [lim]; omega), (Below.refl _ _).alloc (Nat.le_refl _) _⟩
  · go_enter Tryd.func73, Tryd.ntmps73
    go_wp2
    all_goals
      go_ret
      exact ⟨ret_b' (by simp [lim]; omega), (Below.refl _ _).alloc (Nat.le_refl _) _⟩
  · by_cases he : V.ks.length = V.l.length
    · have A := Lib.hid (fun w' (b : Below w.heap.size w w') => areKeys_any (O.K.below (b.mono hn)) O.wks)
      have he2 : ((V.ks.length : Int) != (V.l.length : Int)) = false := by simp [he]
      have HE := Lib.hid he
      clear he O
      cases hq : keysOk V.ks with
      | true =>
        have HQ := Lib.hid hq
        clear hq
        go_enter Tryd.func73, Tryd.ntmps73
        go_wp2_with fail
        refine (A.out _ ((Below.refl _ _).alloc (Nat.le_refl _) _)).mono ?_
        rw [HQ.out]
        rintro e w1 ⟨rfl, rfl⟩
        go_wp2
        all_goals
          go_ret
          exact ⟨ret_b' (by simp [lim, HQ.out, HE.out]; omega), (Below.refl _ _).alloc (Nat.le_refl _) _⟩
      | false =>
        have HQ := Lib.hid hq
        clear hq
        go_enter Tryd.func73, Tryd.ntmps73
        go_wp2_with fail
        refine (A.out _ ((Below.refl _ _).alloc (Nat.le_refl _) _)).mono ?_
        rw [HQ.out]
        rintro e w1 ⟨rfl, rfl⟩
        go_wp2
        go_ret
        exact ⟨ret_b' (by simp [lim, HQ.out]), (Below.refl _ _).alloc (Nat.le_refl _) _⟩
    · have he2 : ((V.ks.length : Int) != (V.l.length : Int)) = true := by simp; omega
      have HE := Lib.hid he
      clear he O
      go_enter Tryd.func73, Tryd.ntmps73
      go_wp2
      go_ret
      exact ⟨ret_b' (by simp [lim, HE.out]), (Below.refl _ _).alloc (Nat.le_refl _) _⟩
  · cases ho : Typ.okB V.tk V.to with
    | true =>
      have HO := Lib.hid ho
      clear ho O
      go_enter Tryd.func73, Tryd.ntmps73
      go_wp2_with fail
      refine (Typ.check_ok _ _ _ HO.out).mono ?_
      rintro e w1 ⟨rfl, b1⟩
      have B := Lib.hid (((Below.refl w.heap.size w).alloc (Nat.le_refl _) _).trans (b1.mono (by simp)))
      clear b1
      go_wp2
      go_ret
      exact ⟨ret_b' (by simp [lim, HO.out]), B.out⟩
    | false =>
      have HO := Lib.hid ho
      clear ho O
      go_enter Tryd.func73, Tryd.ntmps73
      go_wp2_with fail
      refine (Typ.check_no _ _ _ HO.out).mono ?_
      rintro e w1 ⟨rfl, b1⟩
      have B := Lib.hid (((Below.refl w.heap.size w).alloc (Nat.le_refl _) _).trans (b1.mono (by simp)))
      clear b1
      go_wp2
      go_ret
      exact ⟨ret_b' (by simp [lim, HO.out]), B.out⟩
  · clear O
    go_enter Tryd.func73, Tryd.ntmps73
    go_wp2
    go_ret
    exact ⟨ret_b' (by simp only [beq_eq_false_iff_ne] at *; simp [lim, *]), (Below.refl _ _).alloc (Nat.le_refl _) _⟩
end Go.Proofs.YtfmgbhaldakpfaaDoor

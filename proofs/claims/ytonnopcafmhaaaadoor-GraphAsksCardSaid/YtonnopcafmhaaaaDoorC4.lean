/- Contracts: Len, holds, Ahead, Behind, SameInts, great. -/
import Derived.Test.YtonnopcafmhaaaaDoorC3
namespace Go.Proofs.YtonnopcafmhaaaaDoor
open Go.RowKit

theorem len_nil (w : World) : Calls Tryd.prog 13 #[.pointer none] w fun e w' => e = .returned (.int .i64 0) ∧ w = w' := by
  go_enter Tryd.func13, Tryd.ntmps13
  go_wp2
  go_ret
  exact ⟨rfl, rfl⟩
theorem len_any {w : World} {g n : Nat} {A B : Nat → Nat → Bool} (h : GB w g n A B) : Calls Tryd.prog 13 #[.pointer (some ⟨g, 0, none⟩)] w fun e w' => e = .returned (.int .i64 (n : Int)) ∧ w = w' := by
  have c0 := h.cell (i := 0) (by omega)
  rw [gc_0] at c0
  clear h
  go_enter Tryd.func13, Tryd.ntmps13
  go_wp2
  go_ret
  exact ⟨rfl, rfl⟩
theorem holds_nil (w : World) (i : Int) : Calls Tryd.prog 27 #[.pointer none, .int .i64 i] w fun e w' => e = .returned (.bool false) ∧ w = w' := by
  have L := fun w => len_nil w
  by_cases h : 0 ≤ i
  · have hd : decide (i < 0) = false := decide_eq_false (by omega)
    go_enter Tryd.func27, Tryd.ntmps27
    go_wp2_with fail
    refine (L _).mono ?_
    rintro e w2 ⟨rfl, rfl⟩
    go_wp2
    go_ret
    exact ⟨rfl, rfl⟩
  · go_enter Tryd.func27, Tryd.ntmps27
    go_wp2
    go_ret
    exact ⟨rfl, rfl⟩
theorem holds_yes {w : World} {g n i : Nat} {A B : Nat → Nat → Bool} (h : GB w g n A B) (hi : i < n) : Calls Tryd.prog 27 #[.pointer (some ⟨g, 0, none⟩), .int .i64 (i : Int)] w fun e w' => e = .returned (.bool true) ∧ w = w' := by
  have L := len_any h
  have h0 : (0 : Int) ≤ i := by omega
  have h1 : (i : Int) < n := by omega
  clear h
  go_enter Tryd.func27, Tryd.ntmps27
  go_wp2_with fail
  refine L.mono ?_
  rintro e w2 ⟨rfl, rfl⟩
  go_wp2
  go_ret
  exact ⟨rfl, rfl⟩
theorem holds_no {w : World} {g n : Nat} {i : Int} {A B : Nat → Nat → Bool} (h : GB w g n A B) (hi : ¬ (0 ≤ i ∧ i < n)) : Calls Tryd.prog 27 #[.pointer (some ⟨g, 0, none⟩), .int .i64 i] w fun e w' => e = .returned (.bool false) ∧ w = w' := by
  have L := len_any h
  clear h
  by_cases h0 : 0 ≤ i
  · have h1 : decide (i < (n : Int)) = false := decide_eq_false fun h => hi ⟨h0, h⟩
    clear hi
    go_enter Tryd.func27, Tryd.ntmps27
    go_wp2_with fail
    refine L.mono ?_
    rintro e w2 ⟨rfl, rfl⟩
    go_wp2
    go_ret
    exact ⟨rfl, rfl⟩
  · clear hi
    go_enter Tryd.func27, Tryd.ntmps27
    go_wp2
    go_ret
    exact ⟨rfl, rfl⟩
theorem Is.nil (w : World) (B : Nat) : Is w B (.slice none 0 0) [] := ⟨none, 0, rfl, Nat.le_refl _, by unfold maxLen; omega, Rd.nil w _, fun _ => rfl, fun h => absurd h (Nat.not_lt_zero _)⟩
/-- a node's list, or none -/
def rowI (A : Nat → Nat → Bool) (n : Nat) (i : Int) : List Int := if 0 ≤ i ∧ i < n then lst (A i.toNat) 128 else []
theorem rowI_nat {A : Nat → Nat → Bool} {n i : Nat} (h : i < n) : rowI A n i = lst (A i) 128 := by
  unfold rowI; rw [if_pos (by omega), Int.toNat_natCast]
theorem ahead_nil (w : World) (i : Int) : Calls Tryd.prog 15 #[.pointer none, .int .i64 i] w fun e w' => e = .returned (.slice none 0 0) ∧ w = w' := by
  have L := fun w => holds_nil w i
  go_enter Tryd.func15, Tryd.ntmps15
  go_wp2_with fail
  refine (L _).mono ?_
  rintro e w2 ⟨rfl, rfl⟩
  go_wp2
  go_ret
  exact ⟨rfl, rfl⟩
theorem ahead_any {w : World} {g n : Nat} {A B : Nat → Nat → Bool} (i : Int) (h : GB w g n A B) (hn : n ≤ 128) (hT : Tab w) :
    Calls Tryd.prog 15 #[.pointer (some ⟨g, 0, none⟩), .int .i64 i] w fun e w' => ∃ v, e = .returned v ∧ Is w' w.heap.size v (rowI A n i) ∧ Below w.heap.size w w' := by
  by_cases hi : 0 ≤ i ∧ i < n
  · obtain ⟨k, rfl⟩ : ∃ k : Nat, i = k := ⟨i.toNat, by omega⟩
    have hk : k < n := by omega
    have c0 := h.cell (i := 1 + k * 2 + 0) (by omega)
    have c1 := h.cell (i := 1 + k * 2 + 1) (by omega)
    rw [gc_a _ _ _ (by omega) (by omega)] at c0 c1
    rw [Nat.add_zero] at c0
    unfold sc at c0 c1
    have HO := holds_yes h hk
    have LI := Lib.hid (list_any (A k) w hT)
    rw [rowI_nat hk]
    clear h hT hi
    have k0 : (0 : Int) ≤ k := by omega
    have k1 : (k : Int) < 128 := by omega
    go_enter Tryd.func15, Tryd.ntmps15
    go_wp2_with fail
    refine HO.mono ?_
    rintro e w2 ⟨rfl, rfl⟩
    clear HO
    go_wp2_with fail
    refine LI.out.mono ?_
    rintro e w2 ⟨v, rfl, hv, hb⟩
    have HV := Lib.hid (And.intro hv hb)
    clear hv hb LI
    go_wp2
    go_ret
    exact ⟨v, rfl, HV.out.1, HV.out.2⟩
  · have HO := holds_no h hi
    have e0 : rowI A n i = [] := by unfold rowI; rw [if_neg hi]
    rw [e0]
    clear h hT hi e0
    go_enter Tryd.func15, Tryd.ntmps15
    go_wp2_with fail
    refine HO.mono ?_
    rintro e w2 ⟨rfl, rfl⟩
    go_wp2
    go_ret
    exact ⟨_, rfl, Is.nil _ _, Below.refl _ _⟩
theorem behind_any {w : World} {g n : Nat} {A B : Nat → Nat → Bool} (i : Int) (h : GB w g n A B) (hn : n ≤ 128) (hT : Tab w) :
    Calls Tryd.prog 17 #[.pointer (some ⟨g, 0, none⟩), .int .i64 i] w fun e w' => ∃ v, e = .returned v ∧ Is w' w.heap.size v (rowI B n i) ∧ Below w.heap.size w w' := by
  by_cases hi : 0 ≤ i ∧ i < n
  · obtain ⟨k, rfl⟩ : ∃ k : Nat, i = k := ⟨i.toNat, by omega⟩
    have hk : k < n := by omega
    have c0 := h.cell (i := 257 + k * 2 + 0) (by omega)
    have c1 := h.cell (i := 257 + k * 2 + 1) (by omega)
    rw [gc_b _ _ _ (by omega)] at c0 c1
    rw [Nat.add_zero] at c0
    unfold sc at c0 c1
    have HO := holds_yes h hk
    have LI := Lib.hid (list_any (B k) w hT)
    rw [rowI_nat hk]
    clear h hT hi
    have k0 : (0 : Int) ≤ k := by omega
    have k1 : (k : Int) < 128 := by omega
    go_enter Tryd.func17, Tryd.ntmps17
    go_wp2_with fail
    refine HO.mono ?_
    rintro e w2 ⟨rfl, rfl⟩
    clear HO
    go_wp2_with fail
    refine LI.out.mono ?_
    rintro e w2 ⟨v, rfl, hv, hb⟩
    have HV := Lib.hid (And.intro hv hb)
    clear hv hb LI
    go_wp2
    go_ret
    exact ⟨v, rfl, HV.out.1, HV.out.2⟩
  · have HO := holds_no h hi
    have e0 : rowI B n i = [] := by unfold rowI; rw [if_neg hi]
    rw [e0]
    clear h hT hi e0
    go_enter Tryd.func17, Tryd.ntmps17
    go_wp2_with fail
    refine HO.mono ?_
    rintro e w2 ⟨rfl, rfl⟩
    go_wp2
    go_ret
    exact ⟨_, rfl, Is.nil _ _, Below.refl _ _⟩
theorem below_drewN {B : Nat} {a w : World} (h : Below B a w) (q : Nat) : Below B a (w.drewN q) := ⟨h.os, h.tape, h.output, h.size, h.block⟩
set_option maxHeartbeats 2000000 in
/-- rows of numbers, the same or not -/
theorem ints_any (sp sq : Option Addr) (c d : Nat) (M N : List Int) (w : World) (hM : Rd w sp M) (hN : Rd w sq N) (_h1 : M.length ≤ maxLen) (h2 : N.length ≤ maxLen) :
    Calls Tryd.prog 14 #[.slice sp M.length c, .slice sq N.length d] w fun e w' => e = .returned (.bool (decide (M = N))) ∧ Below w.heap.size w w' := by
  by_cases hl : M.length = N.length
  · have HM : Hid (∀ i, i < N.length → ∃ k o, sp = some ⟨k, o, none⟩ ∧ k < w.heap.size ∧ w.cell? ⟨k, o + i, none⟩ = some (.int .i64 (M.getD i 0))) := fun i hi => hM i (by omega)
    have HN := Lib.hid (show ∀ i, i < N.length → _ from hN)
    have HL := Lib.hid hl
    rw [hl]
    obtain ⟨n, hn⟩ : ∃ n, N.length = n := ⟨_, rfl⟩
    rw [hn] at HM HN HL h2 ⊢
    have Hn := Lib.hid hn
    clear hM hN hl _h1 hn
    unfold maxLen at h2
    go_enter Tryd.func14, Tryd.ntmps14
    go_wp2
    go_loopw [5] (fun c wr => ∃ k : Nat, k ≤ n ∧ c = .int .i64 k ∧ Hid (∀ j, j < k → M.getD j 0 = N.getD j 0) ∧ Hid (Below w.heap.size w wr)) (fun c _ => n - (intOf c).toNat)
    case atStart => exact ⟨0, by omega, rfl, fun j h => absurd h (Nat.not_lt_zero _), Below.refl _ _⟩
    case round =>
      obtain ⟨k, hk, rfl, HE, HB⟩ := hrel
      by_cases hlt : k < n
      · obtain ⟨b1, o1, rfl, g1, c1⟩ := HM.out k hlt
        obtain ⟨b2, o2, rfl, g2, c2⟩ := HN.out k hlt
        have c1 : wr.cell? ⟨b1, o1 + k, none⟩ = _ := (HB.out.cell (p := ⟨b1, o1 + k, none⟩) g1).trans c1
        have c2 : wr.cell? ⟨b2, o2 + k, none⟩ = _ := (HB.out.cell (p := ⟨b2, o2 + k, none⟩) g2).trans c2
        have kn : (k : Int) < n := by omega
        have k0 : (0 : Int) ≤ k := by omega
        by_cases he : M.getD k 0 = N.getD k 0
        · have HE2 : Hid (∀ j, j < k + 1 → M.getD j 0 = N.getD j 0) := fun j hj => by
            by_cases e : j = k
            · subst e; exact he
            · exact HE.out j (by omega)
          rw [he] at c1
          clear he HE
          generalize N.getD k 0 = y at *
          go_wp2
          go_quiet (fail)
          go_wp2
          go_roundw
          case rel => exact ⟨k + 1, by omega, by go_num, HE2.out, below_drewN HB.out _⟩
          case measure => simp [intOf]; omega
        · have HD : Hid (decide (M = N) = false) := by
            unfold Hid
            exact decide_eq_false fun e => he (by rw [e])
          clear HE
          generalize M.getD k 0 = x at *
          generalize N.getD k 0 = y at *
          have hb : (x != y) = true := by simpa using he
          go_wp2
          go_quiet (fail)
          go_wp2
          go_ret
          exact ⟨by rw [HD.out]; rfl, below_drewN HB.out _⟩
      · have hkn : k = n := by omega
        subst hkn
        have HD : decide (M = N) = true := by
          refine decide_eq_true (List.ext_getElem (by rw [HL.out, Hn.out]) fun i a b => ?_)
          have := HE.out i (by rw [← Hn.out]; exact b)
          simpa [List.getD_eq_getElem?_getD, a, b] using this
        have HD := Lib.hid HD
        clear HE HM HN
        go_wp2
        go_ret
        exact ⟨by rw [HD.out]; rfl, HB.out⟩
  · have e : decide (M = N) = false := decide_eq_false fun e => hl (by rw [e])
    rw [e]
    clear hM hN e
    unfold maxLen at _h1 h2
    generalize M.length = m at *
    generalize N.length = n at *
    have hl : ¬ (m : Int) = n := by omega
    go_enter Tryd.func14, Tryd.ntmps14
    go_wp2
    go_ret
    exact ⟨rfl, Below.refl _ _⟩
end Go.Proofs.YtonnopcafmhaaaaDoor

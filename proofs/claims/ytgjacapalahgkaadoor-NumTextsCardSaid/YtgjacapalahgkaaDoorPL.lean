/- The law of numbers' texts: its walk. -/
import Derived.Test.YtgjacapalahgkaaDoorPR
import Derived.Test.YtgjacapalahgkaaDoorPD
import Derived.Handy
namespace Go.Proofs.YtgjacapalahgkaaDoor
open Go.ChangeShapes Go.WideShapes Go.ChangeAt Go.RowKit

/-- both readers answer the same, whatever the text -/
theorem parse_both (s : ByteArray) (hs : s.size ≤ 2000) : ∃ x e : Int,
    (∀ w, Calls Tryd.prog 6 #[.string s] w fun r w' => r = .returned (.tuple #[.int .i64 x, .int .i64 e]) ∧ w = w') ∧
    (∀ w, Calls Tryd.prog 7 #[.string s] w fun r w' => r = .returned (.tuple #[.int .i64 x, .int .i64 e]) ∧ w = w') := by
  by_cases h0 : 0 < s.size
  · by_cases hc : (((s[0]'h0).toNat : Int) == 45) = true
    · have hd : (s.extract 1 s.size).size ≤ 9223372036854775807 := by rw [ByteArray.size_extract]; omega
      exact ⟨_, _, fun w => parse_minus s _ w (by omega) h0 hc rfl hd, fun w => rparse_minus s _ w (by omega) h0 hc rfl hd⟩
    · have hc' : ∀ h0 : 0 < s.size, (((s[0]'h0).toNat : Int) == 45) = false := fun _ => by simpa using hc
      exact ⟨_, _, fun w => parse_plain s w (by omega) hc', fun w => rparse_plain s w (by omega) hc'⟩
  · have hc' : ∀ h0 : 0 < s.size, (((s[0]'h0).toNat : Int) == 45) = false := fun h => absurd h h0
    exact ⟨_, _, fun w => parse_plain s w (by omega) hc', fun w => rparse_plain s w (by omega) hc'⟩
theorem pe_val (u : Nat) (m : Bool) (h : m = true → 1 ≤ u) (n : Int) (hn : sd (u : Int) (mi m) = n) (h1 : -9223372036854775808 ≤ n) (h2 : n ≤ 9223372036854775807) (hu : u ≤ 9223372036854775808) :
    pv (Lib.decDigits u) m = n ∧ pe (Lib.decDigits u) m = 0 := by
  have a := pv_num (dec_isT u m h) (dec_len 18 u (by have : (10 : Nat) ^ 19 = 10000000000000000000 := by decide
                                                     omega))
  rw [dec_val, hn, nv_yes h1 h2, ne_yes h1 h2] at a
  exact a
/-- a number's text is read as it -/
theorem parse_text (n : Int) (h1 : -9223372036854775808 ≤ n) (h2 : n ≤ 9223372036854775807) (w : World) :
    Calls Tryd.prog 6 #[.string ⟨(Lib.itoa n).toArray⟩] w fun r w' => r = .returned (.tuple #[.int .i64 n, .int .i64 0]) ∧ w = w' := by
  by_cases h : n < 0
  · have E : Lib.itoa n = 45 :: Lib.decDigits n.natAbs := by unfold Lib.itoa; rw [if_pos h]
    rw [E]
    have v := pe_val n.natAbs true (fun _ => by omega) n (by show -(n.natAbs : Int) = n; omega) h1 h2 (by omega)
    have hl : (Lib.decDigits n.natAbs).length ≤ 20 := by
      have := Lib.nDigits_le20 n.natAbs (by omega); rw [← Lib.decDigits_length] at this; exact this
    generalize Lib.decDigits n.natAbs = l at *
    have hx : (⟨(45 :: l).toArray⟩ : ByteArray).extract 1 (⟨(45 :: l).toArray⟩ : ByteArray).size = ⟨l.toArray⟩ := by
      apply ByteArray.ext
      rw [show (⟨(45 :: l).toArray⟩ : ByteArray).size = l.length + 1 from by show (45 :: l).toArray.size = _; simp]
      simp [ByteArray.data_extract]
    have c := parse_minus ⟨(45 :: l).toArray⟩ ⟨l.toArray⟩ w (by show (45 :: l).toArray.size ≤ _; simp; omega) (by show 0 < (45 :: l).toArray.size; simp) rfl hx (by show l.toArray.size ≤ _; simp; omega)
    have e : (⟨l.toArray⟩ : ByteArray).data.toList = l := by simp
    rw [e, v.1, v.2] at c
    exact c
  · have E : Lib.itoa n = Lib.decDigits n.toNat := by unfold Lib.itoa; rw [if_neg h]
    rw [E]
    have v := pe_val n.toNat false (fun h => Bool.noConfusion h) n (by show ((n.toNat : Nat) : Int) = n; omega) h1 h2 (by omega)
    have hl : (Lib.decDigits n.toNat).length ≤ 20 := by
      have := Lib.nDigits_le20 n.toNat (by omega); rw [← Lib.decDigits_length] at this; exact this
    have hd := dec_dig n.toNat
    generalize Lib.decDigits n.toNat = l at *
    have e : (⟨l.toArray⟩ : ByteArray).data.toList = l := by simp
    have c := parse_plain ⟨l.toArray⟩ w (by show l.toArray.size ≤ _; simp; omega) (fun h0 => by
      have g := L_get ⟨l.toArray⟩ 0 h0
      have d : isDig ((⟨l.toArray⟩ : ByteArray)[0]'h0) := by
        rw [← g]
        have hm : ∀ (L : List UInt8) (hL : L = l) (h : 0 < L.length), L[0] ∈ l := by intro L hL h; subst hL; exact List.getElem_mem h
        exact hd _ (hm _ e _)
      unfold isDig at d
      simp
      omega)
    rw [e, v.1, v.2] at c
    exact c
set_option maxHeartbeats 1000000 in
theorem texts_walk (n : Int) (s : ByteArray) (h1 : -9223372036854775808 ≤ n) (h2 : n ≤ 9223372036854775807) (hs : s.size ≤ 9223372036854775807) (w : World) (htab : Lib.TabIs Tryd.prog w "internal/strconv.uint64pow10" .u64 Lib.pow10Tab) :
    Calls Tryd.prog 3 #[.int .i64 n, .string s] w fun e w' => e = .returned (.bool true) ∧ Below w.heap.size w w' := by
  by_cases hb : s.size ≤ 2000
  · obtain ⟨x, e, P, R⟩ := parse_both s hb
    have T := print_any n w h1 h2 htab
    have Q := fun w => rprint_any n w h1 h2
    have Y := fun w => parse_text n h1 h2 w
    have hb' : (s.size : Int) ≤ 2000 := by omega
    generalize Lib.itoa n = l at *
    clear htab hs
    go_enter Tryd.func3, Tryd.ntmps3
    go_wp2_with fail
    refine T.mono ?_; rintro e1 v1 ⟨rfl, k1⟩
    go_wp2_with fail
    refine (P _).mono ?_; rintro e2 w' ⟨rfl, rfl⟩
    go_wp2_with fail
    refine (R _).mono ?_; rintro e3 w' ⟨rfl, rfl⟩
    go_wp2_with fail
    refine (Y _).mono ?_; rintro e4 w' ⟨rfl, rfl⟩
    go_wp2_with fail
    refine (Q _).mono ?_; rintro e5 w' ⟨rfl, q, rfl⟩
    go_wp2_with fail
    refine (awake_true _).mono ?_; rintro e6 v2 ⟨rfl, k2⟩
    go_wp2
    go_ret
    have kk : Below w.heap.size w (v1.drewN q) := below_drewN k1 q
    exact ⟨rfl, kk.trans (k2.mono kk.size)⟩
  · have hb' : (2000 : Int) < (s.size : Int) := by omega
    clear htab
    go_enter Tryd.func3, Tryd.ntmps3
    go_wp2_with fail
    refine (awake_true _).mono ?_; rintro e6 v2 ⟨rfl, k2⟩
    go_wp2
    go_ret
    exact ⟨rfl, k2⟩
end Go.Proofs.YtgjacapalahgkaaDoor

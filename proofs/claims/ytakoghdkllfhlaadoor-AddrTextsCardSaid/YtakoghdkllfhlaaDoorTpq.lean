/- Contracts: Parse of package num. -/
import Derived.Test.YtakoghdkllfhlaaDoorTpp
namespace Go.Proofs.YtakoghdkllfhlaaDoor
open Go.ChangeShapes Go.WideShapes Go.ChangeAt Go.RowKit

open Classical in
/-- the number that a text is, or 0 -/
noncomputable def pv (l : List UInt8) (m : Bool) : Int := if IsT l m ∧ l.length ≤ 19 then nv (sd (dval l) (mi m)) else 0
open Classical in
/-- 0, or what is wrong -/
noncomputable def pe (l : List UInt8) (m : Bool) : Int := if IsT l m then (if l.length ≤ 19 then ne (sd (dval l) (mi m)) else 6) else 4
theorem pv_form {l : List UInt8} {m : Bool} (h : ¬ IsT l m) : pv l m = 0 ∧ pe l m = 4 := by unfold pv pe; simp [h]
theorem pv_long {l : List UInt8} {m : Bool} (h : IsT l m) (h2 : 19 < l.length) : pv l m = 0 ∧ pe l m = 6 := by
  unfold pv pe; rw [if_neg (fun x => by omega), if_pos h, if_neg (by omega)]; exact ⟨rfl, rfl⟩
theorem pv_num {l : List UInt8} {m : Bool} (h : IsT l m) (h2 : l.length ≤ 19) : pv l m = nv (sd (dval l) (mi m)) ∧ pe l m = ne (sd (dval l) (mi m)) := by
  unfold pv pe; rw [if_pos ⟨h, h2⟩, if_pos h, if_pos h2]; exact ⟨rfl, rfl⟩
/-- is there a sign ahead? -/
def hasSign (s : ByteArray) : Prop := ∃ h : 0 < s.size, (s[0]'h).toNat = 45
theorem mi_or (m : Bool) : mi m = 0 ∨ mi m = 1 := by cases m <;> simp [mi]
theorem dval_small (l : List UInt8) (h : ∀ c ∈ l, isDig c) (hl : l.length ≤ 19) (k : Nat) (hk : k ≤ l.length) : 0 ≤ dval (l.take k) ∧ dval (l.take k) ≤ 9999999999999999999 ∧ (k < l.length → dval (l.take k) ≤ 999999999999999999) := by
  have b := dval_take_bd l h k hk
  have p : (10 : Int) ^ k ≤ 10 ^ 19 := by
    have : (10 : Nat) ^ k ≤ 10 ^ 19 := Nat.pow_le_pow_right (by decide) (by omega)
    exact_mod_cast this
  refine ⟨b.1, by omega, fun hlt => ?_⟩
  have q : (10 : Int) ^ k ≤ 10 ^ 18 := by
    have : (10 : Nat) ^ k ≤ 10 ^ 18 := Nat.pow_le_pow_right (by decide) (by omega)
    exact_mod_cast this
  omega
theorem dval_next (s : ByteArray) (k : Nat) (h : k < s.size) : dval (s.data.toList.take (k + 1)) = dval (s.data.toList.take k) * 10 + ((s[k].toNat : Int) - 48) := by
  rw [take_snoc_get _ k (by rw [tp_L_len]; exact h), dval_snoc, tp_L_get s k h]
set_option maxHeartbeats 2000000 in
theorem parse_minus (s d : ByteArray) (w : World) (hs : s.size ≤ 9223372036854775807) (h0 : 0 < s.size) (hc : (((s[0]'h0).toNat : Int) == 45) = true) (hx : s.extract 1 s.size = d) (hd : d.size ≤ 9223372036854775807) :
    Calls Tryd.prog 92 #[.string s] w fun e w' => e = .returned (.tuple #[.int .i64 (pv d.data.toList true), .int .i64 (pe d.data.toList true)]) ∧ w = w' := by
  have h0' : (0 : Int) < (s.size : Int) := by omega
  have T := fun w => isText_any d true w hd
  rw [show mi true = 1 from rfl] at T
  go_enter Tryd.func92, Tryd.ntmps92
  go_wp2_with fail
  refine (T _).mono ?_
  rintro e w' ⟨⟨b, rfl, hb⟩, rfl⟩
  have HB := Lib.hid hb
  clear hb
  cases b with
  | false =>
    have HR := Lib.hid (pv_form (fun h => Bool.noConfusion (HB.out.2 h)))
    go_wp2
    go_ret2
    exact ⟨tp_ret_int2 HR.out.1.symm HR.out.2.symm, rfl⟩
  | true =>
    have HT := Lib.hid (HB.out.1 rfl)
    by_cases h19 : d.size ≤ 19
    · have HR := Lib.hid (pv_num HT.out (by rw [tp_L_len]; exact h19))
      have C := fun w => signed_any (dval d.data.toList) (mi true) w (dval_bd _ HT.out.2.2).1 (mi_or _) (by have := dval_small _ HT.out.2.2 (by rw [tp_L_len]; exact h19) d.size (by rw [tp_L_len]; exact Nat.le_refl _); rw [show d.data.toList.take d.size = d.data.toList by rw [← tp_L_len, List.take_length]] at this; omega)
      rw [show mi true = 1 from rfl] at C
      go_wp2_with fail
      go_loop [6, 28] (fun n i => ∃ k : Nat, k ≤ d.size ∧ i = .int .i64 k ∧ n = .int .u64 (dval (d.data.toList.take k))) (fun _ i => d.size - (intOf i).toNat)
      case atStart => exact ⟨0, Nat.zero_le _, rfl, by simp [dval]⟩
      case round =>
        obtain ⟨k, hk, rfl, rfl⟩ := hrel
        have bd := dval_small _ HT.out.2.2 (by rw [tp_L_len]; exact h19) k (by rw [tp_L_len]; exact hk)
        by_cases hlt : k < d.size
        · have dg : isDig d[k] := by have := HT.out.2.2 (d.data.toList[k]'(by rw [tp_L_len]; exact hlt)) (List.getElem_mem _); rwa [tp_L_get d k hlt] at this
          have dg1 : 48 ≤ (d[k].toNat : Int) ∧ (d[k].toNat : Int) ≤ 57 := by unfold isDig at dg; omega
          have bd2 := bd.2.2 (by rw [tp_L_len]; exact hlt)
          have HN := Lib.hid (dval_next d k hlt)
          obtain ⟨u, hu⟩ : ∃ u, dval (d.data.toList.take k) = u := ⟨_, rfl⟩
          rw [hu] at bd bd2
          have bd1 := bd.1
          rw [hu]
          have HU := Lib.hid hu
          clear bd dg hu
          go_wp2
          go_round
          case rel => exact ⟨k + 1, by omega, by go_num, by rw [HN.out, HU.out]⟩
          case measure => simp [intOf]; omega
        · have hk' : k = d.size := by omega
          have hv : dval (d.data.toList.take k) = dval d.data.toList := by rw [hk', ← tp_L_len, List.take_length]
          rw [hv]
          clear bd hk' hv
          go_wp2_with fail
          refine (C _).mono ?_
          rintro e w' ⟨rfl, rfl⟩
          go_wp2
          go_ret2
          exact ⟨tp_ret_int2 HR.out.1.symm HR.out.2.symm, rfl⟩
    · have HR := Lib.hid (pv_long HT.out (by rw [tp_L_len]; omega))
      have h19' : (19 : Int) < (d.size : Int) := by omega
      clear h19
      go_wp2
      go_ret2
      exact ⟨tp_ret_int2 HR.out.1.symm HR.out.2.symm, rfl⟩
set_option maxHeartbeats 2000000 in
theorem parse_plain (d : ByteArray) (w : World) (hd : d.size ≤ 9223372036854775807) (hc : ∀ h0 : 0 < d.size, (((d[0]'h0).toNat : Int) == 45) = false) :
    Calls Tryd.prog 92 #[.string d] w fun e w' => e = .returned (.tuple #[.int .i64 (pv d.data.toList false), .int .i64 (pe d.data.toList false)]) ∧ w = w' := by
  by_cases h0 : d.size = 0
  · have hn := tp_size_zero d h0
    subst hn
    have HR := Lib.hid (pv_form (l := []) (m := false) (fun h => h.1 rfl))
    clear hc h0
    go_enter Tryd.func92, Tryd.ntmps92
    go_wp2_with (go_at_call 111; go_in)
    go_ret2
    exact ⟨tp_ret_int2 HR.out.1.symm HR.out.2.symm, rfl⟩
  have h0' : (0 : Int) < (d.size : Int) := by omega
  have hc' := hc (by omega)
  clear hc h0
  have T := fun w => isText_any d false w hd
  rw [show mi false = 0 from rfl] at T
  go_enter Tryd.func92, Tryd.ntmps92
  go_wp2_with fail
  refine (T _).mono ?_
  rintro e w' ⟨⟨b, rfl, hb⟩, rfl⟩
  have HB := Lib.hid hb
  clear hb
  cases b with
  | false =>
    have HR := Lib.hid (pv_form (fun h => Bool.noConfusion (HB.out.2 h)))
    go_wp2
    go_ret2
    exact ⟨tp_ret_int2 HR.out.1.symm HR.out.2.symm, rfl⟩
  | true =>
    have HT := Lib.hid (HB.out.1 rfl)
    by_cases h19 : d.size ≤ 19
    · have HR := Lib.hid (pv_num HT.out (by rw [tp_L_len]; exact h19))
      have C := fun w => signed_any (dval d.data.toList) (mi false) w (dval_bd _ HT.out.2.2).1 (mi_or _) (by have := dval_small _ HT.out.2.2 (by rw [tp_L_len]; exact h19) d.size (by rw [tp_L_len]; exact Nat.le_refl _); rw [show d.data.toList.take d.size = d.data.toList by rw [← tp_L_len, List.take_length]] at this; omega)
      rw [show mi false = 0 from rfl] at C
      go_wp2_with fail
      go_loop [6, 28] (fun n i => ∃ k : Nat, k ≤ d.size ∧ i = .int .i64 k ∧ n = .int .u64 (dval (d.data.toList.take k))) (fun _ i => d.size - (intOf i).toNat)
      case atStart => exact ⟨0, Nat.zero_le _, rfl, by simp [dval]⟩
      case round =>
        obtain ⟨k, hk, rfl, rfl⟩ := hrel
        have bd := dval_small _ HT.out.2.2 (by rw [tp_L_len]; exact h19) k (by rw [tp_L_len]; exact hk)
        by_cases hlt : k < d.size
        · have dg : isDig d[k] := by have := HT.out.2.2 (d.data.toList[k]'(by rw [tp_L_len]; exact hlt)) (List.getElem_mem _); rwa [tp_L_get d k hlt] at this
          have dg1 : 48 ≤ (d[k].toNat : Int) ∧ (d[k].toNat : Int) ≤ 57 := by unfold isDig at dg; omega
          have bd2 := bd.2.2 (by rw [tp_L_len]; exact hlt)
          have HN := Lib.hid (dval_next d k hlt)
          obtain ⟨u, hu⟩ : ∃ u, dval (d.data.toList.take k) = u := ⟨_, rfl⟩
          rw [hu] at bd bd2
          have bd1 := bd.1
          rw [hu]
          have HU := Lib.hid hu
          clear bd dg hu
          go_wp2
          go_round
          case rel => exact ⟨k + 1, by omega, by go_num, by rw [HN.out, HU.out]⟩
          case measure => simp [intOf]; omega
        · have hk' : k = d.size := by omega
          have hv : dval (d.data.toList.take k) = dval d.data.toList := by rw [hk', ← tp_L_len, List.take_length]
          rw [hv]
          clear bd hk' hv
          go_wp2_with fail
          refine (C _).mono ?_
          rintro e w' ⟨rfl, rfl⟩
          go_wp2
          go_ret2
          exact ⟨tp_ret_int2 HR.out.1.symm HR.out.2.symm, rfl⟩
    · have HR := Lib.hid (pv_long HT.out (by rw [tp_L_len]; omega))
      have h19' : (19 : Int) < (d.size : Int) := by omega
      clear h19
      go_wp2
      go_ret2
      exact ⟨tp_ret_int2 HR.out.1.symm HR.out.2.symm, rfl⟩
end Go.Proofs.YtakoghdkllfhlaaDoor

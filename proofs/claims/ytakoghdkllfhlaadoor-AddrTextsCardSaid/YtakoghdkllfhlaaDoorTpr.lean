/- Contracts: Parse of the reference. -/
import Derived.Test.YtakoghdkllfhlaaDoorTpq
namespace Go.Proofs.YtakoghdkllfhlaaDoor
open Go.ChangeShapes Go.WideShapes Go.ChangeAt Go.RowKit
theorem far_num {l : List UInt8} {m : Bool} (h : IsT l m) (h2 : l.length ≤ 19) (hb : 9223372036854775808 < dval l) : pv l m = 0 ∧ pe l m = 6 := by
  have := pv_num h h2
  have f : sd (dval l) (mi m) < -9223372036854775808 ∨ 9223372036854775807 < sd (dval l) (mi m) := by cases m <;> simp only [sd, mi] <;> simp <;> omega
  rw [nv_no f, ne_no f] at this
  exact this
set_option maxHeartbeats 4000000 in
theorem rparse_minus (s d : ByteArray) (w : World) (hs : s.size ≤ 9223372036854775807) (h0 : 0 < s.size) (hc : (((s[0]'h0).toNat : Int) == 45) = true) (hx : s.extract 1 s.size = d) (hd : d.size ≤ 9223372036854775807) :
    Calls Tryd.prog 51 #[.string s] w fun e w' => e = .returned (.tuple #[.int .i64 (pv d.data.toList true), .int .i64 (pe d.data.toList true)]) ∧ w = w' := by
  have h0' : (0 : Int) < (s.size : Int) := by omega
  by_cases hp : 0 < d.size
  rotate_left
  · have hn := tp_size_zero d (by omega)
    subst hn
    have HR := Lib.hid (pv_form (l := []) (m := true) (fun h => h.1 rfl))
    clear hp
    go_enter Tryd.func51, Tryd.ntmps51
    go_wp2
    go_ret2
    exact ⟨tp_ret_int2 HR.out.1.symm HR.out.2.symm, rfl⟩
  have E := tp_empty_iff d hp
  have E1 := E.1
  have HE := Lib.hid E.2
  clear E
  by_cases hz : ((d[0].toNat : Int) = 48 ∧ (1 < d.size ∨ true = true))
  · have HR := Lib.hid (pv_form (l := d.data.toList) (m := true) fun h => h.2.1 ⟨by rw [L_head d hp]; exact congrArg some ((u8_48 _).2 hz.1), by rw [tp_L_len]; exact hz.2⟩)
    have t0 : (((d[0]'hp).toNat : Int) == 48) = true := by simpa using hz.1
    clear hz
    go_enter Tryd.func51, Tryd.ntmps51
    go_wp2
    go_ret2
    exact ⟨tp_ret_int2 HR.out.1.symm HR.out.2.symm, rfl⟩
  have HZ : Hid (¬ (d.data.toList.head? = some 48 ∧ (1 < d.data.toList.length ∨ true = true))) := by
    rw [L_head d hp, tp_L_len]
    intro h
    exact hz ⟨(u8_48 _).1 (Option.some.inj h.1), h.2⟩
  have t0 : (((d[0]'hp).toNat : Int) == 48) = false := by simp; intro h; exact hz ⟨h, .inr rfl⟩
  clear hz
  go_enter Tryd.func51, Tryd.ntmps51
  go_wp2
  go_loop [6] (fun i => ∃ k : Nat, k ≤ d.size ∧ i = .int .i64 k ∧ Hid (∀ j (h : j < d.size), j < k → isDig d[j])) (fun i => d.size - (intOf i).toNat)
  case atStart => exact ⟨0, Nat.zero_le _, rfl, fun j h hj => by omega⟩
  case round =>
    obtain ⟨k, hk, rfl, hj⟩ := hrel
    by_cases hlt : k < d.size
    · by_cases hd0 : isDig d[k]
      · have hd1 : ¬ ((d[k].toNat : Int) < 48) := by unfold isDig at hd0; omega
        have hd2 : ¬ (57 < (d[k].toNat : Int)) := by unfold isDig at hd0; omega
        have HD := Lib.hid hd0
        clear hd0
        go_wp2
        go_round
        case rel => exact ⟨k + 1, by omega, by go_num, fun j h hjk => by rcases Nat.lt_succ_iff_lt_or_eq.1 hjk with h' | rfl; exact hj.out j h h'; exact HD.out⟩
        case measure => simp [intOf]; omega
      · have HR := Lib.hid (pv_form (l := d.data.toList) (m := true) fun h => hd0 (by have := h.2.2 (d.data.toList[k]'(by rw [tp_L_len]; exact hlt)) (List.getElem_mem _); rwa [tp_L_get d k hlt] at this))
        by_cases hd1 : (d[k].toNat : Int) < 48
        · clear hd0
          go_wp2
          go_ret2
          exact ⟨tp_ret_int2 HR.out.1.symm HR.out.2.symm, rfl⟩
        · have hd2 : 57 < (d[k].toNat : Int) := by unfold isDig at hd0; omega
          clear hd0
          go_wp2
          go_ret2
          exact ⟨tp_ret_int2 HR.out.1.symm HR.out.2.symm, rfl⟩
    · have HT : Hid (IsT d.data.toList true) := ⟨by rw [← tp_toList_is]; exact HE.out, by have hzz := HZ.out; first | exact hzz | simpa using hzz, L_all d fun j h => hj.out j h (by omega)⟩
      have hk' : (d.size : Int) ≤ (k : Int) := by omega
      go_wp2_with fail
      go_loop [7, 8] (fun n i => ∃ k : Nat, k ≤ d.size ∧ i = .int .i64 k ∧ n = .int .u64 (dval (d.data.toList.take k)) ∧ Hid (19 < d.size → k = 0)) (fun _ i => d.size - (intOf i).toNat)
      case atStart => exact ⟨0, Nat.zero_le _, rfl, by simp [dval], fun _ => rfl⟩
      case round =>
        obtain ⟨q, hq, rfl, rfl, hq0⟩ := hrel
        by_cases h19 : d.size ≤ 19
        · have bd := dval_small _ HT.out.2.2 (by rw [tp_L_len]; exact h19) q (by rw [tp_L_len]; exact hq)
          obtain ⟨u, hu⟩ : ∃ u, dval (d.data.toList.take q) = u := ⟨_, rfl⟩
          rw [hu] at bd
          by_cases hlt2 : q < d.size
          · have dg : isDig d[q] := by have := HT.out.2.2 (d.data.toList[q]'(by rw [tp_L_len]; exact hlt2)) (List.getElem_mem _); rwa [tp_L_get d q hlt2] at this
            have dg1 : 48 ≤ (d[q].toNat : Int) ∧ (d[q].toNat : Int) ≤ 57 := by unfold isDig at dg; omega
            have bd2 := bd.2.2 (by rw [tp_L_len]; exact hlt2)
            have HN := Lib.hid (dval_next d q hlt2)
            have HL := Lib.hid (dval_take_le d.data.toList HT.out.2.2 q (by rw [tp_L_len]; exact hlt2))
            have bd1 := bd.1
            rw [hu]
            have HU := Lib.hid hu
            clear bd dg hu
            by_cases hbig : u ≤ 922337203685477580
            · go_wp2
              go_round
              case rel => exact ⟨q + 1, by omega, by go_num, by rw [HN.out, HU.out], fun h => by omega⟩
              case measure => simp [intOf]; omega
            · have HR := Lib.hid (far_num HT.out (by rw [tp_L_len]; exact h19) (by have := HL.out; rw [HU.out] at this; omega))
              go_wp2
              go_ret2
              exact ⟨tp_ret_int2 HR.out.1.symm HR.out.2.symm, rfl⟩
          · have hv : dval d.data.toList = u := by rw [← hu, show q = d.data.toList.length by rw [tp_L_len]; omega, List.take_length]
            rw [hu]
            have HU := Lib.hid hv
            have bd1 := bd.1
            have bd2 := bd.2.1
            clear bd hv hu
            by_cases hu2 : u ≤ 9223372036854775808
            · have HR := Lib.hid (pv_num HT.out (by rw [tp_L_len]; exact h19))
              have E := Lib.hid (And.intro (nv_yes (n := -u) (by omega) (by omega)) (ne_yes (n := -u) (by omega) (by omega)))
              go_wp2
              go_ret2
              refine ⟨tp_ret_int2 ?_ ?_, rfl⟩
              · rw [HR.out.1, HU.out, show sd u (mi true) = -u from rfl, E.out.1]; unfold wrap64; rw [IntKind.wrap_u64]; omega
              · rw [HR.out.2, HU.out, show sd u (mi true) = -u from rfl, E.out.2]
            · have HR := Lib.hid (far_num HT.out (by rw [tp_L_len]; exact h19) (by rw [HU.out]; omega))
              go_wp2
              go_ret2
              exact ⟨tp_ret_int2 HR.out.1.symm HR.out.2.symm, rfl⟩
        · have h19' : (19 : Int) < (d.size : Int) := by omega
          have hq1 : q = 0 := hq0.out (by omega)
          subst hq1
          have HR := Lib.hid (pv_long HT.out (by rw [tp_L_len]; omega))
          clear h19
          go_wp2
          go_ret2
          exact ⟨tp_ret_int2 HR.out.1.symm HR.out.2.symm, rfl⟩
set_option maxHeartbeats 4000000 in
theorem rparse_plain (d : ByteArray) (w : World) (hd : d.size ≤ 9223372036854775807) (hc : ∀ h0 : 0 < d.size, (((d[0]'h0).toNat : Int) == 45) = false) :
    Calls Tryd.prog 51 #[.string d] w fun e w' => e = .returned (.tuple #[.int .i64 (pv d.data.toList false), .int .i64 (pe d.data.toList false)]) ∧ w = w' := by
  by_cases hp : 0 < d.size
  rotate_left
  · have hn := tp_size_zero d (by omega)
    subst hn
    have HR := Lib.hid (pv_form (l := []) (m := false) (fun h => h.1 rfl))
    clear hc hp
    go_enter Tryd.func51, Tryd.ntmps51
    go_wp2
    go_ret2
    exact ⟨tp_ret_int2 HR.out.1.symm HR.out.2.symm, rfl⟩
  have h0' : (0 : Int) < (d.size : Int) := by omega
  have hc' := hc hp
  clear hc
  have E := tp_empty_iff d hp
  have E1 := E.1
  have HE := Lib.hid E.2
  clear E
  by_cases hz : ((d[0].toNat : Int) = 48 ∧ (1 < d.size ∨ false = true))
  · have HR := Lib.hid (pv_form (l := d.data.toList) (m := false) fun h => h.2.1 ⟨by rw [L_head d hp]; exact congrArg some ((u8_48 _).2 hz.1), by rw [tp_L_len]; exact hz.2⟩)
    have t0 : (((d[0]'hp).toNat : Int) == 48) = true := by simpa using hz.1
    have t1 : (1 : Int) < (d.size : Int) := by rcases hz.2 with h | h; omega; exact Bool.noConfusion h
    clear hz
    go_enter Tryd.func51, Tryd.ntmps51
    go_wp2
    go_ret2
    exact ⟨tp_ret_int2 HR.out.1.symm HR.out.2.symm, rfl⟩
  have HZ : Hid (¬ (d.data.toList.head? = some 48 ∧ (1 < d.data.toList.length ∨ false = true))) := by
    rw [L_head d hp, tp_L_len]
    intro h
    exact hz ⟨(u8_48 _).1 (Option.some.inj h.1), h.2⟩
  by_cases c0 : (d[0].toNat : Int) = 48
  · have t0 : (((d[0]'hp).toNat : Int) == 48) = true := by simpa using c0
    have t1 : (d.size : Int) ≤ 1 := by have : ¬ 1 < d.size := fun h => hz ⟨c0, .inl h⟩; omega
    clear hz c0
    go_enter Tryd.func51, Tryd.ntmps51
    go_wp2
    go_loop [6] (fun i => ∃ k : Nat, k ≤ d.size ∧ i = .int .i64 k ∧ Hid (∀ j (h : j < d.size), j < k → isDig d[j])) (fun i => d.size - (intOf i).toNat)
    case atStart => exact ⟨0, Nat.zero_le _, rfl, fun j h hj => by omega⟩
    case round =>
      obtain ⟨k, hk, rfl, hj⟩ := hrel
      by_cases hlt : k < d.size
      · by_cases hd0 : isDig d[k]
        · have hd1 : ¬ ((d[k].toNat : Int) < 48) := by unfold isDig at hd0; omega
          have hd2 : ¬ (57 < (d[k].toNat : Int)) := by unfold isDig at hd0; omega
          have HD := Lib.hid hd0
          clear hd0
          go_wp2
          go_round
          case rel => exact ⟨k + 1, by omega, by go_num, fun j h hjk => by rcases Nat.lt_succ_iff_lt_or_eq.1 hjk with h' | rfl; exact hj.out j h h'; exact HD.out⟩
          case measure => simp [intOf]; omega
        · have HR := Lib.hid (pv_form (l := d.data.toList) (m := false) fun h => hd0 (by have := h.2.2 (d.data.toList[k]'(by rw [tp_L_len]; exact hlt)) (List.getElem_mem _); rwa [tp_L_get d k hlt] at this))
          by_cases hd1 : (d[k].toNat : Int) < 48
          · clear hd0
            go_wp2
            go_ret2
            exact ⟨tp_ret_int2 HR.out.1.symm HR.out.2.symm, rfl⟩
          · have hd2 : 57 < (d[k].toNat : Int) := by unfold isDig at hd0; omega
            clear hd0
            go_wp2
            go_ret2
            exact ⟨tp_ret_int2 HR.out.1.symm HR.out.2.symm, rfl⟩
      · have HT : Hid (IsT d.data.toList false) := ⟨by rw [← tp_toList_is]; exact HE.out, by have hzz := HZ.out; first | exact hzz | simpa using hzz, L_all d fun j h => hj.out j h (by omega)⟩
        have hk' : (d.size : Int) ≤ (k : Int) := by omega
        go_wp2_with fail
        go_loop [7, 8] (fun n i => ∃ k : Nat, k ≤ d.size ∧ i = .int .i64 k ∧ n = .int .u64 (dval (d.data.toList.take k)) ∧ Hid (19 < d.size → k = 0)) (fun _ i => d.size - (intOf i).toNat)
        case atStart => exact ⟨0, Nat.zero_le _, rfl, by simp [dval], fun _ => rfl⟩
        case round =>
          obtain ⟨q, hq, rfl, rfl, hq0⟩ := hrel
          by_cases h19 : d.size ≤ 19
          · have bd := dval_small _ HT.out.2.2 (by rw [tp_L_len]; exact h19) q (by rw [tp_L_len]; exact hq)
            obtain ⟨u, hu⟩ : ∃ u, dval (d.data.toList.take q) = u := ⟨_, rfl⟩
            rw [hu] at bd
            by_cases hlt2 : q < d.size
            · have dg : isDig d[q] := by have := HT.out.2.2 (d.data.toList[q]'(by rw [tp_L_len]; exact hlt2)) (List.getElem_mem _); rwa [tp_L_get d q hlt2] at this
              have dg1 : 48 ≤ (d[q].toNat : Int) ∧ (d[q].toNat : Int) ≤ 57 := by unfold isDig at dg; omega
              have bd2 := bd.2.2 (by rw [tp_L_len]; exact hlt2)
              have HN := Lib.hid (dval_next d q hlt2)
              have HL := Lib.hid (dval_take_le d.data.toList HT.out.2.2 q (by rw [tp_L_len]; exact hlt2))
              have bd1 := bd.1
              rw [hu]
              have HU := Lib.hid hu
              clear bd dg hu
              by_cases hbig : u ≤ 922337203685477580
              · go_wp2
                go_round
                case rel => exact ⟨q + 1, by omega, by go_num, by rw [HN.out, HU.out], fun h => by omega⟩
                case measure => simp [intOf]; omega
              · have HR := Lib.hid (far_num HT.out (by rw [tp_L_len]; exact h19) (by have := HL.out; rw [HU.out] at this; omega))
                go_wp2
                go_ret2
                exact ⟨tp_ret_int2 HR.out.1.symm HR.out.2.symm, rfl⟩
            · have hv : dval d.data.toList = u := by rw [← hu, show q = d.data.toList.length by rw [tp_L_len]; omega, List.take_length]
              rw [hu]
              have HU := Lib.hid hv
              have bd1 := bd.1
              have bd2 := bd.2.1
              clear bd hv hu
              by_cases hu2 : u ≤ 9223372036854775807
              · have HR := Lib.hid (pv_num HT.out (by rw [tp_L_len]; exact h19))
                have E := Lib.hid (And.intro (nv_yes (n := u) (by omega) (by omega)) (ne_yes (n := u) (by omega) (by omega)))
                go_wp2
                go_ret2
                refine ⟨tp_ret_int2 ?_ ?_, rfl⟩
                · rw [HR.out.1, HU.out, show sd u (mi false) = u from rfl, E.out.1]
                · rw [HR.out.2, HU.out, show sd u (mi false) = u from rfl, E.out.2]
              · have HR := Lib.hid (show pv d.data.toList false = 0 ∧ pe d.data.toList false = 6 by
                  have := pv_num HT.out (by rw [tp_L_len]; exact h19)
                  rw [HU.out, show sd u (mi false) = u from rfl, nv_no (.inr (by omega)), ne_no (.inr (by omega))] at this
                  exact this)
                go_wp2
                go_ret2
                exact ⟨tp_ret_int2 HR.out.1.symm HR.out.2.symm, rfl⟩
          · have h19' : (19 : Int) < (d.size : Int) := by omega
            have hq1 : q = 0 := hq0.out (by omega)
            subst hq1
            have HR := Lib.hid (pv_long HT.out (by rw [tp_L_len]; omega))
            clear h19
            go_wp2
            go_ret2
            exact ⟨tp_ret_int2 HR.out.1.symm HR.out.2.symm, rfl⟩
  · have t0 : (((d[0]'hp).toNat : Int) == 48) = false := by simpa using c0
    clear hz c0
    go_enter Tryd.func51, Tryd.ntmps51
    go_wp2
    go_loop [6] (fun i => ∃ k : Nat, k ≤ d.size ∧ i = .int .i64 k ∧ Hid (∀ j (h : j < d.size), j < k → isDig d[j])) (fun i => d.size - (intOf i).toNat)
    case atStart => exact ⟨0, Nat.zero_le _, rfl, fun j h hj => by omega⟩
    case round =>
      obtain ⟨k, hk, rfl, hj⟩ := hrel
      by_cases hlt : k < d.size
      · by_cases hd0 : isDig d[k]
        · have hd1 : ¬ ((d[k].toNat : Int) < 48) := by unfold isDig at hd0; omega
          have hd2 : ¬ (57 < (d[k].toNat : Int)) := by unfold isDig at hd0; omega
          have HD := Lib.hid hd0
          clear hd0
          go_wp2
          go_round
          case rel => exact ⟨k + 1, by omega, by go_num, fun j h hjk => by rcases Nat.lt_succ_iff_lt_or_eq.1 hjk with h' | rfl; exact hj.out j h h'; exact HD.out⟩
          case measure => simp [intOf]; omega
        · have HR := Lib.hid (pv_form (l := d.data.toList) (m := false) fun h => hd0 (by have := h.2.2 (d.data.toList[k]'(by rw [tp_L_len]; exact hlt)) (List.getElem_mem _); rwa [tp_L_get d k hlt] at this))
          by_cases hd1 : (d[k].toNat : Int) < 48
          · clear hd0
            go_wp2
            go_ret2
            exact ⟨tp_ret_int2 HR.out.1.symm HR.out.2.symm, rfl⟩
          · have hd2 : 57 < (d[k].toNat : Int) := by unfold isDig at hd0; omega
            clear hd0
            go_wp2
            go_ret2
            exact ⟨tp_ret_int2 HR.out.1.symm HR.out.2.symm, rfl⟩
      · have HT : Hid (IsT d.data.toList false) := ⟨by rw [← tp_toList_is]; exact HE.out, by have hzz := HZ.out; first | exact hzz | simpa using hzz, L_all d fun j h => hj.out j h (by omega)⟩
        have hk' : (d.size : Int) ≤ (k : Int) := by omega
        go_wp2_with fail
        go_loop [7, 8] (fun n i => ∃ k : Nat, k ≤ d.size ∧ i = .int .i64 k ∧ n = .int .u64 (dval (d.data.toList.take k)) ∧ Hid (19 < d.size → k = 0)) (fun _ i => d.size - (intOf i).toNat)
        case atStart => exact ⟨0, Nat.zero_le _, rfl, by simp [dval], fun _ => rfl⟩
        case round =>
          obtain ⟨q, hq, rfl, rfl, hq0⟩ := hrel
          by_cases h19 : d.size ≤ 19
          · have bd := dval_small _ HT.out.2.2 (by rw [tp_L_len]; exact h19) q (by rw [tp_L_len]; exact hq)
            obtain ⟨u, hu⟩ : ∃ u, dval (d.data.toList.take q) = u := ⟨_, rfl⟩
            rw [hu] at bd
            by_cases hlt2 : q < d.size
            · have dg : isDig d[q] := by have := HT.out.2.2 (d.data.toList[q]'(by rw [tp_L_len]; exact hlt2)) (List.getElem_mem _); rwa [tp_L_get d q hlt2] at this
              have dg1 : 48 ≤ (d[q].toNat : Int) ∧ (d[q].toNat : Int) ≤ 57 := by unfold isDig at dg; omega
              have bd2 := bd.2.2 (by rw [tp_L_len]; exact hlt2)
              have HN := Lib.hid (dval_next d q hlt2)
              have HL := Lib.hid (dval_take_le d.data.toList HT.out.2.2 q (by rw [tp_L_len]; exact hlt2))
              have bd1 := bd.1
              rw [hu]
              have HU := Lib.hid hu
              clear bd dg hu
              by_cases hbig : u ≤ 922337203685477580
              · go_wp2
                go_round
                case rel => exact ⟨q + 1, by omega, by go_num, by rw [HN.out, HU.out], fun h => by omega⟩
                case measure => simp [intOf]; omega
              · have HR := Lib.hid (far_num HT.out (by rw [tp_L_len]; exact h19) (by have := HL.out; rw [HU.out] at this; omega))
                go_wp2
                go_ret2
                exact ⟨tp_ret_int2 HR.out.1.symm HR.out.2.symm, rfl⟩
            · have hv : dval d.data.toList = u := by rw [← hu, show q = d.data.toList.length by rw [tp_L_len]; omega, List.take_length]
              rw [hu]
              have HU := Lib.hid hv
              have bd1 := bd.1
              have bd2 := bd.2.1
              clear bd hv hu
              by_cases hu2 : u ≤ 9223372036854775807
              · have HR := Lib.hid (pv_num HT.out (by rw [tp_L_len]; exact h19))
                have E := Lib.hid (And.intro (nv_yes (n := u) (by omega) (by omega)) (ne_yes (n := u) (by omega) (by omega)))
                go_wp2
                go_ret2
                refine ⟨tp_ret_int2 ?_ ?_, rfl⟩
                · rw [HR.out.1, HU.out, show sd u (mi false) = u from rfl, E.out.1]
                · rw [HR.out.2, HU.out, show sd u (mi false) = u from rfl, E.out.2]
              · have HR := Lib.hid (show pv d.data.toList false = 0 ∧ pe d.data.toList false = 6 by
                  have := pv_num HT.out (by rw [tp_L_len]; exact h19)
                  rw [HU.out, show sd u (mi false) = u from rfl, nv_no (.inr (by omega)), ne_no (.inr (by omega))] at this
                  exact this)
                go_wp2
                go_ret2
                exact ⟨tp_ret_int2 HR.out.1.symm HR.out.2.symm, rfl⟩
          · have h19' : (19 : Int) < (d.size : Int) := by omega
            have hq1 : q = 0 := hq0.out (by omega)
            subst hq1
            have HR := Lib.hid (pv_long HT.out (by rw [tp_L_len]; omega))
            clear h19
            go_wp2
            go_ret2
            exact ⟨tp_ret_int2 HR.out.1.symm HR.out.2.symm, rfl⟩
end Go.Proofs.YtakoghdkllfhlaaDoor

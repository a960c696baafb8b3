/- Tokens: name, number, sizeOfSign, sign. -/
import Derived.Test.YtejpbebfkogmfaaDoorG
namespace Go.Proofs.YtejpbebfkogmfaaDoor
open Go.RowKit

theorem extract_lb (s : ByteArray) (a b : Nat) : lb (s.extract a b) = ((lb s).take b).drop a := by
  show (s.extract a b).data.toList = _
  rw [ByteArray.data_extract, Array.toList_extract, List.drop_take]
theorem extract_bhd (p : Nat → Bool) (s : ByteArray) (a E : Nat) (h : bhd p (lb s) a = E) : s.extract a E = tx (takeP p ((lb s).drop a)) := by
  rw [← take_bhd, h, ← extract_lb]
theorem below_alloc {w : World} {N : Nat} (h : N = w.heap.size) (o : Obj) : Below N w (w.alloc o) := (Below.refl N w).alloc (by omega) o
/-- what name, number, sign leave -/
def NmPost (w : World) (N : Nat) (r : Ending) (e : Ending) (w' : World) : Prop := e = r ∧ Below N w w'
set_option maxHeartbeats 1000000 in
theorem name_any {w : World} {s : ByteArray} {a : Nat} (hT : Tab w) (hs : s.size ≤ 32768) (ha : a ≤ s.size) :
    Calls Tryd.prog 26 #[.string s, .int .i64 a] w (NmPost w w.heap.size (if 24 < (takeP isWord ((lb s).drop a)).length then badT 3 else okT 1 (tx (takeP isWord ((lb s).drop a))) 0 (.slice none 0 0) ((bhd isWord (lb s) a : Nat) : Int))) := by
  obtain ⟨N, hN⟩ : ∃ N, N = w.heap.size := ⟨_, rfl⟩
  have LS : (lb s).length = s.size := L_len s
  have hE1 := bhd_ge isWord (lb s) a
  have hE2 := bhd_le isWord (lb s) a (by omega)
  have hlen : (takeP isWord ((lb s).drop a)).length = bhd isWord (lb s) a - a := by unfold bhd; omega
  have hW := below_alloc hN (.cells tkz 26)
  have HI := behind_any cls3 s a (w.alloc (.cells tkz 26)) (hT.below hW (by rw [hN]; exact hT.1)) hs ha
  have hx := extract_bhd isWord s a _ rfl
  obtain ⟨E, hE⟩ : ∃ E, bhd isWord (lb s) a = E := ⟨_, rfl⟩
  rw [LS] at hE2
  rw [hE] at HI hE1 hE2 hlen hx ⊢
  rw [← hx, hlen]
  have HI := Lib.hid HI
  have HN := Lib.hid hN
  have e1 : (a : Int) ≤ E := by omega
  have e2 : (E : Int) ≤ s.size := by omega
  clear hE hx hlen hW hT LS hN
  by_cases h : 24 < E - a
  · rw [if_pos h]
    have h' : (24 : Int) < (E : Int) - a := by omega
    go_enter Tryd.func26, Tryd.ntmps26
    go_wp2_with fail
    refine HI.out.mono ?_
    rintro e w1 ⟨rfl, rfl⟩
    go_wp2_with fail
    refine bodyPost_ret (v := .tuple #[.agg tkz, .int .i64 0, .int .i64 3]) (by simp [results, Tryd.results26, go_sem]) rfl ?_
    exact ⟨rfl, by rw [← HN.out]; exact below_alloc HN.out _⟩
  · rw [if_neg h]
    have h' : ¬ (24 : Int) < (E : Int) - a := by omega
    go_enter Tryd.func26, Tryd.ntmps26
    go_wp2_with fail
    refine HI.out.mono ?_
    rintro e w1 ⟨rfl, rfl⟩
    go_wp2_with fail
    refine bodyPost_ret (v := .tuple #[.agg (tkc 1 (s.extract a E) 0 (.slice none 0 0) noP), .int .i64 E, .int .i64 0]) (by simp [results, Tryd.results26, go_sem, noP]) rfl ?_
    exact ⟨rfl, by rw [← HN.out]; exact below_alloc HN.out _⟩
set_option maxHeartbeats 1000000 in
theorem number_any {w : World} {s : ByteArray} {a : Nat} (hT : Tab w) (hs : s.size ≤ 32768) (ha : a < s.size) (hd : isDgt (s[a].toNat) = true) :
    Calls Tryd.prog 27 #[.string s, .int .i64 a] w (NmPost w w.heap.size (if pe (takeP isWord ((lb s).drop a)) false = 0 then okT 2 ⟨#[]⟩ (pv (takeP isWord ((lb s).drop a)) false) (.slice none 0 0) ((bhd isWord (lb s) a : Nat) : Int) else badT (pe (takeP isWord ((lb s).drop a)) false))) := by
  obtain ⟨N, hN⟩ : ∃ N, N = w.heap.size := ⟨_, rfl⟩
  have LS : (lb s).length = s.size := L_len s
  have hE1 := bhd_ge isWord (lb s) a
  have hE2 := bhd_le isWord (lb s) a (by omega)
  have hW := below_alloc hN (.cells tkz 26)
  have HI := behind_any cls3 s a (w.alloc (.cells tkz 26)) (hT.below hW (by rw [hN]; exact hT.1)) hs (by omega)
  have hx := extract_bhd isWord s a _ rfl
  have hq : takeP isWord ((lb s).drop a) = s[a] :: takeP isWord ((lb s).drop (a + 1)) := by
    rw [drop_cons2 ha]
    unfold takeP
    rw [List.takeWhile_cons, if_pos (by unfold isWord; rw [hd]; rfl)]
  obtain ⟨E, hE⟩ : ∃ E, bhd isWord (lb s) a = E := ⟨_, rfl⟩
  rw [LS] at hE2
  rw [hE] at HI hE1 hE2 hx ⊢
  have hP := parse_plain (s.extract a E) (w.alloc (.cells tkz 26)) (by rw [ByteArray.size_extract]; omega) (fun h0 => by
    rw [beq_eq_false_iff_ne]
    intro h
    have h1 : (lb (s.extract a E))[0]'(by rw [L_len]; exact h0) = s[a] := by
      have : lb (s.extract a E) = s[a] :: takeP isWord ((lb s).drop (a + 1)) := by rw [hx, ← hq]
      simp only [this, List.getElem_cons_zero]
    rw [lb_get h0] at h1
    rw [h1] at h
    unfold isDgt at hd
    simp only [Bool.and_eq_true, decide_eq_true_eq] at hd
    omega)
  have hlx : lb (s.extract a E) = takeP isWord ((lb s).drop a) := by rw [hx]
  rw [show (s.extract a E).data.toList = takeP isWord ((lb s).drop a) from hlx] at hP
  generalize pv (takeP isWord ((lb s).drop a)) false = V at *
  generalize pe (takeP isWord ((lb s).drop a)) false = Z at *
  have HI := Lib.hid HI
  have HN := Lib.hid hN
  have HP := Lib.hid hP
  have e1 : (a : Int) ≤ E := by omega
  have e2 : (E : Int) ≤ s.size := by omega
  clear hE hx hW hT LS hN hP hq hlx hd
  by_cases h : Z = 0
  · rw [if_pos h]
    subst h
    go_enter Tryd.func27, Tryd.ntmps27
    go_wp2_with fail
    refine HI.out.mono ?_
    rintro e w1 ⟨rfl, rfl⟩
    go_wp2_with fail
    refine HP.out.mono ?_
    rintro e w1 ⟨rfl, rfl⟩
    go_wp2_with fail
    refine bodyPost_ret (v := .tuple #[.agg (tkc 2 ⟨#[]⟩ V (.slice none 0 0) noP), .int .i64 E, .int .i64 0]) (by simp [results, Tryd.results27, go_sem, noP]) rfl ?_
    exact ⟨rfl, by rw [← HN.out]; exact below_alloc HN.out _⟩
  · rw [if_neg h]
    have h' : (Z != 0) = true := by rw [bne_iff_ne]; exact h
    clear h
    go_enter Tryd.func27, Tryd.ntmps27
    go_wp2_with fail
    refine HI.out.mono ?_
    rintro e w1 ⟨rfl, rfl⟩
    go_wp2_with fail
    refine HP.out.mono ?_
    rintro e w1 ⟨rfl, rfl⟩
    go_wp2_with fail
    refine bodyPost_ret (v := .tuple #[.agg tkz, .int .i64 0, .int .i64 Z]) (by simp [results, Tryd.results27, go_sem]) rfl ?_
    exact ⟨rfl, by rw [← HN.out]; exact below_alloc HN.out _⟩
theorem pre2 (t : ByteArray) : (t.extract 0 (min 2 (t.size : Int)).toNat).toList = (lb t).take 2 := by
  rw [toList_is, show (t.extract 0 (min 2 (t.size : Int)).toNat).data.toList = lb (t.extract 0 (min 2 (t.size : Int)).toNat) from rfl, extract_lb, List.drop_zero]
  have LS : (lb t).length = t.size := L_len t
  rcases Nat.le_total 2 t.size with h | h
  · rw [show (min 2 (t.size : Int)).toNat = 2 by omega]
  · rw [show (min 2 (t.size : Int)).toNat = t.size by omega, List.take_of_length_le (by omega), List.take_of_length_le (by omega)]
theorem sgn_two {t : ByteArray} {x y : UInt8} (h : ((t.extract 0 (min 2 (t.size : Int)).toNat).toList == [x, y]) = true) (hxy : two x y = true) : sgn (lb t) = 2 := by
  have h := eq_of_beq h
  rw [pre2] at h
  obtain ⟨c, d, r, hr⟩ : ∃ c d r, lb t = c :: d :: r := by
    cases hl : lb t with
    | nil => rw [hl] at h; cases h
    | cons c r =>
      cases r with
      | nil => rw [hl] at h; cases h
      | cons d r => exact ⟨c, d, r, rfl⟩
  rw [hr] at h ⊢
  simp only [List.take_succ_cons, List.take_zero, List.cons.injEq, and_true] at h
  obtain ⟨rfl, rfl⟩ := h
  unfold sgn
  simp only
  rw [if_pos hxy]
theorem sgn_one {t : ByteArray} (ht : 0 < t.size) (h0 : ((t.extract 0 (min 2 (t.size : Int)).toNat).toList == [61, 61]) = false) (h1 : ((t.extract 0 (min 2 (t.size : Int)).toNat).toList == [33, 61]) = false) (h2 : ((t.extract 0 (min 2 (t.size : Int)).toNat).toList == [60, 61]) = false) (h3 : ((t.extract 0 (min 2 (t.size : Int)).toNat).toList == [62, 61]) = false) (h4 : ((t.extract 0 (min 2 (t.size : Int)).toNat).toList == [38, 38]) = false) (h5 : ((t.extract 0 (min 2 (t.size : Int)).toNat).toList == [124, 124]) = false) (h6 : ((t.extract 0 (min 2 (t.size : Int)).toNat).toList == [61, 62]) = false) : sgn (lb t) = if isMark (t[0].toNat) then 1 else 0 := by
  rw [pre2] at h0 h1 h2 h3 h4 h5 h6
  have hc := drop_cons2 (s := t) (a := 0) ht
  rw [List.drop_zero] at hc
  rw [hc] at h0 h1 h2 h3 h4 h5 h6 ⊢
  cases hr : (lb t).drop (0 + 1) with
  | nil => rfl
  | cons d r =>
    rw [hr] at h0 h1 h2 h3 h4 h5 h6
    simp only [List.take_succ_cons, List.take_zero, List.cons_beq_cons, BEq.rfl, Bool.and_true] at h0 h1 h2 h3 h4 h5 h6
    have key : two t[0] d = false := by
      unfold two
      rw [h0, h1, h2, h3, h4, h5, h6]
      rfl
    unfold sgn
    simp only [key]
    rfl
set_option maxHeartbeats 2000000 in
theorem size_any (t : ByteArray) (ht : 0 < t.size) (hs : t.size ≤ 40000) (w : World) (hT : Tab w) : Calls Tryd.prog 34 #[.string t] w (IsN w (sgn (lb t))) := by
  have C := in_any cls4 (t[0].toNat) (u8_lt _) w hT
  have ht' : 0 < (t.size : Int) := by omega
  have g1 : (min 2 (t.size : Int)).toNat ≤ t.size := by omega
  have g2 : 0 ≤ min 2 (t.size : Int) := by omega
  have g3 : min 2 (t.size : Int) ≤ t.size := by omega
  cases h0 : ((t.extract 0 (min 2 (t.size : Int)).toNat).toList == [61, 61]) with
  | true =>
    have HS := Lib.hid (sgn_two h0 (by decide))
    clear C
    go_enter Tryd.func34, Tryd.ntmps34
    go_wp2_with fail
    go_ret
    exact ⟨ret_nat HS.out.symm, rfl⟩
  | false =>
    cases h1 : ((t.extract 0 (min 2 (t.size : Int)).toNat).toList == [33, 61]) with
    | true =>
      have HS := Lib.hid (sgn_two h1 (by decide))
      clear C
      go_enter Tryd.func34, Tryd.ntmps34
      go_wp2_with fail
      go_ret
      exact ⟨ret_nat HS.out.symm, rfl⟩
    | false =>
      cases h2 : ((t.extract 0 (min 2 (t.size : Int)).toNat).toList == [60, 61]) with
      | true =>
        have HS := Lib.hid (sgn_two h2 (by decide))
        clear C
        go_enter Tryd.func34, Tryd.ntmps34
        go_wp2_with fail
        go_ret
        exact ⟨ret_nat HS.out.symm, rfl⟩
      | false =>
        cases h3 : ((t.extract 0 (min 2 (t.size : Int)).toNat).toList == [62, 61]) with
        | true =>
          have HS := Lib.hid (sgn_two h3 (by decide))
          clear C
          go_enter Tryd.func34, Tryd.ntmps34
          go_wp2_with fail
          go_ret
          exact ⟨ret_nat HS.out.symm, rfl⟩
        | false =>
          cases h4 : ((t.extract 0 (min 2 (t.size : Int)).toNat).toList == [38, 38]) with
          | true =>
            have HS := Lib.hid (sgn_two h4 (by decide))
            clear C
            go_enter Tryd.func34, Tryd.ntmps34
            go_wp2_with fail
            go_ret
            exact ⟨ret_nat HS.out.symm, rfl⟩
          | false =>
            cases h5 : ((t.extract 0 (min 2 (t.size : Int)).toNat).toList == [124, 124]) with
            | true =>
              have HS := Lib.hid (sgn_two h5 (by decide))
              clear C
              go_enter Tryd.func34, Tryd.ntmps34
              go_wp2_with fail
              go_ret
              exact ⟨ret_nat HS.out.symm, rfl⟩
            | false =>
              cases h6 : ((t.extract 0 (min 2 (t.size : Int)).toNat).toList == [61, 62]) with
              | true =>
                have HS := Lib.hid (sgn_two h6 (by decide))
                clear C
                go_enter Tryd.func34, Tryd.ntmps34
                go_wp2_with fail
                go_ret
                exact ⟨ret_nat HS.out.symm, rfl⟩
              | false =>
                have HS := Lib.hid (sgn_one ht h0 h1 h2 h3 h4 h5 h6)
                cases hm : isMark (t[0].toNat) with
                | true =>
                  rw [hm] at HS C
                  have HC := Lib.hid C
                  clear hm C
                  go_enter Tryd.func34, Tryd.ntmps34
                  go_wp2_with fail
                  refine HC.out.mono ?_
                  rintro e w1 ⟨rfl, rfl⟩
                  go_wp2_with fail
                  go_ret
                  exact ⟨ret_nat HS.out.symm, rfl⟩
                | false =>
                  rw [hm] at HS C
                  have HC := Lib.hid C
                  clear hm C
                  go_enter Tryd.func34, Tryd.ntmps34
                  go_wp2_with fail
                  refine HC.out.mono ?_
                  rintro e w1 ⟨rfl, rfl⟩
                  go_wp2_with fail
                  go_ret
                  exact ⟨ret_nat HS.out.symm, rfl⟩
end Go.Proofs.YtejpbebfkogmfaaDoor

/- The reader of package code: text; the reference's GetStr. -/
import Derived.Test.YtakoghdkllfhlaaDoorRc
import Derived.Laws.BytesArg
namespace Go.Proofs.YtakoghdkllfhlaaDoor
open Go.RowKit Go.Lib

theorem conv_bytes {n : Nat} {w : World} {b off cap : Nat} {M : List Nat} (h : Bts n w (some ⟨b, off, none⟩) cap M) {j m : Nat} (hj : j + m ≤ M.length) :
    (convert 49 9 (.slice (if cap = j then some ⟨b, off, none⟩ else some ⟨b, off + j, none⟩) m (cap - j))).run Tryd.prog w = .ok (.string (bs ((M.drop j).take m))) w := by
  have key : ∀ o', (∀ i, i < m → w.cell? ⟨b, o' + i, none⟩ = some (.int .u8 ((((M.drop j).take m).map Int.ofNat).getD i 0))) → (convert 49 9 (.slice (some ⟨b, o', none⟩) m (cap - j))).run Tryd.prog w = .ok (.string (bs ((M.drop j).take m))) w := fun o' hc => by
    rw [run_convert_bytes_arg w 49 5 Tryd.underlying49 Tryd.underlying5 b o' m (cap - j) (((M.drop j).take m).map Int.ofNat) (by simp; omega) hc 9 Tryd.underlying9]
    unfold strOfNums bs
    simp only [List.map_map]
    rfl
  by_cases hc : cap = j
  · have l1 := h.row.1
    rw [if_pos hc]
    exact key off fun i hi => by omega
  · rw [if_neg hc]
    refine key _ fun i hi => ?_
    obtain ⟨b', off', e, _, c⟩ := h.at (j := j + i) (by omega)
    injection e with e
    injection e with e1 e2
    subst e1 e2
    rw [Nat.add_assoc, c]
    have e2 : ((((M.drop j).take m).map Int.ofNat).getD i 0) = ((M.getD (j + i) 0 : Nat) : Int) := by
      rw [List.getD_eq_getElem?_getD, List.getD_eq_getElem?_getD, List.getElem?_map, List.getElem?_take, if_pos hi, List.getElem?_drop]
      cases M[j + i]? <;> rfl
    rw [e2]
theorem gs_err : ∀ (M : List Nat) (i e : Nat), gs i M = .error e → e = 2 ∨ e = 4 := by
  intro M
  induction M with
  | nil => intro i e h; simp [gs] at h; omega
  | cons c r ih =>
    intro i e h
    rw [gs] at h
    split at h
    · cases h; exact .inr rfl
    · split at h
      · split at h
        · cases h; exact .inr rfl
        · cases h
      · split at h
        · cases h
        · rename_i e' he
          cases h
          exact ih _ _ he
theorem gstr_err {M : List Nat} {m e : Nat} (h : gstr M m = .error e) : e = 2 ∨ e = 3 ∨ e = 4 := by
  unfold gstr at h
  split at h
  · rename_i e' he
    cases h
    rcases gs_err _ _ _ he with h | h <;> omega
  · split at h
    · cases h; omega
    · split at h
      · cases h; omega
      · cases h
/-- a text, as an answer -/
def strV (r : Except Nat (ByteArray × Nat)) : Ending := match r with
  | .ok (s, _) => .returned (.tuple #[.string s, .int .i64 0])
  | .error e => .returned (.tuple #[.string ⟨#[]⟩, .int .i64 e])
def usedS (r : Except Nat (ByteArray × Nat)) (at' x : Nat) : Prop := match r with
  | .ok (_, k) => x = at' + k
  | .error _ => True
set_option maxHeartbeats 1000000 in
theorem text_any {rb : Nat} {o : Option Addr} {cap : Nat} {M : List Nat} {at' wt : Nat} {w : World} (R : Rdr w rb o cap M at' wt) :
    Calls Tryd.prog 119 #[.pointer (some ⟨rb, 0, none⟩), .int .i64 24] w fun e w' => ∃ x, e = strV (gstr (M.drop at') 24) ∧ usedS (gstr (M.drop at') 24) at' x ∧ Rd w rb o cap M x wt w' := by
  have S := short_any R
  have hM : ∀ c, c ∈ M.drop at' → c < 256 := fun c hc => R.B.b c (List.mem_of_mem_drop hc)
  have hlen : (M.drop at').length = M.length - at' := List.length_drop
  have le := R.le
  have l1 := R.B.row.1
  have l2 := R.B.row.2.1
  unfold maxLen at l2
  cases hg : gs 0 (M.drop at') with
  | error x =>
    have hs : gstr (M.drop at') 24 = .error x := by unfold gstr; rw [hg]
    have hx : ((x : Int) != 0) = true := by rw [bne_iff_ne]; have := gs_err _ _ _ hg; omega
    rw [hg] at S
    rw [hs]
    have HS := Lib.hid S
    clear S R hg hM hs hlen
    go_enter Tryd.func119, Tryd.ntmps119
    go_wp2_with fail
    refine HS.out.mono ?_
    rintro e w1 ⟨rfl, hR⟩
    have HR := Lib.hid hR
    clear hR
    unfold shV
    go_wp2_with fail
    go_ret2
    exact ⟨_, rfl, trivial, HR.out⟩
  | ok p =>
    obtain ⟨n, k⟩ := p
    obtain ⟨hk, hk0⟩ := gs_ok hg
    have hb := gs_bd hM 0 n k (by omega) hg
    rw [hlen] at hk
    rw [hg] at S
    by_cases h1 : 24 < n
    · have hs : gstr (M.drop at') 24 = .error 3 := by unfold gstr; rw [hg]; simp only; rw [if_pos h1]
      rw [hs]
      have HS := Lib.hid S
      clear S R hg hM hs hlen
      go_enter Tryd.func119, Tryd.ntmps119
      go_wp2_with fail
      refine HS.out.mono ?_
      rintro e w1 ⟨rfl, hR⟩
      have HR := Lib.hid hR
      clear hR
      unfold shV
      go_wp2_with fail
      go_ret2
      exact ⟨_, rfl, trivial, HR.out⟩
    · by_cases h2 : M.length - at' - k < n
      · have hs : gstr (M.drop at') 24 = .error 2 := by unfold gstr; rw [hg]; simp only; rw [if_neg h1, if_pos (by rw [hlen]; exact h2)]
        rw [hs]
        have HS := Lib.hid S
        clear S R hg hM hs hlen
        go_enter Tryd.func119, Tryd.ntmps119
        go_wp2_with fail
        refine HS.out.mono ?_
        rintro e w1 ⟨rfl, hR⟩
        have HR := Lib.hid hR
        obtain ⟨x0, x1, x2, x3, x4, x5⟩ := hR.r.rc
        clear hR
        unfold shV
        unfold used at x1
        go_wp2_with fail
        go_quiet (fail)
        go_wp2_with fail
        go_ret2
        exact ⟨_, rfl, trivial, HR.out.r.kept (below_drewN (Below.refl (rb + 1) w1) _) (Nat.lt_succ_self _), HR.out.x.trans (Exc.of_below (below_drewN (Below.refl _ w1) _))⟩
      · have hs : gstr (M.drop at') 24 = .ok (bs (((M.drop at').drop k).take n), k + n) := by unfold gstr; rw [hg]; simp only; rw [if_neg h1, if_neg (by rw [hlen]; exact h2)]
        rw [List.drop_drop] at hs
        rw [hs]
        have HS := Lib.hid S
        clear S R hg hM hs hlen
        go_enter Tryd.func119, Tryd.ntmps119
        go_wp2_with fail
        refine HS.out.mono ?_
        rintro e w1 ⟨rfl, hR⟩
        have HR := Lib.hid hR
        obtain ⟨x0, x1, x2, x3, x4, x5⟩ := hR.r.rc
        clear hR
        unfold shV
        unfold used at x1
        go_wp2_with fail
        go_quiet (fail)
        go_wp2_with fail
        have HR2 : Hid (Rd w rb o cap M (at' + k + n) wt ((w1.drewN nq).setCell ⟨rb, 1, none⟩ (.int .i64 ((at' : Int) + k + n)))) :=
          ⟨(HR.out.r.kept (below_drewN (Below.refl (rb + 1) w1) nq) (Nat.lt_succ_self _)).set1 (by omega) (by have := HR.out.r.wle; rw [show used (.ok (n, k)) = k from rfl] at this; omega) (congrArg _ (by omega)), (HR.out.x.trans (Exc.of_below (below_drewN (Below.refl _ w1) nq))).trans exc_set⟩
        clear x0 x1 x2 x3 x4 x5 HR
        generalize (w1.drewN nq).setCell _ _ = w2 at *
        obtain ⟨x0, x1, x2, x3, x4, x5⟩ := HR2.out.r.rc
        cases o with
        | none => have := HR2.out.r.B.nil.2; subst this; simp at hk; omega
        | some a =>
          have hsp := HR2.out.r.B.sp a rfl
          obtain ⟨b, off, spot⟩ := a
          simp only at hsp
          subst hsp
          have kc := fun q => conv_bytes (HR2.out.r.B.kept (below_drewN (Below.refl rb w2) q)) (j := at' + k) (m := n) (by omega)
          go_quiet (fail)
          go_wp2_with fail
          all_goals
            go_ret2
            first
              | exact ⟨rfl, at' + k + n, (Nat.add_assoc at' k n : at' + k + n = at' + (k + n)), HR2.out.r.kept (below_drewN (Below.refl (rb + 1) w2) _) (Nat.lt_succ_self _), HR2.out.x.trans (Exc.of_below (below_drewN (Below.refl _ w2) _))⟩
              | (have hh : cap = at' + k := by assumption
                 subst hh
                 exact ⟨rfl, at' + k + n, (Nat.add_assoc at' k n : at' + k + n = at' + (k + n)), HR2.out.r.kept (below_drewN (Below.refl (rb + 1) w2) _) (Nat.lt_succ_self _), HR2.out.x.trans (Exc.of_below (below_drewN (Below.refl _ w2) _))⟩)
/-- a text and how many bytes it took, as an answer -/
def rstrV (r : Except Nat (ByteArray × Nat)) : Ending := match r with
  | .ok (s, k) => .returned (.tuple #[.string s, .int .i64 k, .int .i64 0])
  | .error e => .returned (.tuple #[.string ⟨#[]⟩, .int .i64 0, .int .i64 e])
set_option maxHeartbeats 1000000 in
theorem rgetStr_any {n : Nat} {o : Option Addr} {cap : Nat} {M : List Nat} {w : World} (B : Bts n w o cap M) :
    Calls Tryd.prog 60 #[.slice o M.length cap, .int .i64 24] w fun e w' => e = rstrV (gstr M 24) ∧ ∃ m, w' = w.drewN m := by
  have S := rgetShort_any B
  have HB := Lib.hid B
  have l1 := B.row.1
  have l2 := B.row.2.1
  unfold maxLen at l2
  cases hg : gs 0 M with
  | error x =>
    have HQ : Hid (gstr M 24 = .error x) := by unfold Hid gstr; rw [hg]
    have hx : ((x : Int) != 0) = true := by rw [bne_iff_ne]; have := gs_err _ _ _ hg; omega
    rw [hg] at S
    have HS := Lib.hid S
    clear S B hg
    go_enter Tryd.func60, Tryd.ntmps60
    go_wp2_with fail
    refine HS.out.mono ?_
    rintro e w1 ⟨rfl, m, rfl⟩
    unfold gsV
    go_wp2_with fail
    go_ret3
    exact ⟨by rw [HQ.out]; rfl, m, rfl⟩
  | ok p =>
    obtain ⟨n', k⟩ := p
    obtain ⟨hk, hk0⟩ := gs_ok hg
    have hb := gs_bd B.b 0 n' k (by omega) hg
    rw [hg] at S
    have HS := Lib.hid S
    by_cases h1 : 24 < n'
    · have HQ : Hid (gstr M 24 = .error 3) := by unfold Hid gstr; rw [hg]; simp only; rw [if_pos h1]
      clear S B hg
      go_enter Tryd.func60, Tryd.ntmps60
      go_wp2_with fail
      refine HS.out.mono ?_
      rintro e w1 ⟨rfl, m, rfl⟩
      unfold gsV
      go_wp2_with fail
      go_ret3
      exact ⟨by rw [HQ.out]; rfl, m, rfl⟩
    · by_cases h2 : M.length - k < n'
      · have HQ : Hid (gstr M 24 = .error 2) := by unfold Hid gstr; rw [hg]; simp only; rw [if_neg h1, if_pos h2]
        clear S B hg
        go_enter Tryd.func60, Tryd.ntmps60
        go_wp2_with fail
        refine HS.out.mono ?_
        rintro e w1 ⟨rfl, m, rfl⟩
        unfold gsV
        go_wp2_with fail
        go_ret3
        exact ⟨by rw [HQ.out]; rfl, m, rfl⟩
      · have HQ : Hid (gstr M 24 = .ok (bs ((M.drop k).take n'), k + n')) := by unfold Hid gstr; rw [hg]; simp only; rw [if_neg h1, if_neg h2]
        cases o with
        | none => have := B.nil.2; subst this; simp at hk; omega
        | some a =>
          have hsp := B.sp a rfl
          obtain ⟨b, off, spot⟩ := a
          simp only at hsp
          subst hsp
          have kc := fun m => conv_bytes (B.kept (below_drewN (Below.refl n w) m)) (j := k) (m := n') (by omega)
          clear S B hg
          go_enter Tryd.func60, Tryd.ntmps60
          go_wp2_with fail
          refine HS.out.mono ?_
          rintro e w1 ⟨rfl, m, rfl⟩
          unfold gsV
          go_wp2_with fail
          all_goals
            go_ret3
            exact ⟨by rw [HQ.out]; rfl, m, rfl⟩
end Go.Proofs.YtakoghdkllfhlaaDoor

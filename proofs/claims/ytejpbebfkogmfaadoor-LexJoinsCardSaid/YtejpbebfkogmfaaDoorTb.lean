/- Of tokens: how each begins; All of whatever text. -/
import Derived.Test.YtejpbebfkogmfaaDoorTa
namespace Go.Proofs.YtejpbebfkogmfaaDoor
open Go.RowKit

/-- how a token begins -/
def wrd (t : Tkn) : List UInt8 := if t.k = 1 ∨ t.k = 4 then t.s else if t.k = 2 then Lib.itoa t.n else if t.k = 3 then [34] else []
theorem pe_ok {l : List UInt8} (h : pe l false = 0) : IsT l false ∧ pv l false = dval l ∧ 0 ≤ dval l ∧ dval l ≤ 9223372036854775807 := by
  by_cases ht : IsT l false
  · by_cases h19 : l.length ≤ 19
    · obtain ⟨h1, h2⟩ := pv_num ht h19
      rw [h] at h2
      have hb := dval_bd l ht.2.2
      have e : sd (dval l) (mi false) = dval l := rfl
      rw [e] at h1 h2
      have hin : inI (dval l) = true := by
        unfold ne at h2
        split at h2
        · assumption
        · cases h2
      refine ⟨ht, ?_, hb.1, ?_⟩
      · rw [h1]; unfold nv; rw [if_pos hin]
      · unfold inI at hin
        simp only [decide_eq_true_eq] at hin
        omega
    · rw [(pv_long ht (by omega)).2] at h; cases h
  · rw [(pv_form ht).2] at h; cases h
theorem tokL_word {p : Plc} {c : UInt8} {r x : List UInt8} {t : Tkn} (h : tokL p (c :: r) = .ok (t, x)) : (c :: r).take (wrd t).length = wrd t ∧ t.k ≤ 4 ∧ -9223372036854775808 ≤ t.n ∧ t.n ≤ 9223372036854775807 := by
  rw [← tokL_eq] at h
  have pre : (c :: r).take (takeP isWord (c :: r)).length = takeP isWord (c :: r) := by
    have h1 := take_dropP isWord (c :: r)
    generalize takeP isWord (c :: r) = a at *
    generalize dropP isWord (c :: r) = b at *
    rw [← h1, List.take_left]
  split at h
  · split at h
    · cases h
    · simp only [Except.ok.injEq, Prod.mk.injEq] at h
      obtain ⟨rfl, -⟩ := h
      exact ⟨pre, by simp, by simp, by simp⟩
  · split at h
    · split at h
      · rename_i h0
        simp only [Except.ok.injEq, Prod.mk.injEq] at h
        obtain ⟨rfl, -⟩ := h
        obtain ⟨h1, h2, h3, h4⟩ := pe_ok h0
        refine ⟨?_, by simp, by simp only; omega, by simp only; omega⟩
        have hw : wrd ⟨2, [], pv (takeP isWord (c :: r)) false, [], p⟩ = takeP isWord (c :: r) := by
          unfold wrd
          simp only
          rw [if_neg (by decide), if_pos trivial, h2]
          unfold Lib.itoa
          rw [if_neg (by omega)]
          exact dec_dval _ _ rfl h1
        rw [hw]; exact pre
      · cases h
    · split at h
      · rename_i hc
        subst hc
        cases hs : strL (r.length + 1) r (p.step 34) [] [] 0 with
        | none => rw [hs] at h; cases h
        | some S =>
          obtain ⟨a, m, y⟩ := S
          rw [hs] at h
          unfold strE at h
          simp only at h
          split at h
          · cases h
          · simp only [Except.ok.injEq, Prod.mk.injEq] at h
            obtain ⟨rfl, -⟩ := h
            exact ⟨rfl, by simp, by simp, by simp⟩
      · split at h
        · cases h
        · simp only [Except.ok.injEq, Prod.mk.injEq] at h
          obtain ⟨rfl, -⟩ := h
          refine ⟨?_, by simp, by simp, by simp⟩
          show (c :: r).take ((c :: r).take (sgn (c :: r))).length = (c :: r).take (sgn (c :: r))
          have := sgn_le (c :: r)
          rw [List.length_take, Nat.min_eq_left this]
/-- what each token tells -/
structure TW (L : List UInt8) (k : Nat) (t : Tkn) : Prop where
  lo : k ≤ t.p.a
  hi : t.p.a ≤ L.length
  w : (L.drop t.p.a).take (wrd t).length = wrd t
  k4 : t.k ≤ 4
  n1 : -9223372036854775808 ≤ t.n
  n2 : t.n ≤ 9223372036854775807
theorem ts_head {L : List UInt8} {k : Nat} {ts : List Tkn} (h : TS L k ts) : ∃ t us, ts = t :: us ∧ k ≤ t.p.a := by
  cases h with
  | fin => rename_i hk; exact ⟨_, _, rfl, by show k ≤ (plc L L.length).a; rw [plc_a L _ (Nat.le_refl _)]; exact hk⟩
  | tok h1 h2 h3 hp ht hr h => exact ⟨_, _, rfl, by rw [hp, plc_a L _ (by omega)]; exact h1⟩
theorem ts_get {L : List UInt8} {k : Nat} {ts : List Tkn} (h : TS L k ts) : ∀ i t, ts[i]? = some t → TW L k t ∧ ∀ u, ts[i + 1]? = some u → t.p.a < u.p.a := by
  induction h with
  | fin k hk =>
    intro i t ht
    cases i with
    | zero =>
      simp only [List.getElem?_cons_zero, Option.some.injEq] at ht
      subst ht
      have e := plc_a L _ (Nat.le_refl L.length)
      exact ⟨⟨by show k ≤ (plc L L.length).a; omega, by show (plc L L.length).a ≤ _; omega, rfl, by simp, by simp, by simp⟩, fun u hu => by simp at hu⟩
    | succ i => simp at ht
  | @tok k j z t r ts h1 h2 h3 hp htk hr hts ih =>
    intro i u hu
    have ea : t.p.a = j := by rw [hp, plc_a L j (by omega)]
    cases i with
    | zero =>
      simp only [List.getElem?_cons_zero, Option.some.injEq] at hu
      subst hu
      have hw : (L.drop t.p.a).take (wrd t).length = wrd t ∧ t.k ≤ 4 ∧ -9223372036854775808 ≤ t.n ∧ t.n ≤ 9223372036854775807 := by
        rw [ea]
        cases hd : L.drop j with
        | nil => have := congrArg List.length hd; rw [List.length_drop] at this; simp only [List.length_nil] at this; omega
        | cons c x => rw [hd] at htk; exact tokL_word htk
      refine ⟨⟨by omega, by omega, hw.1, hw.2.1, hw.2.2.1, hw.2.2.2⟩, fun v hv => ?_⟩
      obtain ⟨t', us, e, hz⟩ := ts_head hts
      rw [e] at hv
      simp only [List.getElem?_cons_succ, List.getElem?_cons_zero, Option.some.injEq] at hv
      subst hv
      omega
    | succ i =>
      simp only [List.getElem?_cons_succ] at hu
      obtain ⟨q1, q2⟩ := ih i u hu
      exact ⟨⟨by have := q1.lo; omega, q1.hi, q1.w, q1.k4, q1.n1, q1.n2⟩, fun v hv => q2 v (by simpa using hv)⟩
set_option maxHeartbeats 1000000 in
theorem place0_any {pb sb : Nat} {s : ByteArray} {w : World} (P : Pl w pb sb s plc0) (hs : s.size ≤ 9223372036854775807) :
    Calls Tryd.prog 22 #[.int .i64 0, .pointer (some ⟨pb, 0, none⟩), .pointer (some ⟨sb, 0, none⟩)] w fun e w' => e = .returned (pv3 plc0) ∧ Below w.heap.size w w' := by
  have hlt := P.lt
  have hltS := P.ltS
  obtain ⟨N, hN⟩ : ∃ N, N = w.heap.size := ⟨_, rfl⟩
  obtain ⟨w0, hw0⟩ : ∃ w0, w0 = w.alloc (.cells #[.int .i64 0, .int .i64 0, .int .i64 0] 24) := ⟨_, rfl⟩
  have HW : Hid (Below N w w0) := by rw [hw0]; exact below_alloc hN _
  have HP0 := Lib.hid (P.kept HW.out (by omega) (by omega))
  have HRB : Hid (w0.heap[N]? = some (.cells #[.int .i64 0, .int .i64 0, .int .i64 0] 24 (0, 0))) := by rw [hw0, hN]; exact heap_alloc_new _ _
  rw [← hN]
  clear P hlt hltS
  go_enter Tryd.func22, Tryd.ntmps22
  go_upto_region 1 with fail
  rw [← hw0, ← hN]
  clear hw0 hN
  go_loopw [] (fun wr => wr = w0) (fun _ => 0)
  case atStart => rfl
  case round =>
    subst hrel
    obtain ⟨x0, x1, x2, -, -, -, xs, -⟩ := HP0.out.rc
    obtain ⟨r0, r1, r2, g0, g1, g2, lN⟩ := rc3 HRB.out
    dsimp only [plc0] at x0 x1 x2
    have hm : min (0 : Int) s.size = 0 := by omega
    go_wp2_with fail
    refine bodyPost_ret (v := pv3 plc0) (by simp [results, Tryd.results22, go_sem, r0, r1, r2, plc0]) rfl ?_
    exact ⟨rfl, ((HW.out.setCell (p := ⟨N, 0, none⟩) (Nat.le_refl N) _).setCell (p := ⟨N, 1, none⟩) (Nat.le_refl N) _).setCell (p := ⟨N, 2, none⟩) (Nat.le_refl N) _⟩
end Go.Proofs.YtejpbebfkogmfaaDoor

/- The reference's Get, if its get is told. -/
import Derived.Test.YtpmdkekjoocplaaGm
import Derived.Test.YtpmdkekjoocplaaHg
import Derived.Test.YtpmdkekjoocplaaC
namespace Go.Proofs.Ytpmdkekjoocplaa
open Go.RowKit Typ

set_option maxHeartbeats 2000000 in
theorem rGet_any (HR : RHolds 1 (dec tok 8)) {n : Nat} {o : Option Addr} {cap : Nat} {M : List Nat} {w : World} (B : Bts n w o cap M) (hn : n ≤ w.heap.size) (hM : M.length ≤ 50000) :
    Calls Try.prog 8 #[.slice o M.length cap] w (GetPost M w) := by
  have l1 := B.row.1
  have l2 := B.row.2.1
  unfold maxLen at l2
  have HB0 := Lib.hid ((Below.refl w.heap.size w).alloc (Nat.le_refl _) (.cells zero8 30))
  have C0 : Hid ((w.alloc (.cells zero8 30)).heap[w.heap.size]? = some (.cells zero8 30 (0, 0))) := heap_alloc_new _ _
  have HZ : Hid ((w.alloc (.cells zero8 30)).heap.size = w.heap.size + 1) := by simp [Hid]
  have HCall := Lib.hid (HR n o cap M 0 (w.alloc (.cells zero8 30)) (B.kept (HB0.out.mono hn)) (by have := HZ.out; omega) (Nat.zero_le _))
  clear B HR
  go_enter Try.func8, Try.ntmps8
  go_wp2_with fail
  generalize w.alloc _ = w0 at *
  refine HCall.out.mono ?_
  rintro e w1 ⟨b1, k, i, s, oL, nL, cL, oK, nK, cK, tk, to, m, a, e1, rfl, hm⟩
  rw [List.drop_zero] at hm
  have hsz1 := b1.size
  have hz := HZ.out
  have C1 : Hid (w1.heap[w.heap.size]? = some (.cells zero8 30 (0, 0))) := (b1.block _ (by omega)).trans C0.out
  have B2 : Hid (Below w.heap.size w (w1.alloc (.cells #[.int .i64 k, .int .i64 i, .string s, .slice oL nL cL, .slice oK nK cK, .int .i64 tk, .int .i64 to, .bool m] 30))) := (HB0.out.trans (b1.mono (by omega))).alloc (by omega) _
  have C2 : Hid ((w1.alloc (.cells #[.int .i64 k, .int .i64 i, .string s, .slice oL nL cL, .slice oK nK cK, .int .i64 tk, .int .i64 to, .bool m] 30)).heap[w.heap.size]? = some (.cells zero8 30 (0, 0))) := (Below.heap_alloc _ _ _ (by omega)).trans C1.out
  have X2 : Hid ((w1.alloc (.cells #[.int .i64 k, .int .i64 i, .string s, .slice oL nL cL, .slice oK nK cK, .int .i64 tk, .int .i64 to, .bool m] 30)).heap[w1.heap.size]? = some (.cells #[.int .i64 k, .int .i64 i, .string s, .slice oL nL cL, .slice oK nK cK, .int .i64 tk, .int .i64 to, .bool m] 30 (0, 0))) := heap_alloc_new _ _
  have A2 : Hid (Below w1.heap.size w1 (w1.alloc (.cells #[.int .i64 k, .int .i64 i, .string s, .slice oL nL cL, .slice oK nK cK, .int .i64 tk, .int .i64 to, .bool m] 30))) := (Below.refl _ _).alloc (Nat.le_refl _) _
  have HMM := Lib.hid hm
  clear b1 hm
  go_upto_region 2 with fail
  generalize w1.alloc _ = w2 at *
  obtain ⟨y0, y1, y2, y3, y4, y5, y6, y7, z0, z1, z2, z3, z4, z5, z6, z7, zl⟩ := b8_of C2.out
  obtain ⟨q0, q1, q2, q3, q4, q5, q6, q7, -, -, -, -, -, -, -, -, -⟩ := b8_of X2.out
  have hm := HMM.out
  cases hd : dec tok 8 M with
  | error z =>
    rw [hd] at hm
    obtain ⟨rfl, hz0⟩ := hm
    have hz1 : ((z : Int) == 0) = false := by rw [beq_eq_false_iff_ne]; omega
    have hz2 : ((z : Int) != 0) = true := by rw [bne_iff_ne]; omega
    have HQ : Hid (getR M = .error z) := by unfold Hid getR; rw [hd]
    clear hd HMM
    go_wp2_with fail
    refine bodyPost_ret (v := .tuple #[zeroV, .int .i64 0, .int .i64 z]) (by simp [results, Try.results8, go_sem, y0, y1, y2, y3, y4, y5, y6, y7]) rfl ?_
    unfold GetPost
    rw [HQ.out]
    exact ⟨below_set8 B2.out (Nat.le_refl _) _ _ _ _ _ _ _ _, rfl⟩
  | ok p =>
    obtain ⟨V, u⟩ := p
    rw [hd] at hm
    obtain ⟨rfl, rfl, hle, hl⟩ := hm
    have hsV := dec_sz 8 M V u hd
    rw [Nat.zero_add] at hle
    have HL : Hid (Lies w2.heap.size w2 V (vv k i s (.slice oL nL cL) (.slice oK nK cK) tk to m)) := hl.keptP fun b ⟨h1, h2⟩ => ⟨by have := A2.out.size; omega, A2.out.block b h2⟩
    have HL2 := Lib.hid hl
    have HWT : Hid (Calls Try.prog 17 #[vv k i s (.slice oL nL cL) (.slice oK nK cK) tk to m] w2 fun e w' => e = .returned (.int .i64 (weight V)) ∧ Below w2.heap.size w2 w') := rweight_any 60000 (Nat.le_refl _) _ V _ w2 (by omega) HL.out (Nat.le_refl _)
    clear hl
    by_cases hw : 512 < weight V
    · have HQ : Hid (getR M = .error 3) := by unfold Hid getR; rw [hd]; simp only; rw [if_pos hw]
      clear hd HMM
      go_wp2_with fail
      refine HWT.out.mono ?_
      rintro e w3 ⟨rfl, b3⟩
      have B3 := Lib.hid (B2.out.trans (b3.mono B2.out.size))
      have C3 : Hid (w3.heap[w.heap.size]? = some (.cells zero8 30 (0, 0))) := (b3.block _ zl).trans C2.out
      clear b3 y0 y1 y2 y3 y4 y5 y6 y7 z0 z1 z2 z3 z4 z5 z6 z7 zl q0 q1 q2 q3 q4 q5 q6 q7
      obtain ⟨y0, y1, y2, y3, y4, y5, y6, y7, z0, z1, z2, z3, z4, z5, z6, z7, zl⟩ := b8_of C3.out
      go_wp2_with fail
      refine bodyPost_ret (v := .tuple #[zeroV, .int .i64 0, .int .i64 3]) (by simp [results, Try.results8, go_sem, y0, y1, y2, y3, y4, y5, y6, y7]) rfl ?_
      unfold GetPost
      rw [HQ.out]
      exact ⟨below_set8 B3.out (Nat.le_refl _) _ _ _ _ _ _ _ _, rfl⟩
    · have HQ : Hid (getR M = .ok (V, u)) := by unfold Hid getR; rw [hd]; simp only; rw [if_neg hw]
      clear hd HMM
      go_wp2_with fail
      refine HWT.out.mono ?_
      rintro e w3 ⟨rfl, b3⟩
      have B3 := Lib.hid (B2.out.trans (b3.mono B2.out.size))
      have C3 : Hid (w3.heap[w.heap.size]? = some (.cells zero8 30 (0, 0))) := (b3.block _ zl).trans C2.out
      have X3 : Hid (w3.heap[w1.heap.size]? = _) := (b3.block _ (Array.getElem?_eq_some_iff.1 X2.out).1).trans X2.out
      have L3 : Hid (LiesP (fun b => w.heap.size ≤ b ∧ b < w3.heap.size ∧ b ≠ w.heap.size) w3 V (vv k i s (.slice oL nL cL) (.slice oK nK cK) tk to m)) := HL2.out.keptP fun b ⟨h1, h2⟩ => by
        have h5 := A2.out.size
        have h6 := b3.size
        exact ⟨⟨by omega, by omega, by omega⟩, (b3.block b (by omega)).trans (A2.out.block b h2)⟩
      clear b3 y0 y1 y2 y3 y4 y5 y6 y7 z0 z1 z2 z3 z4 z5 z6 z7 zl q0 q1 q2 q3 q4 q5 q6 q7
      obtain ⟨y0, y1, y2, y3, y4, y5, y6, y7, z0, z1, z2, z3, z4, z5, z6, z7, zl⟩ := b8_of C3.out
      obtain ⟨q0, q1, q2, q3, q4, q5, q6, q7, -, -, -, -, -, -, -, -, -⟩ := b8_of X3.out
      go_wp2_with fail
      refine bodyPost_ret (v := .tuple #[vv k i s (.slice oL nL cL) (.slice oK nK cK) tk to m, .int .i64 ((0 + u : Nat) : Int), .int .i64 0]) (by simp [results, Try.results8, go_sem, y0, y1, y2, y3, y4, y5, y6, y7]) rfl ?_
      unfold GetPost
      rw [HQ.out]
      refine ⟨below_set8 B3.out (Nat.le_refl _) _ _ _ _ _ _ _ _, _, by rw [Nat.zero_add], L3.out.keptP fun b ⟨h1, h2, h3⟩ => ⟨⟨h1, by simp; exact h2⟩, heap_set8 h3⟩⟩
end Go.Proofs.Ytpmdkekjoocplaa

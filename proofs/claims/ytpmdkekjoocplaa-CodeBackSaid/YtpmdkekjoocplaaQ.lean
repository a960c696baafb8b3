/- The reference's check: what is unknown; lists and maps. -/
import Derived.Test.YtpmdkekjoocplaaP
namespace Go.Proofs.Ytpmdkekjoocplaa
open Go.RowKit

set_option maxRecDepth 100000 in
set_option maxHeartbeats 4000000 in
theorem rchk_6 (m : Nat) (V : Val) (v : Value) (w : World) (n : Nat) (hk : V.k = 6) (h : Lies n w V v) : Calls Try.prog 19 #[v, .int .i64 ((m + 1 : Nat) : Int)] w fun e w' => e = .returned (.bool (okT (m + 1) V)) ∧ Below w.heap.size w w' := by
  obtain ⟨oL, oK, cL, cK, c, rfl, O⟩ := h.inv
  have l1 := O.L.1
  have l2 := O.L.2.1
  have l3 := O.K.1
  have l4 := O.K.2.1
  have ws := O.ws
  unfold maxLen at l2 l4 ws
  have HK := Lib.hid hk
  rw [hk]
  clear h O hk
  cases ho : Typ.okB V.tk V.to with
  | false =>
    have HO := Lib.hid ho
    clear ho
    have A := Lib.hid (fun w => Typ.rcheck_no V.tk V.to w HO.out)
    go_enter Try.func19, Try.ntmps19
    go_wp2_with (go_at_call 31; refine (A.out _).mono ?_; rintro e w1 ⟨rfl, b1⟩; have B1 := Lib.hid b1; obtain ⟨hc, hf⟩ := bcell b1; have hz : w.heap.size < w1.heap.size := (by have := b1.size; simp at this; omega); clear b1)
    all_goals
      go_ret
      refine ⟨ret_b' (okT_no (ok1_no fun hh => ?_)).symm, ?_⟩
      · obtain ⟨f0, f1, f2, f3, f4, f5, f6, f7, f8, f9, f10⟩ := ok1_facts hh
        have hkk := HK.out
        have := f6 hkk
        rw [HO.out] at this
        cases this
      · first | exact (Below.refl _ _).alloc (Nat.le_refl _) _ | exact (((Below.refl w.heap.size w).alloc (Nat.le_refl _) _).trans (B1.out.mono (by simp)))
  | true =>
    have HO := Lib.hid ho
    clear ho
    have A := Lib.hid (fun w => Typ.rcheck_ok V.tk V.to w HO.out)
    go_enter Try.func19, Try.ntmps19
    go_wp2_with (go_at_call 31; refine (A.out _).mono ?_; rintro e w1 ⟨rfl, b1⟩; have B1 := Lib.hid b1; obtain ⟨hc, hf⟩ := bcell b1; have hz : w.heap.size < w1.heap.size := (by have := b1.size; simp at this; omega); clear b1)
    all_goals
      first
        | (go_ret
           refine ⟨ret_b' (okT_no (ok1_no fun hh => ?_)).symm, (by first | exact (Below.refl _ _).alloc (Nat.le_refl _) _ | exact (((Below.refl w.heap.size w).alloc (Nat.le_refl _) _).trans (B1.out.mono (by simp))))⟩
           obtain ⟨f0, f1, f2, f3, f4, f5, f6, f7, f8, f9, f10⟩ := ok1_facts hh
           have hkk := HK.out
           first | omega | (exfalso; simp_all; done) | (rcases f3 with f3 | f3; omega; simp_all))
        | (have hks : V.ks.length = 0 := by omega
           have hls : V.l.length = 0 := by omega
           have HR : Hid (okT (m + 1) V = true) := okT_flat (ok1_mk (by have := HK.out; omega) (by have := HK.out; omega) (by have := HK.out; omega) (by first | (left; exact HK.out) | (right; assumption)) (by first | omega | (have := emp_size ‹V.s.toList.isEmpty = true›; omega)) (by have := HK.out; first | (left; exact HK.out) | (right; exact ⟨by omega, by omega⟩)) (by intro _; exact HO.out) (by omega) (by omega) (by omega) (by have := HK.out; omega)) hls
           refine wp_loop_rounds 1 ?_
           rw [rounds_succ]
           go_wp2
           refine wp_loop_rounds 1 ?_
           rw [rounds_succ]
           go_wp2
           go_ret
           exact ⟨by rw [HR.out]; rfl, (((Below.refl w.heap.size w).alloc (Nat.le_refl _) _).trans (B1.out.mono (by simp)))⟩)
end Go.Proofs.Ytpmdkekjoocplaa

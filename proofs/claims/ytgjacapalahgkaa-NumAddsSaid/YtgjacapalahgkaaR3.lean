/- Contracts: Sum of the reference, of numbers with unlike signs. -/
import Derived.Test.YtgjacapalahgkaaR
namespace Go.Proofs.Ytgjacapalahgkaa
open Go.ChangeShapes Go.WideShapes Go.ChangeAt Go.RowKit

theorem sgn_subB (s t : Bool) (x y z : Int) (h : (s == t) = false) (hz : z = y - x) : sgn t z = sgn s x + sgn t y := by
  subst hz; cases s <;> cases t <;> simp_all [sgn] <;> omega
theorem sgn_subB' (s t : Bool) (x y z : Int) (h : (s == t) = false) (hz : z = x - y) : sgn s z = sgn s x + sgn t y := by
  subst hz; cases s <;> cases t <;> simp_all [sgn] <;> omega
set_option maxHeartbeats 2000000 in
theorem sum_more (s t : Bool) (a0 a1 a2 a3 a4 b0 b1 b2 b3 b4 : Int) (w : World) (ha0 : Dg a0) (ha1 : Dg a1) (ha2 : Dg a2) (ha3 : Dg a3) (ha4 : Dg a4) (hb0 : Dg b0) (hb1 : Dg b1) (hb2 : Dg b2) (hb3 : Dg b3) (hb4 : Dg b4)
    (hst : (s == t) = false) (hlt : V b0 b1 b2 b3 b4 ≤ V a0 a1 a2 a3 a4) :
    Calls Try.prog 12 #[.agg #[.bool s, .int .u64 a0, .int .u64 a1, .int .u64 a2, .int .u64 a3, .int .u64 a4], .agg #[.bool t, .int .u64 b0, .int .u64 b1, .int .u64 b2, .int .u64 b3, .int .u64 b4]] w
      (SumPost (sgn s (V a0 a1 a2 a3 a4) + sgn t (V b0 b1 b2 b3 b4)) w) := by
  have P := fun w => minus_any a0 a1 a2 a3 a4 b0 b1 b2 b3 b4 w ha0 ha1 ha2 ha3 ha4 hb0 hb1 hb2 hb3 hb4 hlt
  have L := fun w => less_any a0 a1 a2 a3 a4 b0 b1 b2 b3 b4 w ha0 ha1 ha2 ha3 hb0 hb1 hb2 hb3
  rw [decide_eq_false (by omega)] at L
  have HST := Lib.hid hst
  clear hlt ha0 ha1 ha2 ha3 ha4 hb0 hb1 hb2 hb3 hb4
  go_enter Try.func12, Try.ntmps12
  go_wp2_with fail
  refine (L _).mono ?_
  rintro e w1 ⟨rfl, hb1⟩
  have hz1 : w.heap.size + 1 + 1 + 1 ≤ w1.heap.size := by have := hb1.size; simpa using this
  have hc1 : ∀ b o, b < w.heap.size + 1 + 1 + 1 → w1.cell? ⟨b, o, none⟩ = _ := fun b o h => hb1.cell (p := ⟨b, o, none⟩) (by simpa using h)
  have hf1 : ∀ b o, b < w.heap.size + 1 + 1 + 1 → w1.frozen? ⟨b, o, none⟩ = _ := fun b o h => hb1.frozen (p := ⟨b, o, none⟩) (by simpa using h)
  have z0 : w.heap.size < w1.heap.size := by omega
  have z1 : w.heap.size + 1 < w1.heap.size := by omega
  have z2 : w.heap.size + 1 + 1 < w1.heap.size := by omega
  have b1 : Below w.heap.size w w1 := Below.trans (by repeat (with_reducible (first | exact Below.refl _ _ | refine below_drewN ?_ _ | refine Below.drew ?_ | refine Below.alloc_of ?_ rfl _))) (hb1.mono (by simp; omega))
  have HB1 := Lib.hid b1
  clear b1 hb1
  go_wp2_with fail
  go_region_with (go_at_call 29; refine (P _).mono ?_; rintro e w2 ⟨⟨r0, r1, r2, r3, r4, rfl, hr⟩, hb⟩; have Hr := Lib.hid hr; clear hr; have hc : ∀ b o, b < w1.heap.size → w2.cell? ⟨b, o, none⟩ = w1.cell? ⟨b, o, none⟩ := fun b o h => hb.cell (p := ⟨b, o, none⟩) h; have hf : ∀ b o, b < w1.heap.size → w2.frozen? ⟨b, o, none⟩ = w1.frozen? ⟨b, o, none⟩ := fun b o h => hb.frozen (p := ⟨b, o, none⟩) h; have hz : w1.heap.size ≤ w2.heap.size := hb.size)
  all_goals
    go_wp2
    have hr := Hr.out
    refine bodyPost_ret (v := .agg #[.bool s, .int .u64 r0, .int .u64 r1, .int .u64 r2, .int .u64 r3, .int .u64 r4]) (by simp [results, Try.results12, go_sem, hc, hc1, z2]) rfl ⟨⟨_, _, _, _, _, _, rfl, ⟨hr.1, hr.2.1, hr.2.2.1, hr.2.2.2.1, hr.2.2.2.2.1, sgn_subB' _ _ _ _ _ HST.out hr.2.2.2.2.2⟩⟩, ?_⟩
    have b0 : Below w.heap.size w w2 := Below.trans HB1.out (Below.trans (Below.drew (Below.refl _ _)) (hb.mono (by show _ ≤ w1.heap.size; omega)))
    exact Below.set_at (Below.set_at (Below.set_at (Below.set_at (Below.set_at (Below.set_at b0 (by omega) _) (by omega) _) (by omega) _) (by omega) _) (by omega) _) (by omega) _
end Go.Proofs.Ytgjacapalahgkaa

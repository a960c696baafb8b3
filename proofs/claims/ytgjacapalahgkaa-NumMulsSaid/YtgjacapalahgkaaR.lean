/- Contracts: Sum of the reference. -/
import Derived.Test.YtgjacapalahgkaaQ
import Derived.Deep.RegionWith
import Derived.Deep.RegionHeld3
namespace Go.Proofs.Ytgjacapalahgkaa
open Go.ChangeShapes Go.WideShapes Go.ChangeAt Go.RowKit

theorem bcell {W w1 : World} (hb : Below W.heap.size W w1) : (∀ b o, b < W.heap.size → w1.cell? ⟨b, o, none⟩ = W.cell? ⟨b, o, none⟩) ∧ (∀ b o, b < W.heap.size → w1.frozen? ⟨b, o, none⟩ = W.frozen? ⟨b, o, none⟩) :=
  ⟨fun b o h => hb.cell (p := ⟨b, o, none⟩) h, fun b o h => hb.frozen (p := ⟨b, o, none⟩) h⟩
theorem sgn_add (s : Bool) (x y z : Int) (h : z = x + y) : sgn s z = sgn s x + sgn s y := by subst h; cases s <;> simp [sgn]; omega
/-- what Sum tells -/
def SumPost (x : Int) (w : World) (e : Ending) (w' : World) : Prop :=
  (∃ u r0 r1 r2 r3 r4, e = .returned (.agg #[.bool u, .int .u64 r0, .int .u64 r1, .int .u64 r2, .int .u64 r3, .int .u64 r4]) ∧ IsWide u r0 r1 r2 r3 r4 x) ∧ Below w.heap.size w w'
set_option maxHeartbeats 2000000 in
theorem sum_alike (s : Bool) (a0 a1 a2 a3 a4 b0 b1 b2 b3 b4 : Int) (w : World) (ha0 : Dg a0) (ha1 : Dg a1) (ha2 : Dg a2) (ha3 : Dg a3) (ha4 : Dg a4) (hb0 : Dg b0) (hb1 : Dg b1) (hb2 : Dg b2) (hb3 : Dg b3) (hb4 : Dg b4)
    (hs : V a0 a1 a2 a3 a4 + V b0 b1 b2 b3 b4 < 1461501637330902918203684832716283019655932542976) :
    Calls Try.prog 12 #[.agg #[.bool s, .int .u64 a0, .int .u64 a1, .int .u64 a2, .int .u64 a3, .int .u64 a4], .agg #[.bool s, .int .u64 b0, .int .u64 b1, .int .u64 b2, .int .u64 b3, .int .u64 b4]] w
      (SumPost (sgn s (V a0 a1 a2 a3 a4) + sgn s (V b0 b1 b2 b3 b4)) w) := by
  have P := fun w => plus_any a0 a1 a2 a3 a4 b0 b1 b2 b3 b4 w ha0 ha1 ha2 ha3 ha4 hb0 hb1 hb2 hb3 hb4
  have hs' := Lib.hid hs
  clear hs ha0 ha1 ha2 ha3 ha4 hb0 hb1 hb2 hb3 hb4
  have hss : (s == s) = true := by simp
  go_enter Try.func12, Try.ntmps12
  go_wp2
  go_region_with (go_at_call 27; refine (P _).mono ?_; rintro e w1 ⟨⟨r0, r1, r2, r3, r4, rfl, hr⟩, hb⟩; have Hr := Lib.hid hr; clear hr; obtain ⟨hc, hf⟩ := bcell hb; have hz := hb.size)
  all_goals
    go_wp2
    have hr := Hr.out
    refine bodyPost_ret (v := .agg #[.bool s, .int .u64 r0, .int .u64 r1, .int .u64 r2, .int .u64 r3, .int .u64 r4]) (by simp [results, Try.results12, go_sem, hc]) rfl ⟨⟨_, _, _, _, _, _, rfl, ⟨hr.1, hr.2.1, hr.2.2.1, hr.2.2.2.1, hr.2.2.2.2.1, sgn_add _ _ _ _ (hr.2.2.2.2.2 hs'.out)⟩⟩, ?_⟩
    have b0 : Below w.heap.size w w1 := Below.trans (by repeat (with_reducible (first | exact Below.refl _ _ | refine below_drewN ?_ _ | refine Below.drew ?_ | refine Below.alloc_of ?_ rfl _))) (hb.mono (by simp; omega))
    exact Below.set_at (Below.set_at (Below.set_at (Below.set_at (Below.set_at (Below.set_at b0 (by omega) _) (by omega) _) (by omega) _) (by omega) _) (by omega) _) (by omega) _
end Go.Proofs.Ytgjacapalahgkaa

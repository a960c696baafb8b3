/- ValueLess: the reference's Less. -/
import Derived.Test.YtfgkkccgecnchaaLr
namespace Go.Proofs.Ytfgkkccgecnchaa
open Go.RowKit

/-- the reference's Less, if its order is told -/
theorem rless_of {n : Nat} {A B : Val} {a b : Value} {w : World} (h64 : ∀ W, Below w.heap.size w W → Calls Try.prog 64 #[a, b] W fun e w' => e = .returned (.int .i64 (ord A B)) ∧ Below W.heap.size W w') (ha : Lies n w A a) (hb : Lies n w B b) (_hn : n ≤ w.heap.size) : Calls Try.prog 31 #[a, b] w fun e w' => e = .returned (.bool (decide (ord A B < 0))) ∧ Below w.heap.size w w' := by
  obtain ⟨oL, oK, cL, cK, c, rfl, O⟩ := ha.inv
  obtain ⟨oL', oK', cL', cK', c', rfl, O'⟩ := hb.inv
  have HW : Hid (Below w.heap.size w ((w.alloc (bx A oL oK cL cK)).alloc (bx B oL' oK' cL' cK'))) := below22 _ _ _
  have HZ : Hid (((w.alloc (bx A oL oK cL cK)).alloc (bx B oL' oK' cL' cK')).heap.size = w.heap.size + 2) := by simp [Hid]
  have HB := Lib.hid (lie8 w A B oL oK oL' oK' cL cK cL' cK')
  have C : Hid (∀ W, Below w.heap.size w W → Calls Try.prog 64 #[vv A.k A.i A.s (.slice oL A.l.length cL) (.slice oK A.ks.length cK) A.tk A.to A.x, vv B.k B.i B.s (.slice oL' B.l.length cL') (.slice oK' B.ks.length cK') B.tk B.to B.x] W fun e w' => e = .returned (.int .i64 (ord A B)) ∧ Below W.heap.size W w') :=
    h64
  clear ha hb O O'
  generalize ord A B = R at *
  go_enter Try.func31, Try.ntmps31
  go_upto_region 1 with fail
  generalize World.alloc (World.alloc w _) _ = w0 at *
  obtain ⟨⟨x8, x0, x1, x2, x3, x4, x5, x6, x7⟩, ⟨y8, y0, y1, y2, y3, y4, y5, y6, y7⟩⟩ := HB.out
  go_wp2_with fail
  refine (C.out _ HW.out).mono ?_
  rintro e w1 ⟨rfl, b1⟩
  have B1 := Lib.hid (HW.out.trans (b1.mono HW.out.size))
  clear b1 x8 x0 x1 x2 x3 x4 x5 x6 x7 y8 y0 y1 y2 y3 y4 y5 y6 y7
  go_wp2_with fail
  go_ret
  exact ⟨rfl, B1.out⟩
end Go.Proofs.Ytfgkkccgecnchaa

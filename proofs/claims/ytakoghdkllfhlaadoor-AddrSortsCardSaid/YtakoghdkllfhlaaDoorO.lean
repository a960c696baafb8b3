/- An object that came in, opened; the tables of Go's library at the door. -/
import Derived.Test.YtakoghdkllfhlaaDoorF
import Derived.Test.YtakoghdkllfhlaaDoorH
import Derived.Test.YtakoghdkllfhlaaDoorRows
import Derived.ProofKit
import Derived.LaidMore
import Derived.Lib.LaidTab
import Derived.OpenShut
import Derived.Lib.SmallJoins
import Derived.Carry
import Derived.Deep.Slices
import Derived.Stop.Joined
import Derived.Stop.LaidErr
import Derived.ShutString
namespace Go.Proofs.YtakoghdkllfhlaaDoor
open Go.ChangeShapes Go.WideShapes Go.ChangeAt Go.RowKit Go.Joins Go.Deep

theorem own : ownKnob Tryd.prog.godebug = none := by kernel_rfl
theorem laidOut : laidOutB Tryd.prog = true := by kernel_rfl
theorem co26 : Tryd.prog.cellsOf 26 = 6 := by kernel_rfl
theorem co23 : Tryd.prog.cellsOf 23 = 5 := by kernel_rfl
theorem co24 : Tryd.prog.cellsOf 24 = 1 := by kernel_rfl
theorem co9 : Tryd.prog.cellsOf 9 = 1 := by kernel_rfl
theorem co3 : Tryd.prog.cellsOf 3 = 1 := by kernel_rfl
theorem co2 : Tryd.prog.cellsOf 2 = 1 := by kernel_rfl
/-- an object of the program's -/
structure OkObt (o : Obt) : Prop where
  t : o.a.t.size ≤ maxLen
  n : o.a.n.size ≤ maxLen
  kd : (Lit.int .i64 o.a.kd).wf = true
  i : (Lit.int .i64 o.a.i).wf = true
  k : o.a.k.size ≤ maxLen
  N : (Lit.int .u32 o.N).wf = true
theorem OkObt.sm {k : Obt} (h : OkObt k) : Sm k.a := by
  obtain ⟨h1, h2, _, _, h5, _⟩ := h
  unfold maxLen at h1 h2 h5
  exact ⟨by omega, by omega, by omega⟩
theorem OkObt.pos {k : Obt} (h : OkObt k) : 0 ≤ k.N ∧ k.N < 4294967296 := by
  have := h.N
  simp [Lit.wf, IntKind.min, IntKind.max, IntKind.signed, IntKind.bits] at this
  omega
section
variable {H : Type} {enc : TypeId × Value → H} {w : World} {base : Nat} {spare : Nat → Bool} {held : Bool}
set_option maxRecDepth 100000 in
theorem key_trod {fuel : Nat} {cs : List Value} {x : DataW H × List MemPlace} (h : DataW.trod enc Tryd.prog w base spare held fuel 26 cs = some x) :
    ∃ k : Obt, cs = [.string k.a.t, .string k.a.n, .int .i64 k.a.kd, .int .i64 k.a.i, .string k.a.k, .int .u32 k.N] ∧ OkObt k := by
  obtain ⟨xs, n, hfu, _, hlen, hxl, hf⟩ := DataW.trod_struct Tryd.underlying26 h
  rw [co26] at hlen
  match cs, hlen with
  | [c0, c1, c2, c3, c4, c5], _ =>
    have g : ∀ i (hi : i < 2), ∃ y, xs[i]? = some y := fun i hi => ⟨xs[i]'(by rw [hxl]; exact hi), List.getElem?_eq_getElem _⟩
    obtain ⟨y0, e0⟩ := g 0 (by omega)
    obtain ⟨y1, e1⟩ := g 1 (by omega)
    have h0 : DataW.trod enc Tryd.prog w base spare held n 23 (([c0, c1, c2, c3, c4, c5].drop 0).take (Tryd.prog.cellsOf 23)) = some y0 := (hf 0 _ rfl).trans e0
    have h1 : DataW.trod enc Tryd.prog w base spare held n 24 (([c0, c1, c2, c3, c4, c5].drop 5).take (Tryd.prog.cellsOf 24)) = some y1 := (hf 1 _ rfl).trans e1
    simp only [co23, co24, List.drop_zero, List.drop_succ_cons, List.take_succ_cons, List.take_zero] at h0 h1
    obtain ⟨zs, m, _, _, _, hzl, hg⟩ := DataW.trod_struct Tryd.underlying23 h0
    have gz : ∀ i (hi : i < 5), ∃ y, zs[i]? = some y := fun i hi => ⟨zs[i]'(by rw [hzl]; exact hi), List.getElem?_eq_getElem _⟩
    obtain ⟨z0, f0⟩ := gz 0 (by omega)
    obtain ⟨z1, f1⟩ := gz 1 (by omega)
    obtain ⟨z2, f2⟩ := gz 2 (by omega)
    obtain ⟨z3, f3⟩ := gz 3 (by omega)
    obtain ⟨z4, f4⟩ := gz 4 (by omega)
    have t0 : DataW.trod enc Tryd.prog w base spare held m 9 (([c0, c1, c2, c3, c4].drop 0).take (Tryd.prog.cellsOf 9)) = some z0 := (hg 0 _ rfl).trans f0
    have t1 : DataW.trod enc Tryd.prog w base spare held m 9 (([c0, c1, c2, c3, c4].drop 1).take (Tryd.prog.cellsOf 9)) = some z1 := (hg 1 _ rfl).trans f1
    have t2 : DataW.trod enc Tryd.prog w base spare held m 3 (([c0, c1, c2, c3, c4].drop 2).take (Tryd.prog.cellsOf 3)) = some z2 := (hg 2 _ rfl).trans f2
    have t3 : DataW.trod enc Tryd.prog w base spare held m 2 (([c0, c1, c2, c3, c4].drop 3).take (Tryd.prog.cellsOf 2)) = some z3 := (hg 3 _ rfl).trans f3
    have t4 : DataW.trod enc Tryd.prog w base spare held m 9 (([c0, c1, c2, c3, c4].drop 4).take (Tryd.prog.cellsOf 9)) = some z4 := (hg 4 _ rfl).trans f4
    simp only [co9, co3, co2, List.drop_zero, List.drop_succ_cons, List.take_succ_cons, List.take_zero] at t0 t1 t2 t3 t4
    obtain ⟨s0, q0, _, w0⟩ := DataW.trod_string Tryd.underlying9 t0
    obtain ⟨s1, q1, _, w1⟩ := DataW.trod_string Tryd.underlying9 t1
    obtain ⟨i2, q2, _, w2⟩ := DataW.trod_int Tryd.underlying3 t2
    obtain ⟨i3, q3, _, w3⟩ := DataW.trod_int Tryd.underlying2 t3
    obtain ⟨s4, q4, _, w4⟩ := DataW.trod_string Tryd.underlying9 t4
    obtain ⟨i5, q5, _, w5⟩ := DataW.trod_int Tryd.underlying24 h1
    injection q0 with q0 _
    injection q1 with q1 _
    injection q2 with q2 _
    injection q3 with q3 _
    injection q4 with q4 _
    injection q5 with q5 _
    subst q0 q1 q2 q3 q4 q5
    exact ⟨⟨⟨s0, s1, i2, i3, s4⟩, i5⟩, rfl, ⟨w0, w1, w2, w3, w4, w5⟩⟩
set_option maxRecDepth 100000 in
/-- an object that came in -/
theorem open_key {r : Reach} {b0 : Nat} {v : Value} {d : DataW H} {p : List MemPlace} (hv : Value.okWide Tryd.prog w r b0 26 v) (h : DataW.Trod enc Tryd.prog w base spare held 26 v d p) : ∃ k : Obt, v = kv k ∧ OkObt k := by
  obtain ⟨cs, rfl, hsz⟩ := okWide_struct Tryd.underlying26 hv
  obtain ⟨fuel, hf⟩ := h
  obtain ⟨k, e, hk⟩ := key_trod hf
  have : cs = #[.string k.a.t, .string k.a.n, .int .i64 k.a.kd, .int .i64 k.a.i, .string k.a.k, .int .u32 k.N] := by
    apply Array.toList_inj.1; simpa [Value.cells] using e
  exact ⟨k, by rw [this], hk⟩
set_option maxRecDepth 100000 in
/-- a text that came in -/
theorem open_str {r : Reach} {b0 : Nat} {v : Value} {d : DataW H} {p : List MemPlace} (hv : Value.okWide Tryd.prog w r b0 9 v) (h : DataW.Trod enc Tryd.prog w base spare held 9 v d p) : ∃ s : ByteArray, v = .string s ∧ s.size ≤ maxLen := by
  obtain ⟨s, rfl, rfl, rfl, hs⟩ := Go.ChangeMaps.open_string Tryd.underlying9 hv h
  exact ⟨s, rfl, hs⟩
end
end Go.Proofs.YtakoghdkllfhlaaDoor

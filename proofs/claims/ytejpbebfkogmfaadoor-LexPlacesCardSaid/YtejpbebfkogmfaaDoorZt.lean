/- A token that came in, opened. -/
import Derived.Test.YtejpbebfkogmfaaDoorZ
import Derived.Test.YtejpbebfkogmfaaDoorPc
import Derived.Lib.SmallJoins
import Derived.Deep.Slices
namespace Go.Proofs.YtejpbebfkogmfaaDoor
open Go.ChangeShapes Go.WideShapes Go.ChangeAt Go.RowKit Go.Joins Go.Deep

theorem co26 : Tryd.prog.cellsOf 26 = 7 := by kernel_rfl
theorem co39 : Tryd.prog.cellsOf 39 = 5 := by kernel_rfl
theorem co24 : Tryd.prog.cellsOf 24 = 3 := by kernel_rfl
theorem co22 : Tryd.prog.cellsOf 22 = 1 := by kernel_rfl
theorem co9 : Tryd.prog.cellsOf 9 = 1 := by kernel_rfl
theorem co4 : Tryd.prog.cellsOf 4 = 1 := by kernel_rfl
theorem co3 : Tryd.prog.cellsOf 3 = 1 := by kernel_rfl
theorem co2 : Tryd.prog.cellsOf 2 = 1 := by kernel_rfl
theorem choose_lt' {α : Type} [Inhabited α] {n : Nat} {p : Nat → α → Prop} (h : ∀ i, i < n → ∃ x, p i x) : ∃ f : Nat → α, ∀ i, i < n → p i (f i) := by
  have : ∀ i, ∃ x, i < n → p i x := fun i => by
    by_cases hi : i < n
    · obtain ⟨x, hx⟩ := h i hi; exact ⟨x, fun _ => hx⟩
    · exact ⟨default, fun h => absurd h hi⟩
  obtain ⟨f, hf⟩ := Classical.axiomOfChoice this
  exact ⟨f, hf⟩
instance : Inhabited PA := ⟨⟨false, ⟨#[]⟩, 0, 0, 0⟩⟩
section
variable {H : Type} {enc : TypeId × Value → H} {w : World} {base : Nat} {spare : Nat → Bool} {held : Bool}
theorem pos_trod {fuel : Nat} {cs : List Value} {x : DataW H × List MemPlace} (h : DataW.trod enc Tryd.prog w base spare held fuel 24 cs = some x) : ∃ a l c : Int, cs = [.int .i64 a, .int .i64 l, .int .i64 c] := by
  obtain ⟨zs, m, _, _, hlen, hzl, hg⟩ := DataW.trod_struct Tryd.underlying24 h
  rw [co24] at hlen
  match cs, hlen with
  | [c0, c1, c2], _ =>
    have gz : ∀ i (hi : i < 3), ∃ y, zs[i]? = some y := fun i hi => ⟨zs[i]'(by rw [hzl]; exact hi), List.getElem?_eq_getElem _⟩
    obtain ⟨z0, f0⟩ := gz 0 (by omega)
    obtain ⟨z1, f1⟩ := gz 1 (by omega)
    obtain ⟨z2, f2⟩ := gz 2 (by omega)
    have t0 : DataW.trod enc Tryd.prog w base spare held m 3 (([c0, c1, c2].drop 0).take (Tryd.prog.cellsOf 3)) = some z0 := (hg 0 _ rfl).trans f0
    have t1 : DataW.trod enc Tryd.prog w base spare held m 3 (([c0, c1, c2].drop 1).take (Tryd.prog.cellsOf 3)) = some z1 := (hg 1 _ rfl).trans f1
    have t2 : DataW.trod enc Tryd.prog w base spare held m 3 (([c0, c1, c2].drop 2).take (Tryd.prog.cellsOf 3)) = some z2 := (hg 2 _ rfl).trans f2
    simp only [co3, List.drop_zero, List.drop_succ_cons, List.take_succ_cons, List.take_zero] at t0 t1 t2
    obtain ⟨a, q0, _, _⟩ := DataW.trod_int Tryd.underlying3 t0
    obtain ⟨l, q1, _, _⟩ := DataW.trod_int Tryd.underlying3 t1
    obtain ⟨c, q2, _, _⟩ := DataW.trod_int Tryd.underlying3 t2
    injection q0 with q0 _
    injection q1 with q1 _
    injection q2 with q2 _
    subst q0 q1 q2
    exact ⟨a, l, c, rfl⟩
theorem part_trod {fuel : Nat} {cs : List Value} {x : DataW H × List MemPlace} (h : DataW.trod enc Tryd.prog w base spare held fuel 39 cs = some x) : ∃ p : PA, cs = [.bool p.ex, .string p.s, .int .i64 p.a, .int .i64 p.l, .int .i64 p.c] := by
  obtain ⟨zs, m, _, _, hlen, hzl, hg⟩ := DataW.trod_struct Tryd.underlying39 h
  rw [co39] at hlen
  match cs, hlen with
  | [c0, c1, c2, c3, c4], _ =>
    have gz : ∀ i (hi : i < 3), ∃ y, zs[i]? = some y := fun i hi => ⟨zs[i]'(by rw [hzl]; exact hi), List.getElem?_eq_getElem _⟩
    obtain ⟨z0, f0⟩ := gz 0 (by omega)
    obtain ⟨z1, f1⟩ := gz 1 (by omega)
    obtain ⟨z2, f2⟩ := gz 2 (by omega)
    have t0 : DataW.trod enc Tryd.prog w base spare held m 4 (([c0, c1, c2, c3, c4].drop 0).take (Tryd.prog.cellsOf 4)) = some z0 := (hg 0 _ rfl).trans f0
    have t1 : DataW.trod enc Tryd.prog w base spare held m 9 (([c0, c1, c2, c3, c4].drop 1).take (Tryd.prog.cellsOf 9)) = some z1 := (hg 1 _ rfl).trans f1
    have t2 : DataW.trod enc Tryd.prog w base spare held m 24 (([c0, c1, c2, c3, c4].drop 2).take (Tryd.prog.cellsOf 24)) = some z2 := (hg 2 _ rfl).trans f2
    simp only [co4, co9, co24, List.drop_zero, List.drop_succ_cons, List.take_succ_cons, List.take_zero] at t0 t1 t2
    obtain ⟨b, q0, _⟩ := DataW.trod_bool Tryd.underlying4 t0
    obtain ⟨s, q1, _, _⟩ := DataW.trod_string Tryd.underlying9 t1
    obtain ⟨a, l, c, q2⟩ := pos_trod t2
    injection q0 with q0 _
    injection q1 with q1 _
    simp only [List.cons.injEq, and_true] at q2
    obtain ⟨q2, q3, q4⟩ := q2
    subst q0 q1 q2 q3 q4
    exact ⟨⟨b, s, a, l, c⟩, rfl⟩
theorem parts_trod {fuel : Nat} {v : Value} {x : DataW H × List MemPlace} (h : DataW.trod enc Tryd.prog w base spare held fuel 22 [v] = some x) : ∃ (o : Option Addr) (cap : Nat) (ps : List PA), v = .slice o ps.length cap ∧ PR w.heap.size w o cap ps := by
  rcases DataW.trod_slice Tryd.underlying22 h with ⟨hcs, _⟩ | ⟨a, len, cap, elems, rest, n, _, hcs, _, _, hl, hm, hlen, hel, _, _⟩
  · injection hcs with e _
    subst e
    exact ⟨none, 0, [], rfl, Nat.le_refl _, Nat.zero_le _, fun i x h => by simp at h⟩
  · injection hcs with e _
    subst e
    have each : ∀ i, i < len → ∃ p : PA, ∀ m v, ([.bool p.ex, .string p.s, .int .i64 p.a, .int .i64 p.l, .int .i64 p.c] : List Value)[m]? = some v → w.cell? ((a.add (i * 5)).add m) = some v := fun i hi => by
      have h1 := hel i hi
      rw [co39, List.getElem?_eq_getElem (by omega)] at h1
      obtain ⟨cs', h2, h3⟩ := Option.bind_eq_some_iff.1 h1
      obtain ⟨_, h4, h5⟩ := World.cells?_some h2
      obtain ⟨p, hp⟩ := part_trod h3
      subst hp
      refine ⟨p, fun m v hv => ?_⟩
      have hm5 : m < 5 := (List.getElem?_eq_some_iff.1 hv).1
      rw [h5 m hm5]; exact hv
    obtain ⟨f, hf⟩ := choose_lt' each
    have hlr : ((List.range len).map f).length = len := by simp
    refine ⟨some a, cap, (List.range len).map f, by rw [hlr], by rw [hlr]; exact hl, hm, fun i x hx => ?_⟩
    have hi : i < len := by have := (List.getElem?_eq_some_iff.1 hx).1; rwa [hlr] at this
    rw [List.getElem?_map, List.getElem?_range hi] at hx
    simp only [Option.map_some, Option.some.injEq] at hx
    subst hx
    have hsp : a.spot = none := by
      have c0 := hf 0 (by omega) 0 _ rfl
      have : (a.add (0 * 5)).add 0 = a := by unfold Addr.add; simp
      rw [this] at c0
      exact World.cell?_spot c0
    obtain ⟨b, o, spot⟩ := a
    simp only at hsp
    subst hsp
    have ea : ∀ i, (⟨b, o, none⟩ : Addr).add i = ⟨b, o + i, none⟩ := fun i => by unfold Addr.add; split <;> simp_all
    have ea2 : ∀ j m, ((⟨b, o, none⟩ : Addr).add j).add m = ⟨b, o + j + m, none⟩ := fun j m => by rw [ea]; unfold Addr.add; split <;> simp_all
    have g := fun m v hv => (hf i hi m v hv)
    have c0 := g 0 _ rfl
    have c1 := g 1 _ rfl
    have c2 := g 2 _ rfl
    have c3 := g 3 _ rfl
    have c4 := g 4 _ rfl
    rw [ea2] at c0 c1 c2 c3 c4
    exact ⟨b, o, rfl, World.block_lt_of_cell? _ _ c0, c0, c1, c2, c3, c4⟩
set_option maxRecDepth 100000 in
theorem tok_trod {fuel : Nat} {cs : List Value} {x : DataW H × List MemPlace} (h : DataW.trod enc Tryd.prog w base spare held fuel 26 cs = some x) : ∃ A : TA, cs = (tac A).toList ∧ PR w.heap.size w A.o A.cap A.ps := by
  obtain ⟨zs, m, _, _, hlen, hzl, hg⟩ := DataW.trod_struct Tryd.underlying26 h
  rw [co26] at hlen
  match cs, hlen with
  | [c0, c1, c2, c3, c4, c5, c6], _ =>
    have gz : ∀ i (hi : i < 5), ∃ y, zs[i]? = some y := fun i hi => ⟨zs[i]'(by rw [hzl]; exact hi), List.getElem?_eq_getElem _⟩
    obtain ⟨z0, f0⟩ := gz 0 (by omega)
    obtain ⟨z1, f1⟩ := gz 1 (by omega)
    obtain ⟨z2, f2⟩ := gz 2 (by omega)
    obtain ⟨z3, f3⟩ := gz 3 (by omega)
    obtain ⟨z4, f4⟩ := gz 4 (by omega)
    have t0 : DataW.trod enc Tryd.prog w base spare held m 3 (([c0, c1, c2, c3, c4, c5, c6].drop 0).take (Tryd.prog.cellsOf 3)) = some z0 := (hg 0 _ rfl).trans f0
    have t1 : DataW.trod enc Tryd.prog w base spare held m 9 (([c0, c1, c2, c3, c4, c5, c6].drop 1).take (Tryd.prog.cellsOf 9)) = some z1 := (hg 1 _ rfl).trans f1
    have t2 : DataW.trod enc Tryd.prog w base spare held m 2 (([c0, c1, c2, c3, c4, c5, c6].drop 2).take (Tryd.prog.cellsOf 2)) = some z2 := (hg 2 _ rfl).trans f2
    have t3 : DataW.trod enc Tryd.prog w base spare held m 22 (([c0, c1, c2, c3, c4, c5, c6].drop 3).take (Tryd.prog.cellsOf 22)) = some z3 := (hg 3 _ rfl).trans f3
    have t4 : DataW.trod enc Tryd.prog w base spare held m 24 (([c0, c1, c2, c3, c4, c5, c6].drop 4).take (Tryd.prog.cellsOf 24)) = some z4 := (hg 4 _ rfl).trans f4
    simp only [co2, co3, co9, co22, co24, List.drop_zero, List.drop_succ_cons, List.take_succ_cons, List.take_zero] at t0 t1 t2 t3 t4
    obtain ⟨k, q0, _, _⟩ := DataW.trod_int Tryd.underlying3 t0
    obtain ⟨s, q1, _, _⟩ := DataW.trod_string Tryd.underlying9 t1
    obtain ⟨n, q2, _, _⟩ := DataW.trod_int Tryd.underlying2 t2
    obtain ⟨o, cap, ps, q3, hP⟩ := parts_trod t3
    obtain ⟨a, l, c, q4⟩ := pos_trod t4
    injection q0 with q0 _
    injection q1 with q1 _
    injection q2 with q2 _
    simp only [List.cons.injEq, and_true] at q4
    obtain ⟨q4, q5, q6⟩ := q4
    subst q0 q1 q2 q3 q4 q5 q6
    exact ⟨⟨k, s, n, a, l, c, o, cap, ps⟩, rfl, hP⟩
set_option maxRecDepth 100000 in
/-- a token that came in -/
theorem open_tok {r : Reach} {b0 : Nat} {v : Value} {d : DataW H} {p : List MemPlace} (hv : Value.okWide Tryd.prog w r b0 26 v) (h : DataW.Trod enc Tryd.prog w base spare held 26 v d p) : ∃ A : TA, v = tav A ∧ PR w.heap.size w A.o A.cap A.ps := by
  obtain ⟨cs, rfl, hsz⟩ := okWide_struct Tryd.underlying26 hv
  obtain ⟨fuel, hf⟩ := h
  obtain ⟨A, e, hP⟩ := tok_trod hf
  have : cs = tac A := by
    apply Array.toList_inj.1; simpa [Value.cells] using e
  exact ⟨A, by rw [this], hP⟩
/-- a number that came in -/
theorem open_i64 {r : Reach} {b0 : Nat} {v : Value} {d : DataW H} {p : List MemPlace} (hv : Value.okWide Tryd.prog w r b0 3 v) (h : DataW.Trod enc Tryd.prog w base spare held 3 v d p) : ∃ n : Int, v = .int .i64 n ∧ True := by
  obtain ⟨a0, rfl, rfl, rfl, w0⟩ := open_int Tryd.underlying3 hv h
  exact ⟨a0, rfl, trivial⟩
end
end Go.Proofs.YtejpbebfkogmfaaDoor

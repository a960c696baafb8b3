/- awake: the document's examples hold. -/
import Derived.Test.YtfgkkccgecnchaaAg
import Derived.Laws.StructEq
import Derived.Deep.Cut
namespace Go.Proofs.Ytfgkkccgecnchaa
open Go.RowKit

abbrev cell2 (k i : Int) (s : ByteArray) (t1 t2 : Int) (k' i' : Int) (s' : ByteArray) (t1' t2' : Int) : Array Value :=
  #[.int .i64 k, .int .i64 i, .string s, .slice none 0 0, .slice none 0 0, .int .i64 t1, .int .i64 t2, .bool false, .int .i64 k', .int .i64 i', .string s', .slice none 0 0, .slice none 0 0, .int .i64 t1', .int .i64 t2', .bool false]
theorem pair_row (w : World) (k i : Int) (s : ByteArray) (t1 t2 : Int) (k' i' : Int) (s' : ByteArray) (t1' t2' : Int) (h0 : (Lit.int .i64 k).wf = true) (h1 : (Lit.int .i64 i).wf = true) (h2 : (Lit.int .i64 t1).wf = true) (h3 : (Lit.int .i64 t2).wf = true) (h4 : s.size ≤ maxLen)
    (g0 : (Lit.int .i64 k').wf = true) (g1 : (Lit.int .i64 i').wf = true) (g2 : (Lit.int .i64 t1').wf = true) (g3 : (Lit.int .i64 t2').wf = true) (g4 : s'.size ≤ maxLen) :
    Row (w.heap.size + 1) (w.alloc (.cells (cell2 k i s t1 t2 k' i' s' t1' t2') 27)) (some ⟨w.heap.size, 0, none⟩) 2 [flat k i s t1 t2, flat k' i' s' t1' t2'].length 8 (fun j m => (cell2 k i s t1 t2 k' i' s' t1' t2').getD (j * 8 + m) undef) ∧
    ∀ (j : Nat) (x : Val), [flat k i s t1 t2, flat k' i' s' t1' t2'][j]? = some x → Lies (w.heap.size + 1) (w.alloc (.cells (cell2 k i s t1 t2 k' i' s' t1' t2') 27)) x (.agg #[(cell2 k i s t1 t2 k' i' s' t1' t2').getD (j * 8 + 0) undef, (cell2 k i s t1 t2 k' i' s' t1' t2').getD (j * 8 + 1) undef, (cell2 k i s t1 t2 k' i' s' t1' t2').getD (j * 8 + 2) undef, (cell2 k i s t1 t2 k' i' s' t1' t2').getD (j * 8 + 3) undef, (cell2 k i s t1 t2 k' i' s' t1' t2').getD (j * 8 + 4) undef, (cell2 k i s t1 t2 k' i' s' t1' t2').getD (j * 8 + 5) undef, (cell2 k i s t1 t2 k' i' s' t1' t2').getD (j * 8 + 6) undef, (cell2 k i s t1 t2 k' i' s' t1' t2').getD (j * 8 + 7) undef]) := by
  refine ⟨⟨Nat.le_refl _, by unfold maxLen; omega, (fun h => by cases h), fun _ => ?_⟩, fun j x hx => ?_⟩
  · refine ⟨_, _, rfl, Nat.lt_succ_self _, fun j hj m hm => ?_⟩
    rw [cell_of_row _ w.heap.size _ _ 27 (0, 0) (heap_alloc_new w _), Nat.zero_add]
    simp only [List.length_cons, List.length_nil] at hj
    have hlt : j * 8 + m < (cell2 k i s t1 t2 k' i' s' t1' t2').size := by simp; omega
    show _ = some ((cell2 k i s t1 t2 k' i' s' t1' t2').getD (j * 8 + m) undef)
    rw [Array.getElem?_eq_getElem hlt, Array.getD_eq_getD_getElem?, Array.getElem?_eq_getElem hlt]; rfl
  · match j, hx with
    | 0, hx => simp at hx; subst hx; exact flat_lies _ _ h0 h1 h2 h3 h4
    | 1, hx => simp at hx; subst hx; exact flat_lies _ _ g0 g1 g2 g3 g4
    | j + 2, hx => simp at hx
theorem list2 (w : World) (k i : Int) (s : ByteArray) (t1 t2 : Int) (k' i' : Int) (s' : ByteArray) (t1' t2' : Int) (h0 : (Lit.int .i64 k).wf = true) (h1 : (Lit.int .i64 i).wf = true) (h2 : (Lit.int .i64 t1).wf = true) (h3 : (Lit.int .i64 t2).wf = true) (h4 : s.size ≤ maxLen)
    (g0 : (Lit.int .i64 k').wf = true) (g1 : (Lit.int .i64 i').wf = true) (g2 : (Lit.int .i64 t1').wf = true) (g3 : (Lit.int .i64 t2').wf = true) (g4 : s'.size ≤ maxLen) :
    Calls Try.prog 19 #[.slice (some ⟨w.heap.size, 0, none⟩) 2 2] (w.alloc (.cells (cell2 k i s t1 t2 k' i' s' t1' t2') 27)) (CpPost (lst [flat k i s t1 t2, flat k' i' s' t1' t2']) (w.alloc (.cells (cell2 k i s t1 t2 k' i' s' t1' t2') 27))) := by
  obtain ⟨r, e⟩ := pair_row w k i s t1 t2 k' i' s' t1' t2' h0 h1 h2 h3 h4 g0 g1 g2 g3 g4
  exact list_any (by simp [szL, sz, flat]) r e (by simp)
/-- a copy that lies in the world, as a box would hold it -/
theorem CpPost.low {V : Val} {w w' : World} {oL oK : Option Addr} {cL cK : Nat} {c : Nat → Nat → Value} (h : OpnP (Fr w w') w' V oL oK cL cK c) : Opn w'.heap.size w' V oL oK cL cK c := h.mono fun _ hk => hk.2
set_option maxRecDepth 100000 in
set_option maxHeartbeats 4000000 in
theorem awake_any (w : World) : Calls Try.prog 11 #[] w fun e w' => e = .returned (.bool true) ∧ Below w.heap.size w w' := by
  have LA := fun w => list2 w 2 1 ⟨#[]⟩ 0 0 2 2 ⟨#[]⟩ 0 0 rfl rfl rfl rfl (Nat.zero_le _) rfl rfl rfl rfl (Nat.zero_le _)
  have LB := fun w => list2 w 6 0 ⟨#[]⟩ 2 0 2 2 ⟨#[]⟩ 0 0 rfl rfl rfl rfl (Nat.zero_le _) rfl rfl rfl rfl (Nat.zero_le _)
  have LC := fun w => list2 w 2 1 ⟨#[]⟩ 0 0 3 0 ⟨#[97]⟩ 0 0 rfl rfl rfl rfl (Nat.zero_le _) rfl rfl rfl rfl (by decide)
  have SZ : sz exA ≤ 100 ∧ sz exB ≤ 100 ∧ sz exC ≤ 100 := ⟨by decide, by decide, by decide⟩
  have E1 := ex1
  have E2 := ex2
  have E3 := ex3
  have E4 := ex4
  rw [show lst [flat 2 1 ⟨#[]⟩ 0 0, flat 2 2 ⟨#[]⟩ 0 0] = exA from rfl] at LA
  rw [show lst [flat 6 0 ⟨#[]⟩ 2 0, flat 2 2 ⟨#[]⟩ 0 0] = exB from rfl] at LB
  rw [show lst [flat 2 1 ⟨#[]⟩ 0 0, flat 3 0 ⟨#[97]⟩ 0 0] = exC from rfl] at LC
  generalize exA = A at *
  generalize exB = B at *
  generalize exC = C at *
  have H := Lib.hid (And.intro LA (And.intro LB (And.intro LC (And.intro SZ (And.intro E1 (And.intro E2 (And.intro E3 E4)))))))
  clear LA LB LC SZ E1 E2 E3 E4
  go_enter Try.func11, Try.ntmps11
  go_wp2_with fail
  refine (int_any 1 _).mono ?_
  rintro e w1 ⟨rfl, b1⟩
  have B1 := Lib.hid b1
  clear b1
  go_wp2_with fail
  refine (int_any 2 _).mono ?_
  rintro e w2 ⟨rfl, b2⟩
  have B2 := Lib.hid (B1.out.trans (b2.mono B1.out.size))
  clear b2 B1
  go_wp2_with fail
  refine (H.out.1 _).mono ?_
  rintro e w3 ⟨oL, oK, cL, cK, c, rfl, O3, _, _, b3⟩
  have B3 := Lib.hid ((B2.out.alloc B2.out.size _).trans (b3.mono (by have := B2.out.size; simp; omega)))
  have OA := Lib.hid ((CpPost.low O3).kept ((Below.refl w3.heap.size w3).alloc (Nat.le_refl _) (bx A oL oK cL cK)))
  have BA := Lib.hid (Hd.made w3 A (.slice oL A.l.length cL) (.slice oK A.ks.length cK))
  have B4 := Lib.hid (B3.out.alloc B3.out.size (bx A oL oK cL cK))
  have Z4 : Hid ((w3.alloc (bx A oL oK cL cK)).heap.size = w3.heap.size + 1) := by simp [Hid]
  clear b3 O3 B2
  go_wp2_with fail
  generalize w3.alloc _ = w4 at *
  refine (unk_any 2 0 _).mono ?_
  rintro e w5 ⟨rfl, b5⟩
  have B5 := Lib.hid b5
  clear b5
  go_wp2_with fail
  refine (int_any 2 _).mono ?_
  rintro e w6 ⟨rfl, b6⟩
  have B6 := Lib.hid (B5.out.trans (b6.mono B5.out.size))
  clear b6 B5
  go_wp2_with fail
  refine (H.out.2.1 _).mono ?_
  rintro e w7 ⟨oL', oK', cL', cK', c', rfl, O7, _, _, b7⟩
  have B7 := Lib.hid ((B6.out.alloc B6.out.size _).trans (b7.mono (by have := B6.out.size; simp; omega)))
  have OB := Lib.hid ((CpPost.low O7).kept ((Below.refl w7.heap.size w7).alloc (Nat.le_refl _) (bx B oL' oK' cL' cK')))
  have BB := Lib.hid (Hd.made w7 B (.slice oL' B.l.length cL') (.slice oK' B.ks.length cK'))
  have B8 := Lib.hid (B7.out.alloc B7.out.size (bx B oL' oK' cL' cK'))
  have Z8 : Hid ((w7.alloc (bx B oL' oK' cL' cK')).heap.size = w7.heap.size + 1) := by simp [Hid]
  clear b7 O7 B6
  go_upto_region 3 with fail
  generalize w7.alloc _ = w8 at *
  have z4 := Z4.out
  have z8 := Z8.out
  have z7 := B7.out.size
  have OA8 := Lib.hid ((OA.out.kept (B8.out.mono (by omega))).mono (fun k (hk : k < w3.heap.size) => (show k < w7.heap.size by omega)))
  have BA8 := Lib.hid (BA.out.kept B8.out (by omega))
  have HE := Lib.hid (And.intro z4 (And.intro z8 z7))
  clear z4 z8 z7
  obtain ⟨x8, x0, x1, x2, x3, x4, x5, x6, x7⟩ := BA8.out
  obtain ⟨y8, y0, y1, y2, y3, y4, y5, y6, y7⟩ := BB.out
  have C1 := refines_any 1000 w7.heap.size A B _ _ w8 (by have := H.out.2.2.2.1; omega) OA8.out.lies OB.out.lies (by have := HE.out; omega)
  rw [H.out.2.2.2.2.1] at C1
  have C2 := Lib.hid C1
  clear C1
  go_wp2_with fail
  refine C2.out.mono ?_
  rintro e w9 ⟨rfl, b9⟩
  have B9 := Lib.hid b9
  clear b9 x8 x0 x1 x2 x3 x4 x5 x6 x7 y8 y0 y1 y2 y3 y4 y5 y6 y7 C2
  obtain ⟨x8, x0, x1, x2, x3, x4, x5, x6, x7⟩ := BA8.out.kept B9.out (by have := HE.out; omega)
  obtain ⟨y8, y0, y1, y2, y3, y4, y5, y6, y7⟩ := BB.out.kept B9.out (by have := HE.out; omega)
  have C1 := refines_any 1000 w7.heap.size B A _ _ w9 (by have := H.out.2.2.2.1; omega) (OB.out.kept (B9.out.mono (by have := HE.out; omega))).lies (OA8.out.kept (B9.out.mono (by have := HE.out; omega))).lies (by have := HE.out; have := B9.out.size; omega)
  rw [H.out.2.2.2.2.2.1] at C1
  have C2 := Lib.hid C1
  clear C1
  go_wp2_with fail
  refine C2.out.mono ?_
  rintro e w10 ⟨rfl, b10⟩
  have B10 := Lib.hid (B9.out.trans (b10.mono B9.out.size))
  clear b10 x8 x0 x1 x2 x3 x4 x5 x6 x7 y8 y0 y1 y2 y3 y4 y5 y6 y7 C2
  go_wp2_with fail
  refine (int_any 1 _).mono ?_
  rintro e w11 ⟨rfl, b11⟩
  have B11 := Lib.hid (B10.out.trans (b11.mono B10.out.size))
  clear b11
  go_wp2_with fail
  refine (str_any _ _).mono ?_
  rintro e w12 ⟨rfl, b12⟩
  have B12 := Lib.hid (B11.out.trans (b12.mono B11.out.size))
  clear b12
  go_wp2_with fail
  refine (H.out.2.2.1 _).mono ?_
  rintro e w13 ⟨oL2, oK2, cL2, cK2, c2, rfl, O13, _, _, b13⟩
  have B13 := Lib.hid ((B12.out.alloc B12.out.size _).trans (b13.mono (by have := B12.out.size; simp; omega)))
  have C1 := typeOf_any 1000 w13.heap.size C _ w13 (by have := H.out.2.2.2.1; omega) (CpPost.low O13).lies (Nat.le_refl _)
  rw [H.out.2.2.2.2.2.2.1] at C1
  have C2 := Lib.hid C1
  clear C1 b13 O13
  go_wp2_with fail
  refine C2.out.mono ?_
  rintro e w14 ⟨rfl, b14⟩
  have B14 := Lib.hid (B13.out.trans (b14.mono B13.out.size))
  clear b14 C2
  obtain ⟨y8, y0, y1, y2, y3, y4, y5, y6, y7⟩ := BB.out.kept B14.out (by have := HE.out; omega)
  have C1 := check_any w7.heap.size B _ w14 (by have := H.out.2.2.2.1; omega) (OB.out.kept (B14.out.mono (by have := HE.out; omega))).lies (by have := HE.out; have := B14.out.size; omega)
  rw [H.out.2.2.2.2.2.2.2] at C1
  have C2 := Lib.hid C1
  clear C1
  go_wp2_with fail
  refine C2.out.mono ?_
  rintro e w15 ⟨rfl, b15⟩
  have B15 := Lib.hid (B14.out.trans (b15.mono B14.out.size))
  clear b15 C2
  go_wp2_with fail
  go_ret
  exact ⟨rfl, B4.out.trans ((B8.out.trans (B15.out.mono B8.out.size)).mono B4.out.size)⟩
end Go.Proofs.Ytfgkkccgecnchaa

/- The text of an address taken apart. -/
import Derived.Test.YtakoghdkllfhlaaDoorSa
import Derived.Test.YtakoghdkllfhlaaDoorTpr
namespace Go.Proofs.YtakoghdkllfhlaaDoor
open Go.RowKit

/-- the number that a text is, and what is wrong with it -/
noncomputable def numv (l : List UInt8) : Int := if l.head? = some 45 then pv l.tail true else pv l false
noncomputable def nume (l : List UInt8) : Int := if l.head? = some 45 then pe l.tail true else pe l false
theorem head_at {s : ByteArray} (h0 : 0 < s.size) : (lb s).head? = some s[0] := by
  have : (lb s)[0]? = some s[0] := by
    rw [List.getElem?_eq_getElem (by rw [L_len]; exact h0), L_get s 0 h0]
  rw [← this, List.head?_eq_getElem?]
theorem num_any (s : ByteArray) (w : World) (hs : s.size ≤ 9223372036854775807) : Calls Tryd.prog 92 #[.string s] w fun e w' => e = .returned (.tuple #[.int .i64 (numv (lb s)), .int .i64 (nume (lb s))]) ∧ w = w' := by
  unfold numv nume
  by_cases h : (lb s).head? = some 45
  · rw [if_pos h, if_pos h]
    obtain ⟨h0, -, hx⟩ := pre_yes h
    refine parse_minus s (tx (lb s).tail) w hs h0 ?_ hx ?_
    · rw [head_at h0] at h
      simp only [Option.some.injEq] at h
      rw [h]; rfl
    · show (lb s).tail.length ≤ _
      have : (lb s).length = s.size := L_len s
      rw [List.length_tail]; omega
  · rw [if_neg h, if_neg h]
    refine parse_plain s w hs fun h0 => ?_
    rw [head_at h0] at h
    rw [beq_eq_false_iff_ne]
    intro e
    refine h (congrArg some (UInt8.toNat_inj.1 ?_))
    have : s[0].toNat = 45 := by omega
    rw [this]; rfl
theorem rnum_any (s : ByteArray) (w : World) (hs : s.size ≤ 9223372036854775807) : Calls Tryd.prog 51 #[.string s] w fun e w' => e = .returned (.tuple #[.int .i64 (numv (lb s)), .int .i64 (nume (lb s))]) ∧ w = w' := by
  unfold numv nume
  by_cases h : (lb s).head? = some 45
  · rw [if_pos h, if_pos h]
    obtain ⟨h0, -, hx⟩ := pre_yes h
    refine rparse_minus s (tx (lb s).tail) w hs h0 ?_ hx ?_
    · rw [head_at h0] at h
      simp only [Option.some.injEq] at h
      rw [h]; rfl
    · show (lb s).tail.length ≤ _
      have : (lb s).length = s.size := L_len s
      rw [List.length_tail]; omega
  · rw [if_neg h, if_neg h]
    refine rparse_plain s w hs fun h0 => ?_
    rw [head_at h0] at h
    rw [beq_eq_false_iff_ne]
    intro e
    refine h (congrArg some (UInt8.toNat_inj.1 ?_))
    have : s[0].toNat = 45 := by omega
    rw [this]; rfl
/-- what stands between [ and ] -/
noncomputable def lastL (l : List UInt8) : Int × Int × List UInt8 := if l.head? = some 34 then (2, 0, trim 34 l.tail) else if nume l = 0 then (1, numv l, []) else (0, 0, [])
noncomputable def pieceL (l : List UInt8) : Adr :=
  if 91 ∈ cutB 46 l then ⟨tx (cutA 46 l), tx (cutA 91 (cutB 46 l)), (lastL (trim 93 (cutB 91 (cutB 46 l)))).1, (lastL (trim 93 (cutB 91 (cutB 46 l)))).2.1, tx (lastL (trim 93 (cutB 91 (cutB 46 l)))).2.2⟩
  else ⟨tx (cutA 46 l), tx (cutA 91 (cutB 46 l)), 0, 0, ⟨#[]⟩⟩
theorem lastPart_any (s : ByteArray) (w : World) (hs : s.size ≤ 9223372036854775807) : Calls Tryd.prog 73 #[.string s] w fun e w' => e = .returned (.tuple #[.int .i64 (lastL (lb s)).1, .int .i64 (lastL (lb s)).2.1, .string (tx (lastL (lb s)).2.2)]) ∧ w = w' := by
  have C1 := Lib.hid (cutPre_any s 34 w hs)
  unfold lastL
  by_cases h : (lb s).head? = some 34
  · have hT : (tx (lb s).tail).size ≤ 9223372036854775807 := by
      show (lb s).tail.length ≤ _
      have : (lb s).length = s.size := L_len s
      rw [List.length_tail]; omega
    have C2 := Lib.hid (trim_any (tx (lb s).tail) 34 w hT)
    rw [lb_tx] at C2
    rw [if_pos h, decide_eq_true h] at C1
    rw [if_pos h]
    simp only
    generalize tx (trim 34 (lb s).tail) = T at *
    generalize tx (lb s).tail = U at *
    clear h
    go_enter Tryd.func73, Tryd.ntmps73
    go_wp2_with fail
    refine C1.out.mono ?_
    rintro e w' ⟨rfl, rfl⟩
    go_wp2_with fail
    refine C2.out.mono ?_
    rintro e w' ⟨rfl, rfl⟩
    go_wp2_with fail
    exact bodyPost_ret (v := .tuple #[.int .i64 2, .int .i64 0, .string T]) (by simp [results, Tryd.results73, go_sem]) rfl ⟨rfl, rfl⟩
  · have C2 := Lib.hid (num_any s w hs)
    rw [if_neg h, decide_eq_false h] at C1
    rw [if_neg h]
    by_cases h2 : nume (lb s) = 0
    · rw [h2] at C2
      rw [if_pos h2]
      simp only
      generalize numv (lb s) = V at *
      clear h h2
      go_enter Tryd.func73, Tryd.ntmps73
      go_wp2_with fail
      refine C1.out.mono ?_
      rintro e w' ⟨rfl, rfl⟩
      go_wp2_with fail
      refine C2.out.mono ?_
      rintro e w' ⟨rfl, rfl⟩
      go_wp2_with fail
      exact bodyPost_ret (v := .tuple #[.int .i64 1, .int .i64 V, .string ⟨#[]⟩]) (by simp [results, Tryd.results73, go_sem]) rfl ⟨rfl, rfl⟩
    · have hb : (nume (lb s) == 0) = false := by rw [beq_eq_false_iff_ne]; exact h2
      rw [if_neg h2]
      simp only
      generalize numv (lb s) = V at *
      generalize nume (lb s) = E at *
      clear h h2
      go_enter Tryd.func73, Tryd.ntmps73
      go_wp2_with fail
      refine C1.out.mono ?_
      rintro e w' ⟨rfl, rfl⟩
      go_wp2_with fail
      refine C2.out.mono ?_
      rintro e w' ⟨rfl, rfl⟩
      go_wp2_with fail
      exact bodyPost_ret (v := .tuple #[.int .i64 0, .int .i64 0, .string ⟨#[]⟩]) (by simp [results, Tryd.results73, go_sem]) rfl ⟨rfl, rfl⟩
theorem cutB_le (c : UInt8) (l : List UInt8) : (cutB c l).length ≤ l.length := by
  unfold cutB
  rw [List.length_drop]
  have := (List.dropWhile_suffix (l := l) (· != c)).length_le
  omega
theorem trim_le (c : UInt8) (l : List UInt8) : (trim c l).length ≤ l.length := by
  unfold trim
  split
  · rw [List.length_dropLast]; omega
  · exact Nat.le_refl _
theorem below_alloc {w : World} {N : Nat} (h : N = w.heap.size) (o : Obj) : Below N w (w.alloc o) := by subst h; exact (Below.refl _ _).alloc (Nat.le_refl _) _
theorem rc5 {w : World} {b : Nat} {c0 c1 c2 c3 c4 : Value} {t : TypeId} (h : w.heap[b]? = some (.cells #[c0, c1, c2, c3, c4] t (0, 0))) :
    (w.cell? ⟨b, 0, none⟩ = some c0 ∧ w.cell? ⟨b, 1, none⟩ = some c1 ∧ w.cell? ⟨b, 2, none⟩ = some c2 ∧ w.cell? ⟨b, 3, none⟩ = some c3 ∧ w.cell? ⟨b, 4, none⟩ = some c4) ∧
    (w.frozen? ⟨b, 0, none⟩ = false ∧ w.frozen? ⟨b, 1, none⟩ = false ∧ w.frozen? ⟨b, 2, none⟩ = false ∧ w.frozen? ⟨b, 3, none⟩ = false ∧ w.frozen? ⟨b, 4, none⟩ = false) ∧ b < w.heap.size :=
  ⟨⟨cell_of_row w b 0 _ _ _ h, cell_of_row w b 1 _ _ _ h, cell_of_row w b 2 _ _ _ h, cell_of_row w b 3 _ _ _ h, cell_of_row w b 4 _ _ _ h⟩,
   ⟨frozen_of_row w b 0 _ _ h, frozen_of_row w b 1 _ _ h, frozen_of_row w b 2 _ _ h, frozen_of_row w b 3 _ _ h, frozen_of_row w b 4 _ _ h⟩, (Array.getElem?_eq_some_iff.1 h).1⟩
theorem below_set5 {B N : Nat} {w w1 : World} {v0 v1 v2 v3 v4 : Value} (h : Below B w w1) (hN : B ≤ N) :
    Below B w (((((w1.setCell ⟨N, 0, none⟩ v0).setCell ⟨N, 1, none⟩ v1).setCell ⟨N, 2, none⟩ v2).setCell ⟨N, 3, none⟩ v3).setCell ⟨N, 4, none⟩ v4) :=
  ((((h.setCell (p := ⟨N, 0, none⟩) hN _).setCell (p := ⟨N, 1, none⟩) hN _).setCell (p := ⟨N, 2, none⟩) hN _).setCell (p := ⟨N, 3, none⟩) hN _).setCell (p := ⟨N, 4, none⟩) hN _
theorem fin_pieces {w w0 w1 w2 : World} {N : Nat} {cs : Array Value} {t : TypeId} (h0 : Below N w w0) (hr : w0.heap[N]? = some (.cells cs t (0, 0))) (h1 : Below w0.heap.size w0 w1) (h2 : Below w1.heap.size w1 w2) :
    w2.heap[N]? = some (.cells cs t (0, 0)) ∧ Below N w w2 := by
  have hN := (Array.getElem?_eq_some_iff.1 hr).1
  have h3 : Below w0.heap.size w0 w2 := h1.trans (h2.mono h1.size)
  exact ⟨(h3.block N hN).trans hr, h0.trans (h3.mono (Nat.le_of_lt hN))⟩
theorem fin_end {w w2 : World} {N : Nat} (h : Below N w w2) (hN : N < w2.heap.size) (v0 v1 v2 v3 v4 : Value) (o : Obj) :
    Below N w ((((((w2.setCell ⟨N, 0, none⟩ v0).setCell ⟨N, 1, none⟩ v1).setCell ⟨N, 2, none⟩ v2).setCell ⟨N, 3, none⟩ v3).setCell ⟨N, 4, none⟩ v4).alloc o) :=
  (below_set5 h (Nat.le_refl N)).alloc (by simp; omega) _
set_option maxHeartbeats 2000000 in
theorem pieces_any (s : ByteArray) (w : World) (hs : s.size ≤ 9223372036854775807) : Calls Tryd.prog 50 #[.string s] w fun e w' => e = .returned (av (pieceL (lb s))) ∧ Below w.heap.size w w' := by
  have hl : (lb s).length = s.size := L_len s
  have s1 : (tx (cutB 46 (lb s))).size ≤ 9223372036854775807 := by show (cutB 46 (lb s)).length ≤ _; have := cutB_le 46 (lb s); omega
  have s2 : (tx (cutB 91 (cutB 46 (lb s)))).size ≤ 9223372036854775807 := by show (cutB 91 (cutB 46 (lb s))).length ≤ _; have := cutB_le 46 (lb s); have := cutB_le 91 (cutB 46 (lb s)); omega
  have s3 : (tx (trim 93 (cutB 91 (cutB 46 (lb s))))).size ≤ 9223372036854775807 := by show (trim 93 (cutB 91 (cutB 46 (lb s)))).length ≤ _; have := trim_le 93 (cutB 91 (cutB 46 (lb s))); have : (cutB 91 (cutB 46 (lb s))).length ≤ _ := s2; omega
  have C1 := Lib.hid (fun w => cut_any s 46 w hs)
  have C2 := Lib.hid (fun w => cut_any (tx (cutB 46 (lb s))) 91 w s1)
  have C3 := Lib.hid (fun w => trim_any (tx (cutB 91 (cutB 46 (lb s)))) 93 w s2)
  have C4 := Lib.hid (fun w => lastPart_any (tx (trim 93 (cutB 91 (cutB 46 (lb s))))) w s3)
  simp only [lb_tx] at C2 C3 C4
  obtain ⟨N, hN⟩ : ∃ N, N = w.heap.size := ⟨_, rfl⟩
  obtain ⟨w0, hw0⟩ : ∃ w0, w0 = w.alloc (.cells #[.string ⟨#[]⟩, .string ⟨#[]⟩, .int .i64 0, .int .i64 0, .string ⟨#[]⟩] 23) := ⟨_, rfl⟩
  have HB0 : Hid (Below N w w0) := by rw [hw0]; exact below_alloc hN _
  have hr0 : w0.heap[N]? = some (.cells #[.string ⟨#[]⟩, .string ⟨#[]⟩, .int .i64 0, .int .i64 0, .string ⟨#[]⟩] 23 (0, 0)) := by rw [hw0, hN]; exact heap_alloc_new _ _
  have HR0 := Lib.hid hr0
  clear hr0 hl s1 s2 s3
  unfold pieceL
  rw [← hN]
  by_cases hm : 91 ∈ cutB 46 (lb s)
  · rw [if_pos hm]
    rw [decide_eq_true hm] at C2
    generalize (lastL (trim 93 (cutB 91 (cutB 46 (lb s))))).1 = k1 at *
    generalize (lastL (trim 93 (cutB 91 (cutB 46 (lb s))))).2.1 = k2 at *
    generalize tx (lastL (trim 93 (cutB 91 (cutB 46 (lb s))))).2.2 = k3 at *
    generalize tx (trim 93 (cutB 91 (cutB 46 (lb s)))) = l4 at *
    generalize tx (cutB 91 (cutB 46 (lb s))) = l3 at *
    generalize tx (cutA 91 (cutB 46 (lb s))) = l2 at *
    generalize tx (cutA 46 (lb s)) = l1 at *
    generalize tx (cutB 46 (lb s)) = l0 at *
    generalize decide (46 ∈ lb s) = d0 at *
    clear hm
    go_enter Tryd.func50, Tryd.ntmps50
    go_upto_region 1 with fail
    rw [← hw0, ← hN]
    clear hw0 hN
    go_wp2_with fail
    refine (C1.out w0).mono ?_
    rintro e w1 ⟨rfl, hb1⟩
    have HB1 := Lib.hid hb1
    clear hb1
    go_wp2_with fail
    refine (C2.out w1).mono ?_
    rintro e w2 ⟨rfl, hb2⟩
    obtain ⟨hr2, hB2⟩ := fin_pieces HB0.out HR0.out HB1.out hb2
    obtain ⟨⟨r0, r1, r2, r3, r4⟩, ⟨f0, f1, f2, f3, f4⟩, lN⟩ := rc5 hr2
    have HB2 := Lib.hid hB2
    clear hb2 hr2 hB2 HB1 HB0 HR0
    go_wp2_with fail
    refine (C3.out _).mono ?_
    rintro e w3 ⟨rfl, rfl⟩
    go_wp2_with fail
    refine (C4.out _).mono ?_
    rintro e w3 ⟨rfl, rfl⟩
    go_wp2_with fail
    refine bodyPost_ret (v := av ⟨l1, l2, k1, k2, k3⟩) (by simp [results, Tryd.results50, go_sem, r0, r1, r2, r3, r4, av, lN]) rfl ?_
    exact ⟨rfl, fin_end HB2.out lN _ _ _ _ _ _⟩
  · rw [if_neg hm]
    rw [decide_eq_false hm] at C2
    generalize tx (cutB 91 (cutB 46 (lb s))) = l3 at *
    generalize tx (cutA 91 (cutB 46 (lb s))) = l2 at *
    generalize tx (cutA 46 (lb s)) = l1 at *
    generalize tx (cutB 46 (lb s)) = l0 at *
    generalize decide (46 ∈ lb s) = d0 at *
    clear hm C3 C4
    go_enter Tryd.func50, Tryd.ntmps50
    go_upto_region 1 with fail
    rw [← hw0, ← hN]
    clear hw0 hN
    go_wp2_with fail
    refine (C1.out w0).mono ?_
    rintro e w1 ⟨rfl, hb1⟩
    have HB1 := Lib.hid hb1
    clear hb1
    go_wp2_with fail
    refine (C2.out w1).mono ?_
    rintro e w2 ⟨rfl, hb2⟩
    obtain ⟨hr2, hB2⟩ := fin_pieces HB0.out HR0.out HB1.out hb2
    obtain ⟨⟨r0, r1, r2, r3, r4⟩, ⟨f0, f1, f2, f3, f4⟩, lN⟩ := rc5 hr2
    have HB2 := Lib.hid hB2
    clear hb2 hr2 hB2 HB1 HB0 HR0
    go_wp2_with fail
    refine bodyPost_ret (v := av ⟨l1, l2, 0, 0, ⟨#[]⟩⟩) (by simp [results, Tryd.results50, go_sem, r0, r1, r2, r3, r4, av, lN]) rfl ?_
    exact ⟨rfl, fin_end HB2.out lN _ _ _ _ _ _⟩
end Go.Proofs.YtakoghdkllfhlaaDoor

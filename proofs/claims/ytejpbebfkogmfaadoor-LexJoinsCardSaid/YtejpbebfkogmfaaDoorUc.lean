/- LexJoins' walk. -/
import Derived.Test.YtejpbebfkogmfaaDoorUb
namespace Go.Proofs.YtejpbebfkogmfaaDoor
open Go.RowKit

/-- behind All, and its diagnosis' box -/
structure AV (w W0 W : World) (L : List UInt8) (o : Option Addr) (n c x b : Nat) (p : Plc) (acc : List (Tkn × Value)) : Prop where
  bw : Below w.heap.size w W
  bk : Below W0.heap.size W0 W
  u : ∃ w', AU W0 w' L o n c x p acc ∧ Below w'.heap.size w' W
  d : W.heap[b]? = some (.cells (dgc (x : Nat) p) 35 (0, 0))
theorem AU.box {w W0 w' : World} {L : List UInt8} {o : Option Addr} {n c x : Nat} {p : Plc} {acc : List (Tkn × Value)} (h : AU W0 w' L o n c x p acc) (hb : Below w.heap.size w W0) :
    AV w W0 (w'.alloc (.cells (dgc (x : Nat) p) 35)) L o n c x w'.heap.size p acc := by
  have h1 : Below w'.heap.size w' (w'.alloc (.cells (dgc (x : Nat) p) 35)) := (Below.refl _ _).alloc (Nat.le_refl _) _
  have h2 : Below W0.heap.size W0 (w'.alloc (.cells (dgc (x : Nat) p) 35)) := h.b.trans (h1.mono h.b.size)
  exact ⟨hb.trans (h2.mono hb.size), h2, ⟨w', h, h1⟩, heap_alloc_new _ _⟩
/-- two boxes made anew, alike -/
theorem two_box {w0 w : World} {B : Nat} (c0 c1 c2 c3 c4 c5 c6 : Value) (h : Below B w0 w) (hB : B ≤ w.heap.size) :
    Below B w0 ((w.alloc (.cells #[c0, c1, c2, c3, c4, c5, c6] 26)).alloc (.cells #[c0, c1, c2, c3, c4, c5, c6] 26)) ∧
    ((w.alloc (.cells #[c0, c1, c2, c3, c4, c5, c6] 26)).alloc (.cells #[c0, c1, c2, c3, c4, c5, c6] 26)).heap[w.heap.size]? = some (.cells #[c0, c1, c2, c3, c4, c5, c6] 26 (0, 0)) ∧
    ((w.alloc (.cells #[c0, c1, c2, c3, c4, c5, c6] 26)).alloc (.cells #[c0, c1, c2, c3, c4, c5, c6] 26)).heap[w.heap.size + 1]? = some (.cells #[c0, c1, c2, c3, c4, c5, c6] 26 (0, 0)) := by
  refine ⟨(h.alloc hB _).alloc (by simp; omega) _, ?_, ?_⟩
  · exact ((Below.refl (w.heap.size + 1) (w.alloc _)).alloc (by simp) _).block _ (Nat.lt_succ_self _) |>.trans (heap_alloc_new w _)
  · have := heap_alloc_new (w.alloc (.cells #[c0, c1, c2, c3, c4, c5, c6] 26)) (.cells #[c0, c1, c2, c3, c4, c5, c6] 26)
    rw [show (w.alloc (.cells #[c0, c1, c2, c3, c4, c5, c6] 26)).heap.size = w.heap.size + 1 by simp] at this
    exact this
set_option maxRecDepth 100000 in
set_option maxHeartbeats 4000000 in
theorem ljoins_any {s t : ByteArray} {w : World} (hT : Tab w) (hs : s.size ≤ 9223372036854775807) (ht : t.size ≤ 9223372036854775807) : Calls Tryd.prog 5 #[.string s, .string t] w fun e w' => e = .returned (.bool true) ∧ Below w.heap.size w w' := by
  have HA : Hid (∀ w1, Below w.heap.size w w1 → Calls Tryd.prog 7 #[] w1 fun e w' => e = .returned (.bool true) ∧ Below w.heap.size w w') := fun w1 hB => (awake_any (hT.below hB hT.1)).mono fun e w' ⟨q1, q2⟩ => ⟨q1, hB.trans (q2.mono hB.size)⟩
  by_cases hbig : 2000 < s.size ∨ 2000 < t.size
  · have C := Lib.hid (HA.out w (Below.refl _ _))
    clear HA hT
    by_cases h1 : 2000 < s.size
    · have hb : (2000 : Int) < s.size := by omega
      clear hbig
      go_enter Tryd.func5, Tryd.ntmps5
      go_wp2_with fail
      refine C.out.mono ?_
      rintro e w1 ⟨rfl, hB⟩
      have HB := Lib.hid hB
      clear hB
      go_wp2_with fail
      go_ret
      exact ⟨rfl, HB.out⟩
    · have hb : ¬ (2000 : Int) < s.size := by omega
      have hb2 : (2000 : Int) < t.size := by omega
      clear hbig
      go_enter Tryd.func5, Tryd.ntmps5
      go_wp2_with fail
      refine C.out.mono ?_
      rintro e w1 ⟨rfl, hB⟩
      have HB := Lib.hid hB
      clear hB
      go_wp2_with fail
      go_ret
      exact ⟨rfl, HB.out⟩
  have hb1 : ¬ (2000 : Int) < s.size := by omega
  have hb2 : ¬ (2000 : Int) < t.size := by omega
  have hs2 : s.size ≤ 2000 := by omega
  have ht2 : t.size ≤ 2000 := by omega
  have C1 := Lib.hid (all_u (s := s) hT hs)
  have HC2 : Hid (∀ W, Below w.heap.size w W → Calls Tryd.prog 13 #[.string t] W fun e w' => ∃ o n c x p acc, e = .returned (.tuple #[.slice o n c, .agg (dgc (x : Nat) p)]) ∧ AU W w' (lb t) o n c x p acc) := fun W h => all_u (hT.below h hT.1) ht
  obtain ⟨q, hq0⟩ : ∃ q : ByteArray, s ++ ⟨#[10]⟩ ++ t = q := ⟨_, rfl⟩
  have hq := hq0
  have hqs : q.size = s.size + 1 + t.size := by rw [← hq, ByteArray.size_append, ByteArray.size_append]; rfl
  have hql : lb q = lb s ++ 10 :: lb t := by rw [← hq, lb_join]
  have HC3 : Hid (∀ W, Below w.heap.size w W → Calls Tryd.prog 13 #[.string q] W fun e w' => ∃ o n c x p acc, e = .returned (.tuple #[.slice o n c, .agg (dgc (x : Nat) p)]) ∧ AU W w' (lb s ++ 10 :: lb t) o n c x p acc) := fun W h => by
    rw [← hql]; exact all_u (hT.below h hT.1) (by omega)
  have HQ := Lib.hid hq0
  clear hqs hql hT hbig hq hq0
  go_enter Tryd.func5, Tryd.ntmps5
  go_wp2_with fail
  refine C1.out.mono ?_
  rintro e w1 ⟨o1, n1, c1, x1, p1, a1, rfl, hU1⟩
  have HU1 := Lib.hid (hU1.box (Below.refl w.heap.size w))
  clear hU1
  go_wp2_with fail
  obtain ⟨W1, hW1⟩ : ∃ W1, w1.alloc (.cells (dgc (x1 : Nat) p1) 35) = W1 := ⟨_, rfl⟩
  obtain ⟨b1, hb1'⟩ : ∃ b, w1.heap.size = b := ⟨_, rfl⟩
  rw [hW1, hb1'] at HU1
  rw [hW1, hb1']
  clear hW1 hb1'
  refine (HC2.out W1 HU1.out.bw).mono ?_
  rintro e w2 ⟨o2, n2, c2, x2, p2, a2, rfl, hU2⟩
  have HU2 := Lib.hid (hU2.box HU1.out.bw)
  clear hU2
  go_wp2_with fail
  obtain ⟨W2, hW2⟩ : ∃ W2, w2.alloc (.cells (dgc (x2 : Nat) p2) 35) = W2 := ⟨_, rfl⟩
  obtain ⟨b2, hb2'⟩ : ∃ b, w2.heap.size = b := ⟨_, rfl⟩
  rw [hW2, hb2'] at HU2
  rw [hW2, hb2', HQ.out]
  clear hW2 hb2' HQ
  refine (HC3.out W2 HU2.out.bw).mono ?_
  rintro e w3 ⟨o3, n3, c3, x3, p3, a3, rfl, hU3⟩
  have HU3 := Lib.hid (hU3.box HU2.out.bw)
  clear hU3
  go_upto_region 6 with fail
  obtain ⟨W3, hW3⟩ : ∃ W3, w3.alloc (.cells (dgc (x3 : Nat) p3) 35) = W3 := ⟨_, rfl⟩
  obtain ⟨b3, hb3'⟩ : ∃ b, w3.heap.size = b := ⟨_, rfl⟩
  rw [hW3, hb3'] at HU3
  rw [hW3, hb3']
  clear hW3 hb3'
  have hr3 := HU3.out.d
  have hr2 : W3.heap[b2]? = some (.cells (dgc (x2 : Nat) p2) 35 (0, 0)) := (HU3.out.bk.block b2 (Array.getElem?_eq_some_iff.1 HU2.out.d).1).trans HU2.out.d
  have hr1 : W3.heap[b1]? = some (.cells (dgc (x1 : Nat) p1) 35 (0, 0)) := by
    have h := (HU2.out.bk.block b1 (Array.getElem?_eq_some_iff.1 HU1.out.d).1).trans HU1.out.d
    exact (HU3.out.bk.block b1 (Array.getElem?_eq_some_iff.1 h).1).trans h
  obtain ⟨⟨d0, -, -, -, -⟩, -, -⟩ := rc5 hr1
  obtain ⟨⟨e0, e1, -, e3, -⟩, -, -⟩ := rc5 hr2
  obtain ⟨⟨f0, f1, -, f3, -⟩, -, -⟩ := rc5 hr3
  have HA3 : Hid (∀ W, Below W3.heap.size W3 W → Calls Tryd.prog 7 #[] W fun e w' => e = .returned (.bool true) ∧ Below w.heap.size w w') := fun W h => HA.out W (HU3.out.bw.trans (h.mono HU3.out.bw.size))
  have HB1 : Below W1.heap.size W1 W3 := HU2.out.bk.trans (HU3.out.bk.mono HU2.out.bk.size)
  obtain ⟨v1, hU1, k1⟩ := HU1.out.u
  obtain ⟨v2, hU2, k2⟩ := HU2.out.u
  obtain ⟨v3, hU3, k3⟩ := HU3.out.u
  have K1 : Below v1.heap.size v1 W3 := k1.trans (HB1.mono k1.size)
  have K2 : Below v2.heap.size v2 W3 := k2.trans (HU3.out.bk.mono k2.size)
  clear hr1 hr2 hr3 HU1 HU2 HU3 HB1 HA C1 HC2 HC3 k1 k2
  by_cases hx1 : x1 ≠ 0
  · have he : ((x1 : Int) != 0) = true := by rw [bne_iff_ne]; omega
    clear hU1 hU2 hU3 K1 K2 k3 e0 e1 e3 f0 f1 f3
    go_wp2_with fail
    refine (HA3.out W3 (Below.refl _ _)).mono ?_
    rintro e w4 ⟨rfl, hB4⟩
    have HB4 := Lib.hid hB4
    clear hB4
    go_wp2_with fail
    go_ret
    exact ⟨rfl, HB4.out⟩
  have hx1 : x1 = 0 := Decidable.not_not.1 hx1
  obtain ⟨hn1, hn1', hcase⟩ := join_u hs2 ht2 hU1 hU2 hU3 hx1
  rw [hx1] at d0
  replace d0 : W3.cell? ⟨b1, 0, none⟩ = some (.int .i64 0) := d0
  rcases hcase with ⟨hx2, rfl, ha, hc, hA⟩ | ⟨rfl, rfl, hn2, hn2', hn3, hJ⟩
  · have he : ((x3 : Int) != 0) = true := by rw [bne_iff_ne]; omega
    rw [hc] at f3
    replace f1 : W3.cell? ⟨b3, 1, none⟩ = some (.int .i64 ((s.size : Int) + 1 + p2.a)) := by rw [f1, ha]; congr 2
    clear hU1 hU2 hU3 K1 K2 k3 hc ha hx1 hx2 hn1 hn1'
    generalize p2.a = A at *
    generalize p2.c = C at *
    have hA' : (A : Int) ≤ 2000 := by omega
    go_wp2_with fail
    refine (HA3.out W3 (Below.refl _ _)).mono ?_
    rintro e w4 ⟨rfl, hB4⟩
    have HB4 := Lib.hid hB4
    clear hB4
    go_wp2_with fail
    go_ret
    exact ⟨rfl, HB4.out⟩
  replace e0 : W3.cell? ⟨b2, 0, none⟩ = some (.int .i64 0) := e0
  replace f0 : W3.cell? ⟨b3, 0, none⟩ = some (.int .i64 0) := f0
  obtain ⟨g1, rfl, -⟩ := hU1.g hn1
  obtain ⟨g2, rfl, -⟩ := hU2.g hn2
  obtain ⟨g3, rfl, -⟩ := hU3.g hn3
  have HT1 : Hid (∀ wr, Below W3.heap.size W3 wr → ∀ i x, a1[i]? = some x → ∃ o c', Tq wr g1 i x.1 o x.1.ps.length c') := fun wr hb i x hi => Tq.of hU1.t hi (K1.trans (hb.mono K1.size))
  have HT2 : Hid (∀ wr, Below W3.heap.size W3 wr → ∀ i x, a2[i]? = some x → ∃ o c', Tq wr g2 i x.1 o x.1.ps.length c') := fun wr hb i x hi => Tq.of hU2.t hi (K2.trans (hb.mono K2.size))
  have HT3 : Hid (∀ wr, Below W3.heap.size W3 wr → ∀ i x, a3[i]? = some x → ∃ o c', Tq wr g3 i x.1 o x.1.ps.length c') := fun wr hb i x hi => Tq.of hU3.t hi (k3.trans (hb.mono k3.size))
  have HJ := Lib.hid hJ
  have hlen : (n1 : Int) + (n2 : Int) - 1 = (n3 : Int) := by have := hJ.len; omega
  have b1' : (n1 : Int) ≤ 2001 := by omega
  have b2' : (n2 : Int) ≤ 2001 := by omega
  have b3' : (n3 : Int) ≤ 4002 := by omega
  clear hU1 hU2 hU3 K1 K2 k3 hJ hx1 e1 e3 f1 f3 hn1'
  go_wp2_with fail
  go_loopw [11] (fun x wr => ∃ i : Nat, i ≤ n3 ∧ x = .int .i64 i ∧ Hid (Below W3.heap.size W3 wr)) (fun x _ => n3 - (intOf x).toNat)
  case atStart => exact ⟨0, Nat.zero_le _, rfl, Below.refl _ _⟩
  case round =>
    obtain ⟨i, hi, rfl, HW⟩ := hrel
    by_cases hlt : i < n3
    · have hlt' : (i : Int) < n3 := by omega
      by_cases hlo : i + 1 < n1
      · obtain ⟨k, v, u, h3, h1⟩ := HJ.out.lo i hlo
        obtain ⟨o, c, q0, q1, q2, q3, q4, q5, q6⟩ := HT3.out wr HW.out i _ h3
        have hlo' : (i : Int) < (n1 : Int) - 1 := by omega
        obtain ⟨kk, S, nn, ps, p⟩ := k
        obtain ⟨A, B, C⟩ := p
        dsimp only at q0 q1 q2 q3 q4 q5 q6
        have HX := Lib.hid (two_box (.int .i64 (kk : Nat)) (.string (tx S)) (.int .i64 nn) (.slice o ps.length c) (.int .i64 (A : Nat)) (.int .i64 (B : Nat)) (.int .i64 (C : Nat)) HW.out HW.out.size)
        have H1 := Lib.hid h1
        clear h1 h3
        go_upto_region 17 with fail
        obtain ⟨N, hN⟩ : ∃ N, wr.heap.size = N := ⟨_, rfl⟩
        rw [hN] at HX ⊢
        obtain ⟨W4, hW4⟩ : ∃ W4, (wr.alloc (.cells #[.int .i64 (kk : Nat), .string (tx S), .int .i64 nn, .slice o ps.length c, .int .i64 (A : Nat), .int .i64 (B : Nat), .int .i64 (C : Nat)] 26)).alloc (.cells #[.int .i64 (kk : Nat), .string (tx S), .int .i64 nn, .slice o ps.length c, .int .i64 (A : Nat), .int .i64 (B : Nat), .int .i64 (C : Nat)] 26) = W4 := ⟨_, rfl⟩
        rw [hW4] at HX ⊢
        have hNW : W3.heap.size ≤ N := by have := HW.out.size; omega
        clear hW4 hN q0 q1 q2 q3 q4 q5 q6
        obtain ⟨hB4, hx, hy⟩ := HX.out
        obtain ⟨o', c', r0, r1, r2, r3, r4, r5, r6⟩ := HT1.out W4 hB4 i _ H1.out
        obtain ⟨⟨x0, x1', x2', x3', x4', x5', x6'⟩, -, -⟩ := rc7 hx
        obtain ⟨⟨y0, y1, y2, y3, y4, y5, y6⟩, ⟨z0, z1, z2, z3, z4, z5, z6⟩, lN⟩ := rc7 hy
        have HB4 := Lib.hid hB4
        have HNW := Lib.hid hNW
        clear hB4 hx hy HX hNW
        dsimp only at r0 r1 r2 r3 r4 r5 r6
        generalize ps.length = l at *
        generalize tx S = T at *
        go_wp2_with fail
        go_roundw
        case rel => exact ⟨i + 1, by omega, by go_num, below_set7 HB4.out (Nat.le_trans HNW.out (Nat.le_succ N))⟩
        case measure => simp [intOf]; omega
      · obtain ⟨j, hj⟩ : ∃ j, n1 - 1 + j = i := ⟨i - (n1 - 1), by omega⟩
        have hj2 : j < n2 := by have := HJ.out.len; omega
        obtain ⟨k, v, k', u, h3, h2, hm, hA'⟩ := HJ.out.hi j hj2
        rw [hj] at h3
        obtain ⟨o, c, q0, q1, q2, q3, q4, q5, q6⟩ := HT3.out wr HW.out i _ h3
        have hlo' : ¬ (i : Int) < (n1 : Int) - 1 := by omega
        have hij : (i : Int) - (n1 : Int) + 1 = (j : Int) := by omega
        have hj2' : (j : Int) < (n2 : Int) := by omega
        obtain ⟨⟨e1, e2, e3, e4⟩, e5, e6⟩ := hm
        obtain ⟨kk, S, nn, ps, p⟩ := k
        obtain ⟨A, B, C⟩ := p
        obtain ⟨kk', S', nn', ps', p'⟩ := k'
        obtain ⟨A', B', C'⟩ := p'
        dsimp only at q0 q1 q2 q3 q4 q5 q6 e1 e2 e3 e4 e5 e6 hA'
        subst e1 e2 e3 e6
        rw [e4] at q3
        clear e4
        have HX := Lib.hid (two_box (.int .i64 (kk : Nat)) (.string (tx S)) (.int .i64 nn) (.slice o ps'.length c) (.int .i64 (A : Nat)) (.int .i64 (B : Nat)) (.int .i64 (C : Nat)) HW.out HW.out.size)
        have H2 := Lib.hid h2
        have H5 := Lib.hid e5
        have hA2 : (A' : Int) ≤ 2000 := by omega
        clear h2 h3 e5 hA' hj
        go_upto_region 17 with fail
        obtain ⟨N, hN⟩ : ∃ N, wr.heap.size = N := ⟨_, rfl⟩
        rw [hN] at HX ⊢
        obtain ⟨W4, hW4⟩ : ∃ W4, (wr.alloc (.cells #[.int .i64 (kk : Nat), .string (tx S), .int .i64 nn, .slice o ps'.length c, .int .i64 (A : Nat), .int .i64 (B : Nat), .int .i64 (C : Nat)] 26)).alloc (.cells #[.int .i64 (kk : Nat), .string (tx S), .int .i64 nn, .slice o ps'.length c, .int .i64 (A : Nat), .int .i64 (B : Nat), .int .i64 (C : Nat)] 26) = W4 := ⟨_, rfl⟩
        rw [hW4] at HX ⊢
        have hNW : W3.heap.size ≤ N := by have := HW.out.size; omega
        clear hW4 hN q0 q1 q2 q3 q4 q5 q6
        obtain ⟨hB4, hx, hy⟩ := HX.out
        obtain ⟨o', c', r0, r1, r2, r3, r4, r5, r6⟩ := HT2.out W4 hB4 j _ H2.out
        obtain ⟨⟨x0, x1', x2', x3', x4', x5', x6'⟩, -, -⟩ := rc7 hx
        obtain ⟨⟨y0, y1, y2, y3, y4, y5, y6⟩, ⟨z0, z1, z2, z3, z4, z5, z6⟩, lN⟩ := rc7 hy
        replace x4' : W4.cell? ⟨N, 4, none⟩ = some (.int .i64 ((A' : Int) + s.size + 1)) := by rw [x4', H5.out]; congr 2
        have HB4 := Lib.hid hB4
        have HNW := Lib.hid hNW
        clear hB4 hx hy HX hNW
        dsimp only at r0 r1 r2 r3 r4 r5 r6
        generalize ps'.length = l at *
        generalize tx S = T at *
        go_wp2_with fail
        go_roundw
        case rel => exact ⟨i + 1, by omega, by go_num, below_set7 HB4.out (Nat.le_trans HNW.out (Nat.le_succ N))⟩
        case measure => simp [intOf]; omega
    · have hlt' : ¬ (i : Int) < n3 := by omega
      go_wp2_with fail
      refine (HA3.out _ HW.out).mono ?_
      rintro e w4 ⟨rfl, hB4⟩
      have HB4 := Lib.hid hB4
      clear hB4
      go_wp2_with fail
      go_ret
      exact ⟨rfl, HB4.out⟩
end Go.Proofs.YtejpbebfkogmfaaDoor

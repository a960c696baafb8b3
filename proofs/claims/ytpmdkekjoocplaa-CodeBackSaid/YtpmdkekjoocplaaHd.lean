/- Laying: laid, of all that may be. -/
import Derived.Test.YtpmdkekjoocplaaHc
import Derived.Test.YtpmdkekjoocplaaTe
namespace Go.Proofs.Ytpmdkekjoocplaa
open Go.RowKit Go.Lib Typ

/-- behind one byte more -/
theorem one_more {base g c n : Nat} {v : Value} {N : List Nat} {x : Nat} {w w2 : World} (hn : N.length = n) (hO : w.ownsRow base 5 1 v n (bcs N)) (ho : w2.ownsRow base 5 1 (.slice (some ⟨g, 0, none⟩) (n + 1) c) (n + 1) (bcs N ++ [.int .u8 ((x : Nat) : Int)])) (hg : (w.alloc (.cells #[.int .u8 ((x : Nat) : Int)] 5)).grownBy w2 v.ownBlock) :
    w2.ownsRow base 5 1 (.slice (some ⟨g, 0, none⟩) (n + 1) c) (N ++ [x]).length (bcs (N ++ [x])) ∧ LB base w w2 := by
  refine ⟨by rw [List.length_append, bcs_app, hn]; exact ho, (LB.of_below ((Below.refl _ _).alloc (Nat.le_refl _) _)).trans (.of_grown hg (hO.alloc _))⟩
theorem keys_small {ks : List ByteArray} (hs : ∀ j, j < ks.length → (kk ks j).size ≤ 1024) : ∀ s, s ∈ ks → s.size ≤ 1024 := by
  intro s hm
  obtain ⟨j, hj, e⟩ := List.mem_iff_getElem.1 hm
  have := hs j hj
  unfold kk at this
  rw [List.getD_eq_getElem?_getD, List.getElem?_eq_getElem hj] at this
  rw [← e]; exact this
theorem cast_own {base : Nat} {w : World} {v : Value} {N M : List Nat} (h : w.ownsRow base 5 1 v N.length (bcs N)) (e : N = M) : w.ownsRow base 5 1 v M.length (bcs M) := by rw [← e]; exact h
theorem len_own {base n : Nat} {w : World} {v : Value} {N : List Nat} (h : w.ownsRow base 5 1 v n (bcs N)) (e : n = N.length) : w.ownsRow base 5 1 v N.length (bcs N) := by rw [← e]; exact h
theorem own_len {base n : Nat} {w : World} {v : Value} {N : List Nat} (h : w.ownsRow base 5 1 v N.length (bcs N)) (e : N.length = n) : w.ownsRow base 5 1 v n (bcs N) := by rw [← e]; exact h
set_option maxHeartbeats 2000000 in
theorem laid_null  (x : Bool)  : LaidHolds (.mk 0 0 ⟨#[]⟩ [] [] 0 0 x) := by
  intro base v N xv w h hO hbase hN
  obtain ⟨i5, hi5, hz5, hs5, hb5⟩ := info_parts info5
  obtain ⟨oL, oK, cL, cK, c, rfl, O⟩ := h.inv
  have HH := Lib.hid (head_any (w := w.alloc (.cells #[.int .i64 0, .int .i64 0, .string ⟨#[]⟩, .slice oL (([] : List Val)).length cL, .slice oK (([] : List ByteArray)).length cK, .int .i64 0, .int .i64 0, .bool x] 30)) (O.kept ((Below.refl base w).alloc hbase (.cells #[.int .i64 0, .int .i64 0, .string ⟨#[]⟩, .slice oL (([] : List Val)).length cL, .slice oK (([] : List ByteArray)).length cK, .int .i64 0, .int .i64 0, .bool x] 30))).lies ⟨show (0 : Int) ≤ 0 by decide, show (0 : Int) < 128 by decide⟩)
  have HOP := Lib.hid O
  have HEN := Lib.hid (enc_eq (.mk 0 0 ⟨#[]⟩ [] [] 0 0 x))
  have HNB := Lib.hid hN
  have HW := Lib.hid ((Below.refl w.heap.size w).alloc (Nat.le_refl _) (.cells #[.int .i64 0, .int .i64 0, .string ⟨#[]⟩, .slice oL (([] : List Val)).length cL, .slice oK (([] : List ByteArray)).length cK, .int .i64 0, .int .i64 0, .bool x] 30))
  have HB : Hid ((w.alloc (.cells #[.int .i64 0, .int .i64 0, .string ⟨#[]⟩, .slice oL (([] : List Val)).length cL, .slice oK (([] : List ByteArray)).length cK, .int .i64 0, .int .i64 0, .bool x] 30)).heap[w.heap.size]? = some (.cells #[.int .i64 0, .int .i64 0, .string ⟨#[]⟩, .slice oL (([] : List Val)).length cL, .slice oK (([] : List ByteArray)).length cK, .int .i64 0, .int .i64 0, .bool x] 30 (0, 0))) := heap_alloc_new _ _
  have HZ : Hid ((w.alloc (.cells #[.int .i64 0, .int .i64 0, .string ⟨#[]⟩, .slice oL (([] : List Val)).length cL, .slice oK (([] : List ByteArray)).length cK, .int .i64 0, .int .i64 0, .bool x] 30)).heap.size = w.heap.size + 1) := by simp [Hid]
  have HO : Hid ((w.alloc (.cells #[.int .i64 0, .int .i64 0, .string ⟨#[]⟩, .slice oL (([] : List Val)).length cL, .slice oK (([] : List ByteArray)).length cK, .int .i64 0, .int .i64 0, .bool x] 30)).ownsRow base 5 1 v N.length (bcs N)) := hO.alloc _
  have hN1 : N.length ≤ 4000000000 := by omega
  have hL1 := O.L.1
  have hL2 := O.L.2.1
  have hK1 := O.K.1
  have hK2 := O.K.2.1
  unfold maxLen at hL2 hK2
  obtain ⟨hv, hhv⟩ : ∃ hv, hv = headN (.mk 0 0 ⟨#[]⟩ [] [] 0 0 x) := ⟨_, rfl⟩
  rw [← hhv] at HH
  have HHV := Lib.hid hhv
  clear O h hO hN hhv
  dsimp only [Val.k, Val.i, Val.s, Val.l, Val.ks, Val.tk, Val.to, Val.x] at *
  go_enter Try.func22, Try.ntmps22
  go_wp2_with fail
  generalize w.alloc _ = w0 at *
  refine HH.out.mono ?_
  rintro e w1 ⟨rfl, b1⟩
  have H1 := Lib.hid (And.intro (ownsRow_kept HO.out fun g hg => b1.block g (HO.out.lt g hg).2) b1)
  have HSZ : Hid (base ≤ w1.heap.size) := by have := b1.size; have := HZ.out; unfold Hid; omega
  clear b1
  go_wp2_with (at_builtin; go_must (refine wpList_append_lies _ rfl (.tmp 5) (.tmp 8) 22 rfl base 5 i5 _ 1 1 Try.underlying22 hi5 hz5 hs5 hb5 rfl (by omega) _ (N).length (bcs (N)) rfl (H1.out.1.alloc _) ⟨w1.heap.size, 0, none⟩ 1 1 [.int .u8 ((hv : Nat) : Int)] rfl rfl (World.news_of_block (heap_alloc_new _ _)) (fun u hu => by simp at hu; subst hu; rfl) (by omega) (by unfold maxLen; omega) (by omega) (by have := HSZ.out; simp; omega) (w1.heap.size + 1) (by simp) ?_))
  intro g cp w2 hown hgrow hat hlt2
  have H2 := Lib.hid (one_more rfl H1.out.1 hown hgrow)
  have L2 : Hid (LB base w w2) := ((LB.of_below HW.out).trans (.of_below H1.out.2)).trans H2.out.2
  have B2 : Hid (w2.heap[w.heap.size]? = some (.cells #[.int .i64 0, .int .i64 0, .string ⟨#[]⟩, .slice oL (([] : List Val)).length cL, .slice oK (([] : List ByteArray)).length cK, .int .i64 0, .int .i64 0, .bool x] 30 (0, 0))) := (((LB.of_below H1.out.2).trans H2.out.2).block w.heap.size (by have := HZ.out; omega) (.inr fun cur fz e => by rw [HB.out] at e; simp at e)).trans HB.out
  have HSZ2 : Hid (base ≤ w2.heap.size) := by have := L2.out.size; unfold Hid; omega
  clear hown hgrow hat HSZ
  have HSZ := HSZ2
  clear HSZ2
  obtain ⟨p0, p1, p2, p3, p4, p5, p6, p7, t0, t1, t2, t3, t4, t5, t6, t7, tl⟩ := b8_of B2.out
  have hv0 : headN (.mk 0 0 ⟨#[]⟩ [] [] 0 0 x) = hv := HHV.out.symm
  have hNl : (N ++ [hv]).length ≤ 4000000001 := by rw [List.length_append, List.length_singleton]; omega
  go_wp2_with fail
  go_ret
  refine ⟨_, rfl, ?_, L2.out⟩
  rw [HEN.out, ← List.length_append]
  exact cast_own H2.out.1 (by rw [← hv0]; simp [headN, Val.k, Val.x])
set_option maxHeartbeats 2000000 in
theorem laid_bool (i : Int) (x : Bool) (hb : i = 0 ∨ i = 1) : LaidHolds (.mk 1 i ⟨#[]⟩ [] [] 0 0 x) := by
  intro base v N xv w h hO hbase hN
  obtain ⟨i5, hi5, hz5, hs5, hb5⟩ := info_parts info5
  obtain ⟨oL, oK, cL, cK, c, rfl, O⟩ := h.inv
  have HH := Lib.hid (head_any (w := w.alloc (.cells #[.int .i64 1, .int .i64 i, .string ⟨#[]⟩, .slice oL (([] : List Val)).length cL, .slice oK (([] : List ByteArray)).length cK, .int .i64 0, .int .i64 0, .bool x] 30)) (O.kept ((Below.refl base w).alloc hbase (.cells #[.int .i64 1, .int .i64 i, .string ⟨#[]⟩, .slice oL (([] : List Val)).length cL, .slice oK (([] : List ByteArray)).length cK, .int .i64 0, .int .i64 0, .bool x] 30))).lies ⟨show (0 : Int) ≤ 1 by decide, show (1 : Int) < 128 by decide⟩)
  have HOP := Lib.hid O
  have HEN := Lib.hid (enc_eq (.mk 1 i ⟨#[]⟩ [] [] 0 0 x))
  have HNB := Lib.hid hN
  have HW := Lib.hid ((Below.refl w.heap.size w).alloc (Nat.le_refl _) (.cells #[.int .i64 1, .int .i64 i, .string ⟨#[]⟩, .slice oL (([] : List Val)).length cL, .slice oK (([] : List ByteArray)).length cK, .int .i64 0, .int .i64 0, .bool x] 30))
  have HB : Hid ((w.alloc (.cells #[.int .i64 1, .int .i64 i, .string ⟨#[]⟩, .slice oL (([] : List Val)).length cL, .slice oK (([] : List ByteArray)).length cK, .int .i64 0, .int .i64 0, .bool x] 30)).heap[w.heap.size]? = some (.cells #[.int .i64 1, .int .i64 i, .string ⟨#[]⟩, .slice oL (([] : List Val)).length cL, .slice oK (([] : List ByteArray)).length cK, .int .i64 0, .int .i64 0, .bool x] 30 (0, 0))) := heap_alloc_new _ _
  have HZ : Hid ((w.alloc (.cells #[.int .i64 1, .int .i64 i, .string ⟨#[]⟩, .slice oL (([] : List Val)).length cL, .slice oK (([] : List ByteArray)).length cK, .int .i64 0, .int .i64 0, .bool x] 30)).heap.size = w.heap.size + 1) := by simp [Hid]
  have HO : Hid ((w.alloc (.cells #[.int .i64 1, .int .i64 i, .string ⟨#[]⟩, .slice oL (([] : List Val)).length cL, .slice oK (([] : List ByteArray)).length cK, .int .i64 0, .int .i64 0, .bool x] 30)).ownsRow base 5 1 v N.length (bcs N)) := hO.alloc _
  have hN1 : N.length ≤ 4000000000 := by omega
  have hL1 := O.L.1
  have hL2 := O.L.2.1
  have hK1 := O.K.1
  have hK2 := O.K.2.1
  unfold maxLen at hL2 hK2
  obtain ⟨hv, hhv⟩ : ∃ hv, hv = headN (.mk 1 i ⟨#[]⟩ [] [] 0 0 x) := ⟨_, rfl⟩
  rw [← hhv] at HH
  have HHV := Lib.hid hhv
  clear O h hO hN hhv
  dsimp only [Val.k, Val.i, Val.s, Val.l, Val.ks, Val.tk, Val.to, Val.x] at *
  go_enter Try.func22, Try.ntmps22
  go_wp2_with fail
  generalize w.alloc _ = w0 at *
  refine HH.out.mono ?_
  rintro e w1 ⟨rfl, b1⟩
  have H1 := Lib.hid (And.intro (ownsRow_kept HO.out fun g hg => b1.block g (HO.out.lt g hg).2) b1)
  have HSZ : Hid (base ≤ w1.heap.size) := by have := b1.size; have := HZ.out; unfold Hid; omega
  clear b1
  go_wp2_with (at_builtin; go_must (refine wpList_append_lies _ rfl (.tmp 5) (.tmp 8) 22 rfl base 5 i5 _ 1 1 Try.underlying22 hi5 hz5 hs5 hb5 rfl (by omega) _ (N).length (bcs (N)) rfl (H1.out.1.alloc _) ⟨w1.heap.size, 0, none⟩ 1 1 [.int .u8 ((hv : Nat) : Int)] rfl rfl (World.news_of_block (heap_alloc_new _ _)) (fun u hu => by simp at hu; subst hu; rfl) (by omega) (by unfold maxLen; omega) (by omega) (by have := HSZ.out; simp; omega) (w1.heap.size + 1) (by simp) ?_))
  intro g cp w2 hown hgrow hat hlt2
  have H2 := Lib.hid (one_more rfl H1.out.1 hown hgrow)
  have L2 : Hid (LB base w w2) := ((LB.of_below HW.out).trans (.of_below H1.out.2)).trans H2.out.2
  have B2 : Hid (w2.heap[w.heap.size]? = some (.cells #[.int .i64 1, .int .i64 i, .string ⟨#[]⟩, .slice oL (([] : List Val)).length cL, .slice oK (([] : List ByteArray)).length cK, .int .i64 0, .int .i64 0, .bool x] 30 (0, 0))) := (((LB.of_below H1.out.2).trans H2.out.2).block w.heap.size (by have := HZ.out; omega) (.inr fun cur fz e => by rw [HB.out] at e; simp at e)).trans HB.out
  have HSZ2 : Hid (base ≤ w2.heap.size) := by have := L2.out.size; unfold Hid; omega
  clear hown hgrow hat HSZ
  have HSZ := HSZ2
  clear HSZ2
  obtain ⟨p0, p1, p2, p3, p4, p5, p6, p7, t0, t1, t2, t3, t4, t5, t6, t7, tl⟩ := b8_of B2.out
  have hv0 : headN (.mk 1 i ⟨#[]⟩ [] [] 0 0 x) = hv := HHV.out.symm
  have hNl : (N ++ [hv]).length ≤ 4000000001 := by rw [List.length_append, List.length_singleton]; omega
  have hi1 : i = ((i.toNat : Nat) : Int) := by omega
  obtain ⟨q, hq⟩ : ∃ q : Nat, i.toNat = q := ⟨_, rfl⟩
  have hq1 : q ≤ 1 := by omega
  rw [hq] at hi1
  have HQ := Lib.hid hq
  rw [hi1] at p1
  clear hi1 hq hb
  go_wp2_with (at_builtin; go_must (refine wpList_append_lies _ rfl (.tmp 14) (.tmp 18) 22 rfl base 5 i5 _ 1 1 Try.underlying22 hi5 hz5 hs5 hb5 rfl (by omega) _ (N ++ [hv]).length (bcs (N ++ [hv])) rfl (H2.out.1.alloc _) ⟨w2.heap.size, 0, none⟩ 1 1 [.int .u8 ((q : Nat) : Int)] rfl rfl (World.news_of_block (heap_alloc_new _ _)) (fun u hu => by simp at hu; subst hu; rfl) (by omega) (by unfold maxLen; omega) (by omega) (by have := HSZ.out; simp; omega) (w2.heap.size + 1) (by simp) ?_))
  intro g2 cp2 w3 hown hgrow hat hlt3
  have H3 := Lib.hid (one_more (n := N.length + 1) (by simp) (own_len H2.out.1 (by simp)) hown hgrow)
  clear hown hgrow hat
  go_wp2_with fail
  go_ret
  refine ⟨_, rfl, ?_, L2.out.trans H3.out.2⟩
  rw [HEN.out, ← List.length_append]
  exact cast_own H3.out.1 (by rw [← hv0, ← HQ.out]; simp [headN, Val.k, Val.x, List.append_assoc])
set_option maxHeartbeats 2000000 in
theorem laid_int (i : Int) (x : Bool) (hb : -9223372036854775808 ≤ i ∧ i ≤ 9223372036854775807) : LaidHolds (.mk 2 i ⟨#[]⟩ [] [] 0 0 x) := by
  intro base v N xv w h hO hbase hN
  obtain ⟨i5, hi5, hz5, hs5, hb5⟩ := info_parts info5
  obtain ⟨oL, oK, cL, cK, c, rfl, O⟩ := h.inv
  have HH := Lib.hid (head_any (w := w.alloc (.cells #[.int .i64 2, .int .i64 i, .string ⟨#[]⟩, .slice oL (([] : List Val)).length cL, .slice oK (([] : List ByteArray)).length cK, .int .i64 0, .int .i64 0, .bool x] 30)) (O.kept ((Below.refl base w).alloc hbase (.cells #[.int .i64 2, .int .i64 i, .string ⟨#[]⟩, .slice oL (([] : List Val)).length cL, .slice oK (([] : List ByteArray)).length cK, .int .i64 0, .int .i64 0, .bool x] 30))).lies ⟨show (0 : Int) ≤ 2 by decide, show (2 : Int) < 128 by decide⟩)
  have HOP := Lib.hid O
  have HEN := Lib.hid (enc_eq (.mk 2 i ⟨#[]⟩ [] [] 0 0 x))
  have HNB := Lib.hid hN
  have HW := Lib.hid ((Below.refl w.heap.size w).alloc (Nat.le_refl _) (.cells #[.int .i64 2, .int .i64 i, .string ⟨#[]⟩, .slice oL (([] : List Val)).length cL, .slice oK (([] : List ByteArray)).length cK, .int .i64 0, .int .i64 0, .bool x] 30))
  have HB : Hid ((w.alloc (.cells #[.int .i64 2, .int .i64 i, .string ⟨#[]⟩, .slice oL (([] : List Val)).length cL, .slice oK (([] : List ByteArray)).length cK, .int .i64 0, .int .i64 0, .bool x] 30)).heap[w.heap.size]? = some (.cells #[.int .i64 2, .int .i64 i, .string ⟨#[]⟩, .slice oL (([] : List Val)).length cL, .slice oK (([] : List ByteArray)).length cK, .int .i64 0, .int .i64 0, .bool x] 30 (0, 0))) := heap_alloc_new _ _
  have HZ : Hid ((w.alloc (.cells #[.int .i64 2, .int .i64 i, .string ⟨#[]⟩, .slice oL (([] : List Val)).length cL, .slice oK (([] : List ByteArray)).length cK, .int .i64 0, .int .i64 0, .bool x] 30)).heap.size = w.heap.size + 1) := by simp [Hid]
  have HO : Hid ((w.alloc (.cells #[.int .i64 2, .int .i64 i, .string ⟨#[]⟩, .slice oL (([] : List Val)).length cL, .slice oK (([] : List ByteArray)).length cK, .int .i64 0, .int .i64 0, .bool x] 30)).ownsRow base 5 1 v N.length (bcs N)) := hO.alloc _
  have hN1 : N.length ≤ 4000000000 := by omega
  have hL1 := O.L.1
  have hL2 := O.L.2.1
  have hK1 := O.K.1
  have hK2 := O.K.2.1
  unfold maxLen at hL2 hK2
  obtain ⟨hv, hhv⟩ : ∃ hv, hv = headN (.mk 2 i ⟨#[]⟩ [] [] 0 0 x) := ⟨_, rfl⟩
  rw [← hhv] at HH
  have HHV := Lib.hid hhv
  clear O h hO hN hhv
  dsimp only [Val.k, Val.i, Val.s, Val.l, Val.ks, Val.tk, Val.to, Val.x] at *
  go_enter Try.func22, Try.ntmps22
  go_wp2_with fail
  generalize w.alloc _ = w0 at *
  refine HH.out.mono ?_
  rintro e w1 ⟨rfl, b1⟩
  have H1 := Lib.hid (And.intro (ownsRow_kept HO.out fun g hg => b1.block g (HO.out.lt g hg).2) b1)
  have HSZ : Hid (base ≤ w1.heap.size) := by have := b1.size; have := HZ.out; unfold Hid; omega
  clear b1
  go_wp2_with (at_builtin; go_must (refine wpList_append_lies _ rfl (.tmp 5) (.tmp 8) 22 rfl base 5 i5 _ 1 1 Try.underlying22 hi5 hz5 hs5 hb5 rfl (by omega) _ (N).length (bcs (N)) rfl (H1.out.1.alloc _) ⟨w1.heap.size, 0, none⟩ 1 1 [.int .u8 ((hv : Nat) : Int)] rfl rfl (World.news_of_block (heap_alloc_new _ _)) (fun u hu => by simp at hu; subst hu; rfl) (by omega) (by unfold maxLen; omega) (by omega) (by have := HSZ.out; simp; omega) (w1.heap.size + 1) (by simp) ?_))
  intro g cp w2 hown hgrow hat hlt2
  have H2 := Lib.hid (one_more rfl H1.out.1 hown hgrow)
  have L2 : Hid (LB base w w2) := ((LB.of_below HW.out).trans (.of_below H1.out.2)).trans H2.out.2
  have B2 : Hid (w2.heap[w.heap.size]? = some (.cells #[.int .i64 2, .int .i64 i, .string ⟨#[]⟩, .slice oL (([] : List Val)).length cL, .slice oK (([] : List ByteArray)).length cK, .int .i64 0, .int .i64 0, .bool x] 30 (0, 0))) := (((LB.of_below H1.out.2).trans H2.out.2).block w.heap.size (by have := HZ.out; omega) (.inr fun cur fz e => by rw [HB.out] at e; simp at e)).trans HB.out
  have HSZ2 : Hid (base ≤ w2.heap.size) := by have := L2.out.size; unfold Hid; omega
  clear hown hgrow hat HSZ
  have HSZ := HSZ2
  clear HSZ2
  obtain ⟨p0, p1, p2, p3, p4, p5, p6, p7, t0, t1, t2, t3, t4, t5, t6, t7, tl⟩ := b8_of B2.out
  have hv0 : headN (.mk 2 i ⟨#[]⟩ [] [] 0 0 x) = hv := HHV.out.symm
  have hNl : (N ++ [hv]).length ≤ 4000000001 := by rw [List.length_append, List.length_singleton]; omega
  have hz64 := zg_lt hb.1 hb.2
  have ZG : Hid (∀ w, Calls Try.prog 39 #[.int .i64 i] w fun e w' => e = .returned (.int .u64 (zg i)) ∧ w = w') := fun w => zig_any i w hb.1 hb.2
  have hNl2 : (N ++ [hv]).length ≤ 4000000000 := by have := HNB.out; rw [HEN.out] at this; simp only [List.length_cons] at this; rw [List.length_append, List.length_singleton]; omega
  go_wp2_with fail
  refine (ZG.out _).mono ?_
  rintro e w3 ⟨rfl, rfl⟩
  go_wp2_with fail
  refine (laidShort_any (zg i) (by omega) H2.out.1 HSZ.out hNl2).mono ?_
  rintro e w3 hl3
  obtain ⟨v3, rfl, ho3, hb3⟩ := hl3.b H2.out.1
  have H3 := Lib.hid (And.intro ho3 hb3)
  clear hl3 ho3 hb3
  go_wp2_with fail
  go_ret
  refine ⟨_, rfl, ?_, L2.out.trans H3.out.2⟩
  rw [HEN.out, ← List.length_append]
  exact cast_own (len_own H3.out.1 List.length_append.symm) (by rw [← hv0]; simp [headN, Val.k, Val.x, List.append_assoc])
set_option maxHeartbeats 2000000 in
theorem laid_str (s : ByteArray) (x : Bool) (hb : s.size ≤ 1024) : LaidHolds (.mk 3 0 s [] [] 0 0 x) := by
  intro base v N xv w h hO hbase hN
  obtain ⟨i5, hi5, hz5, hs5, hb5⟩ := info_parts info5
  obtain ⟨oL, oK, cL, cK, c, rfl, O⟩ := h.inv
  have HH := Lib.hid (head_any (w := w.alloc (.cells #[.int .i64 3, .int .i64 0, .string s, .slice oL (([] : List Val)).length cL, .slice oK (([] : List ByteArray)).length cK, .int .i64 0, .int .i64 0, .bool x] 30)) (O.kept ((Below.refl base w).alloc hbase (.cells #[.int .i64 3, .int .i64 0, .string s, .slice oL (([] : List Val)).length cL, .slice oK (([] : List ByteArray)).length cK, .int .i64 0, .int .i64 0, .bool x] 30))).lies ⟨show (0 : Int) ≤ 3 by decide, show (3 : Int) < 128 by decide⟩)
  have HOP := Lib.hid O
  have HEN := Lib.hid (enc_eq (.mk 3 0 s [] [] 0 0 x))
  have HNB := Lib.hid hN
  have HW := Lib.hid ((Below.refl w.heap.size w).alloc (Nat.le_refl _) (.cells #[.int .i64 3, .int .i64 0, .string s, .slice oL (([] : List Val)).length cL, .slice oK (([] : List ByteArray)).length cK, .int .i64 0, .int .i64 0, .bool x] 30))
  have HB : Hid ((w.alloc (.cells #[.int .i64 3, .int .i64 0, .string s, .slice oL (([] : List Val)).length cL, .slice oK (([] : List ByteArray)).length cK, .int .i64 0, .int .i64 0, .bool x] 30)).heap[w.heap.size]? = some (.cells #[.int .i64 3, .int .i64 0, .string s, .slice oL (([] : List Val)).length cL, .slice oK (([] : List ByteArray)).length cK, .int .i64 0, .int .i64 0, .bool x] 30 (0, 0))) := heap_alloc_new _ _
  have HZ : Hid ((w.alloc (.cells #[.int .i64 3, .int .i64 0, .string s, .slice oL (([] : List Val)).length cL, .slice oK (([] : List ByteArray)).length cK, .int .i64 0, .int .i64 0, .bool x] 30)).heap.size = w.heap.size + 1) := by simp [Hid]
  have HO : Hid ((w.alloc (.cells #[.int .i64 3, .int .i64 0, .string s, .slice oL (([] : List Val)).length cL, .slice oK (([] : List ByteArray)).length cK, .int .i64 0, .int .i64 0, .bool x] 30)).ownsRow base 5 1 v N.length (bcs N)) := hO.alloc _
  have hN1 : N.length ≤ 4000000000 := by omega
  have hL1 := O.L.1
  have hL2 := O.L.2.1
  have hK1 := O.K.1
  have hK2 := O.K.2.1
  unfold maxLen at hL2 hK2
  obtain ⟨hv, hhv⟩ : ∃ hv, hv = headN (.mk 3 0 s [] [] 0 0 x) := ⟨_, rfl⟩
  rw [← hhv] at HH
  have HHV := Lib.hid hhv
  clear O h hO hN hhv
  dsimp only [Val.k, Val.i, Val.s, Val.l, Val.ks, Val.tk, Val.to, Val.x] at *
  go_enter Try.func22, Try.ntmps22
  go_wp2_with fail
  generalize w.alloc _ = w0 at *
  refine HH.out.mono ?_
  rintro e w1 ⟨rfl, b1⟩
  have H1 := Lib.hid (And.intro (ownsRow_kept HO.out fun g hg => b1.block g (HO.out.lt g hg).2) b1)
  have HSZ : Hid (base ≤ w1.heap.size) := by have := b1.size; have := HZ.out; unfold Hid; omega
  clear b1
  go_wp2_with (at_builtin; go_must (refine wpList_append_lies _ rfl (.tmp 5) (.tmp 8) 22 rfl base 5 i5 _ 1 1 Try.underlying22 hi5 hz5 hs5 hb5 rfl (by omega) _ (N).length (bcs (N)) rfl (H1.out.1.alloc _) ⟨w1.heap.size, 0, none⟩ 1 1 [.int .u8 ((hv : Nat) : Int)] rfl rfl (World.news_of_block (heap_alloc_new _ _)) (fun u hu => by simp at hu; subst hu; rfl) (by omega) (by unfold maxLen; omega) (by omega) (by have := HSZ.out; simp; omega) (w1.heap.size + 1) (by simp) ?_))
  intro g cp w2 hown hgrow hat hlt2
  have H2 := Lib.hid (one_more rfl H1.out.1 hown hgrow)
  have L2 : Hid (LB base w w2) := ((LB.of_below HW.out).trans (.of_below H1.out.2)).trans H2.out.2
  have B2 : Hid (w2.heap[w.heap.size]? = some (.cells #[.int .i64 3, .int .i64 0, .string s, .slice oL (([] : List Val)).length cL, .slice oK (([] : List ByteArray)).length cK, .int .i64 0, .int .i64 0, .bool x] 30 (0, 0))) := (((LB.of_below H1.out.2).trans H2.out.2).block w.heap.size (by have := HZ.out; omega) (.inr fun cur fz e => by rw [HB.out] at e; simp at e)).trans HB.out
  have HSZ2 : Hid (base ≤ w2.heap.size) := by have := L2.out.size; unfold Hid; omega
  clear hown hgrow hat HSZ
  have HSZ := HSZ2
  clear HSZ2
  obtain ⟨p0, p1, p2, p3, p4, p5, p6, p7, t0, t1, t2, t3, t4, t5, t6, t7, tl⟩ := b8_of B2.out
  have hv0 : headN (.mk 3 0 s [] [] 0 0 x) = hv := HHV.out.symm
  have hNl : (N ++ [hv]).length ≤ 4000000001 := by rw [List.length_append, List.length_singleton]; omega
  have hNl2 : (N ++ [hv]).length ≤ 4000000000 := by have := HNB.out; rw [HEN.out] at this; simp only [List.length_cons] at this; rw [List.length_append, List.length_singleton]; omega
  go_wp2_with fail
  refine (laidText_any s (by omega) H2.out.1 HSZ.out hNl2).mono ?_
  rintro e w3 ⟨v3, rfl, ho3, hb3⟩
  have H3 := Lib.hid (And.intro ho3 hb3)
  clear ho3 hb3
  go_wp2_with fail
  go_ret
  refine ⟨_, rfl, ?_, L2.out.trans H3.out.2⟩
  rw [HEN.out, ← List.length_append]
  exact cast_own (len_own H3.out.1 List.length_append.symm) (by rw [← hv0]; simp [headN, Val.k, Val.x, List.append_assoc])
set_option maxHeartbeats 2000000 in
theorem laid_unk (a b : Nat) (x : Bool) (hab : tok a b = true) (hb8 : b < 8) : LaidHolds (.mk 6 0 ⟨#[]⟩ [] [] a b x) := by
  intro base v N xv w h hO hbase hN
  obtain ⟨i5, hi5, hz5, hs5, hb5⟩ := info_parts info5
  obtain ⟨oL, oK, cL, cK, c, rfl, O⟩ := h.inv
  have HH := Lib.hid (head_any (w := w.alloc (.cells #[.int .i64 6, .int .i64 0, .string ⟨#[]⟩, .slice oL (([] : List Val)).length cL, .slice oK (([] : List ByteArray)).length cK, .int .i64 (a : Int), .int .i64 (b : Int), .bool x] 30)) (O.kept ((Below.refl base w).alloc hbase (.cells #[.int .i64 6, .int .i64 0, .string ⟨#[]⟩, .slice oL (([] : List Val)).length cL, .slice oK (([] : List ByteArray)).length cK, .int .i64 (a : Int), .int .i64 (b : Int), .bool x] 30))).lies ⟨show (0 : Int) ≤ 6 by decide, show (6 : Int) < 128 by decide⟩)
  have HOP := Lib.hid O
  have HEN := Lib.hid (enc_eq (.mk 6 0 ⟨#[]⟩ [] [] a b x))
  have HNB := Lib.hid hN
  have HW := Lib.hid ((Below.refl w.heap.size w).alloc (Nat.le_refl _) (.cells #[.int .i64 6, .int .i64 0, .string ⟨#[]⟩, .slice oL (([] : List Val)).length cL, .slice oK (([] : List ByteArray)).length cK, .int .i64 (a : Int), .int .i64 (b : Int), .bool x] 30))
  have HB : Hid ((w.alloc (.cells #[.int .i64 6, .int .i64 0, .string ⟨#[]⟩, .slice oL (([] : List Val)).length cL, .slice oK (([] : List ByteArray)).length cK, .int .i64 (a : Int), .int .i64 (b : Int), .bool x] 30)).heap[w.heap.size]? = some (.cells #[.int .i64 6, .int .i64 0, .string ⟨#[]⟩, .slice oL (([] : List Val)).length cL, .slice oK (([] : List ByteArray)).length cK, .int .i64 (a : Int), .int .i64 (b : Int), .bool x] 30 (0, 0))) := heap_alloc_new _ _
  have HZ : Hid ((w.alloc (.cells #[.int .i64 6, .int .i64 0, .string ⟨#[]⟩, .slice oL (([] : List Val)).length cL, .slice oK (([] : List ByteArray)).length cK, .int .i64 (a : Int), .int .i64 (b : Int), .bool x] 30)).heap.size = w.heap.size + 1) := by simp [Hid]
  have HO : Hid ((w.alloc (.cells #[.int .i64 6, .int .i64 0, .string ⟨#[]⟩, .slice oL (([] : List Val)).length cL, .slice oK (([] : List ByteArray)).length cK, .int .i64 (a : Int), .int .i64 (b : Int), .bool x] 30)).ownsRow base 5 1 v N.length (bcs N)) := hO.alloc _
  have hN1 : N.length ≤ 4000000000 := by omega
  have hL1 := O.L.1
  have hL2 := O.L.2.1
  have hK1 := O.K.1
  have hK2 := O.K.2.1
  unfold maxLen at hL2 hK2
  obtain ⟨hv, hhv⟩ : ∃ hv, hv = headN (.mk 6 0 ⟨#[]⟩ [] [] a b x) := ⟨_, rfl⟩
  rw [← hhv] at HH
  have HHV := Lib.hid hhv
  clear O h hO hN hhv
  dsimp only [Val.k, Val.i, Val.s, Val.l, Val.ks, Val.tk, Val.to, Val.x] at *
  go_enter Try.func22, Try.ntmps22
  go_wp2_with fail
  generalize w.alloc _ = w0 at *
  refine HH.out.mono ?_
  rintro e w1 ⟨rfl, b1⟩
  have H1 := Lib.hid (And.intro (ownsRow_kept HO.out fun g hg => b1.block g (HO.out.lt g hg).2) b1)
  have HSZ : Hid (base ≤ w1.heap.size) := by have := b1.size; have := HZ.out; unfold Hid; omega
  clear b1
  go_wp2_with (at_builtin; go_must (refine wpList_append_lies _ rfl (.tmp 5) (.tmp 8) 22 rfl base 5 i5 _ 1 1 Try.underlying22 hi5 hz5 hs5 hb5 rfl (by omega) _ (N).length (bcs (N)) rfl (H1.out.1.alloc _) ⟨w1.heap.size, 0, none⟩ 1 1 [.int .u8 ((hv : Nat) : Int)] rfl rfl (World.news_of_block (heap_alloc_new _ _)) (fun u hu => by simp at hu; subst hu; rfl) (by omega) (by unfold maxLen; omega) (by omega) (by have := HSZ.out; simp; omega) (w1.heap.size + 1) (by simp) ?_))
  intro g cp w2 hown hgrow hat hlt2
  have H2 := Lib.hid (one_more rfl H1.out.1 hown hgrow)
  have L2 : Hid (LB base w w2) := ((LB.of_below HW.out).trans (.of_below H1.out.2)).trans H2.out.2
  have B2 : Hid (w2.heap[w.heap.size]? = some (.cells #[.int .i64 6, .int .i64 0, .string ⟨#[]⟩, .slice oL (([] : List Val)).length cL, .slice oK (([] : List ByteArray)).length cK, .int .i64 (a : Int), .int .i64 (b : Int), .bool x] 30 (0, 0))) := (((LB.of_below H1.out.2).trans H2.out.2).block w.heap.size (by have := HZ.out; omega) (.inr fun cur fz e => by rw [HB.out] at e; simp at e)).trans HB.out
  have HSZ2 : Hid (base ≤ w2.heap.size) := by have := L2.out.size; unfold Hid; omega
  clear hown hgrow hat HSZ
  have HSZ := HSZ2
  clear HSZ2
  obtain ⟨p0, p1, p2, p3, p4, p5, p6, p7, t0, t1, t2, t3, t4, t5, t6, t7, tl⟩ := b8_of B2.out
  have hv0 : headN (.mk 6 0 ⟨#[]⟩ [] [] a b x) = hv := HHV.out.symm
  have hNl : (N ++ [hv]).length ≤ 4000000001 := by rw [List.length_append, List.length_singleton]; omega
  have hcode : code ((a : Int), (b : Int)) = ((8 * a + b : Nat) : Int) := by
    unfold code
    have : okB (a : Int) (b : Int) = true := hab
    simp only [this, if_true]; omega
  have ha5 : a ≤ 5 := by
    have := (ok_iff _ _).1 (show okB (a : Int) (b : Int) = true from hab); omega
  obtain ⟨q, hq⟩ : ∃ q : Nat, 8 * a + b = q := ⟨_, rfl⟩
  have CD : Hid (∀ w, Calls Try.prog 41 #[ty a b] w fun e w' => e = .returned (.int .u8 ((q : Nat) : Int)) ∧ Below w.heap.size w w') := fun w => by have := code_any (a : Int) (b : Int) w; rw [hcode, hq] at this; exact this
  have hq1 : q ≤ 255 := by omega
  have HQ := Lib.hid hq
  clear hq hcode hab
  go_wp2_with fail
  refine (CD.out _).mono ?_
  rintro e w3 ⟨rfl, b3⟩
  have H3 := Lib.hid (And.intro (ownsRow_kept H2.out.1 fun g hg => b3.block g (H2.out.1.lt g hg).2) b3)
  have HSZ3 : Hid (base ≤ w3.heap.size) := by have := b3.size; have := HSZ.out; unfold Hid; omega
  clear b3 HSZ
  have HSZ := HSZ3
  clear HSZ3
  go_wp2_with (at_builtin; go_must (refine wpList_append_lies _ rfl (.tmp 35) (.tmp 39) 22 rfl base 5 i5 _ 1 1 Try.underlying22 hi5 hz5 hs5 hb5 rfl (by omega) _ (N ++ [hv]).length (bcs (N ++ [hv])) rfl (H3.out.1.alloc _) ⟨w3.heap.size, 0, none⟩ 1 1 [.int .u8 ((q : Nat) : Int)] rfl rfl (World.news_of_block (heap_alloc_new _ _)) (fun u hu => by simp at hu; subst hu; rfl) (by omega) (by unfold maxLen; omega) (by omega) (by have := HSZ.out; simp; omega) (w3.heap.size + 1) (by simp) ?_))
  intro g2 cp2 w4 hown hgrow hat hlt3
  have H4 := Lib.hid (one_more (n := N.length + 1) (by simp) (own_len H3.out.1 (by simp)) hown hgrow)
  clear hown hgrow hat
  go_wp2_with fail
  go_ret
  refine ⟨_, rfl, ?_, (L2.out.trans (.of_below H3.out.2)).trans H4.out.2⟩
  rw [HEN.out, ← List.length_append]
  refine cast_own H4.out.1 ?_
  have h5 : (8 * (a : Int) + (b : Int)).toNat = q := by have := HQ.out; omega
  rw [← hv0]
  simp [headN, Val.k, Val.x, List.append_assoc, h5]
set_option maxHeartbeats 2000000 in
theorem laid_list (l : List Val) (x : Bool) (hl : l.length ≤ 128) (HL : ∀ y, y ∈ l → LaidHolds y) : LaidHolds (.mk 4 0 ⟨#[]⟩ l [] 0 0 x) := by
  intro base v N xv w h hO hbase hN
  obtain ⟨i5, hi5, hz5, hs5, hb5⟩ := info_parts info5
  obtain ⟨oL, oK, cL, cK, c, rfl, O⟩ := h.inv
  have HH := Lib.hid (head_any (w := w.alloc (.cells #[.int .i64 4, .int .i64 0, .string ⟨#[]⟩, .slice oL (l).length cL, .slice oK (([] : List ByteArray)).length cK, .int .i64 0, .int .i64 0, .bool x] 30)) (O.kept ((Below.refl base w).alloc hbase (.cells #[.int .i64 4, .int .i64 0, .string ⟨#[]⟩, .slice oL (l).length cL, .slice oK (([] : List ByteArray)).length cK, .int .i64 0, .int .i64 0, .bool x] 30))).lies ⟨show (0 : Int) ≤ 4 by decide, show (4 : Int) < 128 by decide⟩)
  have HOP := Lib.hid O
  have HEN := Lib.hid (enc_eq (.mk 4 0 ⟨#[]⟩ l [] 0 0 x))
  have HNB := Lib.hid hN
  have HW := Lib.hid ((Below.refl w.heap.size w).alloc (Nat.le_refl _) (.cells #[.int .i64 4, .int .i64 0, .string ⟨#[]⟩, .slice oL (l).length cL, .slice oK (([] : List ByteArray)).length cK, .int .i64 0, .int .i64 0, .bool x] 30))
  have HB : Hid ((w.alloc (.cells #[.int .i64 4, .int .i64 0, .string ⟨#[]⟩, .slice oL (l).length cL, .slice oK (([] : List ByteArray)).length cK, .int .i64 0, .int .i64 0, .bool x] 30)).heap[w.heap.size]? = some (.cells #[.int .i64 4, .int .i64 0, .string ⟨#[]⟩, .slice oL (l).length cL, .slice oK (([] : List ByteArray)).length cK, .int .i64 0, .int .i64 0, .bool x] 30 (0, 0))) := heap_alloc_new _ _
  have HZ : Hid ((w.alloc (.cells #[.int .i64 4, .int .i64 0, .string ⟨#[]⟩, .slice oL (l).length cL, .slice oK (([] : List ByteArray)).length cK, .int .i64 0, .int .i64 0, .bool x] 30)).heap.size = w.heap.size + 1) := by simp [Hid]
  have HO : Hid ((w.alloc (.cells #[.int .i64 4, .int .i64 0, .string ⟨#[]⟩, .slice oL (l).length cL, .slice oK (([] : List ByteArray)).length cK, .int .i64 0, .int .i64 0, .bool x] 30)).ownsRow base 5 1 v N.length (bcs N)) := hO.alloc _
  have hN1 : N.length ≤ 4000000000 := by omega
  have hL1 := O.L.1
  have hL2 := O.L.2.1
  have hK1 := O.K.1
  have hK2 := O.K.2.1
  unfold maxLen at hL2 hK2
  obtain ⟨hv, hhv⟩ : ∃ hv, hv = headN (.mk 4 0 ⟨#[]⟩ l [] 0 0 x) := ⟨_, rfl⟩
  rw [← hhv] at HH
  have HHV := Lib.hid hhv
  clear O h hO hN hhv
  dsimp only [Val.k, Val.i, Val.s, Val.l, Val.ks, Val.tk, Val.to, Val.x] at *
  go_enter Try.func22, Try.ntmps22
  go_wp2_with fail
  generalize w.alloc _ = w0 at *
  refine HH.out.mono ?_
  rintro e w1 ⟨rfl, b1⟩
  have H1 := Lib.hid (And.intro (ownsRow_kept HO.out fun g hg => b1.block g (HO.out.lt g hg).2) b1)
  have HSZ : Hid (base ≤ w1.heap.size) := by have := b1.size; have := HZ.out; unfold Hid; omega
  clear b1
  go_wp2_with (at_builtin; go_must (refine wpList_append_lies _ rfl (.tmp 5) (.tmp 8) 22 rfl base 5 i5 _ 1 1 Try.underlying22 hi5 hz5 hs5 hb5 rfl (by omega) _ (N).length (bcs (N)) rfl (H1.out.1.alloc _) ⟨w1.heap.size, 0, none⟩ 1 1 [.int .u8 ((hv : Nat) : Int)] rfl rfl (World.news_of_block (heap_alloc_new _ _)) (fun u hu => by simp at hu; subst hu; rfl) (by omega) (by unfold maxLen; omega) (by omega) (by have := HSZ.out; simp; omega) (w1.heap.size + 1) (by simp) ?_))
  intro g cp w2 hown hgrow hat hlt2
  have H2 := Lib.hid (one_more rfl H1.out.1 hown hgrow)
  have L2 : Hid (LB base w w2) := ((LB.of_below HW.out).trans (.of_below H1.out.2)).trans H2.out.2
  have B2 : Hid (w2.heap[w.heap.size]? = some (.cells #[.int .i64 4, .int .i64 0, .string ⟨#[]⟩, .slice oL (l).length cL, .slice oK (([] : List ByteArray)).length cK, .int .i64 0, .int .i64 0, .bool x] 30 (0, 0))) := (((LB.of_below H1.out.2).trans H2.out.2).block w.heap.size (by have := HZ.out; omega) (.inr fun cur fz e => by rw [HB.out] at e; simp at e)).trans HB.out
  have HSZ2 : Hid (base ≤ w2.heap.size) := by have := L2.out.size; unfold Hid; omega
  clear hown hgrow hat HSZ
  have HSZ := HSZ2
  clear HSZ2
  obtain ⟨p0, p1, p2, p3, p4, p5, p6, p7, t0, t1, t2, t3, t4, t5, t6, t7, tl⟩ := b8_of B2.out
  have hv0 : headN (.mk 4 0 ⟨#[]⟩ l [] 0 0 x) = hv := HHV.out.symm
  have hNl : (N ++ [hv]).length ≤ 4000000001 := by rw [List.length_append, List.length_singleton]; omega
  have hnn : (N ++ [hv]).length + (shrt l.length ++ encE false ([] : List ByteArray) (l.map enc) 0).length ≤ 4000000000 := by
    have := HNB.out
    rw [HEN.out] at this
    simp only [List.length_cons, List.length_append] at this ⊢
    simp at this ⊢
    omega
  have LE : Hid (∀ xv w3, Lies base w3 (.mk 4 0 ⟨#[]⟩ l [] 0 0 x) xv → w3.ownsRow base 5 1 _ (N ++ [hv]).length (bcs (N ++ [hv])) → base ≤ w3.heap.size → Calls Try.prog 42 #[_, xv] w3 (LongB base (N ++ [hv]) (shrt l.length ++ encE false ([] : List ByteArray) (l.map enc) 0) w3)) := fun xv w3 h1 h2 h3 => laidElements_any (V := (.mk 4 0 ⟨#[]⟩ l [] 0 0 x)) (v := .slice (some ⟨g, 0, none⟩) (N.length + 1) cp) false rfl (fun h => by cases h) (fun s h => by cases h) hl HL h1 h2 h3 hnn
  clear hnn hl HL
  go_wp2_with fail
  refine (LE.out _ _ (HOP.out.kept (L2.out.bel hbase)).lies H2.out.1 HSZ.out).mono ?_
  rintro e w3 ⟨v3, rfl, ho3, hb3⟩
  have H3 := Lib.hid (And.intro ho3 hb3)
  clear ho3 hb3
  go_wp2_with fail
  go_ret
  refine ⟨_, rfl, ?_, L2.out.trans H3.out.2⟩
  rw [HEN.out, ← List.length_append]
  exact cast_own (len_own H3.out.1 List.length_append.symm) (by rw [← hv0]; simp [headN, Val.k, Val.x, List.append_assoc])
set_option maxHeartbeats 2000000 in
theorem laid_map (l : List Val) (ks : List ByteArray) (x : Bool) (hl : l.length ≤ 128) (HL : ∀ y, y ∈ l → LaidHolds y) (hk : ks.length = l.length) (hks : ∀ s, s ∈ ks → s.size ≤ 1024) : LaidHolds (.mk 5 0 ⟨#[]⟩ l ks 0 0 x) := by
  intro base v N xv w h hO hbase hN
  have HKL := Lib.hid (And.intro hk hks)
  clear hk hks
  obtain ⟨i5, hi5, hz5, hs5, hb5⟩ := info_parts info5
  obtain ⟨oL, oK, cL, cK, c, rfl, O⟩ := h.inv
  have HH := Lib.hid (head_any (w := w.alloc (.cells #[.int .i64 5, .int .i64 0, .string ⟨#[]⟩, .slice oL (l).length cL, .slice oK (ks).length cK, .int .i64 0, .int .i64 0, .bool x] 30)) (O.kept ((Below.refl base w).alloc hbase (.cells #[.int .i64 5, .int .i64 0, .string ⟨#[]⟩, .slice oL (l).length cL, .slice oK (ks).length cK, .int .i64 0, .int .i64 0, .bool x] 30))).lies ⟨show (0 : Int) ≤ 5 by decide, show (5 : Int) < 128 by decide⟩)
  have HOP := Lib.hid O
  have HEN := Lib.hid (enc_eq (.mk 5 0 ⟨#[]⟩ l ks 0 0 x))
  have HNB := Lib.hid hN
  have HW := Lib.hid ((Below.refl w.heap.size w).alloc (Nat.le_refl _) (.cells #[.int .i64 5, .int .i64 0, .string ⟨#[]⟩, .slice oL (l).length cL, .slice oK (ks).length cK, .int .i64 0, .int .i64 0, .bool x] 30))
  have HB : Hid ((w.alloc (.cells #[.int .i64 5, .int .i64 0, .string ⟨#[]⟩, .slice oL (l).length cL, .slice oK (ks).length cK, .int .i64 0, .int .i64 0, .bool x] 30)).heap[w.heap.size]? = some (.cells #[.int .i64 5, .int .i64 0, .string ⟨#[]⟩, .slice oL (l).length cL, .slice oK (ks).length cK, .int .i64 0, .int .i64 0, .bool x] 30 (0, 0))) := heap_alloc_new _ _
  have HZ : Hid ((w.alloc (.cells #[.int .i64 5, .int .i64 0, .string ⟨#[]⟩, .slice oL (l).length cL, .slice oK (ks).length cK, .int .i64 0, .int .i64 0, .bool x] 30)).heap.size = w.heap.size + 1) := by simp [Hid]
  have HO : Hid ((w.alloc (.cells #[.int .i64 5, .int .i64 0, .string ⟨#[]⟩, .slice oL (l).length cL, .slice oK (ks).length cK, .int .i64 0, .int .i64 0, .bool x] 30)).ownsRow base 5 1 v N.length (bcs N)) := hO.alloc _
  have hN1 : N.length ≤ 4000000000 := by omega
  have hL1 := O.L.1
  have hL2 := O.L.2.1
  have hK1 := O.K.1
  have hK2 := O.K.2.1
  unfold maxLen at hL2 hK2
  obtain ⟨hv, hhv⟩ : ∃ hv, hv = headN (.mk 5 0 ⟨#[]⟩ l ks 0 0 x) := ⟨_, rfl⟩
  rw [← hhv] at HH
  have HHV := Lib.hid hhv
  clear O h hO hN hhv
  dsimp only [Val.k, Val.i, Val.s, Val.l, Val.ks, Val.tk, Val.to, Val.x] at *
  go_enter Try.func22, Try.ntmps22
  go_wp2_with fail
  generalize w.alloc _ = w0 at *
  refine HH.out.mono ?_
  rintro e w1 ⟨rfl, b1⟩
  have H1 := Lib.hid (And.intro (ownsRow_kept HO.out fun g hg => b1.block g (HO.out.lt g hg).2) b1)
  have HSZ : Hid (base ≤ w1.heap.size) := by have := b1.size; have := HZ.out; unfold Hid; omega
  clear b1
  go_wp2_with (at_builtin; go_must (refine wpList_append_lies _ rfl (.tmp 5) (.tmp 8) 22 rfl base 5 i5 _ 1 1 Try.underlying22 hi5 hz5 hs5 hb5 rfl (by omega) _ (N).length (bcs (N)) rfl (H1.out.1.alloc _) ⟨w1.heap.size, 0, none⟩ 1 1 [.int .u8 ((hv : Nat) : Int)] rfl rfl (World.news_of_block (heap_alloc_new _ _)) (fun u hu => by simp at hu; subst hu; rfl) (by omega) (by unfold maxLen; omega) (by omega) (by have := HSZ.out; simp; omega) (w1.heap.size + 1) (by simp) ?_))
  intro g cp w2 hown hgrow hat hlt2
  have H2 := Lib.hid (one_more rfl H1.out.1 hown hgrow)
  have L2 : Hid (LB base w w2) := ((LB.of_below HW.out).trans (.of_below H1.out.2)).trans H2.out.2
  have B2 : Hid (w2.heap[w.heap.size]? = some (.cells #[.int .i64 5, .int .i64 0, .string ⟨#[]⟩, .slice oL (l).length cL, .slice oK (ks).length cK, .int .i64 0, .int .i64 0, .bool x] 30 (0, 0))) := (((LB.of_below H1.out.2).trans H2.out.2).block w.heap.size (by have := HZ.out; omega) (.inr fun cur fz e => by rw [HB.out] at e; simp at e)).trans HB.out
  have HSZ2 : Hid (base ≤ w2.heap.size) := by have := L2.out.size; unfold Hid; omega
  clear hown hgrow hat HSZ
  have HSZ := HSZ2
  clear HSZ2
  obtain ⟨p0, p1, p2, p3, p4, p5, p6, p7, t0, t1, t2, t3, t4, t5, t6, t7, tl⟩ := b8_of B2.out
  have hv0 : headN (.mk 5 0 ⟨#[]⟩ l ks 0 0 x) = hv := HHV.out.symm
  have hNl : (N ++ [hv]).length ≤ 4000000001 := by rw [List.length_append, List.length_singleton]; omega
  have hnn : (N ++ [hv]).length + (shrt l.length ++ encE true ks (l.map enc) 0).length ≤ 4000000000 := by
    have := HNB.out
    rw [HEN.out] at this
    simp only [List.length_cons, List.length_append] at this ⊢
    simp at this ⊢
    omega
  have LE : Hid (∀ xv w3, Lies base w3 (.mk 5 0 ⟨#[]⟩ l ks 0 0 x) xv → w3.ownsRow base 5 1 _ (N ++ [hv]).length (bcs (N ++ [hv])) → base ≤ w3.heap.size → Calls Try.prog 42 #[_, xv] w3 (LongB base (N ++ [hv]) (shrt l.length ++ encE true ks (l.map enc) 0) w3)) := fun xv w3 h1 h2 h3 => laidElements_any (V := (.mk 5 0 ⟨#[]⟩ l ks 0 0 x)) (v := .slice (some ⟨g, 0, none⟩) (N.length + 1) cp) true rfl (fun _ => HKL.out.1) (HKL.out.2) hl HL h1 h2 h3 hnn
  clear hnn hl HL
  go_wp2_with fail
  refine (LE.out _ _ (HOP.out.kept (L2.out.bel hbase)).lies H2.out.1 HSZ.out).mono ?_
  rintro e w3 ⟨v3, rfl, ho3, hb3⟩
  have H3 := Lib.hid (And.intro ho3 hb3)
  clear ho3 hb3
  go_wp2_with fail
  go_ret
  refine ⟨_, rfl, ?_, L2.out.trans H3.out.2⟩
  rw [HEN.out, ← List.length_append]
  exact cast_own (len_own H3.out.1 List.length_append.symm) (by rw [← hv0]; simp [headN, Val.k, Val.x, List.append_assoc])
theorem laid_any : ∀ (d : Nat) (V : Val), Fine tok d V → LaidHolds V := by
  intro d
  induction d with
  | zero => intro V h; cases h
  | succ d ih =>
    intro V h
    cases h with
    | null _ x => exact laid_null x
    | bool _ i x h => exact laid_bool i x h
    | int _ i x h => exact laid_int i x h
    | str _ s x h => exact laid_str s x h
    | unk _ a b x h hb => exact laid_unk a b x h hb
    | list _ l x h he => exact laid_list l x h (fun y hy => ih y (he y hy))
    | map _ l ks x hk h hs hr he => exact laid_map l ks x h (fun y hy => ih y (he y hy)) hk (keys_small hs)
end Go.Proofs.Ytpmdkekjoocplaa

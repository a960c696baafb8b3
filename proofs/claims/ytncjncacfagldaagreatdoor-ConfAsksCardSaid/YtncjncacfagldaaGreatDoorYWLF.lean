import Derived.Test.YtncjncacfagldaaGreatDoorYWLE
namespace Go.Proofs.YtncjncacfagldaaGreatDoor
open Go.RowKit

abbrev tkc (k : Nat) (s : ByteArray) (n : Int) (v : Value) (p : Plc) : Array Value := #[.int .i64 k, .string s, .int .i64 n, v, .int .i64 p.a, .int .i64 p.l, .int .i64 p.c]
abbrev tkz : Array Value := #[.int .i64 0, .string ⟨#[]⟩, .int .i64 0, .slice none 0 0, .int .i64 0, .int .i64 0, .int .i64 0]
theorem rc7 {w : World} {b : Nat} {c0 c1 c2 c3 c4 c5 c6 : Value} {t : TypeId} (h : w.heap[b]? = some (.cells #[c0, c1, c2, c3, c4, c5, c6] t (0, 0))) :
 (w.cell? ⟨b, 0, none⟩ = some c0 ∧ w.cell? ⟨b, 1, none⟩ = some c1 ∧ w.cell? ⟨b, 2, none⟩ = some c2 ∧ w.cell? ⟨b, 3, none⟩ = some c3 ∧ w.cell? ⟨b, 4, none⟩ = some c4 ∧ w.cell? ⟨b, 5, none⟩ = some c5 ∧ w.cell? ⟨b, 6, none⟩ = some c6) ∧
 (w.frozen? ⟨b, 0, none⟩ = false ∧ w.frozen? ⟨b, 1, none⟩ = false ∧ w.frozen? ⟨b, 2, none⟩ = false ∧ w.frozen? ⟨b, 3, none⟩ = false ∧ w.frozen? ⟨b, 4, none⟩ = false ∧ w.frozen? ⟨b, 5, none⟩ = false ∧ w.frozen? ⟨b, 6, none⟩ = false) ∧ b < w.heap.size :=
 ⟨⟨cell_of_row w b 0 _ _ _ h, cell_of_row w b 1 _ _ _ h, cell_of_row w b 2 _ _ _ h, cell_of_row w b 3 _ _ _ h, cell_of_row w b 4 _ _ _ h, cell_of_row w b 5 _ _ _ h, cell_of_row w b 6 _ _ _ h⟩,
  ⟨frozen_of_row w b 0 _ _ h, frozen_of_row w b 1 _ _ h, frozen_of_row w b 2 _ _ h, frozen_of_row w b 3 _ _ h, frozen_of_row w b 4 _ _ h, frozen_of_row w b 5 _ _ h, frozen_of_row w b 6 _ _ h⟩, (Array.getElem?_eq_some_iff.1 h).1⟩
theorem below_set7 {B N : Nat} {w w1 : World} {v0 v1 v2 v3 v4 v5 v6 : Value} (h : Below B w w1) (hN : B ≤ N) :
 Below B w (((((((w1.setCell ⟨N, 0, none⟩ v0).setCell ⟨N, 1, none⟩ v1).setCell ⟨N, 2, none⟩ v2).setCell ⟨N, 3, none⟩ v3).setCell ⟨N, 4, none⟩ v4).setCell ⟨N, 5, none⟩ v5).setCell ⟨N, 6, none⟩ v6) :=
 ((((((h.setCell (p := ⟨N, 0, none⟩) hN _).setCell (p := ⟨N, 1, none⟩) hN _).setCell (p := ⟨N, 2, none⟩) hN _).setCell (p := ⟨N, 3, none⟩) hN _).setCell (p := ⟨N, 4, none⟩) hN _).setCell (p := ⟨N, 5, none⟩) hN _).setCell (p := ⟨N, 6, none⟩) hN _
theorem set7_other {N k : Nat} {w1 : World} {v0 v1 v2 v3 v4 v5 v6 : Value} (h : k ≠ N) :
 (((((((w1.setCell ⟨N, 0, none⟩ v0).setCell ⟨N, 1, none⟩ v1).setCell ⟨N, 2, none⟩ v2).setCell ⟨N, 3, none⟩ v3).setCell ⟨N, 4, none⟩ v4).setCell ⟨N, 5, none⟩ v5).setCell ⟨N, 6, none⟩ v6).heap[k]? = w1.heap[k]? := by
 rw [heap_setCell_other _ _ _ _ h, heap_setCell_other _ _ _ _ h, heap_setCell_other _ _ _ _ h, heap_setCell_other _ _ _ _ h, heap_setCell_other _ _ _ _ h, heap_setCell_other _ _ _ _ h, heap_setCell_other _ _ _ _ h]
theorem own_slice {w : World} {B e z n : Nat} {v : Value} {xs : List Value} (h : w.ownsRow B e z v n xs) : ∃ o l c, v = .slice o l c := by
 rcases h.2 with h | ⟨g, c, _, h, _⟩
 · exact ⟨_, _, _, h.1⟩
 · exact ⟨_, _, _, h⟩
theorem own_ty {w : World} {B e z n N : Nat} {v : Value} {xs : List Value} {cs : Array Value} {t : TypeId} {fr : Nat × Nat} (h : w.ownsRow B e z v n xs) (hN : w.heap[N]? = some (.cells cs t fr)) (ht : e ≠ t) : ∀ k, v.ownBlock = some k → k ≠ N := by
 intro k hk hkN
 subst hkN
 rcases h.2 with ⟨rfl, _⟩ | ⟨g, cap, cur, rfl, _, hg, _⟩
 · cases hk
 · simp only [Value.ownBlock, Option.some.injEq] at hk
   subst hk
   rw [hg] at hN
   simp only [Option.some.injEq, Obj.cells.injEq] at hN
   exact ht hN.2.1
def PtPost (w : World) (pb : Nat) (z : Int) (ps : List Prt) (n : Nat) (e : Ending) (w' : World) : Prop :=
 if 1024 < n then e = .returned (.tuple #[.agg tkz, .int .i64 0, .int .i64 3]) ∧ Below pb w w'
 else ∃ vl, e = .returned (.tuple #[.agg (tkc 3 ⟨#[]⟩ 0 vl noP), .int .i64 z, .int .i64 0]) ∧ w'.ownsRow (pb + 1) 130 5 vl ps.length (pcs ps) ∧ Below pb w w'
set_option maxHeartbeats 1000000 in
theorem ptoken_any {w : World} {pb : Nat} {vl vp : Value} {ps : List Prt} {b : List UInt8} {n : Nat} (P : Pb w pb vl vp ps b n) (hb : b.length ≤ 1000000) (hp : ps.length ≤ 1000000) (hn : n ≤ 1000000) (z : Int) :
 Calls Tryz.prog 144 #[.pointer (some ⟨pb, 0, none⟩), .int .i64 z] w (PtPost w pb z (flush ps b) n) := by
 have lt := P.lt
 obtain ⟨N, hN⟩ : ∃ N, N = w.heap.size := ⟨_, rfl⟩
 have hlN : pb < N := by omega
 have P1 := qh (P.keep (w' := w.alloc (.cells tkz 89)) fun k _ hk => ((Below.refl w.heap.size w).alloc (Nat.le_refl _) _).block k hk)
 have B1 : Hid (Below pb w (w.alloc (.cells tkz 89))) := (Below.refl pb w).alloc (by omega) _
 have HR1 : Hid ((w.alloc (.cells tkz 89)).heap[N]? = some (.cells tkz 89 (0, 0))) := by rw [hN]; exact heap_alloc_new _ _
 have EP := qh (endPiece_any P1.out hb hp)
 have HL : Hid (∀ g, vl.ownBlock = some g → g < N) := fun g hg => by have := (P.ol.lt g hg).2; omega
 clear P
 generalize flush ps b = ps2 at *
 by_cases h : 1024 < n
 · have h' : (1024 : Int) < n := by omega
   go_enter Tryz.func144, Tryz.ntmps144
   go_upto_region 1 with fail
   generalize w.alloc _ = w1 at *
   rw [← hN] at *
   obtain ⟨x0, x1, x2, f0, f1, f2, l2⟩ := lrc3 P1.out.row
   obtain ⟨⟨r0, r1, r2, r3, r4, r5, r6⟩, ⟨g0, g1, g2, g3, g4, g5, g6⟩, lN⟩ := rc7 HR1.out
   go_wp2_with fail
   refine bodyPost_ret (v := .tuple #[.agg tkz, .int .i64 0, .int .i64 3]) (by simp [results, Tryz.results144, go_sem, r0, r1, r2, r3, r4, r5, r6]) rfl ?_
   unfold PtPost
   rw [if_pos h]
   exact ⟨rfl, below_set7 B1.out (by omega)⟩
 · have h' : ¬ (1024 : Int) < n := by omega
   go_enter Tryz.func144, Tryz.ntmps144
   go_upto_region 1 with fail
   generalize w.alloc _ = w1 at *
   rw [← hN] at *
   obtain ⟨x0, x1, x2, f0, f1, f2, l2⟩ := lrc3 P1.out.row
   go_wp2_with fail
   refine EP.out.mono ?_
   rintro e w2 ⟨⟨rfl, ⟨vl2, vp2, P2⟩, B2⟩, OT⟩
   have HR2 := (OT N (by have := (Array.getElem?_eq_some_iff.1 HR1.out).1; omega) (by omega) (fun e => by have := (HL.out N e); omega)).trans HR1.out
   have B12 := qh (B1.out.trans B2)
   have HP2 := qh P2
   clear x0 x1 x2 f0 f1 f2 l2 OT B2
   obtain ⟨x0, x1, x2, f0, f1, f2, l2⟩ := lrc3 P2.row
   obtain ⟨⟨r0, r1, r2, r3, r4, r5, r6⟩, ⟨g0, g1, g2, g3, g4, g5, g6⟩, lN⟩ := rc7 HR2
   obtain ⟨vo, vn, vc, rfl⟩ := own_slice P2.ol
   have HR3 := qh HR2
   clear P2 HR2
   go_wp2_with fail
   refine bodyPost_ret (v := .tuple #[.agg (tkc 3 ⟨#[]⟩ 0 (.slice vo vn vc) noP), .int .i64 z, .int .i64 0]) (by simp [results, Tryz.results144, go_sem, r0, r1, r2, r3, r4, r5, r6, noP]) rfl ?_
   unfold PtPost
   rw [if_neg h]
   refine ⟨_, rfl, ownsRow_kept HP2.out.ol fun k hk => set7_other ?_, below_set7 B12.out (by omega)⟩
   exact own_ty HP2.out.ol HR3.out (by decide) k hk
open Go.RowKit

abbrev badT (e : Int) : Ending := .returned (.tuple #[.agg tkz, .int .i64 0, .int .i64 e])
abbrev okT (k : Nat) (s : ByteArray) (n : Int) (v : Value) (z : Int) : Ending := .returned (.tuple #[.agg (tkc k s n v noP), .int .i64 z, .int .i64 0])
def StrPost (w : World) (plb sb : Nat) (s : ByteArray) (N : Nat) (S0 : Option (List Prt × Nat × List UInt8)) (e : Ending) (w' : World) : Prop :=
 Fr plb N w w' ∧ match S0 with
  | none => e = badT 4 ∧ Plk w' plb sb s s.size
  | some (ps, n, r) => if 1024 < n then e = badT 3 ∧ Plk w' plb sb s s.size else ∃ vl, e = okT 3 ⟨#[]⟩ 0 vl ((s.size - r.length : Nat) : Int) ∧ w'.ownsRow N 130 5 vl ps.length (pcs ps) ∧ Plk w' plb sb s (s.size - r.length)
structure TRun (S0 : Option (List Prt × Nat × List UInt8)) (s : ByteArray) (plb sb pb N : Nat) (w0 wr : World) (k n : Nat) (ps : List Prt) (b : List UInt8) : Prop where
 P : ∃ vl vp, Pb wr pb vl vp ps b n
 K : Plk wr plb sb s k
 f : Fr plb N w0 wr
 r : wr.heap[N]? = some (.cells tkz 89 (0, 0))
 cb : b.length ≤ k
 cp : ps.length ≤ 2 * k
 cn : n ≤ k
 q : ∃ f, s.size - k < f ∧ strL f (s.data.toList.drop k) (plc s.data.toList k) b ps n = S0
structure TBad (S0 : Option (List Prt × Nat × List UInt8)) (s : ByteArray) (plb sb N : Nat) (w0 wr : World) : Prop where
 K : Plk wr plb sb s s.size
 f : Fr plb N w0 wr
 r : wr.heap[N]? = some (.cells tkz 89 (0, 0))
 q : S0 = none
def TRel (S0 : Option (List Prt × Nat × List UInt8)) (s : ByteArray) (plb sb pb N : Nat) (w0 : World) (x y : Value) (wr : World) : Prop :=
 (∃ k n ps b, k ≤ s.size ∧ x = .int .i64 (k : Int) ∧ y = .bool true ∧ TRun S0 s plb sb pb N w0 wr k n ps b) ∨ (x = .int .i64 0 ∧ y = .bool false ∧ TBad S0 s plb sb N w0 wr)
theorem ownsRow_base {w : World} {B B' e z n : Nat} {v : Value} {xs : List Value} (h : w.ownsRow B e z v n xs) (hB : B' ≤ B) : w.ownsRow B' e z v n xs := by
 refine ⟨h.1, ?_⟩
 rcases h.2 with hn | ⟨g, cap, cur, rfl, hg, rest⟩
 · exact .inl hn
 · exact .inr ⟨g, cap, cur, rfl, Nat.le_trans hB hg, rest⟩
theorem Plk.mono {w : World} {plb sb a b : Nat} {s : ByteArray} (h : Plk w plb sb s a) (hab : a ≤ b) : Plk w plb sb s b := by
 obtain ⟨k, hk, hp⟩ := h; exact ⟨k, by omega, hp⟩
theorem Plk.kept {w w' : World} {plb sb a m : Nat} {s : ByteArray} (h : Plk w plb sb s a) (hb : Below m w w') (h1 : plb < m) (h2 : sb < m) : Plk w' plb sb s a := by
 obtain ⟨k, hk, hp⟩ := h; exact ⟨k, hk, hp.kept hb h1 h2⟩
theorem strL_cons (f : Nat) (c : UInt8) (r : List UInt8) (p : Plc) (b : List UInt8) (ps : List Prt) (n : Nat) : strL (f + 1) (c :: r) p b ps n = (if c = 10 then none
 else if c = 34 then some (flush ps b, n, r)
 else match tk (c :: r) with
  | none => none
  | some (m, q) => strL f ((c :: r).drop m) (p.adv ((c :: r).take m)) (tkB b q) (tkP (p.adv ((c :: r).take 2)) ps b q) (tkN n q)) := rfl
theorem TRun.step {S0 : Option (List Prt × Nat × List UInt8)} {s : ByteArray} {plb sb pb N : Nat} {w0 wr w' : World} {k n m : Nat} {ps : List Prt} {b : List UInt8} {q : UInt8 ⊕ List UInt8} (h : TRun S0 s plb sb pb N w0 wr k n ps b) (hk : k < s.size) (h1 : s[k] ≠ 10) (h2 : s[k] ≠ 34) (hN : N < pb) (hplb : plb < N)
 (ht : tk ((lb s).drop k) = some (m, q)) (hP : ∃ vl vp, Pb w' pb vl vp (tkP (plc (lb s) (k + 2)) ps b q) (tkB b q) (tkN n q)) (hK : Plk w' plb sb s (k + m)) (hF : Fr plb pb wr w') : k + m ≤ s.size ∧ 0 < m ∧ TRun S0 s plb sb pb N w0 w' (k + m) (tkN n q) (tkP (plc (lb s) (k + 2)) ps b q) (tkB b q) := by
 have hm := tk_len ht
 have LS : (lb s).length = s.size := tp_L_len s
 rw [List.length_drop, LS] at hm
 refine ⟨by omega, hm.1, hP, hK, ?_, ?_, ?_, ?_, ?_, ?_⟩
 · exact ⟨hF.os.trans h.f.os, hF.tape.trans h.f.tape, hF.output.trans h.f.output, Nat.le_trans h.f.size hF.size, fun j hj hjp => (hF.block j (by omega) hjp).trans (h.f.block j hj hjp)⟩
 · exact (hF.block N hN (by omega)).trans h.r
 · have := h.cb
   cases q with
   | inl x => simp only [tkB, List.length_append, List.length_cons, List.length_nil]; omega
   | inr e => simp only [tkB, List.length_nil]; omega
 · have := h.cp
   have hf := flush_len ps b
   cases q with
   | inl x => simp only [tkP]; omega
   | inr e =>
     have : 3 ≤ m := by
      rw [drop_cons2 hk] at ht
      by_cases h92 : s[k] = 92
      · rw [h92] at ht
        cases hr : (lb s).drop (k + 1) with
        | nil => rw [hr] at ht; cases ht
        | cons d r' =>
          rw [hr, tk_e1] at ht
          cases hd : esc d with
          | none => rw [hd] at ht; cases ht
          | some x => rw [hd] at ht; cases ht
      · by_cases h36 : s[k] = 36 ∧ ((lb s).drop (k + 1)).head? = some 123
        · rw [h36.1, tk_x _ h36.2] at ht
          split at ht
          · simp only [Option.some.injEq, Prod.mk.injEq] at ht; omega
          · cases ht
        · rw [tk_b _ _ h92 h36] at ht; cases ht
     simp only [tkP, List.length_append, List.length_cons, List.length_nil]; omega
 · have := h.cn
   cases q with
   | inl x => simp only [tkN]; omega
   | inr e =>
     have : e.length ≤ m := by
      rw [drop_cons2 hk] at ht
      by_cases h92 : s[k] = 92
      · rw [h92] at ht
        cases hr : (lb s).drop (k + 1) with
        | nil => rw [hr] at ht; cases ht
        | cons d r' =>
          rw [hr, tk_e1] at ht
          cases hd : esc d with
          | none => rw [hd] at ht; cases ht
          | some x => rw [hd] at ht; cases ht
      · by_cases h36 : s[k] = 36 ∧ ((lb s).drop (k + 1)).head? = some 123
        · rw [h36.1, tk_x _ h36.2] at ht
          split at ht
          · simp only [Option.some.injEq, Prod.mk.injEq, Sum.inr.injEq] at ht
            obtain ⟨rfl, rfl⟩ := ht
            omega
          · cases ht
        · rw [tk_b _ _ h92 h36] at ht; cases ht
     simp only [tkN]; omega
 · obtain ⟨f, hf, hq⟩ := h.q
   obtain ⟨g, rfl⟩ : ∃ g, f = g + 1 := ⟨f - 1, by omega⟩
   refine ⟨g, by omega, ?_⟩
   rw [← hq]
   have hc := drop_cons2 hk
   have e1 : (plc (lb s) k).adv ((s[k] :: (lb s).drop (k + 1)).take m) = plc (lb s) (k + m) := by rw [← hc, plc_add]
   have e2 : (plc (lb s) k).adv ((s[k] :: (lb s).drop (k + 1)).take 2) = plc (lb s) (k + 2) := by rw [← hc, plc_add]
   rw [hc] at ht
   rw [hc, strL_cons, if_neg h1, if_neg h2, ht]
   simp only
   rw [e1, e2, ← hc, List.drop_drop]
theorem TRun.none {S0 : Option (List Prt × Nat × List UInt8)} {s : ByteArray} {plb sb pb N : Nat} {w0 wr : World} {k n : Nat} {ps : List Prt} {b : List UInt8} (h : TRun S0 s plb sb pb N w0 wr k n ps b) (hk : k ≤ s.size)
 (hn : k = s.size ∨ ∃ hk : k < s.size, s[k] = 10 ∨ (s[k] ≠ 10 ∧ s[k] ≠ 34 ∧ tk ((lb s).drop k) = Option.none)) : TBad S0 s plb sb N w0 wr := by
 refine ⟨h.K.mono hk, h.f, h.r, ?_⟩
 obtain ⟨f, hf, hq⟩ := h.q
 obtain ⟨g, rfl⟩ : ∃ g, f = g + 1 := ⟨f - 1, by omega⟩
 have LS : (lb s).length = s.size := tp_L_len s
 rw [← hq]
 rcases hn with hn | ⟨hk, hn⟩
 · rw [List.drop_eq_nil_of_le (by show (lb s).length ≤ k; omega)]; rfl
 · have hc := drop_cons2 hk
   rcases hn with hn | ⟨h1, h2, h3⟩
   · rw [hc, strL_cons, if_pos hn]
   · rw [hc] at h3
     rw [hc, strL_cons, if_neg h1, if_neg h2, h3]
theorem TRun.quote {S0 : Option (List Prt × Nat × List UInt8)} {s : ByteArray} {plb sb pb N : Nat} {w0 wr : World} {k n : Nat} {ps : List Prt} {b : List UInt8} (h : TRun S0 s plb sb pb N w0 wr k n ps b) (hk : k < s.size) (hc : s[k] = 34) : S0 = some (flush ps b, n, (lb s).drop (k + 1)) := by
 obtain ⟨f, hf, hq⟩ := h.q
 obtain ⟨g, rfl⟩ : ∃ g, f = g + 1 := ⟨f - 1, by omega⟩
 rw [← hq, drop_cons2 hk, strL_cons, if_neg (by rw [hc]; decide), if_pos hc]
theorem bad_fin {S0 : Option (List Prt × Nat × List UInt8)} {s : ByteArray} {plb sb N : Nat} {w0 wr : World} {v0 v1 v2 v3 v4 v5 v6 : Value} (h : TBad S0 s plb sb N w0 wr) (h1 : plb < N) (h2 : sb < N) :
 StrPost w0 plb sb s N S0 (badT 4) (((((((wr.setCell ⟨N, 0, none⟩ v0).setCell ⟨N, 1, none⟩ v1).setCell ⟨N, 2, none⟩ v2).setCell ⟨N, 3, none⟩ v3).setCell ⟨N, 4, none⟩ v4).setCell ⟨N, 5, none⟩ v5).setCell ⟨N, 6, none⟩ v6) := by
 have hb := below_set7 (v0 := v0) (v1 := v1) (v2 := v2) (v3 := v3) (v4 := v4) (v5 := v5) (v6 := v6) (Below.refl N wr) (Nat.le_refl N)
 refine ⟨h.f.below hb, ?_⟩
 rw [h.q]
 exact ⟨rfl, h.K.kept hb h1 h2⟩
theorem pl_ne0 {w : World} {plb sb a : Nat} {s : ByteArray} (hT : Tab w) (K : Plk w plb sb s a) : plb ≠ 2 := by
 obtain ⟨k, _, P⟩ := K
 intro h
 subst h
 have h1 := P.rc.1
 rw [hT.2 0 (by decide)] at h1
 cases h1
theorem Tab.fr {w w' : World} {plb N : Nat} (hT : Tab w) (hF : Fr plb N w w') (h0 : plb ≠ 2) (hN : 2 < N) : Tab w' :=
 ⟨Nat.lt_of_lt_of_le hT.1 hF.size, fun i hi => (World.cell?_of_block (a := ⟨2, i, none⟩) (hF.block 2 hN (by omega))).trans (hT.2 i hi)⟩
set_option maxRecDepth 100000 in
set_option maxHeartbeats 2000000 in
theorem ltext_any {w : World} {plb sb a : Nat} {s : ByteArray} (K : Plk w plb sb s (a + 1)) (hT : Tab w) (hs : s.size ≤ 32768) (ha : a < s.size) {S0 : Option (List Prt × Nat × List UInt8)} (hS : strL (((lb s).drop (a + 1)).length + 1) ((lb s).drop (a + 1)) (plc (lb s) (a + 1)) [] [] 0 = S0) :
 Calls Tryz.prog 112 #[.string s, .int .i64 a, plF plb sb] w (StrPost w plb sb s w.heap.size S0) := by
 obtain ⟨N, hN⟩ : ∃ N, N = w.heap.size := ⟨_, rfl⟩
 have LS : (lb s).length = s.size := tp_L_len s
 have hplb : plb < N := by obtain ⟨k, _, hp⟩ := K; rw [hN]; exact hp.lt
 have hsb : sb < N := by obtain ⟨k, _, hp⟩ := K; rw [hN]; exact hp.ltS
 have HW : Hid (Below N w ((w.alloc (.cells tkz 89)).alloc (.cells #[.slice none 0 0, .slice none 0 0, .int .i64 0] 183))) := ((Below.refl N w).alloc (by omega) _).alloc (by simp; omega) _
 have HR : Hid (TRun S0 s plb sb (N + 1) N w ((w.alloc (.cells tkz 89)).alloc (.cells #[.slice none 0 0, .slice none 0 0, .int .i64 0] 183)) (a + 1) 0 [] []) := by
  refine ⟨⟨.slice none 0 0, .slice none 0 0, ?_, World.ownsRow_nil _ _ _ _, World.ownsRow_nil _ _ _ _⟩, K.kept HW.out hplb hsb, (Fr.refl plb N w).below HW.out, ?_, by simp, by simp, by simp, ⟨_, ?_, hS⟩⟩
  · have := heap_alloc_new (w.alloc (.cells tkz 89)) (.cells #[.slice none 0 0, .slice none 0 0, .int .i64 0] 183)
    rw [show (w.alloc (.cells tkz 89)).heap.size = N + 1 by simp [hN]] at this
    exact this
  · rw [hN]; exact ((Below.refl (w.heap.size + 1) (w.alloc _)).alloc (by simp) _).block _ (Nat.lt_succ_self _) |>.trans (heap_alloc_new w _)
  · rw [List.length_drop, LS]; omega
 have hax : (a : Int) + 1 ≤ 40000 := by omega
 have HT := qh hT
 have hp0 := pl_ne0 hT K
 have hT0 : 2 < N := by rw [hN]; exact hT.1
 clear hS K hT LS HW
 rw [← hN]
 go_enter Tryz.func112, Tryz.ntmps112
 go_upto_region 3 with fail
 rw [← hN]
 clear hN
 generalize (World.alloc w _).alloc _ = w0 at *
 have HTB : Hid (∀ W, Fr plb N w W → Tab W) := fun W hF => HT.out.fr hF hp0 hT0
 go_loopw [10, 11] (fun x y wr => TRel S0 s plb sb (N + 1) N w x y wr) (fun x y _ => match y with | .bool true => s.size + 1 - (intOf x).toNat | _ => 0)
 case atStart => exact .inl ⟨a + 1, 0, [], [], by omega, by go_num, rfl, HR.out⟩
 case round =>
  rcases hrel with ⟨k, n, ps, b, hk, rfl, rfl, H⟩ | ⟨rfl, rfl, H⟩
  · have HH := qh H
    by_cases hlt : k < s.size
    · have hlt' : (k : Int) < s.size := by omega
      by_cases c10 : s[k] = 10
      · have HBD := qh (H.none hk (.inr ⟨hlt, .inl c10⟩))
        have t1 : ((s[k].toNat : Int) != 10) = false := by rw [c10]; rfl
        obtain ⟨⟨r0, r1, r2, r3, r4, r5, r6⟩, ⟨g0, g1, g2, g3, g4, g5, g6⟩, lN⟩ := rc7 H.r
        clear c10 H
        go_wp2_with fail
        refine bodyPost_ret (v := .tuple #[.agg tkz, .int .i64 0, .int .i64 4]) (by simp [results, Tryz.results112, go_sem, r0, r1, r2, r3, r4, r5, r6]) rfl ?_
        exact bad_fin HBD.out hplb hsb
      · have t1 : ((s[k].toNat : Int) != 10) = true := by
         rw [bne_iff_ne]; exact fun h => c10 (UInt8.toNat_inj.1 (by have : (10 : UInt8).toNat = 10 := rfl; omega))
        by_cases c34 : s[k] = 34
        · have HQ := qh (H.quote hlt c34)
          have t2 : ((s[k].toNat : Int) == 34) = true := by rw [c34]; rfl
          obtain ⟨vl, vp, P⟩ := H.P
          have b1 := H.cb
          have b2 := H.cp
          have b3 := H.cn
          have C := qh (ptoken_any P (by omega) (by omega) (by omega) ((k : Int) + 1))
          clear P b1 b2 b3 c10 c34 H
          go_wp2_with fail
          refine C.out.mono ?_
          rintro e w2 hpt
          unfold PtPost at hpt
          by_cases h24 : 1024 < n
          · rw [if_pos h24] at hpt
            obtain ⟨rfl, hB⟩ := hpt
            have HB := qh hB
            have H24 := qh h24
            obtain ⟨⟨r0, r1, r2, r3, r4, r5, r6⟩, ⟨g0, g1, g2, g3, g4, g5, g6⟩, lN⟩ := rc7 ((hB.block N (Nat.lt_succ_self N)).trans HH.out.r)
            clear hB h24
            go_wp2_with fail
            refine bodyPost_ret (v := .tuple #[.agg tkz, .int .i64 0, .int .i64 3]) (by simp [results, Tryz.results112, go_sem, r0, r1, r2, r3, r4, r5, r6]) rfl ?_
            have hb := below_set7 (v0 := .int .i64 0) (v1 := .string ⟨#[]⟩) (v2 := .int .i64 0) (v3 := .slice none 0 0) (v4 := .int .i64 0) (v5 := .int .i64 0) (v6 := .int .i64 0) (HB.out.mono (Nat.le_succ N)) (Nat.le_refl N)
            refine ⟨HH.out.f.below hb, ?_⟩
            rw [HQ.out]
            simp only
            rw [if_pos H24.out]
            exact ⟨trivial, (HH.out.K.mono hk).kept hb hplb hsb⟩
          · rw [if_neg h24] at hpt
            obtain ⟨vl2, rfl, hO, hB⟩ := hpt
            obtain ⟨vo, vn, vc, rfl⟩ := own_slice hO
            have hrow := (hB.block N (Nat.lt_succ_self N)).trans HH.out.r
            have HO := qh (And.intro hO (own_ty hO hrow (by decide)))
            have HB := qh hB
            have H24 := qh h24
            obtain ⟨⟨r0, r1, r2, r3, r4, r5, r6⟩, ⟨g0, g1, g2, g3, g4, g5, g6⟩, lN⟩ := rc7 hrow
            clear hB h24 hO hrow
            go_wp2_with fail
            refine bodyPost_ret (v := .tuple #[.agg (tkc 3 ⟨#[]⟩ 0 (.slice vo vn vc) noP), .int .i64 ((k : Int) + 1), .int .i64 0]) (by simp [results, Tryz.results112, go_sem, r0, r1, r2, r3, r4, r5, r6, noP]) rfl ?_
            have hb := below_set7 (v0 := .int .i64 3) (v1 := .string ⟨#[]⟩) (v2 := .int .i64 0) (v3 := .slice vo vn vc) (v4 := .int .i64 0) (v5 := .int .i64 0) (v6 := .int .i64 0) (HB.out.mono (Nat.le_succ N)) (Nat.le_refl N)
            refine ⟨HH.out.f.below hb, ?_⟩
            rw [HQ.out]
            simp only
            rw [if_neg H24.out]
            have hpos : s.size - ((lb s).drop (k + 1)).length = k + 1 := by rw [List.length_drop, tp_L_len]; omega
            rw [hpos]
            exact ⟨.slice vo vn vc, rfl, ownsRow_kept (ownsRow_base HO.out.1 (by omega)) fun g hg => set7_other (HO.out.2 g hg), (HH.out.K.mono (Nat.le_succ k)).kept hb hplb hsb⟩
        · have t2 : ((s[k].toNat : Int) == 34) = false := by
           rw [beq_eq_false_iff_ne]; exact fun h => c34 (UInt8.toNat_inj.1 (by have : (34 : UInt8).toNat = 34 := rfl; omega))
          obtain ⟨vl, vp, P⟩ := H.P
          have b1 := H.cb
          have b2 := H.cp
          have b3 := H.cn
          have C := qh (take_any P H.K (HTB.out _ H.f) hs hlt (by omega) (by omega) (by omega) (by omega) (by omega))
          have HC10 := qh c10
          have HC34 := qh c34
          clear P b1 b2 b3 c10 c34 H
          go_wp2_with fail
          refine C.out.mono ?_
          rintro e w2 hpt
          unfold TakePost at hpt
          cases htk : tk ((lb s).drop k) with
          | none =>
            rw [htk] at hpt
            obtain ⟨rfl, rfl⟩ := hpt
            have HBD := qh (HH.out.none hk (.inr ⟨hlt, .inr ⟨HC10.out, HC34.out, htk⟩⟩))
            clear htk
            go_wp2_with fail
            go_roundw
            case rel => exact .inr ⟨rfl, rfl, HBD.out⟩
            case measure => simp [intOf]; omega
          | some mq =>
            obtain ⟨m, q⟩ := mq
            rw [htk] at hpt
            obtain ⟨rfl, hP, hK, hF⟩ := hpt
            obtain ⟨st1, st2, st3⟩ := HH.out.step hlt HC10.out HC34.out (by omega) hplb htk hP hK hF
            have HST := qh st3
            clear htk hP hK hF st3
            go_wp2_with fail
            go_roundw
            case rel => exact .inl ⟨k + m, _, _, _, st1, rfl, rfl, HST.out⟩
            case measure => simp [intOf]; omega
    · have hke : k = s.size := by omega
      have HBD := qh (H.none hk (.inl hke))
      have hlt' : ¬ (k : Int) < s.size := by omega
      obtain ⟨⟨r0, r1, r2, r3, r4, r5, r6⟩, ⟨g0, g1, g2, g3, g4, g5, g6⟩, lN⟩ := rc7 H.r
      clear hke H
      go_wp2_with fail
      refine bodyPost_ret (v := .tuple #[.agg tkz, .int .i64 0, .int .i64 4]) (by simp [results, Tryz.results112, go_sem, r0, r1, r2, r3, r4, r5, r6]) rfl ?_
      exact bad_fin HBD.out hplb hsb
  · have HBD := qh H
    obtain ⟨⟨r0, r1, r2, r3, r4, r5, r6⟩, ⟨g0, g1, g2, g3, g4, g5, g6⟩, lN⟩ := rc7 H.r
    clear H
    go_wp2_with fail
    refine bodyPost_ret (v := .tuple #[.agg tkz, .int .i64 0, .int .i64 4]) (by simp [results, Tryz.results112, go_sem, r0, r1, r2, r3, r4, r5, r6]) rfl ?_
    exact bad_fin HBD.out hplb hsb
end Go.Proofs.YtncjncacfagldaaGreatDoor

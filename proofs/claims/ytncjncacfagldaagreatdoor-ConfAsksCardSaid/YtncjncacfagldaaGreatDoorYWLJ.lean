import Derived.Test.YtncjncacfagldaaGreatDoorYWLH
namespace Go.Proofs.YtncjncacfagldaaGreatDoor
open Go.RowKit

theorem suf_drop {r l : List UInt8} (h : r <:+ l) : l.drop (l.length - r.length) = r := by
 obtain ⟨t, rfl⟩ := h
 rw [List.length_append, Nat.add_sub_cancel, List.drop_left]
theorem dropP_suf (p : Nat → Bool) (l : List UInt8) : dropP p l <:+ l := List.dropWhile_suffix _
theorem skc_suf : ∀ (f : Nat) (l : List UInt8), skc f l <:+ l
 | 0, l => List.suffix_refl l
 | f + 1, [] => List.suffix_refl _
 | f + 1, c :: r => by
   rw [skc]
   split
   · exact ((skc_suf f _).trans (dropP_suf _ _)).trans (dropP_suf _ _)
   · exact List.suffix_refl _
theorem skip_suf (l : List UInt8) : skip l <:+ l := (skc_suf _ _).trans (dropP_suf _ _)
theorem strL_suf : ∀ (f : Nat) (l : List UInt8) (p : Plc) (b : List UInt8) (ps : List Prt) (n : Nat) (a : List Prt) (m : Nat) (r : List UInt8), strL f l p b ps n = some (a, m, r) → r <:+ l
 | 0, _, _, _, _, _, _, _, _, h => by cases h
 | f + 1, [], _, _, _, _, _, _, _, h => by cases h
 | f + 1, c :: t, p, b, ps, n, a, m, r, h => by
   rw [strL_cons] at h
   split at h
   · cases h
   · split at h
     · simp only [Option.some.injEq, Prod.mk.injEq] at h
       rw [← h.2.2]; exact List.suffix_cons _ _
     · cases ht : tk (c :: t) with
       | none => rw [ht] at h; cases h
       | some q =>
         obtain ⟨k, q⟩ := q
         rw [ht] at h
         exact (strL_suf f _ _ _ _ _ _ _ _ h).trans (List.drop_suffix _ _)
theorem tokL_suf {p : Plc} {c : UInt8} {r x : List UInt8} {t : Tkn} (h : tokL p (c :: r) = .ok (t, x)) : x <:+ (c :: r) ∧ x.length < (c :: r).length ∧ t.p = p := by
 have hw : isWord c.toNat = true → (dropP isWord (c :: r)).length < (c :: r).length := fun hw => by
  rw [dropP_cons_yes _ _ _ hw]
  have := dropP_le isWord r
  simp only [List.length_cons]; omega
 have h : (if isLetter c.toNat = true then (if 24 < (takeP isWord (c :: r)).length then .error 3 else .ok (⟨1, takeP isWord (c :: r), 0, [], p⟩, dropP isWord (c :: r)))
  else if isDgt c.toNat = true then (if pe (takeP isWord (c :: r)) false = 0 then .ok (⟨2, [], pv (takeP isWord (c :: r)) false, [], p⟩, dropP isWord (c :: r)) else .error (pe (takeP isWord (c :: r)) false).toNat)
  else if c = 34 then strE p (strL (r.length + 1) r (p.step c) [] [] 0)
  else if sgn (c :: r) = 0 then .error 23 else .ok (⟨4, (c :: r).take (sgn (c :: r)), 0, [], p⟩, (c :: r).drop (sgn (c :: r)))) = .ok (t, x) := by
  rw [← h]
  show _ = (if isLetter c.toNat = true then _ else if isDgt c.toNat = true then _ else if c = 34 then _ else _)
  congr
 by_cases hl : isLetter c.toNat = true
 · rw [if_pos hl] at h
   split at h
   · cases h
   · simp only [Except.ok.injEq, Prod.mk.injEq] at h
     obtain ⟨rfl, rfl⟩ := h
     exact ⟨dropP_suf _ _, hw (by unfold isWord; rw [hl, Bool.or_true]), rfl⟩
 · rw [if_neg hl] at h
   by_cases hd : isDgt c.toNat = true
   · rw [if_pos hd] at h
     split at h
     · simp only [Except.ok.injEq, Prod.mk.injEq] at h
       obtain ⟨rfl, rfl⟩ := h
       exact ⟨dropP_suf _ _, hw (by unfold isWord; rw [hd, Bool.true_or]), rfl⟩
     · cases h
   · rw [if_neg hd] at h
     split at h
     · cases hs : strL (r.length + 1) r (p.step c) [] [] 0 with
       | none => rw [hs] at h; cases h
       | some S =>
         obtain ⟨a, m, y⟩ := S
         rw [hs] at h
         unfold strE at h
         simp only at h
         split at h
         · cases h
         · simp only [Except.ok.injEq, Prod.mk.injEq] at h
           obtain ⟨rfl, rfl⟩ := h
           have := strL_suf _ _ _ _ _ _ _ _ _ hs
           exact ⟨this.trans (List.suffix_cons _ _), by have := this.length_le; simp only [List.length_cons]; omega, rfl⟩
     · split at h
       · cases h
       · rename_i h0
         simp only [Except.ok.injEq, Prod.mk.injEq] at h
         obtain ⟨rfl, rfl⟩ := h
         exact ⟨List.drop_suffix _ _, by rw [List.length_drop]; simp only [List.length_cons]; omega, rfl⟩
def consT (acc : List Tkn) (r : Except (Nat × Plc) (List Tkn)) : Except (Nat × Plc) (List Tkn) := match r with
 | .error e => .error e
 | .ok ts => .ok (acc ++ ts)
theorem consT_nil (r : Except (Nat × Plc) (List Tkn)) : consT [] r = r := by cases r <;> rfl
theorem skip_at (L : List UInt8) (k : Nat) (hk : k ≤ L.length) : L.drop (btw L k) = skip (L.drop k) ∧ k ≤ btw L k ∧ btw L k ≤ L.length := by
 have h := skip_suf (L.drop k)
 have h2 := h.length_le
 rw [List.length_drop] at h2
 have h3 : skip (L.drop k) <:+ L := h.trans (List.drop_suffix _ _)
 unfold btw
 exact ⟨suf_drop h3, by omega, by omega⟩
theorem plc_at (L : List UInt8) (k : Nat) (hk : k ≤ L.length) : (plc L k).adv ((L.drop k).take ((L.drop k).length - (skip (L.drop k)).length)) = plc L (btw L k) := by
 obtain ⟨h1, h2, h3⟩ := skip_at L k hk
 rw [plc_add, List.length_drop]
 have h := (skip_suf (L.drop k)).length_le
 rw [List.length_drop] at h
 unfold btw
 congr 1; omega
theorem allL_end {L : List UInt8} {k f : Nat} (hk : k ≤ L.length) (h : btw L k = L.length) : allL (f + 1) (plc L k) (L.drop k) = .ok [⟨0, [], 0, [], plc L L.length⟩] := by
 obtain ⟨h1, h2, h3⟩ := skip_at L k hk
 have hp := plc_at L k hk
 rw [h, List.drop_length] at h1
 rw [← h1, List.length_nil, Nat.sub_zero, List.take_length, h] at hp
 rw [allL, ← h1]
 simp only
 rw [hp]
theorem allL_err {L : List UInt8} {k f e : Nat} (hk : k ≤ L.length) (h : btw L k < L.length) (ht : tokL (plc L (btw L k)) (L.drop (btw L k)) = .error e) : allL (f + 1) (plc L k) (L.drop k) = .error (e, plc L (btw L k)) := by
 obtain ⟨h1, h2, h3⟩ := skip_at L k hk
 have hp := plc_at L k hk
 rw [h1] at ht
 cases hs : skip (L.drop k) with
 | nil => rw [hs] at h1; have := congrArg List.length h1; rw [List.length_drop] at this; simp at this; omega
 | cons c r =>
   rw [hs] at hp ht
   rw [List.length_cons] at hp
   rw [allL, hs]
   simp only
   rw [hp, ht]
theorem allL_tok {L r : List UInt8} {k f : Nat} {t : Tkn} (hk : k ≤ L.length) (h : btw L k < L.length) (ht : tokL (plc L (btw L k)) (L.drop (btw L k)) = .ok (t, r)) : allL (f + 1) (plc L k) (L.drop k) = consT [t] (allL f (plc L (L.length - r.length)) (L.drop (L.length - r.length))) ∧ btw L k < L.length - r.length ∧ L.length - r.length ≤ L.length ∧ t.p = plc L (btw L k) := by
 obtain ⟨h1, h2, h3⟩ := skip_at L k hk
 have hp := plc_at L k hk
 have ht0 := ht
 rw [h1] at ht
 cases hs : skip (L.drop k) with
 | nil => rw [hs] at h1; have := congrArg List.length h1; rw [List.length_drop] at this; simp at this; omega
 | cons c x =>
   rw [hs] at hp ht
   obtain ⟨q1, q2, q3⟩ := tokL_suf ht
   have q4 : r <:+ L := (q1.trans (by rw [← hs]; exact skip_suf _)).trans (List.drop_suffix k L)
   have q5 := suf_drop q4
   have q6 := q4.length_le
   have q7 : (c :: x).length = L.length - btw L k := by rw [← hs, ← h1, List.length_drop]
   rw [List.length_cons] at hp
   refine ⟨?_, by omega, by omega, q3⟩
   rw [allL, hs]
   simp only
   rw [hp, ht]
   simp only
   have q8 : (plc L k).adv ((L.drop k).take ((L.drop k).length - r.length)) = plc L (L.length - r.length) := by
    rw [plc_add, List.length_drop]
    congr 1; omega
   rw [q8, q5]
   cases allL f (plc L (L.length - r.length)) r <;> rfl
open Go.RowKit

abbrev ltc7 (x : Tkn × Value) : List Value := (tkc x.1.k (tx x.1.s) x.1.n x.2 x.1.p).toList
def tcs (acc : List (Tkn × Value)) : List Value := acc.flatMap ltc7
theorem tcs_app (a b : List (Tkn × Value)) : tcs (a ++ b) = tcs a ++ tcs b := by simp [tcs]
theorem info26 : (Tryz.prog.info? 89).map (fun i => (i.zero, i.size, i.bytes)) = some (some (.agg tkz), 7, 80) := by kernel_rfl
structure Toks (w : World) (B : Nat) (vl : Value) (acc : List (Tkn × Value)) : Prop where
 row : w.ownsRow B 89 7 vl acc.length (tcs acc)
 el : ∀ x, x ∈ acc → w.ownsRow B 130 5 x.2 x.1.ps.length (pcs x.1.ps)
theorem Toks.keep {w w' : World} {B : Nat} {vl : Value} {acc : List (Tkn × Value)} (h : Toks w B vl acc) (hk : ∀ k t cs fr, w.heap[k]? = some (.cells cs t fr) → B ≤ k → (t = 89 ∨ t = 130) → w'.heap[k]? = w.heap[k]?) : Toks w' B vl acc := by
 have key : ∀ {e z n : Nat} {v : Value} {xs : List Value}, w.ownsRow B e z v n xs → (e = 89 ∨ e = 130) → w'.ownsRow B e z v n xs := fun {e z n v xs} ho he => by
  refine ⟨ho.1, ?_⟩
  rcases ho.2 with hn | ⟨g, cap, cur, rfl, hg, hgg, rest⟩
  · exact .inl hn
  · exact .inr ⟨g, cap, cur, rfl, hg, by rw [hk g e cur _ hgg hg he]; exact hgg, rest⟩
 exact ⟨key h.row (.inl rfl), fun x hx => key (h.el x hx) (.inr rfl)⟩
theorem Toks.fr {w w' : World} {B plb sb : Nat} {s : ByteArray} {p : Plc} {vl : Value} {acc : List (Tkn × Value)} (h : Toks w B vl acc) (P : Pl w plb sb s p) (hF : ∀ k, k < w.heap.size → k ≠ plb → w'.heap[k]? = w.heap[k]?) : Toks w' B vl acc :=
 h.keep fun k t cs fr hk _ ht => hF k (Array.getElem?_eq_some_iff.1 hk).1 fun e => by
  subst e
  rw [P.row] at hk
  simp only [Option.some.injEq, Obj.cells.injEq] at hk
  obtain ⟨_, h2, _⟩ := hk
  rw [← h2] at ht
  exact absurd ht (by decide)
theorem Toks.below {w w' : World} {B : Nat} {vl : Value} {acc : List (Tkn × Value)} (h : Toks w B vl acc) (hb : Below w.heap.size w w') : Toks w' B vl acc :=
 h.keep fun k _ _ _ hk _ _ => hb.block k (Array.getElem?_eq_some_iff.1 hk).1
theorem Toks.more {w w' : World} {B g cap : Nat} {vl v : Value} {acc : List (Tkn × Value)} {t : Tkn} (h : Toks w B vl acc) (hv : w.ownsRow B 130 5 v t.ps.length (pcs t.ps)) (hg : w.grownBy w' vl.ownBlock) (hn : w'.ownsRow B 89 7 (.slice (some ⟨g, 0, none⟩) (acc.length + 1) cap) (acc.length + 1) (tcs acc ++ ltc7 (t, v))) :
 Toks w' B (.slice (some ⟨g, 0, none⟩) (acc.length + 1) cap) (acc ++ [(t, v)]) := by
 have key : ∀ {n : Nat} {u : Value} {xs : List Value}, w.ownsRow B 130 5 u n xs → w'.ownsRow B 130 5 u n xs := fun {n u xs} ho => ownsRow_kept ho fun g hgg => hg.block g (ho.lt g hgg).2 fun e => own_ne ho h.row (by decide) g hgg e.symm
 refine ⟨?_, fun x hx => ?_⟩
 · rw [tcs_app, show (acc ++ [(t, v)]).length = acc.length + 1 by simp, show tcs [(t, v)] = ltc7 (t, v) by simp [tcs]]
   exact hn
 · rw [List.mem_append, List.mem_singleton] at hx
   rcases hx with hx | rfl
   · exact key (h.el x hx)
   · exact key hv
abbrev dgz : Array Value := #[.int .i64 0, .int .i64 0, .int .i64 0, .int .i64 0, .string ⟨#[]⟩]
abbrev dgc (e : Int) (p : Plc) : Array Value := #[.int .i64 e, .int .i64 p.a, .int .i64 p.l, .int .i64 p.c, .string ⟨#[]⟩]
def AllPost (w : World) (N : Nat) (R : Except (Nat × Plc) (List Tkn)) (e : Ending) (w' : World) : Prop :=
 Below N w w' ∧ match R with
  | .error (x, p) => e = .returned (.tuple #[.slice none 0 0, .agg (dgc x p)])
  | .ok ts => ∃ vl acc, acc.map (·.1) = ts ∧ e = .returned (.tuple #[vl, .agg dgz]) ∧ Toks w' N vl acc
theorem rc5 {w : World} {b : Nat} {c0 c1 c2 c3 c4 : Value} {t : TypeId} (h : w.heap[b]? = some (.cells #[c0, c1, c2, c3, c4] t (0, 0))) :
 (w.cell? ⟨b, 0, none⟩ = some c0 ∧ w.cell? ⟨b, 1, none⟩ = some c1 ∧ w.cell? ⟨b, 2, none⟩ = some c2 ∧ w.cell? ⟨b, 3, none⟩ = some c3 ∧ w.cell? ⟨b, 4, none⟩ = some c4) ∧
 (w.frozen? ⟨b, 0, none⟩ = false ∧ w.frozen? ⟨b, 1, none⟩ = false ∧ w.frozen? ⟨b, 2, none⟩ = false ∧ w.frozen? ⟨b, 3, none⟩ = false ∧ w.frozen? ⟨b, 4, none⟩ = false) ∧ b < w.heap.size :=
 ⟨⟨cell_of_row w b 0 _ _ _ h, cell_of_row w b 1 _ _ _ h, cell_of_row w b 2 _ _ _ h, cell_of_row w b 3 _ _ _ h, cell_of_row w b 4 _ _ _ h⟩,
  ⟨frozen_of_row w b 0 _ _ h, frozen_of_row w b 1 _ _ h, frozen_of_row w b 2 _ _ h, frozen_of_row w b 3 _ _ h, frozen_of_row w b 4 _ _ h⟩, (Array.getElem?_eq_some_iff.1 h).1⟩
structure AR (R : Except (Nat × Plc) (List Tkn)) (s : ByteArray) (N : Nat) (w0 wr : World) (k : Nat) (vl : Value) (acc : List (Tkn × Value)) : Prop where
 b : Below N w0 wr
 d : wr.heap[N]? = some (.cells dgz 53 (0, 0))
 K : Plk wr (N + 2) (N + 1) s k
 t : Toks wr (N + 3) vl acc
 ln : acc.length ≤ k
 q : ∃ f, s.size - k < f ∧ consT (acc.map (·.1)) (allL f (plc (lb s) k) ((lb s).drop k)) = R
def ARel (R : Except (Nat × Plc) (List Tkn)) (s : ByteArray) (N : Nat) (w0 : World) (x y : Value) (wr : World) : Prop :=
 ∃ k vl acc, k ≤ s.size ∧ x = .int .i64 (k : Int) ∧ y = vl ∧ AR R s N w0 wr k vl acc
theorem tc7_one (x : Tkn) (o : Option Addr) (l c : Nat) : ∀ u ∈ ltc7 (x, .slice o l c), u.oneCell' = true := fun u hu => by
 simp only [ltc7, List.mem_cons, List.not_mem_nil, or_false] at hu
 rcases hu with rfl | rfl | rfl | rfl | rfl | rfl | rfl <;> rfl
theorem below_set5 {B N : Nat} {w w1 : World} {v0 v1 v2 v3 v4 : Value} (h : Below B w w1) (hN : B ≤ N) :
 Below B w (((((w1.setCell ⟨N, 0, none⟩ v0).setCell ⟨N, 1, none⟩ v1).setCell ⟨N, 2, none⟩ v2).setCell ⟨N, 3, none⟩ v3).setCell ⟨N, 4, none⟩ v4) :=
 ((((h.setCell (p := ⟨N, 0, none⟩) hN _).setCell (p := ⟨N, 1, none⟩) hN _).setCell (p := ⟨N, 2, none⟩) hN _).setCell (p := ⟨N, 3, none⟩) hN _).setCell (p := ⟨N, 4, none⟩) hN _
theorem set5_other {N k : Nat} {w1 : World} {v0 v1 v2 v3 v4 : Value} (h : k ≠ N) :
 (((((w1.setCell ⟨N, 0, none⟩ v0).setCell ⟨N, 1, none⟩ v1).setCell ⟨N, 2, none⟩ v2).setCell ⟨N, 3, none⟩ v3).setCell ⟨N, 4, none⟩ v4).heap[k]? = w1.heap[k]? := by
 rw [heap_setCell_other _ _ _ _ h, heap_setCell_other _ _ _ _ h, heap_setCell_other _ _ _ _ h, heap_setCell_other _ _ _ _ h, heap_setCell_other _ _ _ _ h]
structure A4 (s : ByteArray) (N : Nat) (w0 w4 : World) (j M : Nat) (p : Plc) (vl : Value) (acc : List (Tkn × Value)) : Prop where
 b : Below N w0 w4
 d : w4.heap[N]? = some (.cells dgz 53 (0, 0))
 K : Pl w4 (N + 2) (N + 1) s (plc (lb s) j)
 t : Toks w4 (N + 3) vl acc
 m : w4.heap[M]? = some (.cells #[.int .i64 p.a, .int .i64 p.l, .int .i64 p.c] 36 (0, 0))
 hp : plc (lb s) j = p
 mN : N + 2 < M
theorem AR.place {R : Except (Nat × Plc) (List Tkn)} {s : ByteArray} {N : Nat} {w0 wr w3 : World} {k j : Nat} {vl : Value} {acc : List (Tkn × Value)} (H : AR R s N w0 wr k vl acc) (P : Pl w3 (N + 2) (N + 1) s (plc (lb s) j)) (X : Exc (some (N + 2)) wr w3) {p : Plc} (hp : plc (lb s) j = p) {M : Nat} (hM : w3.heap.size = M) :
 A4 s N w0 (w3.alloc (.cells #[.int .i64 p.a, .int .i64 p.l, .int .i64 p.c] 36)) j M p vl acc := by
 subst hp hM
 have hb : Below w3.heap.size w3 (w3.alloc (.cells #[.int .i64 (plc (lb s) j).a, .int .i64 (plc (lb s) j).l, .int .i64 (plc (lb s) j).c] 36)) := (Below.refl _ _).alloc (Nat.le_refl _) _
 have hd : w3.heap[N]? = some (.cells dgz 53 (0, 0)) := (X.block N (Array.getElem?_eq_some_iff.1 H.d).1 (fun e => by injection e with e; omega)).trans H.d
 have hlN : N < wr.heap.size := (Array.getElem?_eq_some_iff.1 H.d).1
 obtain ⟨i, _, PW⟩ := H.K
 refine ⟨(H.b.trans (X.below (Nat.le_of_lt hlN) (fun k h => by injection h with h; omega))).trans (hb.mono (by have := X.size; omega)), (hb.block N (by have := X.size; omega)).trans hd, P.kept hb P.lt P.ltS, ?_, heap_alloc_new _ _, rfl, P.lt⟩
 exact (H.t.fr PW fun k hk hp => X.block k hk fun e => hp (by injection e with e; exact e.symm)).below hb
theorem tokL_nz {p : Plc} {l : List UInt8} {e : Nat} (h : tokL p l = .error e) (hl : l ≠ []) : e ≠ 0 := by
 cases l with
 | nil => exact absurd rfl hl
 | cons c r =>
   have h : (if isLetter c.toNat = true then (if 24 < (takeP isWord (c :: r)).length then .error 3 else .ok (⟨1, takeP isWord (c :: r), 0, [], p⟩, dropP isWord (c :: r)))
    else if isDgt c.toNat = true then (if pe (takeP isWord (c :: r)) false = 0 then .ok (⟨2, [], pv (takeP isWord (c :: r)) false, [], p⟩, dropP isWord (c :: r)) else .error (pe (takeP isWord (c :: r)) false).toNat)
    else if c = 34 then strE p (strL (r.length + 1) r (p.step c) [] [] 0)
    else if sgn (c :: r) = 0 then .error 23 else .ok (⟨4, (c :: r).take (sgn (c :: r)), 0, [], p⟩, (c :: r).drop (sgn (c :: r)))) = .error e := by
    rw [← h]
    show _ = (if isLetter c.toNat = true then _ else if isDgt c.toNat = true then _ else if c = 34 then _ else _)
    congr
   split at h
   · split at h
     · cases h; decide
     · cases h
   · split at h
     · split at h
       · cases h
       · rename_i h0
         cases h
         have := pe_nn (takeP isWord (c :: r))
         omega
     · split at h
       · cases hs : strL (r.length + 1) r (p.step c) [] [] 0 with
         | none => rw [hs] at h; cases h; decide
         | some S =>
           obtain ⟨a, m, y⟩ := S
           rw [hs] at h
           unfold strE at h
           simp only at h
           split at h
           · cases h; decide
           · cases h
       · split at h
         · cases h; decide
         · cases h
theorem A4.more {s : ByteArray} {N : Nat} {w0 w4 w5 : World} {j M g cap : Nat} {p : Plc} {vl v : Value} {acc : List (Tkn × Value)} {t : Tkn} {o : Obj} (A : A4 s N w0 w4 j M p vl acc) (hv : w4.ownsRow (N + 3) 130 5 v t.ps.length (pcs t.ps))
 (hown : w5.ownsRow (N + 3) 89 7 (.slice (some ⟨g, 0, none⟩) (acc.length + 1) cap) (acc.length + 1) (tcs acc ++ ltc7 (t, v))) (hgrow : (w4.alloc o).grownBy w5 vl.ownBlock) :
 w5.heap[N]? = some (.cells dgz 53 (0, 0)) ∧ Below N w0 w5 ∧ Toks w5 (N + 3) (.slice (some ⟨g, 0, none⟩) (acc.length + 1) cap) (acc ++ [(t, v)]) ∧ Pl w5 (N + 2) (N + 1) s (plc (lb s) j) := by
 have hb : Below w4.heap.size w4 (w4.alloc o) := (Below.refl _ _).alloc (Nat.le_refl _) _
 have hlN : N < w4.heap.size := (Array.getElem?_eq_some_iff.1 A.d).1
 have lK := A.K.lt
 have hr : ∀ k, vl.ownBlock = some k → N + 3 ≤ k := fun k hk => (A.t.row.lt k hk).1
 have hb2 : Below (N + 3) w4 w5 := (hb.mono (by omega)).trans (grown_below hgrow (by simp; omega) hr)
 exact ⟨(hb2.block N (by omega)).trans A.d, A.b.trans (hb2.mono (by omega)), (A.t.below hb).more (hv.alloc o) hgrow hown, A.K.kept hb2 (by omega) (by omega)⟩
theorem Toks.set5 {w1 : World} {B N : Nat} {vl : Value} {acc : List (Tkn × Value)} {v0 v1 v2 v3 v4 : Value} (h : Toks w1 B vl acc) (hN : N < B) : Toks (((((w1.setCell ⟨N, 0, none⟩ v0).setCell ⟨N, 1, none⟩ v1).setCell ⟨N, 2, none⟩ v2).setCell ⟨N, 3, none⟩ v3).setCell ⟨N, 4, none⟩ v4) B vl acc :=
 h.keep fun _ _ _ _ _ hB _ => set5_other (by omega)
theorem Toks.base {w : World} {B B' : Nat} {vl : Value} {acc : List (Tkn × Value)} (h : Toks w B vl acc) (hB : B' ≤ B) : Toks w B' vl acc := ⟨ownsRow_base h.row hB, fun x hx => ownsRow_base (h.el x hx) hB⟩
theorem dg_row {w5 : World} {N x : Nat} {p : Plc} {o : Obj} (h : w5.heap[N]? = some (.cells dgz 53 (0, 0))) :
 ((((((w5.setCell ⟨N, 0, none⟩ (.int .i64 (x : Int))).setCell ⟨N, 1, none⟩ (.int .i64 (p.a : Int))).setCell ⟨N, 2, none⟩ (.int .i64 (p.l : Int))).setCell ⟨N, 3, none⟩ (.int .i64 (p.c : Int))).setCell ⟨N, 4, none⟩ (.string ⟨#[]⟩)).alloc o).drew.heap[N]? = some (.cells (dgc x p) 53 (0, 0)) := by
 have h5 := heap_setCell_same _ N 4 _ _ (.string ⟨#[]⟩) (heap_setCell_same _ N 3 _ _ (.int .i64 (p.c : Int)) (heap_setCell_same _ N 2 _ _ (.int .i64 (p.l : Int)) (heap_setCell_same _ N 1 _ _ (.int .i64 (p.a : Int)) (heap_setCell_same w5 N 0 _ _ (.int .i64 (x : Int)) h))))
 exact (((Below.refl _ _).alloc (Nat.le_refl _) o).block N (Array.getElem?_eq_some_iff.1 h5).1).trans (h5.trans rfl)
theorem app_fin {w w5 w7 : World} {N g cap z : Nat} {s : ByteArray} {vl v : Value} {acc : List (Tkn × Value)} {t : Tkn} {o o' : Obj} (b5 : Below N w w5) (hd5 : w5.heap[N]? = some (.cells dgz 53 (0, 0))) (t5 : Toks w5 (N + 3) vl acc) (hO : w5.ownsRow (N + 3) 130 5 v t.ps.length (pcs t.ps)) (K : Plk w5 (N + 2) (N + 1) s z) (lP : N + 2 < w5.heap.size)
 (hown : w7.ownsRow (N + 3) 89 7 (.slice (some ⟨g, 0, none⟩) (acc.length + 1) cap) (acc.length + 1) (tcs acc ++ ltc7 (t, v))) (hgrow : ((w5.alloc o).alloc o').grownBy w7 vl.ownBlock) :
 w7.heap[N]? = some (.cells dgz 53 (0, 0)) ∧ Below N w w7 ∧ Toks w7 (N + 3) (.slice (some ⟨g, 0, none⟩) (acc.length + 1) cap) (acc ++ [(t, v)]) ∧ Plk w7 (N + 2) (N + 1) s z := by
 have hb : Below w5.heap.size w5 ((w5.alloc o).alloc o') := ((Below.refl _ _).alloc (Nat.le_refl _) _).alloc (by simp) _
 have hr : ∀ k, vl.ownBlock = some k → N + 3 ≤ k := fun k hk => (t5.row.lt k hk).1
 have hb2 : Below (N + 3) w5 w7 := (hb.mono (by omega)).trans (grown_below hgrow (by simp; omega) hr)
 exact ⟨(hb2.block N (by omega)).trans hd5, b5.trans (hb2.mono (by omega)), (t5.below hb).more ((hO.alloc o).alloc o') hgrow hown, K.kept hb2 (by omega) (by omega)⟩
set_option maxRecDepth 100000 in
set_option maxHeartbeats 4000000 in
theorem all_any {w : World} {s : ByteArray} (hT : Tab w) (hs : s.size ≤ 32768) : Calls Tryz.prog 36 #[.string s] w (AllPost w w.heap.size (lexL (lb s))) := by
 have LS : (lb s).length = s.size := tp_L_len s
 obtain ⟨N, hN⟩ : ∃ N, N = w.heap.size := ⟨_, rfl⟩
 obtain ⟨w1, hw1⟩ : ∃ w1, w1 = w.alloc (.cells dgz 53) := ⟨_, rfl⟩
 have hb1 : Below N w w1 := by rw [hw1]; exact below_alloc hN _
 have hz1 : w1.heap.size = N + 1 := by rw [hw1, hN]; simp
 have hd1 : w1.heap[N]? = some (.cells dgz 53 (0, 0)) := by rw [hw1, hN]; exact heap_alloc_new _ _
 have C := qh (places_any s w1)
 have PS := pl_start s w1
 rw [hz1] at PS
 obtain ⟨R, hR⟩ : ∃ R, lexL (lb s) = R := ⟨_, rfl⟩
 have HR : Hid (AR R s N w ((w1.alloc (.cells #[.string s] 9)).alloc (.cells #[.int .i64 0, .int .i64 1, .int .i64 1] 36)) 0 (.slice none 0 0) []) := by
  have hb2 : Below (N + 1) w1 ((w1.alloc (.cells #[.string s] 9)).alloc (.cells #[.int .i64 0, .int .i64 1, .int .i64 1] 36)) := ((Below.refl _ _).alloc (by omega) _).alloc (by simp; omega) _
  refine ⟨hb1.trans (hb2.mono (Nat.le_succ N)), (hb2.block N (Nat.lt_succ_self N)).trans hd1, ⟨0, Nat.le_refl _, PS⟩, ⟨World.ownsRow_nil _ _ _ _, fun x hx => by cases hx⟩, Nat.le_refl _, ⟨(lb s).length + 1, by omega, ?_⟩⟩
  rw [List.map_nil, consT_nil, List.drop_zero, ← hR]
  unfold lexL
  rw [if_neg (by omega)]
  rfl
 have HT := qh hT
 have hT0 : 2 < N := by rw [hN]; exact hT.1
 have hs' : ¬ (32768 : Int) < s.size := by omega
 have HZ1 := qh hz1
 rw [hR, ← hN]
 clear hb1 hz1 hd1 PS hR hT LS
 go_enter Tryz.func36, Tryz.ntmps36
 go_upto_region 1 with fail
 rw [← hw1, ← hN]
 clear hw1 hN
 go_wp2_with fail
 refine C.out.mono ?_
 rintro e w2 ⟨rfl, hw2⟩
 rw [← hw2] at HR
 clear hw2
 rw [HZ1.out]
 go_wp2_with fail
 go_loopw [6, 4] (fun x y wr => ARel R s N w x y wr) (fun x _ _ => s.size - (intOf x).toNat)
 case atStart => exact ⟨0, .slice none 0 0, [], Nat.zero_le _, rfl, rfl, HR.out⟩
 case round =>
  obtain ⟨k, vl, acc, hk, rfl, rfl, H⟩ := hrel
  have HH := qh H
  have HTr := HT.out.below H.b hT0
  obtain ⟨i, hi, P⟩ := H.K
  obtain ⟨g1, g2, g3⟩ := skip_at (lb s) k (by rw [tp_L_len]; exact hk)
  rw [tp_L_len] at g3
  have CB := qh (between_any s k wr HTr hs hk)
  obtain ⟨j, hj⟩ : ∃ j, btw (lb s) k = j := ⟨_, rfl⟩
  have HJ := qh hj
  rw [hj] at g1 g2 g3 CB
  have CP := qh (lplace_any (j := j) P (by omega) (by omega) g3 (x := (j : Int)) (fun i => by omega))
  have hax : (k : Int) ≤ 40000 := by omega
  have haj : (j : Int) ≤ 40000 := by omega
  have HLT := qh (And.intro P.lt P.ltS)
  clear hj P H HTr g1
  go_wp2_with fail
  refine CB.out.mono ?_
  rintro e wr' ⟨rfl, rfl⟩
  go_wp2_with fail
  refine CP.out.mono ?_
  rintro e w3 ⟨rfl, hP3, hX3⟩
  have HX := qh (And.intro hP3 hX3)
  clear hP3 hX3
  obtain ⟨p, hp⟩ : ∃ p, plc (lb s) j = p := ⟨_, rfl⟩
  obtain ⟨M, hM⟩ : ∃ M, w3.heap.size = M := ⟨_, rfl⟩
  have HA := qh (HH.out.place HX.out.1 HX.out.2 hp hM)
  have HM := qh hM
  rw [hp]
  obtain ⟨i26, hi26, hz26, hs26, hb26⟩ := info_parts info26
  have accl := HH.out.ln
  by_cases hend : j = s.size
  · have t1 : ((j : Int) == s.size) = true := by rw [beq_iff_eq]; omega
    have HE := qh hend
    have HQ : Hid (R = .ok (acc.map (·.1) ++ [⟨0, [], 0, [], p⟩])) := by
     obtain ⟨f, hf, hq⟩ := HH.out.q
     obtain ⟨g, rfl⟩ : ∃ g, f = g + 1 := ⟨f - 1, by omega⟩
     unfold Hid
     rw [← hq, allL_end (by rw [tp_L_len]; exact hk) (by rw [HJ.out, tp_L_len]; exact hend)]
     rw [← hp, hend, tp_L_len]; rfl
    clear hp hend
    go_upto_region 9 with fail
    clear hM
    generalize w3.alloc _ = w4 at *
    obtain ⟨m0, m1, m2, -, -, -, lM⟩ := lrc3 HA.out.m
    have lK := HA.out.K.lt
    have O1 := qh (HA.out.t.row.alloc (.cells (tkc 0 ⟨#[]⟩ 0 (.slice none 0 0) p) 89))
    have W1 := qh (World.news_of_block (heap_alloc_new w4 (.cells (tkc 0 ⟨#[]⟩ 0 (.slice none 0 0) p) 89)))
    go_wp2_with (at_builtin; go_must (refine wpList_append_lies _ rfl (.tmp 29) (.tmp 32) 79 rfl (N + 3) 89 i26 _ 7 80 Tryz.underlying79 hi26 hz26 hs26 hb26 rfl (by omega) u4 acc.length (tcs acc) rfl O1.out ⟨w4.heap.size, 0, none⟩ 1 1 (ltc7 (⟨0, [], 0, [], p⟩, .slice none 0 0)) rfl rfl W1.out (tc7_one _ _ _ _) (by omega) (by unfold maxLen; omega) (by omega) (by simp; omega) (w4.heap.size + 1) (by simp) ?_))
    intro g cap w5 hown hgrow hat hlt
    obtain ⟨q1, q2, q3, q4⟩ := HA.out.more (t := ⟨0, [], 0, [], p⟩) (World.ownsRow_nil _ _ _ _) hown hgrow
    have HQ2 := qh (And.intro q2 q3)
    obtain ⟨⟨r0, r1, r2, r3, r4⟩, ⟨f0, f1, f2, f3, f4⟩, lN⟩ := rc5 q1
    clear hown hgrow hat hlt q1 q2 q3 q4
    go_wp2_with fail
    refine bodyPost_ret (v := .tuple #[.slice (some ⟨g, 0, none⟩) (acc.length + 1) cap, .agg dgz]) (by simp [results, Tryz.results36, go_sem, r0, r1, r2, r3, r4]) rfl ?_
    refine ⟨below_set5 HQ2.out.1 (Nat.le_refl N), ?_⟩
    rw [HQ.out]
    exact ⟨_, acc ++ [(⟨0, [], 0, [], p⟩, .slice none 0 0)], by simp, rfl, (HQ2.out.2.set5 (by omega)).base (by omega)⟩
  · have t1 : ((j : Int) == s.size) = false := by rw [beq_eq_false_iff_ne]; omega
    have hjlt : j < s.size := by omega
    have HNE : Hid ((lb s).drop j ≠ []) := fun h => by rw [drop_cons2 hjlt] at h; cases h
    have HQ : Hid (∃ f, s.size - k < f + 1 ∧ consT (acc.map (·.1)) (allL (f + 1) (plc (lb s) k) ((lb s).drop k)) = R) := by
     obtain ⟨f, hf, hq⟩ := HH.out.q
     obtain ⟨g, rfl⟩ : ∃ g, f = g + 1 := ⟨f - 1, by omega⟩
     exact ⟨g, hf, hq⟩
    clear hend
    go_upto_region 10 with fail
    clear hM
    generalize w3.alloc _ = w4 at *
    have HT4 := HT.out.below HA.out.b hT0
    have CT := token_any (plb := N + 2) (sb := N + 1) ⟨j, Nat.le_refl j, HA.out.K⟩ HT4 hs hjlt
    rw [hp] at CT
    have HPE := qh hp
    have CT := qh CT
    have lM4 := (Array.getElem?_eq_some_iff.1 HA.out.m).1
    clear hp HT4
    go_wp2_with fail
    refine CT.out.mono ?_
    rintro e w5 ⟨hF, hpost⟩
    have lK := HA.out.K.lt
    have hm5 := (hF.block M lM4 (by have := HA.out.mN; omega)).trans HA.out.m
    have hd5 := (hF.block N (by omega) (by omega)).trans HA.out.d
    have b5 : Below N w w5 := HA.out.b.trans ⟨hF.os, hF.tape, hF.output, hF.size, fun k hk => hF.block k (by omega) (by omega)⟩
    have t5 : Toks w5 (N + 3) u4 acc := HA.out.t.fr HA.out.K fun k hk hp => hF.block k hk hp
    cases htk : tokL p ((lb s).drop j) with
    | error x =>
      rw [htk] at hpost
      obtain ⟨rfl, hK⟩ := hpost
      have hx : ((x : Int) != 0) = true := by rw [bne_iff_ne]; have := tokL_nz htk HNE.out; omega
      have HTK := qh htk
      have HB5 := qh b5
      obtain ⟨m0, m1, m2, -, -, -, lM⟩ := lrc3 hm5
      obtain ⟨⟨r0, r1, r2, r3, r4⟩, ⟨f0, f1, f2, f3, f4⟩, lN⟩ := rc5 hd5
      have HD5 := qh hd5
      have HRE : Hid (R = .error (x, p)) := by
       obtain ⟨f, hf, hq⟩ := HQ.out
       unfold Hid
       rw [← hq, allL_err (e := x) (by rw [tp_L_len]; exact hk) (by rw [HJ.out, tp_L_len]; exact hjlt) (by rw [HJ.out, HPE.out]; exact htk), HJ.out, HPE.out]
       rfl
      clear htk hK hF hm5 hd5 b5 t5
      go_upto_region 12 with fail
      go_region
      all_goals
       go_wp2_with fail
       have hrow := dg_row HD5.out (x := x) (p := p) (o := .cells tkz 89)
       have hbel := qh (((below_set5 (v0 := .int .i64 (x : Int)) (v1 := .int .i64 (p.a : Int)) (v2 := .int .i64 (p.l : Int)) (v3 := .int .i64 (p.c : Int)) (v4 := .string ⟨#[]⟩) HB5.out (Nat.le_refl N)).alloc (by simp; omega) (.cells tkz 89)).drew)
       generalize World.drew _ = wF at *
       obtain ⟨⟨c0, c1, c2, c3, c4⟩, -, -⟩ := rc5 hrow
       refine bodyPost_ret (v := .tuple #[.slice none 0 0, .agg (dgc x p)]) (by simp [results, Tryz.results36, go_sem, c0, c1, c2, c3, c4]) rfl ?_
       exact ⟨hbel.out, by rw [HRE.out]⟩
    | ok tr =>
      obtain ⟨t, r⟩ := tr
      rw [htk] at hpost
      obtain ⟨vl, rfl, hO, hK⟩ := hpost
      obtain ⟨vo, vn, vc, rfl⟩ := own_slice hO
      obtain ⟨kk, ts, tn, tps, tp⟩ := t
      obtain ⟨f, hf, hq⟩ := HQ.out
      obtain ⟨y1, y2, y3, y4⟩ := allL_tok (f := f) (r := r) (t := ⟨kk, ts, tn, tps, tp⟩) (by rw [tp_L_len]; exact hk) (by rw [HJ.out, tp_L_len]; exact hjlt) (by rw [HJ.out, HPE.out]; exact htk)
      rw [tp_L_len] at y1 y2 y3
      rw [HJ.out] at y2
      rw [HJ.out, HPE.out] at y4
      obtain rfl : tp = p := y4
      obtain ⟨z, hz⟩ : ∃ z, s.size - r.length = z := ⟨_, rfl⟩
      rw [hz] at y1 y2 y3 hK ⊢
      have HQZ : Hid (∃ f, s.size - z < f ∧ consT (acc.map (·.1) ++ [⟨kk, ts, tn, tps, tp⟩]) (allL f (plc (lb s) z) ((lb s).drop z)) = R) := by
       refine ⟨f, by omega, ?_⟩
       rw [← hq, y1]
       cases allL f (plc (lb s) z) ((lb s).drop z) with
       | error e => rfl
       | ok ts => simp [consT]
      obtain ⟨m0, m1, m2, -, -, -, lM⟩ := lrc3 hm5
      have HB5 := qh (And.intro b5 (And.intro hd5 (And.intro t5 (And.intro (ownsRow_base hO (show N + 3 ≤ w4.heap.size by omega)) hK))))
      have lN5 := (Array.getElem?_eq_some_iff.1 hd5).1
      have lP5 : N + 2 < w5.heap.size := by have := hF.size; omega
      clear htk hK hF hm5 hd5 b5 t5 hO hz y1 hq hf
      have O1 := qh ((HB5.out.2.2.1.row.alloc (.cells (tkc kk (tx ts) tn (.slice vo vn vc) tp) 89)).alloc (.cells (tkc kk (tx ts) tn (.slice vo vn vc) tp) 89))
      have W0 := World.news_of_block (heap_alloc_new (w5.alloc (.cells (tkc kk (tx ts) tn (.slice vo vn vc) tp) 89)) (.cells (tkc kk (tx ts) tn (.slice vo vn vc) tp) 89))
      rw [show (w5.alloc (.cells (tkc kk (tx ts) tn (.slice vo vn vc) tp) 89)).heap.size = w5.heap.size + 1 by simp] at W0
      have W1 := qh W0
      clear W0
      go_upto_region 14 with fail
      go_wp2_with (at_builtin; go_must (refine wpList_append_lies _ rfl (.tmp 50) (.tmp 52) 79 rfl (N + 3) 89 i26 _ 7 80 Tryz.underlying79 hi26 hz26 hs26 hb26 rfl (by omega) u4 acc.length (tcs acc) rfl O1.out ⟨w5.heap.size + 1, 0, none⟩ 1 1 (ltc7 (⟨kk, ts, tn, tps, tp⟩, .slice vo vn vc)) rfl rfl W1.out (tc7_one _ _ _ _) (by omega) (by unfold maxLen; omega) (by omega) (by simp; omega) (w5.heap.size + 1 + 1) (by simp) ?_))
      intro g cap w7 hown hgrow hat hlt
      obtain ⟨q1, q2, q3, q4⟩ := app_fin HB5.out.1 HB5.out.2.1 HB5.out.2.2.1 HB5.out.2.2.2.1 HB5.out.2.2.2.2 lP5 hown hgrow
      have HF := qh (And.intro q1 (And.intro q2 (And.intro q3 q4)))
      clear hown hgrow hat hlt q1 q2 q3 q4
      go_wp2_with fail
      go_roundw
      case rel =>
       exact ⟨z, _, acc ++ [(⟨kk, ts, tn, tps, tp⟩, .slice vo vn vc)], y3, rfl, rfl, HF.out.2.1, HF.out.1, HF.out.2.2.2, HF.out.2.2.1, by rw [List.length_append]; simp only [List.length_cons, List.length_nil]; omega, by rw [List.map_append]; exact HQZ.out⟩
      case measure => simp [intOf]; omega
end Go.Proofs.YtncjncacfagldaaGreatDoor

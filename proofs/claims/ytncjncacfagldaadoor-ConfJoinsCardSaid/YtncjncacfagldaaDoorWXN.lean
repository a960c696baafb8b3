/- Tokens of a text in brackets. No Go in sight. -/
import Derived.Test.YtncjncacfagldaaDoorWXM
import Derived.Test.YtncjncacfagldaaDoorWZg
import Derived.Maps.Own
import Derived.Maps.OwnOps
import Derived.WideKeyEntry
import Derived.DeepKeys4
namespace Go.Proofs.YtncjncacfagldaaDoor
open Go.RowKit Go.Lib

theorem tokL_eq (p : Plc) (c : UInt8) (r : List UInt8) : (if isLetter c.toNat = true then (if 24 < (takeP isWord (c :: r)).length then .error 3 else .ok (⟨1, takeP isWord (c :: r), 0, [], p⟩, dropP isWord (c :: r)))
    else if isDgt c.toNat = true then (if pe (takeP isWord (c :: r)) false = 0 then .ok (⟨2, [], pv (takeP isWord (c :: r)) false, [], p⟩, dropP isWord (c :: r)) else .error (pe (takeP isWord (c :: r)) false).toNat)
    else if c = 34 then strE p (strL (r.length + 1) r (p.step c) [] [] 0)
    else if sgn (c :: r) = 0 then .error 23 else .ok (⟨4, (c :: r).take (sgn (c :: r)), 0, [], p⟩, (c :: r).drop (sgn (c :: r)))) = tokL p (c :: r) := by
  show _ = (if isLetter c.toNat = true then _ else if isDgt c.toNat = true then _ else if c = 34 then _ else _)
  congr
theorem skc_fuel : ∀ (f : Nat) (l : List UInt8) (g : Nat), l.length ≤ f → l.length ≤ g → skc f l = skc g l
  | 0, l, g, h, _ => by
    have : l = [] := List.eq_nil_of_length_eq_zero (by omega)
    subst this
    cases g <;> rfl
  | f + 1, [], g, _, _ => by cases g <;> rfl
  | f + 1, c :: r, g, h, hg => by
    cases g with
    | zero => simp at hg
    | succ g =>
      simp only [List.length_cons] at h hg
      rw [skc, skc]
      split
      · rename_i hc
        subst hc
        have e : dropP isRemark (35 :: r) = dropP isRemark r := by unfold dropP; rw [List.dropWhile_cons]; rfl
        have h1 := dropP_le isBlank (dropP isRemark (35 :: r))
        rw [e] at h1 ⊢
        have h2 := dropP_le isRemark r
        exact skc_fuel f _ g (by omega) (by omega)
      · rfl
theorem skip_remark (l r : List UInt8) (h : dropP isBlank l = 35 :: r) : skip l = skip (dropP isRemark (35 :: r)) ∧ (dropP isRemark (35 :: r)).length < l.length := by
  have h0 := dropP_le isBlank l
  rw [h] at h0
  have e : dropP isRemark (35 :: r) = dropP isRemark r := by unfold dropP; rw [List.dropWhile_cons]; rfl
  have h2 := dropP_le isRemark r
  simp only [List.length_cons] at h0
  rw [e]
  refine ⟨?_, by omega⟩
  unfold skip
  rw [h]
  obtain ⟨n, hn⟩ : ∃ n, l.length = n + 1 := ⟨l.length - 1, by omega⟩
  rw [hn, skc, if_pos rfl, e]
  have h1 := dropP_le isBlank (dropP isRemark r)
  exact skc_fuel _ _ _ (by omega) (by omega)
theorem skip_other (l r : List UInt8) (c : UInt8) (h : dropP isBlank l = c :: r) (hc : c ≠ 35) : skip l = c :: r := by
  unfold skip
  have h0 := dropP_le isBlank l
  rw [h] at h0 ⊢
  simp only [List.length_cons] at h0
  obtain ⟨n, hn⟩ : ∃ n, l.length = n + 1 := ⟨l.length - 1, by omega⟩
  rw [hn, skc, if_neg hc]
end Go.Proofs.YtncjncacfagldaaDoor
/- What the parser's model answers of a text in brackets. No Go in sight. -/
namespace Go.Proofs.YtncjncacfagldaaDoor
open Go.RowKit Go.Lib

theorem tokL_kind {p : Plc} {l r : List UInt8} {t : Tkn} (h : tokL p l = .ok (t, r)) : t.k ≠ 0 := by
  cases l with
  | nil => cases h
  | cons c x =>
    rw [← tokL_eq] at h
    split at h
    · split at h
      · cases h
      · simp only [Except.ok.injEq, Prod.mk.injEq] at h
        rw [← h.1]; show (1 : Nat) ≠ 0; decide
    · split at h
      · split at h
        · simp only [Except.ok.injEq, Prod.mk.injEq] at h
          rw [← h.1]; show (2 : Nat) ≠ 0; decide
        · cases h
      · split at h
        · cases h1 : strL (x.length + 1) x (p.step c) [] [] 0 with
          | none => rw [h1] at h; cases h
          | some S =>
            obtain ⟨a, m, z⟩ := S
            rw [h1] at h
            unfold strE at h
            simp only at h
            split at h
            · cases h
            · simp only [Except.ok.injEq, Prod.mk.injEq] at h
              rw [← h.1]; show (3 : Nat) ≠ 0; decide
        · split at h
          · cases h
          · simp only [Except.ok.injEq, Prod.mk.injEq] at h
            rw [← h.1]; show (4 : Nat) ≠ 0; decide
/-- all but the last are something -/
theorem allL_kinds : ∀ (f : Nat) (p : Plc) (l : List UInt8) (ts : List Tkn), allL f p l = .ok ts → ∃ xs e, ts = xs ++ [e] ∧ e.k = 0 ∧ ∀ x ∈ xs, x.k ≠ 0
  | 0, _, _, _, h => by cases h
  | f + 1, p, l, ts, h => by
    rw [allL] at h
    cases hs : skip l with
    | nil =>
      rw [hs] at h
      simp only [Except.ok.injEq] at h
      exact ⟨[], _, h.symm, rfl, fun x hx => by cases hx⟩
    | cons c r =>
      rw [hs] at h
      simp only at h
      cases ht : tokL (p.adv (l.take (l.length - (r.length + 1)))) (c :: r) with
      | error e => rw [ht] at h; cases h
      | ok tr =>
        obtain ⟨t, z⟩ := tr
        rw [ht] at h
        simp only at h
        cases hx : allL f (p.adv (l.take (l.length - z.length))) z with
        | error e => rw [hx] at h; cases h
        | ok vs =>
          rw [hx] at h
          simp only [Except.ok.injEq] at h
          obtain ⟨xs, e, rfl, he, hk⟩ := allL_kinds f _ _ _ hx
          refine ⟨t :: xs, e, h.symm, he, fun x hx => ?_⟩
          rcases List.mem_cons.1 hx with rfl | hx
          · exact tokL_kind ht
          · exact hk x hx
theorem lexL_kinds {l : List UInt8} {ts : List Tkn} (h : lexL l = .ok ts) : ∃ xs e, ts = xs ++ [e] ∧ e.k = 0 ∧ ∀ x ∈ xs, x.k ≠ 0 := by
  unfold lexL at h
  split at h
  · cases h
  · exact allL_kinds _ _ _ _ h
theorem tk_out {C : Cx} {xs : List Tkn} {e : Tkn} (h : C.L = xs ++ [e]) (he : e.k = 0) {i : Nat} (hi : xs.length ≤ i) : (C.tk i).k = 0 := by
  unfold Cx.tk
  rw [h, List.getElem?_append_right hi]
  cases i - xs.length with
  | zero => exact he
  | succ j => rfl
theorem inn_move (l : List UInt8) (h h' : Ps) (h0 : (innM l h).2.1 = 0) : (innM l h').2.1 = 0 ∧ bareX (innM l h).1 = bareX (innM l h').1 := by
  cases hl : lexL l with
  | error ep =>
    obtain ⟨e, p⟩ := ep
    rw [innM_err hl] at h0
    exact absurd h0 (lexL_nz hl).1
  | ok ts =>
    obtain ⟨xs, e, rfl, he, hx⟩ := lexL_kinds hl
    rw [innM_ok hl] at h0 ⊢
    rw [innM_ok hl]
    refine whole_move (n := xs.length) (C := ⟨xs ++ [e], h, noInn⟩) (D := ⟨xs ++ [e], h', noInn⟩) ⟨fun i _ => ⟨rfl, rfl, rfl, rfl⟩, fun i hi => tk_out (C := ⟨xs ++ [e], h, noInn⟩) rfl he hi, fun h4 => absurd h4 (by rw [tk_out (C := ⟨xs ++ [e], h', noInn⟩) (i := xs.length + 0) rfl he (Nat.le_refl _)]; decide), fun _ _ _ _ => ⟨rfl, rfl⟩, by simp, by simp⟩ (by simp) (by simp) (fun i hi => tk_out (C := ⟨xs ++ [e], h', noInn⟩) rfl he hi) h0
end Go.Proofs.YtncjncacfagldaaDoor
/- Items; the reader of items in plain words, and in memory. -/
namespace Go.Proofs.YtncjncacfagldaaDoor
open Go.RowKit Go.Lib

/-- an item -/
inductive It where
  | mk (b : Bool) (nm : List UInt8) (lb : List (List UInt8)) (e : Ex) (l : List It) (p : Ps)
namespace It
def b : It → Bool | .mk a _ _ _ _ _ => a
def nm : It → List UInt8 | .mk _ a _ _ _ _ => a
def lb : It → List (List UInt8) | .mk _ _ a _ _ _ => a
def e : It → Ex | .mk _ _ _ a _ _ => a
def l : It → List It | .mk _ _ _ _ a _ => a
def p : It → Ps | .mk _ _ _ _ _ a => a
end It
section
variable (C : Cx)
/-- the token's own place -/
def Cx.at (C : Cx) (p : Nat) : Ps := (C.tk p).p.ps
def Cx.has (C : Cx) (p k : Nat) (x : List UInt8) : Bool := C.is ⟨p, 0, ps0⟩ k x
/-- the longest expression from a place on: its tree, the place behind it, what is wrong -/
def readM (p : Nat) : Ex × Nat × Nat × Ps :=
  let e := (fs C (3 * C.L.length + 3)).ex ⟨p, 0, ps0⟩
  let j := judgeC e.1 e.2 (C.pl ⟨p, 0, ps0⟩)
  if j.1 = 0 then (e.1, e.2.p, 0, ps0) else (zeroX, 0, j)
/-- a string's bytes, if there is no expression in it -/
def labelsM : Nat → Nat → List (List UInt8) → Except (Nat × Ps) (List (List UInt8) × Nat)
  | 0, p, acc => .ok (acc, p)
  | f + 1, p, acc =>
    if (C.tk p).k = 3 then
      if (C.tk p).ps.any (·.ex) then .error (4, C.at p)
      else if acc.length = 4 then .error (3, C.at p)
      else labelsM f (p + 1) (acc ++ [(C.tk p).ps.flatMap (·.s)])
    else .ok (acc, p)
/-- the names of attributes -/
def attrs (l : List It) : List (List UInt8) := (l.filter fun x => !x.b).map (·.nm)
def attributeM (t : Tkn) (met : List (List UInt8)) (p : Nat) : Except (Nat × Ps) (It × Nat) :=
  if t.s ∈ met then .error (10, t.p.ps)
  else if (readM C p).2.2.1 = 0 then .ok (.mk false t.s [] (readM C p).1 [] t.p.ps, (readM C p).2.1) else .error (readM C p).2.2
def blockM (rec : Nat → Except (Nat × Ps) (List It × Nat)) (t : Tkn) (p : Nat) : Except (Nat × Ps) (It × Nat) :=
  match labelsM C (C.L.length + 1) p [] with
  | .error e => .error e
  | .ok (lb, q) =>
    if C.has q 4 [123] then
      match rec (q + 1) with
      | .error e => .error e
      | .ok (l, q2) => .ok (.mk true t.s lb zeroX l t.p.ps, q2)
    else .error (4, C.at q)
def itemM (rec : Nat → Except (Nat × Ps) (List It × Nat)) (acc : List It) (p : Nat) : Except (Nat × Ps) (It × Nat) :=
  if (C.tk p).k ≠ 1 then .error (4, C.at p)
  else if acc.length = 128 then .error (3, C.at p)
  else if C.has (p + 1) 4 [61] then attributeM C (C.tk p) (attrs acc) (p + 1 + 1)
  else blockM C rec (C.tk p) (p + 1)
def itemsL : Nat → Nat → List UInt8 → List It → Nat → Except (Nat × Ps) (List It × Nat)
  | 0, _, _, _, _ => .error (99, ps0)
  | f + 1, k, x, acc, p =>
    if C.has p k x then .ok (acc, p + 1)
    else match itemM C (itemsL f 4 [125] []) acc p with
      | .error e => .error e
      | .ok (i, q) => itemsL f k x (acc ++ [i]) q
end
mutual
/-- how deep items are -/
def idp : It → Nat | .mk b _ _ _ l _ => if b then 1 + idpL l else 0
def idpL : List It → Nat | [] => 0 | a :: r => max (idp a) (idpL r)
end
/-- what a text's items are, or what is wrong -/
noncomputable def confM (L : List UInt8) : List It × Nat × Ps :=
  match lexL L with
  | .error (e, p) => ([], e, p.ps)
  | .ok ts => match itemsL ⟨ts, ps0, innM⟩ (ts.length + 1) 0 [] [] 0 with
    | .error (e, q) => ([], e, q)
    | .ok (l, _) => if 8 < idpL l then ([], 12, ⟨0, 1, 1⟩) else (l, 0, ps0)

/-- an item's cells -/
abbrev ic (X : It) (oL : Option Addr) (cL : Nat) (oV : Option Addr) (cV : Nat) (oK : Option Addr) (cK : Nat) (o : Option Addr) (cap : Nat) (oI : Option Addr) (cI : Nat) : Array Value :=
  #[.bool X.b, .string (tx X.nm), .slice oL X.lb.length cL, .int .i64 X.e.op, .string X.e.s, .string X.e.s2, .int .i64 X.e.v.k, .int .i64 X.e.v.i, .string X.e.v.s, .slice oV X.e.v.l.length cV, .slice oK X.e.v.ks.length cK, .int .i64 X.e.v.tk, .int .i64 X.e.v.to, .bool X.e.v.x, .slice o X.e.l.length cap, .int .i64 X.e.a, .int .i64 X.e.ln, .int .i64 X.e.c, .slice oI X.l.length cI, .int .i64 X.p.a, .int .i64 X.p.l, .int .i64 X.p.c]
/-- an item in memory -/
inductive IP (P : Nat → Prop) (w : World) : It → Value → Prop
  | mk (X : It) (oL oV oK o oI : Option Addr) (cL cV cK cap cI : Nat) (c : Nat → Nat → Value)
      (hl : RowP P w oL cL X.lb.length 1 fun j _ => .string (tx (X.lb.getD j [])))
      (he : XP P w X.e (.agg (xc X.e oV cV oK cK o cap)))
      (hi : RowP P w oI cI X.l.length 22 c)
      (hx : ∀ j x, X.l[j]? = some x → IP P w x (.agg #[c j 0, c j 1, c j 2, c j 3, c j 4, c j 5, c j 6, c j 7, c j 8, c j 9, c j 10, c j 11, c j 12, c j 13, c j 14, c j 15, c j 16, c j 17, c j 18, c j 19, c j 20, c j 21])) :
      IP P w X (.agg (ic X oL cL oV cV oK cK o cap oI cI))
theorem IP.keptP {P P' : Nat → Prop} {w w' : World} {X : It} {v : Value} (h : IP P w X v) (b : ∀ k, P k → P' k ∧ w'.heap[k]? = w.heap[k]?) : IP P' w' X v := by
  induction h with
  | mk X oL oV oK o oI cL cV cK cap cI c hl he hi hx ih => exact .mk X oL oV oK o oI cL cV cK cap cI c (hl.keptP b) (he.keptP b) (hi.keptP b) ih
theorem IP.mono {P P' : Nat → Prop} {w : World} {X : It} {v : Value} (h : IP P w X v) (b : ∀ k, P k → P' k) : IP P' w X v := h.keptP fun k hk => ⟨b k hk, rfl⟩

/-- the memory of a reader of items: the tokens' row, and what doesn't turn -/
structure Kz where
  acc : List (Tkn × Option Addr × Nat)
  vl : Value
  n0 : Nat
def Kz.z (K : Kz) (sg : Nat) (n : Nat) : Cz := ⟨K.acc, K.vl, sg, ps0, n⟩
noncomputable def Kz.cx (K : Kz) : Cx := ⟨K.acc.map (·.1), ps0, innM⟩
def Kz.tz (K : Kz) (i : Nat) : Tkn × Option Addr × Nat := (K.acc[i]?).getD (tk0, none, 0)
theorem Kz.tk_eq (K : Kz) (i : Nat) : K.cx.tk i = (K.tz i).1 := (K.z 0 0).tk_eq innM i
theorem Kz.len_eq (K : Kz) : K.cx.L.length = K.acc.length := by unfold Kz.cx; simp
structure Kt (w : World) (R : Nat) (K : Kz) : Prop where
  tk : ∃ o cap, K.vl = .slice o K.acc.length cap ∧ RowP (Ok K.n0 R) w o cap K.acc.length 7 (fun j m => tc7 (K.tz j) m)
  pt : ∀ x, x ∈ K.acc → RowP (Ok K.n0 R) w x.2.1 x.2.2 x.1.ps.length 5 (fun j m => pc5 ((x.1.ps[j]?).getD prt0) m)
  tb : Tab w
  lv : Lev w
  r2 : 2 ≤ R
  n2 : 2 ≤ K.n0
theorem Kt.kept {w w' : World} {R : Nat} {K : Kz} (h : Kt w R K) (hF : ∀ k, k < K.n0 → k ≠ R → w'.heap[k]? = w.heap[k]?) : Kt w' R K := by
  have key : ∀ k, Ok K.n0 R k → Ok K.n0 R k ∧ w'.heap[k]? = w.heap[k]? := fun k hk => ⟨hk, hF k hk.1 hk.2⟩
  have hr2 := h.r2
  have hn2 := h.n2
  refine ⟨?_, fun x hx => (h.pt x hx).keptP key, h.tb.at (hF 0 (by omega) (by omega)), h.lv.at (hF 1 (by omega) (by omega)), hr2, hn2⟩
  obtain ⟨o, cap, e, r⟩ := h.tk
  exact ⟨o, cap, e, r.keptP key⟩
structure Kd (w : World) (R : Nat) (K : Kz) (p : Nat) : Prop where
  blk : w.heap[R]? = some (.cells #[K.vl, .int .i64 p] 75 (0, 0))
  kt : Kt w R K
  sz : Sz (K.z 0 0)
  iq : Inq (K.z 0 0)
  le : p ≤ K.acc.length
  nn : K.n0 ≤ w.heap.size
theorem Kd.lt {w : World} {R : Nat} {K : Kz} {p : Nat} (h : Kd w R K p) : R < w.heap.size := (Array.getElem?_eq_some_iff.1 h.blk).1
theorem Kd.below {w w' : World} {R : Nat} {K : Kz} {p : Nat} (h : Kd w R K p) (hb : Below w.heap.size w w') : Kd w' R K p :=
  ⟨(hb.block R h.lt).trans h.blk, h.kt.kept fun k hk _ => hb.block k (Nat.lt_of_lt_of_le hk h.nn), h.sz, h.iq, h.le, Nat.le_trans h.nn hb.size⟩
/-- a reader's two cells -/
theorem rc2 {w : World} {b : Nat} {c0 c1 : Value} {t : TypeId} (h : w.heap[b]? = some (.cells #[c0, c1] t (0, 0))) :
    (w.cell? ⟨b, 0, none⟩ = some c0 ∧ w.cell? ⟨b, 1, none⟩ = some c1) ∧ (w.frozen? ⟨b, 0, none⟩ = false ∧ w.frozen? ⟨b, 1, none⟩ = false) ∧ b < w.heap.size :=
  ⟨⟨cell_of_row w b 0 _ _ _ h, cell_of_row w b 1 _ _ _ h⟩, ⟨frozen_of_row w b 0 _ _ h, frozen_of_row w b 1 _ _ h⟩, (Array.getElem?_eq_some_iff.1 h).1⟩
theorem Kt.at {w : World} {R : Nat} {K : Kz} (h : Kt w R K) {i : Nat} (hi : i < K.acc.length) : ∃ b o cap, K.vl = .slice (some ⟨b, o, none⟩) K.acc.length cap ∧ Ok K.n0 R b ∧ K.acc.length ≤ cap ∧ cap ≤ maxLen ∧
    (w.cell? ⟨b, o + i * 7, none⟩ = some (.int .i64 (K.tz i).1.k) ∧ w.cell? ⟨b, o + i * 7 + 1, none⟩ = some (.string (tx (K.tz i).1.s)) ∧ w.cell? ⟨b, o + i * 7 + 2, none⟩ = some (.int .i64 (K.tz i).1.n) ∧ w.cell? ⟨b, o + i * 7 + 3, none⟩ = some (psv (K.tz i)) ∧ w.cell? ⟨b, o + i * 7 + 4, none⟩ = some (.int .i64 (K.tz i).1.p.a) ∧ w.cell? ⟨b, o + i * 7 + 5, none⟩ = some (.int .i64 (K.tz i).1.p.l) ∧ w.cell? ⟨b, o + i * 7 + 6, none⟩ = some (.int .i64 (K.tz i).1.p.c)) := by
  obtain ⟨o, cap, e, h1, h2, h3, h4⟩ := h.tk
  obtain ⟨b, off, rfl, hb, hc⟩ := h4 (by omega)
  have g := hc i hi
  exact ⟨b, off, cap, e, hb, h1, h2, g 0 (by omega), g 1 (by omega), g 2 (by omega), g 3 (by omega), g 4 (by omega), g 5 (by omega), g 6 (by omega)⟩
theorem Kt.len {w : World} {R : Nat} {K : Kz} (h : Kt w R K) : K.acc.length ≤ maxLen := by
  obtain ⟨o, cap, e, h1, h2, h3, h4⟩ := h.tk
  exact Nat.le_trans h1 h2
end Go.Proofs.YtncjncacfagldaaDoor
/- A map of the call's own, as a partial function from keys to elements; of whatever program. -/
namespace Go.Proofs.YtncjncacfagldaaDoor
open Go.ChangeShapes Go.WideShapes Go.MapKept Go.RowKit
open Go.Maps (Keyed)
open Go.ChangeMaps (setBlock modify_eq_set heap_setBlock_same heap_setBlock_other)


section
variable {w : World} {b : Nat}
theorem grown_set {es es' : Array MapEntry} {clock clock' : Nat} (hb : w.heap[b]? = some (.map es clock)) : w.grownBy (setBlock w b (.map es' clock')) (some b) :=
  ⟨rfl, rfl, rfl, by simp [setBlock], fun i _ hi => heap_setBlock_other hb _ (fun e => hi (by rw [e]))⟩
theorem other_at {es : Array MapEntry} {clock : Nat} (hs : Stamped es clock) {j i : Nat} {e0 x : MapEntry} (h2 : es.toList[j]? = some e0) (hi : es.toList[i]? = some x) (hne : i ≠ j) : x.key ≠ e0.key := by
  intro he
  have hn : es.toList.Pairwise (fun x y => x.key ≠ y.key) := ((stamped_iff es clock).1 hs).2.2
  obtain ⟨hj, ej⟩ := List.getElem?_eq_some_iff.1 h2
  obtain ⟨hi', ei⟩ := List.getElem?_eq_some_iff.1 hi
  rw [← ej, ← ei] at he
  rcases Nat.lt_or_gt_of_ne hne with h | h
  · exact List.pairwise_iff_getElem.1 hn i j hi' hj h he
  · exact List.pairwise_iff_getElem.1 hn j i hj hi' h he.symm
end
/-- block b is a map that holds f -/
def Mo (P : Program) (k : TypeId) (w : World) (b : Nat) (f : Value → Option Value) : Prop :=
  ∃ es clock, w.heap[b]? = some (.map es clock) ∧ Stamped es clock ∧ (∀ x ∈ es.toList, ∃ l, keyOf P k x.key = some l) ∧ (∀ x ∈ es.toList, f x.key = some x.val) ∧ ∀ y, (∀ x ∈ es.toList, x.key ≠ y) → f y = none
noncomputable def ins (f : Value → Option Value) (y v : Value) : Value → Option Value := fun x => open Classical in if x = y then some v else f x
theorem ins_same (f : Value → Option Value) (y v : Value) : ins f y v y = some v := by unfold ins; simp
theorem ins_other (f : Value → Option Value) {y x : Value} (v : Value) (h : x ≠ y) : ins f y v x = f x := by unfold ins; simp [h]

variable {P : Program} {k t e : TypeId} {w w' : World} {b : Nat} {f : Value → Option Value}
theorem Mo.lt (h : Mo P k w b f) : b < w.heap.size := by
  obtain ⟨es, clock, hb, _⟩ := h
  exact (Array.getElem?_eq_some_iff.1 hb).1
theorem Mo.kept (h : Mo P k w b f) (hb : w'.heap[b]? = w.heap[b]?) : Mo P k w' b f := by
  obtain ⟨es, clock, h0, h1⟩ := h
  exact ⟨es, clock, hb.trans h0, h1⟩
theorem Mo.keep (h : Mo P k w b f) (hb : Below w.heap.size w w') : Mo P k w' b f := h.kept (hb.block b h.lt)
theorem Mo.made (w : World) (P : Program) (k : TypeId) : Mo P k (w.alloc (.map #[] 0)) w.heap.size fun _ => none :=
  ⟨#[], 0, (MapKept.heap_alloc w _).1, stamped_empty 0, by simp, by simp, fun _ _ => rfl⟩
/-- 'v, ok := m[k]' -/
theorem Mo.look (h : Mo P k w b f) (K : Keyed P k) (ht : P.underlying t = some (.map k e)) {z : Value} (hz : ∀ u : World, (zeroValue e).run P u = .ok z u) {key : Value} {kl : Lit} (hkey : keyOf P k key = some kl) :
    (Instr.lookup t (.map (some b)) key true).run P w = .ok (.tuple #[(f key).getD z, .bool (f key).isSome]) w := by
  obtain ⟨es, clock, hb, hst, hks, hvs, hns⟩ := h
  rcases K.find w hkey es.toList hks with ⟨h1, h2⟩ | ⟨j, e0, h1, h2, h3⟩
  · rw [hns key h2]
    simp [Instr.lookup, run_underlying ht, MapKept.run_getObj_map hb, K.check w _ hkey, h1, hz, Result.andThen]
  · have := hvs e0 (List.mem_of_getElem? h2)
    rw [h3] at this
    rw [this]
    simp [Instr.lookup, run_underlying ht, MapKept.run_getObj_map hb, K.check w _ hkey, h1, Result.andThen]
/-- 'm[k] = v' -/
theorem Mo.put (h : Mo P k w b f) (K : Keyed P k) (ht : P.underlying t = some (.map k e)) {key : Value} {kl : Lit} (hkey : keyOf P k key = some kl) (v : Value) :
    ∃ w1, (Instr.mapUpdate t (.map (some b)) key v).run P w = .ok () w1 ∧ Mo P k w1 b (ins f key v) ∧ w.grownBy w1 (some b) := by
  obtain ⟨es, clock, hb, hst, hks, hvs, hns⟩ := h
  rcases K.find w hkey es.toList hks with ⟨h1, h2⟩ | ⟨j, e0, h1, h2, h3⟩
  · refine ⟨setBlock w b (.map (es.push ⟨key, v, clock⟩) (clock + 1)), ?_, ⟨_, _, heap_setBlock_same hb _, stamped_push hst h2, ?_, ?_, ?_⟩, grown_set hb⟩
    · simp [Instr.mapUpdate, run_underlying ht, MapKept.run_getObj_map hb, K.check w false hkey, h1, MapKept.run_setObj_map _ hb, Result.andThen, setBlock]
    · intro x hx
      simp only [Array.toList_push, List.mem_append, List.mem_singleton] at hx
      rcases hx with hx | rfl
      · exact hks x hx
      · exact ⟨kl, hkey⟩
    · intro x hx
      simp only [Array.toList_push, List.mem_append, List.mem_singleton] at hx
      rcases hx with hx | rfl
      · rw [ins_other f v (h2 x hx)]; exact hvs x hx
      · exact ins_same f key v
    · intro y hy
      have h5 : y ≠ key := fun e => hy ⟨key, v, clock⟩ (by simp) e.symm
      rw [ins_other f v h5]
      exact hns y fun x hx => hy x (by simp only [Array.toList_push, List.mem_append]; exact .inl hx)
  · have hj : es[j]? = some e0 := by simpa using h2
    have hjl : j < es.toList.length := (List.getElem?_eq_some_iff.1 h2).1
    have hlist : (es.modify j (fun e' => { e' with key := key, val := v })).toList = es.toList.set j { e0 with key := key, val := v } := by rw [Array.toList_modify, modify_eq_set _ _ _ _ h2]
    have hkeyf : ∀ e', es[j]? = some e' → ({ e' with key := key, val := v } : MapEntry).key = e'.key := fun e' he' => by rw [hj] at he'; cases he'; exact h3.symm
    have who : ∀ x ∈ es.toList.set j { e0 with key := key, val := v }, x = { e0 with key := key, val := v } ∨ (x ∈ es.toList ∧ x.key ≠ key) := by
      intro x hx
      obtain ⟨i, hi, ex⟩ := List.getElem_of_mem hx
      rw [List.getElem_set] at ex
      split at ex
      · exact Or.inl ex.symm
      · rename_i hne
        have hi' : i < es.toList.length := by simpa using hi
        refine Or.inr ⟨ex ▸ List.getElem_mem hi', ?_⟩
        rw [← h3]
        exact other_at hst h2 (by rw [List.getElem?_eq_getElem hi', ex]) (fun e1 => hne e1.symm)
    refine ⟨setBlock w b (.map (es.modify j (fun e' => { e' with key := key, val := v })) clock), ?_, ⟨_, _, heap_setBlock_same hb _, stamped_modify hst _ _ (fun _ _ => rfl) (fun e' _ he' => hkeyf e' he'), ?_, ?_, ?_⟩, grown_set hb⟩
    · simp [Instr.mapUpdate, run_underlying ht, MapKept.run_getObj_map hb, K.check w false hkey, h1, hj, h3, K.stays w hkey, MapKept.run_setObj_map _ hb, Result.andThen, setBlock]
    · intro x hx
      rw [hlist] at hx
      rcases who x hx with rfl | ⟨hx', _⟩
      · exact ⟨kl, hkey⟩
      · exact hks x hx'
    · intro x hx
      rw [hlist] at hx
      rcases who x hx with rfl | ⟨hx', hne⟩
      · exact ins_same f key v
      · rw [ins_other f v hne]; exact hvs x hx'
    · intro y hy
      rw [hlist] at hy
      have h5 : y ≠ key := fun e => hy { e0 with key := key, val := v } (List.mem_iff_getElem.2 ⟨j, by simpa using hjl, by simp⟩) e.symm
      rw [ins_other f v h5]
      refine hns y fun x hx hxy => ?_
      obtain ⟨i, hi, ex⟩ := List.getElem_of_mem hx
      by_cases hij : i = j
      · subst hij
        rw [List.getElem?_eq_getElem hi, ex] at h2
        injection h2 with h2
        subst h2
        exact h5 (hxy ▸ h3)
      · refine hy x (List.mem_iff_getElem.2 ⟨i, by simpa using hi, ?_⟩) hxy
        rw [List.getElem_set_ne (fun e => hij e.symm)]
        exact ex
end Go.Proofs.YtncjncacfagldaaDoor

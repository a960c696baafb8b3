import Derived.Test.YtncjncacfagldaaGreatDoorYWXM
import Derived.Test.YtncjncacfagldaaGreatDoorYWZg
import Derived.Maps.Own
import Derived.Maps.OwnOps
import Derived.WideKeyEntry
import Derived.DeepKeys4
namespace Go.Proofs.YtncjncacfagldaaGreatDoor
open Go.RowKit Go.Lib

theorem tokL_eq (p : Plc) (c : UInt8) (r : List UInt8) : (if isLetter c.toNat = true then (if 24 < (takeP isWord (c :: r)).length then .error 3 else .ok (⟨1, takeP isWord (c :: r), 0, [], p⟩, dropP isWord (c :: r)))
 else if isDgt c.toNat = true then (if pe (takeP isWord (c :: r)) false = 0 then .ok (⟨2, [], pv (takeP isWord (c :: r)) false, [], p⟩, dropP isWord (c :: r)) else .error (pe (takeP isWord (c :: r)) false).toNat)
 else if c = 34 then strE p (strL (r.length + 1) r (p.step c) [] [] 0)
 else if sgn (c :: r) = 0 then .error 23 else .ok (⟨4, (c :: r).take (sgn (c :: r)), 0, [], p⟩, (c :: r).drop (sgn (c :: r)))) = tokL p (c :: r) := by
 show _ = (if isLetter c.toNat = true then _ else if isDgt c.toNat = true then _ else if c = 34 then _ else _)
 congr
open Go.RowKit Go.Lib

theorem tokL_kind {p : Plc} {l r : List UInt8} {t : Tkn} (h : tokL p l = .ok (t, r)) : t.k ≠ 0 := by
 cases l with
 | nil => cases h
 | cons c x =>
   rw [← tokL_eq] at h
   split at h
   · split at h
     · cases h
     · simp only [Except.ok.injEq, Prod.mk.injEq] at h
       rw [← h.1]; show (1 : Nat) ≠ 0; decide
   · split at h
     · split at h
       · simp only [Except.ok.injEq, Prod.mk.injEq] at h
         rw [← h.1]; show (2 : Nat) ≠ 0; decide
       · cases h
     · split at h
       · cases h1 : strL (x.length + 1) x (p.step c) [] [] 0 with
         | none => rw [h1] at h; cases h
         | some S =>
           obtain ⟨a, m, z⟩ := S
           rw [h1] at h
           unfold strE at h
           simp only at h
           split at h
           · cases h
           · simp only [Except.ok.injEq, Prod.mk.injEq] at h
             rw [← h.1]; show (3 : Nat) ≠ 0; decide
       · split at h
         · cases h
         · simp only [Except.ok.injEq, Prod.mk.injEq] at h
           rw [← h.1]; show (4 : Nat) ≠ 0; decide
theorem allL_kinds : ∀ (f : Nat) (p : Plc) (l : List UInt8) (ts : List Tkn), allL f p l = .ok ts → ∃ xs e, ts = xs ++ [e] ∧ e.k = 0 ∧ ∀ x ∈ xs, x.k ≠ 0
 | 0, _, _, _, h => by cases h
 | f + 1, p, l, ts, h => by
   rw [allL] at h
   cases hs : skip l with
   | nil =>
     rw [hs] at h
     simp only [Except.ok.injEq] at h
     exact ⟨[], _, h.symm, rfl, fun x hx => by cases hx⟩
   | cons c r =>
     rw [hs] at h
     simp only at h
     cases ht : tokL (p.adv (l.take (l.length - (r.length + 1)))) (c :: r) with
     | error e => rw [ht] at h; cases h
     | ok tr =>
       obtain ⟨t, z⟩ := tr
       rw [ht] at h
       simp only at h
       cases hx : allL f (p.adv (l.take (l.length - z.length))) z with
       | error e => rw [hx] at h; cases h
       | ok vs =>
         rw [hx] at h
         simp only [Except.ok.injEq] at h
         obtain ⟨xs, e, rfl, he, hk⟩ := allL_kinds f _ _ _ hx
         refine ⟨t :: xs, e, h.symm, he, fun x hx => ?_⟩
         rcases List.mem_cons.1 hx with rfl | hx
         · exact tokL_kind ht
         · exact hk x hx
theorem lexL_kinds {l : List UInt8} {ts : List Tkn} (h : lexL l = .ok ts) : ∃ xs e, ts = xs ++ [e] ∧ e.k = 0 ∧ ∀ x ∈ xs, x.k ≠ 0 := by
 unfold lexL at h
 split at h
 · cases h
 · exact allL_kinds _ _ _ _ h
theorem tk_out {C : Cx} {xs : List Tkn} {e : Tkn} (h : C.L = xs ++ [e]) (he : e.k = 0) {i : Nat} (hi : xs.length ≤ i) : (C.tk i).k = 0 := by
 unfold Cx.tk
 rw [h, List.getElem?_append_right hi]
 cases i - xs.length with
 | zero => exact he
 | succ j => rfl
theorem inn_move (l : List UInt8) (h h' : Ps) (h0 : (innM l h).2.1 = 0) : (innM l h').2.1 = 0 ∧ bareX (innM l h).1 = bareX (innM l h').1 := by
 cases hl : lexL l with
 | error ep =>
   obtain ⟨e, p⟩ := ep
   rw [innM_err hl] at h0
   exact absurd h0 (lexL_nz hl).1
 | ok ts =>
   obtain ⟨xs, e, rfl, he, hx⟩ := lexL_kinds hl
   rw [innM_ok hl] at h0 ⊢
   rw [innM_ok hl]
   refine whole_move (n := xs.length) (C := ⟨xs ++ [e], h, noInn⟩) (D := ⟨xs ++ [e], h', noInn⟩) ⟨fun i _ => ⟨rfl, rfl, rfl, rfl⟩, fun i hi => tk_out (C := ⟨xs ++ [e], h, noInn⟩) rfl he hi, fun h4 => absurd h4 (by rw [tk_out (C := ⟨xs ++ [e], h', noInn⟩) (i := xs.length + 0) rfl he (Nat.le_refl _)]; decide), fun _ _ _ _ => ⟨rfl, rfl⟩, by simp, by simp⟩ (by simp) (by simp) (fun i hi => tk_out (C := ⟨xs ++ [e], h', noInn⟩) rfl he hi) h0
open Go.RowKit Go.Lib

inductive It where
 | mk (b : Bool) (nm : List UInt8) (lb : List (List UInt8)) (e : Ex) (l : List It) (p : Ps)
namespace It
def b : It → Bool | .mk a _ _ _ _ _ => a
def nm : It → List UInt8 | .mk _ a _ _ _ _ => a
def lb : It → List (List UInt8) | .mk _ _ a _ _ _ => a
def e : It → Ex | .mk _ _ _ a _ _ => a
def l : It → List It | .mk _ _ _ _ a _ => a
def p : It → Ps | .mk _ _ _ _ _ a => a
end It
section
variable (C : Cx)
def Cx.at (C : Cx) (p : Nat) : Ps := (C.tk p).p.ps
def Cx.has (C : Cx) (p k : Nat) (x : List UInt8) : Bool := C.is ⟨p, 0, ps0⟩ k x
def readM (p : Nat) : Ex × Nat × Nat × Ps :=
 let e := (fs C (3 * C.L.length + 3)).ex ⟨p, 0, ps0⟩
 let j := judgeC e.1 e.2 (C.pl ⟨p, 0, ps0⟩)
 if j.1 = 0 then (e.1, e.2.p, 0, ps0) else (zeroX, 0, j)
def labelsM : Nat → Nat → List (List UInt8) → Except (Nat × Ps) (List (List UInt8) × Nat)
 | 0, p, acc => .ok (acc, p)
 | f + 1, p, acc =>
   if (C.tk p).k = 3 then
    if (C.tk p).ps.any (·.ex) then .error (4, C.at p)
    else if acc.length = 4 then .error (3, C.at p)
    else labelsM f (p + 1) (acc ++ [(C.tk p).ps.flatMap (·.s)])
   else .ok (acc, p)
def attrs (l : List It) : List (List UInt8) := (l.filter fun x => !x.b).map (·.nm)
def attributeM (t : Tkn) (met : List (List UInt8)) (p : Nat) : Except (Nat × Ps) (It × Nat) :=
 if t.s ∈ met then .error (10, t.p.ps)
 else if (readM C p).2.2.1 = 0 then .ok (.mk false t.s [] (readM C p).1 [] t.p.ps, (readM C p).2.1) else .error (readM C p).2.2
def blockM (rec : Nat → Except (Nat × Ps) (List It × Nat)) (t : Tkn) (p : Nat) : Except (Nat × Ps) (It × Nat) :=
 match labelsM C (C.L.length + 1) p [] with
 | .error e => .error e
 | .ok (lb, q) =>
   if C.has q 4 [123] then
    match rec (q + 1) with
    | .error e => .error e
    | .ok (l, q2) => .ok (.mk true t.s lb zeroX l t.p.ps, q2)
   else .error (4, C.at q)
def itemM (rec : Nat → Except (Nat × Ps) (List It × Nat)) (acc : List It) (p : Nat) : Except (Nat × Ps) (It × Nat) :=
 if (C.tk p).k ≠ 1 then .error (4, C.at p)
 else if acc.length = 128 then .error (3, C.at p)
 else if C.has (p + 1) 4 [61] then attributeM C (C.tk p) (attrs acc) (p + 1 + 1)
 else blockM C rec (C.tk p) (p + 1)
def itemsL : Nat → Nat → List UInt8 → List It → Nat → Except (Nat × Ps) (List It × Nat)
 | 0, _, _, _, _ => .error (99, ps0)
 | f + 1, k, x, acc, p =>
   if C.has p k x then .ok (acc, p + 1)
   else match itemM C (itemsL f 4 [125] []) acc p with
    | .error e => .error e
    | .ok (i, q) => itemsL f k x (acc ++ [i]) q
end
mutual
def idp : It → Nat | .mk b _ _ _ l _ => if b then 1 + idpL l else 0
def idpL : List It → Nat | [] => 0 | a :: r => max (idp a) (idpL r)
end
noncomputable def confM (L : List UInt8) : List It × Nat × Ps :=
 match lexL L with
 | .error (e, p) => ([], e, p.ps)
 | .ok ts => match itemsL ⟨ts, ps0, innM⟩ (ts.length + 1) 0 [] [] 0 with
   | .error (e, q) => ([], e, q)
   | .ok (l, _) => if 8 < idpL l then ([], 12, ⟨0, 1, 1⟩) else (l, 0, ps0)

abbrev ic (X : It) (oL : Option Addr) (cL : Nat) (oV : Option Addr) (cV : Nat) (oK : Option Addr) (cK : Nat) (o : Option Addr) (cap : Nat) (oI : Option Addr) (cI : Nat) : Array Value :=
 #[.bool X.b, .string (tx X.nm), .slice oL X.lb.length cL, .int .i64 X.e.op, .string X.e.s, .string X.e.s2, .int .i64 X.e.v.k, .int .i64 X.e.v.i, .string X.e.v.s, .slice oV X.e.v.l.length cV, .slice oK X.e.v.ks.length cK, .int .i64 X.e.v.tk, .int .i64 X.e.v.to, .bool X.e.v.x, .slice o X.e.l.length cap, .int .i64 X.e.a, .int .i64 X.e.ln, .int .i64 X.e.c, .slice oI X.l.length cI, .int .i64 X.p.a, .int .i64 X.p.l, .int .i64 X.p.c]
inductive IP (P : Nat → Prop) (w : World) : It → Value → Prop
 | mk (X : It) (oL oV oK o oI : Option Addr) (cL cV cK cap cI : Nat) (c : Nat → Nat → Value)
    (hl : RowP P w oL cL X.lb.length 1 fun j _ => .string (tx (X.lb.getD j [])))
    (he : XP P w X.e (.agg (xc X.e oV cV oK cK o cap)))
    (hi : RowP P w oI cI X.l.length 22 c)
    (hx : ∀ j x, X.l[j]? = some x → IP P w x (.agg #[c j 0, c j 1, c j 2, c j 3, c j 4, c j 5, c j 6, c j 7, c j 8, c j 9, c j 10, c j 11, c j 12, c j 13, c j 14, c j 15, c j 16, c j 17, c j 18, c j 19, c j 20, c j 21])) :
    IP P w X (.agg (ic X oL cL oV cV oK cK o cap oI cI))
theorem IP.keptP {P P' : Nat → Prop} {w w' : World} {X : It} {v : Value} (h : IP P w X v) (b : ∀ k, P k → P' k ∧ w'.heap[k]? = w.heap[k]?) : IP P' w' X v := by
 induction h with
 | mk X oL oV oK o oI cL cV cK cap cI c hl he hi hx ih => exact .mk X oL oV oK o oI cL cV cK cap cI c (hl.keptP b) (he.keptP b) (hi.keptP b) ih
theorem IP.mono {P P' : Nat → Prop} {w : World} {X : It} {v : Value} (h : IP P w X v) (b : ∀ k, P k → P' k) : IP P' w X v := h.keptP fun k hk => ⟨b k hk, rfl⟩

structure Kz where
 acc : List (Tkn × Option Addr × Nat)
 vl : Value
 n0 : Nat
def Kz.z (K : Kz) (sg : Nat) (n : Nat) : Cz := ⟨K.acc, K.vl, sg, ps0, n⟩
noncomputable def Kz.cx (K : Kz) : Cx := ⟨K.acc.map (·.1), ps0, innM⟩
def Kz.tz (K : Kz) (i : Nat) : Tkn × Option Addr × Nat := (K.acc[i]?).getD (tk0, none, 0)
theorem Kz.tk_eq (K : Kz) (i : Nat) : K.cx.tk i = (K.tz i).1 := (K.z 0 0).tk_eq innM i
theorem Kz.len_eq (K : Kz) : K.cx.L.length = K.acc.length := by unfold Kz.cx; simp
structure Kt (w : World) (R : Nat) (K : Kz) : Prop where
 tk : ∃ o cap, K.vl = .slice o K.acc.length cap ∧ RowP (Ok K.n0 R) w o cap K.acc.length 7 (fun j m => tc7 (K.tz j) m)
 pt : ∀ x, x ∈ K.acc → RowP (Ok K.n0 R) w x.2.1 x.2.2 x.1.ps.length 5 (fun j m => pc5 ((x.1.ps[j]?).getD prt0) m)
 tb : Tab w
 lv : Lev w
 r2 : 4 ≤ R
 n2 : 4 ≤ K.n0
theorem Kt.kept {w w' : World} {R : Nat} {K : Kz} (h : Kt w R K) (hF : ∀ k, k < K.n0 → k ≠ R → w'.heap[k]? = w.heap[k]?) : Kt w' R K := by
 have key : ∀ k, Ok K.n0 R k → Ok K.n0 R k ∧ w'.heap[k]? = w.heap[k]? := fun k hk => ⟨hk, hF k hk.1 hk.2⟩
 have hr2 := h.r2
 have hn2 := h.n2
 refine ⟨?_, fun x hx => (h.pt x hx).keptP key, h.tb.at (hF 2 (by omega) (by omega)), h.lv.at (hF 3 (by omega) (by omega)), hr2, hn2⟩
 obtain ⟨o, cap, e, r⟩ := h.tk
 exact ⟨o, cap, e, r.keptP key⟩
structure Kd (w : World) (R : Nat) (K : Kz) (p : Nat) : Prop where
 blk : w.heap[R]? = some (.cells #[K.vl, .int .i64 p] 95 (0, 0))
 kt : Kt w R K
 sz : Sz (K.z 0 0)
 iq : Inq (K.z 0 0)
 le : p ≤ K.acc.length
 nn : K.n0 ≤ w.heap.size
theorem Kd.lt {w : World} {R : Nat} {K : Kz} {p : Nat} (h : Kd w R K p) : R < w.heap.size := (Array.getElem?_eq_some_iff.1 h.blk).1
theorem Kd.below {w w' : World} {R : Nat} {K : Kz} {p : Nat} (h : Kd w R K p) (hb : Below w.heap.size w w') : Kd w' R K p :=
 ⟨(hb.block R h.lt).trans h.blk, h.kt.kept fun k hk _ => hb.block k (Nat.lt_of_lt_of_le hk h.nn), h.sz, h.iq, h.le, Nat.le_trans h.nn hb.size⟩
theorem rc2 {w : World} {b : Nat} {c0 c1 : Value} {t : TypeId} (h : w.heap[b]? = some (.cells #[c0, c1] t (0, 0))) :
 (w.cell? ⟨b, 0, none⟩ = some c0 ∧ w.cell? ⟨b, 1, none⟩ = some c1) ∧ (w.frozen? ⟨b, 0, none⟩ = false ∧ w.frozen? ⟨b, 1, none⟩ = false) ∧ b < w.heap.size :=
 ⟨⟨cell_of_row w b 0 _ _ _ h, cell_of_row w b 1 _ _ _ h⟩, ⟨frozen_of_row w b 0 _ _ h, frozen_of_row w b 1 _ _ h⟩, (Array.getElem?_eq_some_iff.1 h).1⟩
theorem Kt.at {w : World} {R : Nat} {K : Kz} (h : Kt w R K) {i : Nat} (hi : i < K.acc.length) : ∃ b o cap, K.vl = .slice (some ⟨b, o, none⟩) K.acc.length cap ∧ Ok K.n0 R b ∧ K.acc.length ≤ cap ∧ cap ≤ maxLen ∧
 (w.cell? ⟨b, o + i * 7, none⟩ = some (.int .i64 (K.tz i).1.k) ∧ w.cell? ⟨b, o + i * 7 + 1, none⟩ = some (.string (tx (K.tz i).1.s)) ∧ w.cell? ⟨b, o + i * 7 + 2, none⟩ = some (.int .i64 (K.tz i).1.n) ∧ w.cell? ⟨b, o + i * 7 + 3, none⟩ = some (psv (K.tz i)) ∧ w.cell? ⟨b, o + i * 7 + 4, none⟩ = some (.int .i64 (K.tz i).1.p.a) ∧ w.cell? ⟨b, o + i * 7 + 5, none⟩ = some (.int .i64 (K.tz i).1.p.l) ∧ w.cell? ⟨b, o + i * 7 + 6, none⟩ = some (.int .i64 (K.tz i).1.p.c)) := by
 obtain ⟨o, cap, e, h1, h2, h3, h4⟩ := h.tk
 obtain ⟨b, off, rfl, hb, hc⟩ := h4 (by omega)
 have g := hc i hi
 exact ⟨b, off, cap, e, hb, h1, h2, g 0 (by omega), g 1 (by omega), g 2 (by omega), g 3 (by omega), g 4 (by omega), g 5 (by omega), g 6 (by omega)⟩
open Go.ChangeShapes Go.WideShapes Go.MapKept Go.RowKit
open Go.Maps (Keyed)
open Go.ChangeMaps (setBlock modify_eq_set heap_setBlock_same heap_setBlock_other)


section
variable {w : World} {b : Nat}
theorem grown_set {es es' : Array MapEntry} {clock clock' : Nat} (hb : w.heap[b]? = some (.map es clock)) : w.grownBy (setBlock w b (.map es' clock')) (some b) :=
 ⟨rfl, rfl, rfl, by simp [setBlock], fun i _ hi => heap_setBlock_other hb _ (fun e => hi (by rw [e]))⟩
theorem other_at {es : Array MapEntry} {clock : Nat} (hs : Stamped es clock) {j i : Nat} {e0 x : MapEntry} (h2 : es.toList[j]? = some e0) (hi : es.toList[i]? = some x) (hne : i ≠ j) : x.key ≠ e0.key := by
 intro he
 have hn : es.toList.Pairwise (fun x y => x.key ≠ y.key) := ((stamped_iff es clock).1 hs).2.2
 obtain ⟨hj, ej⟩ := List.getElem?_eq_some_iff.1 h2
 obtain ⟨hi', ei⟩ := List.getElem?_eq_some_iff.1 hi
 rw [← ej, ← ei] at he
 rcases Nat.lt_or_gt_of_ne hne with h | h
 · exact List.pairwise_iff_getElem.1 hn i j hi' hj h he
 · exact List.pairwise_iff_getElem.1 hn j i hj hi' h he.symm
end
def Mo (P : Program) (k : TypeId) (w : World) (b : Nat) (f : Value → Option Value) : Prop :=
 ∃ es clock, w.heap[b]? = some (.map es clock) ∧ Stamped es clock ∧ (∀ x ∈ es.toList, ∃ l, keyOf P k x.key = some l) ∧ (∀ x ∈ es.toList, f x.key = some x.val) ∧ ∀ y, (∀ x ∈ es.toList, x.key ≠ y) → f y = none
noncomputable def ins (f : Value → Option Value) (y v : Value) : Value → Option Value := fun x => open Classical in if x = y then some v else f x
theorem ins_same (f : Value → Option Value) (y v : Value) : ins f y v y = some v := by unfold ins; simp
theorem ins_other (f : Value → Option Value) {y x : Value} (v : Value) (h : x ≠ y) : ins f y v x = f x := by unfold ins; simp [h]

variable {P : Program} {k t e : TypeId} {w w' : World} {b : Nat} {f : Value → Option Value}
theorem Mo.lt (h : Mo P k w b f) : b < w.heap.size := by
 obtain ⟨es, clock, hb, _⟩ := h
 exact (Array.getElem?_eq_some_iff.1 hb).1
theorem Mo.kept (h : Mo P k w b f) (hb : w'.heap[b]? = w.heap[b]?) : Mo P k w' b f := by
 obtain ⟨es, clock, h0, h1⟩ := h
 exact ⟨es, clock, hb.trans h0, h1⟩
theorem Mo.keep (h : Mo P k w b f) (hb : Below w.heap.size w w') : Mo P k w' b f := h.kept (hb.block b h.lt)
theorem Mo.made (w : World) (P : Program) (k : TypeId) : Mo P k (w.alloc (.map #[] 0)) w.heap.size fun _ => none :=
 ⟨#[], 0, (MapKept.heap_alloc w _).1, stamped_empty 0, by simp, by simp, fun _ _ => rfl⟩
theorem Mo.look (h : Mo P k w b f) (K : Keyed P k) (ht : P.underlying t = some (.map k e)) {z : Value} (hz : ∀ u : World, (zeroValue e).run P u = .ok z u) {key : Value} {kl : Lit} (hkey : keyOf P k key = some kl) :
 (Instr.lookup t (.map (some b)) key true).run P w = .ok (.tuple #[(f key).getD z, .bool (f key).isSome]) w := by
 obtain ⟨es, clock, hb, hst, hks, hvs, hns⟩ := h
 rcases K.find w hkey es.toList hks with ⟨h1, h2⟩ | ⟨j, e0, h1, h2, h3⟩
 · rw [hns key h2]
   simp [Instr.lookup, run_underlying ht, MapKept.run_getObj_map hb, K.check w _ hkey, h1, hz, Result.andThen]
 · have := hvs e0 (List.mem_of_getElem? h2)
   rw [h3] at this
   rw [this]
   simp [Instr.lookup, run_underlying ht, MapKept.run_getObj_map hb, K.check w _ hkey, h1, Result.andThen]
theorem Mo.put (h : Mo P k w b f) (K : Keyed P k) (ht : P.underlying t = some (.map k e)) {key : Value} {kl : Lit} (hkey : keyOf P k key = some kl) (v : Value) :
 ∃ w1, (Instr.mapUpdate t (.map (some b)) key v).run P w = .ok () w1 ∧ Mo P k w1 b (ins f key v) ∧ w.grownBy w1 (some b) := by
 obtain ⟨es, clock, hb, hst, hks, hvs, hns⟩ := h
 rcases K.find w hkey es.toList hks with ⟨h1, h2⟩ | ⟨j, e0, h1, h2, h3⟩
 · refine ⟨setBlock w b (.map (es.push ⟨key, v, clock⟩) (clock + 1)), ?_, ⟨_, _, heap_setBlock_same hb _, stamped_push hst h2, ?_, ?_, ?_⟩, grown_set hb⟩
   · simp [Instr.mapUpdate, run_underlying ht, MapKept.run_getObj_map hb, K.check w false hkey, h1, MapKept.run_setObj_map _ hb, Result.andThen, setBlock]
   · intro x hx
     simp only [Array.toList_push, List.mem_append, List.mem_singleton] at hx
     rcases hx with hx | rfl
     · exact hks x hx
     · exact ⟨kl, hkey⟩
   · intro x hx
     simp only [Array.toList_push, List.mem_append, List.mem_singleton] at hx
     rcases hx with hx | rfl
     · rw [ins_other f v (h2 x hx)]; exact hvs x hx
     · exact ins_same f key v
   · intro y hy
     have h5 : y ≠ key := fun e => hy ⟨key, v, clock⟩ (by simp) e.symm
     rw [ins_other f v h5]
     exact hns y fun x hx => hy x (by simp only [Array.toList_push, List.mem_append]; exact .inl hx)
 · have hj : es[j]? = some e0 := by simpa using h2
   have hjl : j < es.toList.length := (List.getElem?_eq_some_iff.1 h2).1
   have hlist : (es.modify j (fun e' => { e' with key := key, val := v })).toList = es.toList.set j { e0 with key := key, val := v } := by rw [Array.toList_modify, modify_eq_set _ _ _ _ h2]
   have hkeyf : ∀ e', es[j]? = some e' → ({ e' with key := key, val := v } : MapEntry).key = e'.key := fun e' he' => by rw [hj] at he'; cases he'; exact h3.symm
   have who : ∀ x ∈ es.toList.set j { e0 with key := key, val := v }, x = { e0 with key := key, val := v } ∨ (x ∈ es.toList ∧ x.key ≠ key) := by
    intro x hx
    obtain ⟨i, hi, ex⟩ := List.getElem_of_mem hx
    rw [List.getElem_set] at ex
    split at ex
    · exact Or.inl ex.symm
    · rename_i hne
      have hi' : i < es.toList.length := by simpa using hi
      refine Or.inr ⟨ex ▸ List.getElem_mem hi', ?_⟩
      rw [← h3]
      exact other_at hst h2 (by rw [List.getElem?_eq_getElem hi', ex]) (fun e1 => hne e1.symm)
   refine ⟨setBlock w b (.map (es.modify j (fun e' => { e' with key := key, val := v })) clock), ?_, ⟨_, _, heap_setBlock_same hb _, stamped_modify hst _ _ (fun _ _ => rfl) (fun e' _ he' => hkeyf e' he'), ?_, ?_, ?_⟩, grown_set hb⟩
   · simp [Instr.mapUpdate, run_underlying ht, MapKept.run_getObj_map hb, K.check w false hkey, h1, hj, h3, K.stays w hkey, MapKept.run_setObj_map _ hb, Result.andThen, setBlock]
   · intro x hx
     rw [hlist] at hx
     rcases who x hx with rfl | ⟨hx', _⟩
     · exact ⟨kl, hkey⟩
     · exact hks x hx'
   · intro x hx
     rw [hlist] at hx
     rcases who x hx with rfl | ⟨hx', hne⟩
     · exact ins_same f key v
     · rw [ins_other f v hne]; exact hvs x hx'
   · intro y hy
     rw [hlist] at hy
     have h5 : y ≠ key := fun e => hy { e0 with key := key, val := v } (List.mem_iff_getElem.2 ⟨j, by simpa using hjl, by simp⟩) e.symm
     rw [ins_other f v h5]
     refine hns y fun x hx hxy => ?_
     obtain ⟨i, hi, ex⟩ := List.getElem_of_mem hx
     by_cases hij : i = j
     · subst hij
       rw [List.getElem?_eq_getElem hi, ex] at h2
       injection h2 with h2
       subst h2
       exact h5 (hxy ▸ h3)
     · refine hy x (List.mem_iff_getElem.2 ⟨i, by simpa using hi, ?_⟩) hxy
       rw [List.getElem_set_ne (fun e => hij e.symm)]
       exact ex
open Go.RowKit

def OI (n : Nat) (w : World) (R : Nat) (v : Value) (l : List It) : Prop := ∃ cs : List (Array Value), cs.length = l.length ∧ (∀ (j : Nat) (X : It) (c : Array Value), l[j]? = some X → cs[j]? = some c → IP (fun k => Nu n w R k ∧ v.ownBlock ≠ some k) w X (.agg c)) ∧ (∀ c : Array Value, c ∈ cs → c.size = 22 ∧ ∀ u ∈ c.toList, u.oneCell' = true) ∧ w.ownsRow n 40 22 v l.length (cs.flatMap Array.toList) ∧ v.ownBlock ≠ some R
theorem OI.nil (n : Nat) (w : World) (R : Nat) : OI n w R (.slice none 0 0) [] := ⟨[], rfl, (fun j X c h => by simp at h), (fun c h => by cases h), ⟨rfl, .inl ⟨rfl, rfl⟩⟩, by simp [Value.ownBlock]⟩
theorem OI.fr {n : Nat} {w w' : World} {R : Nat} {v : Value} {l : List It} (h : OI n w R v l) (f : Fm R w w') : OI n w' R v l := by
 obtain ⟨cs, h1, h2, h3, h4, h5⟩ := h
 refine ⟨cs, h1, fun j X c hX hc => (h2 j X c hX hc).keptP fun k hk => ⟨⟨(Nu.fr f k hk.1).1, hk.2⟩, (Nu.fr f k hk.1).2⟩, h3, ?_, h5⟩
 refine ⟨h4.1, ?_⟩
 rcases h4.2 with hn | ⟨g, cap, cur, hv, hbg, hgb, r⟩
 · exact .inl hn
 · refine .inr ⟨g, cap, cur, hv, hbg, (f.block g (Array.getElem?_eq_some_iff.1 hgb).1 (fun e => h5 ?_)).trans hgb, r⟩
   rw [hv]; injection e with e; rw [e]; rfl
theorem info52 : (Tryz.prog.info? 40).map (fun i => (i.zero, i.size, i.bytes)) = some (some (.agg z22), 22, 288) := by kernel_rfl
theorem IP.size {P : Nat → Prop} {w : World} {X : It} {v : Value} (h : IP P w X v) : ∃ c : Array Value, v = .agg c ∧ c.size = 22 ∧ ∀ u ∈ c.toList, u.oneCell' = true := by
 cases h with
 | mk oL oV oK o oI cL cV cK cap cI c hl he hi hx =>
   refine ⟨_, rfl, rfl, fun u hu => ?_⟩
   simp at hu
   rcases hu with rfl | rfl | rfl | rfl | rfl | rfl | rfl | rfl | rfl | rfl | rfl | rfl | rfl | rfl | rfl | rfl | rfl | rfl | rfl | rfl | rfl | rfl <;> rfl
set_option maxRecDepth 100000 in
theorem app_oi {w : World} {ops : Array Oper} {rest : List Oper} {o : Oper} {a : Act} {Q : Exit → Act → World → Prop} (hgd : o.guard = none) (s x : Operand)
 (ho : o.op = .call { callee := .builtin .append, args := #[s, x], argTypes := #[22, 22] }) {n R : Nat} {v : Value} {l : List It} (hs : a.eval s = v) (hx : a.eval x = .slice (some ⟨w.heap.size, 0, none⟩) 1 1)
 (h : OI n w R v l) {X : It} {c : Array Value} {m : Nat} (hX : IP (Nu m w R) w X (.agg c)) (hm : ∀ g, v.ownBlock = some g → g < m) (hnm : n ≤ m) (hn : n ≤ w.heap.size) (hR : R < w.heap.size) (hlen : l.length ≤ 100000)
 (K : ∀ v' w', OI n w' R v' (l ++ [X]) → (w.alloc (.cells c 40)).grownBy w' v.ownBlock → wpList Tryz.prog ops Q rest (a.put o.dst v') w') : wpList Tryz.prog ops Q (o :: rest) a (w.alloc (.cells c 40)) := by
 obtain ⟨i, hi, hz, hs1, hb⟩ := info_parts info52
 obtain ⟨c', hcc, hc22, hc1⟩ := hX.size
 obtain rfl : c' = c := by injection hcc with e; exact e.symm
 obtain ⟨cs, h1, h2, h3, h4, h5⟩ := h
 refine wpList_append_lies (w.alloc (.cells c' 40)) hgd s x 22 ho n 40 i _ 22 288 Tryz.underlying22 hi hz hs1 hb rfl (by omega) v l.length (cs.flatMap Array.toList) hs (h4.alloc _) ⟨w.heap.size, 0, none⟩ 1 1 c'.toList hx (by simp [hc22]) (cells_lit w c' 40) hc1 (by omega) (by unfold maxLen; omega) (by omega) (by simp; omega) _ rfl (fun g cap w' hown hgrow hat hlt => K _ _ ?_ hgrow)
 have hgR : g ≠ R := by
  rcases hat with e | e
  · exact fun e' => h5 (by rw [e, e'])
  · have : (w.alloc (.cells c' 40)).heap.size = w.heap.size + 1 := by simp
    omega
 have old : ∀ k, k < w.heap.size → v.ownBlock ≠ some k → g ≠ k ∧ w'.heap[k]? = w.heap[k]? := fun k hk hv => by
  refine ⟨?_, (hgrow.block k (by simp; omega) (fun e => hv e.symm)).trans (heap_alloc_old w _ hk)⟩
  rcases hat with e | e
  · exact fun e' => hv (by rw [e, e'])
  · have : (w.alloc (.cells c' 40)).heap.size = w.heap.size + 1 := by simp
    omega
 have hsz : w.heap.size ≤ w'.heap.size := by have := hgrow.size; simp at this; omega
 refine ⟨cs ++ [c'], by simp [h1], fun j Y d hY hd => ?_, fun d hd => ?_, ?_, ?_⟩
 · rcases Nat.lt_or_ge j l.length with hj | hj
   · rw [List.getElem?_append_left hj] at hY
     rw [List.getElem?_append_left (by omega)] at hd
     refine (h2 j Y d hY hd).keptP fun k hk => ?_
     have := old k hk.1.2.1 hk.2
     exact ⟨⟨⟨hk.1.1, Nat.lt_of_lt_of_le hk.1.2.1 hsz, hk.1.2.2⟩, fun e => this.1 (by injection e)⟩, this.2⟩
   · rw [List.getElem?_append_right hj] at hY
     rw [List.getElem?_append_right (by omega), h1] at hd
     have hj0 : j - l.length = 0 := by
      have := (List.getElem?_eq_some_iff.1 hY).1
      simp at this; omega
     rw [hj0] at hY hd
     simp at hY hd
     subst hY hd
     refine hX.keptP fun k hk => ?_
     have hvk : v.ownBlock ≠ some k := fun e => by have := hm k e; have := hk.1; omega
     have := old k hk.2.1 hvk
     exact ⟨⟨⟨Nat.le_trans hnm hk.1, Nat.lt_of_lt_of_le hk.2.1 hsz, hk.2.2⟩, fun e => this.1 (by injection e)⟩, this.2⟩
 · rcases List.mem_append.1 hd with hd | hd
   · exact h3 d hd
   · rw [List.mem_singleton] at hd; subst hd; exact ⟨hc22, hc1⟩
 · rw [List.length_append, List.flatMap_append]; simpa using hown
 · exact fun e => hgR (by injection e)
theorem oi_row {n : Nat} {w : World} {R : Nat} {v : Value} {l : List It} (h : OI n w R v l) : ∃ o cap d, v = .slice o l.length cap ∧ RowP (Nu n w R) w o cap l.length 22 d ∧ ∀ (j : Nat) (x : It), l[j]? = some x → IP (Nu n w R) w x (.agg #[d j 0, d j 1, d j 2, d j 3, d j 4, d j 5, d j 6, d j 7, d j 8, d j 9, d j 10, d j 11, d j 12, d j 13, d j 14, d j 15, d j 16, d j 17, d j 18, d j 19, d j 20, d j 21]) := by
 obtain ⟨cs, h1, h2, h3, h4, h5⟩ := h
 have hg : ∀ (j m : Nat) (c : Array Value), cs[j]? = some c → m < 22 → (cs.flatMap Array.toList)[j * 22 + m]? = c[m]? := by
  clear h1 h2 h4
  induction cs with
  | nil => intro j m c h; simp at h
  | cons a r ih =>
    have la : a.toList.length = 22 := by simpa using (h3 a (by simp)).1
    intro j m c hj hm
    rw [List.flatMap_cons]
    cases j with
    | zero =>
      simp only [List.getElem?_cons_zero, Option.some.injEq] at hj
      subst hj
      rw [Nat.zero_mul, Nat.zero_add, List.getElem?_append_left (by omega)]
      simp
    | succ j =>
      simp only [List.getElem?_cons_succ] at hj
      rw [List.getElem?_append_right (by omega), la, show (j + 1) * 22 + m - 22 = j * 22 + m by omega]
      exact ih (fun c hc => h3 c (List.mem_cons_of_mem _ hc)) j m c hj hm
 have hval : ∀ (j : Nat) (x : It), l[j]? = some x → ∃ c, cs[j]? = some c ∧ c.size = 22 := fun j x hx => by
  have hj := (List.getElem?_eq_some_iff.1 hx).1
  exact ⟨cs[j]'(by omega), List.getElem?_eq_getElem _, (h3 _ (List.getElem_mem _)).1⟩
 have hel : ∀ (j : Nat) (x : It), l[j]? = some x → IP (Nu n w R) w x (.agg #[((cs[j]?).getD #[])[0]!, ((cs[j]?).getD #[])[1]!, ((cs[j]?).getD #[])[2]!, ((cs[j]?).getD #[])[3]!, ((cs[j]?).getD #[])[4]!, ((cs[j]?).getD #[])[5]!, ((cs[j]?).getD #[])[6]!, ((cs[j]?).getD #[])[7]!, ((cs[j]?).getD #[])[8]!, ((cs[j]?).getD #[])[9]!, ((cs[j]?).getD #[])[10]!, ((cs[j]?).getD #[])[11]!, ((cs[j]?).getD #[])[12]!, ((cs[j]?).getD #[])[13]!, ((cs[j]?).getD #[])[14]!, ((cs[j]?).getD #[])[15]!, ((cs[j]?).getD #[])[16]!, ((cs[j]?).getD #[])[17]!, ((cs[j]?).getD #[])[18]!, ((cs[j]?).getD #[])[19]!, ((cs[j]?).getD #[])[20]!, ((cs[j]?).getD #[])[21]!]) := fun j x hx => by
  obtain ⟨c, hc, hc22⟩ := hval j x hx
  have := (h2 j x c hx hc).mono (P' := Nu n w R) fun k hk => hk.1
  rw [hc]
  simp only [Option.getD_some]
  obtain ⟨cl⟩ := c
  match cl, hc22 with
  | [c0, c1, c2, c3, c4, c5, c6, c7, c8, c9, c10, c11, c12, c13, c14, c15, c16, c17, c18, c19, c20, c21], _ => exact this
 rcases h4.2 with ⟨rfl, h0⟩ | ⟨g, cap, cur, rfl, hbg, hgb, r1, r2, r3, r4⟩
 · have : l = [] := List.eq_nil_of_length_eq_zero h0
   subst this
   exact ⟨none, 0, _, rfl, rowP_nil _ _ _ _, hel⟩
 · refine ⟨some ⟨g, 0, none⟩, cap, _, rfl, ⟨r1, r2, (fun e => by cases e), fun hl => ⟨g, 0, rfl, ⟨hbg, (Array.getElem?_eq_some_iff.1 hgb).1, fun e => h5 (by rw [e]; rfl)⟩, fun j hj m hm => ?_⟩⟩, hel⟩
   obtain ⟨c, hc, hc22⟩ := hval j _ (List.getElem?_eq_getElem hj)
   have e1 := hg j m c hc hm
   have e2 : c[m]? = some (((cs[j]?).getD #[])[m]!) := by
    rw [hc]; simp only [Option.getD_some]
    rw [getElem!_pos c m (by omega)]
    exact Array.getElem?_eq_getElem (by omega)
   rw [e2] at e1
   have := h4.cells (g := g) rfl _ _ e1
   have ea : (⟨g, 0, none⟩ : Addr).add (j * 22 + m) = ⟨g, 0 + j * 22 + m, none⟩ := by
    have : 0 + j * 22 + m = j * 22 + m := by omega
    rw [this]; unfold Addr.add; split <;> simp_all
   rw [ea] at this
   obtain rfl | rfl | rfl | rfl | rfl | rfl | rfl | rfl | rfl | rfl | rfl | rfl | rfl | rfl | rfl | rfl | rfl | rfl | rfl | rfl | rfl | rfl : m = 0 ∨ m = 1 ∨ m = 2 ∨ m = 3 ∨ m = 4 ∨ m = 5 ∨ m = 6 ∨ m = 7 ∨ m = 8 ∨ m = 9 ∨ m = 10 ∨ m = 11 ∨ m = 12 ∨ m = 13 ∨ m = 14 ∨ m = 15 ∨ m = 16 ∨ m = 17 ∨ m = 18 ∨ m = 19 ∨ m = 20 ∨ m = 21 := by omega
   all_goals exact this

end Go.Proofs.YtncjncacfagldaaGreatDoor

/- What is held of a Writer. -/
import Derived.Test.YtbdahkbgjbaenaaDoorF
namespace Go.Proofs.YtbdahkbgjbaenaaDoor
open Go.RowKit

/-- the cells of a Writer: words, block, taken -/
def wc (H p : Nat → Int) (t : Int) (j : Nat) : Value := if j < 8 then .int .u32 (H j) else if j < 72 then .int .u8 (p (j - 8)) else .int .u64 t
def WC (H p : Nat → Int) (t : Int) : Array Value := Array.ofFn (fun j : Fin 73 => wc H p t j)
theorem WC_size (H p : Nat → Int) (t : Int) : (WC H p t).size = 73 := by simp [WC]
theorem WC_get (H p : Nat → Int) (t : Int) (j : Nat) (h : j < 73) : (WC H p t)[j]? = some (wc H p t j) := by simp [WC, h]
theorem WC_one (H p : Nat → Int) (t : Int) : (WC H p t).all (·.oneCell') = true := by
  rw [Array.all_eq_true]; intro i hi; simp [WC, wc]; split
  · rfl
  · split <;> rfl
theorem eq_WC {a : Array Value} {H p : Nat → Int} {t : Int} (hs : a.size = 73) (h : ∀ j, j < 73 → a[j]? = some (wc H p t j)) : a = WC H p t := by
  apply Array.ext_getElem?
  intro j
  by_cases hj : j < 73
  · rw [h j hj, WC_get _ _ _ _ hj]
  · have e1 : a[j]? = none := by simp [hs]; omega
    have e2 : (WC H p t)[j]? = none := by simp [WC_size]; omega
    rw [e1, e2]
theorem Z58 : WC (fun _ => 0) (fun _ => 0) 0 = #[.int .u32 0, .int .u32 0, .int .u32 0, .int .u32 0, .int .u32 0, .int .u32 0, .int .u32 0, .int .u32 0, .int .u8 0, .int .u8 0, .int .u8 0, .int .u8 0, .int .u8 0, .int .u8 0, .int .u8 0, .int .u8 0, .int .u8 0, .int .u8 0, .int .u8 0, .int .u8 0, .int .u8 0, .int .u8 0, .int .u8 0, .int .u8 0, .int .u8 0, .int .u8 0, .int .u8 0, .int .u8 0, .int .u8 0, .int .u8 0, .int .u8 0, .int .u8 0, .int .u8 0, .int .u8 0, .int .u8 0, .int .u8 0, .int .u8 0, .int .u8 0, .int .u8 0, .int .u8 0, .int .u8 0, .int .u8 0, .int .u8 0, .int .u8 0, .int .u8 0, .int .u8 0, .int .u8 0, .int .u8 0, .int .u8 0, .int .u8 0, .int .u8 0, .int .u8 0, .int .u8 0, .int .u8 0, .int .u8 0, .int .u8 0, .int .u8 0, .int .u8 0, .int .u8 0, .int .u8 0, .int .u8 0, .int .u8 0, .int .u8 0, .int .u8 0, .int .u8 0, .int .u8 0, .int .u8 0, .int .u8 0, .int .u8 0, .int .u8 0, .int .u8 0, .int .u8 0, .int .u64 0] := by kernel_rfl
/-- new words -/
theorem WC_words (H p : Nat → Int) (t : Int) (G : Nat → Int) : ((WC H p t).toList.take 0 ++ (mk .u32 8 G).toList ++ (WC H p t).toList.drop (0 + (mk .u32 8 G).size)).toArray = WC G p t := by
  apply eq_WC
  · simp [WC_size, mk_size]
  · intro j hj
    rw [List.getElem?_toArray, List.take_zero, List.nil_append, mk_size]
    by_cases h : j < 8
    · rw [List.getElem?_append_left (by simp [mk_size]; omega), Array.getElem?_toList, mk_get _ _ _ _ h]; simp [wc, h]
    · rw [List.getElem?_append_right (by simp [mk_size]; omega), List.getElem?_drop, Array.getElem?_toList]
      simp only [Array.length_toList, mk_size]
      rw [WC_get _ _ _ _ (by omega)]
      unfold wc
      rw [if_neg (by omega), if_neg h, show 0 + 8 + (j - 8) = j by omega]
/-- bytes laid into the block -/
def laidIn (p : Nat → Int) (l c : Nat) (F : Nat → Int) : Nat → Int := fun j => if l ≤ j ∧ j < l + c then F (j - l) else p j
theorem WC_bytes (H p : Nat → Int) (t : Int) (l c : Nat) (F : Nat → Int) (h : l + c ≤ 64) :
    ((WC H p t).toList.take (8 + l) ++ (((List.range c).map fun j => Value.int .u8 (F j)) ++ (WC H p t).toList.drop (8 + l + ((List.range c).map fun j => Value.int .u8 (F j)).length))).toArray = WC H (laidIn p l c F) t := by
  apply eq_WC
  · simp [WC_size]; omega
  · intro j hj
    have e : ((WC H p t).toList.take (8 + l)).length = 8 + l := by simp [WC_size]; omega
    have e2 : ((List.range c).map fun j => Value.int .u8 (F j)).length = c := by simp
    rw [List.getElem?_toArray, List.getElem?_append, List.getElem?_append, e, e2]
    by_cases h1 : j < 8 + l
    · rw [if_pos h1, List.getElem?_take_of_lt h1, Array.getElem?_toList, WC_get _ _ _ _ hj]
      unfold wc laidIn
      by_cases h8 : j < 8
      · rw [if_pos h8, if_pos h8]
      · rw [if_neg h8, if_neg h8, if_pos (by omega), if_pos (by omega), if_neg (by omega)]
    · rw [if_neg h1]
      by_cases h2 : j - (8 + l) < c
      · rw [if_pos h2, List.getElem?_map, List.getElem?_range (by omega)]
        unfold wc laidIn
        rw [if_neg (by omega), if_pos (by omega), if_pos (by omega), show j - 8 - l = j - (8 + l) by omega]; rfl
      · rw [if_neg h2, List.getElem?_drop, Array.getElem?_toList, show 8 + l + c + (j - (8 + l) - c) = j by omega, WC_get _ _ _ _ hj]
        unfold wc laidIn
        by_cases h3 : j < 72
        · rw [if_neg (by omega), if_pos h3, if_neg (by omega), if_pos h3, if_neg (by omega)]
        · rw [if_neg (by omega), if_neg h3, if_neg (by omega), if_neg h3]
theorem WC_taken (H p : Nat → Int) (t u : Int) : (WC H p t).setIfInBounds 72 (.int .u64 u) = WC H p u := by
  apply eq_WC
  · simp [WC_size]
  · intro j hj
    rw [Array.getElem?_setIfInBounds, WC_size]
    by_cases e : 72 = j
    · subst e; simp [wc]
    · rw [if_neg e, WC_get _ _ _ _ hj]
      unfold wc
      by_cases h8 : j < 8
      · rw [if_pos h8, if_pos h8]
      · rw [if_neg h8, if_neg h8, if_pos (by omega), if_pos (by omega)]
theorem WC_loadw (H p : Nat → Int) (t : Int) : ∀ j, j < (mk .u32 8 H).size → (WC H p t)[0 + j]? = (mk .u32 8 H)[j]? := by
  intro j hj
  rw [mk_size] at hj
  rw [WC_get _ _ _ _ (by omega), mk_get _ _ _ _ hj]; simp [wc, hj]

/-- all but block n is as it was, or new -/
structure Kp (n : Nat) (w w' : World) : Prop where
  os : w'.os = w.os
  tape : w'.tape = w.tape
  output : w'.output = w.output
  size : w.heap.size ≤ w'.heap.size
  block : ∀ k, k < w.heap.size → k ≠ n → w'.heap[k]? = w.heap[k]?
theorem Kp.refl (n : Nat) (w : World) : Kp n w w := ⟨rfl, rfl, rfl, Nat.le_refl _, fun _ _ _ => rfl⟩
theorem Kp.trans {n : Nat} {a b c : World} (h : Kp n a b) (k : Kp n b c) : Kp n a c :=
  ⟨k.os.trans h.os, k.tape.trans h.tape, k.output.trans h.output, Nat.le_trans h.size k.size, fun i hi hn => (k.block i (Nat.lt_of_lt_of_le hi h.size) hn).trans (h.block i hi hn)⟩
theorem Kp.of_below {n : Nat} {a b : World} (h : Below a.heap.size a b) : Kp n a b := ⟨h.os, h.tape, h.output, h.size, fun i hi _ => h.block i hi⟩
theorem Kp.setRow (n : Nat) (w : World) (cs : Array Value) : Kp n w (w.setRow n cs) := ⟨rfl, rfl, rfl, by simp, fun k _ hn => setRow_other _ _ _ _ hn⟩
theorem Kp.setCell (n : Nat) (w : World) (o : Nat) (v : Value) : Kp n w (w.setCell ⟨n, o, none⟩ v) := ⟨rfl, rfl, rfl, by simp, fun k _ hn => heap_setCell_other _ _ _ _ hn⟩
theorem Kp.drewN (n : Nat) (w : World) (q : Nat) : Kp n w (w.drewN q) := Kp.of_below (below_drewN (Below.refl _ _) q)
theorem Kp.drew (n : Nat) (w : World) : Kp n w w.drew := Kp.of_below ((Below.refl _ _).drew)
theorem Kp.below {n B : Nat} {w0 w w' : World} (h : Kp n w w') (hb : Below B w0 w) (hB : B ≤ w.heap.size) (hn : B ≤ n) : Below B w0 w' :=
  hb.trans ⟨h.os, h.tape, h.output, h.size, fun i hi => h.block i (by omega) (by omega)⟩
theorem Kp.cell {n : Nat} {w w' : World} (h : Kp n w w') {k o : Nat} (hk : k < w.heap.size) (hn : k ≠ n) : w'.cell? ⟨k, o, none⟩ = w.cell? ⟨k, o, none⟩ := by
  simp [World.cell?, h.block k hk hn]
theorem Tab.kp {n : Nat} {w w' : World} (h : Tab w) (k : Kp n w w') (hn : n ≠ 0) : Tab w' := ⟨Nat.lt_of_lt_of_le h.1 k.size, fun i hi => (k.cell h.1 (Ne.symm hn)).trans (h.2 i hi)⟩
theorem Row.kp {n : Nat} {w w' : World} {g : Nat} {T : TypeId} {k : IntKind} {m : Nat} {F : Nat → Int} (h : Row w g T k m F) (hk : Kp n w w') (hn : g ≠ n) : Row w' g T k m F := by
  unfold Row; rw [hk.block g h.lt hn]; exact h

/-- the slice at sp reads as M, outside block n -/
def Sl (w : World) (n : Nat) (sp : Option Addr) (M : List Int) : Prop := ∀ i, i < M.length → ∃ k o, sp = some ⟨k, o, none⟩ ∧ k ≠ n ∧ k < w.heap.size ∧ w.cell? ⟨k, o + i, none⟩ = some (.int .u8 (M.getD i 0))
theorem Sl.kp {w w' : World} {n : Nat} {sp : Option Addr} {M : List Int} (h : Sl w n sp M) (k : Kp n w w') : Sl w' n sp M := fun i hi => by
  obtain ⟨b, o, h1, h2, h3, h4⟩ := h i hi
  exact ⟨b, o, h1, h2, Nat.lt_of_lt_of_le h3 k.size, (k.cell h3 h2).trans h4⟩
/-- block n is a Writer with words H, block p that took L -/
structure Wf (w : World) (n : Nat) (L : List Int) (H p : Nat → Int) : Prop where
  heap : w.heap[n]? = some (.cells (WC H p L.length) 58 (0, 0))
  byte : ∀ j, j < 64 → 0 ≤ p j ∧ p j < 256
  part : ∀ j, j < L.length % 64 → p j = L.getD (64 * (L.length / 64) + j) 0
/-- its words are right -/
def Right (L : List Int) (H : Nat → Int) : Prop := ∀ j, j < 8 → H j = (after L (L.length / 64)).at j
/-- a Writer that took L -/
def Wr (w : World) (n : Nat) (L : List Int) : Prop := ∃ H p, Wf w n L H p ∧ (0 < L.length → Right L H)
def Ws (w : World) (n : Nat) (L : List Int) : Prop := ∃ H p, Wf w n L H p ∧ Right L H
theorem Ws.wr {w : World} {n : Nat} {L : List Int} (h : Ws w n L) : Wr w n L := by obtain ⟨H, p, a, b⟩ := h; exact ⟨H, p, a, fun _ => b⟩
theorem Wf.lt {w : World} {n : Nat} {L : List Int} {H p : Nat → Int} (h : Wf w n L H p) : n < w.heap.size := (Array.getElem?_eq_some_iff.1 h.heap).1
theorem Wf.same {w w' : World} {n : Nat} {L : List Int} {H p : Nat → Int} (h : Wf w n L H p) (e : w'.heap[n]? = w.heap[n]?) : Wf w' n L H p := ⟨by rw [e]; exact h.heap, h.byte, h.part⟩
theorem Wf.taken {w : World} {n : Nat} {L : List Int} {H p : Nat → Int} (h : Wf w n L H p) : w.cell? ⟨n, 72, none⟩ = some (.int .u64 L.length) := by
  rw [cell_of_row w n 72 _ 58 (0, 0) h.heap, WC_get _ _ _ _ (by omega)]; simp [wc]
theorem Wf.bytes {w : World} {n : Nat} {L : List Int} {H p : Nat → Int} (h : Wf w n L H p) (j : Nat) (hj : j < 64) : w.cell? ⟨n, 8 + j, none⟩ = some (.int .u8 (p j)) := by
  rw [cell_of_row w n (8 + j) _ 58 (0, 0) h.heap, WC_get _ _ _ _ (by omega)]; unfold wc; rw [if_neg (by omega), if_pos (by omega), show 8 + j - 8 = j by omega]
theorem Wf.free {w : World} {n : Nat} {L : List Int} {H p : Nat → Int} (h : Wf w n L H p) (j : Nat) : w.frozen? ⟨n, j, none⟩ = false := frozen_of_row w n j _ 58 h.heap

section
variable {P : Program}
/-- copy into the middle of a block known whole; what stands behind it is given -/
theorem wpList_copy_to {w : World} {ops : Array Oper} {rest : List Oper} {o : Oper} {a : Act} {Q : Exit → Act → World → Prop} (hgd : o.guard = none) (d s : Operand) (dT sT : TypeId)
    (ho : o.op = .call { callee := .builtin .copy, args := #[d, s], argTypes := #[dT, sT] }) (elem : TypeId) (hu : P.underlying dT = some (.slice elem)) (hsz : (P.info? elem).map (·.size) = some 1)
    (g off dLen dCap : Nat) (ad : Addr) (sLen sCap : Nat) (hd : a.eval d = .slice (some ⟨g, off, none⟩) dLen dCap) (hs : a.eval s = .slice (some ad) sLen sCap)
    (cur : Array Value) (t : TypeId) (hg : w.heap[g]? = some (.cells cur t (0, 0))) (cs : List Value) (hn : cs.length = Nat.min sLen dLen)
    (hsrc : ∀ j v, cs[j]? = some v → w.cell? (ad.add j) = some v) (hfit : off + cs.length ≤ cur.size) (h1 : ∀ v ∈ cs, v.oneCell' = true)
    (c : Nat) (hc : cs.length = c) (res : Array Value) (hres : (cur.toList.take off ++ (cs ++ cur.toList.drop (off + cs.length))).toArray = res)
    (h : ∀ w', w' = w.setRow g res → wpList P ops Q rest (a.put o.dst (.int .i64 c)) w') : wpList P ops Q (o :: rest) a w := by
  refine wpList_copy_own hgd d s dT sT ho elem hu hsz g off dLen dCap ad sLen sCap hd hs cur t hg cs hn hsrc hfit h1 ?_
  rw [hres, hc]
  exact h _ rfl
end
theorem slice56l (g o l : Nat) (x : Int) (k : IntKind) (hx : x = l) (h2 : l < 64) (W : World) : (Instr.sliceAt 56 (.pointer (some ⟨g, o, none⟩)) (some (.int k x)) none none).run Tryd.prog W =
    .ok (.slice (some ⟨g, o + l, none⟩) (64 - l) (64 - l)) W := by
  subst hx
  have hal : Tryd.prog.arrayLen 56 = 64 := by kernel_rfl
  rw [run_sliceAt_array_l W 56 ⟨g, o, none⟩ (by simp [Program.arrayLen, Program.elem, Tryd.underlying56]) k l (by omega) (by rw [hal]; omega)]
  have hs : (sizeOf (Tryd.prog.elem 56)).run Tryd.prog W = .ok 1 W := by
    have : (Tryd.prog.info? (Tryd.prog.elem 56)).map (·.size) = some 1 := by kernel_rfl
    cases hq : Tryd.prog.info? (Tryd.prog.elem 56) with
    | none => simp [hq] at this
    | some i => simp [hq] at this; simp [sizeOf, typeInfo, hq, this]
  rw [hs, Result.andThen_ok, hal]
  unfold slicedAt
  have e1 : ((l : Int)).toNat = l := by omega
  rw [e1, if_neg (by omega)]
  unfold Addr.add
  split <;> simp_all
/-- b[c:] of bytes -/
theorem slice22l (sp : Option Addr) (n cap c : Nat) (h : c ≤ n) : ∃ sp', (∀ W, (Instr.slice 22 (.slice sp n cap) (some (.int .i64 c)) none none).run Tryd.prog W = .ok (.slice sp' (n - c) (cap - c)) W) ∧
    (c < cap → ∀ k o, sp = some ⟨k, o, none⟩ → sp' = some ⟨k, o + c, none⟩) := by
  refine ⟨if cap = c then sp else sp.map (·.add (c * 1)), fun W => ?_, fun hlt k o hs => ?_⟩
  · rw [run_slice_l W 22 sp n cap (by simp [Program.elem, Tryd.underlying22]) .i64 c (by omega) (by omega)]
    have hs : (sizeOf (Tryd.prog.elem 22)).run Tryd.prog W = .ok 1 W := by
      have : (Tryd.prog.info? (Tryd.prog.elem 22)).map (·.size) = some 1 := by kernel_rfl
      cases hq : Tryd.prog.info? (Tryd.prog.elem 22) with
      | none => simp [hq] at this
      | some i => simp [hq] at this; simp [sizeOf, typeInfo, hq, this]
    rw [hs, Result.andThen_ok]
    unfold sliced
    rw [show ((c : Int)).toNat = c by omega]
  · rw [if_neg (by omega), hs]
    unfold Addr.add
    simp
end Go.Proofs.YtbdahkbgjbaenaaDoor

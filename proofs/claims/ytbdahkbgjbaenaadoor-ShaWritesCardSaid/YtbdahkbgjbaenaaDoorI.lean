/- Contract: a Writer's Sum. -/
import Derived.Test.YtbdahkbgjbaenaaDoorH
import Derived.Deep.RegionLaw
namespace Go.Proofs.YtbdahkbgjbaenaaDoor
open Go.RowKit

theorem info27 (F : Nat → Int) : (Tryd.prog.info? 27).map (·.size) = some (mk .u8 32 F).size := by rw [mk_size]; kernel_rfl
theorem info58 (H p : Nat → Int) (t : Int) : (Tryd.prog.info? 58).map (·.size) = some (WC H p t).size := by rw [WC_size]; kernel_rfl
theorem Z27 : (mk .u8 32 fun _ => 0) = #[.int .u8 0, .int .u8 0, .int .u8 0, .int .u8 0, .int .u8 0, .int .u8 0, .int .u8 0, .int .u8 0, .int .u8 0, .int .u8 0, .int .u8 0, .int .u8 0, .int .u8 0, .int .u8 0, .int .u8 0, .int .u8 0, .int .u8 0, .int .u8 0, .int .u8 0, .int .u8 0, .int .u8 0, .int .u8 0, .int .u8 0, .int .u8 0, .int .u8 0, .int .u8 0, .int .u8 0, .int .u8 0, .int .u8 0, .int .u8 0, .int .u8 0, .int .u8 0] := by kernel_rfl
theorem mk_laid (k : IntKind) (n : Nat) (F G : Nat → Int) (l c : Nat) (h : l + c ≤ n) :
    ((mk k n F).toList.take l ++ (((List.range c).map fun j => Value.int k (G j)) ++ (mk k n F).toList.drop (l + ((List.range c).map fun j => Value.int k (G j)).length))).toArray = mk k n (laidIn F l c G) := by
  apply Array.ext_getElem?
  intro j
  have e : ((mk k n F).toList.take l).length = l := by simp [mk_size]; omega
  have e2 : ((List.range c).map fun j => Value.int k (G j)).length = c := by simp
  rw [List.getElem?_toArray, List.getElem?_append, List.getElem?_append, e, e2]
  by_cases hj : j < n
  · rw [mk_get _ _ _ _ hj]
    unfold laidIn
    by_cases h1 : j < l
    · rw [if_pos h1, List.getElem?_take_of_lt h1, Array.getElem?_toList, mk_get _ _ _ _ hj, if_neg (by omega)]
    · rw [if_neg h1]
      by_cases h2 : j - l < c
      · rw [if_pos h2, List.getElem?_map, List.getElem?_range h2, if_pos (by omega)]; rfl
      · rw [if_neg h2, List.getElem?_drop, Array.getElem?_toList, show l + c + (j - l - c) = j by omega, mk_get _ _ _ _ hj, if_neg (by omega)]
  · have e3 : (mk k n (laidIn F l c G))[j]? = none := by simp [mk_size]; omega
    rw [e3, if_neg (by omega), if_neg (by omega), List.getElem?_drop, Array.getElem?_toList, show l + c + (j - l - c) = j by omega]
    simp [mk_size]; omega
section
variable {P : Program}
theorem step_copy_to {ops : Array Oper} {o : Oper} {a : Act} {w : World} {K : Act → World → Prop} {Q : Exit → Act → World → Prop} {E : Prop} (hgd : o.guard = none) (d s : Operand) (dT sT : TypeId)
    (ho : o.op = .call { callee := .builtin .copy, args := #[d, s], argTypes := #[dT, sT] }) (elem : TypeId) (hu : P.underlying dT = some (.slice elem)) (hsz : (P.info? elem).map (·.size) = some 1)
    (g off dLen dCap : Nat) (ad : Addr) (sLen sCap : Nat) (hd : a.eval d = .slice (some ⟨g, off, none⟩) dLen dCap) (hs : a.eval s = .slice (some ad) sLen sCap)
    (cur : Array Value) (t : TypeId) (hg : w.heap[g]? = some (.cells cur t (0, 0))) (cs : List Value) (hn : cs.length = Nat.min sLen dLen)
    (hsrc : ∀ j v, cs[j]? = some v → w.cell? (ad.add j) = some v) (hfit : off + cs.length ≤ cur.size) (h1 : ∀ v ∈ cs, v.oneCell' = true)
    (c : Nat) (hc : cs.length = c) (res : Array Value) (hres : (cur.toList.take off ++ (cs ++ cur.toList.drop (off + cs.length))).toArray = res)
    (h : ∀ w', w' = w.setRow g res → K (a.put o.dst (.int .i64 c)) w') :
    if Region.wanted o (yielded ops a.tmps) = true then Oper.wp P o a w K Q else E := by
  have hw : Region.wanted o (yielded ops a.tmps) = true := by simp [Region.wanted, hgd]
  rw [if_pos hw]
  have hrun := run_copy_row (P := P) w dT sT o.type elem g off dLen dCap ad sLen sCap cur t cs hu hsz hg hn hsrc hfit h1
  unfold Oper.wp
  simp [execOp, ho, resolve, invoke, builtin, hd, hs, hrun, Result.andThen]
  have := h _ rfl
  rw [← hres, ← hc] at this
  exact this
end
theorem slice27l (g l : Nat) (x : Int) (k : IntKind) (hx : x = l) (h2 : l < 32) (W : World) : (Instr.sliceAt 27 (.pointer (some ⟨g, 0, none⟩)) (some (.int k x)) none none).run Tryd.prog W =
    .ok (.slice (some ⟨g, l, none⟩) (32 - l) (32 - l)) W := by
  subst hx
  have hal : Tryd.prog.arrayLen 27 = 32 := by kernel_rfl
  rw [run_sliceAt_array_l W 27 ⟨g, 0, none⟩ (by simp [Program.arrayLen, Program.elem, Tryd.underlying27]) k l (by omega) (by rw [hal]; omega)]
  have hs : (sizeOf (Tryd.prog.elem 27)).run Tryd.prog W = .ok 1 W := by
    have : (Tryd.prog.info? (Tryd.prog.elem 27)).map (·.size) = some 1 := by kernel_rfl
    cases hq : Tryd.prog.info? (Tryd.prog.elem 27) with
    | none => simp [hq] at this
    | some i => simp [hq] at this; simp [sizeOf, typeInfo, hq, this]
  rw [hs, Result.andThen_ok, hal]
  unfold slicedAt
  have e1 : ((l : Int)).toNat = l := by omega
  rw [e1, if_neg (by omega)]
  unfold Addr.add
  split <;> simp_all
theorem idxW (s : St) (k : Nat) (hk : k < 8) (w : World) : (Instr.index 55 (.agg (mk .u32 8 s.at)) (.int .i64 k)).run Tryd.prog w = .ok (.int .u32 (s.at k)) w := by
  rw [lit8]; exact idx8t s k hk w

/-- the bytes that are laid behind -/
def padL (n : Nat) : List Int := 128 :: List.replicate (zerosOf n) 0
theorem padL_len (n : Nat) : (padL n).length = 1 + zerosOf n := by simp [padL]; omega
theorem padL_get (n i : Nat) (hi : i < 1 + zerosOf n) : (padL n).getD i 0 = if i = 0 then 128 else 0 := by
  unfold padL
  cases i with
  | zero => rfl
  | succ i => simp [List.getD, List.getElem?_replicate]; split <;> rfl
theorem padL_byte (n i : Nat) : 0 ≤ (padL n).getD i 0 ∧ (padL n).getD i 0 < 256 := by
  by_cases h : i < 1 + zerosOf n
  · rw [padL_get n i h]; split <;> omega
  · have : (padL n).getD i 0 = 0 := by rw [List.getD_eq_getElem?_getD, List.getElem?_eq_none (by rw [padL_len]; omega)]; rfl
    rw [this]; omega
theorem formL_len (x : Int) (n : Nat) : (formL x n).length = n := by simp [formL]
theorem formL_get (x : Int) (n i : Nat) (hi : i < n) : (formL x n).getD i 0 = formAt x n i := by simp [formL, List.getD, hi]
theorem formAt_byte (x : Int) (n i : Nat) : 0 ≤ formAt x n i ∧ formAt x n i < 256 := by unfold formAt; omega
theorem formL_byte (x : Int) (n i : Nat) : 0 ≤ (formL x n).getD i 0 ∧ (formL x n).getD i 0 < 256 := by
  by_cases h : i < n
  · rw [formL_get x n i h]; exact formAt_byte _ _ _
  · have : (formL x n).getD i 0 = 0 := by rw [List.getD_eq_getElem?_getD, List.getElem?_eq_none (by rw [formL_len]; omega)]; rfl
    rw [this]; omega
theorem padded_eq (L : List Int) : padded L = (L ++ padL L.length) ++ formL (8 * L.length) 8 := rfl
theorem Sl_row {w : World} {n g m : Nat} {T : TypeId} {F : Nat → Int} {M : List Int} (h : Row w g T .u8 m F) (hg : g ≠ n) (hM : M.length = m) (hF : ∀ i, i < m → F i = M.getD i 0) : Sl w n (some ⟨g, 0, none⟩) M := fun i hi =>
  ⟨g, 0, rfl, hg, h.lt, by rw [Nat.zero_add, h.cell i (by omega), hF i (by omega)]⟩
end Go.Proofs.YtbdahkbgjbaenaaDoor

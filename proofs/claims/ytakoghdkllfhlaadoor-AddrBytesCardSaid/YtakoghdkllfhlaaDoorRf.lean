/- The reference's Lent, Same and Kept; own bytes read. -/
import Derived.Test.YtakoghdkllfhlaaDoorRe
import Derived.Laws.CopyRow
import Derived.Laws.CopyOwn
import Derived.Deep.WholeRow
namespace Go.Proofs.YtakoghdkllfhlaaDoor
open Go.RowKit Go.Lib

theorem RowP.nil (P : Nat → Prop) (w : World) (z : Nat) (c : Nat → Nat → Value) : RowP P w none 0 0 z c := ⟨Nat.le_refl _, Nat.zero_le _, fun _ => rfl, fun h => absurd h (Nat.lt_irrefl _)⟩
/-- two rows of bytes are the same -/
theorem take_next {A B : List Nat} {j : Nat} (hl : A.length = B.length) (hj : j < A.length) (h : A.take j = B.take j) (e : A.getD j 0 = B.getD j 0) : A.take (j + 1) = B.take (j + 1) := by
  rw [List.take_add_one, List.take_add_one, h]
  rw [List.getD_eq_getElem?_getD, List.getD_eq_getElem?_getD] at e
  rw [List.getElem?_eq_getElem hj, List.getElem?_eq_getElem (by omega)] at e ⊢
  simp only [Option.getD_some] at e
  rw [e]
set_option maxHeartbeats 1000000 in
theorem same_any {na nb : Nat} {oa ob : Option Addr} {ca cb : Nat} {A B : List Nat} {w : World} (HA : Bts na w oa ca A) (HB : Bts nb w ob cb B) :
    Calls Tryd.prog 37 #[.slice oa A.length ca, .slice ob B.length cb] w fun e w' => e = .returned (.bool (decide (A = B))) ∧ ∃ m, w' = w.drewN m := by
  have ha := Lib.hid HA
  have hb := Lib.hid HB
  have l1 := HA.row.1
  have l2 := HA.row.2.1
  have l3 := HB.row.1
  have l4 := HB.row.2.1
  unfold maxLen at l2 l4
  obtain ⟨r, hr⟩ : ∃ r, decide (A = B) = r := ⟨_, rfl⟩
  rw [hr]
  have HR := Lib.hid hr
  clear HA HB hr
  by_cases hl : A.length = B.length
  · have HL := Lib.hid hl
    rw [hl] at l1 ⊢
    clear hl
    go_enter Tryd.func37, Tryd.ntmps37
    go_wp2_with fail
    go_loopw [5] (fun i wr => ∃ (j q : Nat), j ≤ B.length ∧ i = .int .i64 j ∧ wr = w.drewN q ∧ Hid (A.take j = B.take j)) (fun i _ => B.length - (intOf i).toNat)
    case atStart => exact ⟨0, 0, Nat.zero_le _, rfl, rfl, rfl⟩
    case round =>
      obtain ⟨j, q, hj, rfl, rfl, HT⟩ := hrel
      by_cases hlt : j < B.length
      · have k1 : (j : Int) < (B.length : Int) := by omega
        obtain ⟨b1, o1, rfl, _, c1⟩ := ha.out.at (j := j) (by rw [HL.out]; exact hlt)
        obtain ⟨b2, o2, rfl, _, c2⟩ := hb.out.at hlt
        have d1 : (w.drewN q).cell? ⟨b1, o1 + j, none⟩ = some (.int .u8 ((A.getD j 0 : Nat) : Int)) := c1
        have d2 : (w.drewN q).cell? ⟨b2, o2 + j, none⟩ = some (.int .u8 ((B.getD j 0 : Nat) : Int)) := c2
        have HW := Lib.hid (show ∃ q', w.drewN q = w.drewN q' from ⟨q, rfl⟩)
        obtain ⟨x, hx⟩ : ∃ x, A.getD j 0 = x := ⟨_, rfl⟩
        obtain ⟨y, hy⟩ : ∃ y, B.getD j 0 = y := ⟨_, rfl⟩
        rw [hx] at d1
        rw [hy] at d2
        have HX := Lib.hid (And.intro hx hy)
        clear c1 c2 hx hy
        generalize w.drewN q = W at *
        by_cases hxy : x = y
        · have ht2 := Lib.hid (take_next HL.out (by rw [HL.out]; exact hlt) HT.out (by rw [HX.out.1, HX.out.2, hxy]))
          subst hxy
          go_wp2_with fail
          go_quiet (fail)
          go_wp2_with fail
          go_roundw
          case rel =>
            obtain ⟨q', e'⟩ := HW.out
            exact ⟨j + 1, q' + nq, by omega, by go_num, by rw [e']; exact World.drewN_drewN _ _ _, ht2⟩
          case measure => simp [intOf]; omega
        · have hne : ((x : Int) != (y : Int)) = true := by rw [bne_iff_ne]; omega
          have HN : Hid (r = false) := by
            rw [← HR.out]
            refine decide_eq_false fun e => hxy ?_
            rw [← HX.out.1, ← HX.out.2, e]
          go_wp2_with fail
          go_quiet (fail)
          go_wp2_with fail
          go_ret
          obtain ⟨q', e'⟩ := HW.out
          exact ⟨by rw [HN.out]; rfl, q' + nq, by rw [e']; exact World.drewN_drewN _ _ _⟩
      · have hjl : j = B.length := by omega
        subst hjl
        have HN : Hid (r = true) := by
          rw [← HR.out]
          refine decide_eq_true ?_
          have := HT.out
          rw [List.take_of_length_le (by rw [HL.out]; exact Nat.le_refl _), List.take_of_length_le (Nat.le_refl _)] at this
          exact this
        go_wp2_with fail
        go_ret
        exact ⟨by rw [HN.out]; rfl, q, rfl⟩
  · have hne : ((A.length : Int) != (B.length : Int)) = true := by rw [bne_iff_ne]; omega
    have HN : Hid (r = false) := by
      rw [← HR.out]
      exact decide_eq_false fun e => hl (by rw [e])
    clear hl
    go_enter Tryd.func37, Tryd.ntmps37
    go_wp2_with fail
    go_ret
    exact ⟨by rw [HN.out]; rfl, 0, rfl⟩
/-- n integers of a kind, as cells -/
def mk (k : IntKind) (n : Nat) (F : Nat → Int) : Array Value := Array.ofFn (fun j : Fin n => Value.int k (F j))
theorem mk_size (k : IntKind) (n : Nat) (F : Nat → Int) : (mk k n F).size = n := by simp [mk]
theorem mk_get (k : IntKind) (n : Nat) (F : Nat → Int) (j : Nat) (h : j < n) : (mk k n F)[j]? = some (.int k (F j)) := by simp [mk, h]
theorem mk_one (k : IntKind) (n : Nat) (F : Nat → Int) : (mk k n F).all (·.oneCell') = true := by
  rw [Array.all_eq_true]; intro i hi; simp [mk, Value.oneCell']
theorem mk_congr {k : IntKind} {n : Nat} {F G : Nat → Int} (h : ∀ j, j < n → F j = G j) : mk k n F = mk k n G := by
  unfold mk; congr 1; funext j; rw [h j j.isLt]
def upd (F : Nat → Int) (i : Nat) (v : Int) : Nat → Int := fun j => if j = i then v else F j
theorem upd_same (F : Nat → Int) (i : Nat) (v : Int) : upd F i v i = v := by simp [upd]
theorem upd_other (F : Nat → Int) (i : Nat) (v : Int) (j : Nat) (h : j ≠ i) : upd F i v j = F j := by simp [upd, h]
theorem mk_set (k : IntKind) (n : Nat) (F : Nat → Int) (i : Nat) (v : Int) : (mk k n F).setIfInBounds i (.int k v) = mk k n (upd F i v) := by
  apply Array.ext_getElem?
  intro j
  rw [Array.getElem?_setIfInBounds, mk_size]
  by_cases hj : j < n
  · rw [mk_get k n _ j hj, mk_get k n _ j hj]
    by_cases e : i = j
    · subst e; rw [if_pos rfl, if_pos hj, upd_same]
    · rw [if_neg e, upd_other _ _ _ _ (fun h => e h.symm)]
  · have e1 : (mk k n F)[j]? = none := by simp [mk_size]; omega
    have e2 : (mk k n (upd F i v))[j]? = none := by simp [mk_size]; omega
    rw [e1, e2]
    by_cases e : i = j
    · subst e; rw [if_pos rfl, if_neg hj]
    · rw [if_neg e]
/-- block g of w is such a row -/
def RowI (w : World) (g : Nat) (T : TypeId) (k : IntKind) (n : Nat) (F : Nat → Int) : Prop := w.heap[g]? = some (.cells (mk k n F) T (0, 0))
section
variable {w : World} {g : Nat} {T : TypeId} {k : IntKind} {n : Nat} {F : Nat → Int}
theorem RowI.lt (h : RowI w g T k n F) : g < w.heap.size := (Array.getElem?_eq_some_iff.1 h).1
theorem RowI.cell (h : RowI w g T k n F) (j : Nat) (hj : j < n) : w.cell? ⟨g, j, none⟩ = some (.int k (F j)) := by
  rw [cell_of_row w g j _ T (0, 0) h, mk_get k n F j hj]
theorem RowI.free (h : RowI w g T k n F) (j : Nat) : w.frozen? ⟨g, j, none⟩ = false := frozen_of_row w g j _ T h
theorem RowI.set (h : RowI w g T k n F) (j : Nat) (v : Int) : RowI (w.setCell ⟨g, j, none⟩ (.int k v)) g T k n (upd F j v) := by
  unfold RowI; rw [heap_setCell_same w g j _ T _ h, mk_set]
theorem RowI.set_other (h : RowI w g T k n F) (a : Addr) (v : Value) (hg : g ≠ a.block) : RowI (w.setCell a v) g T k n F := by
  unfold RowI; rw [heap_setCell_other w a g v hg]; exact h
theorem RowI.drewN (h : RowI w g T k n F) (q : Nat) : RowI (w.drewN q) g T k n F := h
theorem RowI.below {B : Nat} {w' : World} (h : RowI w g T k n F) (hb : Below B w w') (hg : g < B) : RowI w' g T k n F := by
  unfold RowI; rw [hb.block g hg]; exact h
theorem RowI.congr {G : Nat → Int} (h : RowI w g T k n F) (e : ∀ j, j < n → F j = G j) : RowI w g T k n G := by
  unfold RowI; rw [← mk_congr e]; exact h
theorem RowI.alloc (h : RowI w g T k n F) (o : Obj) : RowI (w.alloc o) g T k n F := by
  unfold RowI; rw [Below.heap_alloc w o g h.lt]; exact h
theorem RowI.made (w : World) (T : TypeId) (k : IntKind) (n : Nat) (F : Nat → Int) : RowI (w.alloc (.cells (mk k n F) T)) w.heap.size T k n F := heap_alloc_new w _
end

theorem mk_toList (k : IntKind) (n : Nat) (F : Nat → Int) : (mk k n F).toList = (List.range n).map fun j => .int k (F j) := by
  apply List.ext_getElem?
  intro j
  by_cases h : j < n
  · rw [Array.getElem?_toList, mk_get _ _ _ _ h]; simp [h]
  · rw [Array.getElem?_toList]
    have e : (mk k n F)[j]? = none := by simp [mk_size]; omega
    have e2 : ((List.range n).map fun j => Value.int k (F j))[j]? = none := by rw [List.getElem?_eq_none_iff]; simp; omega
    rw [e, e2]
theorem row_of_owns {w : World} {base g n : Nat} {F : Nat → Int} {T : TypeId} {k : IntKind} (h : w.ownsRow base T 1 (.slice (some ⟨g, 0, none⟩) n n) n ((List.range n).map fun j => .int k (F j))) : RowI w g T k n F := by
  obtain ⟨h1, h2 | ⟨g', cap, cur, e, h3, h4, h5, h6, h7, h8⟩⟩ := h
  · cases h2.1
  · cases e
    unfold RowI
    rw [h4]
    have : cur = mk k n F := by
      apply Array.toList_inj.1
      rw [mk_toList, ← h8, List.take_of_length_le (by simp; omega)]
    rw [this]
theorem made_row (n : Nat) : (madeCells #[Value.int .u8 0] n).toList = (List.range n).map fun _ => .int .u8 0 := by
  rw [toList_madeCells_one]
  apply List.ext_getElem?
  intro j
  by_cases h : j < n
  · rw [List.getElem?_replicate, if_pos h, List.getElem?_map, List.getElem?_range h]; rfl
  · rw [List.getElem?_replicate, if_neg h, List.getElem?_map, List.getElem?_eq_none (by simp; omega)]; rfl
def RdI (w : World) (sp : Option Addr) (M : List Int) : Prop := ∀ i, i < M.length → ∃ k o, sp = some ⟨k, o, none⟩ ∧ k < w.heap.size ∧ w.cell? ⟨k, o + i, none⟩ = some (.int .u8 (M.getD i 0))
theorem RdI.below {w w' : World} {sp : Option Addr} {M : List Int} {B : Nat} (h : RdI w sp M) (hb : Below B w w') (hB : w.heap.size ≤ B) : RdI w' sp M := fun i hi => by
  obtain ⟨k, o, a, b, c⟩ := h i hi
  exact ⟨k, o, a, Nat.lt_of_lt_of_le b hb.size, (hb.cell (p := ⟨k, o + i, none⟩) (by show k < B; omega)).trans c⟩
/-- lent bytes, and the room behind them -/
def lentF (M : List Int) (j : Nat) : Int := if j < M.length then M.getD j 0 else 165
set_option maxHeartbeats 2000000 in
theorem lent_any (sp : Option Addr) (cap : Nat) (M : List Int) (w : World) (hr : RdI w sp M) (hl : M.length ≤ 1000) :
    Calls Tryd.prog 32 #[.slice sp M.length cap] w fun e w' => e = .returned (.slice (some ⟨w.heap.size, 0, none⟩) M.length (M.length + 8)) ∧ RowI w' w.heap.size 5 .u8 (M.length + 8) (lentF M) ∧ Below w.heap.size w w' := by
  obtain ⟨i0, hi, hz0, hz1, hz2⟩ := info_parts info5
  have HR := Lib.hid hr
  clear hr
  obtain ⟨n, hn⟩ : ∃ n, M.length = n := ⟨_, rfl⟩
  have HL : Hid (∀ j, lentF M j = if j < n then M.getD j 0 else 165) := fun j => by unfold lentF; rw [hn]
  have HI : Hid (∀ i, i < n → ∃ k o, sp = some ⟨k, o, none⟩ ∧ k < w.heap.size ∧ w.cell? ⟨k, o + i, none⟩ = some (.int .u8 (M.getD i 0))) := fun i h => HR.out i (by omega)
  rw [hn] at hl ⊢
  clear hn HR
  go_enter Tryd.func32, Tryd.ntmps32
  go_wp2_with (at_make; go_must (refine wpList_make_full _ rfl (.tmp 7) (.tmp 7) 49 rfl w.heap.size 5 i0 (.int .u8 0) 1 Tryd.underlying49 hi hz0 hz1 .i64 .i64 ((n : Int) + 8) ((n : Int) + 8) (n + 8) rfl rfl (by simp) (by simp) (by rw [hz2]; omega) (by unfold maxLen; omega) (Nat.le_refl _) ?_))
  intro w1 hown hgrow
  rw [made_row] at hown
  have R0 := Lib.hid (row_of_owns hown)
  have HB := Lib.hid ((Below.refl w.heap.size w).grown hgrow (Nat.le_refl _) (by simp))
  clear hown hgrow
  go_wp2_with fail
  go_loopw [4] (fun i wr => ∃ (k : Nat) (F : Nat → Int), k ≤ n + 8 ∧ i = .int .i64 k ∧ Hid (RowI wr w.heap.size 5 .u8 (n + 8) F) ∧ Hid (Below w.heap.size w wr) ∧ Hid (∀ j, j < k → F j = lentF M j)) (fun i _ => n + 8 - (intOf i).toNat)
  case atStart => exact ⟨0, _, Nat.zero_le _, rfl, R0.out, HB.out, fun j h1 => by omega⟩
  case round =>
    clear R0 HB
    obtain ⟨k, F, hk, rfl, R0, HB, HF⟩ := hrel
    by_cases hlt : k < n + 8
    · have ck := R0.out.cell k (by omega)
      have fk := R0.out.free k
      have hk8 : (k : Int) < (n : Int) + 8 := by omega
      by_cases hn2 : k < n
      · obtain ⟨b, o, rfl, hb, c⟩ := HI.out k hn2
        have c' : wr.cell? ⟨b, o + k, none⟩ = some (.int .u8 (M.getD k 0)) := (HB.out.cell (p := ⟨b, o + k, none⟩) hb).trans c
        have E : Hid (lentF M k = M.getD k 0) := by unfold Hid; rw [HL.out, if_pos hn2]
        generalize M.getD k 0 = y at *
        clear c
        go_wp2
        go_roundw
        case rel => exact ⟨k + 1, upd F k y, by omega, by go_num, R0.out.set _ _, Below.setCell HB.out (Nat.le_refl _) _, fun j h1 => by
          by_cases e : j = k
          · subst e; rw [upd_same, E.out]
          · rw [upd_other _ _ _ _ e]; exact HF.out j (by omega)⟩
        case measure => simp [intOf]; omega
      · have E : Hid (lentF M k = 165) := by unfold Hid; rw [HL.out, if_neg hn2]
        go_wp2
        go_roundw
        case rel => exact ⟨k + 1, upd F k 165, by omega, by go_num, R0.out.set _ _, Below.setCell HB.out (Nat.le_refl _) _, fun j h1 => by
          by_cases e : j = k
          · subst e; rw [upd_same, E.out]
          · rw [upd_other _ _ _ _ e]; exact HF.out j (by omega)⟩
        case measure => simp [intOf]; omega
    · have hkn : k = n + 8 := by omega
      have hk8 : (n : Int) + 8 ≤ k := by omega
      have R1 := Lib.hid (R0.out.congr (G := lentF M) (fun j hj => HF.out j (by omega)))
      clear R0 HF HI HL
      go_wp2
      go_ret
      exact ⟨rfl, R1.out, HB.out⟩
theorem lentF_lo (M : List Int) (j : Nat) (h : j < M.length) : lentF M j = M.getD j 0 := by unfold lentF; rw [if_pos h]
theorem lentF_hi (M : List Int) (j : Nat) (h : M.length ≤ j) : lentF M j = 165 := by unfold lentF; rw [if_neg (by omega)]
set_option maxHeartbeats 1000000 in
theorem kept_any (g n cap2 : Nat) (sp : Option Addr) (M : List Int) (w : World) (hn : M.length = n) (hl : n ≤ 1000) (h : RowI w g 5 .u8 (n + 8) (lentF M))
    (HSM : Calls Tryd.prog 37 #[.slice (some ⟨g, 0, none⟩) n (n + 8), .slice sp n cap2] w fun e w' => e = .returned (.bool true) ∧ Below w.heap.size w w') :
    Calls Tryd.prog 38 #[.slice (some ⟨g, 0, none⟩) n (n + 8), .slice sp n cap2] w fun e w' => e = .returned (.bool true) ∧ Below w.heap.size w w' := by
  have S := HSM
  have H := Lib.hid h
  have HF : Hid (∀ j, n ≤ j → lentF M j = 165) := fun j hj => lentF_hi M j (by omega)
  clear h hn
  go_enter Tryd.func38, Tryd.ntmps38
  go_wp2_with fail
  refine S.mono ?_
  rintro e w1 ⟨rfl, b1⟩
  have R1 := Lib.hid (H.out.below b1 H.out.lt)
  have B1 := Lib.hid b1
  clear b1 S H
  go_wp2
  go_loopw [6] (fun i wr => ∃ k : Nat, n ≤ k ∧ k ≤ n + 8 ∧ i = .int .i64 k ∧ wr = w1) (fun i _ => n + 8 - (intOf i).toNat)
  case atStart => exact ⟨n, Nat.le_refl _, by omega, rfl, rfl⟩
  case round =>
    obtain ⟨k, hk1, hk2, rfl, rfl⟩ := hrel
    by_cases hlt : k < n + 8
    · have c := R1.out.cell k (by omega)
      rw [HF.out k hk1] at c
      have k0 : (k : Int) < (n : Int) + 8 := by omega
      go_wp2
      go_roundw
      case rel => exact ⟨k + 1, by omega, by omega, by go_num, trivial⟩
      case measure => simp [intOf]; omega
    · have k0 : (n : Int) + 8 ≤ (k : Int) := by omega
      go_wp2
      go_ret
      exact ⟨rfl, B1.out⟩
theorem bcs_get (M : List Nat) (j : Nat) (h : j < M.length) : (bcs M).getD j undef = .int .u8 ((M.getD j 0 : Nat) : Int) := by
  unfold bcs
  rw [List.getD_eq_getElem?_getD, List.getD_eq_getElem?_getD, List.getElem?_map, List.getElem?_eq_getElem h]; rfl
theorem bts_of_own {w : World} {base : Nat} {v : Value} {M : List Nat} (h : w.ownsRow base 5 1 v M.length (bcs M)) (hM : ∀ c, c ∈ M → c < 256) : ∃ o cap, v = .slice o M.length cap ∧ Bts w.heap.size w o cap M := by
  rcases h.2 with ⟨rfl, h0⟩ | ⟨g, cap, cur, rfl, hb, hg, hn, hm, hc, ht⟩
  · refine ⟨none, 0, by rw [h0], ⟨?_, hM, fun a e => by cases e⟩⟩
    rw [h0]; exact RowP.nil _ _ _ _
  · have hgl : g < w.heap.size := (Array.getElem?_eq_some_iff.1 hg).1
    refine ⟨some ⟨g, 0, none⟩, cap, rfl, ⟨⟨hn, hm, (fun h => by cases h), fun _ => ⟨g, 0, rfl, hgl, fun j hj m hm2 => ?_⟩⟩, hM, fun a e => by injection e with e; rw [← e]⟩⟩
    obtain rfl : m = 0 := by omega
    rw [cell_of_row w g _ cur 5 (0, 0) hg, Nat.zero_add, Nat.mul_one, Nat.add_zero]
    have h5 : (bcs M)[j]? = cur[j]? := by rw [← ht, List.getElem?_take_of_lt (by omega), Array.getElem?_toList]
    rw [← h5]
    have := bcs_get M j hj
    rw [List.getD_eq_getElem?_getD, List.getElem?_eq_getElem (by rw [bcs_len]; exact hj)] at this
    simp only [Option.getD_some] at this
    rw [List.getElem?_eq_getElem (by rw [bcs_len]; exact hj), this]
/-- bytes that were written out -/
theorem bts_lit {n : Nat} {w : World} {g : Nat} {M : List Nat} (h : w.heap[g]? = some (.cells (bcs M).toArray 5 (0, 0))) (hg : g < n) (hM : ∀ c, c ∈ M → c < 256) (hl : M.length ≤ 1000) : Bts n w (some ⟨g, 0, none⟩) M.length M := by
  refine ⟨⟨Nat.le_refl _, by unfold maxLen; omega, (fun h => by cases h), fun _ => ⟨g, 0, rfl, hg, fun j hj m hm2 => ?_⟩⟩, hM, fun a e => by injection e with e; rw [← e]⟩
  obtain rfl : m = 0 := by omega
  rw [cell_of_row w g _ _ 5 (0, 0) h, Nat.zero_add, Nat.mul_one, Nat.add_zero]
  have := bcs_get M j hj
  rw [List.getD_eq_getElem?_getD, List.getElem?_eq_getElem (by rw [bcs_len]; exact hj)] at this
  simp only [Option.getD_some] at this
  rw [List.getElem?_toArray, List.getElem?_eq_getElem (by rw [bcs_len]; exact hj), this]
set_option maxRecDepth 100000 in
/-- bytes in memory are laid behind a row of the call's own -/
theorem app_bts {w : World} {ops : Array Oper} {rest : List Oper} {o : Oper} {a : Act} {Q : Exit → Act → World → Prop} (hgd : o.guard = none) (s x : Operand)
    (ho : o.op = .call { callee := .builtin .append, args := #[s, x], argTypes := #[49, 49] }) {base nb : Nat} {v : Value} {N M : List Nat} {sp : Option Addr} {cap : Nat} (hs : a.eval s = v) (hx : a.eval x = .slice sp M.length cap)
    (hown : w.ownsRow base 5 1 v N.length (bcs N)) (B : Bts nb w sp cap M) (hlen : N.length + M.length ≤ 4000000000) (hbase : base ≤ w.heap.size)
    (h : ∀ v' w', w'.ownsRow base 5 1 v' (N ++ M).length (bcs (N ++ M)) → Below base w w' → w.heap.size ≤ w'.heap.size → wpList Tryd.prog ops Q rest (a.put o.dst v') w') : wpList Tryd.prog ops Q (o :: rest) a w := by
  obtain ⟨i, hi, hz, hs1, hb⟩ := info_parts info5
  have hr : ∀ k, v.ownBlock = some k → base ≤ k := fun k hk => (hown.lt k hk).1
  cases sp with
  | none =>
    have h0 : M.length = 0 := by have := B.row.2.2.1 rfl; have := B.row.1; omega
    have hc0 : cap = 0 := B.row.2.2.1 rfl
    obtain rfl := List.length_eq_zero_iff.1 h0
    refine wpList_append_own_none hgd s x 49 ho base 5 i 1 Tryd.underlying49 hi v N.length (bcs N) hs hown (by rw [hx, hc0]; rfl) (h v w ?_ (Below.refl _ _) (Nat.le_refl _))
    rw [List.append_nil]; exact hown
  | some ad =>
    have hsp := B.sp ad rfl
    refine wpList_append_own w hgd s x 49 ho base 5 i (.int .u8 0) 1 1 Tryd.underlying49 hi hz hs1 hb rfl (by omega) v N.length (bcs N) hs hown ad M.length cap (bcs M) hx (by rw [bcs_len, Nat.mul_one]) (fun j u hu => ?_) (fun u hu => ?_) (by unfold maxLen; omega) (by omega) hbase (fun v' w' h1 h2 _ => h v' w' ?_ ((Below.refl base w).grown h2 hbase hr) h2.size)
    · have hj : j < M.length := by
        have := (List.getElem?_eq_some_iff.1 hu).1
        rwa [bcs_len] at this
      obtain ⟨b, off, e, _, c⟩ := B.at hj
      injection e with e
      subst e
      have ea : (⟨b, off, none⟩ : Addr).add j = ⟨b, off + j, none⟩ := by unfold Addr.add; split <;> simp_all
      rw [ea, c]
      have h5 := bcs_get M j hj
      rw [List.getD_eq_getElem?_getD, hu] at h5
      simp only [Option.getD_some] at h5
      rw [h5]
    · obtain ⟨c, _, rfl⟩ := List.mem_map.1 hu
      rfl
    · rw [List.length_append, bcs_app]; exact h1
/-- of bytes in memory the first ones -/
theorem Bts.take {n : Nat} {w : World} {o : Option Addr} {cap : Nat} {M : List Nat} (h : Bts n w o cap M) (k : Nat) (hk : k ≤ M.length) : Bts n w o cap (M.take k) := by
  have hl : (M.take k).length = k := by rw [List.length_take]; omega
  refine ⟨⟨by rw [hl]; have := h.row.1; omega, h.row.2.1, h.row.2.2.1, fun h0 => ?_⟩, fun c hc => h.b c (List.mem_of_mem_take hc), h.sp⟩
  rw [hl] at h0
  obtain ⟨b, off, e, hb, hc⟩ := h.row.2.2.2 (by omega)
  refine ⟨b, off, e, hb, fun j hj m hm => ?_⟩
  rw [hl] at hj
  rw [hc j (by omega) m hm]
  show some (Value.int .u8 ((M.getD j 0 : Nat) : Int)) = some (Value.int .u8 (((M.take k).getD j 0 : Nat) : Int))
  rw [List.getD_eq_getElem?_getD, List.getD_eq_getElem?_getD, List.getElem?_take_of_lt hj]
end Go.Proofs.YtakoghdkllfhlaaDoor

/- The parts of a string: putByte, endPiece, putExpr. -/
import Derived.Test.YtejpbebfkogmfaaDoorC
import Derived.Deep.AppendLies
import Derived.OwnWalk
import Derived.Laws.BytesArg
import Derived.Deep.RegionLaw
import Derived.Lib.AppendZeros
namespace Go.Proofs.YtejpbebfkogmfaaDoor
open Go.RowKit

theorem ownsRow_kept {w w' : World} {base e size n : Nat} {v : Value} {xs : List Value} (h : w.ownsRow base e size v n xs) (hb : ∀ g, v.ownBlock = some g → w'.heap[g]? = w.heap[g]?) : w'.ownsRow base e size v n xs := by
  refine ⟨h.1, ?_⟩
  rcases h.2 with hn | ⟨g, cap, cur, rfl, hg, hgg, rest⟩
  · exact .inl hn
  · exact .inr ⟨g, cap, cur, rfl, hg, by rw [hb g rfl]; exact hgg, rest⟩
/-- rows of different element types lie in different blocks -/
theorem own_ne {w : World} {B B' e e' size size' n n' : Nat} {v v' : Value} {xs xs' : List Value} (h : w.ownsRow B e size v n xs) (h' : w.ownsRow B' e' size' v' n' xs') (hne : e ≠ e') : ∀ g, v.ownBlock = some g → v'.ownBlock ≠ some g := by
  intro g hg hg'
  rcases h.2 with ⟨rfl, _⟩ | ⟨g1, cap, cur, rfl, _, hgg, _⟩
  · cases hg
  · rcases h'.2 with ⟨rfl, _⟩ | ⟨g2, cap', cur', rfl, _, hgg', _⟩
    · cases hg'
    · simp only [Value.ownBlock, Option.some.injEq] at hg hg'
      subst hg hg'
      rw [hgg] at hgg'
      simp only [Option.some.injEq, Obj.cells.injEq] at hgg'
      exact hne hgg'.2.1

theorem grown_below {w w' : World} {row : Option Nat} {B : Nat} (h : w.grownBy w' row) (hB : B ≤ w.heap.size) (hr : ∀ k, row = some k → B ≤ k) : Below B w w' := (Below.refl B w).grown h hB hr
def bcs (b : List UInt8) : List Value := b.map fun c => Value.int .u8 (c.toNat : Int)
theorem bcs_app (a b : List UInt8) : bcs (a ++ b) = bcs a ++ bcs b := by simp [bcs]
theorem bcs_len (a : List UInt8) : (bcs a).length = a.length := by simp [bcs]
/-- bytes as a text -/
abbrev tx (l : List UInt8) : ByteArray := ⟨l.toArray⟩
theorem tx_lb (s : ByteArray) : tx (lb s) = s := rfl
theorem lb_tx (l : List UInt8) : lb (tx l) = l := rfl
/-- a piece as cells -/
abbrev pc5 (p : Prt) : List Value := [.bool p.ex, .string (tx p.s), .int .i64 p.p.a, .int .i64 p.p.l, .int .i64 p.p.c]
def pcs (ps : List Prt) : List Value := ps.flatMap pc5
theorem pcs_app (a b : List Prt) : pcs (a ++ b) = pcs a ++ pcs b := by simp [pcs]
theorem pcs_len (a : List Prt) : (pcs a).length = a.length * 5 := by
  induction a with
  | nil => rfl
  | cons p r ih => simp only [pcs, List.flatMap_cons, List.length_append, List.length_cons] at ih ⊢; rw [ih]; simp; omega
theorem pc5_one (p : Prt) : ∀ u ∈ pc5 p, u.oneCell' = true := fun u hu => by
  simp only [pc5, List.mem_cons, List.not_mem_nil, or_false] at hu
  rcases hu with rfl | rfl | rfl | rfl | rfl <;> rfl
theorem info5 : (Tryd.prog.info? 5).map (fun i => (i.zero, i.size, i.bytes)) = some (some (.int .u8 0), 1, 1) := by kernel_rfl
theorem info39 : (Tryd.prog.info? 39).map (fun i => (i.zero, i.size, i.bytes)) = some (some (.agg #[.bool false, .string ⟨#[]⟩, .int .i64 0, .int .i64 0, .int .i64 0]), 5, 48) := by kernel_rfl
/-- a string's parts in block pb: rows of the call's own -/
structure Pb (w : World) (pb : Nat) (vl vp : Value) (ps : List Prt) (b : List UInt8) (n : Nat) : Prop where
  row : w.heap[pb]? = some (.cells #[vl, vp, .int .i64 n] 62 (0, 0))
  ol : w.ownsRow (pb + 1) 39 5 vl ps.length (pcs ps)
  op : w.ownsRow (pb + 1) 5 1 vp b.length (bcs b)
theorem Pb.lt {w : World} {pb : Nat} {vl vp : Value} {ps : List Prt} {b : List UInt8} {n : Nat} (h : Pb w pb vl vp ps b n) : pb < w.heap.size := (Array.getElem?_eq_some_iff.1 h.row).1
theorem Pb.keep {w w' : World} {pb : Nat} {vl vp : Value} {ps : List Prt} {b : List UInt8} {n : Nat} (h : Pb w pb vl vp ps b n) (hk : ∀ k, pb ≤ k → k < w.heap.size → w'.heap[k]? = w.heap[k]?) : Pb w' pb vl vp ps b n :=
  ⟨(hk pb (Nat.le_refl _) h.lt).trans h.row, ownsRow_kept h.ol fun g hg => hk g (by have := (h.ol.lt g hg).1; omega) (h.ol.lt g hg).2, ownsRow_kept h.op fun g hg => hk g (by have := (h.op.lt g hg).1; omega) (h.op.lt g hg).2⟩
/-- behind a row's growth -/
theorem Pb.grown_p {w w' : World} {pb : Nat} {vl vp v' : Value} {ps : List Prt} {b b' : List UInt8} {n : Nat} (h : Pb w pb vl vp ps b n) (hg : w.grownBy w' vp.ownBlock) (hn : w'.ownsRow (pb + 1) 5 1 v' b'.length (bcs b')) (m : Nat) {w2 : World}
    (hw : ∀ k, k ≠ pb → w2.heap[k]? = w'.heap[k]?) (hr : w2.heap[pb]? = some (.cells #[vl, v', .int .i64 m] 62 (0, 0))) : Pb w2 pb vl v' ps b' m := by
  refine ⟨hr, ownsRow_kept h.ol fun g hgg => ?_, ownsRow_kept hn fun g hgg => hw g (by have := (hn.lt g hgg).1; omega)⟩
  have h1 := h.ol.lt g hgg
  rw [hw g (by omega)]
  exact hg.block g h1.2 fun e => own_ne h.ol h.op (by decide) g hgg e.symm
theorem Pb.grown_l {w w' : World} {pb : Nat} {vl vp v' : Value} {ps ps' : List Prt} {b : List UInt8} {n : Nat} (h : Pb w pb vl vp ps b n) (hg : w.grownBy w' vl.ownBlock) (hn : w'.ownsRow (pb + 1) 39 5 v' ps'.length (pcs ps')) (m : Nat) {w2 : World}
    (hw : ∀ k, k ≠ pb → w2.heap[k]? = w'.heap[k]?) (hr : w2.heap[pb]? = some (.cells #[v', vp, .int .i64 m] 62 (0, 0))) : Pb w2 pb v' vp ps' b m := by
  refine ⟨hr, ownsRow_kept hn fun g hgg => hw g (by have := (hn.lt g hgg).1; omega), ownsRow_kept h.op fun g hgg => ?_⟩
  have h1 := h.op.lt g hgg
  rw [hw g (by omega)]
  exact hg.block g h1.2 fun e => own_ne h.op h.ol (by decide) g hgg e.symm
def PbPost (w : World) (pb : Nat) (ps : List Prt) (b : List UInt8) (n : Nat) (e : Ending) (w' : World) : Prop :=
  e = .returned (.tuple #[]) ∧ (∃ vl vp, Pb w' pb vl vp ps b n) ∧ Below pb w w'
def Oth (w : World) (pb : Nat) (vl : Value) (w' : World) : Prop := ∀ k, k < w.heap.size → k ≠ pb → vl.ownBlock ≠ some k → w'.heap[k]? = w.heap[k]?
def EpPost (w : World) (pb : Nat) (vl : Value) (ps : List Prt) (n : Nat) (e : Ending) (w' : World) : Prop := PbPost w pb ps [] n e w' ∧ Oth w pb vl w'
set_option maxHeartbeats 1000000 in
theorem putByte_any {w : World} {pb : Nat} {vl vp : Value} {ps : List Prt} {b : List UInt8} {n : Nat} (P : Pb w pb vl vp ps b n) (hb : b.length ≤ 1000000) (hn : n ≤ 1000000) (c : Nat) (hc : c < 256) :
    Calls Tryd.prog 39 #[.pointer (some ⟨pb, 0, none⟩), .int .u8 c] w (PbPost w pb ps (b ++ [UInt8.ofNat c]) (n + 1)) := by
  have HP := Lib.hid P
  have lt := P.lt
  obtain ⟨i5, hi5, hz5, hs5, hb5⟩ := info_parts info5
  obtain ⟨x0, x1, x2, f0, f1, f2, -⟩ := rc3 P.row
  have O1 := Lib.hid ((P.op).alloc (.cells #[.int .u8 (c : Int)] 5))
  have W1 := Lib.hid (World.news_of_block (heap_alloc_new w (.cells #[.int .u8 (c : Int)] 5)))
  clear P
  unfold PbPost
  go_enter Tryd.func39, Tryd.ntmps39
  go_wp2_with (at_builtin; go_must (refine wpList_append_lies _ rfl (.tmp 8) (.tmp 10) 46 rfl (pb + 1) 5 i5 _ 1 1 Tryd.underlying46 hi5 hz5 hs5 hb5 rfl (by omega) vp b.length (bcs b) rfl O1.out ⟨w.heap.size, 0, none⟩ 1 1 [.int .u8 (c : Int)] rfl rfl W1.out (fun u hu => by simp at hu; subst hu; rfl) (by omega) (by unfold maxLen; omega) (by omega) (by simp; omega) (w.heap.size + 1) (by simp) ?_))
  intro g cap w2 hown hgrow hat hlt
  have hvp : some pb ≠ vp.ownBlock := fun e => by have := (HP.out.op.lt pb e.symm).1; omega
  have hrow : w2.heap[pb]? = some (.cells #[vl, vp, .int .i64 n] 62 (0, 0)) := (hgrow.block pb (by simp; omega) hvp).trans (((Below.refl w.heap.size w).alloc (Nat.le_refl _) _).block pb lt |>.trans HP.out.row)
  have H2 := Lib.hid (And.intro hown (And.intro hgrow hrow))
  have HB : Hid (Below pb w w2) := (((Below.refl pb w).alloc (by omega) _).trans (grown_below hgrow (by simp; omega) fun k hk => by have := (HP.out.op.lt k hk).1; omega))
  clear hown hgrow hat hvp x0 x1 x2 f0 f1 f2
  obtain ⟨x0, x1, x2, f0, f1, f2, l2⟩ := rc3 hrow
  clear hrow
  go_wp2_with fail
  refine bodyPost_end (v := .tuple #[]) (results_none rfl _ _ _) rfl ?_
  refine ⟨rfl, ⟨vl, .slice (some ⟨g, 0, none⟩) (b.length + 1) cap, ?_⟩, (HB.out.setCell (p := ⟨pb, 1, none⟩) (Nat.le_refl pb) _).setCell (p := ⟨pb, 2, none⟩) (Nat.le_refl pb) _⟩
  have hl : (b ++ [UInt8.ofNat c]).length = b.length + 1 := by simp
  refine Pb.grown_p (HP.out.keep (w' := w.alloc _) fun k _ hk => ((Below.refl w.heap.size w).alloc (Nat.le_refl _) _).block k hk) H2.out.2.1 ?_ (n + 1) (fun k hk => ?_) ?_
  · rw [hl, bcs_app]
    have : bcs [UInt8.ofNat c] = [.int .u8 (c : Int)] := by
      have e : (UInt8.ofNat c).toNat = c := by rw [UInt8.toNat_ofNat']; omega
      simp only [bcs, List.map_cons, List.map_nil, e]
    rw [this]
    exact H2.out.1
  · rw [heap_setCell_other _ _ _ _ (fun e => hk e), heap_setCell_other _ _ _ _ (fun e => hk e)]
  · exact (heap_setCell_same _ pb 2 _ _ _ (heap_setCell_same w2 pb 1 _ _ _ H2.out.2.2)).trans rfl
/-- a text of bytes in a row of the call's own -/
theorem conv_own {w : World} {B : Nat} {v : Value} {b : List UInt8} (h : w.ownsRow B 5 1 v b.length (bcs b)) : (convert 46 9 v).run Tryd.prog w = .ok (.string (tx b)) w := by
  rcases h.2 with ⟨rfl, h0⟩ | ⟨g, cap, cur, rfl, hb, hg, hn, hm, hc, ht⟩
  · obtain rfl : b = [] := List.eq_nil_of_length_eq_zero h0
    exact run_convert_bytes_nil w 46 5 Tryd.underlying46 Tryd.underlying5 0 0 9 Tryd.underlying9
  · have hcell : ∀ i, i < b.length → w.cell? ⟨g, 0 + i, none⟩ = some (.int .u8 ((b.map fun c => (c.toNat : Int)).getD i 0)) := fun i hi => by
      have := h.cells (g := g) rfl i (.int .u8 ((b[i]'hi).toNat : Int)) (by unfold bcs; rw [List.getElem?_map, List.getElem?_eq_getElem hi]; rfl)
      have ea : (⟨g, 0, none⟩ : Addr).add i = ⟨g, i, none⟩ := by unfold Addr.add; split <;> simp_all
      rw [ea] at this
      rw [Nat.zero_add, this, List.getD_eq_getElem?_getD, List.getElem?_map, List.getElem?_eq_getElem hi]; rfl
    rw [run_convert_bytes_arg w 46 5 Tryd.underlying46 Tryd.underlying5 g 0 b.length cap (b.map fun c => (c.toNat : Int)) (by simp) hcell 9 Tryd.underlying9]
    unfold strOfNums tx
    simp only [List.map_map]
    congr
    apply List.map_id''
    intro c
    simp
set_option maxHeartbeats 1000000 in
theorem endPiece_none {w : World} {pb : Nat} {vl vp : Value} {ps : List Prt} {n : Nat} (P : Pb w pb vl vp ps [] n) :
    Calls Tryd.prog 37 #[.pointer (some ⟨pb, 0, none⟩)] w (EpPost w pb vl (flush ps []) n) := by
  have HP := Lib.hid P
  obtain ⟨x0, x1, x2, f0, f1, f2, -⟩ := rc3 P.row
  have hv : vp = .slice none 0 0 ∨ ∃ g c, vp = .slice (some ⟨g, 0, none⟩) 0 c := by
    rcases P.op.2 with h | ⟨g, c, _, h, _⟩
    · exact .inl h.1
    · exact .inr ⟨g, c, h⟩
  clear P
  rcases hv with rfl | ⟨g, c, rfl⟩
  · go_enter Tryd.func37, Tryd.ntmps37
    go_wp2_with fail
    refine bodyPost_ret (v := .tuple #[]) (results_none rfl _ _ _) rfl ?_
    exact ⟨⟨rfl, ⟨_, _, HP.out⟩, Below.refl _ _⟩, fun k _ _ _ => rfl⟩
  · go_enter Tryd.func37, Tryd.ntmps37
    go_wp2_with fail
    refine bodyPost_ret (v := .tuple #[]) (results_none rfl _ _ _) rfl ?_
    exact ⟨⟨rfl, ⟨_, _, HP.out⟩, Below.refl _ _⟩, fun k _ _ _ => rfl⟩
theorem piece_fin {w w2 : World} {pb n g cap : Nat} {vl vp : Value} {ps : List Prt} {b : List UInt8} (P : Pb w pb vl vp ps b n) (h0 : 0 < b.length)
    (hown : w2.ownsRow (pb + 1) 39 5 (.slice (some ⟨g, 0, none⟩) (ps.length + 1) cap) (ps.length + 1) (pcs ps ++ pc5 ⟨false, b, noP⟩)) (hgrow : (w.alloc (.cells (pc5 ⟨false, b, noP⟩).toArray 39)).drew.grownBy w2 vl.ownBlock)
    (hrow : w2.heap[pb]? = some (.cells #[vl, vp, .int .i64 n] 62 (0, 0))) :
    PbPost w pb (flush ps b) [] n (.returned (.tuple #[])) ((w2.setCell ⟨pb, 0, none⟩ (.slice (some ⟨g, 0, none⟩) (ps.length + 1) cap)).setCell ⟨pb, 1, none⟩ (.slice none 0 0)) := by
  have hb : Below w.heap.size w (w.alloc (.cells (pc5 ⟨false, b, noP⟩).toArray 39)).drew := ((Below.refl w.heap.size w).alloc (Nat.le_refl _) _).drew
  have hf : flush ps b = ps ++ [⟨false, b, noP⟩] := by unfold flush; cases b with | nil => simp at h0 | cons c r => rfl
  have lt := P.lt
  have P2 := P.keep (w' := (w.alloc (.cells (pc5 ⟨false, b, noP⟩).toArray 39)).drew) fun k _ hk => hb.block k hk
  have G : Pb (w2.setCell ⟨pb, 0, none⟩ (.slice (some ⟨g, 0, none⟩) (ps.length + 1) cap)) pb (.slice (some ⟨g, 0, none⟩) (ps.length + 1) cap) vp (flush ps b) b n := by
    refine P2.grown_l hgrow ?_ n (fun k hk => heap_setCell_other _ _ _ _ fun e => hk e) ((heap_setCell_same _ pb 0 _ _ _ hrow).trans rfl)
    rw [hf, pcs_app, show (ps ++ [(⟨false, b, noP⟩ : Prt)]).length = ps.length + 1 by simp, show pcs [(⟨false, b, noP⟩ : Prt)] = pc5 ⟨false, b, noP⟩ by simp [pcs]]
    exact hown
  refine ⟨rfl, ⟨.slice (some ⟨g, 0, none⟩) (ps.length + 1) cap, .slice none 0 0, ?_⟩, ?_⟩
  · refine ⟨(heap_setCell_same _ pb 1 _ _ _ G.row).trans rfl, ownsRow_kept G.ol fun k hk => heap_setCell_other _ _ _ _ fun e => ?_, World.ownsRow_nil _ _ _ _⟩
    have := (G.ol.lt k hk).1
    simp only at e; omega
  · exact (((hb.mono (by omega)).trans (grown_below hgrow (by show pb ≤ (w.alloc _).heap.size; simp; omega) fun k hk => by have := (P.ol.lt k hk).1; omega)).setCell (p := ⟨pb, 0, none⟩) (Nat.le_refl pb) _).setCell (p := ⟨pb, 1, none⟩) (Nat.le_refl pb) _
theorem oth_fin {w w2 : World} {pb : Nat} {q : List Value} {vl x y : Value} (hgrow : (w.alloc (.cells q.toArray 39)).drew.grownBy w2 vl.ownBlock) : Oth w pb vl ((w2.setCell ⟨pb, 0, none⟩ x).setCell ⟨pb, 1, none⟩ y) := fun k hk hp hv => by
  rw [heap_setCell_other _ _ _ _ (fun e => hp e), heap_setCell_other _ _ _ _ (fun e => hp e), hgrow.block k (by show k < (w.alloc _).heap.size; simp; omega) (fun e => hv e.symm)]
  exact ((Below.refl w.heap.size w).alloc (Nat.le_refl _) _).block k hk
set_option maxHeartbeats 1000000 in
theorem endPiece_some {w : World} {pb : Nat} {vl vp : Value} {ps : List Prt} {b : List UInt8} {n : Nat} (P : Pb w pb vl vp ps b n) (h0 : 0 < b.length) (hb : b.length ≤ 1000000) (hp : ps.length ≤ 1000000) :
    Calls Tryd.prog 37 #[.pointer (some ⟨pb, 0, none⟩)] w (EpPost w pb vl (flush ps b) n) := by
  have HP := Lib.hid P
  have lt := P.lt
  obtain ⟨i5, hi5, hz5, hs5, hb5⟩ := info_parts info39
  obtain ⟨x0, x1, x2, f0, f1, f2, -⟩ := rc3 P.row
  obtain ⟨g, c, rfl⟩ : ∃ g c, vp = .slice (some ⟨g, 0, none⟩) b.length c := by
    rcases P.op.2 with h | ⟨g, c, _, h, _⟩
    · omega
    · exact ⟨g, c, h⟩
  have HC := Lib.hid (conv_own P.op)
  have O1 := Lib.hid ((P.ol).alloc (.cells (pc5 ⟨false, b, noP⟩).toArray 39)).drew
  have W1 := Lib.hid (World.news_of_block (w := (w.alloc (.cells (pc5 ⟨false, b, noP⟩).toArray 39)).drew) (heap_alloc_new w (.cells (pc5 ⟨false, b, noP⟩).toArray 39)))
  have h0' : (0 : Int) < b.length := by omega
  clear P
  unfold EpPost PbPost
  go_enter Tryd.func37, Tryd.ntmps37
  go_upto_region 1 with fail
  have hcv := conv_own (HP.out.op.drew)
  have HROW : Hid (∀ w2, (w.alloc (.cells (pc5 ⟨false, b, noP⟩).toArray 39)).drew.grownBy w2 vl.ownBlock → w2.heap[pb]? = some (.cells #[vl, .slice (some ⟨g, 0, none⟩) b.length c, .int .i64 n] 62 (0, 0))) := fun w2 hg =>
    (hg.block pb (by simp; omega) fun e => by have := (HP.out.ol.lt pb e.symm).1; omega).trans (((Below.refl w.heap.size w).alloc (Nat.le_refl _) _).block pb lt |>.trans HP.out.row)
  go_region_law (refine step_append_lies _ rfl (.tmp 12) (.tmp 19) 22 rfl (pb + 1) 39 i5 _ 5 48 Tryd.underlying22 hi5 hz5 hs5 hb5 rfl (by omega) vl ps.length (pcs ps) rfl O1.out ⟨w.heap.size, 0, none⟩ 1 1 (pc5 ⟨false, b, noP⟩) rfl rfl W1.out (pc5_one _) (by omega) (by unfold maxLen; omega) (by omega) (by simp; omega) (w.heap.size + 1) (by simp) ?_; intro gz cz w2 hown hgrow hat hlt; have hrow := HROW.out w2 hgrow; have HG := Lib.hid (And.intro hown (And.intro hgrow hrow)); obtain ⟨z0, z1, z2, k0, k1, k2, l2⟩ := rc3 hrow; clear hown hgrow hat hlt hrow)
  all_goals
    go_wp2_with fail
    refine bodyPost_end (v := .tuple #[]) (results_none rfl _ _ _) rfl ?_
    exact ⟨piece_fin HP.out h0 HG.out.1 HG.out.2.1 HG.out.2.2, oth_fin HG.out.2.1⟩
theorem endPiece_any {w : World} {pb : Nat} {vl vp : Value} {ps : List Prt} {b : List UInt8} {n : Nat} (P : Pb w pb vl vp ps b n) (hb : b.length ≤ 1000000) (hp : ps.length ≤ 1000000) :
    Calls Tryd.prog 37 #[.pointer (some ⟨pb, 0, none⟩)] w (EpPost w pb vl (flush ps b) n) := by
  cases b with
  | nil => exact endPiece_none P
  | cons c r => exact endPiece_some P (by simp) hb hp
theorem flush_len (ps : List Prt) (b : List UInt8) : (flush ps b).length ≤ ps.length + 1 := by unfold flush; split <;> simp
theorem expr_fin {w w2 : World} {pb n m g cap : Nat} {vl vp : Value} {ps : List Prt} {q : Prt} (P : Pb w pb vl vp ps [] n)
    (hown : w2.ownsRow (pb + 1) 39 5 (.slice (some ⟨g, 0, none⟩) (ps.length + 1) cap) (ps.length + 1) (pcs ps ++ pc5 q)) (hgrow : (w.alloc (.cells (pc5 q).toArray 39)).drew.grownBy w2 vl.ownBlock)
    (hrow : w2.heap[pb]? = some (.cells #[vl, vp, .int .i64 n] 62 (0, 0))) {w0 : World} (hB : Below pb w0 w) {v : Value} (hv : v = .int .i64 (m : Int)) :
    PbPost w0 pb (ps ++ [q]) [] m (.returned (.tuple #[])) ((w2.setCell ⟨pb, 0, none⟩ (.slice (some ⟨g, 0, none⟩) (ps.length + 1) cap)).setCell ⟨pb, 2, none⟩ v) := by
  subst hv
  have hb : Below w.heap.size w (w.alloc (.cells (pc5 q).toArray 39)).drew := ((Below.refl w.heap.size w).alloc (Nat.le_refl _) _).drew
  have lt := P.lt
  have P2 := P.keep (w' := (w.alloc (.cells (pc5 q).toArray 39)).drew) fun k _ hk => hb.block k hk
  refine ⟨rfl, ⟨.slice (some ⟨g, 0, none⟩) (ps.length + 1) cap, vp, ?_⟩, ?_⟩
  · refine P2.grown_l hgrow ?_ m (fun k hk => by rw [heap_setCell_other _ _ _ _ (fun e => hk e), heap_setCell_other _ _ _ _ (fun e => hk e)]) ((heap_setCell_same _ pb 2 _ _ _ (heap_setCell_same _ pb 0 _ _ _ hrow)).trans rfl)
    rw [pcs_app, show (ps ++ [q]).length = ps.length + 1 by simp, show pcs [q] = pc5 q by simp [pcs]]
    exact hown
  · exact ((hB.trans ((hb.mono (by omega)).trans (grown_below hgrow (by show pb ≤ (w.alloc _).heap.size; simp; omega) fun k hk => by have := (P.ol.lt k hk).1; omega))).setCell (p := ⟨pb, 0, none⟩) (Nat.le_refl pb) _).setCell (p := ⟨pb, 2, none⟩) (Nat.le_refl pb) _
set_option maxHeartbeats 1000000 in
theorem putExpr_any {w : World} {pb : Nat} {vl vp : Value} {ps : List Prt} {b : List UInt8} {n : Nat} (P : Pb w pb vl vp ps b n) (hb : b.length ≤ 1000000) (hp : ps.length ≤ 1000000) (hn : n ≤ 1000000) (s : ByteArray) (hs : s.size ≤ 1000000) (p : Plc) :
    Calls Tryd.prog 40 #[.pointer (some ⟨pb, 0, none⟩), .string s, pv3 p] w (PbPost w pb (flush ps b ++ [⟨true, lb s, p⟩]) [] (n + s.size)) := by
  have lt := P.lt
  obtain ⟨i5, hi5, hz5, hs5, hb5⟩ := info_parts info39
  have hf := flush_len ps b
  obtain ⟨N, hN⟩ : ∃ N, N = w.heap.size := ⟨_, rfl⟩
  have hlN : pb < N := by omega
  have P1 := Lib.hid (P.keep (w' := w.alloc (.cells #[.int .i64 p.a, .int .i64 p.l, .int .i64 p.c] 24)) fun k _ hk => ((Below.refl w.heap.size w).alloc (Nat.le_refl _) _).block k hk)
  have B1 : Hid (Below pb w (w.alloc (.cells #[.int .i64 p.a, .int .i64 p.l, .int .i64 p.c] 24))) := (Below.refl pb w).alloc (by omega) _
  have HR1 : Hid ((w.alloc (.cells #[.int .i64 p.a, .int .i64 p.l, .int .i64 p.c] 24)).heap[N]? = some (.cells #[.int .i64 p.a, .int .i64 p.l, .int .i64 p.c] 24 (0, 0))) := by rw [hN]; exact heap_alloc_new _ _
  have HL : Hid (∀ g, vl.ownBlock = some g → g < N) := fun g hg => by have := (P.ol.lt g hg).2; omega
  have EP := Lib.hid (endPiece_any P1.out hb hp)
  clear P
  unfold PbPost
  generalize flush ps b = ps2 at *
  go_enter Tryd.func40, Tryd.ntmps40
  go_upto_region 1 with fail
  generalize w.alloc _ = w1 at *
  rw [← hN] at *
  clear hN
  go_wp2_with fail
  refine EP.out.mono ?_
  rintro e w2 ⟨⟨rfl, ⟨vl2, vp2, P2⟩, B2⟩, OT⟩
  have HP := Lib.hid P2
  have HR2 := (OT N (by have := (Array.getElem?_eq_some_iff.1 HR1.out).1; omega) (by omega) (fun e => by have := (HL.out N e); omega)).trans HR1.out
  have B12 := Lib.hid (B1.out.trans B2)
  obtain ⟨x0, x1, x2, f0, f1, f2, l2⟩ := rc3 P2.row
  obtain ⟨r0, r1, r2, -, -, -, lN⟩ := rc3 HR2
  have lt2 := P2.lt
  have O1 := Lib.hid ((P2.ol).alloc (.cells (pc5 ⟨true, lb s, p⟩).toArray 39)).drew
  have W1 := Lib.hid (World.news_of_block (w := (w2.alloc (.cells (pc5 ⟨true, lb s, p⟩).toArray 39)).drew) (heap_alloc_new w2 (.cells (pc5 ⟨true, lb s, p⟩).toArray 39)))
  have HROW : Hid (∀ w3, (w2.alloc (.cells (pc5 ⟨true, lb s, p⟩).toArray 39)).drew.grownBy w3 vl2.ownBlock → w3.heap[pb]? = some (.cells #[vl2, vp2, .int .i64 n] 62 (0, 0))) := fun w3 hg =>
    (hg.block pb (by simp; omega) fun e => by have := (HP.out.ol.lt pb e.symm).1; omega).trans (((Below.refl w2.heap.size w2).alloc (Nat.le_refl _) _).block pb lt2 |>.trans HP.out.row)
  have HF : Hid (∀ w3 g cap v, v = Value.int .i64 ((n + s.size : Nat) : Int) → _ → _ → _ → _) := fun w3 g cap v hv h1 h2 h3 => expr_fin (w2 := w3) (q := ⟨true, lb s, p⟩) (g := g) (cap := cap) HP.out h1 h2 h3 B12.out hv
  clear P2 P1 B1 OT HR2 B2
  go_upto_region 2 with fail
  go_region_law (refine step_append_lies _ rfl (.tmp 12) (.tmp 16) 22 rfl (pb + 1) 39 i5 _ 5 48 Tryd.underlying22 hi5 hz5 hs5 hb5 rfl (by omega) vl2 ps2.length (pcs ps2) rfl O1.out ⟨w2.heap.size, 0, none⟩ 1 1 (pc5 ⟨true, lb s, p⟩) rfl rfl W1.out (pc5_one _) (by omega) (by unfold maxLen; omega) (by omega) (by simp; omega) (w2.heap.size + 1) (by simp) ?_; intro gz cz w3 hown hgrow hat hlt; have hrow := HROW.out w3 hgrow; have HG := Lib.hid (And.intro hown (And.intro hgrow hrow)); obtain ⟨z0, z1, z2, k0, k1, k2, l3⟩ := rc3 hrow; clear hown hgrow hat hlt hrow)
  all_goals
    go_wp2_with fail
    refine bodyPost_end (v := .tuple #[]) (results_none rfl _ _ _) rfl ?_
    exact HF.out _ _ _ (.int .i64 ((n : Int) + (s.size : Int))) (by rw [Int.natCast_add]) HG.out.1 HG.out.2.1 HG.out.2.2
end Go.Proofs.YtejpbebfkogmfaaDoor

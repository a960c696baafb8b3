/- Types. -/
import Derived.Test.YtfmgbhaldakpfaaDoorSj
import Derived.Test.YtfmgbhaldakpfaaDoorSh
import Derived.Test.YtfmgbhaldakpfaaDoorShs
import Derived.Lib.EndianMore
namespace Go.Proofs.YtfmgbhaldakpfaaDoor
open Go.RowKit

/-- the types of the first k rows -/
def ofs (k : Nat) : List Value := (tab.take k).map fun r => Value.string r.1
theorem ofs_succ (k : Nat) (h : k < 19) : ofs (k + 1) = ofs k ++ [.string (rw' k).1] := by unfold ofs; rw [tab_take k h, List.map_append]; rfl
theorem ofs_len (k : Nat) (h : k ≤ 19) : (ofs k).length = k := by unfold ofs; rw [List.length_map, List.length_take, tab_len]; omega
def types4 : List ByteArray := [bDisk, bNode, bNote, bRule]
theorem info9' : (Tryd.prog.info? 9).map (fun i => (i.zero, i.size, i.bytes)) = some (some (.string ⟨#[]⟩), 1, 16) := by kernel_rfl
def TypesPost (w : World) (e : Ending) (w' : World) : Prop :=
  ∃ o cap, e = .returned (.slice o types4.length cap) ∧ RowP (Fr w w') w' o cap types4.length 1 (fun j _ => .string (types4.getD j default)) ∧ Below w.heap.size w w'
/-- what Compact leaves -/
def vs4 : List Value := ((Lib.compact (Lib.strsOf (fun i => (rw' i).1) 19)) ++ List.replicate (19 - (Lib.compact (Lib.strsOf (fun i => (rw' i).1) 19)).length) []).map encStr
theorem vs4_len : vs4.length = 19 := by kernel_rfl
theorem vs4_0 : vs4[0]? = some (.string (types4.getD 0 default)) := by kernel_rfl
theorem vs4_1 : vs4[1]? = some (.string (types4.getD 1 default)) := by kernel_rfl
theorem vs4_2 : vs4[2]? = some (.string (types4.getD 2 default)) := by kernel_rfl
theorem vs4_3 : vs4[3]? = some (.string (types4.getD 3 default)) := by kernel_rfl
theorem comp_len : (Lib.compact (Lib.strsOf (fun i => (rw' i).1) 19)).length = 4 := by kernel_rfl
theorem vs4_at : ∀ j, j < 4 → vs4[j]? = some (.string (types4.getD j default))
  | 0, _ => vs4_0
  | 1, _ => vs4_1
  | 2, _ => vs4_2
  | 3, _ => vs4_3
  | j + 4, h => absurd h (by omega)
theorem types_fin {w wr : World} {g cap q : Nat} (hg : w.heap.size ≤ g) (hl : g < wr.heap.size) (hc : 19 ≤ cap) (hm : cap ≤ maxLen) (hcell : ∀ i, i < 19 → wr.cell? ⟨g, 0 + i, none⟩ = some (.string (rw' i).1)) (hb : Below w.heap.size w wr) :
    TypesPost w (.returned (.slice (some ⟨g, 0, none⟩) 4 cap)) ((wr.drewN q).setCells g 0 vs4) := by
  refine ⟨some ⟨g, 0, none⟩, cap, rfl, ⟨?_, hm, fun e => (by cases e), fun _ => ⟨g, 0, rfl, ⟨hg, ?_⟩, fun j hj m hm => ?_⟩⟩, ?_⟩
  · show 4 ≤ cap; omega
  · exact Nat.lt_of_lt_of_le hl (Lib.below_setCells_w (B := g) (Nat.le_refl _) vs4 0 (wr.drewN q)).size
  · have hj4 : j < 4 := hj
    obtain rfl : m = 0 := by omega
    have h := World.cell?_setCells_in g vs4 0 (wr.drewN q) (fun i hi => by
      rw [vs4_len] at hi
      show (wr.cell? _).isSome = true
      rw [hcell i hi]; rfl) j (by rw [vs4_len]; omega)
    have ej : 0 + j * 1 + 0 = 0 + j := by omega
    rw [ej, h]
    have := vs4_at j hj4
    rw [List.getElem?_eq_getElem (by rw [vs4_len]; omega)] at this
    exact this
  · exact (below_drewN hb q).trans (Lib.below_setCells_w hg _ _ _)
set_option maxHeartbeats 2000000 in
set_option maxRecDepth 100000 in
theorem types_any (w : World) (hT : Tab w) : Calls Tryd.prog 11 #[] w (TypesPost w) := by
  obtain ⟨T, fr, hT0⟩ := hT
  have HT := Lib.hid hT0
  obtain ⟨i9, hi, hzz⟩ := Option.map_eq_some_iff.1 info9'
  simp only [Prod.mk.injEq] at hzz
  obtain ⟨hz, hs1, hb1⟩ := hzz
  have hIx := Lib.hid idx_row
  have HA : Hid (w.ownsRow w.heap.size 9 1 (.slice none 0 0) 0 (ofs 0) ∧ Below w.heap.size w w) := ⟨World.ownsRow_nil _ _ _ _, Below.refl _ _⟩
  clear hT0
  go_enter Tryd.func11, Tryd.ntmps11
  go_wp2_with (with_reducible refine wpList_load_row rfl 57 _ rfl 0 rfl T tabC fr _ HT.out Tryd.underlying57 rfl info57 ?_)
  go_loopw [1, 5] (fun x i wr => ∃ (k : Nat) (v : Value), k ≤ 19 ∧ i = .int .i64 k ∧ x = v ∧ Hid (wr.ownsRow w.heap.size 9 1 v k (ofs k) ∧ Below w.heap.size w wr)) (fun _ i _ => 19 - (intOf i).toNat)
  case atStart => exact ⟨0, _, by omega, rfl, rfl, HA⟩
  case round =>
    obtain ⟨k, v, hk, rfl, hv, hA⟩ := hrel
    obtain rfl := hv.symm
    by_cases hlt : k < 19
    · have hlt' : (k : Int) < 19 := by omega
      have HX := hIx.out k hlt
      obtain ⟨r, hr⟩ : ∃ r, rw' k = r := ⟨_, rfl⟩
      have HR := Lib.hid (ofs_succ k hlt)
      rw [hr] at HX HR
      clear hr
      have hB : wr.heap.size < wr.heap.size + 1 := Nat.lt_succ_self _
      have hsz := hA.out.2.size
      go_wp2_with (at_builtin; go_must (refine wpList_append_lies _ rfl (.tmp 8) (.tmp 11) 36 rfl w.heap.size 9 i9 _ 1 16 Tryd.underlying36 hi hz hs1 hb1 rfl (by omega) v k (ofs k) rfl ((hA.out.1.alloc _).alloc _) ⟨wr.heap.size + 1, 0, none⟩ 1 1 [.string r.1] rfl rfl (World.news_of_block (heap_alloc2_new _ _ _)) (fun u hu => by simp at hu; subst hu; rfl) (by omega) (by unfold maxLen; omega) (by omega) (by simp; omega) (wr.heap.size + 2) (by simp) ?_))
      intro g cap w2 hown2 hgrow hat hlt2
      have HE2 := Lib.hid (And.intro hown2 (And.intro hgrow hat))
      clear hown2 hgrow hat
      go_wp2_with fail
      go_roundw
      case rel => exact ⟨k + 1, _, by omega, by go_num, rfl, Lib.hid ⟨by rw [HR.out]; exact HE2.out.1, (hA.out.2.trans ((((Below.refl _ _).alloc (Nat.le_refl _) _).alloc (by simp) _ : Below wr.heap.size wr _).mono hsz)).grown HE2.out.2.1 (by simp; omega) (fun g hg => (hA.out.1.lt g hg).1)⟩⟩
      case measure => simp [intOf]; omega
    · have hk19 : k = 19 := by omega
      subst hk19
      obtain ⟨h1, h2⟩ := hA.out
      rcases h1.2 with ⟨_, h0⟩ | ⟨g, cap, cur, rfl, hg, hgg, hc1, hc2, hc3, hc4⟩
      · omega
      · have hcell : ∀ i, i < 19 → wr.cell? ⟨g, 0 + i, none⟩ = some (.string (rw' i).1) := fun i hi => by
          have := h1.cells (g := g) rfl i (.string (rw' i).1) (by
            unfold ofs
            rw [List.take_of_length_le (by rw [tab_len]; exact Nat.le_refl _), List.getElem?_map, tab_at i hi]; rfl)
          have ea : (⟨g, 0, none⟩ : Addr).add i = ⟨g, 0 + i, none⟩ := by unfold Addr.add; split <;> simp_all
          rw [ea] at this
          exact this
        have HC : Hid (Calls Tryd.prog 32 #[.slice (some ⟨g, 0, none⟩) 19 cap] wr fun e w' => e = .returned (.slice (some ⟨g, 0, none⟩) 4 cap) ∧ ∃ q, w' = (wr.drewN q).setCells g 0 vs4) :=
          (Tryd.slices_Compact_string_cells g 0 19 cap (fun i => (rw' i).1) wr (by omega) hc1 hcell (fun j _ => frozen_of_row wr g _ _ 9 hgg)).mono fun e w' h => ⟨by rw [h.1, comp_len], h.2⟩
        have HCE := Lib.hid hcell
        have HB := Lib.hid h2
        have HG := Lib.hid (And.intro hg (And.intro (h1.lt g rfl).2 (And.intro hc1 hc2)))
        clear h1 h2 hgg hg hc1 hc2 hc3 hc4 hcell
        go_wp2_with fail
        refine HC.out.mono ?_
        rintro e w3 ⟨rfl, q, rfl⟩
        have hfin := Lib.hid (types_fin (q := q) HG.out.1 HG.out.2.1 HG.out.2.2.1 HG.out.2.2.2 HCE.out HB.out)
        generalize World.setCells _ _ _ _ = w4 at *
        go_wp2_with fail
        go_ret
        exact hfin.out
end Go.Proofs.YtfmgbhaldakpfaaDoor

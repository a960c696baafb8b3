import Derived.Test.YtncjncacfagldaaGreatDoorYPI2
import Derived.Test.YtncjncacfagldaaGreatDoorYWCK
namespace Go.Proofs.YtncjncacfagldaaGreatDoor
open Go.RowKit Go.Lib

def blksOf (nm : ByteArray) (l : List It) : List It := l.filter fun x => x.b && decide (tx x.nm = nm)
theorem blks_snoc (nm : ByteArray) (l : List It) (x : It) : blksOf nm (l ++ [x]) = blksOf nm l ++ (if x.b = true ∧ tx x.nm = nm then [x] else []) := by
 unfold blksOf
 rw [List.filter_append]
 congr 1
 rw [List.filter_cons]
 cases x.b <;> simp
theorem blks_take {nm : ByteArray} {l : List It} {k : Nat} {x : It} (h : l[k]? = some x) : blksOf nm (l.take (k + 1)) = blksOf nm (l.take k) ++ (if x.b = true ∧ tx x.nm = nm then [x] else []) := by
 rw [List.take_add_one, h]
 exact blks_snoc nm _ x
theorem blks_len (nm : ByteArray) (l : List It) : (blksOf nm l).length ≤ l.length := List.length_filter_le _ _
def BlPost (M : List It) (w : World) (e : Ending) (w' : World) : Prop := Below w.heap.size w w' ∧ ∃ v, e = .returned v ∧ PayI M (FrV w w') w' v
set_option maxRecDepth 100000 in
set_option maxHeartbeats 4000000 in
theorem blocks_any {n : Nat} {w : World} {l : List It} {v : Value} (nm : ByteArray) (hS : ∀ x ∈ l, SmI x) (hl : l.length ≤ 60000) (hP : PayI l (fun k => k < n) w v) (hn : n ≤ w.heap.size) : Calls Tryz.prog 14 #[v, .string nm] w (BlPost (blksOf nm l) w) := by
 obtain ⟨o, cap, d, rfl, hR, hE⟩ := hP
 have hc := hR.1
 have hm := hR.2.1
 unfold maxLen at hm
 cases hll : l.length with
 | zero =>
   have h2 : l = [] := List.length_eq_zero_iff.1 hll
   subst h2
   clear hR hE hS hl hll hc hm hn
   go_enter Tryz.func14, Tryz.ntmps14
   go_wp2_with fail
   go_loopw [5, 10] (fun v5 v10 wr => v5 = .slice none 0 0 ∧ v10 = .int .i64 0 ∧ wr = w) (fun _ _ _ => 0)
   case atStart => exact ⟨rfl, rfl, rfl⟩
   case round =>
    obtain ⟨rfl, rfl, rfl⟩ := hrel
    go_wp2_with fail
    go_ret
    exact ⟨Below.refl _ _, _, rfl, none, 0, fun _ _ => undef, rfl, rowP_nil _ _ _ _, fun j x h => by cases h⟩
 | succ nl =>
 obtain ⟨b, off, ea, hb, hcel⟩ := hR.2.2.2 (by omega)
 subst ea
 have HR := qh hcel
 have HE := qh hE
 have HS := qh hS
 have HN := qh hn
 have HB := qh hb
 have HL := qh hl
 have HLP : Hid (0 < l.length) := by unfold Hid; omega
 rw [← hll]
 clear hR hE hS hn hb hcel hl hll
 go_enter Tryz.func14, Tryz.ntmps14
 go_wp2_with fail
 go_loopw [5, 10] (fun v5 v10 wr => ∃ k : Nat, k ≤ l.length ∧ v10 = .int .i64 (k : Int) ∧ Hid (Below w.heap.size w wr) ∧ Hid (OI w.heap.size wr b v5 (blksOf nm (l.take k)))) (fun _ v _ => l.length - (RowKit.intOf v).toNat)
 case atStart => exact ⟨0, Nat.zero_le _, rfl, Below.refl _ _, OI.nil _ _ _⟩
 case round =>
  obtain ⟨k, hk, rfl, HW, HO⟩ := hrel
  have hbl := HB.out
  have hnn := HN.out
  obtain ⟨oo, cc, rfl⟩ : ∃ oo cc, u5 = .slice oo (blksOf nm (l.take k)).length cc := by obtain ⟨o, cap, -, h, -⟩ := oi_row HO.out; exact ⟨o, cap, h⟩
  by_cases hlt : k < l.length
  · obtain ⟨X, hX⟩ : ∃ X, l[k]? = some X := ⟨_, List.getElem?_eq_getElem hlt⟩
    have BW := HW
    have tk : ∀ i, i < n → wr.heap[i]? = w.heap[i]? := fun i hi => BW.out.block i (by omega)
    have HXE : Hid (IP (fun k => k < n) wr X (.agg (row22 d k))) := (HE.out k X hX).keptP fun i hi => ⟨hi, tk i hi⟩
    obtain ⟨h22, hone, h0, h01⟩ := ip_form HXE.out
    have HRG : Hid (wr.rangeAt b (off + k * 22) (row22 d k).toList) := fun m u hm => by
     have hlt : m < 22 := by have := (List.getElem?_eq_some_iff.1 hm).1; simpa using this
     rw [World.cell?_of_block (w := w) (tk b hbl), HR.out k (by omega) m hlt]
     rw [Array.getElem?_toList, row22_at d k m hlt] at hm
     exact hm
    obtain ⟨cx, hcx⟩ : ∃ q, row22 d k = q := ⟨_, rfl⟩
    rw [hcx] at HRG HXE h22 hone h0 h01
    have HBT := qh (blks_take (nm := nm) hX)
    have HSX := qh (HS.out X (List.mem_of_getElem? hX))
    have H22 := qh h22
    have H1 := qh hone
    have H0 := qh h0
    have H01 := qh h01
    have k0 : ¬ (k : Int) < 0 := by omega
    have k1 : (k : Int) < (l.length : Int) := by omega
    have k2 : IntKind.i64.wrap ((k : Int) + 1) = ((k + 1 : Nat) : Int) := by rw [IntWalk.i64_in _ (by omega)]; rfl
    have lb : b < wr.heap.size := by have := BW.out.size; omega
    have HLB := qh lb
    have N1 := qh (heap_alloc_new wr (.cells z22 40))
    have HW3 := qh ((Below.refl wr.heap.size wr).alloc (Nat.le_refl _) (.cells z22 40))
    have HLM : Hid ((blksOf nm (l.take k)).length ≤ 60000) := Nat.le_trans (blks_len _ _) (Nat.le_trans (List.length_take_le _ _) (by have := HL.out; omega))
    clear hX hcx h22 hone h0 h01 tk
    obtain ⟨M, hM⟩ : ∃ q, blksOf nm (l.take k) = q := ⟨_, rfl⟩
    rw [hM] at HO HBT HLM ⊢
    clear hM
    obtain ⟨xb, hxb⟩ : ∃ q, X.b = q := ⟨_, rfl⟩
    rw [hxb] at H0
    cases xb with
    | false =>
      have HBT2 : Hid (blksOf nm (l.take (k + 1)) = M) := by unfold Hid; rw [HBT.out, if_neg (fun h => by rw [h.1] at hxb; cases hxb), List.append_nil]
      clear hxb HBT
      go_wp2_with (first
       | refine wpList_load_mid rfl 40 (.tmp 12) rfl b (off + k * 22) rfl cx.toList _ HRG.out Tryz.underlying40 rfl (by rw [Array.length_toList]; exact size40z H22.out) ?_
       | (refine wpList_store_row rfl 40 (.tmp 7) (.tmp 13) rfl wr.heap.size cx rfl rfl 40 _ N1.out (size40z H22.out) (by rw [H22.out]; rfl) H1.out ?_
          have r22 := qh (setRow_heap _ _ _ cx _ _ N1.out)
          have c0 := (cell_of_row _ _ 0 _ _ _ r22.out).trans H0.out
          have c1 := (cell_of_row _ _ 1 _ _ _ r22.out).trans H01.out
          have HW4 := qh (Below.row HW3.out (Nat.le_refl _) cx)
          have h4 : wr.heap.size < (World.setRow (wr.alloc (.cells z22 40)) wr.heap.size cx).heap.size := by rw [size_setRow]; simp
          clear N1 HW3
          generalize World.setRow _ wr.heap.size cx = w4 at *))
      refine ⟨⟨k + 1, hlt, rfl, HW.out.trans (HW4.out.mono HW.out.size), ?_⟩, ?_⟩
      · rw [HBT2.out]; exact HO.out.fr (Fm.of HW4.out)
      · simp only [RowKit.intOf]; omega
    | true =>
      by_cases hnm : tx X.nm = nm
      case neg =>
       have HBT2 : Hid (blksOf nm (l.take (k + 1)) = M) := by unfold Hid; rw [HBT.out, if_neg (fun h => hnm h.2), List.append_nil]
       obtain ⟨g1, g2⟩ := str_ne hnm
       clear hxb hnm HBT
       go_wp2_with (first
       | refine wpList_load_mid rfl 40 (.tmp 12) rfl b (off + k * 22) rfl cx.toList _ HRG.out Tryz.underlying40 rfl (by rw [Array.length_toList]; exact size40z H22.out) ?_
       | (refine wpList_store_row rfl 40 (.tmp 7) (.tmp 13) rfl wr.heap.size cx rfl rfl 40 _ N1.out (size40z H22.out) (by rw [H22.out]; rfl) H1.out ?_
          have r22 := qh (setRow_heap _ _ _ cx _ _ N1.out)
          have c0 := (cell_of_row _ _ 0 _ _ _ r22.out).trans H0.out
          have c1 := (cell_of_row _ _ 1 _ _ _ r22.out).trans H01.out
          have HW4 := qh (Below.row HW3.out (Nat.le_refl _) cx)
          have h4 : wr.heap.size < (World.setRow (wr.alloc (.cells z22 40)) wr.heap.size cx).heap.size := by rw [size_setRow]; simp
          clear N1 HW3
          generalize World.setRow _ wr.heap.size cx = w4 at *))
       refine ⟨⟨k + 1, hlt, rfl, HW.out.trans (HW4.out.mono HW.out.size), ?_⟩, ?_⟩
       · rw [HBT2.out]; exact HO.out.fr (Fm.of HW4.out)
       · simp only [RowKit.intOf]; omega
      have HBT2 : Hid (blksOf nm (l.take (k + 1)) = M ++ [X]) := by unfold Hid; rw [HBT.out, if_pos ⟨hxb, hnm⟩]
      obtain ⟨g1, g2⟩ := str_eq hnm
      clear hxb hnm HBT
      go_wp2_with (first
       | refine wpList_load_mid rfl 40 (.tmp 12) rfl b (off + k * 22) rfl cx.toList _ HRG.out Tryz.underlying40 rfl (by rw [Array.length_toList]; exact size40z H22.out) ?_
       | (refine wpList_store_row rfl 40 (.tmp 7) (.tmp 13) rfl wr.heap.size cx rfl rfl 40 _ N1.out (size40z H22.out) (by rw [H22.out]; rfl) H1.out ?_
          have r22 := qh (setRow_heap _ _ _ cx _ _ N1.out)
          have c0 := (cell_of_row _ _ 0 _ _ _ r22.out).trans H0.out
          have c1 := (cell_of_row _ _ 1 _ _ _ r22.out).trans H01.out
          have HW4 := qh (Below.row HW3.out (Nat.le_refl _) cx)
          have h4 : wr.heap.size < (World.setRow (wr.alloc (.cells z22 40)) wr.heap.size cx).heap.size := by rw [size_setRow]; simp
          clear N1 HW3
          generalize World.setRow _ wr.heap.size cx = w4 at *)
       | refine wpList_load_row rfl 40 (.tmp 7) rfl wr.heap.size rfl 40 cx _ _ r22.out Tryz.underlying40 rfl (size40z H22.out) ?_)
      refine (copyI_any X HSX.out n _ _ (HXE.out.keptP fun i hi => ⟨hi, HW4.out.block i (by have := BW.out.size; omega)⟩) (by have := BW.out.size; have := HW4.out.size; omega)).mono ?_
      rintro e w5 ⟨part, rfl, hp, hp1, hX5, b5⟩
      have hws := HW.out.size
      have h4s := HW4.out.size
      have HB5 := qh ((BW.out.trans (HW4.out.mono BW.out.size)).trans (b5.mono (by omega)))
      have HO5 := qh ((HO.out.fr (Fm.of HW4.out)).fr (Fm.of b5))
      have HOL : Hid (∀ g, (Value.slice oo M.length cc).ownBlock = some g → g < wr.heap.size ∧ w.heap.size ≤ g) := HO.out.own_lt
      have HX5 : Hid (IP (Nu w4.heap.size w5 b) w5 X (.agg part)) := hX5.mono fun i hi => ⟨hi.1, hi.2, by have := hi.1; have := HLB.out; omega⟩
      have HPS := qh hp
      have HS5 : Hid (w.heap.size ≤ w4.heap.size ∧ w4.heap.size ≤ w5.heap.size ∧ wr.heap.size ≤ w4.heap.size) := by have := b5.size; exact ⟨by omega, by omega, by omega⟩
      clear hX5 hp hp1 b5 c0 c1 h4 r22 HO
      go_wp2_with (first
       | refine build_it rfl (.tmp 24) rfl part rfl HPS.out ?_
       | (at_builtin; go_must (refine app_oi rfl (.tmp 22) (.tmp 25) rfl (n := w.heap.size) (R := b) (l := M) (X := X) (m := w4.heap.size) rfl rfl HO5.out HX5.out (fun g hg => Nat.lt_of_lt_of_le (HOL.out g hg).1 HS5.out.2.2) HS5.out.1 (Nat.le_trans HS5.out.1 HS5.out.2.1) (by have := HLB.out; have := HS5.out; omega) (by have := HLM.out; omega) (fun v6 w6 ho6 hg6 => ?_))
          have HO6 := qh ho6
          have HB6 := qh (HB5.out.trans (grow_below hg6 (Nat.le_trans HS5.out.1 HS5.out.2.1) (fun g hg => (HOL.out g hg).2)))
          clear ho6 hg6))
      refine ⟨⟨k + 1, hlt, rfl, HB6.out, by rw [HBT2.out]; exact HO6⟩, ?_⟩
      simp only [RowKit.intOf]; omega
  · obtain rfl : k = l.length := by omega
    have k1 : ¬ (l.length : Int) < (l.length : Int) := by omega
    rw [List.take_length] at HO ⊢
    go_wp2_with fail
    go_ret
    obtain ⟨o, cap, d, ev, hr, hx⟩ := oi_row HO.out
    exact ⟨HW.out, _, rfl, ev ▸ ⟨o, cap, d, rfl, hr.keptP fun i hi => ⟨⟨hi.1, hi.2.1⟩, rfl⟩, fun j x hxj => (hx j x hxj).mono fun i hi => ⟨hi.1, hi.2.1⟩⟩⟩
end Go.Proofs.YtncjncacfagldaaGreatDoor

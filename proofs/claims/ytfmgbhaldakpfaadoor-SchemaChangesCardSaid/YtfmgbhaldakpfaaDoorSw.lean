/- The examples' values; size. -/
import Derived.Test.YtfmgbhaldakpfaaDoorNc
import Derived.Test.YtfmgbhaldakpfaaDoorU
namespace Go.Proofs.YtfmgbhaldakpfaaDoor
open Go.RowKit

def bSize : ByteArray := ⟨#[115, 105, 122, 101]⟩
def bKind : ByteArray := ⟨#[107, 105, 110, 100]⟩
def V5 : Val := .mk 5 0 ⟨#[]⟩ [flat 2 5 ⟨#[]⟩ 0 0] [bSize] 0 0 false
def V0 : Val := .mk 5 0 ⟨#[]⟩ [] [] 0 0 false
def Y5 : Val := .mk 5 0 ⟨#[]⟩ [nul, nul, nul, nul, flat 2 5 ⟨#[]⟩ 0 0] [⟨#[105, 100]⟩, bKind, ⟨#[108, 97, 98, 101, 108]⟩, ⟨#[115, 101, 114, 105, 97, 108]⟩, bSize] 0 0 false
theorem len_disk : (attrs bDisk).length = 5 := by kernel_rfl
theorem cmpl5 : cmpl (attrs bDisk) V5 = Y5 := by kernel_rfl
theorem own_disk : ∀ a, a ∈ attrs bDisk → a.ow = false := by
  have h : (attrs bDisk).all (fun a => !a.ow) = true := by kernel_rfl
  rw [List.all_eq_true] at h
  intro a ha
  simpa using h a ha
theorem fits_size : fits (flat 2 5 ⟨#[]⟩ 0 0) 2 0 = true := by rw [fits_eq]; simp [flat, Val.k]
theorem find_size : find bDisk bSize = some ⟨bSize, 2, 0, true, false, false, false⟩ := by kernel_rfl
theorem kf5 : KeysFit bDisk V5 := by
  intro j X hj hX
  have hj : j < 1 := hj
  obtain rfl : j = 0 := by omega
  have hX : some (flat 2 5 ⟨#[]⟩ 0 0) = some X := hX
  injection hX with hX
  subst hX
  exact ⟨_, find_size, rfl, fits_size⟩
theorem kf0 : KeysFit bDisk V0 := fun j X hj _ => absurd hj (Nat.not_lt_zero _)
theorem l5_0 : lacksB (aa (attrs bDisk) 0) (elt V5 (aa (attrs bDisk) 0).nm) = false := by kernel_rfl
theorem l5_1 : lacksB (aa (attrs bDisk) 1) (elt V5 (aa (attrs bDisk) 1).nm) = false := by kernel_rfl
theorem l5_2 : lacksB (aa (attrs bDisk) 2) (elt V5 (aa (attrs bDisk) 2).nm) = false := by kernel_rfl
theorem l5_3 : lacksB (aa (attrs bDisk) 3) (elt V5 (aa (attrs bDisk) 3).nm) = false := by kernel_rfl
theorem l5_4 : lacksB (aa (attrs bDisk) 4) (elt V5 (aa (attrs bDisk) 4).nm) = false := by kernel_rfl
theorem l0_0 : lacksB (aa (attrs bDisk) 0) (elt V0 (aa (attrs bDisk) 0).nm) = false := by kernel_rfl
theorem l0_1 : lacksB (aa (attrs bDisk) 1) (elt V0 (aa (attrs bDisk) 1).nm) = false := by kernel_rfl
theorem l0_2 : lacksB (aa (attrs bDisk) 2) (elt V0 (aa (attrs bDisk) 2).nm) = false := by kernel_rfl
theorem l0_3 : lacksB (aa (attrs bDisk) 3) (elt V0 (aa (attrs bDisk) 3).nm) = false := by kernel_rfl
theorem l0_4 : lacksB (aa (attrs bDisk) 4) (elt V0 (aa (attrs bDisk) 4).nm) = true := by kernel_rfl
theorem nm_4 : (aa (attrs bDisk) 4).nm = ⟨#[115, 105, 122, 101]⟩ := by kernel_rfl
theorem no5 : ∀ j, j < (attrs bDisk).length → lacksB (aa (attrs bDisk) j) (elt V5 (aa (attrs bDisk) j).nm) = false := by
  rw [len_disk]
  exact fun
    | 0, _ => l5_0
    | 1, _ => l5_1
    | 2, _ => l5_2
    | 3, _ => l5_3
    | 4, _ => l5_4
    | j + 5, h => absurd h (by omega)
theorem no0 : ∀ j, j < (attrs bDisk).length → j < 4 → lacksB (aa (attrs bDisk) j) (elt V0 (aa (attrs bDisk) j).nm) = false := fun
    | 0, _, _ => l0_0
    | 1, _, _ => l0_1
    | 2, _, _ => l0_2
    | 3, _, _ => l0_3
    | j + 4, _, h => absurd h (by omega)
theorem szV5 : sz V5 = 3 := by simp [V5, sz, szL, flat]
theorem szV0 : sz V0 = 1 := by simp [V0, sz, szL]
theorem szY5 : sz Y5 = 11 := by simp [Y5, sz, szL, flat, nul]
theorem ok_flat5 : ok1 (flat 2 5 ⟨#[]⟩ 0 0) = true := by kernel_rfl
theorem ok_nul : ok1 nul = true := by kernel_rfl
theorem ok_V5 : ok1 V5 = true := by kernel_rfl
theorem ok_V0 : ok1 V0 = true := by kernel_rfl
theorem ok_Y5 : ok1 Y5 = true := by kernel_rfl
theorem chkV5 : chk V5 = true := by
  unfold chk
  rw [decide_eq_true (by have := weight_sz V5; rw [szV5] at this; omega)]
  show (ok1 V5 && V5.l.all (okT 7)) = true
  rw [ok_V5]
  show (true && (okT 7 (flat 2 5 ⟨#[]⟩ 0 0) && true)) = true
  rw [okT, ok_flat5]; rfl
theorem okT_nul : okT 7 nul = true := by rw [okT, ok_nul]; rfl
theorem okT_5 : okT 7 (flat 2 5 ⟨#[]⟩ 0 0) = true := by rw [okT, ok_flat5]; rfl
theorem chkV0 : chk V0 = true := by
  unfold chk
  rw [decide_eq_true (by have := weight_sz V0; rw [szV0] at this; omega)]
  show (ok1 V0 && V0.l.all (okT 7)) = true
  rw [ok_V0]; rfl
theorem chkY5 : chk Y5 = true := by
  unfold chk
  rw [decide_eq_true (by have := weight_sz Y5; rw [szY5] at this; omega)]
  show (ok1 Y5 && [nul, nul, nul, nul, flat 2 5 ⟨#[]⟩ 0 0].all (okT 7)) = true
  rw [ok_Y5, List.all_cons, List.all_cons, List.all_cons, List.all_cons, List.all_cons, okT_nul, okT_5]; rfl
theorem eltY5 : elt Y5 bKind = nul := by kernel_rfl
theorem map5 : isMapB V5 = true := by unfold isMapB; rw [chkV5]; rfl
theorem map0 : isMapB V0 = true := by unfold isMapB; rw [chkV0]; rfl
abbrev f5 : Array Value := #[.int .i64 2, .int .i64 5, .string ⟨#[]⟩, .slice none 0 0, .slice none 0 0, .int .i64 0, .int .i64 0, .bool false]
theorem v5_opn (P : Nat → Prop) (w : World) (gL gK : Nat) (hL : w.heap[gL]? = some (.cells f5 42 (0, 0))) (hK : w.heap[gK]? = some (.cells #[.string bSize] 9 (0, 0))) (pL : P gL) (pK : P gK) :
    OpnP P w V5 (some ⟨gL, 0, none⟩) (some ⟨gK, 0, none⟩) 1 1 fun _ m => f5.getD m undef := by
  refine ⟨(show (Lit.int .i64 (5 : Int)).wf = true by decide), (show (Lit.int .i64 (0 : Int)).wf = true by decide), (show (Lit.int .i64 (0 : Int)).wf = true by decide), (show (Lit.int .i64 (0 : Int)).wf = true by decide), Nat.zero_le _, fun s hs => ?_, ?_, ?_, fun q x hx => ?_⟩
  · have hs : s ∈ [bSize] := hs
    rw [List.mem_singleton] at hs
    subst hs
    show 4 ≤ maxLen
    unfold maxLen; omega
  · refine ⟨Nat.le_refl _, by unfold maxLen; show 1 ≤ _; omega, fun e => (by cases e), fun _ => ⟨gL, 0, rfl, pL, fun j hj m hm => ?_⟩⟩
    have hj : j < 1 := hj
    obtain rfl : j = 0 := by omega
    rw [cell_of_row w gL _ _ _ _ hL]
    match m, hm with
    | 0, _ => rfl
    | 1, _ => rfl
    | 2, _ => rfl
    | 3, _ => rfl
    | 4, _ => rfl
    | 5, _ => rfl
    | 6, _ => rfl
    | 7, _ => rfl
  · refine ⟨Nat.le_refl _, by unfold maxLen; show 1 ≤ _; omega, fun e => (by cases e), fun _ => ⟨gK, 0, rfl, pK, fun j hj m hm => ?_⟩⟩
    have hj : j < 1 := hj
    obtain rfl : j = 0 := by omega
    obtain rfl : m = 0 := by omega
    rw [cell_of_row w gK _ _ _ _ hK]
    rfl
  · have hx : [flat 2 5 ⟨#[]⟩ 0 0][q]? = some x := hx
    have hq : q = 0 := by
      have := (List.getElem?_eq_some_iff.1 hx).1
      simp at this; exact this
    subst hq
    have hx : some (flat 2 5 ⟨#[]⟩ 0 0) = some x := hx
    injection hx with hx
    subst hx
    exact flat_lies P w (by decide) (by decide) (by decide) (by decide) (Nat.zero_le _)
/-- size(5) -/
theorem size_any (w : World) : Calls Tryd.prog 27 #[.int .i64 5] w (VPost V5 w) := by
  go_enter Tryd.func27, Tryd.ntmps27
  go_wp2_with fail
  exact bodyPost_ret (v := vv 5 0 ⟨#[]⟩ (.slice (some ⟨w.heap.size + 1 + 1, 0, none⟩) 1 1) (.slice (some ⟨w.heap.size + 1, 0, none⟩) 1 1) 0 0 false) (by simp [results, Tryd.results27, go_sem]) rfl
    ⟨_, _, _, _, fun _ m => f5.getD m undef, rfl, v5_opn _ _ _ _ (at_top _ _ _ (by simp)) (((Below.refl (w.heap.size + 1 + 1) ((w.alloc _).alloc _)).alloc (by simp) _).block _ (Nat.lt_succ_self _) |>.trans (at_top _ _ _ (by simp))) (And.intro (by omega) (by simp)) (And.intro (by omega) (by simp)), bal (bal (bal (Below.refl _ _) _) _) _⟩
theorem v0_lies (P : Nat → Prop) (w : World) : LiesP P w V0 (vv 5 0 ⟨#[]⟩ (.slice none 0 0) (.slice none 0 0) 0 0 false) := flat_lies P w (by decide) (by decide) (by decide) (by decide) (Nat.zero_le _)
set_option maxHeartbeats 4000000 in
set_option maxRecDepth 100000 in
theorem awake_any (w : World) (hT : Tab w) : Calls Tryd.prog 6 #[] w fun e w' => e = .returned (.bool true) ∧ Below w.heap.size w w' := by
  have HT := Lib.hid hT
  have CS := Lib.hid (size_any w)
  have C5 : Hid (∀ (W : World) (v : Value), Tab W → Lies W.heap.size W V5 v → Calls Tryd.prog 26 #[.string bDisk, v] W (CompPost Y5 W)) := fun W v hW hv => by
    have := complete_ok (n := W.heap.size) bDisk (by intro e; have := len_disk; rw [e] at this; cases this) map5 (by show 4 ≤ maxLen; unfold maxLen; omega) kf5 no5 own_disk (by rw [cmpl5]; exact chkY5) (by rw [cmpl5, szY5]; omega) (by rw [szV5]; omega) hv (Nat.le_refl _) hW
    rw [cmpl5] at this
    exact this
  have C0 : Hid (∀ (W : World), Tab W → Calls Tryd.prog 26 #[.string bDisk, vv 5 0 ⟨#[]⟩ (.slice none 0 0) (.slice none 0 0) 0 0 false] W fun e w' => e = .returned (.tuple #[zv, .string ⟨#[115, 105, 122, 101]⟩, .int .i64 15]) ∧ Below W.heap.size W w') := fun W hW => by
    have := complete_no (n := W.heap.size) bDisk (by intro e; have := len_disk; rw [e] at this; cases this) map0 (by show 4 ≤ maxLen; unfold maxLen; omega) kf0 4 (by rw [len_disk]; omega) no0 l0_4 (by rw [szV0]; omega) (v0_lies _ W) (Nat.le_refl _) hW
    rw [nm_4] at this
    exact this
  have CE : Hid (∀ (n : Nat) (W : World) (v : Value), n ≤ W.heap.size → Lies n W Y5 v → Calls Tryd.prog 28 #[v, .string bKind] W (FrPost n nul W)) := fun n W v hn hv => by
    have := relem_any bKind (chk_kl chkY5) hv hn
    rw [eltY5] at this
    exact this
  have CR : Hid (∀ (n : Nat) (W : World) (a b : Value), n ≤ W.heap.size → Lies n W nul a → Lies n W nul b → Calls Tryd.prog 24 #[a, b, .bool true] W fun e w' => e = .returned (.bool true) ∧ Below W.heap.size W w') := fun n W a b hn ha hb => rsame_any 100 (by omega) n nul a b W (by simp [nul, flat, sz, szL]) ha hb hn
  clear hT
  go_enter Tryd.func6, Tryd.ntmps6
  go_wp2_with fail
  refine CS.out.mono ?_
  rintro e w1 ⟨o1, o3, c1, c3, cc, rfl, O1, hb1⟩
  have B1 := Lib.hid hb1
  have L1 := Lib.hid (O1.mono (P' := fun b => b < w1.heap.size) fun b hb => hb.2).lies
  clear O1 hb1
  go_wp2_with fail
  refine (C5.out w1 _ (HT.out.below B1.out HT.out.lt) L1.out).mono ?_
  rintro e w2 ⟨o1', o3', c1', c3', cc', rfl, O2, hb2⟩
  have B2 := Lib.hid (B1.out.trans (hb2.mono B1.out.size))
  have L2 := Lib.hid (O2.mono (P' := fun b => b < w2.heap.size) fun b hb => hb.2)
  clear O2 hb2
  go_upto_region 2 with (fail)
  have HXY := Lib.hid (Hd.made w2 Y5 (.slice o1' Y5.l.length c1') (.slice o3' Y5.ks.length c3'))
  have B3 : Hid (Below w.heap.size w (w2.alloc (bx Y5 o1' o3' c1' c3'))) := bal B2.out _
  have L3 := Lib.hid (L2.out.kept (Below.refl _ _ |> fun h => bal (w := w2) h (bx Y5 o1' o3' c1' c3')))
  have HS3 : Hid ((w2.alloc (bx Y5 o1' o3' c1' c3')).heap.size = w2.heap.size + 1) := by simp [Hid]
  have g5 : ((Y5.ks.length : Int) == 5) = true := by kernel_rfl
  have hw2 : w2.heap.size < (w2.alloc (bx Y5 o1' o3' c1' c3')).heap.size := by rw [HS3.out]; exact Nat.lt_succ_self _
  have TB3 := Lib.hid (HT.out.below B3.out HT.out.lt)
  generalize Y5 = Y at *
  generalize w2.alloc _ = w3 at *
  go_wp2_with fail
  refine (C0.out w3 TB3.out).mono ?_
  rintro e w4 ⟨rfl, hb4⟩
  have B4 := Lib.hid (B3.out.trans (hb4.mono B3.out.size))
  have b34 := Lib.hid hb4
  obtain ⟨x8, x0, x1, x2, x3, x4, x5, x6, x7⟩ := HXY.out.kept hb4 hw2
  clear hb4
  go_upto_region 3 with (fail)
  have BA : Hid (Below w.heap.size w (w4.alloc (.cells zc 42))) := bal B4.out _
  have b35 : Hid (Below w3.heap.size w3 (w4.alloc (.cells zc 42))) := bal b34.out _
  clear x8 x0 x1 x2 x3 x4 x5 x6 x7
  generalize w4.alloc _ = w5 at *
  obtain ⟨x8, x0, x1, x2, x3, x4, x5, x6, x7⟩ := HXY.out.kept b35.out hw2
  have L5 := Lib.hid (L3.out.kept (b35.out.mono (by omega)))
  have hz5 := b35.out.size
  go_wp2_with fail
  refine (CE.out w2.heap.size w5 _ (by omega) L5.out.lies).mono ?_
  rintro e w6 ⟨p1, p3, d1, d3, dd, rfl, O6, hb6⟩
  have B6 := Lib.hid (BA.out.trans (hb6.mono BA.out.size))
  have L6 := Lib.hid O6.lies
  have hz6 := hb6.size
  clear O6 hb6
  go_wp2_with fail
  refine (CR.out w2.heap.size w6 _ _ (by omega) L6.out (flat_lies _ w6 (by decide) (by decide) (by decide) (by decide) (Nat.zero_le _))).mono ?_
  rintro e w7 ⟨rfl, hb7⟩
  have B7 := Lib.hid (B6.out.trans (hb7.mono B6.out.size))
  clear hb7
  go_wp2_with fail
  go_ret
  exact ⟨rfl, B7.out⟩
end Go.Proofs.YtfmgbhaldakpfaaDoor

/- The law of a Writer: its walk. -/
import Derived.Test.YtbdahkbgjbaenaaDoorLn
import Derived.Test.YtbdahkbgjbaenaaDoorEq
import Derived.Test.YtbdahkbgjbaenaaDoorTy
import Derived.Laws.AppendOwnNone
import Derived.Deep.DeepCutAuto
namespace Go.Proofs.YtbdahkbgjbaenaaDoor
open Go.RowKit

/-- bytes of the call's own -/
def Ow (W : World) (B : Nat) (v : Value) (L : List Int) : Prop := W.ownsRow B 5 1 v L.length (L.map (Value.int .u8))
theorem Ow.form {W : World} {B : Nat} {v : Value} {L : List Int} (h : Ow W B v L) : ∃ sp cap, v = .slice sp L.length cap ∧ L.length ≤ cap ∧ cap ≤ maxLen ∧ (sp = none → L = [] ∧ cap = 0) ∧ (∀ a, sp = some a → a.spot = none ∧ B ≤ a.block ∧ a.block < W.heap.size ∧ a.off = 0) ∧
    (∀ g, sp = some ⟨g, 0, none⟩ → ∃ cur, W.heap[g]? = some (.cells cur 5 (0, 0)) ∧ ∀ j, j < L.length → cur[j]? = some (.int .u8 (L.getD j 0))) := by
  obtain ⟨h1, ⟨rfl, h2⟩ | ⟨g, cap, cur, e, h3, h4, h5, h6, h7, h8⟩⟩ := h
  · have : L = [] := List.length_eq_zero_iff.1 h2
    subst this
    exact ⟨none, 0, rfl, Nat.le_refl _, by unfold maxLen; omega, fun _ => ⟨rfl, rfl⟩, (fun a h => by cases h), (fun g h => by cases h)⟩
  · refine ⟨some ⟨g, 0, none⟩, cap, e, h5, h6, (fun h => by cases h), (fun a h => ?_), (fun g' h => ?_)⟩
    · injection h with h; subst h
      exact ⟨rfl, h3, (Array.getElem?_eq_some_iff.1 h4).1, rfl⟩
    · injection h with h; injection h with h; subst h
      refine ⟨cur, h4, fun j hj => ?_⟩
      have : (cur.toList.take (L.length * 1))[j]? = (L.map (Value.int .u8))[j]? := by rw [h8]
      rw [List.getElem?_take, if_pos (by omega), List.getElem?_map] at this
      rw [← Array.getElem?_toList, this]
      simp [List.getD, hj]
theorem Ow.keep {W W' : World} {B n : Nat} {v : Value} {L : List Int} (h : Ow W B v L) (hk : Kp n W W') (hn : n < B) : Ow W' B v L := by
  obtain ⟨h1, h2 | ⟨g, cap, cur, e, h3, h4, h5⟩⟩ := h
  · exact ⟨h1, .inl h2⟩
  · exact ⟨h1, .inr ⟨g, cap, cur, e, h3, (hk.block g (Array.getElem?_eq_some_iff.1 h4).1 (by omega)).trans h4, h5⟩⟩
theorem Ow.below {W W' : World} {B : Nat} {v : Value} {L : List Int} (h : Ow W B v L) (hb : Below W.heap.size W W') : Ow W' B v L := by
  obtain ⟨h1, h2 | ⟨g, cap, cur, e, h3, h4, h5⟩⟩ := h
  · exact ⟨h1, .inl h2⟩
  · exact ⟨h1, .inr ⟨g, cap, cur, e, h3, (hb.block g (Array.getElem?_eq_some_iff.1 h4).1).trans h4, h5⟩⟩
theorem Ow.rd {W : World} {B cap : Nat} {sp : Option Addr} {L : List Int} (h : Ow W B (.slice sp L.length cap) L) : Rd W sp L := by
  obtain ⟨sp', cap', e, _, _, hn, hs, hc⟩ := h.form
  injection e with e1 e2 e3
  subst e1 e3
  intro i hi
  cases sp with
  | none => have := (hn rfl).1; subst this; simp at hi
  | some a =>
    obtain ⟨s1, s2, s3, s4⟩ := hs a rfl
    obtain ⟨b, o, s⟩ := a
    simp only at s1 s4
    subst s1 s4
    obtain ⟨cur, hh, hcur⟩ := hc b rfl
    exact ⟨b, 0, rfl, s3, by rw [Nat.zero_add, cell_of_row _ _ _ _ _ _ hh]; exact hcur i hi⟩
theorem Ow.sl {W : World} {B cap n : Nat} {sp : Option Addr} {L : List Int} (h : Ow W B (.slice sp L.length cap) L) (hn : n < B) : Sl W n sp L := by
  intro i hi
  obtain ⟨k, o, e, hk, c⟩ := h.rd i hi
  obtain ⟨sp', cap', e', _, _, _, hs, _⟩ := h.form
  injection e' with e1 e2 e3
  subst e1 e3
  have := (hs _ e).2.1
  exact ⟨k, o, e, by simp only at this; omega, hk, c⟩
/-- bytes that are turned, from place k on as they were -/
def Inn (W : World) (sp : Option Addr) (B : Nat) (L : List Int) (k : Nat) : Prop := L.length = 0 ∨ ∃ g cur, sp = some ⟨g, 0, none⟩ ∧ B ≤ g ∧ W.heap[g]? = some (.cells cur 5 (0, 0)) ∧ ∀ j, k ≤ j → j < L.length → cur[j]? = some (.int .u8 (L.getD j 0))
theorem Ow.inn {W : World} {B cap : Nat} {sp : Option Addr} {L : List Int} (h : Ow W B (.slice sp L.length cap) L) : Inn W sp B L 0 := by
  obtain ⟨sp', cap', e, _, _, hn, hs, hc⟩ := h.form
  injection e with e1 e2 e3
  subst e1 e3
  cases sp with
  | none => have := (hn rfl).1; subst this; exact .inl rfl
  | some a =>
    obtain ⟨s1, s2, s3, s4⟩ := hs a rfl
    obtain ⟨b, o, s⟩ := a
    simp only at s1 s4
    subst s1 s4
    obtain ⟨cur, hh, hcur⟩ := hc b rfl
    exact .inr ⟨b, cur, rfl, s2, hh, fun j _ hj => hcur j hj⟩
theorem cat_isB (M : Nat → List Int) (h : ∀ i, isB (M i)) : ∀ k, isB (catN M k)
  | 0 => fun i => by simp [catN]
  | k + 1 => by
    intro i
    rw [catN, List.getD_eq_getElem?_getD, List.getElem?_append]
    split
    · have := cat_isB M h k i; rw [List.getD_eq_getElem?_getD] at this; exact this
    · have := h k (i - (catN M k).length); rw [List.getD_eq_getElem?_getD] at this; exact this
theorem new_any (w : World) : Calls Tryd.prog 13 #[] w fun e w' => e = .returned (.pointer (some ⟨w.heap.size, 0, none⟩)) ∧ w' = w.alloc (.cells (WC (fun _ => 0) (fun _ => 0) 0) 58) := by
  have z58 := zero58
  go_enter Tryd.func13, Tryd.ntmps13
  go_wp2
  go_ret
  exact ⟨rfl, rfl⟩
theorem inn_step {W : World} {g B : Nat} {L : List Int} {cur : Array Value} {k : Nat} (hg : B ≤ g) (hh : W.heap[g]? = some (.cells cur 5 (0, 0))) (hc : ∀ j, k ≤ j → j < L.length → cur[j]? = some (.int .u8 (L.getD j 0))) (V : Value) : Inn (W.setCell ⟨g, k, none⟩ V) (some ⟨g, 0, none⟩) B L (k + 1) := by
  refine .inr ⟨g, cur.setIfInBounds k V, rfl, hg, heap_setCell_same _ _ _ _ _ _ hh, fun j h1 h2 => ?_⟩
  rw [Array.getElem?_setIfInBounds_ne (by omega)]
  exact hc j (by omega) h2
theorem kp_then {n B : Nat} {a b c : World} (h : Kp n a b) (hB : B = a.heap.size) (k : Below B b c) : Kp n a c := by
  subst hB
  exact ⟨k.os.trans h.os, k.tape.trans h.tape, k.output.trans h.output, Nat.le_trans h.size k.size, fun i hi hn => (k.block i hi).trans (h.block i hi hn)⟩
/-- what is held at the head of a round -/
structure Wk (w W : World) (v : Value) (L : List Int) : Prop where
  own : Ow W (w.heap.size + 1) v L
  wr : Wr W w.heap.size L
  bel : Below w.heap.size w W
  lt : w.heap.size + 1 ≤ W.heap.size
theorem Wk.below {w W W' : World} {v : Value} {L : List Int} (h : Wk w W v L) (b : Below W.heap.size W W') : Wk w W' v L :=
  ⟨h.own.below b, by obtain ⟨H, p, f, q⟩ := h.wr; exact ⟨H, p, f.same (b.block _ f.lt), q⟩, h.bel.trans (b.mono h.bel.size), Nat.le_trans h.lt b.size⟩
theorem cell_src {w W : World} {sp : Option Addr} {ad : Addr} {M : List Int} (h : Rd w sp M) (hb : Below w.heap.size w W) (hs : sp = some ad) : ∀ j u, (M.map (Value.int .u8))[j]? = some u → W.cell? (ad.add j) = some u := by
  intro j u hu
  rw [List.getElem?_map] at hu
  cases hq : M[j]? with
  | none => rw [hq] at hu; cases hu
  | some x =>
    have hj := (List.getElem?_eq_some_iff.1 hq).1
    obtain ⟨k, o, e, hk, c⟩ := h j hj
    rw [hs] at e
    injection e with e; subst e
    have : (⟨k, o, none⟩ : Addr).add j = ⟨k, o + j, none⟩ := by unfold Addr.add; split <;> simp_all
    rw [this, hb.cell (p := ⟨k, o + j, none⟩) hk, c]
    rw [hq] at hu
    simp [List.getD, hq] at hu ⊢
    exact hu
set_option maxRecDepth 100000 in
set_option maxHeartbeats 8000000 in
theorem writes_walk (pp : Option Addr) (m cap : Nat) (S : Nat → Option Addr) (M : Nat → List Int) (C : Nat → Nat) (w : World) (h : Pt w pp m S M C) (hM : ∀ i, isB (M i)) (hS : ∀ i, i < m → S i = none → M i = [] ∧ C i = 0) (_hm : m ≤ maxLen) (hT : Tab w) :
    Calls Tryd.prog 4 #[.slice pp m cap] w fun e w' => e = .returned (.bool true) ∧ Below w.heap.size w w' := by
  obtain ⟨i0, hi, hz0, hz1, hz2⟩ := info_parts info5
  have W0 : Hid (Wk w (w.alloc (.cells (WC (fun _ => 0) (fun _ => 0) 0) 58)) (.slice none 0 0) []) :=
    ⟨World.ownsRow_nil _ _ _ _, wr_nil _ _ (heap_alloc_new w _), (Below.refl _ _).alloc (Nat.le_refl _) _, by simp⟩
  have HP := Lib.hid h
  have HT := Lib.hid hT
  have HM := Lib.hid hM
  have HS := Lib.hid hS
  unfold maxLen at _hm
  clear h hT hM hS
  go_enter Tryd.func4, Tryd.ntmps4
  go_wp2_with fail
  refine (new_any _).mono ?_
  rintro e w1 ⟨rfl, rfl⟩
  generalize w.alloc (.cells (WC (fun _ => 0) (fun _ => 0) 0) 58) = W1 at *
  go_wp2_with fail
  go_loopw [4, 5] (fun v i wr => ∃ k : Nat, k ≤ m ∧ k ≤ 10 ∧ i = .int .i64 k ∧ Hid (Wk w wr v (catN M k)) ∧ Hid ((catN M k).length ≤ 300)) (fun _ i _ => 10 - (intOf i).toNat)
  case atStart => exact ⟨0, Nat.zero_le _, by omega, rfl, W0.out, by unfold Hid; simp [catN]⟩
  case round =>
    clear W0
    obtain ⟨k, hk, hk10, rfl, HW, HL⟩ := hrel
    obtain ⟨L, hLL⟩ : ∃ L, catN M k = L := ⟨_, rfl⟩
    rw [hLL] at HW HL
    obtain ⟨sp, cp, rfl, hcp1, hcp2, hsp0, hsp1, _⟩ := HW.out.own.form
    have HN0 := Lib.hid (And.intro hsp0 hsp1)
    have HLL := Lib.hid hLL
    clear hsp0 hsp1 hLL
    unfold maxLen at hcp2
    have hL3 := HL.out
    have TT := Lib.hid (HT.out.below HW.out.bel HT.out.1)
    have LB := Lib.hid (show isB L by rw [← HLL.out]; exact cat_isB M HM.out k)
    by_cases hlt : k < m ∧ k < 10
    · obtain ⟨hlm, hl10⟩ := hlt
      obtain ⟨b, o, rfl, hb, c⟩ := HP.out.at_ k hlm
      have c1 : wr.cell? ⟨b, o + k, none⟩ = some (.slice (S k) (M k).length (C k)) := (HW.out.bel.cell (p := ⟨b, o + k, none⟩) hb).trans c
      have hbw : b < wr.heap.size := Nat.lt_of_lt_of_le hb HW.out.bel.size
      have hbt : b < w.heap.size := hb
      have HR := Lib.hid (HP.out.rd k hlm)
      have HC := Lib.hid (HP.out.cp k hlm)
      have HSk := Lib.hid (HS.out k hlm)
      have HMk := Lib.hid (HM.out k)
      have HCat : Hid (catN M (k + 1) = L ++ M k) := by unfold Hid; rw [catN, HLL.out]
      have d0 : (k : Int) < m := by omega
      have d1 : (k : Int) < 10 := by omega
      clear c hb
      generalize M k = N at *
      generalize S k = sN at *
      generalize C k = cN at *
      by_cases h300 : N.length ≤ 300 ∧ L.length + N.length ≤ 300
      · obtain ⟨hN, hLN⟩ := h300
        go_upto_region 8 with fail
        go_cut [6] (fun v wx => Hid (Ow wx wr.heap.size v N) ∧ Hid (Below wr.heap.size wr wx))
        case first =>
          cases sN with
          | none =>
            have hsl : Value.slice none N.length cN = .slice none 0 0 := by have := HSk.out rfl; rw [this.1, this.2]; rfl
            have HLE := Lib.hid hsl
            have HN : Hid (N = []) := (HSk.out rfl).1
            have hown : Hid ((wr.alloc (.cells #[] 5)).ownsRow wr.heap.size 5 1 (.slice (some ⟨wr.heap.size, 0, none⟩) 0 0) 0 []) := World.ownsRow_made wr #[] 0 (Nat.le_refl _) (by unfold maxLen; omega) rfl
            clear hsl
            go_wp2_with (at_builtin; go_must (refine wpList_append_own_none rfl (.tmp 37) (.tmp 41) 22 rfl wr.heap.size 5 i0 1 Tryd.underlying22 hi _ 0 [] rfl hown.out HLE.out ?_))
            go_meet
            refine ⟨?_, (Below.refl _ _).alloc (Nat.le_refl _) _⟩
            unfold Hid Ow
            rw [HN.out]
            exact hown.out
          | some ad =>
            have hown : Hid ((wr.alloc (.cells #[] 5)).ownsRow wr.heap.size 5 1 (.slice (some ⟨wr.heap.size, 0, none⟩) 0 0) 0 []) := World.ownsRow_made wr #[] 0 (Nat.le_refl _) (by unfold maxLen; omega) rfl
            have src := Lib.hid (cell_src (ad := ad) HR.out (HW.out.bel.alloc HW.out.bel.size (.cells #[] 5)) rfl)
            go_wp2_with (at_builtin; go_must (refine wpList_append_own _ rfl (.tmp 37) (.tmp 41) 22 rfl wr.heap.size 5 i0 (.int .u8 0) 1 1 Tryd.underlying22 hi hz0 hz1 hz2 rfl (by decide) _ 0 [] rfl hown.out ad N.length cN (N.map (Value.int .u8)) rfl (by simp) src.out (map_one N) (by unfold maxLen; omega) (by omega) (by simp) ?_))
            intro v2 w2 o2 g2 _
            have O2 : Hid (Ow w2 wr.heap.size v2 N) := by unfold Hid Ow; simpa using o2
            have B2 := Lib.hid (((Below.refl wr.heap.size wr).alloc (Nat.le_refl _) (.cells #[] 5)).grown g2 (by simp) (fun k hk => (hown.out.lt k hk).1))
            clear o2 g2
            go_wp2_with fail
            go_meet
            exact ⟨O2.out, B2.out⟩
        case rest =>
          obtain ⟨HO, HBw⟩ := hcut
          obtain ⟨si, ci, rfl, hi1, hi2, hi3, hi4, _⟩ := HO.out.form
          have WA := Lib.hid (write_any w.heap.size L N si ci wc (by obtain ⟨H, p, f, q⟩ := HW.out.wr; exact ⟨H, p, f.same (HBw.out.block _ (by have := HW.out.lt; omega)), q⟩) HMk.out (by omega) (TT.out.below HBw.out TT.out.1) (by have := HT.out.1; omega) (HO.out.sl (by have := HW.out.lt; omega)) hi1 hi2)
          have HI := Lib.hid (And.intro hi3 hi4)
          unfold maxLen at hi2
          clear hi3 hi4
          go_wp2_with fail
          refine WA.out.mono ?_
          rintro e w3 ⟨rfl, s3, k3⟩
          have S3 := Lib.hid s3.wr
          have K3 := Lib.hid k3
          clear s3 k3 WA
          have HI0 := Lib.hid ((HO.out.keep K3.out (by have := HW.out.lt; omega)).inn)
          have B30 : Hid (Below wr.heap.size w3 w3) := Below.refl _ _
          have szr : wr.heap.size ≤ w3.heap.size := Nat.le_trans HBw.out.size K3.out.size
          have hNl : (N.length : Int) ≤ 300 := by omega
          go_wp2_with fail
          obtain ⟨wo, rfl⟩ : ∃ wo : World, wo = wr := ⟨_, rfl⟩
          go_loopw [7] (fun i wx => ∃ j : Nat, j ≤ N.length ∧ i = .int .i64 j ∧ Hid (Inn wx si wo.heap.size N j) ∧ Hid (Below wo.heap.size w3 wx)) (fun i _ => N.length - (intOf i).toNat)
          case atStart => exact ⟨0, Nat.zero_le _, rfl, HI0.out, B30.out⟩
          case round =>
            clear HI0 B30
            obtain ⟨j, hj, rfl, HJ, B4⟩ := hrel
            by_cases hjl : j < N.length
            · rcases HJ.out with h0 | ⟨g, cur, rfl, hg, hh, hcu⟩
              · omega
              · have cj : (_ : World).cell? ⟨g, j, none⟩ = _ := (cell_of_row _ g j cur 5 (0, 0) hh).trans (hcu j (Nat.le_refl _) hjl)
                have fj := frozen_of_row _ g j cur 5 hh
                have by0 := HMk.out j
                have ST := Lib.hid (inn_step (k := j) hg hh hcu)
                have dj : (j : Int) < N.length := by omega
                obtain ⟨y0, y1⟩ := by0
                generalize N.getD j 0 = y at *
                clear hcu hh HJ
                go_wp2
                go_roundw
                case rel => exact ⟨j + 1, by omega, by go_num, ST.out _, Below.setCell B4.out hg _⟩
                case measure => simp [intOf]; omega
            · obtain rfl : j = N.length := by omega
              clear HJ hjl hj
              have KP : Hid (Kp w.heap.size wo wr) := kp_then ((Kp.of_below HBw.out).trans K3.out) rfl B4.out
              have OA := Lib.hid (HW.out.own.keep KP.out (by omega))
              have WR : Hid (Wr wr w.heap.size (L ++ N)) := by obtain ⟨H, p, f, q⟩ := S3.out; exact ⟨H, p, f.same (B4.out.block _ (by have := HW.out.lt; omega)), q⟩
              have BA := Lib.hid (KP.out.below HW.out.bel HW.out.bel.size (Nat.le_refl _))
              have SA : Hid (w.heap.size + 1 ≤ wr.heap.size) := Nat.le_trans HW.out.lt KP.out.size
              have cA : wr.cell? ⟨b, o + k, none⟩ = some (.slice sN N.length cN) := (KP.out.cell hbw (by omega)).trans c1
              clear KP S3 K3 B4 HBw HO HI HW HN0 c1
              go_upto_region 14 with fail
              go_cut [4] (fun v wx => Hid (Wk w wx v (L ++ N)))
              case first =>
                cases sN with
                | none =>
                  have hsl : Value.slice none N.length cN = .slice none 0 0 := by have := HSk.out rfl; rw [this.1, this.2]; rfl
                  have HLE := Lib.hid hsl
                  have HN : Hid (N = []) := (HSk.out rfl).1
                  clear hsl
                  go_wp2_with (at_builtin; go_must (refine wpList_append_own_none rfl (.tmp 60) (.tmp 64) 22 rfl (w.heap.size + 1) 5 i0 1 Tryd.underlying22 hi _ L.length (L.map (Value.int .u8)) rfl OA.out HLE.out ?_))
                  go_meet
                  have e : L ++ N = L := by rw [HN.out, List.append_nil]
                  unfold Hid
                  rw [e] at WR ⊢
                  exact ⟨OA.out, WR.out, BA.out, SA.out⟩
                | some ad =>
                  have src := Lib.hid (cell_src (ad := ad) HR.out BA.out rfl)
                  go_wp2_with (at_builtin; go_must (refine wpList_append_own _ rfl (.tmp 60) (.tmp 64) 22 rfl (w.heap.size + 1) 5 i0 (.int .u8 0) 1 1 Tryd.underlying22 hi hz0 hz1 hz2 rfl (by decide) _ L.length (L.map (Value.int .u8)) rfl OA.out ad N.length cN (N.map (Value.int .u8)) rfl (by simp) src.out (map_one N) (by unfold maxLen; omega) (by omega) SA.out ?_))
                  intro v5 w5 o5 g5 _
                  have R5 : Hid (Wk w w5 v5 (L ++ N)) := by
                    refine ⟨?_, ?_, BA.out.grown g5 BA.out.size (fun i hi => by have := (OA.out.lt i hi).1; omega), Nat.le_trans SA.out g5.size⟩
                    · unfold Ow; rw [List.length_append, List.map_append]; exact o5
                    · obtain ⟨H, p, f, q⟩ := WR.out
                      exact ⟨H, p, f.same (g5.block _ f.lt (fun h => by have := (OA.out.lt _ h.symm).1; omega)), q⟩
                  clear o5 g5
                  go_wp2_with fail
                  go_meet
                  exact R5.out
              case rest =>
                clear OA WR BA SA cA HR HC HSk
                have LB2 : Hid (isB (L ++ N)) := by unfold Hid; rw [← HCat.out]; exact cat_isB M HM.out (k + 1)
                have HK := Lib.hid hcut.out
                clear hcut
                have hlen2 : (L ++ N).length ≤ 300 := by rw [List.length_append]; exact hLN
                obtain ⟨L2, hL2⟩ : ∃ L2, L ++ N = L2 := ⟨_, rfl⟩
                rw [hL2] at HCat HK LB2 hlen2
                clear hL2
                obtain ⟨s5, c5, rfl, f1, f2, f3, f4, _⟩ := HK.out.own.form
                have LN := Lib.hid (len_some w.heap.size L2 wc HK.out.wr)
                have TW := Lib.hid (HT.out.below HK.out.bel HT.out.1)
                have WS := Lib.hid (wsum_any (some ⟨w.heap.size, 0, none⟩) L2 wc (.inr ⟨_, rfl, HK.out.wr⟩) (by omega) TW.out)
                have RSM : Hid (∀ W, Below wc.heap.size wc W → Calls Tryd.prog 10 #[.slice s5 L2.length c5] W fun e w' => e = .returned (.agg (mk .u8 32 (dig L2))) ∧ Below W.heap.size W w') := fun W b => rsum_any s5 c5 L2 W ((HK.out.own.below b).rd) f3 LB2.out hlen2 (fun a h => (f4 a h).1)
                unfold maxLen at f2
                clear f3 f4 TW LB2
                go_wp2_with fail
                refine LN.out.mono ?_
                rintro e w' ⟨rfl, rfl⟩
                go_wp2_with fail
                refine WS.out.mono ?_
                rintro e w6 ⟨rfl, b6⟩
                go_wp2_with fail
                refine (RSM.out _ b6).mono ?_
                rintro e w7 ⟨rfl, b7⟩
                have R7 := Lib.hid (HK.out.below (b6.trans (b7.mono b6.size)))
                clear b6 b7 WS RSM LN HK
                go_wp2_with (refine wpList_neq_same rfl (.tmp 74) (.tmp 76) rfl (dig L2) rfl rfl ?_)
                go_roundw
                case rel => exact ⟨k + 1, by omega, by omega, by go_num, by unfold Hid; rw [HCat.out]; exact R7.out, by unfold Hid; rw [HCat.out]; exact hlen2⟩
                case measure => simp [intOf]; omega
      · have AW := Lib.hid (awake_true wr TT.out)
        have BF := Lib.hid HW.out.bel
        by_cases hN3 : N.length ≤ 300
        · have hx : 300 < L.length + N.length := by omega
          go_wp2_with fail
          refine AW.out.mono ?_
          rintro e w' ⟨rfl, b⟩
          go_wp2
          go_ret
          exact ⟨rfl, BF.out.trans (b.mono BF.out.size)⟩
        · have hx : 300 < N.length := by omega
          go_wp2_with fail
          refine AW.out.mono ?_
          rintro e w' ⟨rfl, b⟩
          go_wp2
          go_ret
          exact ⟨rfl, BF.out.trans (b.mono BF.out.size)⟩
    · have WS := Lib.hid (wsum_any (some ⟨w.heap.size, 0, none⟩) L wr (.inr ⟨_, rfl, HW.out.wr⟩) (by omega) TT.out)
      have RSM : Hid (∀ W, Below wr.heap.size wr W → Calls Tryd.prog 10 #[.slice sp L.length cp] W fun e w' => e = .returned (.agg (mk .u8 32 (dig L))) ∧ Below W.heap.size W w') := fun W b => rsum_any sp cp L W ((HW.out.own.below b).rd) HN0.out.1 LB.out hL3 (fun a h => (HN0.out.2 a h).1)
      have AW : Hid (∀ W, Below wr.heap.size wr W → Calls Tryd.prog 7 #[] W fun e w' => e = .returned (.bool true) ∧ Below W.heap.size W w') := fun W b => awake_true W (TT.out.below b TT.out.1)
      have BF := Lib.hid HW.out.bel
      have TWO : (m : Int) ≤ (k : Int) ∨ (k : Int) < m ∧ (10 : Int) ≤ (k : Int) := by omega
      clear hlt TT LB HN0 HW HLL HP HT HM HS
      rcases TWO with t1 | ⟨t1, t2⟩
      all_goals
        go_wp2_with fail
        refine WS.out.mono ?_
        rintro e w6 ⟨rfl, b6⟩
        have B6 := Lib.hid b6
        clear b6
        go_wp2_with fail
        refine (RSM.out _ B6.out).mono ?_
        rintro e w7 ⟨rfl, b7⟩
        have B7 := Lib.hid (B6.out.trans (b7.mono B6.out.size))
        clear b7 B6
        go_wp2_with (refine wpList_eql_same rfl (.tmp 80) (.tmp 82) rfl (dig L) rfl rfl ?_)
        refine (AW.out _ B7.out).mono ?_
        rintro e w8 ⟨rfl, b8⟩
        have B8 := Lib.hid (B7.out.trans (b8.mono B7.out.size))
        clear b8 B7
        go_wp2
        go_ret
        exact ⟨rfl, BF.out.trans (B8.out.mono BF.out.size)⟩
end Go.Proofs.YtbdahkbgjbaenaaDoor

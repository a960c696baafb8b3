import Derived.Test.YtncjncacfagldaaGreatDoorYPR
import Derived.Test.YtncjncacfagldaaGreatDoorYWCK
namespace Go.Proofs.YtncjncacfagldaaGreatDoor
open Go.RowKit Go.Lib

theorem ls_ext {a b : List (List UInt8)} (hl : a.length = b.length) (h : ∀ j, j < a.length → a.getD j [] = b.getD j []) : a = b := by
 refine List.ext_getElem hl fun j h1 h2 => ?_
 have := h j h1
 rwa [← List.getElem_eq_getD (h := h1), ← List.getElem_eq_getD (h := h2)] at this
theorem rowS_at {n : Nat} {w : World} {o : Option Addr} {cap : Nat} {l : List (List UInt8)} (h : RowP (fun k => k < n) w o cap l.length 1 (fun j _ => .string (tx (l.getD j [])))) {j : Nat} (hj : j < l.length) : ∃ b off, o = some ⟨b, off, none⟩ ∧ b < n ∧ w.cell? ⟨b, off + j, none⟩ = some (.string (tx (l.getD j []))) := by
 obtain ⟨b, off, e, hb, hc⟩ := h.2.2.2 (by omega)
 refine ⟨b, off, e, hb, ?_⟩
 have := hc j hj 0 (by omega)
 simpa using this
theorem belowQ {B : Nat} {a w : World} (h : Below B a w) (q : Nat) : Below B a (w.drewN q) := ⟨h.os, h.tape, h.output, h.size, h.block⟩
set_option maxRecDepth 100000 in
set_option maxHeartbeats 2000000 in
theorem equalS_any {n : Nat} {w : World} {l l' : List (List UInt8)} {o o' : Option Addr} {cap cap' : Nat} (hA : RowP (fun k => k < n) w o cap l.length 1 (fun j _ => .string (tx (l.getD j [])))) (hB : RowP (fun k => k < n) w o' cap' l'.length 1 (fun j _ => .string (tx (l'.getD j [])))) (hn : n ≤ w.heap.size) :
 Calls Tryz.prog 45 #[.slice o l.length cap, .slice o' l'.length cap'] w fun e w' => e = .returned (.bool (decide (l = l'))) ∧ Below w.heap.size w w' := by
 have l1 := hA.1
 have l2 := hA.2.1
 have l3 := hB.1
 have l4 := hB.2.1
 unfold maxLen at l2 l4
 have HA := qh (fun (j : Nat) => rowS_at hA (j := j))
 have HB := qh (fun (j : Nat) => rowS_at hB (j := j))
 clear hA hB
 by_cases hl : l.length = l'.length
 · have HL := qh hl
   have g1 : ((l.length : Int) != (l'.length : Int)) = false := by simp [hl]
   have HNO : Hid (∀ j, j < l.length → tx (l.getD j []) ≠ tx (l'.getD j []) → decide (l = l') = false) := fun j _ h => decide_eq_false (fun e => h (by rw [e]))
   have HYES : Hid ((∀ j, j < l.length → tx (l.getD j []) = tx (l'.getD j [])) → decide (l = l') = true) := fun h => decide_eq_true (ls_ext hl (fun j hj => tx_injB (h j hj)))
   generalize decide (l = l') = R at *
   clear hl
   go_enter Tryz.func45, Tryz.ntmps45
   go_wp2_with fail
   go_loopw [13] (fun i wr => ∃ j : Nat, j ≤ l.length ∧ i = .int .i64 j ∧ Hid (∀ m, m < j → tx (l.getD m []) = tx (l'.getD m [])) ∧ Hid (Below w.heap.size w wr)) (fun i _ => l.length - (RowKit.intOf i).toNat)
   case atStart => exact ⟨0, Nat.zero_le _, rfl, fun _ h => absurd h (Nat.not_lt_zero _), Below.refl _ _⟩
   case round =>
    obtain ⟨j, hj, rfl, hok, hbr⟩ := hrel
    by_cases hlt : j < l.length
    · have hlt2 : j < l'.length := by have := HL.out; omega
      obtain ⟨b1, off, rfl, hb1, y0⟩ := HA.out j hlt
      obtain ⟨b2, off', rfl, hb2, u0⟩ := HB.out j hlt2
      have t : ∀ b i, b < n → wr.cell? ⟨b, i, none⟩ = w.cell? ⟨b, i, none⟩ := fun b i hb => World.cell?_of_block (hbr.out.block b (by omega))
      rw [← t b1 _ hb1] at y0
      rw [← t b2 _ hb2] at u0
      clear t
      have HN := qh (HNO.out j hlt)
      have HK : Hid (tx (l.getD j []) = tx (l'.getD j []) → ∀ m, m < j + 1 → tx (l.getD m []) = tx (l'.getD m [])) := fun h m hm => by
       by_cases e : m = j
       · rw [e]; exact h
       · exact hok.out m (by omega)
      generalize tx (l.getD j []) = S at *
      generalize tx (l'.getD j []) = T at *
      by_cases hr : S = T
      · have HE := qh (HK.out hr)
        obtain ⟨g3, g4⟩ := str_eq hr
        clear hr HN HK
        go_wp2_with fail
        go_quiet (fail)
        go_wp2_with fail
        go_roundw
        case rel => exact ⟨j + 1, by omega, by go_num, HE.out, belowQ hbr.out nq⟩
        case measure => simp [RowKit.intOf]; omega
      · have HE := qh (HN.out hr)
        obtain ⟨g3, g4⟩ := str_ne hr
        clear hr HN HK
        go_wp2_with fail
        go_quiet (fail)
        go_wp2_with fail
        go_ret
        exact ⟨by rw [HE.out]; rfl, belowQ hbr.out nq⟩
    · have HX : Hid (R = true) := HYES.out (fun m hm => hok.out m (by omega))
      go_wp2_with fail
      go_ret
      exact ⟨by rw [HX.out]; rfl, hbr.out⟩
 · have HX : Hid (decide (l = l') = false) := decide_eq_false (fun e => hl (by rw [e]))
   have g1 : ((l.length : Int) != (l'.length : Int)) = true := by simp; omega
   clear hl
   go_enter Tryz.func45, Tryz.ntmps45
   go_wp2_with fail
   go_ret
   exact ⟨by rw [HX.out]; rfl, Below.refl _ _⟩
open Go.RowKit Go.Lib

theorem rangeAt_bl {w w' : World} {N b i : Nat} {l : List Value} (h : Below N w w') (hb : b < N) (hr : w.rangeAt b i l) : w'.rangeAt b i l := fun m u hm => (World.cell?_of_block (h.block b hb)).trans (hr m u hm)
theorem pay_item {n : Nat} {w : World} {l : List It} {v : Value} (h : PayI l (fun k => k < n) w v) : ∃ o cap, v = .slice o l.length cap ∧ l.length ≤ cap ∧ cap ≤ maxLen ∧ ∀ (k : Nat) (X : It), l[k]? = some X → ∃ (b off : Nat) (c : Array Value), o = some ⟨b, off, none⟩ ∧ b < n ∧ IP (fun k => k < n) w X (.agg c) ∧ c.size = 22 ∧ c.all (·.oneCell') = true ∧ w.rangeAt b (off + k * 22) c.toList := by
 obtain ⟨o, cap, d, rfl, hR, hE⟩ := h
 refine ⟨o, cap, rfl, hR.1, hR.2.1, fun k X hX => ?_⟩
 have hk : k < l.length := (List.getElem?_eq_some_iff.1 hX).1
 obtain ⟨b, off, e, hb, hc⟩ := hR.2.2.2 (by omega)
 have hI : IP (fun k => k < n) w X (.agg (row22 d k)) := hE k X hX
 obtain ⟨h22, hone, -, -⟩ := ip_form hI
 refine ⟨b, off, row22 d k, e, hb, hI, h22, hone, fun m u hm => ?_⟩
 have hlt : m < 22 := by have := (List.getElem?_eq_some_iff.1 hm).1; simpa using this
 rw [hc k hk m hlt]
 rw [Array.getElem?_toList, row22_at d k m hlt] at hm
 exact hm
set_option maxRecDepth 100000 in
set_option maxHeartbeats 4000000 in
theorem equalI_any {A B : List It} (hf : ∀ x ∈ A, ∀ (n : Nat) (y : It) (a b : Value) (w : World), IP (fun k => k < n) w x a → IP (fun k => k < n) w y b → n ≤ w.heap.size → Calls Tryz.prog 26 #[a, b] w fun e w' => e = .returned (.bool (sameI x y)) ∧ Below w.heap.size w w')
 {n : Nat} {w : World} {a b : Value} (hA : PayI A (fun k => k < n) w a) (hB : PayI B (fun k => k < n) w b) (hn : n ≤ w.heap.size) :
 Calls Tryz.prog 25 #[a, b, .func (.func 26) #[] #[]] w fun e w' => e = .returned (.bool (sameIL A B)) ∧ Below w.heap.size w w' := by
 obtain ⟨o, cap, rfl, hlen, hcap, hat⟩ := pay_item hA
 obtain ⟨o', cap', rfl, hlen', hcap', hat'⟩ := pay_item hB
 have HCA := qh hat
 have HCB := qh hat'
 have HF := qh hf
 unfold maxLen at hcap hcap'
 have HN0 := qh hn
 have RNO := qh (fun (j : Nat) (X Y : It) h1 h2 h3 => sameIL_no (A := A) (B := B) j (X := X) (Y := Y) h1 h2 h3)
 have RYES := qh (sameIL_yes (A := A) (B := B))
 have RLEN := qh (sameIL_len (A := A) (B := B))
 generalize sameIL A B = RES at *
 clear hf hA hB hat hat' hn
 by_cases hll : A.length = B.length
 case neg =>
  have hr : RES = false := RLEN.out hll
  subst hr
  have g1 : ((A.length : Int) != (B.length : Int)) = true := by rw [bne_iff_ne]; omega
  go_enter Tryz.func25, Tryz.ntmps25
  go_wp2_with fail
  go_ret
  exact ⟨rfl, Below.refl _ _⟩
 have g1 : ((A.length : Int) != (B.length : Int)) = false := by simp [hll]
 have HLL := qh hll
 clear hll RLEN
 go_enter Tryz.func25, Tryz.ntmps25
 go_wp2_with fail
 go_loopw [17] (fun v17 wr => ∃ k : Nat, k ≤ A.length ∧ v17 = .int .i64 (k : Int) ∧ Hid (Below w.heap.size w wr) ∧ Hid (∀ (j : Nat) (X Y : It), j < k → A[j]? = some X → B[j]? = some Y → sameI X Y = true)) (fun v _ => A.length - (RowKit.intOf v).toNat)
 case atStart => exact ⟨0, Nat.zero_le _, rfl, Below.refl _ _, fun j X Y h => absurd h (Nat.not_lt_zero _)⟩
 case round =>
  obtain ⟨k, hk, rfl, HW1, HKK⟩ := hrel
  by_cases hlt : k < A.length
  · have hlt2 : k < B.length := by have := HLL.out; omega
    have hx := List.getElem?_eq_getElem hlt
    have hy := List.getElem?_eq_getElem hlt2
    generalize A[k] = x at hx
    generalize B[k] = y at hy
    obtain ⟨bX, offX, cx, rfl, hbX, hIX, h22x, h1x, hrX⟩ := HCA.out k x hx
    obtain ⟨bY, offY, cy, rfl, hbY, hIY, h22y, h1y, hrY⟩ := HCB.out k y hy
    have HM := qh (List.mem_of_getElem? hx)
    have HNO : Hid (sameI x y = false → RES = false) := fun h => RNO.out k x y hx hy h
    have HKS : Hid (sameI x y = true → ∀ (j : Nat) (X Y : It), j < k + 1 → A[j]? = some X → B[j]? = some Y → sameI X Y = true) := fun h j X Y hj h1 h2 => by
     by_cases e : j = k
     · subst e; rw [hx] at h1; rw [hy] at h2; injection h1 with h1; injection h2 with h2; rw [← h1, ← h2]; exact h
     · exact HKK.out j X Y (by omega) h1 h2
    have hn := HN0.out
    have bwr : Below w.heap.size w wr := HW1.out
    have hsz := bwr.size
    have bwn : Below n w wr := bwr.mono hn
    have HRX := qh (rangeAt_bl bwn hbX hrX)
    have HRY := qh (rangeAt_bl bwn hbY hrY)
    have HIX : Hid (IP (fun k => k < n) wr x (.agg cx)) := hIX.keptP fun i hi => ⟨hi, bwn.block i hi⟩
    have HIY : Hid (IP (fun k => k < n) wr y (.agg cy)) := hIY.keptP fun i hi => ⟨hi, bwn.block i hi⟩
    have H22x := qh h22x
    have H22y := qh h22y
    have H1x := qh h1x
    have H1y := qh h1y
    have LBY : Hid (bY < wr.heap.size) := by unfold Hid; omega
    have lbx : bX < wr.heap.size := by omega
    have HNR : Hid (n ≤ wr.heap.size) := by unfold Hid; omega
    have HSZ := qh hsz
    have e1 : (k : Int) < (A.length : Int) := by omega
    have k0 : ¬ (k : Int) < 0 := by omega
    have e3 : (k : Int) < (B.length : Int) := by omega
    have e2 : IntKind.i64.wrap ((k : Int) + 1) = ((k + 1 : Nat) : Int) := by rw [IntWalk.i64_in _ (by omega)]; rfl
    have N1 := qh (heap_alloc_new wr (.cells z22 40))
    have HW3 := qh ((Below.refl wr.heap.size wr).alloc (Nat.le_refl _) (.cells z22 40))
    clear hx hy hrX hrY hIX hIY h22x h22y h1x h1y hn bwr bwn hbX hbY HKK hsz
    go_wp2_with (first
     | refine wpList_load_mid rfl 40 (.tmp 20) rfl bX (offX + k * 22) rfl cx.toList _ HRX.out Tryz.underlying40 rfl (by rw [Array.length_toList]; exact size40z H22x.out) ?_
     | (refine wpList_store_row rfl 40 (.tmp 8) (.tmp 21) rfl wr.heap.size cx rfl rfl 40 _ N1.out (size40z H22x.out) (by rw [H22x.out]; rfl) H1x.out ?_
        have R1 := qh (setRow_heap _ _ _ cx _ _ N1.out)
        have HW4 := qh (Below.row HW3.out (Nat.le_refl _) cx)
        have HZ4 : Hid ((World.setRow (wr.alloc (.cells z22 40)) wr.heap.size cx).heap.size = wr.heap.size + 1) := by unfold Hid; rw [size_setRow]; simp
        have HRY4 := qh (rangeAt_bl HW4.out LBY.out HRY.out)
        clear N1 HW3
        generalize World.setRow _ wr.heap.size cx = w4 at *
        have N2 := qh (heap_alloc_new w4 (.cells z22 40))
        have N3 : Hid ((w4.alloc (.cells z22 40)).heap[wr.heap.size]? = w4.heap[wr.heap.size]?) := heap_alloc_old w4 _ (by have := HZ4.out; omega)
        have HW5 := qh ((Below.refl w4.heap.size w4).alloc (Nat.le_refl _) (.cells z22 40)))
     | refine wpList_load_mid rfl 40 (.tmp 24) rfl bY (offY + k * 22) rfl cy.toList _ HRY4.out Tryz.underlying40 rfl (by rw [Array.length_toList]; exact size40z H22y.out) ?_
     | (refine wpList_store_row rfl 40 (.tmp 9) (.tmp 25) rfl w4.heap.size cy rfl rfl 40 _ N2.out (size40z H22y.out) (by rw [H22y.out]; rfl) H1y.out ?_
        have R2 := qh (setRow_heap _ _ _ cy _ _ N2.out)
        have R3 := qh ((setRow_other (w4.alloc (.cells z22 40)) w4.heap.size wr.heap.size cy (by have := HZ4.out; omega)).trans (N3.out.trans R1.out))
        have HW6 := qh (HW4.out.trans ((Below.row HW5.out (Nat.le_refl _) cy).mono (by have := HZ4.out; omega)))
        clear N2 N3 HW5 R1 HW4
        generalize World.setRow _ w4.heap.size cy = w6 at *)
     | refine wpList_load_row rfl 40 (.tmp 8) rfl wr.heap.size rfl 40 cx _ _ R3.out Tryz.underlying40 rfl (size40z H22x.out) ?_
     | refine wpList_load_row rfl 40 (.tmp 9) rfl w4.heap.size rfl 40 cy _ _ R2.out Tryz.underlying40 rfl (size40z H22y.out) ?_)
    refine (HF.out x HM.out n y (.agg cx) (.agg cy) w6 (HIX.out.keptP fun i hi => ⟨hi, HW6.out.block i (by have := HNR.out; omega)⟩) (HIY.out.keptP fun i hi => ⟨hi, HW6.out.block i (by have := HNR.out; omega)⟩) (by have := HNR.out; have := HW6.out.size; omega)).mono ?_
    rintro e w7 ⟨rfl, b7⟩
    have B7 := qh (HW1.out.trans ((HW6.out.trans (b7.mono HW6.out.size)).mono HSZ.out))
    clear b7
    cases hr : sameI x y with
    | true =>
      have HE := qh (HKS.out hr)
      clear hr
      go_wp2_with fail
      refine ⟨⟨k + 1, hlt, rfl, B7.out, HE.out⟩, ?_⟩
      simp only [RowKit.intOf]; omega
    | false =>
      have HE := qh (HNO.out hr)
      clear hr
      go_wp2_with fail
      go_ret
      exact ⟨by rw [HE.out]; rfl, B7.out⟩
  · have HX : Hid (RES = true) := RYES.out HLL.out (fun m X Y h1 h2 => HKK.out m X Y (by have := (List.getElem?_eq_some_iff.1 h1).1; omega) h1 h2)
    go_wp2_with fail
    go_ret
    exact ⟨by rw [HX.out]; rfl, HW1.out⟩
open Go.RowKit Go.Lib

theorem ip_parts {n : Nat} {w : World} {X : It} {v : Value} (hx : IP (fun k => k < n) w X v) : ∃ oL cL oV cV oK cK oE cE oI cI, v = .agg (ic X oL cL oV cV oK cK oE cE oI cI) ∧ RowP (fun k => k < n) w oL cL X.lb.length 1 (fun j _ => .string (tx (X.lb.getD j []))) ∧ XL n w X.e (.agg (xc X.e oV cV oK cK oE cE)) ∧ PayI X.l (fun k => k < n) w (.slice oI X.l.length cI) := by
 cases hx with
 | mk _ oL oV oK o oI cL cV cK cap cI c hl he hi hy => exact ⟨oL, cL, oV, cV, oK, cK, o, cap, oI, cI, rfl, hl, he, oI, cI, c, rfl, hi, hy⟩
set_option maxRecDepth 100000 in
set_option maxHeartbeats 4000000 in
theorem same26I {x : It} (ih : ∀ (n : Nat) (B : List It) (a b : Value) (w : World), PayI x.l (fun k => k < n) w a → PayI B (fun k => k < n) w b → n ≤ w.heap.size → Calls Tryz.prog 9 #[a, b] w fun e w' => e = .returned (.bool (sameIL x.l B)) ∧ Below w.heap.size w w')
 {n : Nat} {y : It} {a b : Value} {w : World} (ha : IP (fun k => k < n) w x a) (hb : IP (fun k => k < n) w y b) (hn : n ≤ w.heap.size) : Calls Tryz.prog 26 #[a, b] w fun e w' => e = .returned (.bool (sameI x y)) ∧ Below w.heap.size w w' := by
 obtain ⟨oL, cL, oV, cV, oK, cK, oE, cE, oI, cI, rfl, hl, he, hi⟩ := ip_parts ha
 obtain ⟨oL', cL', oV', cV', oK', cK', oE', cE', oI', cI', rfl, hl', he', hi'⟩ := ip_parts hb
 have HC : Hid (∀ W, Below w.heap.size w W → Calls Tryz.prog 45 #[.slice oL x.lb.length cL, .slice oL' y.lb.length cL'] W fun e w' => e = .returned (.bool (decide (x.lb = y.lb))) ∧ Below W.heap.size W w') := fun W hW =>
  equalS_any (n := n) (hl.keptP fun k hk => ⟨hk, hW.block k (by omega)⟩) (hl'.keptP fun k hk => ⟨hk, hW.block k (by omega)⟩) (by have := hW.size; omega)
 have HE : Hid (∀ W, Below w.heap.size w W → Calls Tryz.prog 46 #[.agg (xc x.e oV cV oK cK oE cE), .agg (xc y.e oV' cV' oK' cK' oE' cE')] W fun e w' => e = .returned (.bool (sameX false x.e y.e)) ∧ Below W.heap.size W w') := fun W hW =>
  same12_any (xsz x.e + xsz y.e) n x.e y.e _ _ W (Nat.le_refl _) (XP.keptP he fun k hk => ⟨hk, hW.block k (by omega)⟩) (XP.keptP he' fun k hk => ⟨hk, hW.block k (by omega)⟩) (by have := hW.size; omega)
 have HI : Hid (∀ W, Below w.heap.size w W → Calls Tryz.prog 9 #[.slice oI x.l.length cI, .slice oI' y.l.length cI'] W fun e w' => e = .returned (.bool (sameIL x.l y.l)) ∧ Below W.heap.size W w') := fun W hW =>
  ih n y.l _ _ W (hi.keptP fun k hk => ⟨hk, hW.block k (by omega)⟩) (hi'.keptP fun k hk => ⟨hk, hW.block k (by omega)⟩) (by have := hW.size; omega)
 have HW : Hid (Below w.heap.size w ((w.alloc (.cells (ic x oL cL oV cV oK cK oE cE oI cI) 40)).alloc (.cells (ic y oL' cL' oV' cV' oK' cK' oE' cE' oI' cI') 40))) := ((Below.refl w.heap.size w).alloc (Nat.le_refl _) _).alloc (by simp) _
 have R1 : Hid (((w.alloc (.cells (ic x oL cL oV cV oK cK oE cE oI cI) 40)).alloc (.cells (ic y oL' cL' oV' cV' oK' cK' oE' cE' oI' cI') 40)).heap[w.heap.size]? = some (.cells (ic x oL cL oV cV oK cK oE cE oI cI) 40 (0, 0))) := (heap_alloc_old _ _ (by simp)).trans (heap_alloc_new w _)
 have R2 : Hid (((w.alloc (.cells (ic x oL cL oV cV oK cK oE cE oI cI) 40)).alloc (.cells (ic y oL' cL' oV' cV' oK' cK' oE' cE' oI' cI') 40)).heap[w.heap.size + 1]? = some (.cells (ic y oL' cL' oV' cV' oK' cK' oE' cE' oI' cI') 40 (0, 0))) := by
  have := heap_alloc_new (w.alloc (.cells (ic x oL cL oV cV oK cK oE cE oI cI) 40)) (.cells (ic y oL' cL' oV' cV' oK' cK' oE' cE' oI' cI') 40)
  rw [World.size_alloc] at this; exact this
 have N0 := qh (fun h => si_b (X := x) (Y := y) h)
 have N1 := qh (fun h => si_n (X := x) (Y := y) h)
 have N2 : Hid (decide (x.lb = y.lb) = false → sameI x y = false) := fun h => si_l (of_decide_eq_false h)
 have N3 := qh (fun h => si_e (X := x) (Y := y) h)
 have N4 : Hid (x.b = y.b → tx x.nm = tx y.nm → decide (x.lb = y.lb) = true → sameX false x.e y.e = true → sameI x y = sameIL x.l y.l) := fun h0 h1 h2 h3 => by
  cases h4 : sameIL x.l y.l with
  | true => exact si_yes h0 h1 (of_decide_eq_true h2) h3 h4
  | false => exact si_i h4
 generalize sameI x y = R at *
 generalize sameIL x.l y.l = Q at *
 generalize sameX false x.e y.e = E at *
 generalize decide (x.lb = y.lb) = D at *
 clear ha hb hl hl' he he' hi hi' ih hn
 go_enter Tryz.func26, Tryz.ntmps26
 go_upto_region 1 with fail
 generalize (w.alloc _).alloc _ = w0 at *
 obtain ⟨⟨c0, c1, c2, c3, c4, c5, c6, c7, c8, c9, c10, c11, c12, c13, c14, c15, c16, c17, c18, -, -, -⟩, -, hb0⟩ := rc22 R1.out
 obtain ⟨⟨d0, d1, d2, d3, d4, d5, d6, d7, d8, d9, d10, d11, d12, d13, d14, d15, d16, d17, d18, -, -, -⟩, -, hb1⟩ := rc22 R2.out
 by_cases h0 : x.b = y.b
 case neg =>
  have HR : Hid (R = false) := N0.out h0
  have g1 : (x.b == y.b) = false := by simp [h0]
  have g2 : decide (x.b = y.b) = false := decide_eq_false h0
  clear h0
  go_wp2_with fail
  go_ret
  exact ⟨ret_b4 HR.out.symm, HW.out⟩
 have H0 := qh h0
 have g1 : (x.b == y.b) = true := by simp [h0]
 have g2 : decide (x.b = y.b) = true := decide_eq_true h0
 clear h0
 by_cases h0 : tx x.nm = tx y.nm
 case neg =>
  have HR : Hid (R = false) := N1.out h0
  obtain ⟨g3, g4⟩ := str_ne h0
  clear h0
  go_wp2_with fail
  go_ret
  exact ⟨ret_b4 HR.out.symm, HW.out⟩
 have H1 := qh h0
 obtain ⟨g3, g4⟩ := str_eq h0
 clear h0
 go_wp2_with fail
 refine (HC.out _ HW.out).mono ?_
 rintro e w1 ⟨rfl, b1⟩
 have hb0' := hb0
 have B1 := qh (HW.out.trans (b1.mono HW.out.size))
 have S1 := qh (b1.block _ hb0 |>.trans R1.out)
 have S2 := qh (b1.block _ hb1 |>.trans R2.out)
 clear c0 d0 c1 d1 c2 d2 c3 d3 c4 d4 c5 d5 c6 d6 c7 d7 c8 d8 c9 d9 c10 d10 c11 d11 c12 d12 c13 d13 c14 d14 c15 d15 c16 d16 c17 d17 c18 d18 hb0 hb1 hb0' b1 R1 R2 HW
 obtain ⟨⟨c0, c1, c2, c3, c4, c5, c6, c7, c8, c9, c10, c11, c12, c13, c14, c15, c16, c17, c18, -, -, -⟩, -, hb0⟩ := rc22 S1.out
 obtain ⟨⟨d0, d1, d2, d3, d4, d5, d6, d7, d8, d9, d10, d11, d12, d13, d14, d15, d16, d17, d18, -, -, -⟩, -, hb1⟩ := rc22 S2.out
 cases D with
 | false =>
   have HR : Hid (R = false) := N2.out rfl
   go_wp2_with fail
   go_ret
   exact ⟨ret_b4 HR.out.symm, B1.out⟩
 | true =>
 go_wp2_with fail
 refine (HE.out _ B1.out).mono ?_
 rintro e w2 ⟨rfl, b2⟩
 have B2 := qh (B1.out.trans (b2.mono B1.out.size))
 have U1 := qh (b2.block _ hb0 |>.trans S1.out)
 have U2 := qh (b2.block _ hb1 |>.trans S2.out)
 clear c0 d0 c1 d1 c2 d2 c3 d3 c4 d4 c5 d5 c6 d6 c7 d7 c8 d8 c9 d9 c10 d10 c11 d11 c12 d12 c13 d13 c14 d14 c15 d15 c16 d16 c17 d17 c18 d18 hb0 hb1 b2 S1 S2 B1
 obtain ⟨⟨c0, c1, c2, c3, c4, c5, c6, c7, c8, c9, c10, c11, c12, c13, c14, c15, c16, c17, c18, -, -, -⟩, -, hb0⟩ := rc22 U1.out
 obtain ⟨⟨d0, d1, d2, d3, d4, d5, d6, d7, d8, d9, d10, d11, d12, d13, d14, d15, d16, d17, d18, -, -, -⟩, -, hb1⟩ := rc22 U2.out
 cases E with
 | false =>
   have HR : Hid (R = false) := N3.out rfl
   go_wp2_with fail
   go_ret
   exact ⟨ret_b4 HR.out.symm, B2.out⟩
 | true =>
 have HR : Hid (R = Q) := N4.out H0.out H1.out (by trivial) (by trivial)
 go_wp2_with fail
 refine (HI.out _ B2.out).mono ?_
 rintro e w3 ⟨rfl, b3⟩
 have B3 := qh (B2.out.trans (b3.mono B2.out.size))
 clear b3
 go_wp2_with fail
 go_ret
 exact ⟨ret_b4 HR.out.symm, B3.out⟩
set_option maxRecDepth 100000 in
set_option maxHeartbeats 2000000 in
theorem same9_any (X : It) : ∀ (n : Nat) (B : List It) (a b : Value) (w : World), PayI X.l (fun k => k < n) w a → PayI B (fun k => k < n) w b → n ≤ w.heap.size → Calls Tryz.prog 9 #[a, b] w fun e w' => e = .returned (.bool (sameIL X.l B)) ∧ Below w.heap.size w w' := by
 induction X using it_ind with
 | h X ih =>
   intro n B a b w ha hb hn
   have HEQ : Hid (Calls Tryz.prog 25 #[a, b, .func (.func 26) #[] #[]] w fun e w' => e = .returned (.bool (sameIL X.l B)) ∧ Below w.heap.size w w') :=
    equalI_any (fun x hx n y a b w h1 h2 h3 => same26I (ih x hx) h1 h2 h3) ha hb hn
   clear ih ha hb hn
   go_enter Tryz.func9, Tryz.ntmps9
   go_wp2_with fail
   refine HEQ.out.mono ?_
   rintro e w1 ⟨rfl, b1⟩
   go_wp2_with fail
   go_ret
   exact ⟨rfl, b1⟩
open Go.RowKit Go.Lib

theorem sameV_self (V : Val) : sameV true V V = true := by
 induction V using val_ind with
 | h V ih =>
   have ho : ownB V.k V.i V.s V.tk V.to V.ks V.k V.i V.s V.tk V.to V.ks = true := own_yes rfl rfl rfl rfl rfl rfl
   have hl : eqL (sameV true) V.l V.l = true := eqL_yes rfl fun j X Y h1 h2 => by
    rw [h1] at h2; injection h2 with h2; subst h2
    exact ih X (List.mem_of_getElem? h1)
   rw [sameV_eq, ho, hl]; simp
theorem sameX_self (X : Ex) : sameX false X X = true := by
 induction X using ex_ind with
 | h X ih =>
   have hl : eqX (sameX false) X.l X.l = true := eqX_yes rfl fun j A B h1 h2 => by
    rw [h1] at h2; injection h2 with h2; subst h2
    exact ih A (List.mem_of_getElem? h1)
   rw [sx_yes rfl rfl rfl (sameV_self X.v), hl]
theorem sameI_self (X : It) : sameI X X = true ∧ sameIL X.l X.l = true := by
 induction X using it_ind with
 | h X ih =>
   have h4 : sameIL X.l X.l = true := sameIL_yes rfl fun j A B h1 h2 => by
    rw [h1] at h2; injection h2 with h2; subst h2
    exact (ih A (List.mem_of_getElem? h1)).1
   exact ⟨si_yes rfl rfl rfl (sameX_self X.e) h4, h4⟩
set_option maxRecDepth 100000 in
set_option maxHeartbeats 8000000 in
theorem same10T (N : Nat) : ∀ (n : Nat) (A : Ex) (a b : Value) (w : World), xsz A + xsz A ≤ N → XL n w A a → XL n w A b → n ≤ w.heap.size → Calls Tryz.prog 22 #[a, b, .bool true] w fun e w' => e = .returned (.bool true) ∧ Below w.heap.size w w' := by
 induction N with
 | zero => intro n A a b w hs; have := xsz_pos A; omega
 | succ N ih =>
   intro n A a b w hs ha hb hn
   obtain ⟨oV, cV, oK, cK, o, cap, rfl, -⟩ := xp_at ha
   obtain ⟨oV', cV', oK', cK', o', cap', rfl, -⟩ := xp_at hb
   obtain ⟨l1, l2, hva, hat⟩ := xp_at2 ha
   obtain ⟨l3, l4, hvb, hat'⟩ := xp_at2 hb
   unfold maxLen at l2 l4
   have hV : ∀ w', Below w.heap.size w w' → Calls Tryz.prog 40 #[vv A.v.k A.v.i A.v.s (.slice oV A.v.l.length cV) (.slice oK A.v.ks.length cK) A.v.tk A.v.to A.v.x, vv A.v.k A.v.i A.v.s (.slice oV' A.v.l.length cV') (.slice oK' A.v.ks.length cK') A.v.tk A.v.to A.v.x, .bool true] w' fun e w2 => e = .returned (.bool (sameV true A.v A.v)) ∧ Below w'.heap.size w' w2 :=
    fun w' bl => same24_any (sz A.v + sz A.v) n A.v A.v _ _ w' (Nat.le_refl _) (LiesP.kept hva (bl.mono hn)) (LiesP.kept hvb (bl.mono hn)) (by have := bl.size; omega)
   have HSZ : Hid (∀ x y, x ∈ A.l → y ∈ A.l → xsz x + xsz y ≤ N) := fun x y hx hy => by have := xsz_lt hx; have := xsz_lt hy; omega
   have IH := qh ih
   have HAT := qh (And.intro hat hat')
   rw [sameV_self] at hV
   have HV := qh hV
   have HB := qh (lie15 w (xc A oV cV oK cK o cap) (xc A oV' cV' oK' cK' o' cap'))
   have HW : Hid (Below w.heap.size w ((w.alloc (.cells (xc A oV cV oK cK o cap) 38)).alloc (.cells (xc A oV' cV' oK' cK' o' cap') 38))) := ((Below.refl w.heap.size w).alloc (Nat.le_refl _) _).alloc (by simp) _
   have HZ : Hid (((w.alloc (.cells (xc A oV cV oK cK o cap) 38)).alloc (.cells (xc A oV' cV' oK' cK' o' cap') 38)).heap.size = w.heap.size + 2) := by simp [Hid]
   clear ha hb ih hV hva hvb hat hat' hs
   go_enter Tryz.func22, Tryz.ntmps22
   go_upto_region 1 with fail
   generalize (w.alloc _).alloc _ = w0 at *
   obtain ⟨⟨c0, c1, c2, c3, c4, c5, c6, c7, c8, c9, c10, c11, c12, c13, c14⟩, -, hb1⟩ := rc15 HB.out.1
   obtain ⟨⟨d0, d1, d2, d3, d4, d5, d6, d7, d8, d9, d10, d11, d12, d13, d14⟩, -, hb2⟩ := rc15 HB.out.2
   obtain ⟨g1, g2⟩ := int_eq (a := A.op) rfl
   obtain ⟨g3, g4⟩ := str_eq (a := A.s) rfl
   obtain ⟨g5, g6⟩ := str_eq (a := A.s2) rfl
   go_wp2_with fail
   refine (HV.out _ HW.out).mono ?_
   rintro e w1 ⟨rfl, b1⟩
   have B1 := qh (HW.out.trans (b1.mono HW.out.size))
   have HB1 := qh (And.intro ((b1.block _ hb1).trans HB.out.1) ((b1.block _ hb2).trans HB.out.2))
   have HS1 : Hid (w.heap.size + 2 ≤ w1.heap.size) := by have := b1.size; have := HZ.out; unfold Hid; omega
   clear c0 c1 c2 c3 c4 c5 c6 c7 c8 c9 c10 c11 c12 c13 c14 hb1 d0 d1 d2 d3 d4 d5 d6 d7 d8 d9 d10 d11 d12 d13 d14 hb2 b1 g1 g2 g3 g4 g5 g6 HW HZ HB HV
   obtain ⟨⟨c0, c1, c2, c3, c4, c5, c6, c7, c8, c9, c10, c11, c12, c13, c14⟩, -, hb1⟩ := rc15 HB1.out.1
   obtain ⟨⟨d0, d1, d2, d3, d4, d5, d6, d7, d8, d9, d10, d11, d12, d13, d14⟩, -, hb2⟩ := rc15 HB1.out.2
   · obtain ⟨g11, g12⟩ := int_eq (a := (A.l.length : Int)) rfl
     obtain ⟨g13, g14⟩ := int_eq (a := A.a) rfl
     obtain ⟨g15, g16⟩ := int_eq (a := A.ln) rfl
     obtain ⟨g17, g18⟩ := int_eq (a := A.c) rfl
     go_wp2_with fail
     clear c0 c1 c2 c3 c4 c5 c6 c7 c8 c9 c10 c11 c12 c13 c14 hb1 d0 d1 d2 d3 d4 d5 d6 d7 d8 d9 d10 d11 d12 d13 d14 hb2 g11 g12 g13 g14 g15 g16 g17 g18
     go_loopw [7] (fun i wr => ∃ j : Nat, j ≤ A.l.length ∧ i = .int .i64 j ∧ Hid (Below w1.heap.size w1 wr)) (fun i _ => A.l.length - (RowKit.intOf i).toNat)
     case atStart => exact ⟨0, by omega, rfl, Below.refl _ _⟩
     case round =>
      obtain ⟨j, hj, rfl, hbr⟩ := hrel
      have HBr := qh (And.intro ((hbr.out.block _ (Array.getElem?_eq_some_iff.1 HB1.out.1).1).trans HB1.out.1) ((hbr.out.block _ (Array.getElem?_eq_some_iff.1 HB1.out.2).1).trans HB1.out.2))
      obtain ⟨⟨c0, c1, c2, c3, c4, c5, c6, c7, c8, c9, c10, c11, c12, c13, c14⟩, -, hb1⟩ := rc15 HBr.out.1
      obtain ⟨⟨d0, d1, d2, d3, d4, d5, d6, d7, d8, d9, d10, d11, d12, d13, d14⟩, -, hb2⟩ := rc15 HBr.out.2
      by_cases hlt : j < A.l.length
      · obtain ⟨X, hX⟩ : ∃ X, A.l[j]? = some X := ⟨_, List.getElem?_eq_getElem hlt⟩
        obtain ⟨b1, off, pV, pcV, pK, pcK, q, qc, e1, hbb1, OX, y0, y1, y2, y3, y4, y5, y6, y7, y8, y9, y10, y11, y12, y13, y14⟩ := HAT.out.1 j X hX
        obtain ⟨b2, off', pV', pcV', pK', pcK', q', qc', e2, hbb2, OY, u0, u1, u2, u3, u4, u5, u6, u7, u8, u9, u10, u11, u12, u13, u14⟩ := HAT.out.2 j X hX
        have hs1 := HS1.out
        have hsr := hbr.out.size
        have bwr : Below w.heap.size w wr := B1.out.trans (hbr.out.mono (by omega))
        have t : ∀ b i, b < n → wr.cell? ⟨b, i, none⟩ = w.cell? ⟨b, i, none⟩ := fun b i hb => World.cell?_of_block (bwr.block b (by omega))
        rw [← t b1 _ hbb1] at y0 y1 y2 y3 y4 y5 y6 y7 y8 y9 y10 y11 y12 y13 y14
        rw [← t b2 _ hbb2] at u0 u1 u2 u3 u4 u5 u6 u7 u8 u9 u10 u11 u12 u13 u14
        have HSXY := qh (HSZ.out X X (List.mem_of_getElem? hX) (List.mem_of_getElem? hX))
        have OX2 := qh (And.intro (OX.bl (fun k hk => hk) (bwr.mono hn)) (OY.bl (fun k hk => hk) (bwr.mono hn)))
        have HBR := hbr
        have hnr0 : n ≤ wr.heap.size := by omega
        have hnr : n ≤ wr.drew.heap.size := hnr0
        clear hnr0
        subst e1 e2
        clear hX OX OY t hbr bwr
        go_wp2_with fail
        go_still_tail 11, (by kernel_rfl)
        change wpList _ _ _ _ _ wr.drew
        go_wp2_with fail
        with_reducible refine (IH.out n X _ _ _ HSXY.out (OX2.out.1.bl (fun k hk => hk) ((Below.refl n wr).drew)) (OX2.out.2.bl (fun k hk => hk) ((Below.refl n wr).drew)) hnr).mono ?_
        rintro e w2 ⟨rfl, b2⟩
        have B2 := qh (HBR.out.drew.trans (b2.mono hsr))
        clear b2
        go_wp2_with fail
        go_roundw
        case rel => exact ⟨j + 1, by omega, by go_num, B2⟩
        case measure => simp [RowKit.intOf]; omega
      · have hs1 := HS1.out
        go_wp2_with fail
        go_ret
        exact ⟨rfl, B1.out.trans (hbr.out.mono (by omega))⟩
end Go.Proofs.YtncjncacfagldaaGreatDoor

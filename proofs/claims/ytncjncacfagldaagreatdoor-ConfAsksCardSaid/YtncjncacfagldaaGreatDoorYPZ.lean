import Derived.Test.YtncjncacfagldaaGreatDoorYPY
import Derived.Test.YtncjncacfagldaaGreatDoorYWCT
import Derived.Test.YtncjncacfagldaaGreatDoorYWPXA
namespace Go.Proofs.YtncjncacfagldaaGreatDoor
open Go.RowKit Go.Lib

set_option maxRecDepth 100000 in
set_option maxHeartbeats 4000000 in
theorem irdepthI_any (X : It) : ∀ (n : Nat) (v : Value) (w : World), PayI X.l (fun k => k < n) w v → n ≤ w.heap.size → idpL X.l ≤ 9000000000000000000 → Calls Tryz.prog 12 #[v] w fun e w' => e = .returned (.int .i64 (idpL X.l)) ∧ Below w.heap.size w w' := by
 induction X using it_ind with
 | h X ih =>
   intro n v w h hn hd
   generalize X.l = l at *
   obtain ⟨o, cap, rfl, hlen, hcap, hat⟩ := ip_at h
   have HC := qh hat
   have HI : Hid (∀ x ∈ l, ∀ (n : Nat) (v : Value) (w : World), PayI x.l (fun k => k < n) w v → n ≤ w.heap.size → x.b = true → Calls Tryz.prog 12 #[v] w fun e w' => e = .returned (.int .i64 (idpL x.l)) ∧ Below w.heap.size w w') := fun x hx n v w hv hw hb => ih x hx n v w hv hw (by have := idpL_mem hx; have h2 := idp_eq x; rw [hb, if_pos rfl] at h2; omega)
   have HDL := qh hd
   unfold maxLen at hcap
   clear ih h hat hd
   go_enter Tryz.func12, Tryz.ntmps12
   go_upto_region 3 with fail
   go_loopw [3, 4] (fun v3 v8 wr => ∃ k : Nat, k ≤ l.length ∧ v8 = .int .i64 (k : Int) ∧ v3 = .int .i64 (idpL (l.take k) : Nat) ∧ Hid (Below w.heap.size w wr)) (fun _ v _ => l.length - (RowKit.intOf v).toNat)
   case atStart => exact ⟨0, Nat.zero_le _, rfl, rfl, Below.refl _ _⟩
   case round =>
    obtain ⟨k, hk, rfl, rfl, HW1⟩ := hrel
    by_cases hlt : k < l.length
    · have hx := List.getElem?_eq_getElem hlt
      generalize l[k] = x at hx
      have HXD := qh (idpL_take hx)
      have HM := qh (List.mem_of_getElem? hx)
      obtain ⟨b, off, oI, cI, cs, rfl, hb, hX, h22, hone, hrg, h0, h18, -⟩ := HC.out k x hx
      have bwr : Below w.heap.size w wr := HW1.out
      have t : ∀ i, wr.cell? ⟨b, i, none⟩ = w.cell? ⟨b, i, none⟩ := fun i => World.cell?_of_block (bwr.block b (by omega))
      have y0 : wr.cell? ⟨b, off + k * 22, none⟩ = some (.bool x.b) := (t _).trans (hrg 0 _ (by rw [Array.getElem?_toList]; exact h0))
      have y18 : wr.cell? ⟨b, off + k * 22 + 18, none⟩ = some (.slice oI x.l.length cI) := (t _).trans (hrg 18 _ (by rw [Array.getElem?_toList]; exact h18))
      have hbn : b < wr.heap.size := by have := bwr.size; omega
      have HCL : Hid (x.b = true → ∀ W, Below w.heap.size w W → Calls Tryz.prog 12 #[.slice oI x.l.length cI] W fun e w' => e = .returned (.int .i64 (idpL x.l)) ∧ Below W.heap.size W w') := fun hb W hW => HI.out x HM.out n _ W (hX.keptP fun k hk => ⟨hk, hW.block k (Nat.lt_of_lt_of_le hk hn)⟩) (Nat.le_trans hn hW.size) hb
      have e1 : (k : Int) < (l.length : Int) := by omega
      have k0 : ¬ (k : Int) < 0 := by omega
      have e2 : IntKind.i64.wrap ((k : Int) + 1) = ((k + 1 : Nat) : Int) := by rw [IntWalk.i64_in _ (by omega)]; rfl
      have HDX := qh (idp_eq x)
      have HBD : Hid (idp x ≤ 9000000000000000000) := Nat.le_trans (idpL_mem HM.out) HDL.out
      clear t hX hx hrg h22 hone h0 h18 bwr
      obtain ⟨bb, hbb⟩ : ∃ q, x.b = q := ⟨_, rfl⟩
      rw [hbb] at HCL HDX y0
      cases bb with
      | false =>
        have HMX : Hid (idpL (l.take k) = idpL (l.take (k + 1))) := by have := HXD.out; have := HDX.out; simp at this; unfold Hid; omega
        clear HCL hbb
        clear y18
        go_wp2_with fail
        refine ⟨⟨k + 1, hlt, rfl, by rw [HMX.out], HW1.out⟩, ?_⟩
        simp only [RowKit.intOf]; omega
      | true =>
        have HMX : Hid (max ((idpL (l.take k) : Nat) : Int) (1 + ((idpL x.l : Nat) : Int)) = ((idpL (l.take (k + 1)) : Nat) : Int)) := by have := HXD.out; have := HDX.out; simp at this; unfold Hid; omega
        have e3 : IntKind.i64.wrap (1 + ((idpL x.l : Nat) : Int)) = 1 + ((idpL x.l : Nat) : Int) := by
         have := HBD.out; have h2 := HDX.out; simp at h2
         rw [IntWalk.i64_in _ (by omega)]
        replace HCL := qh (HCL.out rfl)
        clear hbb
        go_wp2_with fail
        refine (HCL.out _ HW1.out).mono ?_
        rintro e w2 ⟨rfl, c2'⟩
        have H2 := qh (HW1.out.trans (c2'.mono HW1.out.size))
        clear c2' y0 y18
        go_wp2_with fail
        refine ⟨⟨k + 1, hlt, rfl, by rw [HMX.out], H2.out⟩, ?_⟩
        simp only [RowKit.intOf]; omega
    · obtain rfl : k = l.length := by omega
      have e1 : ¬ (l.length : Int) < (l.length : Int) := by omega
      rw [List.take_length]
      go_wp2_with fail
      go_ret
      exact ⟨rfl, HW1.out⟩
theorem irdepth_any {l : List It} {n : Nat} {v : Value} {w : World} (h : PayI l (fun k => k < n) w v) (hn : n ≤ w.heap.size) (hd : idpL l ≤ 9000000000000000000) : Calls Tryz.prog 12 #[v] w fun e w' => e = .returned (.int .i64 (idpL l)) ∧ Below w.heap.size w w' :=
 irdepthI_any (.mk true [] [] zeroX l ps0) n v w h hn hd
open Go.RowKit Go.Lib

def XgPost2 (X : Ex) (w : World) (e : Ending) (w' : World) : Prop := ∃ g : Nat, e = .returned (.int .i64 g) ∧ g ≤ 601 ∧ (g ≤ 600 → xsz X ≤ g ∧ SmX X) ∧ Below w.heap.size w w'
def GxPost2 (X : Ex) (w : World) (e : Ending) (w' : World) : Prop := ∃ b : Bool, e = .returned (.bool b) ∧ (b = false → SmX X) ∧ Below w.heap.size w w'
theorem len_xszL : ∀ (l : List Ex), l.length ≤ xszL l
 | [] => Nat.zero_le _
 | a :: r => by have := len_xszL r; have := xsz_pos a; rw [xszL, List.length_cons]; omega
theorem sm_end {X : Ex} {k : Nat} (h1 : xsz X = 1 + xszL X.l) (h2 : 1 + xszL X.l ≤ k) (h3 : k ≤ 600) (hv : sz X.v ≤ 600) (h : ∀ i x, i < X.l.length → X.l[i]? = some x → SmX x) : xsz X ≤ k ∧ SmX X := by
 refine ⟨by omega, .mk X (by omega) (by have := len_xszL X.l; omega) fun x hx => ?_⟩
 obtain ⟨i, hi⟩ := List.getElem?_of_mem hx
 exact h i x (List.getElem?_eq_some_iff.1 hi).1 hi
set_option maxRecDepth 100000 in
set_option maxHeartbeats 4000000 in
theorem sizeX2_any (m : Nat) (hm : m ≤ 60) : ∀ (n : Nat) (X : Ex) (v : Value) (w : World), XL n w X v → n ≤ w.heap.size → Calls Tryz.prog 28 #[v, .int .i64 m] w (XgPost2 X w) := by
 induction m with
 | zero =>
   intro n X v w h hn
   obtain ⟨oV, cV, oK, cK, o, cap, rfl, -⟩ := xp_at h
   have HB0 := qh ((Below.refl w.heap.size w).alloc (Nat.le_refl _) (.cells (xc X oV cV oK cK o cap) 38))
   clear h
   go_enter Tryz.func28, Tryz.ntmps28
   go_wp2_with fail
   go_ret
   exact ⟨601, rfl, Nat.le_refl _, fun h => absurd h (by decide), HB0.out⟩
 | succ m ih =>
   intro n X v w h hn
   obtain ⟨oV, cV, oK, cK, o, cap, rfl, -⟩ := xp_at h
   obtain ⟨hlen, hcap, hlv, hat⟩ := xp_at2 h
   have B0 : Below w.heap.size w (w.alloc (.cells (xc X oV cV oK cK o cap) 38)) := (Below.refl _ _).alloc (Nat.le_refl _) _
   have HB0 := qh B0
   have HK0 := qh (heap_alloc_new w (.cells (xc X oV cV oK cK o cap) 38))
   have HV := qh (Great_any (LiesP.kept hlv (B0.mono hn)) (by have := B0.size; omega))
   have HC := qh hat
   have HI := qh (ih (by omega))
   have HSZ : Hid (xsz X = 1 + xszL X.l) := xsz_eq X
   unfold maxLen at hcap
   clear ih h hat hlv B0
   go_enter Tryz.func28, Tryz.ntmps28
   go_upto_region 1 with fail
   generalize w.alloc (Obj.cells (xc X oV cV oK cK o cap) 38) = w0 at *
   obtain ⟨⟨c0, c1, c2, c3, c4, c5, c6, c7, c8, c9, c10, c11, c12, c13, c14⟩, -, hb1⟩ := rc15 HK0.out
   have e0 : (((m + 1 : Nat) : Int) == 0) = false := by rw [beq_eq_false_iff_ne]; omega
   go_wp2_with fail
   refine HV.out.mono ?_
   rintro e w1 ⟨bg, rfl, hbg, b1⟩
   have HSV := qh hbg
   clear hbg
   have HB1 := qh (HB0.out.trans (b1.mono HB0.out.size))
   have HK1 := qh ((b1.block _ hb1).trans HK0.out)
   clear c0 c1 c2 c3 c4 c5 c6 c7 c8 c9 c10 c11 c12 c13 c14 hb1 HV HB0 HK0 b1
   obtain ⟨⟨c0, c1, c2, c3, c4, c5, c6, c7, c8, c9, c10, c11, c12, c13, c14⟩, -, hb1⟩ := rc15 HK1.out
   cases bg with
   | true =>
     go_wp2_with fail
     go_ret
     exact ⟨601, rfl, Nat.le_refl _, fun h => absurd h (by decide), HB1.out⟩
   | false =>
     by_cases hs1 : 2000 < X.s.size
     · have es1 : decide ((2000 : Int) < (X.s.size : Int)) = true := decide_eq_true (by omega)
       go_wp2_with fail
       go_ret
       exact ⟨601, rfl, Nat.le_refl _, fun h => absurd h (by decide), HB1.out⟩
     · have es1 : decide ((2000 : Int) < (X.s.size : Int)) = false := decide_eq_false (by omega)
       by_cases hs2 : 2000 < X.s2.size
       · have es2 : decide ((2000 : Int) < (X.s2.size : Int)) = true := decide_eq_true (by omega)
         go_wp2_with fail
         go_ret
         exact ⟨601, rfl, Nat.le_refl _, fun h => absurd h (by decide), HB1.out⟩
       · have es2 : decide ((2000 : Int) < (X.s2.size : Int)) = false := decide_eq_false (by omega)
         go_wp2_with fail
         clear c0 c1 c2 c3 c4 c5 c6 c7 c8 c9 c10 c11 c12 c13 c14 hb1 es1 es2 hs1 hs2 e0
         go_loopw [5, 6] (fun v5 v6 wr => ∃ j g : Nat, j ≤ X.l.length ∧ v6 = .int .i64 (j : Int) ∧ v5 = .int .i64 (g : Int) ∧ Hid (g ≤ 1300 ∧ (g ≤ 600 → 1 + xszL (X.l.take j) ≤ g)) ∧ Hid (g ≤ 600 → ∀ i x, i < j → X.l[i]? = some x → SmX x) ∧ Hid (Below w1.heap.size w1 wr)) (fun _ v _ => X.l.length - (RowKit.intOf v).toNat)
         case atStart => exact ⟨0, 1, Nat.zero_le _, rfl, rfl, ⟨by decide, fun _ => by rw [List.take_zero, xszL]; exact Nat.le_refl _⟩, fun _ i x h => absurd h (Nat.not_lt_zero _), Below.refl _ _⟩
         case round =>
          obtain ⟨j, g, hj, rfl, rfl, HG, HGS, HW1⟩ := hrel
          have HBr := qh ((HW1.out.block _ (Array.getElem?_eq_some_iff.1 HK1.out).1).trans HK1.out)
          obtain ⟨⟨c0, c1, c2, c3, c4, c5, c6, c7, c8, c9, c10, c11, c12, c13, c14⟩, -, hb1⟩ := rc15 HBr.out
          have hg13 := HG.out.1
          by_cases hlt : j < X.l.length
          · by_cases hg6 : g ≤ 600
            · have hx := List.getElem?_eq_getElem hlt
              generalize X.l[j] = x at hx
              have HXD := qh (xszL_take hx)
              have HXX := qh hx
              obtain ⟨b, off, oV', cV', oK', cK', o', cap', rfl, hb, hX, y0, y1, y2, y3, y4, y5, y6, y7, y8, y9, y10, y11, y12, y13, y14⟩ := HC.out j x hx
              have bwr : Below w.heap.size w wr := HB1.out.trans (HW1.out.mono HB1.out.size)
              have t : ∀ i, wr.cell? ⟨b, i, none⟩ = w.cell? ⟨b, i, none⟩ := fun i => World.cell?_of_block (bwr.block b (by omega))
              rw [← t] at y0 y1 y2 y3 y4 y5 y6 y7 y8 y9 y10 y11 y12 y13 y14
              have HCL := qh (HI.out n x _ wr (hX.bl (fun k hk => hk) (bwr.mono hn)) (by have := bwr.size; omega))
              have e1 : (j : Int) < (X.l.length : Int) := by omega
              have k0 : ¬ (j : Int) < 0 := by omega
              have eg : (g : Int) ≤ 600 := by omega
              have e2 : IntKind.i64.wrap ((j : Int) + 1) = ((j + 1 : Nat) : Int) := by rw [IntWalk.i64_in _ (by omega)]; rfl
              have em : IntKind.i64.wrap (((m + 1 : Nat) : Int) - 1) = ((m : Nat) : Int) := by rw [IntWalk.i64_in _ (by omega)]; omega
              have hHW := HW1.out.size
              clear t hX hx bwr
              go_wp2_with fail
              refine HCL.out.mono ?_
              rintro e w2 ⟨q, rfl, hq1, hq2, c2'⟩
              have H2 := qh (HW1.out.trans (c2'.mono hHW))
              have HQ : Hid (g + q ≤ 1300 ∧ (g + q ≤ 600 → 1 + xszL (X.l.take (j + 1)) ≤ g + q)) := ⟨by omega, fun h => by have := HG.out.2 hg6; have := (hq2 (by omega)).1; have := HXD.out; omega⟩
              have eq2 : IntKind.i64.wrap ((g : Int) + (q : Int)) = ((g + q : Nat) : Int) := by rw [IntWalk.i64_in _ (by omega)]; rfl
              have HQS : Hid (g + q ≤ 600 → ∀ i x, i < j + 1 → X.l[i]? = some x → SmX x) := fun h i x' hi h1 => by
               by_cases e : i = j
               · subst e; have h2 := HXX.out; rw [h1] at h2; injection h2 with h2; subst h2; exact (hq2 (by omega)).2
               · exact HGS.out (by omega) i x' (by omega) h1
              clear c0 c1 c2 c3 c4 c5 c6 c7 c8 c9 c10 c11 c12 c13 c14 hb1 y0 y1 y2 y3 y4 y5 y6 y7 y8 y9 y10 y11 y12 y13 y14 c2' hq2
              go_wp2_with fail
              refine ⟨⟨j + 1, g + q, hlt, rfl, rfl, HQ, HQS.out, H2.out⟩, ?_⟩
              simp only [RowKit.intOf]; omega
            · have e1 : (j : Int) < (X.l.length : Int) := by omega
              have eg : ¬ (g : Int) ≤ 600 := by omega
              obtain ⟨f1, f2⟩ := sz_fin HG.out.1 HG.out.2 (.inr (by omega))
              have HF := qh (And.intro f1 f2)
              have emn : min (g : Int) 601 = ((min g 601 : Nat) : Int) := by omega
              clear f1 f2
              go_wp2_with fail
              go_ret
              exact ⟨min g 601, rfl, HF.out.1, fun h => absurd h (by omega), HB1.out.trans (HW1.out.mono HB1.out.size)⟩
          · obtain rfl : j = X.l.length := by omega
            have e1 : ¬ (X.l.length : Int) < (X.l.length : Int) := by omega
            obtain ⟨f1, f2⟩ := sz_fin HG.out.1 HG.out.2 (.inl rfl)
            have HF := qh (And.intro f1 f2)
            have emn : min (g : Int) 601 = ((min g 601 : Nat) : Int) := by omega
            clear f1 f2
            go_wp2_with fail
            go_ret
            exact ⟨min g 601, rfl, HF.out.1, fun h => sm_end HSZ.out (HF.out.2 h) h (HSV.out (by trivial)) (fun i x h1 h2 => HGS.out (by omega) i x h1 h2), HB1.out.trans (HW1.out.mono HB1.out.size)⟩
set_option maxRecDepth 100000 in
set_option maxHeartbeats 2000000 in
theorem greatX2_any {n : Nat} {X : Ex} {v : Value} {w : World} (h : XL n w X v) (hn : n ≤ w.heap.size) : Calls Tryz.prog 15 #[v] w (GxPost2 X w) := by
 obtain ⟨oV, cV, oK, cK, o, cap, rfl, -⟩ := xp_at h
 have B0 : Below w.heap.size w (w.alloc (.cells (xc X oV cV oK cK o cap) 38)) := (Below.refl _ _).alloc (Nat.le_refl _) _
 have HB0 := qh B0
 have HS := qh (sizeX2_any 60 (Nat.le_refl _) n X _ _ (h.bl (fun k hk => hk) (B0.mono hn)) (by have := B0.size; omega))
 clear h B0
 go_enter Tryz.func15, Tryz.ntmps15
 go_wp2_with fail
 refine HS.out.mono ?_
 rintro e w1 ⟨g, rfl, hg1, hg2, b1⟩
 have B1 := qh (HB0.out.trans (b1.mono HB0.out.size))
 have HG := qh hg2
 clear hg2 b1
 go_wp2_with fail
 go_ret
 exact ⟨decide ((600 : Int) < (g : Int)), rfl, fun h => by have h1 := of_decide_eq_false h; have h2 := HG.out (by omega); exact h2.2, B1.out⟩
open Go.RowKit Go.Lib

def OKI : Nat → List It → Prop
 | 0, _ => False
 | d + 1, l => l.length ≤ 200 ∧ ∀ x ∈ l, SmX x.e ∧ x.lb.length ≤ 10 ∧ OKI d x.l
def GiPost (d : Nat) (l : List It) (w : World) (e : Ending) (w' : World) : Prop := ∃ r : Bool, e = .returned (.bool r) ∧ (r = false → OKI d l) ∧ Below w.heap.size w w'
theorem oki_end {d : Nat} {l : List It} (h : l.length ≤ 200) (h2 : ∀ j x, j < l.length → l[j]? = some x → SmX x.e ∧ x.lb.length ≤ 10 ∧ OKI d x.l) : OKI (d + 1) l := by
 refine ⟨h, fun x hx => ?_⟩
 obtain ⟨i, hi⟩ := List.getElem?_of_mem hx
 exact h2 i x (List.getElem?_eq_some_iff.1 hi).1 hi
set_option maxRecDepth 100000 in
set_option maxHeartbeats 8000000 in
theorem great7_any (d : Nat) (hd : d ≤ 10) : ∀ (n : Nat) (l : List It) (v : Value) (w : World), PayI l (fun k => k < n) w v → n ≤ w.heap.size → Calls Tryz.prog 7 #[v, .int .i64 d] w (GiPost d l w) := by
 induction d with
 | zero =>
   intro n l v w h hn
   obtain ⟨o, cap, rfl, hlen, hcap, hat⟩ := item_at h
   clear h hat
   go_enter Tryz.func7, Tryz.ntmps7
   go_wp2_with fail
   go_ret
   exact ⟨true, rfl, fun h => absurd h (by decide), Below.refl _ _⟩
 | succ d ih =>
   intro n l v w h hn
   obtain ⟨o, cap, rfl, hlen, hcap, hat⟩ := item_at h
   have HC := qh hat
   have HI := qh (ih (by omega))
   unfold maxLen at hcap
   clear h hat ih
   have e0 : (((d + 1 : Nat) : Int) == 0) = false := by rw [beq_eq_false_iff_ne]; omega
   by_cases hl2 : 200 < l.length
   · have es1 : decide ((200 : Int) < (l.length : Int)) = true := decide_eq_true (by omega)
     go_enter Tryz.func7, Tryz.ntmps7
     go_wp2_with fail
     go_ret
     exact ⟨true, rfl, fun h => absurd h (by decide), Below.refl _ _⟩
   have es1 : decide ((200 : Int) < (l.length : Int)) = false := decide_eq_false (by omega)
   have em : IntKind.i64.wrap (((d + 1 : Nat) : Int) - 1) = ((d : Nat) : Int) := by rw [IntWalk.i64_in _ (by omega)]; omega
   have HN0 := qh hn
   go_enter Tryz.func7, Tryz.ntmps7
   go_upto_region 4 with fail
   clear es1 e0
   go_loopw [5] (fun v5 wr => ∃ k : Nat, k ≤ l.length ∧ v5 = .int .i64 (k : Int) ∧ Hid (Below w.heap.size w wr) ∧ Hid (∀ j x, j < k → l[j]? = some x → SmX x.e ∧ x.lb.length ≤ 10 ∧ OKI d x.l)) (fun v _ => l.length - (RowKit.intOf v).toNat)
   case atStart => exact ⟨0, Nat.zero_le _, rfl, Below.refl _ _, fun j x h => absurd h (Nat.not_lt_zero _)⟩
   case round =>
    obtain ⟨k, hk, rfl, HW1, HKK⟩ := hrel
    by_cases hlt : k < l.length
    · have hx := List.getElem?_eq_getElem hlt
      generalize l[k] = x at hx
      obtain ⟨b, off, oL, cL, oV, cV, oK, cK, oE, cE, oI, cI, rfl, hb, hc, hrL, hxE, hpI⟩ := HC.out k x hx
      have HKS : Hid (SmX x.e ∧ x.lb.length ≤ 10 ∧ OKI d x.l → ∀ j X, j < k + 1 → l[j]? = some X → SmX X.e ∧ X.lb.length ≤ 10 ∧ OKI d X.l) := fun h j X hj h1 => by
       by_cases e : j = k
       · subst e; rw [hx] at h1; injection h1 with h1; rw [← h1]; exact h
       · exact HKK.out j X (by omega) h1
      have bwr : Below w.heap.size w wr := HW1.out
      have hsz := bwr.size
      have tk : ∀ i, i < n → wr.heap[i]? = w.heap[i]? := fun i hi => bwr.block i (by omega)
      have hc' : ∀ m u, (ic x oL cL oV cV oK cK oE cE oI cI).toList[m]? = some u → wr.cell? ⟨b, off + k * 22 + m, none⟩ = some u := fun m u h => (World.cell?_of_block (tk b hb)).trans (hc m u h)
      have HRE : Hid (wr.rangeAt b (off + k * 22 + 3) (xc x.e oV cV oK cK oE cE).toList) := fun m u hm => by
       have hlt : m < 15 := by have := (List.getElem?_eq_some_iff.1 hm).1; simpa using this
       rw [Nat.add_assoc (off + k * 22) 3 m]
       refine hc' (3 + m) u ?_
       rw [← hm]
       obtain rfl | rfl | rfl | rfl | rfl | rfl | rfl | rfl | rfl | rfl | rfl | rfl | rfl | rfl | rfl := (by omega : m = 0 ∨ m = 1 ∨ m = 2 ∨ m = 3 ∨ m = 4 ∨ m = 5 ∨ m = 6 ∨ m = 7 ∨ m = 8 ∨ m = 9 ∨ m = 10 ∨ m = 11 ∨ m = 12 ∨ m = 13 ∨ m = 14)
       all_goals rfl
      have HP : Hid (∀ W, Below wr.heap.size wr W → W.cell? ⟨b, off + k * 22 + 1, none⟩ = some (.string (tx x.nm)) ∧ W.cell? ⟨b, off + k * 22 + 2, none⟩ = some (.slice oL x.lb.length cL) ∧ W.cell? ⟨b, off + k * 22 + 18, none⟩ = some (.slice oI x.l.length cI) ∧ b < W.heap.size) := fun W hW =>
       ⟨(World.cell?_of_block (hW.block b (by omega))).trans (hc' 1 _ rfl), (World.cell?_of_block (hW.block b (by omega))).trans (hc' 2 _ rfl), (World.cell?_of_block (hW.block b (by omega))).trans (hc' 18 _ rfl), by have := hW.size; omega⟩
      have HLB : Hid (∀ W, Below wr.heap.size wr W → RowP (fun k => k < n) W oL cL x.lb.length 1 (fun j _ => .string (tx (x.lb.getD j [])))) := fun W hW => hrL.keptP fun i hi => ⟨hi, (hW.block i (by omega)).trans (tk i hi)⟩
      have HG : Hid (Calls Tryz.prog 15 #[.agg (xc x.e oV cV oK cK oE cE)] wr (GxPost2 x.e wr)) := greatX2_any (XP.keptP hxE fun i hi => ⟨hi, tk i hi⟩) (by omega)
      have HGI : Hid (∀ W, Below wr.heap.size wr W → Calls Tryz.prog 7 #[.slice oI x.l.length cI, .int .i64 d] W (GiPost d x.l W)) := fun W hW => HI.out n x.l _ W (hpI.keptP fun i hi => ⟨hi, (hW.block i (by omega)).trans (tk i hi)⟩) (by have := hW.size; omega)
      have H15 : Hid ((xc x.e oV cV oK cK oE cE).size = 15) := rfl
      have e1 : (k : Int) < (l.length : Int) := by omega
      have k0 : ¬ (k : Int) < 0 := by omega
      have e2 : IntKind.i64.wrap ((k : Int) + 1) = ((k + 1 : Nat) : Int) := by rw [IntWalk.i64_in _ (by omega)]; rfl
      have hnw : n ≤ wr.heap.size := by omega
      generalize xc x.e oV cV oK cK oE cE = ex at *
      clear hx hb hc hc' hrL hxE hpI tk bwr hsz HKK
      obtain ⟨y1, y2, y18, hbb⟩ := HP.out wr (Below.refl _ _)
      go_wp2_with (refine wpList_load_mid rfl 38 (.tmp 23) rfl b (off + k * 22 + 3) rfl ex.toList _ HRE.out Tryz.underlying38 rfl (by rw [Array.length_toList]; exact size38z H15.out) ?_)
      refine HG.out.mono ?_
      rintro e w1 ⟨r, rfl, hr, b1⟩
      have HB1 := qh b1
      have HWA := qh (HW1.out.trans (b1.mono HW1.out.size))
      clear y1 y2 y18 hbb
      obtain ⟨y1, y2, y18, hbb⟩ := HP.out w1 b1
      clear b1
      cases r with
      | true =>
        clear hr
        go_wp2_with fail
        go_ret
        exact ⟨true, rfl, fun h => absurd h (by decide), HWA.out⟩
      | false =>
      have HSX : Hid (SmX x.e) := hr rfl
      clear hr
      by_cases hlb : 10 < x.lb.length
      · have es2 : decide ((10 : Int) < (x.lb.length : Int)) = true := decide_eq_true (by omega)
        go_wp2_with fail
        go_ret
        exact ⟨true, rfl, fun h => absurd h (by decide), HWA.out⟩
      have es2 : decide ((10 : Int) < (x.lb.length : Int)) = false := decide_eq_false (by omega)
      by_cases hnm : 200 < (tx x.nm).size
      · have es3 : decide ((200 : Int) < ((tx x.nm).size : Int)) = true := decide_eq_true (by omega)
        go_wp2_with fail
        go_ret
        exact ⟨true, rfl, fun h => absurd h (by decide), HWA.out⟩
      have es3 : decide ((200 : Int) < ((tx x.nm).size : Int)) = false := decide_eq_false (by omega)
      go_wp2_with fail
      refine (HGI.out w1 HB1.out).mono ?_
      rintro e w2 ⟨r, rfl, hr, b2⟩
      have HB2 := qh (HB1.out.trans (b2.mono HB1.out.size))
      have HWB := qh (HWA.out.trans (b2.mono HWA.out.size))
      clear y1 y2 y18 hbb b2 es2 es3 hnm
      cases r with
      | true =>
        clear hr
        go_wp2_with fail
        go_ret
        exact ⟨true, rfl, fun h => absurd h (by decide), HWB.out⟩
      | false =>
      have HK2 := qh (HKS.out ⟨HSX.out, by omega, hr rfl⟩)
      clear hr
      obtain ⟨y1, y2, y18, hbb⟩ := HP.out w2 HB2.out
      have HL2 := qh (HLB.out w2 HB2.out)
      have hw2 : n ≤ w2.heap.size := by have := HB2.out.size; omega
      go_upto_region 9 with fail
      go_loopw [6] (fun v6 wq => ∃ j : Nat, j ≤ x.lb.length ∧ v6 = .int .i64 (j : Int) ∧ wq = w2) (fun v _ => x.lb.length - (RowKit.intOf v).toNat)
      case atStart => exact ⟨0, Nat.zero_le _, rfl, rfl⟩
      case round =>
       obtain ⟨j, hj, rfl, rfl⟩ := hrel
       by_cases hjl : j < x.lb.length
       · obtain ⟨bl, fl, rfl, hbl, z0⟩ := rowS_at HL2.out hjl
         have j1 : (j : Int) < (x.lb.length : Int) := by omega
         have j0 : ¬ (j : Int) < 0 := by omega
         have j2 : IntKind.i64.wrap ((j : Int) + 1) = ((j + 1 : Nat) : Int) := by rw [IntWalk.i64_in _ (by omega)]; rfl
         generalize tx (x.lb.getD j []) = s at *
         have hcl := HL2.out.2.1
         have hcl1 := HL2.out.1
         unfold maxLen at hcl
         by_cases hs : 2000 < s.size
         · have es4 : decide ((2000 : Int) < (s.size : Int)) = true := decide_eq_true (by omega)
           go_wp2_with fail
           go_ret
           exact ⟨true, rfl, fun h => absurd h (by decide), HWB.out⟩
         · have es4 : decide ((2000 : Int) < (s.size : Int)) = false := decide_eq_false (by omega)
           go_wp2_with fail
           refine ⟨⟨j + 1, hjl, rfl, by trivial⟩, ?_⟩
           simp only [RowKit.intOf]; omega
       · have j1 : ¬ (j : Int) < (x.lb.length : Int) := by omega
         go_wp2_with fail
         refine ⟨⟨k + 1, hlt, rfl, HWB.out, HK2.out⟩, ?_⟩
         simp only [RowKit.intOf]; omega
    · obtain rfl : k = l.length := by omega
      have e1 : ¬ (l.length : Int) < (l.length : Int) := by omega
      have HOK : Hid (OKI (d + 1) l) := oki_end (by omega) HKK.out
      go_wp2_with fail
      go_ret
      exact ⟨false, rfl, fun _ => HOK.out, HW1.out⟩
open Go.RowKit Go.Lib

theorem oki_len : ∀ {d : Nat} {l : List It}, OKI d l → l.length ≤ 200
 | 0, _, h => h.elim
 | _ + 1, _, h => h.1
theorem of_oki : ∀ {d : Nat} {l : List It}, OKI d l → ∀ x ∈ l, SmI x
 | 0, _, h => h.elim
 | d + 1, l, h => fun x hx => by
   obtain ⟨h1, h2, h3⟩ := h.2 x hx
   exact .mk x (by omega) h1 (by have := oki_len h3; omega) (of_oki h3)
theorem idp_oki : ∀ {d : Nat} {l : List It}, OKI d l → idpL l ≤ d
 | 0, _, h => h.elim
 | d + 1, l, h => by
   have key : ∀ m : List It, (∀ x ∈ m, idp x ≤ d + 1) → idpL m ≤ d + 1 := fun m => by
    induction m with
    | nil => intro _; exact Nat.zero_le _
    | cons a r ih =>
      intro hm
      rw [idpL]
      exact Nat.max_le.2 ⟨hm a (by simp), ih fun x hx => hm x (by simp [hx])⟩
   refine key l fun x hx => ?_
   have := idp_oki (h.2 x hx).2.2
   rw [idp_eq]
   cases x.b
   · exact Nat.zero_le _
   · simp only [if_true]; omega
end Go.Proofs.YtncjncacfagldaaGreatDoor

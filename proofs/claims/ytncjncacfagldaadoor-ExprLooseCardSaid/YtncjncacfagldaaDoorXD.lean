/- The reference's Depth, Great, Reserved. -/
import Derived.Test.YtncjncacfagldaaDoorXA
namespace Go.Proofs.YtncjncacfagldaaDoor
open Go.RowKit Go.Lib

theorem ret_i4 {a b : Int} (h : a = b) : Ending.returned (.int .i64 a) = .returned (.int .i64 b) := by rw [h]
set_option maxRecDepth 100000 in
set_option maxHeartbeats 4000000 in
theorem rdepth_any (X : Ex) : ∀ (n : Nat) (v : Value) (w : World), XL n w X v → n ≤ w.heap.size → xdp X ≤ 9000000000000000000 → Calls Tryd.prog 14 #[v] w fun e w' => e = .returned (.int .i64 (xdp X)) ∧ Below w.heap.size w w' := by
  induction X using ex_ind with
  | h X ih =>
    intro n v w h hn hd
    obtain ⟨oV, cV, oK, cK, o, cap, rfl, hlen, hcap, -, hat⟩ := xp_at h
    have B0 : Below w.heap.size w (w.alloc (.cells (xc X oV cV oK cK o cap) 33)) := (Below.refl _ _).alloc (Nat.le_refl _) _
    have HB0 := Lib.hid B0
    have HK0 := Lib.hid (heap_alloc_new w (.cells (xc X oV cV oK cK o cap) 33))
    have HD : Hid (xdp X = 1 + xdpL X.l) := xdp_eq X
    have HC := Lib.hid hat
    have HI : Hid (∀ x ∈ X.l, ∀ (n : Nat) (v : Value) (w : World), XL n w x v → n ≤ w.heap.size → Calls Tryd.prog 14 #[v] w fun e w' => e = .returned (.int .i64 (xdp x)) ∧ Below w.heap.size w w') := fun x hx n v w hv hw => ih x hx n v w hv hw (by have := xdpL_mem hx; have := xdp_eq X; omega)
    have HDL := Lib.hid hd
    unfold maxLen at hcap
    generalize xdp X = D at *
    clear ih h hat B0 hd
    go_enter Tryd.func14, Tryd.ntmps14
    go_upto_region 3 with fail
    generalize w.alloc (Obj.cells (xc X oV cV oK cK o cap) 33) = w0 at *
    go_loopw [3, 4] (fun v3 v4 wr => ∃ k : Nat, k ≤ X.l.length ∧ v4 = .int .i64 (k : Int) ∧ v3 = .int .i64 (xdpL (X.l.take k) : Nat) ∧ Hid (Below w0.heap.size w0 wr)) (fun _ v _ => X.l.length - (RowKit.intOf v).toNat)
    case atStart => exact ⟨0, Nat.zero_le _, rfl, rfl, Below.refl _ _⟩
    case round =>
      obtain ⟨k, hk, rfl, rfl, HW1⟩ := hrel
      have HBr := Lib.hid ((HW1.out.block _ (Array.getElem?_eq_some_iff.1 HK0.out).1).trans HK0.out)
      obtain ⟨⟨c0, c1, c2, c3, c4, c5, c6, c7, c8, c9, c10, c11, c12, c13, c14⟩, -, hb1⟩ := rc15 HBr.out
      by_cases hlt : k < X.l.length
      · have hx := List.getElem?_eq_getElem hlt
        generalize X.l[k] = x at hx
        have HXD := Lib.hid (xdpL_take hx)
        have HM := Lib.hid (List.mem_of_getElem? hx)
        obtain ⟨b, off, oV', cV', oK', cK', o', cap', rfl, hb, hX, y0, y1, y2, y3, y4, y5, y6, y7, y8, y9, y10, y11, y12, y13, y14⟩ := HC.out k x hx
        have bwr : Below w.heap.size w wr := HB0.out.trans (HW1.out.mono HB0.out.size)
        have t : ∀ i, wr.cell? ⟨b, i, none⟩ = w.cell? ⟨b, i, none⟩ := fun i => World.cell?_of_block (bwr.block b (by omega))
        rw [← t] at y0 y1 y2 y3 y4 y5 y6 y7 y8 y9 y10 y11 y12 y13 y14
        have HCL := Lib.hid (HI.out x HM.out n _ wr (hX.bl (fun k hk => hk) (bwr.mono hn)) (by have := bwr.size; omega))
        have e1 : (k : Int) < (X.l.length : Int) := by omega
        have k0 : ¬ (k : Int) < 0 := by omega
        have e2 : IntKind.i64.wrap ((k : Int) + 1) = ((k + 1 : Nat) : Int) := by rw [IntWalk.i64_in _ (by omega)]; rfl
        have hHW := HW1.out.size
        clear t hX hx bwr
        go_wp2_with fail
        refine HCL.out.mono ?_
        rintro e w2 ⟨rfl, c2'⟩
        have H2 := Lib.hid (HW1.out.trans (c2'.mono hHW))
        have HMX : Hid (max ((xdpL (X.l.take k) : Nat) : Int) ((xdp x : Nat) : Int) = ((xdpL (X.l.take (k + 1)) : Nat) : Int)) := by rw [HXD.out]; unfold Hid; omega
        clear c0 c1 c2 c3 c4 c5 c6 c7 c8 c9 c10 c11 c12 c13 c14 hb1 y0 y1 y2 y3 y4 y5 y6 y7 y8 y9 y10 y11 y12 y13 y14 c2'
        go_wp2_with fail
        refine ⟨⟨k + 1, hlt, rfl, by rw [HMX.out], H2.out⟩, ?_⟩
        simp only [RowKit.intOf]; omega
      · obtain rfl : k = X.l.length := by omega
        have e1 : ¬ (X.l.length : Int) < (X.l.length : Int) := by omega
        rw [List.take_length]
        have HXB : Hid (xdpL X.l ≤ 9000000000000000000) := by
          have h1 := HD.out
          have h2 := HDL.out
          unfold Hid; omega
        have e2 : IntKind.i64.wrap (((xdpL X.l : Nat) : Int) + 1) = (D : Int) := by rw [IntWalk.i64_in _ (by have := HXB.out; omega), HD.out]; omega
        go_wp2_with fail
        go_ret
        exact ⟨rfl, HB0.out.trans (HW1.out.mono HB0.out.size)⟩
/-- what size answers -/
def XgPost (X : Ex) (w : World) (e : Ending) (w' : World) : Prop := ∃ g : Nat, e = .returned (.int .i64 g) ∧ g ≤ 601 ∧ (g ≤ 600 → xsz X ≤ g) ∧ Below w.heap.size w w'
theorem xszL_take {l : List Ex} {k : Nat} {x : Ex} (h : l[k]? = some x) : xszL (l.take (k + 1)) = xszL (l.take k) + xsz x := by
  have app : ∀ (a : List Ex), xszL (a ++ [x]) = xszL a + xsz x := by
    intro a
    induction a with
    | nil => show xsz x + 0 = 0 + xsz x; omega
    | cons c r ih => show xsz c + xszL (r ++ [x]) = xsz c + xszL r + xsz x; rw [ih]; omega
  rw [List.take_add_one, h]
  exact app _
theorem xszL_len (l : List Ex) : l.length ≤ xszL l := by
  induction l with
  | nil => exact Nat.zero_le _
  | cons a r ih => rw [xszL, List.length_cons]; have := xsz_pos a; omega
end Go.Proofs.YtncjncacfagldaaDoor

/- The reference's Great, Reserved. -/
namespace Go.Proofs.YtncjncacfagldaaDoor
open Go.RowKit Go.Lib

theorem sz_fin {l : List Ex} {j g : Nat} (h1 : g ≤ 1300) (h2 : g ≤ 600 → 1 + xszL (l.take j) ≤ g) (hx : j = l.length ∨ 600 < g) : min g 601 ≤ 601 ∧ (min g 601 ≤ 600 → 1 + xszL l ≤ min g 601) := by
  refine ⟨by omega, fun h => ?_⟩
  have hg : g ≤ 600 := by omega
  have := h2 hg
  rcases hx with rfl | hx
  · rw [List.take_length] at this; omega
  · omega
set_option maxRecDepth 100000 in
set_option maxHeartbeats 8000000 in
theorem sizeX_any (m : Nat) (hm : m ≤ 60) : ∀ (n : Nat) (X : Ex) (v : Value) (w : World), XL n w X v → n ≤ w.heap.size → Calls Tryd.prog 25 #[v, .int .i64 m] w (XgPost X w) := by
  induction m with
  | zero =>
    intro n X v w h hn
    obtain ⟨oV, cV, oK, cK, o, cap, rfl, -⟩ := xp_at h
    have HB0 := Lib.hid ((Below.refl w.heap.size w).alloc (Nat.le_refl _) (.cells (xc X oV cV oK cK o cap) 33))
    clear h
    go_enter Tryd.func25, Tryd.ntmps25
    go_wp2_with fail
    go_ret
    exact ⟨601, rfl, Nat.le_refl _, fun h => absurd h (by decide), HB0.out⟩
  | succ m ih =>
    intro n X v w h hn
    obtain ⟨oV, cV, oK, cK, o, cap, rfl, -⟩ := xp_at h
    obtain ⟨hlen, hcap, hlv, hat⟩ := xp_at2 h
    have B0 : Below w.heap.size w (w.alloc (.cells (xc X oV cV oK cK o cap) 33)) := (Below.refl _ _).alloc (Nat.le_refl _) _
    have HB0 := Lib.hid B0
    have HK0 := Lib.hid (heap_alloc_new w (.cells (xc X oV cV oK cK o cap) 33))
    have HV := Lib.hid (Great_any (LiesP.kept hlv (B0.mono hn)) (by have := B0.size; omega))
    have HC := Lib.hid hat
    have HI := Lib.hid (ih (by omega))
    have HSZ : Hid (xsz X = 1 + xszL X.l) := xsz_eq X
    unfold maxLen at hcap
    clear ih h hat hlv B0
    go_enter Tryd.func25, Tryd.ntmps25
    go_upto_region 1 with fail
    generalize w.alloc (Obj.cells (xc X oV cV oK cK o cap) 33) = w0 at *
    obtain ⟨⟨c0, c1, c2, c3, c4, c5, c6, c7, c8, c9, c10, c11, c12, c13, c14⟩, -, hb1⟩ := rc15 HK0.out
    have e0 : (((m + 1 : Nat) : Int) == 0) = false := by rw [beq_eq_false_iff_ne]; omega
    go_wp2_with fail
    refine HV.out.mono ?_
    rintro e w1 ⟨bg, rfl, -, b1⟩
    have HB1 := Lib.hid (HB0.out.trans (b1.mono HB0.out.size))
    have HK1 := Lib.hid ((b1.block _ hb1).trans HK0.out)
    clear c0 c1 c2 c3 c4 c5 c6 c7 c8 c9 c10 c11 c12 c13 c14 hb1 HV HB0 HK0 b1
    obtain ⟨⟨c0, c1, c2, c3, c4, c5, c6, c7, c8, c9, c10, c11, c12, c13, c14⟩, -, hb1⟩ := rc15 HK1.out
    cases bg with
    | true =>
      go_wp2_with fail
      go_ret
      exact ⟨601, rfl, Nat.le_refl _, fun h => absurd h (by decide), HB1.out⟩
    | false =>
      by_cases hs1 : 2000 < X.s.size
      · have es1 : decide ((2000 : Int) < (X.s.size : Int)) = true := decide_eq_true (by omega)
        go_wp2_with fail
        go_ret
        exact ⟨601, rfl, Nat.le_refl _, fun h => absurd h (by decide), HB1.out⟩
      · have es1 : decide ((2000 : Int) < (X.s.size : Int)) = false := decide_eq_false (by omega)
        by_cases hs2 : 2000 < X.s2.size
        · have es2 : decide ((2000 : Int) < (X.s2.size : Int)) = true := decide_eq_true (by omega)
          go_wp2_with fail
          go_ret
          exact ⟨601, rfl, Nat.le_refl _, fun h => absurd h (by decide), HB1.out⟩
        · have es2 : decide ((2000 : Int) < (X.s2.size : Int)) = false := decide_eq_false (by omega)
          go_wp2_with fail
          clear c0 c1 c2 c3 c4 c5 c6 c7 c8 c9 c10 c11 c12 c13 c14 hb1 es1 es2 hs1 hs2 e0
          go_loopw [5, 6] (fun v5 v6 wr => ∃ j g : Nat, j ≤ X.l.length ∧ v6 = .int .i64 (j : Int) ∧ v5 = .int .i64 (g : Int) ∧ Hid (g ≤ 1300 ∧ (g ≤ 600 → 1 + xszL (X.l.take j) ≤ g)) ∧ Hid (Below w1.heap.size w1 wr)) (fun _ v _ => X.l.length - (RowKit.intOf v).toNat)
          case atStart => exact ⟨0, 1, Nat.zero_le _, rfl, rfl, ⟨by decide, fun _ => by rw [List.take_zero, xszL]; exact Nat.le_refl _⟩, Below.refl _ _⟩
          case round =>
            obtain ⟨j, g, hj, rfl, rfl, HG, HW1⟩ := hrel
            have HBr := Lib.hid ((HW1.out.block _ (Array.getElem?_eq_some_iff.1 HK1.out).1).trans HK1.out)
            obtain ⟨⟨c0, c1, c2, c3, c4, c5, c6, c7, c8, c9, c10, c11, c12, c13, c14⟩, -, hb1⟩ := rc15 HBr.out
            have hg13 := HG.out.1
            by_cases hlt : j < X.l.length
            · by_cases hg6 : g ≤ 600
              · have hx := List.getElem?_eq_getElem hlt
                generalize X.l[j] = x at hx
                have HXD := Lib.hid (xszL_take hx)
                obtain ⟨b, off, oV', cV', oK', cK', o', cap', rfl, hb, hX, y0, y1, y2, y3, y4, y5, y6, y7, y8, y9, y10, y11, y12, y13, y14⟩ := HC.out j x hx
                have bwr : Below w.heap.size w wr := HB1.out.trans (HW1.out.mono HB1.out.size)
                have t : ∀ i, wr.cell? ⟨b, i, none⟩ = w.cell? ⟨b, i, none⟩ := fun i => World.cell?_of_block (bwr.block b (by omega))
                rw [← t] at y0 y1 y2 y3 y4 y5 y6 y7 y8 y9 y10 y11 y12 y13 y14
                have HCL := Lib.hid (HI.out n x _ wr (hX.bl (fun k hk => hk) (bwr.mono hn)) (by have := bwr.size; omega))
                have e1 : (j : Int) < (X.l.length : Int) := by omega
                have k0 : ¬ (j : Int) < 0 := by omega
                have eg : (g : Int) ≤ 600 := by omega
                have e2 : IntKind.i64.wrap ((j : Int) + 1) = ((j + 1 : Nat) : Int) := by rw [IntWalk.i64_in _ (by omega)]; rfl
                have em : IntKind.i64.wrap (((m + 1 : Nat) : Int) - 1) = ((m : Nat) : Int) := by rw [IntWalk.i64_in _ (by omega)]; omega
                have hHW := HW1.out.size
                clear t hX hx bwr
                go_wp2_with fail
                refine HCL.out.mono ?_
                rintro e w2 ⟨q, rfl, hq1, hq2, c2'⟩
                have H2 := Lib.hid (HW1.out.trans (c2'.mono hHW))
                have HQ : Hid (g + q ≤ 1300 ∧ (g + q ≤ 600 → 1 + xszL (X.l.take (j + 1)) ≤ g + q)) := ⟨by omega, fun h => by have := HG.out.2 hg6; have := hq2 (by omega); have := HXD.out; omega⟩
                have eq2 : IntKind.i64.wrap ((g : Int) + (q : Int)) = ((g + q : Nat) : Int) := by rw [IntWalk.i64_in _ (by omega)]; rfl
                clear c0 c1 c2 c3 c4 c5 c6 c7 c8 c9 c10 c11 c12 c13 c14 hb1 y0 y1 y2 y3 y4 y5 y6 y7 y8 y9 y10 y11 y12 y13 y14 c2' hq2
                go_wp2_with fail
                refine ⟨⟨j + 1, g + q, hlt, rfl, rfl, HQ, H2.out⟩, ?_⟩
                simp only [RowKit.intOf]; omega
              · have e1 : (j : Int) < (X.l.length : Int) := by omega
                have eg : ¬ (g : Int) ≤ 600 := by omega
                obtain ⟨f1, f2⟩ := sz_fin HG.out.1 HG.out.2 (.inr (by omega))
                have HF := Lib.hid (And.intro f1 f2)
                have emn : min (g : Int) 601 = ((min g 601 : Nat) : Int) := by omega
                clear f1 f2
                go_wp2_with fail
                go_ret
                exact ⟨min g 601, rfl, HF.out.1, by rw [HSZ.out]; exact HF.out.2, HB1.out.trans (HW1.out.mono HB1.out.size)⟩
            · obtain rfl : j = X.l.length := by omega
              have e1 : ¬ (X.l.length : Int) < (X.l.length : Int) := by omega
              obtain ⟨f1, f2⟩ := sz_fin HG.out.1 HG.out.2 (.inl rfl)
              have HF := Lib.hid (And.intro f1 f2)
              have emn : min (g : Int) 601 = ((min g 601 : Nat) : Int) := by omega
              clear f1 f2
              go_wp2_with fail
              go_ret
              exact ⟨min g 601, rfl, HF.out.1, by rw [HSZ.out]; exact HF.out.2, HB1.out.trans (HW1.out.mono HB1.out.size)⟩
/-- what Great answers -/
def GxPost (X : Ex) (w : World) (e : Ending) (w' : World) : Prop := ∃ b : Bool, e = .returned (.bool b) ∧ (b = false → xsz X ≤ 600) ∧ Below w.heap.size w w'
set_option maxRecDepth 100000 in
set_option maxHeartbeats 2000000 in
theorem greatX_any {n : Nat} {X : Ex} {v : Value} {w : World} (h : XL n w X v) (hn : n ≤ w.heap.size) : Calls Tryd.prog 11 #[v] w (GxPost X w) := by
  obtain ⟨oV, cV, oK, cK, o, cap, rfl, -⟩ := xp_at h
  have B0 : Below w.heap.size w (w.alloc (.cells (xc X oV cV oK cK o cap) 33)) := (Below.refl _ _).alloc (Nat.le_refl _) _
  have HB0 := Lib.hid B0
  have HS := Lib.hid (sizeX_any 60 (Nat.le_refl _) n X _ _ (h.bl (fun k hk => hk) (B0.mono hn)) (by have := B0.size; omega))
  clear h B0
  go_enter Tryd.func11, Tryd.ntmps11
  go_wp2_with fail
  refine HS.out.mono ?_
  rintro e w1 ⟨g, rfl, hg1, hg2, b1⟩
  have B1 := Lib.hid (HB0.out.trans (b1.mono HB0.out.size))
  have HG := Lib.hid hg2
  clear hg2 b1
  go_wp2_with fail
  go_ret
  exact ⟨decide ((600 : Int) < (g : Int)), rfl, fun h => by have h1 := of_decide_eq_false h; have h2 := HG.out (by omega); omega, B1.out⟩
set_option maxRecDepth 100000 in
theorem rres_any (x : List UInt8) (w : World) : Calls Tryd.prog 16 #[.string (tx x)] w fun e w' => e = .returned (.bool (reserved x)) ∧ w' = w := by
  have HR : Hid (reserved x = (decide (x = sTrue) || decide (x = sFalse) || decide (x = sNull) || decide (x = sFor) || decide (x = sIn) || decide (x = sIf))) := rfl
  obtain ⟨b0, h0⟩ : ∃ b, decide (x = sTrue) = b := ⟨_, rfl⟩
  have e0 : ((tx x).toList == [116, 114, 117, 101]) = b0 := by rw [toList_tx, ← h0]; exact beqd x _
  obtain ⟨b1, h1⟩ : ∃ b, decide (x = sFalse) = b := ⟨_, rfl⟩
  have e1 : ((tx x).toList == [102, 97, 108, 115, 101]) = b1 := by rw [toList_tx, ← h1]; exact beqd x _
  obtain ⟨b2, h2⟩ : ∃ b, decide (x = sNull) = b := ⟨_, rfl⟩
  have e2 : ((tx x).toList == [110, 117, 108, 108]) = b2 := by rw [toList_tx, ← h2]; exact beqd x _
  obtain ⟨b3, h3⟩ : ∃ b, decide (x = sFor) = b := ⟨_, rfl⟩
  have e3 : ((tx x).toList == [102, 111, 114]) = b3 := by rw [toList_tx, ← h3]; exact beqd x _
  obtain ⟨b4, h4⟩ : ∃ b, decide (x = sIn) = b := ⟨_, rfl⟩
  have e4 : ((tx x).toList == [105, 110]) = b4 := by rw [toList_tx, ← h4]; exact beqd x _
  obtain ⟨b5, h5⟩ : ∃ b, decide (x = sIf) = b := ⟨_, rfl⟩
  have e5 : ((tx x).toList == [105, 102]) = b5 := by rw [toList_tx, ← h5]; exact beqd x _
  rw [h0, h1, h2, h3, h4, h5] at HR
  clear h0 h1 h2 h3 h4 h5
  cases b0 with
  | true =>
    go_enter Tryd.func16, Tryd.ntmps16
    go_wp2
    go_ret
    exact ⟨by rw [HR.out] <;> rfl, rfl⟩
  | false =>
    cases b1 with
    | true =>
      go_enter Tryd.func16, Tryd.ntmps16
      go_wp2
      go_ret
      exact ⟨by rw [HR.out] <;> rfl, rfl⟩
    | false =>
      cases b2 with
      | true =>
        go_enter Tryd.func16, Tryd.ntmps16
        go_wp2
        go_ret
        exact ⟨by rw [HR.out] <;> rfl, rfl⟩
      | false =>
        cases b3 with
        | true =>
          go_enter Tryd.func16, Tryd.ntmps16
          go_wp2
          go_ret
          exact ⟨by rw [HR.out] <;> rfl, rfl⟩
        | false =>
          cases b4 with
          | true =>
            go_enter Tryd.func16, Tryd.ntmps16
            go_wp2
            go_ret
            exact ⟨by rw [HR.out] <;> rfl, rfl⟩
          | false =>
            cases b5 with
            | true =>
              go_enter Tryd.func16, Tryd.ntmps16
              go_wp2
              go_ret
              exact ⟨by rw [HR.out] <;> rfl, rfl⟩
            | false =>
              go_enter Tryd.func16, Tryd.ntmps16
              go_wp2
              go_ret
              exact ⟨by rw [HR.out] <;> rfl, rfl⟩
end Go.Proofs.YtncjncacfagldaaDoor

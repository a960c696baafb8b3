import Derived.Test.YtncjncacfagldaaGreatDoorYPT
namespace Go.Proofs.YtncjncacfagldaaGreatDoor
open Go.RowKit Go.Lib

set_option maxRecDepth 100000 in
set_option maxHeartbeats 8000000 in
theorem same10P (X : It) : ∀ (n : Nat) (a b : Value) (w : World), PayI X.l (fun k => k < n) w a → PayI X.l (fun k => k < n) w b → n ≤ w.heap.size → Calls Tryz.prog 10 #[a, b, .bool true] w fun e w' => e = .returned (.bool true) ∧ Below w.heap.size w w' := by
 induction X using it_ind with
 | h X ih =>
   intro n a b w ha hb hn
   generalize X.l = A at *
   obtain ⟨o, cap, rfl, hlen, hcap, hat⟩ := item_at ha
   obtain ⟨o', cap', rfl, hlen', hcap', hat'⟩ := item_at hb
   have HCA := qh hat
   have HCB := qh hat'
   have HIH := qh ih
   unfold maxLen at hcap hcap'
   have HN0 := qh hn
   clear ih ha hb hat hat' hn
   go_enter Tryz.func10, Tryz.ntmps10
   go_upto_region 4 with fail
   go_loopw [7] (fun v7 wr => ∃ k : Nat, k ≤ A.length ∧ v7 = .int .i64 (k : Int) ∧ Hid (Below w.heap.size w wr)) (fun v _ => A.length - (RowKit.intOf v).toNat)
   case atStart => exact ⟨0, Nat.zero_le _, rfl, Below.refl _ _⟩
   case round =>
    obtain ⟨k, hk, rfl, HW1⟩ := hrel
    by_cases hlt : k < A.length
    · have hx := List.getElem?_eq_getElem hlt
      generalize A[k] = x at hx
      obtain ⟨bx, off, oL, cL, oV, cV, oK, cK, oE, cE, oI, cI, rfl, hbx, hcx, hrL, hxE, hpI⟩ := HCA.out k x hx
      obtain ⟨bY, off', oL', cL', oV', cV', oK', cK', oE', cE', oI', cI', rfl, hbY, hcy, hrL', hxE', hpI'⟩ := HCB.out k x hx
      have hM := qh (List.mem_of_getElem? hx)
      have bwr : Below w.heap.size w wr := HW1.out
      have hn := HN0.out
      have tk : ∀ i, i < n → wr.heap[i]? = w.heap[i]? := fun i hi => bwr.block i (by omega)
      have HRX : Hid (∀ m u, (ic x oL cL oV cV oK cK oE cE oI cI).toList[m]? = some u → wr.cell? ⟨bx, off + k * 22 + m, none⟩ = some u) := fun m u h => (World.cell?_of_block (tk bx hbx)).trans (hcx m u h)
      have HRY : Hid (∀ m u, (ic x oL' cL' oV' cV' oK' cK' oE' cE' oI' cI').toList[m]? = some u → wr.cell? ⟨bY, off' + k * 22 + m, none⟩ = some u) := fun m u h => (World.cell?_of_block (tk bY hbY)).trans (hcy m u h)
      have HLX := qh (hrL.keptP (P' := fun k => k < n) fun i hi => ⟨hi, tk i hi⟩)
      have HLY := qh (hrL'.keptP (P' := fun k => k < n) fun i hi => ⟨hi, tk i hi⟩)
      have HEX : Hid (XL n wr x.e (.agg (xc x.e oV cV oK cK oE cE))) := XP.keptP hxE fun i hi => ⟨hi, tk i hi⟩
      have HEY : Hid (XL n wr x.e (.agg (xc x.e oV' cV' oK' cK' oE' cE'))) := XP.keptP hxE' fun i hi => ⟨hi, tk i hi⟩
      have HPX := qh (hpI.keptP (P' := fun k => k < n) fun i hi => ⟨hi, tk i hi⟩)
      have HPY := qh (hpI'.keptP (P' := fun k => k < n) fun i hi => ⟨hi, tk i hi⟩)
      have HIX := qh (HIH.out x hM.out)
      have e1 : (k : Int) < (A.length : Int) := by omega
      have k0 : ¬ (k : Int) < 0 := by omega
      have e2 : IntKind.i64.wrap ((k : Int) + 1) = ((k + 1 : Nat) : Int) := by rw [IntWalk.i64_in _ (by omega)]; rfl
      obtain ⟨H1cx, -⟩ := ic_ones x oL cL oV cV oK cK oE cE oI cI
      obtain ⟨H1cy, -⟩ := ic_ones x oL' cL' oV' cV' oK' cK' oE' cE' oI' cI'
      have H22cx : Hid ((ic x oL cL oV cV oK cK oE cE oI cI).size = 22) := rfl
      have H22cy : Hid ((ic x oL' cL' oV' cV' oK' cK' oE' cE' oI' cI').size = 22) := rfl
      have H1cx := qh H1cx
      have H1cy := qh H1cy
      obtain ⟨cx, hcX⟩ : ∃ q, ic x oL cL oV cV oK cK oE cE oI cI = q := ⟨_, rfl⟩
      obtain ⟨cy, hcY⟩ : ∃ q, ic x oL' cL' oV' cV' oK' cK' oE' cE' oI' cI' = q := ⟨_, rfl⟩
      rw [hcX] at HRX H22cx H1cx
      rw [hcY] at HRY H22cy H1cy
      have HCX := qh hcX
      have HCY := qh hcY
      obtain ⟨N, hN⟩ : ∃ N, N = wr.heap.size := ⟨_, rfl⟩
      have S0 := held_at hN
      have LBX : Hid (bx < N) := by have := bwr.size; unfold Hid; omega
      have LBY : Hid (bY < N) := by have := bwr.size; unfold Hid; omega
      have HNN : Hid (n ≤ N) := by have := bwr.size; unfold Hid; omega
      have HWN : Hid (w.heap.size ≤ N) := by have := bwr.size; unfold Hid; omega
      have HNE0 := qh hN
      clear hx hcx hcy hrL hrL' hxE hxE' hpI hpI' tk hcX hcY hn hbx hbY bwr hN
      go_upto_region 6 with fail
      go_cut [8, 9] (fun p1 p2 wx => ∃ g1 g2 : Nat, p1 = .pointer (some ⟨g1, 0, none⟩) ∧ p2 = .pointer (some ⟨g2, 0, none⟩) ∧ wx.heap[g1]? = some (.cells cx 40 (0, 0)) ∧ wx.heap[g2]? = some (.cells cy 40 (0, 0)) ∧ Below N wr wx ∧ N ≤ g1 ∧ N ≤ g2)
      case first =>
       refine wp_region_noPanic ?_
       refine wp_region_held_drew (S := (fun W => (∀ b o, b < N → W.cell? ⟨b, o, none⟩ = wr.cell? ⟨b, o, none⟩) ∧ Hid (Below N wr W) ∧ Hid (N ≤ W.heap.size))) (by kernel_rfl) ?_ (fun hH => ?_)
       · exact S0
       generalize wr.drew = Ws at *
       refine wpAnyH_take (i := 0) (oi := { dst := some 22, op := Op.move (Operand.tmp 0), type := 22, pos := _, after := _, guard := none }) (v := ?_) rfl (by kernel_rfl) (by kernel_rfl) (by kernel_rfl) (fun _ _ _ h => h) (Or.inl ⟨by rfl, ?_⟩) (by assumption) ?_
       rotate_left
       · (intro w hSw; (try dsimp only at hSw); go_simp; try with_reducible rfl)
       try simp only [Act.put, sqa, sqb, sqc]
       refine wpAnyH_take (i := 1) (oi := { dst := some 23, op := Op.move (Operand.tmp 7), type := 3, pos := _, after := _, guard := none }) (v := ?_) rfl (by kernel_rfl) (by kernel_rfl) (by kernel_rfl) (fun _ _ _ h => h) (Or.inl ⟨by rfl, ?_⟩) (by assumption) ?_
       rotate_left
       · (intro w hSw; (try dsimp only at hSw); go_simp; try with_reducible rfl)
       try simp only [Act.put, sqa, sqb, sqc]
       refine wpAnyH_take (i := 2) (oi := { dst := some 24, op := Op.indexAddr 22 (Operand.tmp 22) (Operand.tmp 23), type := 0, pos := _, after := _, guard := none }) (v := ?_) rfl (by kernel_rfl) (by kernel_rfl) (by kernel_rfl) (fun _ _ _ h => h) (Or.inl ⟨by rfl, ?_⟩) (by assumption) ?_
       rotate_left
       · (intro w hSw; (try dsimp only at hSw); go_simp; try with_reducible rfl)
       try simp only [Act.put, sqa, sqb, sqc]
       refine wpAnyH_take (i := 3) (oi := { dst := some 25, op := Op.load 40 (Operand.tmp 24), type := 40, pos := _, after := _, guard := none }) (v := .agg cx) rfl (by kernel_rfl) (by kernel_rfl) (by kernel_rfl) (fun _ _ _ h => h) (Or.inl ⟨by rfl, ?_⟩) (by assumption) ?_
       · (intro W hSw;  exact exec_load40 rfl rfl (fun m u h => (hSw.1 bx _ LBX.out).trans (HRX.out m u h)) H22cx.out)
       try simp only [Act.put, sqa, sqb, sqc]
       refine wpAnyH_take (i := 4) (oi := { dst := some 26, op := Op.move (Operand.tmp 1), type := 22, pos := _, after := _, guard := none }) (v := ?_) rfl (by kernel_rfl) (by kernel_rfl) (by kernel_rfl) (fun _ _ _ h => h) (Or.inl ⟨by rfl, ?_⟩) (by assumption) ?_
       rotate_left
       · (intro w hSw; (try dsimp only at hSw); go_simp; try with_reducible rfl)
       try simp only [Act.put, sqa, sqb, sqc]
       refine wpAnyH_take (i := 5) (oi := { dst := some 27, op := Op.move (Operand.tmp 7), type := 3, pos := _, after := _, guard := none }) (v := ?_) rfl (by kernel_rfl) (by kernel_rfl) (by kernel_rfl) (fun _ _ _ h => h) (Or.inl ⟨by rfl, ?_⟩) (by assumption) ?_
       rotate_left
       · (intro w hSw; (try dsimp only at hSw); go_simp; try with_reducible rfl)
       try simp only [Act.put, sqa, sqb, sqc]
       refine wpAnyH_take (i := 6) (oi := { dst := some 28, op := Op.indexAddr 22 (Operand.tmp 26) (Operand.tmp 27), type := 0, pos := _, after := _, guard := none }) (v := ?_) rfl (by kernel_rfl) (by kernel_rfl) (by kernel_rfl) (fun _ _ _ h => h) (Or.inl ⟨by rfl, ?_⟩) (by assumption) ?_
       rotate_left
       · (intro w hSw; (try dsimp only at hSw); go_simp; try with_reducible rfl)
       try simp only [Act.put, sqa, sqb, sqc]
       refine wpAnyH_take (i := 7) (oi := { dst := some 29, op := Op.load 40 (Operand.tmp 28), type := 40, pos := _, after := _, guard := none }) (v := .agg cy) rfl (by kernel_rfl) (by kernel_rfl) (by kernel_rfl) (fun _ _ _ h => h) (Or.inl ⟨by rfl, ?_⟩) (by assumption) ?_
       · (intro W hSw;  exact exec_load40 rfl rfl (fun m u h => (hSw.1 bY _ LBY.out).trans (HRY.out m u h)) H22cy.out)
       try simp only [Act.put, sqa, sqb, sqc]
       refine wpAnyH_ready (rs := [8, 9]) (by kernel_rfl) (by simp) ?_
       refine (AllReadyH.cons (o := { dst := some 8, op := Op.alloc 40, type := 0, pos := _, after := _, guard := none }) rfl (fun K hK => ?_) (AllReadyH.cons (o := { dst := some 9, op := Op.alloc 40, type := 0, pos := _, after := _, guard := none }) rfl (fun K hK => ?_) AllReadyH.nil))
       · go_simp
         have HG1 := hH.2.2
         have BB : Below Ws.heap.size Ws (Ws.alloc (.cells z22 40)) := (Below.refl _ _).alloc (Nat.le_refl _) _
         refine hK.out _ _ ?_ (fun hH' => ?_)
         · exact held_next BB hH
         have R1 := qh (heap_alloc_new Ws (.cells z22 40))
         clear BB
         clear hK K hH
         have hH := hH'
         clear hH'
         try simp only [Act.put, sqa, sqb, sqc]
         generalize Ws.alloc (.cells z22 40) = Wa at *
         generalize Ws.heap.size = g1 at *
         refine wpAnyH_ready (rs := [9]) (by kernel_rfl) (by simp) ?_
         refine AllReadyH.cons (o := { dst := some 9, op := Op.alloc 40, type := 0, pos := _, after := _, guard := none }) rfl (fun K hK => ?_) AllReadyH.nil
         go_simp
         have HG2 := hH.2.2
         have BB : Below Wa.heap.size Wa (Wa.alloc (.cells z22 40)) := (Below.refl _ _).alloc (Nat.le_refl _) _
         refine hK.out _ _ ?_ (fun hH' => ?_)
         · exact held_next BB hH
         have HNE : Hid (g1 < Wa.heap.size) := (Array.getElem?_eq_some_iff.1 R1.out).1
         have R2 := qh (heap_alloc_new Wa (.cells z22 40))
         replace R1 := qh ((heap_alloc_old Wa (.cells z22 40) (Array.getElem?_eq_some_iff.1 R1.out).1).trans R1.out)
         clear BB
         clear hK K hH
         have hH := hH'
         clear hH'
         try simp only [Act.put, sqa, sqb, sqc]
         generalize Wa.alloc (.cells z22 40) = Wb at *
         generalize Wa.heap.size = g2 at *
         refine wpAnyH_ready (rs := [10]) (by kernel_rfl) (by simp) ?_
         refine AllReadyH.cons (o := { dst := none, op := Op.store 40 (Operand.tmp 8) (Operand.tmp 25), type := 0, pos := _, after := _, guard := none }) rfl (fun K hK => ?_) AllReadyH.nil
         refine step_store_row rfl 40 (.tmp 8) (.tmp 25) rfl g1 rfl cx rfl 40 _ R1.out (size40z H22cx.out) (by rw [H22cx.out]; rfl) H1cx.out ?_
         try simp only [Act.put]
         replace R2 := qh ((setRow_other Wb g1 g2 cx (by have := HNE.out; omega)).trans R2.out)
         replace R1 := qh (setRow_heap Wb g1 _ cx _ _ R1.out)
         have SB : Below Wb.heap.size Wb (Wb.setRow g1 cx) ∨ True := .inr trivial
         have HN3 : (∀ b o, b < N → (Wb.setRow g1 cx).cell? ⟨b, o, none⟩ = wr.cell? ⟨b, o, none⟩) ∧ Hid (Below N wr (Wb.setRow g1 cx)) ∧ Hid (N ≤ (Wb.setRow g1 cx).heap.size) := held_row hH HG1.out cx
         clear SB
         generalize Wb.setRow g1 cx = Wc at *
         refine hK.out _ _ ?_ (fun hH' => ?_)
         · exact HN3
         clear HN3
         clear hK K hH
         have hH := hH'
         clear hH'
         try simp only [Act.put, sqa, sqb, sqc]
         refine wpAnyH_ready (rs := [11]) (by kernel_rfl) (by simp) ?_
         refine AllReadyH.cons (o := { dst := none, op := Op.store 40 (Operand.tmp 9) (Operand.tmp 29), type := 0, pos := _, after := _, guard := none }) rfl (fun K hK => ?_) AllReadyH.nil
         refine step_store_row rfl 40 (.tmp 9) (.tmp 29) rfl g2 rfl cy rfl 40 _ R2.out (size40z H22cy.out) (by rw [H22cy.out]; rfl) H1cy.out ?_
         try simp only [Act.put]
         replace R1 := qh ((setRow_other Wc g2 g1 cy (by have := HNE.out; omega)).trans R1.out)
         replace R2 := qh (setRow_heap Wc g2 _ cy _ _ R2.out)
         have SB : Below Wc.heap.size Wc (Wc.setRow g2 cy) ∨ True := .inr trivial
         have HN3 : (∀ b o, b < N → (Wc.setRow g2 cy).cell? ⟨b, o, none⟩ = wr.cell? ⟨b, o, none⟩) ∧ Hid (Below N wr (Wc.setRow g2 cy)) ∧ Hid (N ≤ (Wc.setRow g2 cy).heap.size) := held_row hH HG2.out cy
         clear SB
         generalize Wc.setRow g2 cy = Wd at *
         refine hK.out _ _ ?_ (fun hH' => ?_)
         · exact HN3
         clear HN3
         clear hK K hH
         have hH := hH'
         clear hH'
         try simp only [Act.put, sqa, sqb, sqc]
         refine wpAnyH_done (by kernel_rfl) ?_ _
         refine NoPanic.normal ?_
         go_wp2_with fail
         go_meet
         exact ⟨g1, g2, rfl, rfl, R1.out, R2.out, hH.2.1.out, HG1.out, HG2.out⟩
       · go_simp
         have HG2 := hH.2.2
         have BB : Below Ws.heap.size Ws (Ws.alloc (.cells z22 40)) := (Below.refl _ _).alloc (Nat.le_refl _) _
         refine hK.out _ _ ?_ (fun hH' => ?_)
         · exact held_next BB hH
         have R2 := qh (heap_alloc_new Ws (.cells z22 40))
         clear BB
         clear hK K hH
         have hH := hH'
         clear hH'
         try simp only [Act.put, sqa, sqb, sqc]
         generalize Ws.alloc (.cells z22 40) = Wb at *
         generalize Ws.heap.size = g2 at *
         refine wpAnyH_ready (rs := [8]) (by kernel_rfl) (by simp) ?_
         refine AllReadyH.cons (o := { dst := some 8, op := Op.alloc 40, type := 0, pos := _, after := _, guard := none }) rfl (fun K hK => ?_) AllReadyH.nil
         go_simp
         have HG1 := hH.2.2
         have BB : Below Wb.heap.size Wb (Wb.alloc (.cells z22 40)) := (Below.refl _ _).alloc (Nat.le_refl _) _
         refine hK.out _ _ ?_ (fun hH' => ?_)
         · exact held_next BB hH
         have HNE : Hid (g2 < Wb.heap.size) := (Array.getElem?_eq_some_iff.1 R2.out).1
         have R1 := qh (heap_alloc_new Wb (.cells z22 40))
         replace R2 := qh ((heap_alloc_old Wb (.cells z22 40) (Array.getElem?_eq_some_iff.1 R2.out).1).trans R2.out)
         clear BB
         clear hK K hH
         have hH := hH'
         clear hH'
         try simp only [Act.put, sqa, sqb, sqc]
         generalize Wb.alloc (.cells z22 40) = Wa at *
         generalize Wb.heap.size = g1 at *
         refine wpAnyH_ready (rs := [10]) (by kernel_rfl) (by simp) ?_
         refine AllReadyH.cons (o := { dst := none, op := Op.store 40 (Operand.tmp 8) (Operand.tmp 25), type := 0, pos := _, after := _, guard := none }) rfl (fun K hK => ?_) AllReadyH.nil
         refine step_store_row rfl 40 (.tmp 8) (.tmp 25) rfl g1 rfl cx rfl 40 _ R1.out (size40z H22cx.out) (by rw [H22cx.out]; rfl) H1cx.out ?_
         try simp only [Act.put]
         replace R2 := qh ((setRow_other Wa g1 g2 cx (by have := HNE.out; omega)).trans R2.out)
         replace R1 := qh (setRow_heap Wa g1 _ cx _ _ R1.out)
         have SB : Below Wa.heap.size Wa (Wa.setRow g1 cx) ∨ True := .inr trivial
         have HN3 : (∀ b o, b < N → (Wa.setRow g1 cx).cell? ⟨b, o, none⟩ = wr.cell? ⟨b, o, none⟩) ∧ Hid (Below N wr (Wa.setRow g1 cx)) ∧ Hid (N ≤ (Wa.setRow g1 cx).heap.size) := held_row hH HG1.out cx
         clear SB
         generalize Wa.setRow g1 cx = Wc at *
         refine hK.out _ _ ?_ (fun hH' => ?_)
         · exact HN3
         clear HN3
         clear hK K hH
         have hH := hH'
         clear hH'
         try simp only [Act.put, sqa, sqb, sqc]
         refine wpAnyH_ready (rs := [11]) (by kernel_rfl) (by simp) ?_
         refine AllReadyH.cons (o := { dst := none, op := Op.store 40 (Operand.tmp 9) (Operand.tmp 29), type := 0, pos := _, after := _, guard := none }) rfl (fun K hK => ?_) AllReadyH.nil
         refine step_store_row rfl 40 (.tmp 9) (.tmp 29) rfl g2 rfl cy rfl 40 _ R2.out (size40z H22cy.out) (by rw [H22cy.out]; rfl) H1cy.out ?_
         try simp only [Act.put]
         replace R1 := qh ((setRow_other Wc g2 g1 cy (by have := HNE.out; omega)).trans R1.out)
         replace R2 := qh (setRow_heap Wc g2 _ cy _ _ R2.out)
         have SB : Below Wc.heap.size Wc (Wc.setRow g2 cy) ∨ True := .inr trivial
         have HN3 : (∀ b o, b < N → (Wc.setRow g2 cy).cell? ⟨b, o, none⟩ = wr.cell? ⟨b, o, none⟩) ∧ Hid (Below N wr (Wc.setRow g2 cy)) ∧ Hid (N ≤ (Wc.setRow g2 cy).heap.size) := held_row hH HG2.out cy
         clear SB
         generalize Wc.setRow g2 cy = Wd at *
         refine hK.out _ _ ?_ (fun hH' => ?_)
         · exact HN3
         clear HN3
         clear hK K hH
         have hH := hH'
         clear hH'
         try simp only [Act.put, sqa, sqb, sqc]
         refine wpAnyH_done (by kernel_rfl) ?_ _
         refine NoPanic.normal ?_
         go_wp2_with fail
         go_meet
         exact ⟨g1, g2, rfl, rfl, R1.out, R2.out, hH.2.1.out, HG1.out, HG2.out⟩
      case rest =>
       obtain ⟨g1, g2, rfl, rfl, R1, R2, hB, hg1, hg2⟩ := hcut
       generalize wc = w1 at *
       have hcx := HCX.out
       have hcy := HCY.out
       rw [← hcx] at R1
       rw [← hcy] at R2
       unfold ic at R1 R2
       have HBW : Hid (Below w.heap.size w w1) := HW1.out.trans (hB.mono HWN.out)
       have tk : ∀ i, i < n → w1.heap[i]? = wr.heap[i]? := fun i hi => hB.block i (Nat.lt_of_lt_of_le hi HNN.out)
       have ML := qh (HLX.out.keptP (P' := fun k => k < n) fun i hi => ⟨hi, tk i hi⟩)
       have ML' := qh (HLY.out.keptP (P' := fun k => k < n) fun i hi => ⟨hi, tk i hi⟩)
       have MEX : Hid (XL n w1 x.e (.agg (xc x.e oV cV oK cK oE cE))) := XP.keptP HEX.out fun i hi => ⟨hi, tk i hi⟩
       have MEY : Hid (XL n w1 x.e (.agg (xc x.e oV' cV' oK' cK' oE' cE'))) := XP.keptP HEY.out fun i hi => ⟨hi, tk i hi⟩
       have MPX := qh (HPX.out.keptP (P' := fun k => k < n) fun i hi => ⟨hi, tk i hi⟩)
       have MPY := qh (HPY.out.keptP (P' := fun k => k < n) fun i hi => ⟨hi, tk i hi⟩)
       have HN1 : Hid (n ≤ w1.heap.size) := Nat.le_trans HNN.out (by have := hB.size; rw [← HNE0.out] at this; exact this)
       have HR1 : Hid (w1.rangeAt g1 3 (xc x.e oV cV oK cK oE cE).toList) := fun m u hm => rng15 R1 m u hm
       have HR2 : Hid (w1.rangeAt g2 3 (xc x.e oV' cV' oK' cK' oE' cE').toList) := fun m u hm => rng15 R2 m u hm
       obtain ⟨⟨p0, p1, p2, -, -, -, -, -, -, -, -, -, -, -, -, -, -, -, p18, p19, p20, p21⟩, -, hb1⟩ := rc22 R1
       obtain ⟨⟨q0, q1, q2, -, -, -, -, -, -, -, -, -, -, -, -, -, -, -, q18, q19, q20, q21⟩, -, hb2⟩ := rc22 R2
       clear R1 R2 hB hg1 hg2 hcx hcy tk HLX HLY HEX HEY HPX HPY HRX HRY HCX HCY H22cx H22cy H1cx H1cy HW1 S0 LBX LBY HNE0 HWN HNN
       obtain ⟨xb, hxb⟩ : ∃ q, x.b = q := ⟨_, rfl⟩
       rw [hxb] at p0 q0
       obtain ⟨nx, hnx⟩ : ∃ q, tx x.nm = q := ⟨_, rfl⟩
       rw [hnx] at p1 q1
       obtain ⟨LX, hLX⟩ : ∃ q, x.lb = q := ⟨_, rfl⟩
       rw [hLX] at ML ML' p2 q2
       clear hLX hxb hnx
       have C1 : Hid (∀ wq, Below w1.heap.size w1 wq → Calls Tryz.prog 22 #[.agg (xc x.e oV cV oK cK oE cE), .agg (xc x.e oV' cV' oK' cK' oE' cE'), .bool true] wq fun e w' => e = .returned (.bool true) ∧ Below wq.heap.size wq w') := fun wq hq =>
        same10T _ n x.e _ _ wq (Nat.le_refl _) (MEX.out.keptP fun i hi => ⟨hi, hq.block i (Nat.lt_of_lt_of_le hi HN1.out)⟩) (MEY.out.keptP fun i hi => ⟨hi, hq.block i (Nat.lt_of_lt_of_le hi HN1.out)⟩) (Nat.le_trans HN1.out hq.size)
       have H15x : Hid ((xc x.e oV cV oK cK oE cE).size = 15) := rfl
       have H15y : Hid ((xc x.e oV' cV' oK' cK' oE' cE').size = 15) := rfl
       generalize xc x.e oV cV oK cK oE cE = ex at *
       generalize xc x.e oV' cV' oK' cK' oE' cE' = ey at *
       clear MEX MEY
       obtain ⟨nl, hnl⟩ : ∃ q, LX.length = q := ⟨_, rfl⟩
       rw [hnl] at p2 q2 ML ML'
       clear hnl
       have HNL : Hid (nl ≤ 9223372036854775807) := by have h1 := ML.out.1; have h2 := ML.out.2.1; unfold maxLen at h2; unfold Hid; omega
       go_upto_region 10 with fail
       go_loopw [10] (fun v10 wq => ∃ j : Nat, j ≤ nl ∧ v10 = .int .i64 (j : Int) ∧ Hid (Below w1.heap.size w1 wq)) (fun v _ => nl - (RowKit.intOf v).toNat)
       case atStart => exact ⟨0, Nat.zero_le _, rfl, Below.refl _ _⟩
       case round =>
        obtain ⟨j, hj, rfl, HQ⟩ := hrel
        have cg1 : ∀ i, wr.cell? ⟨g1, i, none⟩ = w1.cell? ⟨g1, i, none⟩ := fun i => World.cell?_of_block (HQ.out.block g1 hb1)
        have cg2 : ∀ i, wr.cell? ⟨g2, i, none⟩ = w1.cell? ⟨g2, i, none⟩ := fun i => World.cell?_of_block (HQ.out.block g2 hb2)
        replace p2 := (cg1 2).trans p2
        replace q2 := (cg2 2).trans q2
        replace p18 := (cg1 18).trans p18
        replace q18 := (cg2 18).trans q18
        have hg1 : g1 < wr.heap.size := Nat.lt_of_lt_of_le hb1 HQ.out.size
        have hg2 : g2 < wr.heap.size := Nat.lt_of_lt_of_le hb2 HQ.out.size
        by_cases hjl : j < nl
        · obtain ⟨bl, fl, rfl, hbl, rc⟩ := ML.out.2.2.2 (by omega)
          obtain ⟨bl', fl', rfl, hbl', rc'⟩ := ML'.out.2.2.2 (by omega)
          have L0 := (World.cell?_of_block (a := ⟨bl, fl + j * 1 + 0, none⟩) (HQ.out.block bl (Nat.lt_of_lt_of_le hbl HN1.out))).trans (rc j hjl 0 (by decide))
          have L0' := (World.cell?_of_block (a := ⟨bl', fl' + j * 1 + 0, none⟩) (HQ.out.block bl' (Nat.lt_of_lt_of_le hbl' HN1.out))).trans (rc' j hjl 0 (by decide))
          simp only [Nat.mul_one, Nat.add_zero] at L0 L0'
          have j1 : (j : Int) < (nl : Int) := by omega
          have j0 : ¬ (j : Int) < 0 := by omega
          have j2 : IntKind.i64.wrap ((j : Int) + 1) = ((j + 1 : Nat) : Int) := by rw [IntWalk.i64_in _ (by have := HNL.out; omega)]; rfl
          have lb1 : bl < wr.heap.size := Nat.lt_of_lt_of_le (Nat.lt_of_lt_of_le hbl HN1.out) HQ.out.size
          have lb2 : bl' < wr.heap.size := Nat.lt_of_lt_of_le (Nat.lt_of_lt_of_le hbl' HN1.out) HQ.out.size
          have HQD : Hid (Below w1.heap.size w1 wr.drew) := HQ.out.drew
          generalize tx (LX.getD j []) = sj at *
          clear rc rc' hbl hbl' cg1 cg2 hb1 hb2 p0 p1 q0 q1 p18 q18
          go_wp2_with fail
          go_region
          go_wp2_with fail
          refine ⟨⟨j + 1, hjl, rfl, HQD.out⟩, ?_⟩
          simp only [RowKit.intOf]; omega
        · obtain rfl : j = nl := by omega
          have j1 : ¬ (j : Int) < (j : Int) := by omega
          have HRQ1 : Hid (wr.rangeAt g1 3 ex.toList) := fun m u hm => (cg1 (3 + m)).trans (HR1.out m u hm)
          have HRQ2 : Hid (wr.rangeAt g2 3 ey.toList) := fun m u hm => (cg2 (3 + m)).trans (HR2.out m u hm)
          have HBQ : Hid (Below w.heap.size w wr) := HBW.out.trans (HQ.out.mono HBW.out.size)
          have C1 := qh (C1.out wr HQ.out)
          have MPQ := qh (MPX.out.keptP (P' := fun k => k < n) fun i hi => ⟨hi, HQ.out.block i (Nat.lt_of_lt_of_le hi HN1.out)⟩)
          have MPQ' := qh (MPY.out.keptP (P' := fun k => k < n) fun i hi => ⟨hi, HQ.out.block i (Nat.lt_of_lt_of_le hi HN1.out)⟩)
          have HNQ : Hid (n ≤ wr.heap.size) := Nat.le_trans HN1.out HQ.out.size
          clear cg1 cg2 MPX MPY HR1 HR2 HQ hb1 hb2 p0 p1 q0 q1 HBW HN1
          go_wp2_with (first
           | refine wpList_load_mid rfl 38 (.tmp 79) rfl g1 3 rfl ex.toList _ HRQ1.out Tryz.underlying38 rfl (by rw [Array.length_toList]; exact size38z H15x.out) ?_
           | refine wpList_load_mid rfl 38 (.tmp 81) rfl g2 3 rfl ey.toList _ HRQ2.out Tryz.underlying38 rfl (by rw [Array.length_toList]; exact size38z H15y.out) ?_)
          refine C1.out.mono ?_
          rintro e w2 ⟨rfl, b2⟩
          have p18' := ((World.cell?_of_block (a := ⟨g1, 18, none⟩) (b2.block g1 hg1)).trans p18)
          have q18' := ((World.cell?_of_block (a := ⟨g2, 18, none⟩) (b2.block g2 hg2)).trans q18)
          have hb1' : g1 < w2.heap.size := Nat.lt_of_lt_of_le hg1 b2.size
          have hb2' : g2 < w2.heap.size := Nat.lt_of_lt_of_le hg2 b2.size
          have HB2 : Hid (Below w.heap.size w w2) := HBQ.out.trans (b2.mono HBQ.out.size)
          have CC : Hid (Calls Tryz.prog 10 #[.slice oI x.l.length cI, .slice oI' x.l.length cI', .bool true] w2 fun e w' => e = .returned (.bool true) ∧ Below w2.heap.size w2 w') :=
           HIX.out n _ _ w2 (MPQ.out.keptP fun i hi => ⟨hi, b2.block i (Nat.lt_of_lt_of_le hi HNQ.out)⟩) (MPQ'.out.keptP fun i hi => ⟨hi, b2.block i (Nat.lt_of_lt_of_le hi HNQ.out)⟩) (Nat.le_trans HNQ.out b2.size)
          clear b2 p2 q2 p18 q18 hg1 hg2 HBQ
          go_wp2_with fail
          refine CC.out.mono ?_
          rintro e w3 ⟨rfl, b3⟩
          have HB3 : Hid (Below w.heap.size w w3) := HB2.out.trans (b3.mono HB2.out.size)
          clear b3 p18' q18' hb1' hb2' HB2
          go_wp2_with fail
          refine ⟨⟨k + 1, hlt, rfl, HB3.out⟩, ?_⟩
          simp only [RowKit.intOf]; omega
    · obtain rfl : k = A.length := by omega
      have e1 : ¬ (A.length : Int) < (A.length : Int) := by omega
      go_wp2_with fail
      go_ret
      exact ⟨rfl, HW1.out⟩
end Go.Proofs.YtncjncacfagldaaGreatDoor

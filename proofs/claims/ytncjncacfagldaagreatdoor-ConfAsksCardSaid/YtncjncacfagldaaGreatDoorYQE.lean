import Derived.Test.YtncjncacfagldaaGreatDoorYQD
namespace Go.Proofs.YtncjncacfagldaaGreatDoor
open Go.RowKit Go.Lib

set_option maxRecDepth 100000 in
set_option maxHeartbeats 8000000 in
theorem lasks_any {n : Nat} {w : World} {A B : List It} {a b : Value} (nm : ByteArray) (hA : PayI A (fun k => k < n) w a) (hB : PayI B (fun k => k < n) w b) (hn : n ≤ w.heap.size) (hT : Tab w) (hV : Lev w) (h4 : 4 ≤ w.heap.size) :
 Calls Tryz.prog 3 #[a, b, .string nm] w fun e w' => e = .returned (.bool true) ∧ Below w.heap.size w w' := by
 have AW : Hid (∀ W, Below w.heap.size w W → Calls Tryz.prog 8 #[] W fun e w' => e = .returned (.bool true) ∧ Below W.heap.size W w') := fun W hW => cawake_any (hT.at (hW.block 2 (by omega))) (hV.at (hW.block 3 (by omega))) (by have := hW.size; omega)
 obtain ⟨oA, cA, dA, rfl, hRA, hEA⟩ := id hA
 obtain ⟨oB, cB, dB, rfl, hRB, hEB⟩ := id hB
 have PA : Hid (∀ W, Below w.heap.size w W → PayI A (fun k => k < n) W (.slice oA A.length cA)) := fun W hW => hA.keptP fun k hk => ⟨hk, hW.block k (by omega)⟩
 have PB : Hid (∀ W, Below w.heap.size w W → PayI B (fun k => k < n) W (.slice oB B.length cB)) := fun W hW => hB.keptP fun k hk => ⟨hk, hW.block k (by omega)⟩
 have HN : Hid (∀ W, Below w.heap.size w W → n ≤ W.heap.size) := fun W hW => by have := hW.size; omega
 have GA : Hid (Calls Tryz.prog 7 #[.slice oA A.length cA, .int .i64 10] w (GiPost 10 A w)) := great7_any 10 (by decide) n A _ w (PA.out w (Below.refl _ _)) hn
 have GB : Hid (∀ W, Below w.heap.size w W → Calls Tryz.prog 7 #[.slice oB B.length cB, .int .i64 10] W (GiPost 10 B W)) := fun W hW => great7_any 10 (by decide) n B _ W (PB.out W hW) (HN.out W hW)
 have HR := qh hRA
 have HE := qh hEA
 clear hA hB hRA hRB hEA hEB hT hV h4 hn
 go_enter Tryz.func3, Tryz.ntmps3
 go_wp2_with fail
 refine GA.out.mono ?_
 rintro e w1 ⟨r, rfl, hrA, b1⟩
 have B1 := qh b1
 clear b1 GA
 cases r with
 | true =>
   clear hrA
   go_wp2_with fail
   refine (AW.out w1 B1.out).mono ?_
   rintro e v3 ⟨rfl, k3⟩
   have HB3 := qh (B1.out.trans (k3.mono B1.out.size))
   clear k3
   go_wp2_with fail
   go_ret
   exact ⟨rfl, HB3.out⟩
 | false =>
 have OA := qh (hrA rfl)
 clear hrA
 go_wp2_with fail
 refine (GB.out w1 B1.out).mono ?_
 rintro e w2 ⟨r, rfl, hrB, b2⟩
 have B2 := qh (B1.out.trans (b2.mono B1.out.size))
 clear b2 GB B1 hrB
 cases r with
 | true =>
   go_wp2_with fail
   refine (AW.out w2 B2.out).mono ?_
   rintro e v3 ⟨rfl, k3⟩
   have HB3 := qh (B2.out.trans (k3.mono B2.out.size))
   clear k3
   go_wp2_with fail
   go_ret
   exact ⟨rfl, HB3.out⟩
 | false =>
 by_cases hs : 100 < nm.size
 · have es : (100 : Int) < (nm.size : Int) := by omega
   clear hs
   go_wp2_with fail
   refine (AW.out w2 B2.out).mono ?_
   rintro e v3 ⟨rfl, k3⟩
   have HB3 := qh (B2.out.trans (k3.mono B2.out.size))
   clear k3
   go_wp2_with fail
   go_ret
   exact ⟨rfl, HB3.out⟩
 have es : ¬ (100 : Int) < (nm.size : Int) := by omega
 clear hs
 have HL : Hid (A.length ≤ 200) := oki_len OA.out
 have HS : Hid (∀ x ∈ A, SmI x) := of_oki OA.out
 have HD : Hid (idpL A ≤ 10) := idp_oki OA.out
 go_wp2_with fail
 refine (same9L (PA.out w2 B2.out) (PB.out w2 B2.out) (HN.out w2 B2.out)).mono ?_
 rintro e w3 ⟨rfl, b3⟩
 have B3 := qh (B2.out.trans (b3.mono B2.out.size))
 clear b3 B2 es OA
 go_wp2_with fail
 refine (same10L (PA.out w3 B3.out) (PB.out w3 B3.out) (HN.out w3 B3.out)).mono ?_
 rintro e w4 ⟨rfl, b4⟩
 have B4 := qh (B3.out.trans (b4.mono B3.out.size))
 clear b4 B3
 generalize sameIL A B = R
 have eR : (R != R) = false := by cases R <;> rfl
 go_wp2_with fail
 refine (same9L (PA.out w4 B4.out) (PA.out w4 B4.out) (HN.out w4 B4.out)).mono ?_
 rintro e w5 ⟨rfl, b5⟩
 have B5 := qh (B4.out.trans (b5.mono B4.out.size))
 clear b5 B4
 rw [sameIL_self]
 go_wp2_with fail
 refine (cdepth_any (PA.out w5 B5.out) (HN.out w5 B5.out) (by have := HD.out; omega)).mono ?_
 rintro e w6 ⟨rfl, b6⟩
 have B6 := qh (B5.out.trans (b6.mono B5.out.size))
 clear b6 B5
 go_wp2_with fail
 refine (irdepth_any (PA.out w6 B6.out) (HN.out w6 B6.out) (by have := HD.out; omega)).mono ?_
 rintro e w7 ⟨rfl, b7⟩
 have B7 := qh (B6.out.trans (b7.mono B6.out.size))
 clear b7 B6
 have eD : ((idpL A : Int) != (idpL A : Int)) = false := by simp
 generalize (idpL A : Int) = D at *
 go_wp2_with fail
 clear eR eD
 go_loopw [7, 8, 9] (fun v7 v8 v9 wr => ∃ k : Nat, k ≤ A.length ∧ v9 = .int .i64 (k : Int) ∧ Hid (AtR A nm k v7) ∧ Hid (Below w7.heap.size w7 wr) ∧ Hid (OZ w7.heap.size wr v8 (blksOf nm (A.take k)))) (fun _ _ v _ => A.length - (RowKit.intOf v).toNat)
 case atStart => exact ⟨0, Nat.zero_le _, rfl, AtR.at0 _ _, Below.refl _ _, OZ.nil _ _⟩
 case round =>
  obtain ⟨k, hk, rfl, HA, HW, HO⟩ := hrel
  have hL := HL.out
  have hn7 := HN.out w7 B7.out
  have BR := qh (B7.out.trans (HW.out.mono B7.out.size))
  obtain ⟨oo, cc, rfl⟩ : ∃ oo cc, u8 = .slice oo (blksOf nm (A.take k)).length cc := by obtain ⟨o, cap, d, h, -⟩ := oz_pay HO.out HW.out.size; exact ⟨o, cap, h⟩
  by_cases hlt : k < A.length
  · obtain ⟨X, hX⟩ : ∃ X, A[k]? = some X := ⟨_, List.getElem?_eq_getElem hlt⟩
    obtain ⟨b, off, ea, hb, hcel⟩ := HR.out.2.2.2 (by omega)
    subst ea
    have hnr := HN.out wr BR.out
    have tk : ∀ i, i < n → wr.heap[i]? = w.heap[i]? := fun i hi => BR.out.block i (by have := HN.out w (Below.refl _ _); omega)
    have HXE : Hid (IP (fun k => k < n) wr X (.agg (row22 dA k))) := (HE.out k X hX).keptP fun i hi => ⟨hi, tk i hi⟩
    obtain ⟨h22, hone, h0, h01⟩ := ip_form HXE.out
    have hc : ∀ m u, (row22 dA k).toList[m]? = some u → wr.cell? ⟨b, off + k * 22 + m, none⟩ = some u := fun m u hm => by
     have hlt : m < 22 := by have := (List.getElem?_eq_some_iff.1 hm).1; simpa using this
     rw [World.cell?_of_block (w := w) (tk b hb), hcel k (by omega) m hlt]
     rw [Array.getElem?_toList, row22_at dA k m hlt] at hm
     exact hm
    have HRG : Hid (wr.rangeAt b (off + k * 22) (row22 dA k).toList) := hc
    have y0 := hc 0 _ (by rw [Array.getElem?_toList]; exact h0)
    have y1 := hc 1 _ (by rw [Array.getElem?_toList]; exact h01)
    rw [Nat.add_zero] at y0
    obtain ⟨cx, hcx⟩ : ∃ q, row22 dA k = q := ⟨_, rfl⟩
    rw [hcx] at HRG HXE h22
    have H22 := qh h22
    have HBT := qh (blks_take (nm := nm) hX)
    have k0 : ¬ (k : Int) < 0 := by omega
    have k1 : (k : Int) < (A.length : Int) := by omega
    have k2 : IntKind.i64.wrap ((k : Int) + 1) = ((k + 1 : Nat) : Int) := by rw [IntWalk.i64_in _ (by omega)]; rfl
    have lb : b < wr.heap.size := by omega
    have HX := qh hX
    have HLM : Hid ((blksOf nm (A.take k)).length ≤ 60000) := Nat.le_trans (blks_len _ _) (Nat.le_trans (List.length_take_le _ _) (by omega))
    clear hX hcx h22 hone h0 h01 tk hcel hc hb
    obtain ⟨M, hM⟩ : ∃ q, blksOf nm (A.take k) = q := ⟨_, rfl⟩
    rw [hM] at HO HBT HLM ⊢
    clear hM
    by_cases hnm : tx X.nm = nm
    case neg =>
     have HBT2 : Hid (blksOf nm (A.take (k + 1)) = M) := by unfold Hid; rw [HBT.out, if_neg (fun h => hnm h.2), List.append_nil]
     have HA2 := qh (HA.out.no HX.out (fun h => hnm h.2))
     obtain ⟨g1, g2⟩ := str_ne hnm
     clear hnm HBT HA
     go_wp2_with fail
     refine ⟨⟨k + 1, hlt, rfl, HA2.out, HW.out, ?_⟩, ?_⟩
     · rw [HBT2.out]; exact HO.out
     · simp only [RowKit.intOf]; omega
    case pos =>
     obtain ⟨g1, g2⟩ := str_eq hnm
     obtain ⟨xb, hxb⟩ : ∃ q, X.b = q := ⟨_, rfl⟩
     rw [hxb] at y0
     cases xb with
     | true =>
       have HBT2 : Hid (blksOf nm (A.take (k + 1)) = M ++ [X]) := by unfold Hid; rw [HBT.out, if_pos ⟨hxb, hnm⟩]
       have HA2 := qh (HA.out.no HX.out (fun h => by rw [h.1] at hxb; cases hxb))
       have HXW : Hid (IP (fun k => k < w7.heap.size) wr X (.agg cx)) := HXE.out.mono fun i hi => Nat.lt_of_lt_of_le hi hn7
       clear hxb hnm HBT HA
       go_wp2_with (first
        | refine wpList_load_mid rfl 40 (.tmp 65) rfl b (off + k * 22) rfl cx.toList _ HRG.out Tryz.underlying40 rfl (by rw [Array.length_toList]; exact size40z H22.out) ?_
        | refine build_it rfl (.tmp 66) rfl cx rfl H22.out ?_
        | (at_builtin; go_must (refine app_oz rfl (.tmp 62) (.tmp 67) rfl (n := w7.heap.size) (l := M) (X := X) rfl rfl HO.out HXW.out HW.out.size (by have := HLM.out; omega) (fun v6 w6 ho6 b6 => ?_))
           have HO6 := qh ho6
           have HB6 := qh (HW.out.trans b6)
           clear ho6 b6))
       refine ⟨⟨k + 1, hlt, rfl, HA2.out, HB6.out, by rw [HBT2.out]; exact HO6.out⟩, ?_⟩
       simp only [RowKit.intOf]; omega
     | false =>
       have HBT2 : Hid (blksOf nm (A.take (k + 1)) = M) := by unfold Hid; rw [HBT.out, if_neg (fun h => by rw [h.1] at hxb; cases hxb), List.append_nil]
       have HIS : Hid (isAt nm X) := ⟨hxb, hnm⟩
       clear hxb hnm HBT
       rcases HA.out with ⟨rfl, hno⟩ | ⟨j, Y, hj, hY, hat, hfirst, rfl⟩
       · have HA2 : Hid (AtR A nm (k + 1) (.int .i64 (k : Int))) := .inr ⟨k, X, Nat.lt_succ_self k, HX.out, HIS.out, hno, rfl⟩
         clear hno HA
         go_wp2_with fail
         refine ⟨⟨k + 1, hlt, rfl, HA2.out, HW.out, by rw [HBT2.out]; exact HO.out⟩, ?_⟩
         simp only [RowKit.intOf]; omega
       · have HA2 : Hid (AtR A nm (k + 1) (.int .i64 (j : Int))) := .inr ⟨j, Y, by omega, hY, hat, hfirst, rfl⟩
         have j0 : ¬ (j : Int) < 0 := by omega
         clear hY hat hfirst HA
         go_wp2_with fail
         refine ⟨⟨k + 1, hlt, rfl, HA2.out, HW.out, by rw [HBT2.out]; exact HO.out⟩, ?_⟩
         simp only [RowKit.intOf]; omega
  · obtain rfl : k = A.length := by omega
    have k1 : ¬ (A.length : Int) < (A.length : Int) := by omega
    rw [List.take_length] at HO ⊢
    have HOS : Hid (w7.heap.size ≤ wr.heap.size) := HW.out.size
    go_upto_region 15 with fail
    go_wp2_with fail
    refine (attr_any nm HS.out (PA.out wr BR.out) (HN.out wr BR.out)).mono ?_
    intro e w8 hp
    obtain ⟨b8, hp2⟩ := HA.out.met hp
    clear hp HA
    have B8 := qh (BR.out.trans (b8.mono BR.out.size))
    have HO8 := qh (HO.out.below HOS.out b8)
    have HS8 : Hid (w7.heap.size ≤ w8.heap.size) := Nat.le_trans HOS.out b8.size
    have N1 := qh (heap_alloc_new w8 (.cells z22 40))
    have HB0 := qh ((Below.refl w8.heap.size w8).alloc (Nat.le_refl _) (.cells z22 40))
    rcases hp2 with ⟨rfl, rfl⟩ | ⟨j, X, c, hX, rfl, rfl, hip⟩
    · clear b8
      go_wp2_with (refine wpList_store_row rfl 40 (.tmp 10) (.tmp 76) rfl w8.heap.size z22 rfl rfl 40 _ N1.out (size40z rfl) rfl (by kernel_rfl) ?_
                   have HB9 := qh (Below.row HB0.out (Nat.le_refl _) z22)
                   clear N1 HB0
                   generalize World.setRow _ w8.heap.size z22 = w9 at *)
      obtain ⟨N, hN⟩ : ∃ N, N = w9.heap.size := ⟨_, rfl⟩
      have S0 := held_at hN
      have HBN : Hid (w8.heap.size ≤ N) := by have := HB9.out.size; unfold Hid; omega
      have HWS : Hid (w.heap.size ≤ w8.heap.size) := B8.out.size
      have HS7 : Hid (w7.heap.size ≤ N) := Nat.le_trans HS8.out HBN.out
      have HOW : Hid (∀ W, Below N w9 W → OZ w7.heap.size W (.slice oo (blksOf nm A).length cc) (blksOf nm A)) := fun W hW => HO8.out.below HS8.out (HB9.out.trans (hW.mono HBN.out))
      clear hN HO8
      refine wp_region_noPanic ?_
      refine wp_region_held_drew (S := (fun W => (∀ b o, b < N → W.cell? ⟨b, o, none⟩ = w9.cell? ⟨b, o, none⟩) ∧ Hid (Below N w9 W) ∧ Hid (N ≤ W.heap.size))) (by kernel_rfl) ?_ (fun hH => ?_)
      · exact S0
      generalize w9.drew = Ws at *
      refine wpAnyH_take (i := 0) (oi := { dst := some 78, op := Op.move (Operand.tmp 11), type := 4, pos := _, after := _, guard := none }) (v := ?_) rfl (by kernel_rfl) (by kernel_rfl) (by kernel_rfl) (fun _ _ _ h => h) (Or.inl ⟨by rfl, ?_⟩) (by assumption) ?_
      rotate_left
      · (intro w hSw; (try dsimp only at hSw); go_simp; try with_reducible rfl)
      try simp only [Act.put, sqa, sqb, sqc]
      refine wpAnyH_take (i := 1) (oi := { dst := some 79, op := Op.move (Operand.tmp 7), type := 3, pos := _, after := _, guard := none }) (v := ?_) rfl (by kernel_rfl) (by kernel_rfl) (by kernel_rfl) (fun _ _ _ h => h) (Or.inl ⟨by rfl, ?_⟩) (by assumption) ?_
      rotate_left
      · (intro w hSw; (try dsimp only at hSw); go_simp; try with_reducible rfl)
      try simp only [Act.put, sqa, sqb, sqc]
      refine wpAnyH_take (i := 2) (oi := { dst := some 80, op := Op.binOp BinOp.geq 3 (Operand.tmp 79) (Operand.const (Value.int IntKind.i64 0)) 3, type := 4, pos := _, after := _, guard := none }) (v := ?_) rfl (by kernel_rfl) (by kernel_rfl) (by kernel_rfl) (fun _ _ _ h => h) (Or.inl ⟨by rfl, ?_⟩) (by assumption) ?_
      rotate_left
      · (intro w hSw; (try dsimp only at hSw); go_simp; try with_reducible rfl)
      try simp only [Act.put, sqa, sqb, sqc]
      refine wpAnyH_take (i := 3) (oi := { dst := some 81, op := Op.binOp BinOp.neq 4 (Operand.tmp 78) (Operand.tmp 80) 4, type := 4, pos := _, after := _, guard := none }) (v := ?_) rfl (by kernel_rfl) (by kernel_rfl) (by kernel_rfl) (fun _ _ _ h => h) (Or.inl ⟨by rfl, ?_⟩) (by assumption) ?_
      rotate_left
      · (intro w hSw; (try dsimp only at hSw); go_simp; try with_reducible rfl)
      try simp only [Act.put, sqa, sqb, sqc]
      refine wpAnyH_take (i := 4) (oi := { dst := some 82, op := Op.move (Operand.tmp 81), type := 4, pos := _, after := _, guard := none }) (v := ?_) rfl (by kernel_rfl) (by kernel_rfl) (by kernel_rfl) (fun _ _ _ h => h) (Or.inl ⟨by rfl, ?_⟩) (by assumption) ?_
      rotate_left
      · (intro w hSw; (try dsimp only at hSw); go_simp; try with_reducible rfl)
      try simp only [Act.put, sqa, sqb, sqc]
      refine wpAnyH_take (i := 5) (oi := { dst := some 83, op := Op.move (Operand.tmp 11), type := 4, pos := _, after := _, guard := some (4, false) }) (v := ?_) rfl (by kernel_rfl) (by kernel_rfl) (by kernel_rfl) (fun _ _ _ h => h) (Or.inl ⟨by rfl, ?_⟩) (by assumption) ?_
      rotate_left
      · (intro w hSw; (try dsimp only at hSw); go_simp; try with_reducible rfl)
      try simp only [Act.put, sqa, sqb, sqc]
      refine wpAnyH_take (i := 6) (oi := { dst := some 84, op := Op.move (Operand.tmp 83), type := 4, pos := _, after := _, guard := some (4, false) }) (v := ?_) rfl (by kernel_rfl) (by kernel_rfl) (by kernel_rfl) (fun _ _ _ h => h) (Or.inl ⟨by rfl, ?_⟩) (by assumption) ?_
      rotate_left
      · (intro w hSw; (try dsimp only at hSw); go_simp; try with_reducible rfl)
      try simp only [Act.put, sqa, sqb, sqc]
      refine wpAnyH_take (i := 7) (oi := { dst := some 85, op := Op.load 40 (Operand.tmp 10), type := 40, pos := _, after := _, guard := some (6, true) }) (v := undef) rfl (by kernel_rfl) (by kernel_rfl) (by kernel_rfl) (fun _ _ _ h => h) (Or.inr ⟨by rfl, rfl⟩) (by assumption) ?_
      try simp only [Act.put, sqa, sqb, sqc]
      refine wpAnyH_take (i := 8) (oi := { dst := some 86, op := Op.buildSlice 22 1 #[(0, Operand.tmp 85)], type := 22, pos := _, after := _, guard := some (6, true) }) (v := undef) rfl (by kernel_rfl) (by kernel_rfl) (by kernel_rfl) (fun _ _ _ h => h) (Or.inr ⟨by rfl, rfl⟩) (by assumption) ?_
      try simp only [Act.put, sqa, sqb, sqc]
      refine wpAnyH_take (i := 9) (oi := { dst := some 87, op := Op.move (Operand.tmp 0), type := 22, pos := _, after := _, guard := some (6, true) }) (v := undef) rfl (by kernel_rfl) (by kernel_rfl) (by kernel_rfl) (fun _ _ _ h => h) (Or.inr ⟨by rfl, rfl⟩) (by assumption) ?_
      try simp only [Act.put, sqa, sqb, sqc]
      refine wpAnyH_take (i := 10) (oi := { dst := some 88, op := Op.move (Operand.tmp 7), type := 3, pos := _, after := _, guard := some (6, true) }) (v := undef) rfl (by kernel_rfl) (by kernel_rfl) (by kernel_rfl) (fun _ _ _ h => h) (Or.inr ⟨by rfl, rfl⟩) (by assumption) ?_
      try simp only [Act.put, sqa, sqb, sqc]
      refine wpAnyH_take (i := 11) (oi := { dst := some 89, op := Op.move (Operand.tmp 7), type := 3, pos := _, after := _, guard := some (6, true) }) (v := undef) rfl (by kernel_rfl) (by kernel_rfl) (by kernel_rfl) (fun _ _ _ h => h) (Or.inr ⟨by rfl, rfl⟩) (by assumption) ?_
      try simp only [Act.put, sqa, sqb, sqc]
      refine wpAnyH_take (i := 12) (oi := { dst := some 90, op := Op.binOp BinOp.add 3 (Operand.tmp 89) (Operand.const (Value.int IntKind.i64 1)) 3, type := 3, pos := _, after := _, guard := some (6, true) }) (v := undef) rfl (by kernel_rfl) (by kernel_rfl) (by kernel_rfl) (fun _ _ _ h => h) (Or.inr ⟨by rfl, rfl⟩) (by assumption) ?_
      try simp only [Act.put, sqa, sqb, sqc]
      refine wpAnyH_take (i := 13) (oi := { dst := some 91, op := Op.slice 22 (Operand.tmp 87) (some (Operand.tmp 88)) (some (Operand.tmp 90)) none, type := 22, pos := _, after := _, guard := some (6, true) }) (v := undef) rfl (by kernel_rfl) (by kernel_rfl) (by kernel_rfl) (fun _ _ _ h => h) (Or.inr ⟨by rfl, rfl⟩) (by assumption) ?_
      try simp only [Act.put, sqa, sqb, sqc]
      refine wpAnyH_take (i := 14) (oi := { dst := some 92, op := Op.call { callee := Callee.value (Operand.func 10), args := #[Operand.tmp 86, Operand.tmp 91, Operand.const (Value.bool true)], argTypes := #[22, 22, 4] }, type := 4, pos := _, after := _, guard := some (6, true) }) (v := undef) rfl (by kernel_rfl) (by kernel_rfl) (by kernel_rfl) (fun _ _ _ h => h) (Or.inr ⟨by rfl, rfl⟩) (by assumption) ?_
      try simp only [Act.put, sqa, sqb, sqc]
      refine wpAnyH_take (i := 15) (oi := { dst := some 93, op := Op.unOp UnOp.not 4 (Operand.tmp 92), type := 4, pos := _, after := _, guard := some (6, true) }) (v := undef) rfl (by kernel_rfl) (by kernel_rfl) (by kernel_rfl) (fun _ _ _ h => h) (Or.inr ⟨by rfl, rfl⟩) (by assumption) ?_
      try simp only [Act.put, sqa, sqb, sqc]
      refine wpAnyH_take (i := 16) (oi := { dst := some 94, op := Op.pick (Operand.tmp 84) (Operand.tmp 93) (Operand.const (Value.bool false)), type := 4, pos := _, after := _, guard := some (4, false) }) (v := ?_) rfl (by kernel_rfl) (by kernel_rfl) (by kernel_rfl) (fun _ _ _ h => h) (Or.inl ⟨by rfl, ?_⟩) (by assumption) ?_
      rotate_left
      · (intro w hSw; (try dsimp only at hSw); go_simp; try with_reducible rfl)
      try simp only [Act.put, sqa, sqb, sqc]
      refine wpAnyH_take (i := 17) (oi := { dst := some 95, op := Op.pick (Operand.tmp 82) (Operand.const (Value.bool true)) (Operand.tmp 94), type := 4, pos := _, after := _, guard := none }) (v := ?_) rfl (by kernel_rfl) (by kernel_rfl) (by kernel_rfl) (fun _ _ _ h => h) (Or.inl ⟨by rfl, ?_⟩) (by assumption) ?_
      rotate_left
      · (intro w hSw; (try dsimp only at hSw); go_simp; try with_reducible rfl)
      try simp only [Act.put, sqa, sqb, sqc]
      refine wpAnyH_done (by kernel_rfl) ?_ _
      refine NoPanic.normal ?_
      have HZ := qh hH.2.1.out
      have HZN := qh hH.2.2.out
      have BZ := qh ((B8.out.trans (HB9.out.mono HWS.out)).trans (HZ.out.mono (Nat.le_trans HWS.out HBN.out)))
      have HOZ := qh (HOW.out _ HZ.out)
      clear hH HOW
      go_wp2_with fail
      refine (blocks_any nm HS.out (by have := HL.out; omega) (PA.out _ BZ.out) (HN.out _ BZ.out)).mono ?_
      rintro e wb ⟨bb, vb, rfl, hpb⟩
      have BB2 := qh (BZ.out.trans (bb.mono BZ.out.size))
      have HPX : Hid (PayI (blksOf nm A) (fun k => k < wb.heap.size) wb vb) := hpb.keptP fun k hk => ⟨hk.2, rfl⟩
      have HPY := qh (oz_pay (HOZ.out.below (Nat.le_trans HS7.out HZN.out) bb) (Nat.le_trans (Nat.le_trans HS7.out HZN.out) bb.size))
      clear bb hpb
      go_wp2_with fail
      refine (same10S HPX.out HPY.out (Nat.le_refl _)).mono ?_
      rintro e wc ⟨rfl, bc⟩
      have BC := qh (BB2.out.trans (bc.mono BB2.out.size))
      clear bc
      go_wp2_with fail
      refine (AW.out wc BC.out).mono ?_
      rintro e v3 ⟨rfl, k3⟩
      have HB3 := qh (BC.out.trans (k3.mono BC.out.size))
      clear k3
      go_wp2_with fail
      go_ret
      exact ⟨rfl, HB3.out⟩
    · have HJL := qh ((List.getElem?_eq_some_iff.1 hX).1)
      obtain ⟨b, off, ea, hb, hcel⟩ := HR.out.2.2.2 (by have := HJL.out; omega)
      subst ea
      have h22 : c.size = 22 := by obtain ⟨c', e, h, -⟩ := hip.size; injection e with e; rw [e]; exact h
      have hone : c.all (·.oneCell') = true := by obtain ⟨c', e, -, h⟩ := hip.size; injection e with e; rw [e, Array.all_eq_true_iff_forall_mem]; intro u hu; exact h u (by simpa using hu)
      have H22 := qh h22
      have H1 := qh hone
      have HIP := qh hip
      have hcA := HR.out.1
      have HJC : Hid (j + 1 ≤ cA) := by have := HJL.out; unfold Hid; omega
      have HPP := qh (pay_part HR.out HE.out hX)
      obtain ⟨vs, hvs⟩ : ∃ q, sliced (some ⟨b, off, none⟩) j (j + 1) cA 22 = q := ⟨_, rfl⟩
      rw [hvs] at HPP
      have HVS := qh hvs
      have j0 : (0 : Int) ≤ (j : Int) := by omega
      have j2 : IntKind.i64.wrap ((j : Int) + 1) = ((j + 1 : Nat) : Int) := by rw [IntWalk.i64_in _ (by have := HJL.out; omega)]; rfl
      clear b8 hX hip h22 hone hb hcel hcA hvs
      go_wp2_with (refine wpList_store_row rfl 40 (.tmp 10) (.tmp 76) rfl w8.heap.size c rfl rfl 40 _ N1.out (size40z H22.out) (by rw [H22.out]; rfl) H1.out ?_
                   have r22 := qh (setRow_heap _ _ _ c _ _ N1.out)
                   have HB9 := qh (Below.row HB0.out (Nat.le_refl _) c)
                   clear N1 HB0
                   generalize World.setRow _ w8.heap.size c = w9 at *)
      obtain ⟨N, hN⟩ : ∃ N, N = w9.heap.size := ⟨_, rfl⟩
      have S0 := held_at hN
      have HBN : Hid (w8.heap.size ≤ N) := by have := HB9.out.size; unfold Hid; omega
      have HG : Hid (w8.heap.size < N) := by have := (Array.getElem?_eq_some_iff.1 r22.out).1; unfold Hid; omega
      have R10 : Hid (∀ m u, c.toList[m]? = some u → w9.cell? ⟨w8.heap.size, 0 + m, none⟩ = some u) := fun m u h => by rw [Nat.zero_add]; exact (cell_of_row _ _ m _ _ _ r22.out).trans (by simpa using h)
      have HI9 : Hid (∀ W, Below N w9 W → IP (fun k => k < W.heap.size) W X (.agg c)) := fun W hW => HIP.out.keptP fun k hk => ⟨by have := hW.size; have := hk.2; have := HBN.out; have := HB9.out.size; omega, (hW.block k (by have := hk.2; have := HBN.out; omega)).trans (HB9.out.block k hk.2)⟩
      have HP9 : Hid (∀ W, Below N w9 W → PayI [X] (fun k => k < W.heap.size) W vs) := fun W hW => HPP.out.keptP fun k hk => ⟨by have := HN.out w8 B8.out; have := hW.size; have := HBN.out; have := HB9.out.size; omega, (hW.block k (by have := HN.out w8 B8.out; have := HBN.out; omega)).trans ((HB9.out.block k (by have := HN.out w8 B8.out; omega)).trans (B8.out.block k (by have := HN.out w (Below.refl _ _); omega)))⟩
      have HWS : Hid (w.heap.size ≤ w8.heap.size) := B8.out.size
      have HS7 : Hid (w7.heap.size ≤ N) := Nat.le_trans HS8.out HBN.out
      have HOW : Hid (∀ W, Below N w9 W → OZ w7.heap.size W (.slice oo (blksOf nm A).length cc) (blksOf nm A)) := fun W hW => HO8.out.below HS8.out (HB9.out.trans (hW.mono HBN.out))
      clear hN HO8 r22
      generalize w8.heap.size = g8 at *
      refine wp_region_noPanic ?_
      refine wp_region_held_drew (S := (fun W => (∀ b o, b < N → W.cell? ⟨b, o, none⟩ = w9.cell? ⟨b, o, none⟩) ∧ Hid (Below N w9 W) ∧ Hid (N ≤ W.heap.size))) (by kernel_rfl) ?_ (fun hH => ?_)
      · exact S0
      generalize w9.drew = Ws at *
      refine wpAnyH_take (i := 0) (oi := { dst := some 78, op := Op.move (Operand.tmp 11), type := 4, pos := _, after := _, guard := none }) (v := ?_) rfl (by kernel_rfl) (by kernel_rfl) (by kernel_rfl) (fun _ _ _ h => h) (Or.inl ⟨by rfl, ?_⟩) (by assumption) ?_
      rotate_left
      · (intro w hSw; (try dsimp only at hSw); go_simp; try with_reducible rfl)
      try simp only [Act.put, sqa, sqb, sqc]
      refine wpAnyH_take (i := 1) (oi := { dst := some 79, op := Op.move (Operand.tmp 7), type := 3, pos := _, after := _, guard := none }) (v := ?_) rfl (by kernel_rfl) (by kernel_rfl) (by kernel_rfl) (fun _ _ _ h => h) (Or.inl ⟨by rfl, ?_⟩) (by assumption) ?_
      rotate_left
      · (intro w hSw; (try dsimp only at hSw); go_simp; try with_reducible rfl)
      try simp only [Act.put, sqa, sqb, sqc]
      refine wpAnyH_take (i := 2) (oi := { dst := some 80, op := Op.binOp BinOp.geq 3 (Operand.tmp 79) (Operand.const (Value.int IntKind.i64 0)) 3, type := 4, pos := _, after := _, guard := none }) (v := ?_) rfl (by kernel_rfl) (by kernel_rfl) (by kernel_rfl) (fun _ _ _ h => h) (Or.inl ⟨by rfl, ?_⟩) (by assumption) ?_
      rotate_left
      · (intro w hSw; (try dsimp only at hSw); go_simp; try with_reducible rfl)
      try simp only [Act.put, sqa, sqb, sqc]
      refine wpAnyH_take (i := 3) (oi := { dst := some 81, op := Op.binOp BinOp.neq 4 (Operand.tmp 78) (Operand.tmp 80) 4, type := 4, pos := _, after := _, guard := none }) (v := ?_) rfl (by kernel_rfl) (by kernel_rfl) (by kernel_rfl) (fun _ _ _ h => h) (Or.inl ⟨by rfl, ?_⟩) (by assumption) ?_
      rotate_left
      · (intro w hSw; (try dsimp only at hSw); go_simp; try with_reducible rfl)
      try simp only [Act.put, sqa, sqb, sqc]
      refine wpAnyH_take (i := 4) (oi := { dst := some 82, op := Op.move (Operand.tmp 81), type := 4, pos := _, after := _, guard := none }) (v := ?_) rfl (by kernel_rfl) (by kernel_rfl) (by kernel_rfl) (fun _ _ _ h => h) (Or.inl ⟨by rfl, ?_⟩) (by assumption) ?_
      rotate_left
      · (intro w hSw; (try dsimp only at hSw); go_simp; try with_reducible rfl)
      try simp only [Act.put, sqa, sqb, sqc]
      refine wpAnyH_take (i := 5) (oi := { dst := some 83, op := Op.move (Operand.tmp 11), type := 4, pos := _, after := _, guard := some (4, false) }) (v := ?_) rfl (by kernel_rfl) (by kernel_rfl) (by kernel_rfl) (fun _ _ _ h => h) (Or.inl ⟨by rfl, ?_⟩) (by assumption) ?_
      rotate_left
      · (intro w hSw; (try dsimp only at hSw); go_simp; try with_reducible rfl)
      try simp only [Act.put, sqa, sqb, sqc]
      refine wpAnyH_take (i := 6) (oi := { dst := some 84, op := Op.move (Operand.tmp 83), type := 4, pos := _, after := _, guard := some (4, false) }) (v := ?_) rfl (by kernel_rfl) (by kernel_rfl) (by kernel_rfl) (fun _ _ _ h => h) (Or.inl ⟨by rfl, ?_⟩) (by assumption) ?_
      rotate_left
      · (intro w hSw; (try dsimp only at hSw); go_simp; try with_reducible rfl)
      try simp only [Act.put, sqa, sqb, sqc]
      refine wpAnyH_take (i := 7) (oi := { dst := some 85, op := Op.load 40 (Operand.tmp 10), type := 40, pos := _, after := _, guard := some (6, true) }) (v := .agg c) rfl (by kernel_rfl) (by kernel_rfl) (by kernel_rfl) (fun _ _ _ h => h) (Or.inl ⟨by rfl, ?_⟩) (by assumption) ?_
      · (intro W hSw; exact exec_load40 rfl rfl (fun m u h => (hSw.1 g8 _ HG.out).trans (R10.out m u h)) H22.out)
      try simp only [Act.put, sqa, sqb, sqc]
      refine wpAnyH_take (i := 9) (oi := { dst := some 87, op := Op.move (Operand.tmp 0), type := 22, pos := _, after := _, guard := some (6, true) }) (v := ?_) rfl (by kernel_rfl) (by kernel_rfl) (by kernel_rfl) (fun _ _ _ h => h) (Or.inl ⟨by rfl, ?_⟩) (by assumption) ?_
      rotate_left
      · (intro w hSw; (try dsimp only at hSw); go_simp; try with_reducible rfl)
      try simp only [Act.put, sqa, sqb, sqc]
      refine wpAnyH_take (i := 10) (oi := { dst := some 88, op := Op.move (Operand.tmp 7), type := 3, pos := _, after := _, guard := some (6, true) }) (v := ?_) rfl (by kernel_rfl) (by kernel_rfl) (by kernel_rfl) (fun _ _ _ h => h) (Or.inl ⟨by rfl, ?_⟩) (by assumption) ?_
      rotate_left
      · (intro w hSw; (try dsimp only at hSw); go_simp; try with_reducible rfl)
      try simp only [Act.put, sqa, sqb, sqc]
      refine wpAnyH_take (i := 11) (oi := { dst := some 89, op := Op.move (Operand.tmp 7), type := 3, pos := _, after := _, guard := some (6, true) }) (v := ?_) rfl (by kernel_rfl) (by kernel_rfl) (by kernel_rfl) (fun _ _ _ h => h) (Or.inl ⟨by rfl, ?_⟩) (by assumption) ?_
      rotate_left
      · (intro w hSw; (try dsimp only at hSw); go_simp; try with_reducible rfl)
      try simp only [Act.put, sqa, sqb, sqc]
      refine wpAnyH_take (i := 12) (oi := { dst := some 90, op := Op.binOp BinOp.add 3 (Operand.tmp 89) (Operand.const (Value.int IntKind.i64 1)) 3, type := 3, pos := _, after := _, guard := some (6, true) }) (v := ?_) rfl (by kernel_rfl) (by kernel_rfl) (by kernel_rfl) (fun _ _ _ h => h) (Or.inl ⟨by rfl, ?_⟩) (by assumption) ?_
      rotate_left
      · (intro w hSw; (try dsimp only at hSw); go_simp; try with_reducible rfl)
      try simp only [Act.put, sqa, sqb, sqc]
      refine wpAnyH_take (i := 13) (oi := { dst := some 91, op := Op.slice 22 (Operand.tmp 87) (some (Operand.tmp 88)) (some (Operand.tmp 90)) none, type := 22, pos := _, after := _, guard := some (6, true) }) (v := vs) rfl (by kernel_rfl) (by kernel_rfl) (by kernel_rfl) (fun _ _ _ h => h) (Or.inl ⟨by rfl, ?_⟩) (by assumption) ?_
      · (intro W hSw; exact (exec_slice22 rfl rfl rfl rfl HJC.out).trans (by rw [HVS.out]))
      try simp only [Act.put, sqa, sqb, sqc]
      refine wpAnyH_ready (rs := [8]) (by kernel_rfl) (by simp) ?_
      refine AllReadyH.cons (o := { dst := some 86, op := Op.buildSlice 22 1 #[(0, Operand.tmp 85)], type := 22, pos := _, after := _, guard := some (6, true) }) rfl (fun K hK => ?_) AllReadyH.nil
      refine step_build_it (by rfl) (.tmp 85) rfl c rfl H22.out ?_
      try simp only [Act.put, sqa, sqb, sqc]
      have BB : Below Ws.heap.size Ws (Ws.alloc (.cells c 40)) := (Below.refl _ _).alloc (Nat.le_refl _) _
      have HPO := qh (pay_one (HI9.out Ws hH.2.1.out))
      have HN4 := held_next BB hH
      have HPV := qh (HP9.out _ HN4.2.1.out)
      clear BB
      generalize Ws.alloc (.cells c 40) = Wa at *
      generalize Ws.heap.size = gs at *
      refine hK.out _ _ ?_ (fun hH' => ?_)
      · exact HN4
      clear HN4
      clear hK K hH
      have hH := hH'
      clear hH'
      try simp only [Act.put, sqa, sqb, sqc]
      refine wpAnyH_ready (rs := [14]) (by kernel_rfl) (by simp) ?_
      refine AllReadyH.cons (o := { dst := some 92, op := Op.call { callee := Callee.value (Operand.func 10), args := #[Operand.tmp 86, Operand.tmp 91, Operand.const (Value.bool true)], argTypes := #[22, 22, 4] }, type := 4, pos := _, after := _, guard := some (6, true) }) rfl (fun K hK => ?_) AllReadyH.nil
      go_simp
      refine (same10S HPO.out HPV.out (Nat.le_refl _)).mono ?_
      rintro e W5 ⟨rfl, bb⟩
      refine hK.out _ _ ?_ (fun hH' => ?_)
      · exact held_next bb hH
      clear bb HPO HPV
      clear hK K hH
      have hH := hH'
      clear hH'
      try simp only [Act.put, sqa, sqb, sqc]
      refine wpAnyH_take (i := 15) (oi := { dst := some 93, op := Op.unOp UnOp.not 4 (Operand.tmp 92), type := 4, pos := _, after := _, guard := some (6, true) }) (v := ?_) rfl (by kernel_rfl) (by kernel_rfl) (by kernel_rfl) (fun _ _ _ h => h) (Or.inl ⟨by rfl, ?_⟩) (by assumption) ?_
      rotate_left
      · (intro w hSw; (try dsimp only at hSw); go_simp; try with_reducible rfl)
      try simp only [Act.put, sqa, sqb, sqc]
      refine wpAnyH_take (i := 16) (oi := { dst := some 94, op := Op.pick (Operand.tmp 84) (Operand.tmp 93) (Operand.const (Value.bool false)), type := 4, pos := _, after := _, guard := some (4, false) }) (v := ?_) rfl (by kernel_rfl) (by kernel_rfl) (by kernel_rfl) (fun _ _ _ h => h) (Or.inl ⟨by rfl, ?_⟩) (by assumption) ?_
      rotate_left
      · (intro w hSw; (try dsimp only at hSw); go_simp; try with_reducible rfl)
      try simp only [Act.put, sqa, sqb, sqc]
      refine wpAnyH_take (i := 17) (oi := { dst := some 95, op := Op.pick (Operand.tmp 82) (Operand.const (Value.bool true)) (Operand.tmp 94), type := 4, pos := _, after := _, guard := none }) (v := ?_) rfl (by kernel_rfl) (by kernel_rfl) (by kernel_rfl) (fun _ _ _ h => h) (Or.inl ⟨by rfl, ?_⟩) (by assumption) ?_
      rotate_left
      · (intro w hSw; (try dsimp only at hSw); go_simp; try with_reducible rfl)
      try simp only [Act.put, sqa, sqb, sqc]
      refine wpAnyH_done (by kernel_rfl) ?_ _
      refine NoPanic.normal ?_
      have HZ := qh hH.2.1.out
      have HZN := qh hH.2.2.out
      have BZ := qh ((B8.out.trans (HB9.out.mono HWS.out)).trans (HZ.out.mono (Nat.le_trans HWS.out HBN.out)))
      have HOZ := qh (HOW.out _ HZ.out)
      clear hH HOW
      go_wp2_with fail
      refine (blocks_any nm HS.out (by have := HL.out; omega) (PA.out _ BZ.out) (HN.out _ BZ.out)).mono ?_
      rintro e wb ⟨bb, vb, rfl, hpb⟩
      have BB2 := qh (BZ.out.trans (bb.mono BZ.out.size))
      have HPX : Hid (PayI (blksOf nm A) (fun k => k < wb.heap.size) wb vb) := hpb.keptP fun k hk => ⟨hk.2, rfl⟩
      have HPY := qh (oz_pay (HOZ.out.below (Nat.le_trans HS7.out HZN.out) bb) (Nat.le_trans (Nat.le_trans HS7.out HZN.out) bb.size))
      clear bb hpb
      go_wp2_with fail
      refine (same10S HPX.out HPY.out (Nat.le_refl _)).mono ?_
      rintro e wc ⟨rfl, bc⟩
      have BC := qh (BB2.out.trans (bc.mono BB2.out.size))
      clear bc
      go_wp2_with fail
      refine (AW.out wc BC.out).mono ?_
      rintro e v3 ⟨rfl, k3⟩
      have HB3 := qh (BC.out.trans (k3.mono BC.out.size))
      clear k3
      go_wp2_with fail
      go_ret
      exact ⟨rfl, HB3.out⟩
end Go.Proofs.YtncjncacfagldaaGreatDoor

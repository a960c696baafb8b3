/- AddrBytes: the law's walk. -/
import Derived.Test.YtakoghdkllfhlaaDoorRq
import Derived.Test.YtakoghdkllfhlaaDoorRr
import Derived.Test.YtakoghdkllfhlaaDoorG
import Derived.Test.YtakoghdkllfhlaaDoorJ
import Derived.Test.YtakoghdkllfhlaaDoorM
namespace Go.Proofs.YtakoghdkllfhlaaDoor
open Go.RowKit Go.Lib

theorem bts_lent {w : World} {g : Nat} {M : List Nat} (h : RowI w g 5 .u8 (M.length + 8) (lentF (M.map Int.ofNat))) (hM : ∀ c, c ∈ M → c < 256) (hl : M.length ≤ 1000) : Bts w.heap.size w (some ⟨g, 0, none⟩) (M.length + 8) M := by
  refine ⟨⟨by omega, by unfold maxLen; omega, (fun h => by cases h), fun _ => ⟨g, 0, rfl, h.lt, fun j hj m hm2 => ?_⟩⟩, hM, fun a e => by injection e with e; rw [← e]⟩
  obtain rfl : m = 0 := by omega
  rw [Nat.zero_add, Nat.mul_one, Nat.add_zero, h.cell j (by omega), lentF_lo _ _ (by simpa using hj)]
  rw [List.getD_eq_getElem?_getD, List.getElem?_map, List.getElem?_eq_getElem hj]
  show _ = some (Value.int .u8 ((M.getD j 0 : Nat) : Int))
  rw [List.getD_eq_getElem?_getD, List.getElem?_eq_getElem hj]; rfl
theorem rdi_of {n : Nat} {w : World} {o : Option Addr} {cap : Nat} {M : List Nat} (B : Bts n w o cap M) (hn : n ≤ w.heap.size) : RdI w o (M.map Int.ofNat) := fun i hi => by
  have hi' : i < M.length := by simpa using hi
  obtain ⟨b, off, e, hb, c⟩ := B.at hi'
  refine ⟨b, off, e, by omega, ?_⟩
  rw [c, List.getD_eq_getElem?_getD, List.getD_eq_getElem?_getD, List.getElem?_map, List.getElem?_eq_getElem hi']; rfl
theorem fmK_bytes (k : Obt) : ∀ c, c ∈ fmK k → c < 256 := fun c hc => by
  unfold fmK at hc
  cases h : checkKB k with
  | false => rw [h] at hc; cases hc
  | true => rw [h] at hc; exact formK_bytes (may_of h) c hc
theorem fmK_len (k : Obt) (hN : k.N < 4294967296) : (fmK k).length ≤ 200 := by
  unfold fmK
  cases h : checkKB k with
  | false => simp
  | true => have := formK_len (may_of h) hN; simpa using this
theorem formK_ne (k : Obt) : formK k ≠ [] := by
  unfold formK
  simp
set_option maxRecDepth 100000 in
set_option maxHeartbeats 8000000 in
theorem lbytes_any (k : Obt) {n : Nat} {sp : Option Addr} {cap : Nat} {M : List Nat} {w : World} (hk : Okk k) (B : Bts n w sp cap M) (hn : n ≤ w.heap.size) : Calls Tryd.prog 7 #[.slice sp M.length cap, kv k] w (Tru w true) := by
  have HW : Hid (Below w.heap.size w (w.alloc (bk k))) := (Below.refl w.heap.size w).alloc (Nat.le_refl _) (bk k)
  have HZ : Hid ((w.alloc (bk k)).heap.size = w.heap.size + 1) := by simp [Hid]
  have Ha : Hid (Hk (w.alloc (bk k)) w.heap.size k) := Hk.made w k
  have lm1 := B.row.1
  have lm2 := B.row.2.1
  unfold maxLen at lm2
  have HB : Hid (∀ W, Below w.heap.size w W → Bts n W sp cap M) := fun W b => B.kept (b.mono hn)
  have BB := Lib.hid B.b
  obtain ⟨F, hF⟩ : ∃ F, fmK k = F := ⟨_, rfl⟩
  obtain ⟨Mg, hMg⟩ : ∃ Mg, M ++ F = Mg := ⟨_, rfl⟩
  have HF := Lib.hid hF
  have HMG := Lib.hid hMg
  have hFl : F.length ≤ 200 := by rw [← hF]; exact fmK_len k hk.N1
  have hgl : Mg.length = M.length + F.length := by rw [← hMg, List.length_append]
  have BG : Hid (∀ c, c ∈ Mg → c < 256) := fun c hc => by rw [← hMg, ← hF] at hc; exact (List.mem_append.1 hc).elim (B.b c) (fmK_bytes k c)
  have HGL := Lib.hid hgl
  have hgi : (Mg.length : Int) - (M.length : Int) = F.length := by omega
  have HGI := Lib.hid hgi
  have hgm : min (M.length : Int) (Mg.length : Int) = M.length := by omega
  have HGM := Lib.hid hgm
  have HOK := Lib.hid hk
  obtain ⟨⟨X, u, e0⟩, hr⟩ : ∃ r, getK M = r := ⟨_, rfl⟩
  have hrR : getR M = (X, u, e0) := by rw [← hr]; exact (getK_eq M B.b).symm
  have HR := Lib.hid hr
  have HRR := Lib.hid hrR
  clear B hF hMg hgl hgi hgm hk hr hrR
  go_enter Tryd.func7, Tryd.ntmps7
  go_upto_region 1 with fail
  generalize World.alloc w _ = w0 at *
  have B0 := Lib.hid (Below.refl w0.heap.size w0)
  obtain ⟨x8, x0, x1, x2, x3, x4, x5⟩ := Ha.out.kept B0.out (by have := HZ.out; omega)
  go_wp2_with fail
  refine (great_any k.a _).mono ?_
  rintro e w1 ⟨g1, rfl, -, b1⟩
  have B1 := Lib.hid b1
  clear b1
  clear x8 x0 x1 x2 x3 x4 x5
  obtain ⟨x8, x0, x1, x2, x3, x4, x5⟩ := Ha.out.kept B1.out (by have := HZ.out; omega)
  cases g1 with
  | true =>
    go_wp2_with fail
    refine (awake_any _).mono ?_
    rintro e wz ⟨rfl, bz⟩
    have BZ := Lib.hid (HW.out.trans ((B1.out.trans (bz.mono B1.out.size)).mono HW.out.size))
    clear bz
    go_wp2_with fail
    go_ret
    exact ⟨rfl, BZ.out⟩
  | false =>
    by_cases hl : 500 < (M.length : Int)
    · skip
      go_wp2_with fail
      refine (awake_any _).mono ?_
      rintro e wz ⟨rfl, bz⟩
      have BZ := Lib.hid (HW.out.trans ((B1.out.trans (bz.mono B1.out.size)).mono HW.out.size))
      clear bz
      go_wp2_with fail
      go_ret
      exact ⟨rfl, BZ.out⟩
    · skip
      have hM1 : M.length ≤ 1000 := by omega
      have hI : (M.map Int.ofNat).length = M.length := by simp
      have HI := Lib.hid hI
      obtain ⟨G, hG⟩ : ∃ G, G = w1.heap.size := ⟨_, rfl⟩
      have HB1 := Lib.hid (HB.out w1 (HW.out.trans (B1.out.mono HW.out.size)))
      have Z1 : n ≤ w1.heap.size := by have := B1.out.size; have := HW.out.size; omega
      have HLent := lent_any sp cap (M.map Int.ofNat) w1 (rdi_of HB1.out Z1) (by rw [hI]; exact hM1)
      rw [hI, ← hG] at HLent
      have HL := Lib.hid HLent
      have HG := Lib.hid hG
      clear HLent hI hG
      go_wp2_with fail
      refine HL.out.mono ?_
      rintro e w2 ⟨rfl, hrow, hb2⟩
      have T2 := Lib.hid hrow
      have B2 := Lib.hid (B1.out.trans (hb2.mono (by rw [HG.out]; exact B1.out.size)))
      have Z2 : G < w2.heap.size := hrow.lt
      have HBL := Lib.hid (bts_lent hrow BB.out hM1)
      clear hrow hb2 HL
      clear x8 x0 x1 x2 x3 x4 x5
      obtain ⟨x8, x0, x1, x2, x3, x4, x5⟩ := Ha.out.kept B2.out (by have := HZ.out; omega)
      have CP := Lib.hid (put_any k HOK.out HBL.out (Nat.le_refl _) hM1)
      rw [HF.out, HMG.out] at CP
      go_wp2_with fail
      refine CP.out.mono ?_
      rintro e w3 ⟨v3, rfl, o3, b3⟩
      obtain ⟨og, cg, rfl, t3⟩ := bts_of_own o3 BG.out
      have TG := Lib.hid t3
      have B23 := Lib.hid b3
      have B3 := Lib.hid (B2.out.trans (b3.mono B2.out.size))
      clear o3 b3 t3 CP
      clear x8 x0 x1 x2 x3 x4 x5
      have HO := Lib.hid (World.ownsRow_made w3 #[] 0 (base := w3.heap.size) (e := 5) (size := 1) (Nat.le_refl _) (Nat.zero_le _) rfl)
      have AL := Lib.hid ((Below.refl w3.heap.size w3).alloc (Nat.le_refl _) (.cells #[] 5))
      have HBM := Lib.hid (HB.out _ (HW.out.trans ((B3.out.trans (AL.out.mono B3.out.size)).mono HW.out.size)))
      go_wp2_with (at_builtin; go_must (refine app_bts rfl (.tmp 31) (.tmp 32) rfl (base := w3.heap.size) (N := []) (M := M) rfl rfl HO.out HBM.out (by simp; omega) (by simp) ?_))
      intro v4 w4 hown4 hb4 hs4
      have ON := Lib.hid hown4
      have BE4 := Lib.hid (AL.out.trans hb4)
      have ZE4 : Hid (w3.heap.size ≤ w4.heap.size) := by unfold Hid; have := AL.out.size; omega
      have B4 := Lib.hid (B3.out.trans (BE4.out.mono B3.out.size))
      clear hown4 hb4 hs4 HO AL HBM
      obtain ⟨x8, x0, x1, x2, x3, x4, x5⟩ := Ha.out.kept B4.out (by have := HZ.out; omega)
      have CC := Lib.hid (fun W => rcheckK_any k W HOK.out.sm)
      cases hc : checkKB k with
      | false =>
        rw [hc] at CC
        have HC := Lib.hid hc
        have hf0 : F = [] := by rw [← HF.out]; unfold fmK; rw [hc]; rfl
        have hmm : Mg = M := by rw [← HMG.out, hf0, List.append_nil]
        have HMM := Lib.hid hmm
        clear hf0 hmm hc
        go_wp2_with fail
        refine (CC.out _).mono ?_
        rintro e w5 ⟨rfl, b5⟩
        have ZE5 := Lib.hid (Nat.le_trans ZE4.out b5.size)
        have BE5 := Lib.hid (BE4.out.trans (b5.mono ZE4.out))
        have B5 := Lib.hid (B3.out.trans (BE5.out.mono B3.out.size))
        have ON5 := Lib.hid (ownsRow_kept ON.out fun g hg => b5.block g (ON.out.lt g hg).2)
        clear b5 BE4 B4 ON ZE4
        clear x8 x0 x1 x2 x3 x4 x5
        obtain ⟨x8, x0, x1, x2, x3, x4, x5⟩ := Ha.out.kept B5.out (by have := HZ.out; omega)
        have ON7 : Hid (w5.ownsRow w3.heap.size 5 1 v4 Mg.length (bcs Mg)) := by unfold Hid; rw [HMM.out]; exact ON5.out
        have BE7 := BE5
        have ZE7 := ZE5
        have B7 := B5
        clear ON5 BE5 ZE5 B5
        clear x8 x0 x1 x2 x3 x4 x5
        generalize hw7 : w5 = w7 at *
        clear hw7
        generalize hv7 : v4 = v7 at *
        clear hv7
        obtain ⟨oW, cW, rfl, tW⟩ := bts_of_own ON7.out BG.out
        have TW := Lib.hid tW
        have TG7 := Lib.hid (TG.out.kept BE7.out)
        clear tW ON7
        have IN7 := Lib.hid (HBL.out.kept (B23.out.trans (BE7.out.mono B23.out.size)))
        have Z7 : w2.heap.size ≤ w7.heap.size := Nat.le_trans B23.out.size ZE7.out
        have CG := Lib.hid (get_any IN7.out Z7)
        rw [HR.out] at CG
        unfold getKV at CG
        dsimp only at CG
        go_upto_region 8 with fail
        go_wp2_with fail
        refine CG.out.mono ?_
        rintro e w8 ⟨rfl, b8⟩
        clear CG
        have HX : Hid (Hk (w8.alloc (bk X)) w8.heap.size X) := Hk.made w8 X
        have A8 : Hid (Below w7.heap.size w7 (w8.alloc (bk X))) := b8.trans ((Below.refl w8.heap.size w8).alloc (Nat.le_refl _) (bk X) |>.mono b8.size)
        have Z8 : Hid ((w8.alloc (bk X)).heap.size = w8.heap.size + 1) := by simp [Hid]
        clear b8
        go_upto_region 9 with fail
        generalize w8.alloc _ = w9 at *
        have B9 := Lib.hid (B7.out.trans (A8.out.mono B7.out.size))
        have CR := Lib.hid (rgetR_any (HB.out w9 (HW.out.trans (B9.out.mono HW.out.size))) (by have := B9.out.size; have := HW.out.size; omega))
        rw [HRR.out] at CR
        unfold getKV at CR
        dsimp only at CR
        go_wp2_with fail
        refine CR.out.mono ?_
        rintro e w10 ⟨rfl, b10⟩
        clear CR
        have HY : Hid (Hk (w10.alloc (bk X)) w10.heap.size X) := Hk.made w10 X
        have A10 : Hid (Below w9.heap.size w9 (w10.alloc (bk X))) := b10.trans ((Below.refl w10.heap.size w10).alloc (Nat.le_refl _) (bk X) |>.mono b10.size)
        clear b10
        go_upto_region 10 with fail
        generalize w10.alloc _ = w11 at *
        have BG11 := Lib.hid (BE7.out.trans ((A8.out.mono ZE7.out).trans (A10.out.mono (by have := A8.out.size; have := ZE7.out; omega))))
        have BW11 := Lib.hid (A8.out.trans (A10.out.mono A8.out.size))
        have B11 := Lib.hid (B9.out.trans (A10.out.mono B9.out.size))
        have SM := Lib.hid (same_any (TG.out.kept BG11.out) (TW.out.kept BW11.out))
        rw [decide_eq_true rfl] at SM
        go_wp2_with fail
        refine SM.out.mono ?_
        rintro e w12 ⟨rfl, m12, rfl⟩
        clear SM
        have D12 : Hid (Below w11.heap.size w11 (w11.drewN m12)) := below_drewN (Below.refl _ _) _
        generalize w11.drewN m12 = w12 at *
        have B12 := Lib.hid (B11.out.trans (D12.out.mono B11.out.size))
        obtain ⟨y8, y0, y1, y2, y3, y4, y5⟩ := HX.out.kept (A10.out.trans (D12.out.mono A10.out.size)) (by have := Z8.out; omega)
        obtain ⟨z8, z0, z1, z2, z3, z4, z5⟩ := HY.out.kept D12.out HY.out.lt
        have KP : Hid (Calls Tryd.prog 38 #[.slice (some ⟨G, 0, none⟩) M.length (M.length + 8), .slice sp M.length cap] w12 fun e w' => e = .returned (.bool true) ∧ Below w12.heap.size w12 w') := by
          have bw : Below w2.heap.size w2 w12 := (B23.out.trans (BG11.out.mono B23.out.size)).trans (D12.out.mono (by have := B23.out.size; have := BG11.out.size; omega))
          refine kept_any G M.length cap sp (M.map Int.ofNat) w12 HI.out hM1 (T2.out.below bw Z2) ?_
          have hs := same_any (HBL.out.kept bw) (HB.out w12 (HW.out.trans (B12.out.mono HW.out.size)))
          rw [decide_eq_true rfl] at hs
          refine hs.mono ?_
          rintro e w' ⟨he, m, rfl⟩
          exact ⟨he, below_drewN (Below.refl _ _) m⟩
        go_wp2_with (first | (refine wpList_neq26 (by rfl) (.tmp 57) (.tmp 58) rfl X X true (by simp) rfl rfl ?_))
        refine KP.out.mono ?_
        rintro e w13 ⟨rfl, b13⟩
        have B13 := Lib.hid (B12.out.trans (b13.mono B12.out.size))
        have BG13 := Lib.hid (BG11.out.trans ((D12.out.trans (b13.mono D12.out.size)).mono (by have := BG11.out.size; omega)))
        clear b13 KP y8 y0 y1 y2 y3 y4 y5 z8 z0 z1 z2 z3 z4 z5
        have TG13 := Lib.hid (TG.out.kept BG13.out)
        have Z13 := BG13.out.size
        have tl1 := TG13.out.row.1
        have hgm := HGM.out
        have hgl := HGL.out
        have dF : Mg.drop M.length = F := by rw [← HMG.out]; simp
        cases og with
        | none =>
          obtain ⟨hc0, hn0⟩ := TG13.out.nil
          have hm0 : M.length = 0 := by rw [hn0] at hgl; simp at hgl; omega
          have hf0 : F = [] := List.eq_nil_of_length_eq_zero (by rw [hn0] at hgl; simp at hgl; omega)
          subst hc0
          have hg0 : Mg.length = 0 := by rw [hn0]; rfl
          have CH := Lib.hid (get_any (nb := w3.heap.size) (o := none) (cap := 0) (M := []) (w := w13) ⟨⟨Nat.le_refl _, Nat.zero_le _, fun _ => rfl, fun h => absurd h (Nat.lt_irrefl _)⟩, (fun c hc => by cases hc), fun a e => by cases e⟩ Z13)
          rw [hg0, hm0] at hgm
          clear hgl
          unfold getKV at CH
          rw [List.length_nil] at CH
          go_wp2_with fail
          refine CH.out.mono ?_
          rintro e w14 ⟨rfl, b14⟩
          clear CH
          have HV : Hid (Hk (w14.alloc (bk (getK []).1)) w14.heap.size (getK []).1) := Hk.made w14 _
          have A14 : Hid (Below w13.heap.size w13 (w14.alloc (bk (getK []).1))) := b14.trans ((Below.refl w14.heap.size w14).alloc (Nat.le_refl _) (bk (getK []).1) |>.mono b14.size)
          clear b14 hgm
          go_upto_region 13 with fail
          generalize w14.alloc _ = w15 at *
          have B15 := Lib.hid (B13.out.trans (A14.out.mono B13.out.size))
          obtain ⟨x8, x0, x1, x2, x3, x4, x5⟩ := Ha.out.kept B15.out (by have := HZ.out; omega)
          go_wp2_with fail
          refine (CC.out _).mono ?_
          rintro e w16 ⟨rfl, b16⟩
          have B16 := Lib.hid (B15.out.trans (b16.mono B15.out.size))
          clear b16
          clear x8 x0 x1 x2 x3 x4 x5
          go_wp2_with fail
          refine (awake_any _).mono ?_
          rintro e wz ⟨rfl, bz⟩
          have BZ := Lib.hid (HW.out.trans ((B16.out.trans (bz.mono B16.out.size)).mono HW.out.size))
          clear bz
          go_wp2_with fail
          go_ret
          exact ⟨rfl, BZ.out⟩
        | some a =>
          obtain ⟨gb, goff, gsp⟩ := a
          obtain rfl := TG13.out.sp _ rfl
          have dl : F.length = Mg.length - M.length := by omega
          have CH : Hid (∀ oc, oc = cutO gb goff cg M.length → Calls Tryd.prog 35 #[.slice oc (Mg.length - M.length) (cg - M.length)] w13 fun r w' => r = getKV (getK F) ∧ Below w13.heap.size w13 w') := fun oc ho => by subst ho; unfold cutO; rw [← dl, ← dF]; exact get_any (TG13.out.cut (by omega)) Z13
          clear dl
          unfold getKV at CH
          clear hgl
          go_wp2_with (refine wpList_cut rfl (.tmp 78) (.tmp 83) rfl gb goff Mg.length cg M.length rfl rfl (by have := HGL.out; omega) tl1 ?_)
          intro oc HOC
          go_wp2_with fail
          refine (CH.out _ HOC.out).mono ?_
          rintro e w14 ⟨rfl, b14⟩
          clear CH
          have HV : Hid (Hk (w14.alloc (bk (getK F).1)) w14.heap.size (getK F).1) := Hk.made w14 _
          have A14 : Hid (Below w13.heap.size w13 (w14.alloc (bk (getK F).1))) := b14.trans ((Below.refl w14.heap.size w14).alloc (Nat.le_refl _) (bk (getK F).1) |>.mono b14.size)
          clear b14 hgm
          go_upto_region 13 with fail
          generalize w14.alloc _ = w15 at *
          have B15 := Lib.hid (B13.out.trans (A14.out.mono B13.out.size))
          obtain ⟨x8, x0, x1, x2, x3, x4, x5⟩ := Ha.out.kept B15.out (by have := HZ.out; omega)
          go_wp2_with fail
          refine (CC.out _).mono ?_
          rintro e w16 ⟨rfl, b16⟩
          have B16 := Lib.hid (B15.out.trans (b16.mono B15.out.size))
          clear b16
          clear x8 x0 x1 x2 x3 x4 x5
          go_wp2_with fail
          refine (awake_any _).mono ?_
          rintro e wz ⟨rfl, bz⟩
          have BZ := Lib.hid (HW.out.trans ((B16.out.trans (bz.mono B16.out.size)).mono HW.out.size))
          clear bz
          go_wp2_with fail
          go_ret
          exact ⟨rfl, BZ.out⟩
      | true =>
        rw [hc] at CC
        have HC := Lib.hid hc
        have CF := Lib.hid (fun W => rform_any k W HOK.out (may_of hc))
        have hff : formK k = F := by rw [← HF.out]; unfold fmK; rw [hc]; rfl
        have HFF := Lib.hid hff
        rw [hff] at CF
        clear hff hc
        go_wp2_with fail
        refine (CC.out _).mono ?_
        rintro e w5 ⟨rfl, b5⟩
        have ZE5 := Lib.hid (Nat.le_trans ZE4.out b5.size)
        have BE5 := Lib.hid (BE4.out.trans (b5.mono ZE4.out))
        have B5 := Lib.hid (B3.out.trans (BE5.out.mono B3.out.size))
        have ON5 := Lib.hid (ownsRow_kept ON.out fun g hg => b5.block g (ON.out.lt g hg).2)
        clear b5 BE4 B4 ON ZE4
        clear x8 x0 x1 x2 x3 x4 x5
        obtain ⟨x8, x0, x1, x2, x3, x4, x5⟩ := Ha.out.kept B5.out (by have := HZ.out; omega)
        go_wp2_with fail
        refine (CF.out _).mono ?_
        rintro e w6 ⟨v6, rfl, o6, b6⟩
        have fb : ∀ c, c ∈ F → c < 256 := fun c hc => fmK_bytes k c (by rw [HF.out]; exact hc)
        obtain ⟨o6a, c6, rfl, t6⟩ := bts_of_own o6 fb
        have T6 := Lib.hid t6
        have ZE6 := Lib.hid (Nat.le_trans ZE5.out b6.size)
        have BE6 := Lib.hid (BE5.out.trans (b6.mono ZE5.out))
        have ON6 := Lib.hid (ownsRow_kept ON5.out fun g hg => b6.block g (ON5.out.lt g hg).2)
        clear o6 b6 t6 fb CF ON5 BE5 B5 ZE5
        clear x8 x0 x1 x2 x3 x4 x5
        go_wp2_with (at_builtin; go_must (refine app_bts rfl (.tmp 36) (.tmp 38) rfl (base := w3.heap.size) (N := M) (M := F) rfl rfl ON6.out T6.out (by omega) ZE6.out ?_))
        intro v7 w7 hown7 hb7 hs7
        rw [← List.length_append, HMG.out] at hown7
        have ON7 := Lib.hid hown7
        have BE7 := Lib.hid (BE6.out.trans hb7)
        have ZE7 := Lib.hid (Nat.le_trans ZE6.out hs7)
        clear hown7 hb7 hs7 ON6 BE6 ZE6 T6
        have B7 := Lib.hid (B3.out.trans (BE7.out.mono B3.out.size))
        obtain ⟨oW, cW, rfl, tW⟩ := bts_of_own ON7.out BG.out
        have TW := Lib.hid tW
        have TG7 := Lib.hid (TG.out.kept BE7.out)
        clear tW ON7
        have IN7 := Lib.hid (HBL.out.kept (B23.out.trans (BE7.out.mono B23.out.size)))
        have Z7 : w2.heap.size ≤ w7.heap.size := Nat.le_trans B23.out.size ZE7.out
        have CG := Lib.hid (get_any IN7.out Z7)
        rw [HR.out] at CG
        unfold getKV at CG
        dsimp only at CG
        go_wp2_with fail
        refine CG.out.mono ?_
        rintro e w8 ⟨rfl, b8⟩
        clear CG
        have HX : Hid (Hk (w8.alloc (bk X)) w8.heap.size X) := Hk.made w8 X
        have A8 : Hid (Below w7.heap.size w7 (w8.alloc (bk X))) := b8.trans ((Below.refl w8.heap.size w8).alloc (Nat.le_refl _) (bk X) |>.mono b8.size)
        have Z8 : Hid ((w8.alloc (bk X)).heap.size = w8.heap.size + 1) := by simp [Hid]
        clear b8
        go_upto_region 9 with fail
        generalize w8.alloc _ = w9 at *
        have B9 := Lib.hid (B7.out.trans (A8.out.mono B7.out.size))
        have CR := Lib.hid (rgetR_any (HB.out w9 (HW.out.trans (B9.out.mono HW.out.size))) (by have := B9.out.size; have := HW.out.size; omega))
        rw [HRR.out] at CR
        unfold getKV at CR
        dsimp only at CR
        go_wp2_with fail
        refine CR.out.mono ?_
        rintro e w10 ⟨rfl, b10⟩
        clear CR
        have HY : Hid (Hk (w10.alloc (bk X)) w10.heap.size X) := Hk.made w10 X
        have A10 : Hid (Below w9.heap.size w9 (w10.alloc (bk X))) := b10.trans ((Below.refl w10.heap.size w10).alloc (Nat.le_refl _) (bk X) |>.mono b10.size)
        clear b10
        go_upto_region 10 with fail
        generalize w10.alloc _ = w11 at *
        have BG11 := Lib.hid (BE7.out.trans ((A8.out.mono ZE7.out).trans (A10.out.mono (by have := A8.out.size; have := ZE7.out; omega))))
        have BW11 := Lib.hid (A8.out.trans (A10.out.mono A8.out.size))
        have B11 := Lib.hid (B9.out.trans (A10.out.mono B9.out.size))
        have SM := Lib.hid (same_any (TG.out.kept BG11.out) (TW.out.kept BW11.out))
        rw [decide_eq_true rfl] at SM
        go_wp2_with fail
        refine SM.out.mono ?_
        rintro e w12 ⟨rfl, m12, rfl⟩
        clear SM
        have D12 : Hid (Below w11.heap.size w11 (w11.drewN m12)) := below_drewN (Below.refl _ _) _
        generalize w11.drewN m12 = w12 at *
        have B12 := Lib.hid (B11.out.trans (D12.out.mono B11.out.size))
        obtain ⟨y8, y0, y1, y2, y3, y4, y5⟩ := HX.out.kept (A10.out.trans (D12.out.mono A10.out.size)) (by have := Z8.out; omega)
        obtain ⟨z8, z0, z1, z2, z3, z4, z5⟩ := HY.out.kept D12.out HY.out.lt
        have KP : Hid (Calls Tryd.prog 38 #[.slice (some ⟨G, 0, none⟩) M.length (M.length + 8), .slice sp M.length cap] w12 fun e w' => e = .returned (.bool true) ∧ Below w12.heap.size w12 w') := by
          have bw : Below w2.heap.size w2 w12 := (B23.out.trans (BG11.out.mono B23.out.size)).trans (D12.out.mono (by have := B23.out.size; have := BG11.out.size; omega))
          refine kept_any G M.length cap sp (M.map Int.ofNat) w12 HI.out hM1 (T2.out.below bw Z2) ?_
          have hs := same_any (HBL.out.kept bw) (HB.out w12 (HW.out.trans (B12.out.mono HW.out.size)))
          rw [decide_eq_true rfl] at hs
          refine hs.mono ?_
          rintro e w' ⟨he, m, rfl⟩
          exact ⟨he, below_drewN (Below.refl _ _) m⟩
        go_wp2_with (first | (refine wpList_neq26 (by rfl) (.tmp 57) (.tmp 58) rfl X X true (by simp) rfl rfl ?_))
        refine KP.out.mono ?_
        rintro e w13 ⟨rfl, b13⟩
        have B13 := Lib.hid (B12.out.trans (b13.mono B12.out.size))
        have BG13 := Lib.hid (BG11.out.trans ((D12.out.trans (b13.mono D12.out.size)).mono (by have := BG11.out.size; omega)))
        clear b13 KP y8 y0 y1 y2 y3 y4 y5 z8 z0 z1 z2 z3 z4 z5
        have TG13 := Lib.hid (TG.out.kept BG13.out)
        have Z13 := BG13.out.size
        have tl1 := TG13.out.row.1
        have hgm := HGM.out
        have hgl := HGL.out
        have dF : Mg.drop M.length = F := by rw [← HMG.out]; simp
        cases og with
        | none =>
          obtain ⟨hc0, hn0⟩ := TG13.out.nil
          have hm0 : M.length = 0 := by rw [hn0] at hgl; simp at hgl; omega
          have hf0 : F = [] := List.eq_nil_of_length_eq_zero (by rw [hn0] at hgl; simp at hgl; omega)
          exact absurd (HFF.out.trans hf0) (formK_ne k)
        | some a =>
          obtain ⟨gb, goff, gsp⟩ := a
          obtain rfl := TG13.out.sp _ rfl
          have dl : F.length = Mg.length - M.length := by omega
          have CH : Hid (∀ oc, oc = cutO gb goff cg M.length → Calls Tryd.prog 35 #[.slice oc (Mg.length - M.length) (cg - M.length)] w13 fun r w' => r = getKV (getK F) ∧ Below w13.heap.size w13 w') := fun oc ho => by subst ho; unfold cutO; rw [← dl, ← dF]; exact get_any (TG13.out.cut (by omega)) Z13
          clear dl
          rw [show getK F = (k, F.length, 0) by rw [← HFF.out]; exact getK_form HOK.out HC.out] at CH
          unfold getKV at CH
          clear hgl
          go_wp2_with (refine wpList_cut rfl (.tmp 78) (.tmp 83) rfl gb goff Mg.length cg M.length rfl rfl (by have := HGL.out; omega) tl1 ?_)
          intro oc HOC
          go_wp2_with fail
          refine (CH.out _ HOC.out).mono ?_
          rintro e w14 ⟨rfl, b14⟩
          clear CH
          have HV : Hid (Hk (w14.alloc (bk k)) w14.heap.size k) := Hk.made w14 _
          have A14 : Hid (Below w13.heap.size w13 (w14.alloc (bk k))) := b14.trans ((Below.refl w14.heap.size w14).alloc (Nat.le_refl _) (bk k) |>.mono b14.size)
          clear b14 hgm
          go_upto_region 13 with fail
          generalize w14.alloc _ = w15 at *
          have B15 := Lib.hid (B13.out.trans (A14.out.mono B13.out.size))
          obtain ⟨x8, x0, x1, x2, x3, x4, x5⟩ := Ha.out.kept B15.out (by have := HZ.out; omega)
          go_wp2_with fail
          refine (CC.out _).mono ?_
          rintro e w16 ⟨rfl, b16⟩
          have B16 := Lib.hid (B15.out.trans (b16.mono B15.out.size))
          obtain ⟨y8, y0, y1, y2, y3, y4, y5⟩ := HV.out.kept b16 HV.out.lt
          clear b16
          clear x8 x0 x1 x2 x3 x4 x5
          obtain ⟨x8, x0, x1, x2, x3, x4, x5⟩ := Ha.out.kept B16.out (by have := HZ.out; omega)
          have hgi := HGI.out
          go_wp2_with (first | (refine wpList_eql26 (by rfl) (.tmp 93) (.tmp 94) rfl k k true (by simp) rfl rfl ?_))
          refine (awake_any _).mono ?_
          rintro e wz ⟨rfl, bz⟩
          have BZ := Lib.hid (HW.out.trans ((B16.out.trans (bz.mono B16.out.size)).mono HW.out.size))
          clear bz
          go_wp2_with fail
          go_ret
          exact ⟨rfl, BZ.out⟩
end Go.Proofs.YtakoghdkllfhlaaDoor

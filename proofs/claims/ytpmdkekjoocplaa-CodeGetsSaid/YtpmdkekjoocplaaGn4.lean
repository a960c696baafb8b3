/- The reference's get: a first byte of kind 4. -/
import Derived.Test.YtpmdkekjoocplaaGm
namespace Go.Proofs.Ytpmdkekjoocplaa
open Go.RowKit Typ

set_option maxRecDepth 100000 in
set_option maxHeartbeats 4000000 in
theorem rget_4 {d : Nat} (hd : d ≤ 7) (HV : RHolds ((9 - d : Nat) : Int) (dec tok d)) {n : Nat} {o : Option Addr} {cap : Nat} {M : List Nat} {at' : Nat} {w : World} (B : Bts n w o cap M) (hn : n ≤ w.heap.size) (hlt : at' < M.length) (hKK : M.getD at' 0 % 128 = 4) :
    Calls Try.prog 16 #[.slice o M.length cap, .int .i64 at', .int .i64 ((8 - d : Nat) : Int)] w (RPost (dec tok (d + 1) (M.drop at')) M.length at' w) := by
  have hle : at' ≤ M.length := Nat.le_of_lt hlt
  have hdep : ¬ (8 : Int) < ((8 - d : Nat) : Int) := by omega
  obtain ⟨D, hD⟩ : ∃ D : Int, ((8 - d : Nat) : Int) = D := ⟨_, rfl⟩
  have hD1 : ((9 - d : Nat) : Int) = D + 1 := by omega
  rw [hD1] at HV
  rw [hD] at hdep ⊢
  have hDb : 0 ≤ D ∧ D ≤ 8 := by omega
  obtain ⟨hDb1, hDb2⟩ := hDb
  have HVV := Lib.hid HV
  have l1 := B.row.1
  have l2 := B.row.2.1
  unfold maxLen at l2
  have HB0 := Lib.hid (((Below.refl w.heap.size w).alloc (Nat.le_refl _) (.cells zero8 30)).alloc (by simp) (.cells zero8 30))
  have C0 : Hid (((w.alloc (.cells zero8 30)).alloc (.cells zero8 30)).heap[w.heap.size]? = some (.cells zero8 30 (0, 0))) := (Below.heap_alloc _ _ _ (by simp)).trans (heap_alloc_new _ _)
  have C1 : Hid (((w.alloc (.cells zero8 30)).alloc (.cells zero8 30)).heap[w.heap.size + 1]? = some (.cells zero8 30 (0, 0))) := by
    have := heap_alloc_new (w.alloc (.cells zero8 30)) (.cells zero8 30)
    simpa [Hid] using this
  have HZ : Hid (((w.alloc (.cells zero8 30)).alloc (.cells zero8 30)).heap.size = w.heap.size + 2) := by simp [Hid]
  have HB := Lib.hid (B.kept (HB0.out.mono hn))
  clear HV hD hD1
  have hlt' : (at' : Int) < (M.length : Int) := by omega
  obtain ⟨b, off, rfl, hbn, c0⟩ := HB.out.at hlt
  obtain ⟨c, hc⟩ : ∃ c, M.getD at' 0 = c := ⟨_, rfl⟩
  rw [hc] at c0
  have hc2 : c < 256 := by rw [← hc]; exact HB.out.lt at'
  have HD : Hid (dec tok (d + 1) (M.drop at') = decB tok (dec tok d) c (M.drop (at' + 1))) := by unfold Hid; rw [drop_cons hlt, hc]; rfl
  have hK : c % 128 = 4 := by rw [← hc]; exact hKK
  obtain ⟨S, hS⟩ : ∃ S : Bool, decide (128 ≤ c) = S := ⟨_, rfl⟩
  have hk1 : (c : Int) % 128 = 4 := by omega
  have hs1 : decide ((128 : Int) ≤ (c : Int)) = S := by rw [← hS]; congr 1; simp; omega
  have HKS := Lib.hid (And.intro hK hS)
  clear hK hS hc B
  go_enter Try.func16, Try.ntmps16
  go_upto_region 2 with fail
  generalize World.alloc (World.alloc _ _) _ = W at *
  have hbW : b < W.heap.size := by have := HZ.out; omega
  go_wp2_with fail
  go_region
  have BX : Hid (Below w.heap.size w (W.alloc (.cells (head8 4 S) 30)).drew) := (HB0.out.alloc HB0.out.size _).drew
  have YX : Hid ((W.alloc (.cells (head8 4 S) 30)).drew.heap[w.heap.size]? = some (.cells zero8 30 (0, 0))) := (Below.heap_alloc _ _ _ (by have := HZ.out; omega)).trans C0.out
  have QX : Hid ((W.alloc (.cells (head8 4 S) 30)).drew.heap[w.heap.size + 1]? = some (.cells zero8 30 (0, 0))) := (Below.heap_alloc _ _ _ (by have := HZ.out; omega)).trans C1.out
  have PX : Hid ((W.alloc (.cells (head8 4 S) 30)).drew.heap[w.heap.size + 2]? = some (.cells (head8 4 S) 30 (0, 0))) := by
    have := heap_alloc_new W (.cells (head8 4 S) 30)
    rw [HZ.out] at this
    exact this
  have HBX : Hid (Bts n (W.alloc (.cells (head8 4 S) 30)).drew (some ⟨b, off, none⟩) cap M) := HB.out.kept (((Below.refl n W).alloc (by have := HZ.out; omega) _).drew)
  have SX : Hid ((W.alloc (.cells (head8 4 S) 30)).drew.heap.size = w.heap.size + 3) := by
    have := HZ.out
    show (W.alloc (.cells (head8 4 S) 30)).heap.size = _
    simp; omega
  have hWz : W.heap.size = w.heap.size + 2 := HZ.out
  go_upto_region 8 with fail
  rw [hWz]
  clear c0 hbW hWz HB
  generalize World.drew _ = X at *
  clear HB0 C0 C1 HZ
  have sx := SX.out
  have hb2 : w.heap.size ≤ w.heap.size + 2 := by omega
  have hlen1 : (M.drop (at' + 1)).length = M.length - (at' + 1) := List.length_drop
  have SG : ∀ (o' : Option Addr) (cap' : Nat) W, Bts n W o' cap' (M.drop (at' + 1)) → Calls Try.prog 29 #[.slice o' (M.length - (at' + 1)) cap'] W fun e w' => e = gsV (gs 0 (M.drop (at' + 1))) ∧ ∃ m, w' = W.drewN m := fun o' cap' W B => by have := rgetShort_any B; rw [hlen1] at this; exact this
  have ST : ∀ (o' : Option Addr) (cap' : Nat) W, Bts n W o' cap' (M.drop (at' + 1)) → Calls Try.prog 30 #[.slice o' (M.length - (at' + 1)) cap', .int .i64 1024] W fun e w' => e = rstrV (gstr (M.drop (at' + 1)) 1024) ∧ ∃ m, w' = W.drewN m := fun o' cap' W B => by have := rgetStr_any B; rw [hlen1] at this; exact this
  have HSG := Lib.hid SG
  have HST := Lib.hid ST
  have HBM : Hid (∀ c, c ∈ M.drop (at' + 1) → c < 256) := fun c hc => HBX.out.b c (List.mem_of_mem_drop hc)
  have HL1 := Lib.hid hlen1
  clear SG ST hlen1
  have hle1 : at' + 1 ≤ M.length := hlt
  clear hk1 hs1
  obtain ⟨p0, p1, p2, p3, p4, p5, p6, p7, t0, t1, t2, t3, t4, t5, t6, t7, tl⟩ := b8_of PX.out
  have HDE : Hid (dec tok (d + 1) (M.drop at') = match elR (dec tok d) false (M.drop (at' + 1)) with
      | .error e => .error e
      | .ok (ks, l, u) => .ok (.mk 4 0 ⟨#[]⟩ l ks 0 0 S, 1 + u)) := by unfold Hid; rw [HD.out, decB_el4 HKS.out.1, HKS.out.2]; try rfl
  have hgl := @gs_ok 0 (M.drop (at' + 1))
  cases hr : gs 0 (M.drop (at' + 1)) with
  | error z =>
    have hz0 : 0 < z := by have := gs_err _ _ _ hr; omega
    have hzn : ((z : Int) != 0) = true := by rw [bne_iff_ne]; omega
    have HQ : Hid (dec tok (d + 1) (M.drop at') = .error z) := by unfold Hid; rw [HDE.out]; unfold elR; rw [hr]
    clear hgl
    go_wp2_with fail
    all_goals
      refine (HSG.out _ _ _ (by first | exact HBX.out.cut hle1 | exact HBX.out.drop hle1 | exact HBX.out.cutE hle1 (by assumption))).mono ?_
      rintro e w4 ⟨rfl, m4, hw4⟩
      have B4 : Hid (Below w.heap.size w w4) := BX.out.trans (by rw [hw4]; exact below_drewN (Below.refl _ _) _)
      have Y4 : Hid (w4.heap[w.heap.size]? = some (.cells zero8 30 (0, 0))) := by rw [hw4]; exact YX.out
      have Q4 : Hid (w4.heap[w.heap.size + 1]? = some (.cells zero8 30 (0, 0))) := by rw [hw4]; exact QX.out
      have P4 : Hid (w4.heap[w.heap.size + 2]? = some (.cells (head8 4 S) 30 (0, 0))) := by rw [hw4]; exact PX.out
      have HB4 : Hid (Bts n w4 (some ⟨b, off, none⟩) cap M) := by rw [hw4]; exact HBX.out.kept (below_drewN (Below.refl _ _) _)
      have S4 : Hid (w4.heap.size = w.heap.size + 3) := by rw [hw4]; exact SX.out
      clear hw4
      clear p0 p1 p2 p3 p4 p5 p6 p7 t0 t1 t2 t3 t4 t5 t6 t7 tl
      rw [hr]
      unfold gsV
      obtain ⟨y0, y1, y2, y3, y4, y5, y6, y7, z0, z1, z2, z3, z4, z5, z6, z7, zl⟩ := b8_of Y4.out
      obtain ⟨q0, q1, q2, q3, q4, q5, q6, q7, -, -, -, -, -, -, -, -, -⟩ := b8_of Q4.out
      go_wp2_with fail
      refine bodyPost_ret (v := .tuple #[zeroV, .int .i64 0, .int .i64 z]) (by simp [results, Try.results16, go_sem, y0, y1, y2, y3, y4, y5, y6, y7]) rfl ?_
      exact rp_err HQ.out (by omega) (below_set8 (B4.out) (Nat.le_refl _) _ _ _ _ _ _ _ _) rfl
  | ok q =>
    obtain ⟨n', u⟩ := q
    obtain ⟨hu, hu0⟩ := hgl hr
    rw [HL1.out] at hu
    have hcap : ¬ cap = at' + 1 := by omega
    clear hgl
    by_cases h128 : 128 < n'
    · have hb5 := gs_bd HBM.out 0 n' u (by omega) hr
      have HQ : Hid (dec tok (d + 1) (M.drop at') = .error 3) := by unfold Hid; rw [HDE.out]; unfold elR; rw [hr]; simp only; rw [if_pos h128]
      go_wp2_with fail
      all_goals
        refine (HSG.out _ _ _ (by first | exact HBX.out.cut hle1 | exact HBX.out.drop hle1 | exact HBX.out.cutE hle1 (by assumption))).mono ?_
        rintro e w4 ⟨rfl, m4, hw4⟩
        have B4 : Hid (Below w.heap.size w w4) := BX.out.trans (by rw [hw4]; exact below_drewN (Below.refl _ _) _)
        have Y4 : Hid (w4.heap[w.heap.size]? = some (.cells zero8 30 (0, 0))) := by rw [hw4]; exact YX.out
        have Q4 : Hid (w4.heap[w.heap.size + 1]? = some (.cells zero8 30 (0, 0))) := by rw [hw4]; exact QX.out
        have P4 : Hid (w4.heap[w.heap.size + 2]? = some (.cells (head8 4 S) 30 (0, 0))) := by rw [hw4]; exact PX.out
        have HB4 : Hid (Bts n w4 (some ⟨b, off, none⟩) cap M) := by rw [hw4]; exact HBX.out.kept (below_drewN (Below.refl _ _) _)
        have S4 : Hid (w4.heap.size = w.heap.size + 3) := by rw [hw4]; exact SX.out
        clear hw4
        clear p0 p1 p2 p3 p4 p5 p6 p7 t0 t1 t2 t3 t4 t5 t6 t7 tl
        rw [hr]
        unfold gsV
        obtain ⟨y0, y1, y2, y3, y4, y5, y6, y7, z0, z1, z2, z3, z4, z5, z6, z7, zl⟩ := b8_of Y4.out
        obtain ⟨q0, q1, q2, q3, q4, q5, q6, q7, -, -, -, -, -, -, -, -, -⟩ := b8_of Q4.out
        go_wp2_with fail
        refine bodyPost_ret (v := .tuple #[zeroV, .int .i64 0, .int .i64 3]) (by simp [results, Try.results16, go_sem, y0, y1, y2, y3, y4, y5, y6, y7]) rfl ?_
        exact rp_err HQ.out (by omega) (below_set8 (B4.out) (Nat.le_refl _) _ _ _ _ _ _ _ _) rfl
    · obtain ⟨i30, hi, hzz⟩ := Option.map_eq_some_iff.1 info30
      simp only [Prod.mk.injEq] at hzz
      obtain ⟨hz, hs1, hb1⟩ := hzz
      obtain ⟨i9, hi9, hzz9⟩ := Option.map_eq_some_iff.1 info9
      simp only [Prod.mk.injEq] at hzz9
      obtain ⟨hz9, hs9, hb9⟩ := hzz9
      have HR5 := Lib.hid hr
      go_wp2_with fail
      refine (HSG.out _ _ _ (by first | exact HBX.out.cut hle1 | exact HBX.out.drop hle1 | exact HBX.out.cutE hle1 (by assumption))).mono ?_
      rintro e w4 ⟨rfl, m4, hw4⟩
      have B4 : Hid (Below w.heap.size w w4) := BX.out.trans (by rw [hw4]; exact below_drewN (Below.refl _ _) _)
      have Y4 : Hid (w4.heap[w.heap.size]? = some (.cells zero8 30 (0, 0))) := by rw [hw4]; exact YX.out
      have Q4 : Hid (w4.heap[w.heap.size + 1]? = some (.cells zero8 30 (0, 0))) := by rw [hw4]; exact QX.out
      have P4 : Hid (w4.heap[w.heap.size + 2]? = some (.cells (head8 4 S) 30 (0, 0))) := by rw [hw4]; exact PX.out
      have HB4 : Hid (Bts n w4 (some ⟨b, off, none⟩) cap M) := by rw [hw4]; exact HBX.out.kept (below_drewN (Below.refl _ _) _)
      have S4 : Hid (w4.heap.size = w.heap.size + 3) := by rw [hw4]; exact SX.out
      clear hw4
      clear p0 p1 p2 p3 p4 p5 p6 p7 t0 t1 t2 t3 t4 t5 t6 t7 tl
      rw [hr]
      unfold gsV
      go_wp2_with fail
      clear hr
      go_loopw [1, 21] (fun a i wr => ∃ (j x : Nat) (ks : List ByteArray) (l : List Val) (vk vl : Value) (cs : List Value), j ≤ n' ∧ i = .int .i64 j ∧ a = .int .i64 x ∧ Hid (Elr w4 (w.heap.size + 2) 4 S ks l vk vl cs wr) ∧ Hid (ElS (dec tok d) false n' M (at' + 1 + u) j ks l x)) (fun _ i _ => n' - (intOf i).toNat)
      case atStart => exact ⟨0, at' + 1 + u, [], [], _, _, [], Nat.zero_le _, rfl, congrArg _ (by omega), Elr.nil P4.out, ⟨rfl, rfl, Nat.le_refl _, by omega, by rw [Nat.sub_zero, Nat.sub_self]⟩⟩
      case round =>
        obtain ⟨j, x, ks, l, vk, vl, cs, hj, rfl, rfl, HE, HN⟩ := hrel
        have Yr : Hid (wr.heap[w.heap.size]? = some (.cells zero8 30 (0, 0))) := (HE.out.ex.block _ (by have := S4.out; omega) (by intro e; injection e with e; omega)).trans Y4.out
        have Qr : Hid (wr.heap[w.heap.size + 1]? = some (.cells zero8 30 (0, 0))) := (HE.out.ex.block _ (by have := S4.out; omega) (by intro e; injection e with e; omega)).trans Q4.out
        have BR : Hid (Below w.heap.size w wr) := B4.out.trans (HE.out.ex.below (by have := S4.out; omega) (fun k hk => by injection hk with hk; omega))
        have HBr : Hid (Bts n wr (some ⟨b, off, none⟩) cap M) := HB4.out.kept (HE.out.ex.below (by have := S4.out; omega) (fun k hk => by injection hk with hk; omega))
        have szr := HE.out.ex.size
        obtain ⟨p0, p1, p2, p3, p4, p5, p6, p7, t0, t1, t2, t3, t4, t5, t6, t7, tl⟩ := b8_of HE.out.bx
        by_cases hlt : j < n'
        · have HNLE : Hid (x ≤ M.length) := HN.out.le
          have HVC := Lib.hid (HVV.out n _ cap M (x) wr HBr.out (by have := S4.out; omega) HNLE.out)
          go_wp2_with fail
          refine HVC.out.mono ?_
          rintro e w5 ⟨b5, k5, i5, s5, oL5, nL5, cL5, oK5, nK5, cK5, tk5, to5, m5, a5, e5, rfl, hm⟩
          clear p0 p1 p2 p3 p4 p5 p6 p7 t0 t1 t2 t3 t4 t5 t6 t7 tl
          have HE6 : Hid (Elr w4 (w.heap.size + 2) 4 S (ks) l _ vl cs (w5.alloc (.cells #[.int .i64 k5, .int .i64 i5, .string s5, .slice oL5 nL5 cL5, .slice oK5 nK5 cK5, .int .i64 tk5, .int .i64 to5, .bool m5] 30))) := (HE.out.val b5).val ((Below.refl _ _).alloc (Nat.le_refl _) _)
          have X6 : Hid ((w5.alloc (.cells #[.int .i64 k5, .int .i64 i5, .string s5, .slice oL5 nL5 cL5, .slice oK5 nK5 cK5, .int .i64 tk5, .int .i64 to5, .bool m5] 30)).heap[w5.heap.size]? = some (.cells #[.int .i64 k5, .int .i64 i5, .string s5, .slice oL5 nL5 cL5, .slice oK5 nK5 cK5, .int .i64 tk5, .int .i64 to5, .bool m5] 30 (0, 0))) := heap_alloc_new _ _
          have HO6 : Hid (∀ b, b < w5.heap.size → (w5.alloc (.cells #[.int .i64 k5, .int .i64 i5, .string s5, .slice oL5 nL5 cL5, .slice oK5 nK5 cK5, .int .i64 tk5, .int .i64 to5, .bool m5] 30)).heap[b]? = w5.heap[b]?) := fun b hb => Below.heap_alloc _ _ _ hb
          have HZ6 : Hid ((w5.alloc (.cells #[.int .i64 k5, .int .i64 i5, .string s5, .slice oL5 nL5 cL5, .slice oK5 nK5 cK5, .int .i64 tk5, .int .i64 to5, .bool m5] 30)).heap.size = w5.heap.size + 1) := by simp [Hid]
          go_upto_region 60 with fail
          generalize w5.alloc _ = w6 at *
          have Y6 : Hid (w6.heap[w.heap.size]? = some (.cells zero8 30 (0, 0))) := (HE6.out.ex.block _ (by have := S4.out; omega) (by intro e; injection e with e; omega)).trans Y4.out
          have Q6 : Hid (w6.heap[w.heap.size + 1]? = some (.cells zero8 30 (0, 0))) := (HE6.out.ex.block _ (by have := S4.out; omega) (by intro e; injection e with e; omega)).trans Q4.out
          have B6 : Hid (Below w.heap.size w w6) := B4.out.trans (HE6.out.ex.below (by have := S4.out; omega) (fun k hk => by injection hk with hk; omega))
          cases hf : dec tok d (M.drop (x)) with
          | error z =>
            rw [hf] at hm
            obtain ⟨rfl, hz0⟩ := hm
            have hzn : ((z : Int) != 0) = true := by rw [bne_iff_ne]; omega
            have HQ : Hid (dec tok (d + 1) (M.drop at') = .error z) := by unfold Hid; rw [HDE.out, elR_err HR5.out h128 (HN.out.err hlt hf)]
            clear hf
            obtain ⟨y0, y1, y2, y3, y4, y5, y6, y7, z0, z1, z2, z3, z4, z5, z6, z7, zl⟩ := b8_of Y6.out
            obtain ⟨q0, q1, q2, q3, q4, q5, q6, q7, -, -, -, -, -, -, -, -, -⟩ := b8_of Q6.out
            go_wp2_with fail
            refine bodyPost_ret (v := .tuple #[zeroV, .int .i64 0, .int .i64 z]) (by simp [results, Try.results16, go_sem, y0, y1, y2, y3, y4, y5, y6, y7]) rfl ?_
            exact rp_err HQ.out (by omega) (below_set8 (B6.out) (Nat.le_refl _) _ _ _ _ _ _ _ _) rfl
          | ok p =>
            obtain ⟨V, u5⟩ := p
            rw [hf] at hm
            obtain ⟨rfl, rfl, hle5, hl5⟩ := hm
            obtain ⟨p0, p1, p2, p3, p4, p5, p6, p7, t0, t1, t2, t3, t4, t5, t6, t7, tl⟩ := b8_of HE6.out.bx
            obtain ⟨d0, d1, d2, d3, d4, d5, d6, d7, f0, f1, f2, f3, f4, f5, f6, f7, fl⟩ := b8_of X6.out
            have HN2 := Lib.hid (HN.out.next hlt hf hle5)
            have HL5 := Lib.hid hl5
            have H7 : Hid (Elr w4 (w.heap.size + 2) 4 S (ks) l _ vl cs (w6.alloc (.cells #[.int .i64 k5, .int .i64 i5, .string s5, .slice oL5 nL5 cL5, .slice oK5 nK5 cK5, .int .i64 tk5, .int .i64 to5, .bool m5] 30))) := HE6.out.val ((Below.refl _ _).alloc (Nat.le_refl _) _)
            have HNB : Hid ((w6.alloc (.cells #[.int .i64 k5, .int .i64 i5, .string s5, .slice oL5 nL5 cL5, .slice oK5 nK5 cK5, .int .i64 tk5, .int .i64 to5, .bool m5] 30)).heap[w6.heap.size]? = some (.cells #[.int .i64 k5, .int .i64 i5, .string s5, .slice oL5 nL5 cL5, .slice oK5 nK5 cK5, .int .i64 tk5, .int .i64 to5, .bool m5] 30 (0, 0))) := heap_alloc_new _ _
            have hll : l.length ≤ 128 := by have := HN.out.ln; omega
            clear hf hl5
            go_wp2_with (at_builtin; go_must (refine wpList_append_lies _ rfl (.tmp 235) (.tmp 237) 25 rfl w4.heap.size 30 i30 _ 8 104 Try.underlying25 hi hz hs1 hb1 rfl (by omega) _ l.length cs rfl H7.out.ol ⟨w6.heap.size, 0, none⟩ 1 1 [.int .i64 k5, .int .i64 i5, .string s5, .slice oL5 nL5 cL5, .slice oK5 nK5 cK5, .int .i64 tk5, .int .i64 to5, .bool m5] rfl rfl (World.news_of_block HNB.out) (fun u hu => by simp at hu; rcases hu with rfl | rfl | rfl | rfl | rfl | rfl | rfl | rfl <;> rfl) (by omega) (by unfold maxLen; omega) (by omega) (by have := H7.out.ex.size; exact this) (w6.heap.size + 1) (by simp) ?_))
            intro g cp w8 hown hgrow hat hlt8
            have hbx8 : w8.heap[w.heap.size + 2]? = some (.cells (boxA 4 S _ vl) 30 (0, 0)) := (hgrow.block _ (by have := H7.out.ex.size; have := S4.out; omega) (fun e => by have := (H7.out.ol.lt _ e.symm).1; have := S4.out; omega)).trans H7.out.bx
            have H8 := Lib.hid (H7.out.app (X := V) (N0 := wr.heap.size) hgrow hown (by simpa using hat) (HL5.out.keptP fun b ⟨h1, h2⟩ => ⟨⟨h1, by have := HZ6.out; simp; omega⟩, (Below.heap_alloc _ _ _ (by have := HZ6.out; omega)).trans (HO6.out b h2)⟩) szr (fun g hg => (HE.out.ok.lt g hg).2) (fun g hg => (HE.out.ol.lt g hg).2))
            clear p0 p1 p2 p3 p4 p5 p6 p7 t0 t1 t2 t3 t4 t5 t6 t7 tl
            obtain ⟨p0, p1, p2, p3, p4, p5, p6, p7, t0, t1, t2, t3, t4, t5, t6, t7, tl⟩ := b8_of hbx8
            clear hown hgrow hat hbx8 d0 d1 d2 d3 d4 d5 d6 d7 f0 f1 f2 f3 f4 f5 f6 f7 fl
            go_wp2_with fail
            go_roundw
            case rel => exact ⟨j + 1, x + u5, ks, l ++ [V], _, _, _, by omega, by go_num, rfl, H8.out, HN2.out⟩
            case measure => simp [intOf]; omega
        · have hjn : j = n' := by omega
          subst hjn
          have hres : decE (dec tok d) false j [] [] 0 (M.drop (at' + 1 + u)) = .ok (ks, l, x - (at' + 1 + u)) := by rw [HN.out.eq, Nat.sub_self, decE]
          have HQ : Hid (dec tok (d + 1) (M.drop at') = .ok (.mk 4 0 ⟨#[]⟩ l ks 0 0 S, 1 + (u + (x - (at' + 1 + u))))) := by unfold Hid; rw [HDE.out, elR_ok HR5.out h128 hres]
          obtain ⟨oL, cL, oK, cK, rfl, rfl, hlies⟩ := HE.out.lies rfl
          have HLI := Lib.hid hlies
          have hge := HN.out.ge
          have hxl := HN.out.le
          clear hres hlies
          obtain ⟨y0, y1, y2, y3, y4, y5, y6, y7, z0, z1, z2, z3, z4, z5, z6, z7, zl⟩ := b8_of Yr.out
          go_wp2_with fail
          refine bodyPost_ret (v := .tuple #[vv 4 0 ⟨#[]⟩ (.slice oL l.length cL) (.slice oK ks.length cK) 0 0 S, .int .i64 x, .int .i64 0]) (by simp [results, Try.results16, go_sem, y0, y1, y2, y3, y4, y5, y6, y7]) rfl ?_
          refine rp_ok HQ.out (below_set8 (BR.out) (Nat.le_refl _) _ _ _ _ _ _ _ _) (by omega) (by omega) (HLI.out _ _ fun b hb1 hb2 => ⟨⟨by have := S4.out; omega, by simp; omega⟩, heap_set8 (by have := S4.out; omega)⟩) rfl
end Go.Proofs.Ytpmdkekjoocplaa

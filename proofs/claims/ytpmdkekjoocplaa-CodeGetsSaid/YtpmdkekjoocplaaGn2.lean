/- The reference's get: a first byte of kind 2. -/
import Derived.Test.YtpmdkekjoocplaaGm
namespace Go.Proofs.Ytpmdkekjoocplaa
open Go.RowKit Typ

set_option maxRecDepth 100000 in
set_option maxHeartbeats 4000000 in
theorem rget_2 {d : Nat} (hd : d ≤ 7) (HV : RHolds ((9 - d : Nat) : Int) (dec tok d)) {n : Nat} {o : Option Addr} {cap : Nat} {M : List Nat} {at' : Nat} {w : World} (B : Bts n w o cap M) (hn : n ≤ w.heap.size) (hlt : at' < M.length) (hKK : M.getD at' 0 % 128 = 2) :
    Calls Try.prog 16 #[.slice o M.length cap, .int .i64 at', .int .i64 ((8 - d : Nat) : Int)] w (RPost (dec tok (d + 1) (M.drop at')) M.length at' w) := by
  have hle : at' ≤ M.length := Nat.le_of_lt hlt
  have hdep : ¬ (8 : Int) < ((8 - d : Nat) : Int) := by omega
  obtain ⟨D, hD⟩ : ∃ D : Int, ((8 - d : Nat) : Int) = D := ⟨_, rfl⟩
  have hD1 : ((9 - d : Nat) : Int) = D + 1 := by omega
  rw [hD1] at HV
  rw [hD] at hdep ⊢
  have hDb : 0 ≤ D ∧ D ≤ 8 := by omega
  obtain ⟨hDb1, hDb2⟩ := hDb
  have HVV := Lib.hid HV
  have l1 := B.row.1
  have l2 := B.row.2.1
  unfold maxLen at l2
  have HB0 := Lib.hid (((Below.refl w.heap.size w).alloc (Nat.le_refl _) (.cells zero8 30)).alloc (by simp) (.cells zero8 30))
  have C0 : Hid (((w.alloc (.cells zero8 30)).alloc (.cells zero8 30)).heap[w.heap.size]? = some (.cells zero8 30 (0, 0))) := (Below.heap_alloc _ _ _ (by simp)).trans (heap_alloc_new _ _)
  have C1 : Hid (((w.alloc (.cells zero8 30)).alloc (.cells zero8 30)).heap[w.heap.size + 1]? = some (.cells zero8 30 (0, 0))) := by
    have := heap_alloc_new (w.alloc (.cells zero8 30)) (.cells zero8 30)
    simpa [Hid] using this
  have HZ : Hid (((w.alloc (.cells zero8 30)).alloc (.cells zero8 30)).heap.size = w.heap.size + 2) := by simp [Hid]
  have HB := Lib.hid (B.kept (HB0.out.mono hn))
  clear HV hD hD1
  have hlt' : (at' : Int) < (M.length : Int) := by omega
  obtain ⟨b, off, rfl, hbn, c0⟩ := HB.out.at hlt
  obtain ⟨c, hc⟩ : ∃ c, M.getD at' 0 = c := ⟨_, rfl⟩
  rw [hc] at c0
  have hc2 : c < 256 := by rw [← hc]; exact HB.out.lt at'
  have HD : Hid (dec tok (d + 1) (M.drop at') = decB tok (dec tok d) c (M.drop (at' + 1))) := by unfold Hid; rw [drop_cons hlt, hc]; rfl
  have hK : c % 128 = 2 := by rw [← hc]; exact hKK
  obtain ⟨S, hS⟩ : ∃ S : Bool, decide (128 ≤ c) = S := ⟨_, rfl⟩
  have hk1 : (c : Int) % 128 = 2 := by omega
  have hs1 : decide ((128 : Int) ≤ (c : Int)) = S := by rw [← hS]; congr 1; simp; omega
  have HKS := Lib.hid (And.intro hK hS)
  clear hK hS hc B
  go_enter Try.func16, Try.ntmps16
  go_upto_region 2 with fail
  generalize World.alloc (World.alloc _ _) _ = W at *
  have hbW : b < W.heap.size := by have := HZ.out; omega
  go_wp2_with fail
  go_region
  have BX : Hid (Below w.heap.size w (W.alloc (.cells (head8 2 S) 30)).drew) := (HB0.out.alloc HB0.out.size _).drew
  have YX : Hid ((W.alloc (.cells (head8 2 S) 30)).drew.heap[w.heap.size]? = some (.cells zero8 30 (0, 0))) := (Below.heap_alloc _ _ _ (by have := HZ.out; omega)).trans C0.out
  have QX : Hid ((W.alloc (.cells (head8 2 S) 30)).drew.heap[w.heap.size + 1]? = some (.cells zero8 30 (0, 0))) := (Below.heap_alloc _ _ _ (by have := HZ.out; omega)).trans C1.out
  have PX : Hid ((W.alloc (.cells (head8 2 S) 30)).drew.heap[w.heap.size + 2]? = some (.cells (head8 2 S) 30 (0, 0))) := by
    have := heap_alloc_new W (.cells (head8 2 S) 30)
    rw [HZ.out] at this
    exact this
  have HBX : Hid (Bts n (W.alloc (.cells (head8 2 S) 30)).drew (some ⟨b, off, none⟩) cap M) := HB.out.kept (((Below.refl n W).alloc (by have := HZ.out; omega) _).drew)
  have SX : Hid ((W.alloc (.cells (head8 2 S) 30)).drew.heap.size = w.heap.size + 3) := by
    have := HZ.out
    show (W.alloc (.cells (head8 2 S) 30)).heap.size = _
    simp; omega
  have hWz : W.heap.size = w.heap.size + 2 := HZ.out
  go_upto_region 8 with fail
  rw [hWz]
  clear c0 hbW hWz HB
  generalize World.drew _ = X at *
  clear HB0 C0 C1 HZ
  have sx := SX.out
  have hb2 : w.heap.size ≤ w.heap.size + 2 := by omega
  have hlen1 : (M.drop (at' + 1)).length = M.length - (at' + 1) := List.length_drop
  have SG : ∀ (o' : Option Addr) (cap' : Nat) W, Bts n W o' cap' (M.drop (at' + 1)) → Calls Try.prog 29 #[.slice o' (M.length - (at' + 1)) cap'] W fun e w' => e = gsV (gs 0 (M.drop (at' + 1))) ∧ ∃ m, w' = W.drewN m := fun o' cap' W B => by have := rgetShort_any B; rw [hlen1] at this; exact this
  have ST : ∀ (o' : Option Addr) (cap' : Nat) W, Bts n W o' cap' (M.drop (at' + 1)) → Calls Try.prog 30 #[.slice o' (M.length - (at' + 1)) cap', .int .i64 1024] W fun e w' => e = rstrV (gstr (M.drop (at' + 1)) 1024) ∧ ∃ m, w' = W.drewN m := fun o' cap' W B => by have := rgetStr_any B; rw [hlen1] at this; exact this
  have HSG := Lib.hid SG
  have HST := Lib.hid ST
  have HBM : Hid (∀ c, c ∈ M.drop (at' + 1) → c < 256) := fun c hc => HBX.out.b c (List.mem_of_mem_drop hc)
  have HL1 := Lib.hid hlen1
  clear SG ST hlen1
  have hle1 : at' + 1 ≤ M.length := hlt
  clear hk1 hs1
  obtain ⟨p0, p1, p2, p3, p4, p5, p6, p7, t0, t1, t2, t3, t4, t5, t6, t7, tl⟩ := b8_of PX.out
  have hgl := @gs_ok 0 (M.drop (at' + 1))
  cases hr : gs 0 (M.drop (at' + 1)) with
  | error z =>
    have hz0 : 0 < z := by have := gs_err _ _ _ hr; omega
    have hzn : ((z : Int) != 0) = true := by rw [bne_iff_ne]; omega
    have HQ : Hid (dec tok (d + 1) (M.drop at') = .error z) := by unfold Hid; rw [HD.out]; unfold decB; rw [HKS.out.1, if_neg (by decide), if_neg (by decide), if_pos rfl, hr]; try rfl
    clear hgl
    go_wp2_with fail
    all_goals
      refine (HSG.out _ _ _ (by first | exact HBX.out.cut hle1 | exact HBX.out.drop hle1 | exact HBX.out.cutE hle1 (by assumption))).mono ?_
      rintro e w4 ⟨rfl, m4, hw4⟩
      have B4 : Hid (Below w.heap.size w w4) := BX.out.trans (by rw [hw4]; exact below_drewN (Below.refl _ _) _)
      have Y4 : Hid (w4.heap[w.heap.size]? = some (.cells zero8 30 (0, 0))) := by rw [hw4]; exact YX.out
      have Q4 : Hid (w4.heap[w.heap.size + 1]? = some (.cells zero8 30 (0, 0))) := by rw [hw4]; exact QX.out
      have P4 : Hid (w4.heap[w.heap.size + 2]? = some (.cells (head8 2 S) 30 (0, 0))) := by rw [hw4]; exact PX.out
      have HB4 : Hid (Bts n w4 (some ⟨b, off, none⟩) cap M) := by rw [hw4]; exact HBX.out.kept (below_drewN (Below.refl _ _) _)
      have S4 : Hid (w4.heap.size = w.heap.size + 3) := by rw [hw4]; exact SX.out
      clear hw4
      clear p0 p1 p2 p3 p4 p5 p6 p7 t0 t1 t2 t3 t4 t5 t6 t7 tl
      rw [hr]
      unfold gsV
      obtain ⟨y0, y1, y2, y3, y4, y5, y6, y7, z0, z1, z2, z3, z4, z5, z6, z7, zl⟩ := b8_of Y4.out
      obtain ⟨q0, q1, q2, q3, q4, q5, q6, q7, -, -, -, -, -, -, -, -, -⟩ := b8_of Q4.out
      go_wp2_with fail
      refine bodyPost_ret (v := .tuple #[zeroV, .int .i64 0, .int .i64 z]) (by simp [results, Try.results16, go_sem, y0, y1, y2, y3, y4, y5, y6, y7]) rfl ?_
      exact rp_err HQ.out (by omega) (below_set8 (B4.out) (Nat.le_refl _) _ _ _ _ _ _ _ _) rfl
  | ok q =>
    obtain ⟨n', u⟩ := q
    have hb5 := gs_bd HBM.out 0 n' u (by omega) hr
    obtain ⟨hu, hu0⟩ := hgl hr
    rw [HL1.out] at hu
    have hcap : ¬ cap = at' + 1 := by omega
    clear hgl
    by_cases hodd : n' % 2 = 1
    · have hz5 : zag n' = -1 - (n' : Int) / 2 := by unfold zag; rw [if_pos hodd]; omega
      have ho1 : (n' : Int) % 2 = 1 := by omega
      have ho2 : (n' : Int) / 2 ≤ 9223372036854775807 := by omega
      have ho3 : (0 : Int) ≤ (n' : Int) / 2 := by omega
      have HQ : Hid (dec tok (d + 1) (M.drop at') = .ok (.mk 2 (zag n') ⟨#[]⟩ [] [] 0 0 S, 1 + u)) := by unfold Hid; rw [HD.out]; unfold decB; rw [HKS.out.1, if_neg (by decide), if_neg (by decide), if_pos rfl, hr, HKS.out.2]; try rfl
      have HZ5 := Lib.hid hz5
      clear hz5
      go_wp2_with fail
      all_goals
        refine (HSG.out _ _ _ (by first | exact HBX.out.cut hle1 | exact HBX.out.drop hle1 | exact HBX.out.cutE hle1 (by assumption))).mono ?_
        rintro e w4 ⟨rfl, m4, hw4⟩
        have B4 : Hid (Below w.heap.size w w4) := BX.out.trans (by rw [hw4]; exact below_drewN (Below.refl _ _) _)
        have Y4 : Hid (w4.heap[w.heap.size]? = some (.cells zero8 30 (0, 0))) := by rw [hw4]; exact YX.out
        have Q4 : Hid (w4.heap[w.heap.size + 1]? = some (.cells zero8 30 (0, 0))) := by rw [hw4]; exact QX.out
        have P4 : Hid (w4.heap[w.heap.size + 2]? = some (.cells (head8 2 S) 30 (0, 0))) := by rw [hw4]; exact PX.out
        have HB4 : Hid (Bts n w4 (some ⟨b, off, none⟩) cap M) := by rw [hw4]; exact HBX.out.kept (below_drewN (Below.refl _ _) _)
        have S4 : Hid (w4.heap.size = w.heap.size + 3) := by rw [hw4]; exact SX.out
        clear hw4
        clear p0 p1 p2 p3 p4 p5 p6 p7 t0 t1 t2 t3 t4 t5 t6 t7 tl
        rw [hr]
        unfold gsV
        obtain ⟨p0, p1, p2, p3, p4, p5, p6, p7, t0, t1, t2, t3, t4, t5, t6, t7, tl⟩ := b8_of P4.out
        obtain ⟨y0, y1, y2, y3, y4, y5, y6, y7, z0, z1, z2, z3, z4, z5, z6, z7, zl⟩ := b8_of Y4.out
        go_wp2_with fail
        refine bodyPost_ret (v := .tuple #[vv 2 (-1 - (n' : Int) / 2) ⟨#[]⟩ (.slice none 0 0) (.slice none 0 0) 0 0 S, .int .i64 ((at' : Int) + 1 + u), .int .i64 0]) (by simp [results, Try.results16, go_sem, y0, y1, y2, y3, y4, y5, y6, y7]) rfl ?_
        exact rp_ok HQ.out (below_set8 (below_set1 (below_set1 (B4.out) hb2 1 _) hb2 1 _) (Nat.le_refl _) _ _ _ _ _ _ _ _) (by omega) (by omega) (by rw [HZ5.out]; exact flat_lies _ _ rfl (wf64 (by omega) (by omega)) rfl rfl (by unfold maxLen; decide) S) rfl
    · have hz5 : zag n' = (n' : Int) / 2 := by unfold zag; rw [if_neg hodd]; omega
      have ho1 : (((n' : Int) % 2) == 1) = false := by rw [beq_eq_false_iff_ne]; omega
      have ho2 : (n' : Int) / 2 ≤ 9223372036854775807 := by omega
      have ho3 : (0 : Int) ≤ (n' : Int) / 2 := by omega
      have HQ : Hid (dec tok (d + 1) (M.drop at') = .ok (.mk 2 (zag n') ⟨#[]⟩ [] [] 0 0 S, 1 + u)) := by unfold Hid; rw [HD.out]; unfold decB; rw [HKS.out.1, if_neg (by decide), if_neg (by decide), if_pos rfl, hr, HKS.out.2]; try rfl
      have HZ5 := Lib.hid hz5
      clear hz5
      go_wp2_with fail
      all_goals
        refine (HSG.out _ _ _ (by first | exact HBX.out.cut hle1 | exact HBX.out.drop hle1 | exact HBX.out.cutE hle1 (by assumption))).mono ?_
        rintro e w4 ⟨rfl, m4, hw4⟩
        have B4 : Hid (Below w.heap.size w w4) := BX.out.trans (by rw [hw4]; exact below_drewN (Below.refl _ _) _)
        have Y4 : Hid (w4.heap[w.heap.size]? = some (.cells zero8 30 (0, 0))) := by rw [hw4]; exact YX.out
        have Q4 : Hid (w4.heap[w.heap.size + 1]? = some (.cells zero8 30 (0, 0))) := by rw [hw4]; exact QX.out
        have P4 : Hid (w4.heap[w.heap.size + 2]? = some (.cells (head8 2 S) 30 (0, 0))) := by rw [hw4]; exact PX.out
        have HB4 : Hid (Bts n w4 (some ⟨b, off, none⟩) cap M) := by rw [hw4]; exact HBX.out.kept (below_drewN (Below.refl _ _) _)
        have S4 : Hid (w4.heap.size = w.heap.size + 3) := by rw [hw4]; exact SX.out
        clear hw4
        clear p0 p1 p2 p3 p4 p5 p6 p7 t0 t1 t2 t3 t4 t5 t6 t7 tl
        rw [hr]
        unfold gsV
        obtain ⟨p0, p1, p2, p3, p4, p5, p6, p7, t0, t1, t2, t3, t4, t5, t6, t7, tl⟩ := b8_of P4.out
        obtain ⟨y0, y1, y2, y3, y4, y5, y6, y7, z0, z1, z2, z3, z4, z5, z6, z7, zl⟩ := b8_of Y4.out
        go_wp2_with fail
        refine bodyPost_ret (v := .tuple #[vv 2 ((n' : Int) / 2) ⟨#[]⟩ (.slice none 0 0) (.slice none 0 0) 0 0 S, .int .i64 ((at' : Int) + 1 + u), .int .i64 0]) (by simp [results, Try.results16, go_sem, y0, y1, y2, y3, y4, y5, y6, y7]) rfl ?_
        exact rp_ok HQ.out (below_set8 (below_set1 (B4.out) hb2 1 _) (Nat.le_refl _) _ _ _ _ _ _ _ _) (by omega) (by omega) (by rw [HZ5.out]; exact flat_lies _ _ rfl (wf64 (by omega) (by omega)) rfl rfl (by unfold maxLen; decide) S) rfl
end Go.Proofs.Ytpmdkekjoocplaa

/- The reference's get: a first byte of kind 6. -/
import Derived.Test.YtpmdkekjoocplaaGm
namespace Go.Proofs.Ytpmdkekjoocplaa
open Go.RowKit Typ

set_option maxRecDepth 100000 in
set_option maxHeartbeats 4000000 in
theorem rget_6 {d : Nat} (hd : d ≤ 7) (HV : RHolds ((9 - d : Nat) : Int) (dec tok d)) {n : Nat} {o : Option Addr} {cap : Nat} {M : List Nat} {at' : Nat} {w : World} (B : Bts n w o cap M) (hn : n ≤ w.heap.size) (hlt : at' < M.length) (hKK : M.getD at' 0 % 128 = 6) :
    Calls Try.prog 16 #[.slice o M.length cap, .int .i64 at', .int .i64 ((8 - d : Nat) : Int)] w (RPost (dec tok (d + 1) (M.drop at')) M.length at' w) := by
  have hle : at' ≤ M.length := Nat.le_of_lt hlt
  have hdep : ¬ (8 : Int) < ((8 - d : Nat) : Int) := by omega
  obtain ⟨D, hD⟩ : ∃ D : Int, ((8 - d : Nat) : Int) = D := ⟨_, rfl⟩
  have hD1 : ((9 - d : Nat) : Int) = D + 1 := by omega
  rw [hD1] at HV
  rw [hD] at hdep ⊢
  have hDb : 0 ≤ D ∧ D ≤ 8 := by omega
  obtain ⟨hDb1, hDb2⟩ := hDb
  have HVV := Lib.hid HV
  have l1 := B.row.1
  have l2 := B.row.2.1
  unfold maxLen at l2
  have HB0 := Lib.hid (((Below.refl w.heap.size w).alloc (Nat.le_refl _) (.cells zero8 30)).alloc (by simp) (.cells zero8 30))
  have C0 : Hid (((w.alloc (.cells zero8 30)).alloc (.cells zero8 30)).heap[w.heap.size]? = some (.cells zero8 30 (0, 0))) := (Below.heap_alloc _ _ _ (by simp)).trans (heap_alloc_new _ _)
  have C1 : Hid (((w.alloc (.cells zero8 30)).alloc (.cells zero8 30)).heap[w.heap.size + 1]? = some (.cells zero8 30 (0, 0))) := by
    have := heap_alloc_new (w.alloc (.cells zero8 30)) (.cells zero8 30)
    simpa [Hid] using this
  have HZ : Hid (((w.alloc (.cells zero8 30)).alloc (.cells zero8 30)).heap.size = w.heap.size + 2) := by simp [Hid]
  have HB := Lib.hid (B.kept (HB0.out.mono hn))
  clear HV hD hD1
  have hlt' : (at' : Int) < (M.length : Int) := by omega
  obtain ⟨b, off, rfl, hbn, c0⟩ := HB.out.at hlt
  obtain ⟨c, hc⟩ : ∃ c, M.getD at' 0 = c := ⟨_, rfl⟩
  rw [hc] at c0
  have hc2 : c < 256 := by rw [← hc]; exact HB.out.lt at'
  have HD : Hid (dec tok (d + 1) (M.drop at') = decB tok (dec tok d) c (M.drop (at' + 1))) := by unfold Hid; rw [drop_cons hlt, hc]; rfl
  have hK : c % 128 = 6 := by rw [← hc]; exact hKK
  obtain ⟨S, hS⟩ : ∃ S : Bool, decide (128 ≤ c) = S := ⟨_, rfl⟩
  have hk1 : (c : Int) % 128 = 6 := by omega
  have hs1 : decide ((128 : Int) ≤ (c : Int)) = S := by rw [← hS]; congr 1; simp; omega
  have HKS := Lib.hid (And.intro hK hS)
  clear hK hS hc B
  go_enter Try.func16, Try.ntmps16
  go_upto_region 2 with fail
  generalize World.alloc (World.alloc _ _) _ = W at *
  have hbW : b < W.heap.size := by have := HZ.out; omega
  go_wp2_with fail
  go_region
  have BX : Hid (Below w.heap.size w (W.alloc (.cells (head8 6 S) 30)).drew) := (HB0.out.alloc HB0.out.size _).drew
  have YX : Hid ((W.alloc (.cells (head8 6 S) 30)).drew.heap[w.heap.size]? = some (.cells zero8 30 (0, 0))) := (Below.heap_alloc _ _ _ (by have := HZ.out; omega)).trans C0.out
  have QX : Hid ((W.alloc (.cells (head8 6 S) 30)).drew.heap[w.heap.size + 1]? = some (.cells zero8 30 (0, 0))) := (Below.heap_alloc _ _ _ (by have := HZ.out; omega)).trans C1.out
  have PX : Hid ((W.alloc (.cells (head8 6 S) 30)).drew.heap[w.heap.size + 2]? = some (.cells (head8 6 S) 30 (0, 0))) := by
    have := heap_alloc_new W (.cells (head8 6 S) 30)
    rw [HZ.out] at this
    exact this
  have HBX : Hid (Bts n (W.alloc (.cells (head8 6 S) 30)).drew (some ⟨b, off, none⟩) cap M) := HB.out.kept (((Below.refl n W).alloc (by have := HZ.out; omega) _).drew)
  have SX : Hid ((W.alloc (.cells (head8 6 S) 30)).drew.heap.size = w.heap.size + 3) := by
    have := HZ.out
    show (W.alloc (.cells (head8 6 S) 30)).heap.size = _
    simp; omega
  have hWz : W.heap.size = w.heap.size + 2 := HZ.out
  go_upto_region 8 with fail
  rw [hWz]
  clear c0 hbW hWz HB
  generalize World.drew _ = X at *
  clear HB0 C0 C1 HZ
  have sx := SX.out
  have hb2 : w.heap.size ≤ w.heap.size + 2 := by omega
  have hlen1 : (M.drop (at' + 1)).length = M.length - (at' + 1) := List.length_drop
  have SG : ∀ (o' : Option Addr) (cap' : Nat) W, Bts n W o' cap' (M.drop (at' + 1)) → Calls Try.prog 29 #[.slice o' (M.length - (at' + 1)) cap'] W fun e w' => e = gsV (gs 0 (M.drop (at' + 1))) ∧ ∃ m, w' = W.drewN m := fun o' cap' W B => by have := rgetShort_any B; rw [hlen1] at this; exact this
  have ST : ∀ (o' : Option Addr) (cap' : Nat) W, Bts n W o' cap' (M.drop (at' + 1)) → Calls Try.prog 30 #[.slice o' (M.length - (at' + 1)) cap', .int .i64 1024] W fun e w' => e = rstrV (gstr (M.drop (at' + 1)) 1024) ∧ ∃ m, w' = W.drewN m := fun o' cap' W B => by have := rgetStr_any B; rw [hlen1] at this; exact this
  have HSG := Lib.hid SG
  have HST := Lib.hid ST
  have HBM : Hid (∀ c, c ∈ M.drop (at' + 1) → c < 256) := fun c hc => HBX.out.b c (List.mem_of_mem_drop hc)
  have HL1 := Lib.hid hlen1
  clear SG ST hlen1
  have hle1 : at' + 1 ≤ M.length := hlt
  clear hk1 hs1
  obtain ⟨p0, p1, p2, p3, p4, p5, p6, p7, t0, t1, t2, t3, t4, t5, t6, t7, tl⟩ := b8_of PX.out
  by_cases hl2 : at' + 1 < M.length
  · obtain ⟨b', off', e', hb', cc⟩ := HBX.out.at hl2
    injection e' with e'
    injection e' with e1 e2
    subst e1 e2
    obtain ⟨c2, hc3⟩ : ∃ c2, M.getD (at' + 1) 0 = c2 := ⟨_, rfl⟩
    rw [hc3] at cc
    have hc2b : c2 < 256 := by rw [← hc3]; exact HBX.out.lt _
    have hr : M.drop (at' + 1) = c2 :: M.drop (at' + 1 + 1) := by rw [drop_cons hl2, hc3]
    have cc2 : X.cell? ⟨b, off + (at' + 1), none⟩ = some (.int .u8 (c2 : Int)) := cc
    have hbX : b < X.heap.size := by omega
    have hbX2 : b < w.heap.size + 3 := by omega
    have hl3 : (at' : Int) + 1 < (M.length : Int) := by omega
    clear cc hc3
    have HTB : Hid (okB ((c2 : Int) / 8) ((c2 : Int) % 8) = tok (c2 / 8) (c2 % 8)) := by unfold Hid tok; rw [Int.natCast_ediv, Int.natCast_emod]; rfl
    go_wp2_with fail
    go_region
    have BY : Hid (Below X.heap.size X (X.alloc (.cells #[.int .i64 ((c2 : Int) / 8), .int .i64 ((c2 : Int) % 8)] 28)).drew) := ((Below.refl _ _).alloc (Nat.le_refl _) _).drew
    have U0 : Hid ((X.alloc (.cells #[.int .i64 ((c2 : Int) / 8), .int .i64 ((c2 : Int) % 8)] 28)).drew.heap[w.heap.size + 3]? = some (.cells #[.int .i64 ((c2 : Int) / 8), .int .i64 ((c2 : Int) % 8)] 28 (0, 0))) := by
      have := heap_alloc_new X (.cells #[.int .i64 ((c2 : Int) / 8), .int .i64 ((c2 : Int) % 8)] 28)
      rw [SX.out] at this
      exact this
    go_upto_region 36 with fail
    try rw [sx]
    clear p0 p1 p2 p3 p4 p5 p6 p7 t0 t1 t2 t3 t4 t5 t6 t7 tl
    clear cc2
    generalize World.drew _ = X2 at *
    have Y2 : Hid (X2.heap[w.heap.size]? = some (.cells zero8 30 (0, 0))) := (BY.out.block _ (by omega)).trans YX.out
    have Q2 : Hid (X2.heap[w.heap.size + 1]? = some (.cells zero8 30 (0, 0))) := (BY.out.block _ (by omega)).trans QX.out
    have P2 : Hid (X2.heap[w.heap.size + 2]? = some (.cells (head8 6 S) 30 (0, 0))) := (BY.out.block _ (by omega)).trans PX.out
    have B2 := Lib.hid (BX.out.trans (BY.out.mono (by omega)))
    have S2 := BY.out.size
    have hu3 := (Array.getElem?_eq_some_iff.1 U0.out).1
    have u0 : X2.cell? ⟨w.heap.size + 3, 0, none⟩ = some (.int .i64 ((c2 : Int) / 8)) := cell_of_row X2 _ 0 _ _ _ U0.out
    have u1 : X2.cell? ⟨w.heap.size + 3, 1, none⟩ = some (.int .i64 ((c2 : Int) % 8)) := cell_of_row X2 _ 1 _ _ _ U0.out
    by_cases h1 : tok (c2 / 8) (c2 % 8) = true
    · have RC : Hid (∀ W, Calls Try.prog 31 #[ty ((c2 : Int) / 8) ((c2 : Int) % 8)] W fun e w' => e = .returned (.bool true) ∧ Below W.heap.size W w') := fun W => rcheck_ok _ _ W (HTB.out.trans h1)
      have HQ : Hid (dec tok (d + 1) (M.drop at') = .ok (.mk 6 0 ⟨#[]⟩ [] [] (c2 / 8 : Nat) (c2 % 8 : Nat) S, 2)) := by unfold Hid; rw [HD.out]; unfold decB; rw [HKS.out.1, if_neg (by decide), if_neg (by decide), if_neg (by decide), if_neg (by decide), if_pos rfl, hr]; simp only; rw [if_pos h1, HKS.out.2]
      clear hr h1
      go_wp2_with fail
      refine (RC.out _).mono ?_
      rintro e w4 ⟨rfl, b4⟩
      have Y4 : Hid (w4.heap[w.heap.size]? = some (.cells zero8 30 (0, 0))) := (b4.block _ (by omega)).trans Y2.out
      have Q4 : Hid (w4.heap[w.heap.size + 1]? = some (.cells zero8 30 (0, 0))) := (b4.block _ (by omega)).trans Q2.out
      have P4 : Hid (w4.heap[w.heap.size + 2]? = some (.cells (head8 6 S) 30 (0, 0))) := (b4.block _ (by omega)).trans P2.out
      have U4 : Hid (w4.heap[w.heap.size + 3]? = some (.cells #[.int .i64 ((c2 : Int) / 8), .int .i64 ((c2 : Int) % 8)] 28 (0, 0))) := (b4.block _ hu3).trans U0.out
      have B4 := Lib.hid (B2.out.trans (b4.mono (by omega)))
      clear b4 u0 u1
      have u0 := cell_of_row w4 _ 0 _ _ _ U4.out
      have u1 := cell_of_row w4 _ 1 _ _ _ U4.out
      obtain ⟨p0, p1, p2, p3, p4, p5, p6, p7, t0, t1, t2, t3, t4, t5, t6, t7, tl⟩ := b8_of P4.out
      obtain ⟨y0, y1, y2, y3, y4, y5, y6, y7, z0, z1, z2, z3, z4, z5, z6, z7, zl⟩ := b8_of Y4.out
      go_wp2_with fail
      refine bodyPost_ret (v := .tuple #[vv 6 0 ⟨#[]⟩ (.slice none 0 0) (.slice none 0 0) ((c2 : Int) / 8) ((c2 : Int) % 8) S, .int .i64 ((at' : Int) + 1 + 1), .int .i64 0]) (by simp [results, Try.results16, go_sem, y0, y1, y2, y3, y4, y5, y6, y7]) rfl ?_
      exact rp_ok HQ.out (below_set8 (below_set1 (below_set1 (B4.out) hb2 5 _) hb2 6 _) (Nat.le_refl _) _ _ _ _ _ _ _ _) (by omega) (by omega) (flat_lies _ _ rfl rfl (wf64 (by omega) (by omega)) (wf64 (by omega) (by omega)) (by unfold maxLen; decide) S) rfl
    · have h1' : tok (c2 / 8) (c2 % 8) = false := by simpa using h1
      have RC : Hid (∀ W, Calls Try.prog 31 #[ty ((c2 : Int) / 8) ((c2 : Int) % 8)] W fun e w' => e = .returned (.bool false) ∧ Below W.heap.size W w') := fun W => rcheck_no _ _ W (HTB.out.trans h1')
      have HQ : Hid (dec tok (d + 1) (M.drop at') = .error 4) := by unfold Hid; rw [HD.out]; unfold decB; rw [HKS.out.1, if_neg (by decide), if_neg (by decide), if_neg (by decide), if_neg (by decide), if_pos rfl, hr]; simp only; rw [if_neg h1]
      clear hr h1 h1'
      go_wp2_with fail
      refine (RC.out _).mono ?_
      rintro e w4 ⟨rfl, b4⟩
      have Y4 : Hid (w4.heap[w.heap.size]? = some (.cells zero8 30 (0, 0))) := (b4.block _ (by omega)).trans Y2.out
      have Q4 : Hid (w4.heap[w.heap.size + 1]? = some (.cells zero8 30 (0, 0))) := (b4.block _ (by omega)).trans Q2.out
      have P4 : Hid (w4.heap[w.heap.size + 2]? = some (.cells (head8 6 S) 30 (0, 0))) := (b4.block _ (by omega)).trans P2.out
      have U4 : Hid (w4.heap[w.heap.size + 3]? = some (.cells #[.int .i64 ((c2 : Int) / 8), .int .i64 ((c2 : Int) % 8)] 28 (0, 0))) := (b4.block _ hu3).trans U0.out
      have B4 := Lib.hid (B2.out.trans (b4.mono (by omega)))
      clear b4 u0 u1
      obtain ⟨y0, y1, y2, y3, y4, y5, y6, y7, z0, z1, z2, z3, z4, z5, z6, z7, zl⟩ := b8_of Y4.out
      obtain ⟨q0, q1, q2, q3, q4, q5, q6, q7, -, -, -, -, -, -, -, -, -⟩ := b8_of Q4.out
      go_wp2_with fail
      refine bodyPost_ret (v := .tuple #[zeroV, .int .i64 0, .int .i64 4]) (by simp [results, Try.results16, go_sem, y0, y1, y2, y3, y4, y5, y6, y7]) rfl ?_
      exact rp_err HQ.out (by omega) (below_set8 (B4.out) (Nat.le_refl _) _ _ _ _ _ _ _ _) rfl
  · have hr : M.drop (at' + 1) = [] := List.drop_eq_nil_of_le (by omega)
    have he : M.length = at' + 1 := by omega
    have hl3 : ¬ ((at' : Int) + 1 < (M.length : Int)) := by omega
    have HQ : Hid (dec tok (d + 1) (M.drop at') = .error 2) := by unfold Hid; rw [HD.out]; unfold decB; rw [HKS.out.1, if_neg (by decide), if_neg (by decide), if_neg (by decide), if_neg (by decide), if_pos rfl, hr]; try rfl
    clear hr
    obtain ⟨y0, y1, y2, y3, y4, y5, y6, y7, z0, z1, z2, z3, z4, z5, z6, z7, zl⟩ := b8_of YX.out
    obtain ⟨q0, q1, q2, q3, q4, q5, q6, q7, -, -, -, -, -, -, -, -, -⟩ := b8_of QX.out
    go_wp2_with fail
    refine bodyPost_ret (v := .tuple #[zeroV, .int .i64 0, .int .i64 2]) (by simp [results, Try.results16, go_sem, y0, y1, y2, y3, y4, y5, y6, y7]) rfl ?_
    exact rp_err HQ.out (by omega) (below_set8 (BX.out) (Nat.le_refl _) _ _ _ _ _ _ _ _) rfl
end Go.Proofs.Ytpmdkekjoocplaa

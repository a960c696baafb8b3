/- The reference's get: a first byte of kind 1. -/
import Derived.Test.YtpmdkekjoocplaaGm
namespace Go.Proofs.Ytpmdkekjoocplaa
open Go.RowKit Typ

set_option maxRecDepth 100000 in
set_option maxHeartbeats 4000000 in
theorem rget_1 {d : Nat} (hd : d ≤ 7) (HV : RHolds ((9 - d : Nat) : Int) (dec tok d)) {n : Nat} {o : Option Addr} {cap : Nat} {M : List Nat} {at' : Nat} {w : World} (B : Bts n w o cap M) (hn : n ≤ w.heap.size) (hlt : at' < M.length) (hKK : M.getD at' 0 % 128 = 1) :
    Calls Try.prog 16 #[.slice o M.length cap, .int .i64 at', .int .i64 ((8 - d : Nat) : Int)] w (RPost (dec tok (d + 1) (M.drop at')) M.length at' w) := by
  have hle : at' ≤ M.length := Nat.le_of_lt hlt
  have hdep : ¬ (8 : Int) < ((8 - d : Nat) : Int) := by omega
  obtain ⟨D, hD⟩ : ∃ D : Int, ((8 - d : Nat) : Int) = D := ⟨_, rfl⟩
  have hD1 : ((9 - d : Nat) : Int) = D + 1 := by omega
  rw [hD1] at HV
  rw [hD] at hdep ⊢
  have hDb : 0 ≤ D ∧ D ≤ 8 := by omega
  obtain ⟨hDb1, hDb2⟩ := hDb
  have HVV := Lib.hid HV
  have l1 := B.row.1
  have l2 := B.row.2.1
  unfold maxLen at l2
  have HB0 := Lib.hid (((Below.refl w.heap.size w).alloc (Nat.le_refl _) (.cells zero8 30)).alloc (by simp) (.cells zero8 30))
  have C0 : Hid (((w.alloc (.cells zero8 30)).alloc (.cells zero8 30)).heap[w.heap.size]? = some (.cells zero8 30 (0, 0))) := (Below.heap_alloc _ _ _ (by simp)).trans (heap_alloc_new _ _)
  have C1 : Hid (((w.alloc (.cells zero8 30)).alloc (.cells zero8 30)).heap[w.heap.size + 1]? = some (.cells zero8 30 (0, 0))) := by
    have := heap_alloc_new (w.alloc (.cells zero8 30)) (.cells zero8 30)
    simpa [Hid] using this
  have HZ : Hid (((w.alloc (.cells zero8 30)).alloc (.cells zero8 30)).heap.size = w.heap.size + 2) := by simp [Hid]
  have HB := Lib.hid (B.kept (HB0.out.mono hn))
  clear HV hD hD1
  have hlt' : (at' : Int) < (M.length : Int) := by omega
  obtain ⟨b, off, rfl, hbn, c0⟩ := HB.out.at hlt
  obtain ⟨c, hc⟩ : ∃ c, M.getD at' 0 = c := ⟨_, rfl⟩
  rw [hc] at c0
  have hc2 : c < 256 := by rw [← hc]; exact HB.out.lt at'
  have HD : Hid (dec tok (d + 1) (M.drop at') = decB tok (dec tok d) c (M.drop (at' + 1))) := by unfold Hid; rw [drop_cons hlt, hc]; rfl
  have hK : c % 128 = 1 := by rw [← hc]; exact hKK
  obtain ⟨S, hS⟩ : ∃ S : Bool, decide (128 ≤ c) = S := ⟨_, rfl⟩
  have hk1 : (c : Int) % 128 = 1 := by omega
  have hs1 : decide ((128 : Int) ≤ (c : Int)) = S := by rw [← hS]; congr 1; simp; omega
  have HKS := Lib.hid (And.intro hK hS)
  clear hK hS hc B
  go_enter Try.func16, Try.ntmps16
  go_upto_region 2 with fail
  generalize World.alloc (World.alloc _ _) _ = W at *
  have hbW : b < W.heap.size := by have := HZ.out; omega
  go_wp2_with fail
  go_region
  have BX : Hid (Below w.heap.size w (W.alloc (.cells (head8 1 S) 30)).drew) := (HB0.out.alloc HB0.out.size _).drew
  have YX : Hid ((W.alloc (.cells (head8 1 S) 30)).drew.heap[w.heap.size]? = some (.cells zero8 30 (0, 0))) := (Below.heap_alloc _ _ _ (by have := HZ.out; omega)).trans C0.out
  have QX : Hid ((W.alloc (.cells (head8 1 S) 30)).drew.heap[w.heap.size + 1]? = some (.cells zero8 30 (0, 0))) := (Below.heap_alloc _ _ _ (by have := HZ.out; omega)).trans C1.out
  have PX : Hid ((W.alloc (.cells (head8 1 S) 30)).drew.heap[w.heap.size + 2]? = some (.cells (head8 1 S) 30 (0, 0))) := by
    have := heap_alloc_new W (.cells (head8 1 S) 30)
    rw [HZ.out] at this
    exact this
  have HBX : Hid (Bts n (W.alloc (.cells (head8 1 S) 30)).drew (some ⟨b, off, none⟩) cap M) := HB.out.kept (((Below.refl n W).alloc (by have := HZ.out; omega) _).drew)
  have SX : Hid ((W.alloc (.cells (head8 1 S) 30)).drew.heap.size = w.heap.size + 3) := by
    have := HZ.out
    show (W.alloc (.cells (head8 1 S) 30)).heap.size = _
    simp; omega
  have hWz : W.heap.size = w.heap.size + 2 := HZ.out
  go_upto_region 8 with fail
  rw [hWz]
  clear c0 hbW hWz HB
  generalize World.drew _ = X at *
  clear HB0 C0 C1 HZ
  have sx := SX.out
  have hb2 : w.heap.size ≤ w.heap.size + 2 := by omega
  have hlen1 : (M.drop (at' + 1)).length = M.length - (at' + 1) := List.length_drop
  have SG : ∀ (o' : Option Addr) (cap' : Nat) W, Bts n W o' cap' (M.drop (at' + 1)) → Calls Try.prog 29 #[.slice o' (M.length - (at' + 1)) cap'] W fun e w' => e = gsV (gs 0 (M.drop (at' + 1))) ∧ ∃ m, w' = W.drewN m := fun o' cap' W B => by have := rgetShort_any B; rw [hlen1] at this; exact this
  have ST : ∀ (o' : Option Addr) (cap' : Nat) W, Bts n W o' cap' (M.drop (at' + 1)) → Calls Try.prog 30 #[.slice o' (M.length - (at' + 1)) cap', .int .i64 1024] W fun e w' => e = rstrV (gstr (M.drop (at' + 1)) 1024) ∧ ∃ m, w' = W.drewN m := fun o' cap' W B => by have := rgetStr_any B; rw [hlen1] at this; exact this
  have HSG := Lib.hid SG
  have HST := Lib.hid ST
  have HBM : Hid (∀ c, c ∈ M.drop (at' + 1) → c < 256) := fun c hc => HBX.out.b c (List.mem_of_mem_drop hc)
  have HL1 := Lib.hid hlen1
  clear SG ST hlen1
  have hle1 : at' + 1 ≤ M.length := hlt
  clear hk1 hs1
  obtain ⟨p0, p1, p2, p3, p4, p5, p6, p7, t0, t1, t2, t3, t4, t5, t6, t7, tl⟩ := b8_of PX.out
  by_cases hl2 : at' + 1 < M.length
  · obtain ⟨b', off', e', hb', cc⟩ := HBX.out.at hl2
    injection e' with e'
    injection e' with e1 e2
    subst e1 e2
    obtain ⟨c2, hc3⟩ : ∃ c2, M.getD (at' + 1) 0 = c2 := ⟨_, rfl⟩
    rw [hc3] at cc
    have hc2b : c2 < 256 := by rw [← hc3]; exact HBX.out.lt _
    have hr : M.drop (at' + 1) = c2 :: M.drop (at' + 1 + 1) := by rw [drop_cons hl2, hc3]
    have cc2 : X.cell? ⟨b, off + (at' + 1), none⟩ = some (.int .u8 (c2 : Int)) := cc
    have hbX : b < X.heap.size := by omega
    have hbX2 : b < w.heap.size + 3 := by omega
    have hl3 : (at' : Int) + 1 < (M.length : Int) := by omega
    clear cc hc3
    by_cases h1 : 1 < c2
    · have h1' : (1 : Int) < (c2 : Int) := by omega
      have HQ : Hid (dec tok (d + 1) (M.drop at') = .error 4) := by unfold Hid; rw [HD.out]; unfold decB; rw [HKS.out.1, if_neg (by decide), if_pos rfl, hr]; simp only; rw [if_pos h1]
      clear hr
      obtain ⟨y0, y1, y2, y3, y4, y5, y6, y7, z0, z1, z2, z3, z4, z5, z6, z7, zl⟩ := b8_of YX.out
      obtain ⟨q0, q1, q2, q3, q4, q5, q6, q7, -, -, -, -, -, -, -, -, -⟩ := b8_of QX.out
      go_wp2_with fail
      refine bodyPost_ret (v := .tuple #[zeroV, .int .i64 0, .int .i64 4]) (by simp [results, Try.results16, go_sem, y0, y1, y2, y3, y4, y5, y6, y7]) rfl ?_
      exact rp_err HQ.out (by omega) (below_set8 (BX.out) (Nat.le_refl _) _ _ _ _ _ _ _ _) rfl
    · have h1' : ¬ ((1 : Int) < (c2 : Int)) := by omega
      have HQ : Hid (dec tok (d + 1) (M.drop at') = .ok (.mk 1 c2 ⟨#[]⟩ [] [] 0 0 S, 2)) := by unfold Hid; rw [HD.out]; unfold decB; rw [HKS.out.1, if_neg (by decide), if_pos rfl, hr]; simp only; rw [if_neg h1, HKS.out.2]
      clear hr
      obtain ⟨y0, y1, y2, y3, y4, y5, y6, y7, z0, z1, z2, z3, z4, z5, z6, z7, zl⟩ := b8_of YX.out
      go_wp2_with fail
      refine bodyPost_ret (v := .tuple #[vv 1 c2 ⟨#[]⟩ (.slice none 0 0) (.slice none 0 0) 0 0 S, .int .i64 ((at' : Int) + 1 + 1), .int .i64 0]) (by simp [results, Try.results16, go_sem, y0, y1, y2, y3, y4, y5, y6, y7]) rfl ?_
      exact rp_ok HQ.out (below_set8 (below_set1 (BX.out) hb2 1 _) (Nat.le_refl _) _ _ _ _ _ _ _ _) (by omega) (by omega) (flat_lies _ _ rfl (wf64 (by omega) (by omega)) rfl rfl (by unfold maxLen; decide) S) rfl
  · have hr : M.drop (at' + 1) = [] := List.drop_eq_nil_of_le (by omega)
    have he : M.length = at' + 1 := by omega
    have hl3 : ¬ ((at' : Int) + 1 < (M.length : Int)) := by omega
    have HQ : Hid (dec tok (d + 1) (M.drop at') = .error 2) := by unfold Hid; rw [HD.out]; unfold decB; rw [HKS.out.1, if_neg (by decide), if_pos rfl, hr]; try rfl
    clear hr
    obtain ⟨y0, y1, y2, y3, y4, y5, y6, y7, z0, z1, z2, z3, z4, z5, z6, z7, zl⟩ := b8_of YX.out
    obtain ⟨q0, q1, q2, q3, q4, q5, q6, q7, -, -, -, -, -, -, -, -, -⟩ := b8_of QX.out
    go_wp2_with fail
    refine bodyPost_ret (v := .tuple #[zeroV, .int .i64 0, .int .i64 2]) (by simp [results, Try.results16, go_sem, y0, y1, y2, y3, y4, y5, y6, y7]) rfl ?_
    exact rp_err HQ.out (by omega) (below_set8 (BX.out) (Nat.le_refl _) _ _ _ _ _ _ _ _) rfl
end Go.Proofs.Ytpmdkekjoocplaa

/- CodeGets' walk, if the reference's get is told. -/
import Derived.Test.YtpmdkekjoocplaaHi
namespace Go.Proofs.Ytpmdkekjoocplaa
open Go.RowKit Go.Lib Typ

theorem gets_far (sp : Option Addr) (n cap : Nat) (w : World) (hn : 1000 < n) : Calls Try.prog 3 #[.slice sp n cap] w fun e w' => e = .returned (.bool true) ∧ Below w.heap.size w w' := by
  have AW := Lib.hid (awake_any w)
  go_enter Try.func3, Try.ntmps3
  go_wp2_with fail
  refine AW.out.mono ?_
  rintro e w1 ⟨rfl, b⟩
  go_wp2_with fail
  go_ret
  exact ⟨rfl, b⟩
set_option maxRecDepth 100000 in
set_option maxHeartbeats 4000000 in
theorem gets_near (HR : RHolds 1 (dec tok 8)) {n : Nat} {sp : Option Addr} {cap : Nat} {M : List Nat} {w : World} (B : Bts n w sp cap M) (hn : n ≤ w.heap.size) (hM : M.length ≤ 1000) :
    Calls Try.prog 3 #[.slice sp M.length cap] w fun e w' => e = .returned (.bool true) ∧ Below w.heap.size w w' := by
  have hI : (M.map Int.ofNat).length = M.length := by simp
  have HLent := lent_any sp cap (M.map Int.ofNat) w (rdi_of B hn) (by rw [hI]; exact hM)
  rw [hI] at HLent
  have HL := Lib.hid HLent
  have HB := Lib.hid B
  have HRR := Lib.hid HR
  have HI := Lib.hid hI
  have HSZ := Lib.hid (gt_sz M hM)
  obtain ⟨V, hV⟩ : ∃ V, (gt M).1 = V := ⟨_, rfl⟩
  obtain ⟨kk2, hk2⟩ : ∃ k, (gt M).2.1 = k := ⟨_, rfl⟩
  obtain ⟨ee2, he2⟩ : ∃ k, (gt M).2.2 = k := ⟨_, rfl⟩
  have HG := Lib.hid (And.intro hV (And.intro hk2 he2))
  clear HLent hI B HR hV hk2 he2
  go_enter Try.func3, Try.ntmps3
  go_wp2_with fail
  refine HL.out.mono ?_
  rintro e w1 ⟨rfl, hrow, hb1⟩
  have T1 := Lib.hid (And.intro hrow hb1)
  have hz1 := hb1.size
  have HBL := Lib.hid (bts_lent hrow HB.out.b hM)
  clear hrow hb1
  go_wp2_with fail
  refine (get_any HBL.out (Nat.le_refl _)).mono ?_
  rintro e w2 hg
  obtain ⟨v2, rfl, hl2, hb2⟩ := hg.gt
  rw [HG.out.1] at hl2
  rw [HG.out.2.1, HG.out.2.2]
  obtain ⟨oL, oK, cL, cK, c, rfl, O⟩ := hl2.inv
  have T2 := Lib.hid (And.intro O hb2)
  have hz2 := hb2.size
  clear hl2 O hg hb2
  have X3 : Hid ((w2.alloc (bx V oL oK cL cK)).heap[w2.heap.size]? = some (.cells #[.int .i64 V.k, .int .i64 V.i, .string V.s, .slice oL V.l.length cL, .slice oK V.ks.length cK, .int .i64 V.tk, .int .i64 V.to, .bool V.x] 30 (0, 0))) := heap_alloc_new _ _
  have A3 : Hid (Below w2.heap.size w2 (w2.alloc (bx V oL oK cL cK))) := (Below.refl _ _).alloc (Nat.le_refl _) _
  have Z3 : Hid ((w2.alloc (bx V oL oK cL cK)).heap.size = w2.heap.size + 1) := by simp [Hid]
  go_wp2_with fail
  generalize w2.alloc _ = w3 at *
  have hz3 := Z3.out
  have B3 : Hid (Below w.heap.size w w3) := (T1.out.2.trans (T2.out.2.mono (by omega))).trans (A3.out.mono (by omega))
  refine (rGet_any HRR.out (HB.out.kept (B3.out.mono hn)) (by omega) (by omega)).mono ?_
  rintro e w4 hg
  obtain ⟨v4, rfl, hl4, hb4⟩ := hg.gt
  rw [HG.out.1] at hl4
  rw [HG.out.2.1, HG.out.2.2]
  obtain ⟨oL4, oK4, cL4, cK4, c4, rfl, O4⟩ := hl4.inv
  have T4 := Lib.hid (And.intro O4 hb4)
  have hz4 := hb4.size
  clear hl4 O4 hg hb4
  have X5 : Hid ((w4.alloc (bx V oL4 oK4 cL4 cK4)).heap[w4.heap.size]? = some (.cells #[.int .i64 V.k, .int .i64 V.i, .string V.s, .slice oL4 V.l.length cL4, .slice oK4 V.ks.length cK4, .int .i64 V.tk, .int .i64 V.to, .bool V.x] 30 (0, 0))) := heap_alloc_new _ _
  have A5 : Hid (Below w4.heap.size w4 (w4.alloc (bx V oL4 oK4 cL4 cK4))) := (Below.refl _ _).alloc (Nat.le_refl _) _
  have Z5 : Hid ((w4.alloc (bx V oL4 oK4 cL4 cK4)).heap.size = w4.heap.size + 1) := by simp [Hid]
  go_upto_region 6 with fail
  generalize w4.alloc _ = w5 at *
  have hz5 := Z5.out
  have B5 : Hid (Below w3.heap.size w3 w5) := T4.out.2.trans (A5.out.mono hz4)
  have X6 : Hid (w5.heap[w2.heap.size]? = _) := (B5.out.block _ (by omega)).trans X3.out
  obtain ⟨p0, p1, p2, p3, p4, p5, p6, p7, -, -, -, -, -, -, -, -, -⟩ := b8_of X6.out
  obtain ⟨q0, q1, q2, q3, q4, q5, q6, q7, -, -, -, -, -, -, -, -, -⟩ := b8_of X5.out
  have SM : Hid (Calls Try.prog 9 #[vv V.k V.i V.s (.slice oL V.l.length cL) (.slice oK V.ks.length cK) V.tk V.to V.x, vv V.k V.i V.s (.slice oL4 V.l.length cL4) (.slice oK4 V.ks.length cK4) V.tk V.to V.x, .bool true] w5 fun e w' => e = .returned (.bool true) ∧ Below w5.heap.size w5 w') := by
    have h1 : Lies w5.heap.size w5 V (vv V.k V.i V.s (.slice oL V.l.length cL) (.slice oK V.ks.length cK) V.tk V.to V.x) := ((T2.out.1.kept A3.out).kept (B5.out.mono (by omega))).lies.mono fun b hb => by omega
    have h2 : Lies w5.heap.size w5 V (vv V.k V.i V.s (.slice oL4 V.l.length cL4) (.slice oK4 V.ks.length cK4) V.tk V.to V.x) := (T4.out.1.kept A5.out).lies.mono fun b hb => by omega
    exact rsame_any 60000 (Nat.le_refl _) _ V _ _ w5 (by rw [← HG.out.1]; exact HSZ.out) h1 h2 (Nat.le_refl _)
  have BW5 : Hid (Below w.heap.size w w5) := B3.out.trans (B5.out.mono (by omega))
  have BW15 : Hid (Below w1.heap.size w1 w5) := (T2.out.2.trans (A3.out.mono hz2)).trans (B5.out.mono (by omega))
  go_wp2_with fail
  refine SM.out.mono ?_
  rintro e w6 ⟨rfl, b6⟩
  have BW6 := Lib.hid (BW5.out.trans (b6.mono (by omega)))
  have BW16 := Lib.hid (BW15.out.trans (b6.mono (by omega)))
  have hz6 := b6.size
  clear b6
  have KP : Hid (Calls Try.prog 10 #[.slice (some ⟨w.heap.size, 0, none⟩) M.length (M.length + 8), .slice sp M.length cap] w6 fun e w' => e = .returned (.bool true) ∧ Below w6.heap.size w6 w') := by
    refine kept_any w.heap.size M.length cap sp (M.map Int.ofNat) w6 HI.out hM (T1.out.1.below BW16.out T1.out.1.lt) ?_
    have hs := same_any (HBL.out.kept BW16.out) (HB.out.kept (BW6.out.mono hn))
    rw [decide_eq_true rfl] at hs
    refine hs.mono ?_
    rintro e w' ⟨he, m, rfl⟩
    exact ⟨he, below_drewN (Below.refl _ _) m⟩
  go_wp2_with fail
  refine KP.out.mono ?_
  rintro e w7 ⟨rfl, b7⟩
  have BW7 := Lib.hid (BW6.out.trans (b7.mono (by omega)))
  have hz7 := b7.size
  clear b7
  go_wp2_with fail
  refine (awake_any w7).mono ?_
  rintro e w8 ⟨rfl, b8⟩
  have BW8 := Lib.hid (BW7.out.trans (b8.mono (by omega)))
  clear b8
  go_wp2_with fail
  go_ret
  exact ⟨rfl, BW8.out⟩
end Go.Proofs.Ytpmdkekjoocplaa

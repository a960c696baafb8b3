/- Parse. -/
import Derived.Test.YtakoghdkllfhlaaDoorSc
namespace Go.Proofs.YtakoghdkllfhlaaDoor
open Go.RowKit

/-- behind pieces: the result's block N, the address' block M -/
theorem fin_parse {w w0 w1 : World} {N : Nat} {cs : Array Value} {t : TypeId} (h0 : Below N w w0) (hr : w0.heap[N]? = some (.cells cs t (0, 0))) (h1 : Below w0.heap.size w0 w1) (a : Adr) :
    (∀ W, Below (w1.alloc (ba a)).heap.size (w1.alloc (ba a)) W → W.heap[N]? = some (.cells cs t (0, 0)) ∧ W.heap[w1.heap.size]? = some (.cells #[.string a.t, .string a.n, .int .i64 a.kd, .int .i64 a.i, .string a.k] 23 (0, 0)) ∧ Below N w W) ∧ N < w1.heap.size := by
  have hN := (Array.getElem?_eq_some_iff.1 hr).1
  have hN1 : N < w1.heap.size := by have := h1.size; omega
  refine ⟨fun W h => ?_, hN1⟩
  have hz : (w1.alloc (ba a)).heap.size = w1.heap.size + 1 := by simp
  have h2 : Below (w1.heap.size) w1 W := ((Below.refl _ _).alloc (Nat.le_refl _) _).trans (h.mono (by omega))
  have h3 : Below w0.heap.size w0 W := h1.trans (h2.mono h1.size)
  refine ⟨(h3.block N hN).trans hr, (h.block _ (by omega)).trans (heap_alloc_new _ _), h0.trans (h3.mono (Nat.le_of_lt hN))⟩
set_option maxHeartbeats 2000000 in
theorem parse_any {s : ByteArray} {w : World} (hs : s.size ≤ 1000000) (hT : TabW w) : Calls Tryd.prog 25 #[.string s] w fun e w' => e = .returned (.tuple #[av (parA s).1, .int .i64 (parA s).2]) ∧ Below w.heap.size w w' := by
  have L := piece_lo hs
  have C1 := Lib.hid (fun w => pieces_any s w (by omega))
  unfold parA
  generalize pieceL (lb s) = a at *
  have C2 := Lib.hid (fun w => check_any a w L.sm)
  obtain ⟨N, hN⟩ : ∃ N, N = w.heap.size := ⟨_, rfl⟩
  have C3 := Lib.hid (fun W (hb : Below N w W) => printA_any a W L (tab_below hT hb (by omega)))
  obtain ⟨w0, hw0⟩ : ∃ w0, w0 = w.alloc (.cells #[.string ⟨#[]⟩, .string ⟨#[]⟩, .int .i64 0, .int .i64 0, .string ⟨#[]⟩] 23) := ⟨_, rfl⟩
  have HB0 : Hid (Below N w w0) := by rw [hw0]; exact below_alloc hN _
  have hr0 : w0.heap[N]? = some (.cells #[.string ⟨#[]⟩, .string ⟨#[]⟩, .int .i64 0, .int .i64 0, .string ⟨#[]⟩] 23 (0, 0)) := by rw [hw0, hN]; exact heap_alloc_new _ _
  have HR0 := Lib.hid hr0
  rw [← hN]
  clear hr0 hT L
  by_cases hc : checkB a = true
  · rw [hc] at C2
    by_cases hp : prA a = s
    · rw [if_pos ⟨hc, hp⟩]
      have hb := str_eq hp
      generalize prA a = P at *
      clear hc hp
      go_enter Tryd.func25, Tryd.ntmps25
      go_upto_region 1 with fail
      rw [← hw0, ← hN]
      clear hw0 hN
      go_wp2_with fail
      refine (C1.out w0).mono ?_
      rintro e w1 ⟨rfl, hb1⟩
      obtain ⟨hF, hN1⟩ := fin_parse HB0.out HR0.out hb1 a
      have HF := Lib.hid hF
      clear hF hb1 HR0
      obtain ⟨q0, q1, q2⟩ := HF.out _ (Below.refl _ _)
      have HQ := Lib.hid q2
      clear q0 q1 q2
      go_upto_region 2 with fail
      obtain ⟨W1, hW1⟩ : ∃ W1, w1.alloc (ba a) = W1 := ⟨_, rfl⟩
      obtain ⟨M, hM⟩ : ∃ M, w1.heap.size = M := ⟨_, rfl⟩
      rw [hW1, hM] at HF
      rw [hW1] at HQ
      rw [hW1, hM]
      rw [hM] at hN1
      clear hW1 hM
      obtain ⟨-, q1, -⟩ := HF.out W1 (Below.refl _ _)
      obtain ⟨⟨r0, r1, r2, r3, r4⟩, -, lM⟩ := rc5 q1
      clear q1
      go_wp2_with fail
      refine (C2.out W1).mono ?_
      rintro e w2 ⟨rfl, hb2⟩
      obtain ⟨-, q1, q2⟩ := HF.out w2 hb2
      obtain ⟨⟨s0, s1, s2, s3, s4⟩, -, lM2⟩ := rc5 q1
      have HQ2 := Lib.hid q2
      have HB2 := Lib.hid hb2
      clear q1 q2 hb2
      go_wp2_with fail
      refine (C3.out w2 HQ2.out).mono ?_
      rintro e w3 ⟨rfl, hb3⟩
      obtain ⟨p0, q1, q2⟩ := HF.out w3 (HB2.out.trans (hb3.mono HB2.out.size))
      obtain ⟨⟨x0, x1, x2, x3, x4⟩, -, lM3⟩ := rc5 q1
      obtain ⟨⟨y0, y1, y2, y3, y4⟩, ⟨f0, f1, f2, f3, f4⟩, lN⟩ := rc5 p0
      have HQ3 := Lib.hid q2
      clear p0 q1 q2 hb3 r0 r1 r2 r3 r4 s0 s1 s2 s3 s4
      go_wp2_with fail
      refine bodyPost_ret (v := .tuple #[av a, .int .i64 0]) (by simp [results, Tryd.results25, go_sem, y0, y1, y2, y3, y4, av]) rfl ?_
      exact ⟨rfl, below_set5 HQ3.out (Nat.le_refl N)⟩
    · rw [if_neg fun h => hp h.2]
      have hb := str_ne hp
      generalize prA a = P at *
      clear hc hp
      go_enter Tryd.func25, Tryd.ntmps25
      go_upto_region 1 with fail
      rw [← hw0, ← hN]
      clear hw0 hN
      go_wp2_with fail
      refine (C1.out w0).mono ?_
      rintro e w1 ⟨rfl, hb1⟩
      obtain ⟨hF, hN1⟩ := fin_parse HB0.out HR0.out hb1 a
      have HF := Lib.hid hF
      clear hF hb1 HR0
      obtain ⟨q0, q1, q2⟩ := HF.out _ (Below.refl _ _)
      have HQ := Lib.hid q2
      clear q0 q1 q2
      go_upto_region 2 with fail
      obtain ⟨W1, hW1⟩ : ∃ W1, w1.alloc (ba a) = W1 := ⟨_, rfl⟩
      obtain ⟨M, hM⟩ : ∃ M, w1.heap.size = M := ⟨_, rfl⟩
      rw [hW1, hM] at HF
      rw [hW1] at HQ
      rw [hW1, hM]
      rw [hM] at hN1
      clear hW1 hM
      obtain ⟨-, q1, -⟩ := HF.out W1 (Below.refl _ _)
      obtain ⟨⟨r0, r1, r2, r3, r4⟩, -, lM⟩ := rc5 q1
      clear q1
      go_wp2_with fail
      refine (C2.out W1).mono ?_
      rintro e w2 ⟨rfl, hb2⟩
      obtain ⟨-, q1, q2⟩ := HF.out w2 hb2
      obtain ⟨⟨s0, s1, s2, s3, s4⟩, -, lM2⟩ := rc5 q1
      have HQ2 := Lib.hid q2
      have HB2 := Lib.hid hb2
      clear q1 q2 hb2
      go_wp2_with fail
      refine (C3.out w2 HQ2.out).mono ?_
      rintro e w3 ⟨rfl, hb3⟩
      obtain ⟨p0, q1, q2⟩ := HF.out w3 (HB2.out.trans (hb3.mono HB2.out.size))
      obtain ⟨⟨x0, x1, x2, x3, x4⟩, -, lM3⟩ := rc5 q1
      obtain ⟨⟨y0, y1, y2, y3, y4⟩, ⟨f0, f1, f2, f3, f4⟩, lN⟩ := rc5 p0
      have HQ3 := Lib.hid q2
      clear p0 q1 q2 hb3 r0 r1 r2 r3 r4 s0 s1 s2 s3 s4
      go_wp2_with fail
      refine bodyPost_ret (v := .tuple #[av ⟨⟨#[]⟩, ⟨#[]⟩, 0, 0, ⟨#[]⟩⟩, .int .i64 4]) (by simp [results, Tryd.results25, go_sem, y0, y1, y2, y3, y4, av]) rfl ?_
      exact ⟨rfl, below_set5 HQ3.out (Nat.le_refl N)⟩
  · rw [if_neg fun h => hc h.1]
    rw [Bool.not_eq_true] at hc
    rw [hc] at C2
    clear hc C3
    go_enter Tryd.func25, Tryd.ntmps25
    go_upto_region 1 with fail
    rw [← hw0, ← hN]
    clear hw0 hN
    go_wp2_with fail
    refine (C1.out w0).mono ?_
    rintro e w1 ⟨rfl, hb1⟩
    obtain ⟨hF, hN1⟩ := fin_parse HB0.out HR0.out hb1 a
    have HF := Lib.hid hF
    clear hF hb1 HR0
    obtain ⟨q0, q1, q2⟩ := HF.out _ (Below.refl _ _)
    have HQ := Lib.hid q2
    clear q0 q1 q2
    go_upto_region 2 with fail
    obtain ⟨W1, hW1⟩ : ∃ W1, w1.alloc (ba a) = W1 := ⟨_, rfl⟩
    obtain ⟨M, hM⟩ : ∃ M, w1.heap.size = M := ⟨_, rfl⟩
    rw [hW1, hM] at HF
    rw [hW1] at HQ
    rw [hW1, hM]
    rw [hM] at hN1
    clear hW1 hM
    obtain ⟨-, q1, -⟩ := HF.out W1 (Below.refl _ _)
    obtain ⟨⟨r0, r1, r2, r3, r4⟩, -, lM⟩ := rc5 q1
    clear q1
    go_wp2_with fail
    refine (C2.out W1).mono ?_
    rintro e w2 ⟨rfl, hb2⟩
    obtain ⟨p0, q1, q2⟩ := HF.out w2 hb2
    obtain ⟨⟨y0, y1, y2, y3, y4⟩, ⟨f0, f1, f2, f3, f4⟩, lN⟩ := rc5 p0
    have HQ2 := Lib.hid q2
    have HB2 := Lib.hid hb2
    clear p0 q1 q2 hb2 HB2 r0 r1 r2 r3 r4
    go_wp2_with fail
    refine bodyPost_ret (v := .tuple #[av ⟨⟨#[]⟩, ⟨#[]⟩, 0, 0, ⟨#[]⟩⟩, .int .i64 4]) (by simp [results, Tryd.results25, go_sem, y0, y1, y2, y3, y4, av]) rfl ?_
    exact ⟨rfl, below_set5 HQ2.out (Nat.le_refl N)⟩
end Go.Proofs.YtakoghdkllfhlaaDoor

/- All of whatever text. -/
import Derived.Test.YtejpbebfkogmfaaDoorTb
import Derived.Test.YtejpbebfkogmfaaDoorTp
namespace Go.Proofs.YtejpbebfkogmfaaDoor
open Go.RowKit

theorem at0_any (s : ByteArray) (hs : s.size ≤ 9223372036854775807) (w : World) : Calls Tryd.prog 8 #[.string s, .int .i64 0] w fun e w' => e = .returned (pv3 plc0) ∧ Below w.heap.size w w' := by
  obtain ⟨N, hN⟩ : ∃ N, N = w.heap.size := ⟨_, rfl⟩
  obtain ⟨w0, hw0⟩ : ∃ w0, w0 = w.alloc (.cells #[.int .i64 0, .int .i64 0, .int .i64 0] 24) := ⟨_, rfl⟩
  have hz : w0.heap.size = N + 1 := by rw [hw0, hN]; simp
  have HW : Hid (Below N w w0) := by rw [hw0]; exact below_alloc hN _
  have PS := pl_start s w0
  rw [show plc (lb s) 0 = plc0 from rfl] at PS
  have C := place0_any PS hs
  have hb2 : Below (N + 1) w0 ((w0.alloc (.cells #[.string s] 9)).alloc (.cells #[.int .i64 0, .int .i64 1, .int .i64 1] 24)) := ((Below.refl _ _).alloc (by omega) _).alloc (by simp; omega) _
  have hrow : ((w0.alloc (.cells #[.string s] 9)).alloc (.cells #[.int .i64 0, .int .i64 1, .int .i64 1] 24)).heap[N]? = some (.cells #[.int .i64 0, .int .i64 0, .int .i64 0] 24 (0, 0)) := by
    refine (hb2.block N (Nat.lt_succ_self N)).trans ?_
    rw [hw0, hN]; exact heap_alloc_new _ _
  obtain ⟨w2, hw2⟩ : ∃ w2, (w0.alloc (.cells #[.string s] 9)).alloc (.cells #[.int .i64 0, .int .i64 1, .int .i64 1] 24) = w2 := ⟨_, rfl⟩
  have CS := places_any s w0
  rw [hw2] at C hb2 hrow CS
  rw [hz] at C CS
  have hlN := (Array.getElem?_eq_some_iff.1 hrow).1
  have HF : Hid (∀ w3, Below w2.heap.size w2 w3 → w3.heap[N]? = some (.cells #[.int .i64 0, .int .i64 0, .int .i64 0] 24 (0, 0)) ∧ Below N w w3) := fun w3 h => ⟨(h.block N hlN).trans hrow, (HW.out.trans (hb2.mono (Nat.le_succ N))).trans (h.mono (Nat.le_of_lt hlN))⟩
  have C := Lib.hid C
  have CS := Lib.hid CS
  rw [← hN]
  clear PS hb2 hrow hz hw2 hlN
  go_enter Tryd.func8, Tryd.ntmps8
  go_upto_region 1 with fail
  rw [← hw0, ← hN]
  clear hw0 hN
  go_wp2_with fail
  refine CS.out.mono ?_
  rintro e w1 ⟨rfl, rfl⟩
  go_wp2_with fail
  refine C.out.mono ?_
  rintro e w3 ⟨rfl, hB⟩
  obtain ⟨hr, hb⟩ := HF.out w3 hB
  obtain ⟨r0, r1, r2, g0, g1, g2, lN⟩ := rc3 hr
  have HB := Lib.hid hb
  clear hr hb hB
  go_wp2_with fail
  refine bodyPost_ret (v := pv3 plc0) (by simp [results, Tryd.results8, go_sem, r0, r1, r2]) rfl ?_
  exact ⟨rfl, ((HB.out.setCell (p := ⟨N, 0, none⟩) (Nat.le_refl N) _).setCell (p := ⟨N, 1, none⟩) (Nat.le_refl N) _).setCell (p := ⟨N, 2, none⟩) (Nat.le_refl N) _⟩
set_option maxHeartbeats 1000000 in
theorem all_big {w : World} {s : ByteArray} (hb : 32768 < s.size) (hs : s.size ≤ 9223372036854775807) : Calls Tryd.prog 13 #[.string s] w (AllPost w w.heap.size (lexL (lb s))) := by
  obtain ⟨N, hN⟩ : ∃ N, N = w.heap.size := ⟨_, rfl⟩
  obtain ⟨w1, hw1⟩ : ∃ w1, w1 = w.alloc (.cells dgz 35) := ⟨_, rfl⟩
  have HB1 : Hid (Below N w w1) := by rw [hw1]; exact below_alloc hN _
  have hd1 : w1.heap[N]? = some (.cells dgz 35 (0, 0)) := by rw [hw1, hN]; exact heap_alloc_new _ _
  have hlN := (Array.getElem?_eq_some_iff.1 hd1).1
  have HF : Hid (∀ w3, Below w1.heap.size w1 w3 → w3.heap[N]? = some (.cells dgz 35 (0, 0)) ∧ Below N w w3) := fun w3 h => ⟨(h.block N hlN).trans hd1, HB1.out.trans (h.mono (Nat.le_of_lt hlN))⟩
  have C := Lib.hid (at0_any s hs w1)
  have hR : lexL (lb s) = .error (3, plc0) := by unfold lexL; rw [if_pos (by rw [L_len]; exact hb)]
  have hb' : (32768 : Int) < s.size := by omega
  rw [hR, ← hN]
  clear hd1 hR hlN
  go_enter Tryd.func13, Tryd.ntmps13
  go_upto_region 1 with fail
  rw [← hw1, ← hN]
  clear hw1 hN
  go_wp2_with fail
  refine C.out.mono ?_
  rintro e w3 ⟨rfl, hB⟩
  obtain ⟨hr, hb3⟩ := HF.out w3 hB
  obtain ⟨⟨r0, r1, r2, r3, r4⟩, ⟨f0, f1, f2, f3, f4⟩, lN⟩ := rc5 hr
  have HB := Lib.hid hb3
  clear hr hb3 hB
  go_wp2_with fail
  refine bodyPost_ret (v := .tuple #[.slice none 0 0, .agg (dgc 3 plc0)]) (by simp [results, Tryd.results13, go_sem, r0, r1, r2, r3, r4]) rfl ?_
  exact ⟨below_set5 HB.out (Nat.le_refl N), rfl⟩
theorem all_every {w : World} {s : ByteArray} (hT : Tab w) (hs : s.size ≤ 9223372036854775807) : Calls Tryd.prog 13 #[.string s] w (AllPost w w.heap.size (lexL (lb s))) := by
  by_cases hb : 32768 < s.size
  · exact all_big hb hs
  · exact all_any hT (by omega)
end Go.Proofs.YtejpbebfkogmfaaDoor

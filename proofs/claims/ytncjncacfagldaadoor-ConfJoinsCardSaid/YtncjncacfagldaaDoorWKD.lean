/- All of a text that is too long. -/
import Derived.Test.YtncjncacfagldaaDoorWLJ
namespace Go.Proofs.YtncjncacfagldaaDoor
open Go.RowKit

set_option maxHeartbeats 1000000 in
theorem place0_any {pb sb : Nat} {s : ByteArray} {w : World} (P : Pl w pb sb s plc0) (hs : s.size ≤ 9223372036854775807) :
    Calls Tryd.prog 43 #[.int .i64 0, .pointer (some ⟨pb, 0, none⟩), .pointer (some ⟨sb, 0, none⟩)] w fun e w' => e = .returned (lpv3 plc0) ∧ Below w.heap.size w w' := by
  have hlt := P.lt
  have hltS := P.ltS
  obtain ⟨N, hN⟩ : ∃ N, N = w.heap.size := ⟨_, rfl⟩
  obtain ⟨w0, hw0⟩ : ∃ w0, w0 = w.alloc (.cells #[.int .i64 0, .int .i64 0, .int .i64 0] 31) := ⟨_, rfl⟩
  have HW : Hid (Below N w w0) := by rw [hw0]; exact below_alloc hN _
  have HP0 := Lib.hid (P.kept HW.out (by omega) (by omega))
  have HRB : Hid (w0.heap[N]? = some (.cells #[.int .i64 0, .int .i64 0, .int .i64 0] 31 (0, 0))) := by rw [hw0, hN]; exact heap_alloc_new _ _
  rw [← hN]
  clear P hlt hltS
  go_enter Tryd.func43, Tryd.ntmps43
  go_upto_region 1 with fail
  rw [← hw0, ← hN]
  clear hw0 hN
  go_loopw [] (fun wr => wr = w0) (fun _ => 0)
  case atStart => rfl
  case round =>
    subst hrel
    obtain ⟨x0, x1, x2, -, -, -, xs, -⟩ := HP0.out.rc
    obtain ⟨r0, r1, r2, g0, g1, g2, lN⟩ := lrc3 HRB.out
    dsimp only [plc0] at x0 x1 x2
    have hm : min (0 : Int) s.size = 0 := by omega
    go_wp2_with fail
    refine bodyPost_ret (v := lpv3 plc0) (by simp [results, Tryd.results43, go_sem, r0, r1, r2, plc0]) rfl ?_
    exact ⟨rfl, ((HW.out.setCell (p := ⟨N, 0, none⟩) (Nat.le_refl N) _).setCell (p := ⟨N, 1, none⟩) (Nat.le_refl N) _).setCell (p := ⟨N, 2, none⟩) (Nat.le_refl N) _⟩
theorem at0_any (s : ByteArray) (hs : s.size ≤ 9223372036854775807) (w : World) : Calls Tryd.prog 30 #[.string s, .int .i64 0] w fun e w' => e = .returned (lpv3 plc0) ∧ Below w.heap.size w w' := by
  obtain ⟨N, hN⟩ : ∃ N, N = w.heap.size := ⟨_, rfl⟩
  obtain ⟨w0, hw0⟩ : ∃ w0, w0 = w.alloc (.cells #[.int .i64 0, .int .i64 0, .int .i64 0] 31) := ⟨_, rfl⟩
  have hz : w0.heap.size = N + 1 := by rw [hw0, hN]; simp
  have HW : Hid (Below N w w0) := by rw [hw0]; exact below_alloc hN _
  have PS := pl_start s w0
  rw [show plc (lb s) 0 = plc0 from rfl] at PS
  have C := place0_any PS hs
  have hb2 : Below (N + 1) w0 ((w0.alloc (.cells #[.string s] 9)).alloc (.cells #[.int .i64 0, .int .i64 1, .int .i64 1] 31)) := ((Below.refl _ _).alloc (by omega) _).alloc (by simp; omega) _
  have hrow : ((w0.alloc (.cells #[.string s] 9)).alloc (.cells #[.int .i64 0, .int .i64 1, .int .i64 1] 31)).heap[N]? = some (.cells #[.int .i64 0, .int .i64 0, .int .i64 0] 31 (0, 0)) := by
    refine (hb2.block N (Nat.lt_succ_self N)).trans ?_
    rw [hw0, hN]; exact heap_alloc_new _ _
  obtain ⟨w2, hw2⟩ : ∃ w2, (w0.alloc (.cells #[.string s] 9)).alloc (.cells #[.int .i64 0, .int .i64 1, .int .i64 1] 31) = w2 := ⟨_, rfl⟩
  have CS := places_any s w0
  rw [hw2] at C hb2 hrow CS
  rw [hz] at C CS
  have hlN := (Array.getElem?_eq_some_iff.1 hrow).1
  have HF : Hid (∀ w3, Below w2.heap.size w2 w3 → w3.heap[N]? = some (.cells #[.int .i64 0, .int .i64 0, .int .i64 0] 31 (0, 0)) ∧ Below N w w3) := fun w3 h => ⟨(h.block N hlN).trans hrow, (HW.out.trans (hb2.mono (Nat.le_succ N))).trans (h.mono (Nat.le_of_lt hlN))⟩
  have C := Lib.hid C
  have CS := Lib.hid CS
  rw [← hN]
  clear PS hb2 hrow hz hw2 hlN
  go_enter Tryd.func30, Tryd.ntmps30
  go_upto_region 1 with fail
  rw [← hw0, ← hN]
  clear hw0 hN
  go_wp2_with fail
  refine CS.out.mono ?_
  rintro e w1 ⟨rfl, rfl⟩
  go_wp2_with fail
  refine C.out.mono ?_
  rintro e w3 ⟨rfl, hB⟩
  obtain ⟨hr, hb⟩ := HF.out w3 hB
  obtain ⟨r0, r1, r2, g0, g1, g2, lN⟩ := lrc3 hr
  have HB := Lib.hid hb
  clear hr hb hB
  go_wp2_with fail
  refine bodyPost_ret (v := lpv3 plc0) (by simp [results, Tryd.results30, go_sem, r0, r1, r2]) rfl ?_
  exact ⟨rfl, ((HB.out.setCell (p := ⟨N, 0, none⟩) (Nat.le_refl N) _).setCell (p := ⟨N, 1, none⟩) (Nat.le_refl N) _).setCell (p := ⟨N, 2, none⟩) (Nat.le_refl N) _⟩
set_option maxHeartbeats 1000000 in
theorem all_big {w : World} {s : ByteArray} (hb : 32768 < s.size) (hs : s.size ≤ 9223372036854775807) : Calls Tryd.prog 20 #[.string s] w (AllPost w w.heap.size (lexL (lb s))) := by
  obtain ⟨N, hN⟩ : ∃ N, N = w.heap.size := ⟨_, rfl⟩
  obtain ⟨w1, hw1⟩ : ∃ w1, w1 = w.alloc (.cells dgz 36) := ⟨_, rfl⟩
  have HB1 : Hid (Below N w w1) := by rw [hw1]; exact below_alloc hN _
  have hd1 : w1.heap[N]? = some (.cells dgz 36 (0, 0)) := by rw [hw1, hN]; exact heap_alloc_new _ _
  have hlN := (Array.getElem?_eq_some_iff.1 hd1).1
  have HF : Hid (∀ w3, Below w1.heap.size w1 w3 → w3.heap[N]? = some (.cells dgz 36 (0, 0)) ∧ Below N w w3) := fun w3 h => ⟨(h.block N hlN).trans hd1, HB1.out.trans (h.mono (Nat.le_of_lt hlN))⟩
  have C := Lib.hid (at0_any s hs w1)
  have hR : lexL (lb s) = .error (3, plc0) := by unfold lexL; rw [if_pos (by rw [tp_L_len]; exact hb)]
  have hb' : (32768 : Int) < s.size := by omega
  rw [hR, ← hN]
  clear hd1 hR hlN
  go_enter Tryd.func20, Tryd.ntmps20
  go_upto_region 1 with fail
  rw [← hw1, ← hN]
  clear hw1 hN
  go_wp2_with fail
  refine C.out.mono ?_
  rintro e w3 ⟨rfl, hB⟩
  obtain ⟨hr, hb3⟩ := HF.out w3 hB
  obtain ⟨⟨r0, r1, r2, r3, r4⟩, ⟨f0, f1, f2, f3, f4⟩, lN⟩ := rc5 hr
  have HB := Lib.hid hb3
  clear hr hb3 hB
  go_wp2_with fail
  refine bodyPost_ret (v := .tuple #[.slice none 0 0, .agg (dgc 3 plc0)]) (by simp [results, Tryd.results20, go_sem, r0, r1, r2, r3, r4]) rfl ?_
  exact ⟨below_set5 HB.out (Nat.le_refl N), rfl⟩
end Go.Proofs.YtncjncacfagldaaDoor

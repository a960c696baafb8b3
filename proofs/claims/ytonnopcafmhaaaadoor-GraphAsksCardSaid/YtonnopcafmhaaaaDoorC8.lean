/- Contracts: awake; Turned. -/
import Derived.Test.YtonnopcafmhaaaaDoorC7
namespace Go.Proofs.YtonnopcafmhaaaaDoor
open Go.RowKit

def m1 : Nat → List Int := fun _ => [1, 2]
def m2 : Nat → List Int := fun i => if i = 1 then [0] else [1]
theorem ord1 : nl (ordM (ahA 3 1 m1) 3 3 fun _ => false) = [1, 2, 0] := by decide +kernel
theorem stuck1 : lst (stuckS (ahA 3 1 m1) 3) 128 = [] := by decide +kernel
theorem ord2 : nl (ordM (ahA 3 3 m2) 3 3 fun _ => false) = [] := by decide +kernel
theorem stuck2 : lst (stuckS (ahA 3 3 m2) 3) 128 = [0, 1, 2] := by decide +kernel
theorem clamp3 : clamp 3 = 3 := by decide
/-- a new row of numbers -/
theorem rd_new (w : World) (L : List Int) (T : TypeId) : Rd (w.alloc (.cells (iv L).toArray T)) (some ⟨w.heap.size, 0, none⟩) L := fun i hi => by
  refine ⟨w.heap.size, 0, rfl, by simp, ?_⟩
  have : (w.alloc (.cells (iv L).toArray T)).heap[w.heap.size]? = some (.cells (iv L).toArray T (0, 0)) := heap_alloc_new w _
  rw [Nat.zero_add, cell_of_row _ _ i _ _ _ this, List.getElem?_toArray]
  unfold iv
  rw [List.getElem?_map, List.getElem?_eq_getElem hi, List.getD_eq_getElem?_getD, List.getElem?_eq_getElem hi]; rfl
/-- the first example's rows -/
theorem pt_one (w : World) (n0 : Nat) (hn : w.heap.size = n0) : Pt ((w.alloc (.cells #[.int .i64 1, .int .i64 2] 3)).alloc (.cells #[.slice (some ⟨n0, 0, none⟩) 2 2] 23)) (some ⟨n0 + 1, 0, none⟩) 1 (fun _ => some ⟨n0, 0, none⟩) m1 (fun _ => 2) := by
  have r1 : Rd (w.alloc (.cells #[.int .i64 1, .int .i64 2] 3)) (some ⟨n0, 0, none⟩) [1, 2] := by have := rd_new w [1, 2] 3; rw [hn] at this; exact this
  refine ⟨fun i hi => ⟨n0 + 1, 0, rfl, by simp; omega, ?_⟩, fun i hi => r1.below ((Below.refl _ _).alloc (Nat.le_refl _) _) (Nat.le_refl _), fun i hi => ⟨Nat.le_refl _, by unfold maxLen; omega⟩⟩
  obtain rfl : i = 0 := by omega
  have h := heap_alloc_new (w.alloc (.cells #[.int .i64 1, .int .i64 2] 3)) (.cells #[.slice (some ⟨n0, 0, none⟩) 2 2] 23)
  rw [Go.Deep.nblk_alloc, hn] at h
  rw [Nat.zero_add, cell_of_row _ _ 0 _ _ _ h]; rfl
def s2 (n0 : Nat) (i : Nat) : Option Addr := some ⟨n0 + i, 0, none⟩
/-- the second example's rows -/
theorem pt_two (w : World) (n0 : Nat) (hn : w.heap.size = n0) : Pt ((((w.alloc (.cells #[.int .i64 1] 3)).alloc (.cells #[.int .i64 0] 3)).alloc (.cells #[.int .i64 1] 3)).alloc (.cells #[.slice (some ⟨n0, 0, none⟩) 1 1, .slice (some ⟨n0 + 1, 0, none⟩) 1 1, .slice (some ⟨n0 + 2, 0, none⟩) 1 1] 23)) (some ⟨n0 + 3, 0, none⟩) 3 (s2 n0) m2 (fun _ => 1) := by
  have r0 : Rd (w.alloc (.cells #[.int .i64 1] 3)) (some ⟨n0, 0, none⟩) [1] := by have := rd_new w [1] 3; rw [hn] at this; exact this
  have r1 : Rd ((w.alloc (.cells #[.int .i64 1] 3)).alloc (.cells #[.int .i64 0] 3)) (some ⟨n0 + 1, 0, none⟩) [0] := by have := rd_new (w.alloc (.cells #[.int .i64 1] 3)) [0] 3; rw [Go.Deep.nblk_alloc, hn] at this; exact this
  have r2 : Rd (((w.alloc (.cells #[.int .i64 1] 3)).alloc (.cells #[.int .i64 0] 3)).alloc (.cells #[.int .i64 1] 3)) (some ⟨n0 + 2, 0, none⟩) [1] := by have := rd_new ((w.alloc (.cells #[.int .i64 1] 3)).alloc (.cells #[.int .i64 0] 3)) [1] 3; rw [Go.Deep.nblk_alloc, Go.Deep.nblk_alloc, hn] at this; exact this
  have k : ∀ (W : World) (o : Obj), Below W.heap.size W (W.alloc o) := fun W o => (Below.refl _ _).alloc (Nat.le_refl _) _
  have hlen : ∀ i, (m2 i).length = 1 := fun i => by unfold m2; split <;> rfl
  refine ⟨fun i hi => ⟨n0 + 3, 0, rfl, by simp; omega, ?_⟩, fun i hi => ?_, fun i hi => ⟨by rw [hlen]; exact Nat.le_refl _, by unfold maxLen; omega⟩⟩
  · have h := heap_alloc_new (((w.alloc (.cells #[.int .i64 1] 3)).alloc (.cells #[.int .i64 0] 3)).alloc (.cells #[.int .i64 1] 3)) (.cells #[.slice (some ⟨n0, 0, none⟩) 1 1, .slice (some ⟨n0 + 1, 0, none⟩) 1 1, .slice (some ⟨n0 + 2, 0, none⟩) 1 1] 23)
    rw [Go.Deep.nblk_alloc, Go.Deep.nblk_alloc, Go.Deep.nblk_alloc, hn] at h
    rw [Nat.zero_add, cell_of_row _ _ i _ _ _ h, hlen]
    have : i = 0 ∨ i = 1 ∨ i = 2 := by omega
    rcases this with rfl | rfl | rfl <;> rfl
  · have : i = 0 ∨ i = 1 ∨ i = 2 := by omega
    rcases this with rfl | rfl | rfl
    · exact ((r0.below (k _ _) (Nat.le_refl _)).below (k _ _) (Nat.le_refl _)).below (k _ _) (Nat.le_refl _)
    · exact (r1.below (k _ _) (Nat.le_refl _)).below (k _ _) (Nat.le_refl _)
    · exact r2.below (k _ _) (Nat.le_refl _)
set_option maxHeartbeats 2000000 in
theorem awake_any (w : World) (hT : Tab w) : Calls Tryd.prog 9 #[] w fun e w' => e = .returned (.bool true) ∧ Below w.heap.size w w' := by
  obtain ⟨n0, hn⟩ : ∃ n, w.heap.size = n := ⟨_, rfl⟩
  have hT0 := hT.1
  rw [hn] at hT0
  have HT := Lib.hid hT
  have HB0 := Lib.hid (Below.alloc (Below.alloc (Below.refl n0 w) (by omega) (.cells #[.int .i64 1, .int .i64 2] 3)) (by simp; omega) (.cells #[.slice (some ⟨n0, 0, none⟩) 2 2] 23))
  have N1 := new_any 3 _ 1 1 _ _ _ _ (pt_one w n0 hn) (by unfold maxLen; omega)
  rw [clamp3, Go.Deep.nblk_alloc, Go.Deep.nblk_alloc, hn] at N1
  have HN := Lib.hid hn
  clear hT
  go_enter Tryd.func9, Tryd.ntmps9
  go_wp2_with fail
  refine N1.mono ?_
  rintro e w1 ⟨rfl, G1, x1⟩
  have HB1 : Hid (Below n0 w w1) := HB0.out.trans (x1.mono (by omega))
  have O1 := order_any G1 (HT.out.below HB1.out hT0)
  rw [stuck1, ord1] at O1
  clear N1 G1 x1 HB0 hn
  go_wp2_with fail
  refine O1.mono ?_
  rintro e w2 ⟨v1, v2, rfl, ⟨p1, c1, rfl, -, -, rd1, -⟩, ⟨p2, c2, rfl, -⟩, x2⟩
  have hs1 : n0 ≤ w1.heap.size := by have := HB1.out.size; have := HN.out; omega
  have HB2 : Hid (Below n0 w w2) := HB1.out.trans (x2.mono hs1)
  have HR1 := Lib.hid rd1
  clear O1 rd1 x2 HB1 hs1
  obtain ⟨n2, hn2⟩ : ∃ n, w2.heap.size = n := ⟨_, rfl⟩
  have hs2 : n0 ≤ n2 := by have := HB2.out.size; have := HN.out; omega
  have k : ∀ (W : World) (o : Obj), Below W.heap.size W (W.alloc o) := fun W o => (Below.refl _ _).alloc (Nat.le_refl _) _
  have HB3 : Hid (Below n2 w2 ((((w2.alloc (.cells #[.int .i64 1] 3)).alloc (.cells #[.int .i64 0] 3)).alloc (.cells #[.int .i64 1] 3)).alloc (.cells #[.slice (some ⟨n2, 0, none⟩) 1 1, .slice (some ⟨n2 + 1, 0, none⟩) 1 1, .slice (some ⟨n2 + 2, 0, none⟩) 1 1] 23))) :=
    ((((Below.refl n2 w2).alloc (by omega) _).alloc (by simp; omega) _).alloc (by simp; omega) _).alloc (by simp; omega) _
  have N2 := new_any 3 _ 3 3 _ _ _ _ (pt_two w2 n2 hn2) (by unfold maxLen; omega)
  rw [clamp3, Go.Deep.nblk_alloc, Go.Deep.nblk_alloc, Go.Deep.nblk_alloc, Go.Deep.nblk_alloc, hn2] at N2
  have HN2 := Lib.hid hn2
  clear k
  go_wp2_with fail
  refine N2.mono ?_
  rintro e w3 ⟨rfl, G3, x3⟩
  have hb3 := HB3.out.trans (x3.mono (by omega))
  have O3 := order_any G3 (HT.out.below (HB2.out.trans (hb3.mono hs2)) hT0)
  have HB4 := Lib.hid hb3
  rw [stuck2, ord2] at O3
  clear N2 G3 x3 hb3 HB3 hn2
  go_wp2_with fail
  refine O3.mono ?_
  rintro e w4 ⟨v3, v4, rfl, ⟨p3, c3, rfl, -⟩, ⟨p4, c4, rfl, -, -, rd4, -⟩, x4⟩
  have hs3 : n2 ≤ w3.heap.size := by have := HB4.out.size; have := HN2.out; omega
  have HB5 : Hid (Below n2 w2 w4) := HB4.out.trans (x4.mono hs3)
  have HR4 := Lib.hid rd4
  have HR1 : Hid (Rd w4 p1 [1, 2, 0]) := HR1.out.below HB5.out (by have := HN2.out; omega)
  clear O3 rd4 x4 HB4 hs3
  have HB6 : Hid (Below n0 w w4) := HB2.out.trans (HB5.out.mono hs2)
  clear HB5 HB2 hs2
  obtain ⟨n4, hn4⟩ : ∃ n, w4.heap.size = n := ⟨_, rfl⟩
  have r5 : Rd (w4.alloc (.cells #[.int .i64 1, .int .i64 2, .int .i64 0] 3)) (some ⟨n4, 0, none⟩) [1, 2, 0] := by have := rd_new w4 [1, 2, 0] 3; rw [hn4] at this; exact this
  have k4 : Below w4.heap.size w4 (w4.alloc (.cells #[.int .i64 1, .int .i64 2, .int .i64 0] 3)) := (Below.refl _ _).alloc (Nat.le_refl _) _
  have S5 := ints_any p1 (some ⟨n4, 0, none⟩) c1 3 [1, 2, 0] [1, 2, 0] _ (HR1.out.below k4 (Nat.le_refl _)) r5 (by decide) (by decide)
  rw [decide_eq_true rfl] at S5
  have HR4 : Hid (Rd (w4.alloc (.cells #[.int .i64 1, .int .i64 2, .int .i64 0] 3)) p4 [0, 1, 2]) := HR4.out.below k4 (Nat.le_refl _)
  have hs4 : n0 ≤ w4.heap.size := by have := HB6.out.size; have := HN.out; omega
  have HB7 : Hid (Below n0 w (w4.alloc (.cells #[.int .i64 1, .int .i64 2, .int .i64 0] 3))) := HB6.out.trans (k4.mono hs4)
  have hs5 : Hid (n0 ≤ (w4.alloc (.cells #[.int .i64 1, .int .i64 2, .int .i64 0] 3)).heap.size) := by unfold Hid; simp; omega
  clear r5 k4 HB6 hs4 HR1
  go_wp2_with fail
  refine S5.mono ?_
  rintro e w5 ⟨rfl, x5⟩
  have HB8 : Hid (Below n0 w w5) := HB7.out.trans (x5.mono hs5.out)
  have HR4 : Hid (Rd w5 p4 [0, 1, 2]) := HR4.out.below x5 (Nat.le_refl _)
  clear S5 x5 HB7 hs5 hn4
  obtain ⟨n5, hn5⟩ : ∃ n, w5.heap.size = n := ⟨_, rfl⟩
  have r6 : Rd (w5.alloc (.cells #[.int .i64 0, .int .i64 1, .int .i64 2] 3)) (some ⟨n5, 0, none⟩) [0, 1, 2] := by have := rd_new w5 [0, 1, 2] 3; rw [hn5] at this; exact this
  have k5 : Below w5.heap.size w5 (w5.alloc (.cells #[.int .i64 0, .int .i64 1, .int .i64 2] 3)) := (Below.refl _ _).alloc (Nat.le_refl _) _
  have S6 := ints_any p4 (some ⟨n5, 0, none⟩) c4 3 [0, 1, 2] [0, 1, 2] _ (HR4.out.below k5 (Nat.le_refl _)) r6 (by decide) (by decide)
  rw [decide_eq_true rfl] at S6
  have hs6 : n0 ≤ w5.heap.size := by have := HB8.out.size; have := HN.out; omega
  have HB9 : Hid (Below n0 w (w5.alloc (.cells #[.int .i64 0, .int .i64 1, .int .i64 2] 3))) := HB8.out.trans (k5.mono hs6)
  have hs7 : Hid (n0 ≤ (w5.alloc (.cells #[.int .i64 0, .int .i64 1, .int .i64 2] 3)).heap.size) := by unfold Hid; simp; omega
  clear r6 k5 HB8 hs6 HR4
  go_wp2_with fail
  refine S6.mono ?_
  rintro e w6 ⟨rfl, x6⟩
  have HB : Hid (Below w.heap.size w w6) := by
    unfold Hid; rw [HN.out]; exact HB9.out.trans (x6.mono hs7.out)
  clear S6 x6 HB9 hs7 hn5
  go_wp2_with fail
  go_ret
  exact ⟨rfl, HB.out⟩
end Go.Proofs.YtonnopcafmhaaaaDoor

/- Contracts: how deep nodes stand, of both. -/
import Derived.Test.YtonnopcafmhaaaaDoorD7
namespace Go.Proofs.YtonnopcafmhaaaaDoor
open Go.RowKit

theorem oL_lt' {A : Nat → Nat → Bool} {N q k : Nat} (h : (oL A N)[q]? = some k) : k < N := (ord_lt N _ k (List.mem_of_getElem? h)).1
/-- the greatest of some -/
def mxL (f : Nat → Nat) (L : List Nat) : Nat := L.foldl (fun m k => max m (f k)) 0
theorem mxL_snoc (f : Nat → Nat) (L : List Nat) (k : Nat) : mxL f (L ++ [k]) = max (mxL f L) (f k) := by unfold mxL; rw [List.foldl_append]; rfl
theorem foldl_le (f : Nat → Nat) (b : Nat) (h : ∀ k, f k ≤ b) : ∀ (L : List Nat) (m : Nat), m ≤ b → L.foldl (fun m k => max m (f k)) m ≤ b
  | [], m, hm => hm
  | k :: r, m, hm => foldl_le f b h r _ (by have := h k; show max m (f k) ≤ b; omega)
theorem mxL_le {f : Nat → Nat} {b : Nat} (h : ∀ k, f k ≤ b) (L : List Nat) : mxL f L ≤ b := foldl_le f b h L 0 (Nat.zero_le _)
theorem mxL_take {f : Nat → Nat} {L : List Nat} {z k : Nat} (h : L[z]? = some k) : mxL f (L.take (z + 1)) = max (mxL f (L.take z)) (f k) := by
  rw [List.take_add_one, h]; exact mxL_snoc _ _ _
/-- one node more is told -/
def dStep (A : Nat → Nat → Bool) (N i : Nat) (f : Nat → Nat) : Nat → Nat := fun x => if x = i then mxL f (lstN (A i) N) + 1 else f x
def dF (A : Nat → Nat → Bool) (N : Nat) (O : List Nat) : Nat → Nat := O.foldl (fun f i => dStep A N i f) fun _ => 0
theorem dF_take {A : Nat → Nat → Bool} {N : Nat} {O : List Nat} {j i : Nat} (h : O[j]? = some i) : dF A N (O.take (j + 1)) = dStep A N i (dF A N (O.take j)) := by
  rw [List.take_add_one, h]; unfold dF; rw [List.foldl_append]; rfl
theorem dF_le (A : Nat → Nat → Bool) (N : Nat) : ∀ (O : List Nat) (f : Nat → Nat) (b : Nat), (∀ k, f k ≤ b) → ∀ k, O.foldl (fun f i => dStep A N i f) f k ≤ b + O.length
  | [], f, b, h, k => h k
  | i :: r, f, b, h, k => by
    have := dF_le A N r (dStep A N i f) (b + 1) (fun x => by
      unfold dStep
      have h1 := mxL_le h (lstN (A i) N)
      have h2 := h x
      split <;> omega) k
    rw [List.length_cons, List.foldl_cons]; omega
theorem dF_bound (A : Nat → Nat → Bool) (N : Nat) (O : List Nat) (k : Nat) : dF A N O k ≤ O.length := by
  have := dF_le A N O (fun _ => 0) 0 (fun _ => Nat.le_refl _) k
  unfold dF; omega
/-- a node in the order isn't ahead of itself -/
theorem oL_self {A : Nat → Nat → Bool} {N p i : Nat} (h : (oL A N)[p]? = some i) : A i i = false := by
  cases ha : A i i with
  | false => rfl
  | true =>
    rcases ord_behind N (fun _ => false) p i i h (oL_lt' h) ha with h1 | ⟨q, h1, h2⟩
    · cases h1
    · have := oL_inj h h2; omega
/-- what both tell -/
def dL (A : Nat → Nat → Bool) (N : Nat) : List Int := (List.range N).map fun k : Nat => (dF A N (oL A N) k : Int)
theorem dL_len (A : Nat → Nat → Bool) (N : Nat) : (dL A N).length = N := by simp [dL]
theorem dL_is {w : World} {B N : Nat} {A : Nat → Nat → Bool} (h : w.rowIs B 3 N fun k => .int .i64 (dF A N (oL A N) k : Int)) (hN : N ≤ 128) : Is w B (.slice (some ⟨B, 0, none⟩) N N) (dL A N) := by
  refine ⟨some ⟨B, 0, none⟩, N, by rw [dL_len], by rw [dL_len]; exact Nat.le_refl _, by unfold maxLen; omega, fun i hi => ?_, (fun h => by cases h), fun _ => ⟨B, rfl, Nat.le_refl _⟩⟩
  rw [dL_len] at hi
  refine ⟨B, 0, rfl, World.rowIs.lt h, ?_⟩
  rw [Nat.zero_add, h.cell hi]
  unfold dL
  rw [List.getD_eq_getElem?_getD, List.getElem?_map, List.getElem?_range hi]; rfl
set_option maxRecDepth 20000 in
set_option maxHeartbeats 8000000 in
theorem rdeep_any {w : World} {g n : Nat} {A : Nat → Nat → Bool} (h : RG w g n A) :
    Calls Tryd.prog 22 #[.pointer (some ⟨g, 0, none⟩)] w fun e w' => ∃ v, e = .returned v ∧ Is w' w.heap.size v (dL A n) ∧ Below w.heap.size w w' := by
  have hn := h.le
  obtain ⟨sp, cap, HG⟩ := h.open
  have HG := Lib.hid HG
  obtain ⟨B, hB⟩ : ∃ k, w.heap.size = k := ⟨_, rfl⟩
  rw [hB] at HG
  have HB := Lib.hid hB
  have hmk := run_make_row' (P := Tryd.prog) 23 3 (.int .i64 0) 8 Tryd.underlying23 info3 rfl .i64 .i64 n (by omega) (by omega)
  have HMK := Lib.hid (World.rowIs_made w (.int .i64 0) n 3)
  have bM : Below B w (w.alloc (.cells (madeCells #[.int .i64 0] n) 3)) := (Below.refl _ _).alloc (by omega) _
  have HBM := Lib.hid bM
  rw [hB] at HMK
  have k0 := HG.out.c0 w (Below.refl _ _)
  have OA := rorder_any (h.below bM (by omega))
  have HOL := Lib.hid (oL_len (A := A) (N := n))
  clear h bM
  go_enter Tryd.func22, Tryd.ntmps22
  go_wp2_with fail
  refine OA.mono ?_
  rintro e w2 ⟨v1, v2, rfl, ⟨p1, c1, rfl, -, -, rd1, -, q1⟩, -, b2⟩
  have HM2 : Hid (w2.rowIs B 3 n fun k => .int .i64 ((dF A n ((oL A n).take 0) k : Nat) : Int)) := (below_row b2 HMK.out (by rw [Go.Deep.nblk_alloc]; omega)).congr fun k _ => rfl
  have HB2 : Hid (Below B w w2) := HBM.out.trans (b2.mono (by rw [Go.Deep.nblk_alloc]; omega))
  have HR2 := Lib.hid rd1
  rw [Go.Deep.nblk_alloc] at q1
  have HQ1 : Hid (∀ k o, 0 < (oL A n).length → p1 = some ⟨k, o, none⟩ → B + 1 ≤ k) := fun k o hl e => by
    obtain ⟨g4, e4, h4⟩ := q1 (by rw [nl_len]; exact hl)
    rw [e4] at e
    injection e with e; injection e with e _; omega
  rw [nl_len]
  clear OA rd1 b2 q1 HMK HBM k0 hB
  obtain ⟨ll, hll⟩ : ∃ k, (oL A n).length = k := ⟨_, rfl⟩
  rw [hll] at HOL HQ1 ⊢
  have HLL := Lib.hid hll
  have hl128 : ll ≤ 128 := by have := HOL.out; omega
  clear hll
  go_wp2
  go_loopg [6] ll (fun k c wr => ∃ j : Nat, j ≤ ll ∧ k = ll - j ∧ c = .int .i64 j ∧ Hid (wr.rowIs B 3 n fun k => .int .i64 ((dF A n ((oL A n).take j) k : Nat) : Int)) ∧ Hid (Rd wr p1 (nl (oL A n))) ∧ Hid (Below B w wr))
  case atStart => exact ⟨0, by omega, by omega, rfl, HM2.out, HR2.out, HB2.out⟩
  case round =>
    clear HM2 HR2 HB2
    obtain ⟨j, hj, rfl, rfl, HM, HR, HW⟩ := hrel
    have k0 := HG.out.c0 _ HW.out
    by_cases hjl : j < ll
    · obtain ⟨i, hi, hiv⟩ := nl_get' (L := oL A n) (j := j) (by rw [HLL.out]; exact hjl)
      obtain ⟨b1, o1, rfl, q1, d1⟩ := HR.out j (by rw [nl_len, HLL.out]; exact hjl)
      rw [hiv] at d1
      have hin := oL_lt' hi
      have j0 : (0 : Int) ≤ j := by omega
      have jl : (j : Int) < ll := by omega
      have i0 : (0 : Int) ≤ i := by omega
      have iN : (i : Int) < n := by omega
      have HDS := Lib.hid (dF_take (A := A) (N := n) hi)
      have HFB : Hid (∀ k, dF A n ((oL A n).take j) k ≤ 128) := fun k => Nat.le_trans (dF_bound _ _ _ _) (by rw [List.length_take, HLL.out]; omega)
      have hbk := HQ1.out b1 o1 (by omega) rfl
      clear hiv hi
      generalize dF A n ((oL A n).take j) = f at *
      go_wp2
      clear k0
      go_loopg [7, 8] n (fun k m c w2 => ∃ q : Nat, q ≤ n ∧ k = n - q ∧ c = .int .i64 q ∧ m = .int .i64 ((mxL f (lstN (A i) q) : Nat) : Int) ∧ ∃ z : Nat, w2 = wr.drewN z)
      case atStart => exact ⟨0, by omega, by omega, rfl, rfl, 0, rfl⟩
      case round =>
        obtain ⟨q, hq, rfl, rfl, rfl, z, rfl⟩ := hrel
        have HWz : Hid (Below B w (wr.drewN z)) := below_drewN HW.out z
        have k0 := HG.out.c0 _ HWz.out
        have HMz : Hid ((wr.drewN z).rowIs B 3 n fun k => .int .i64 ((f k : Nat) : Int)) := HM.out
        have d2 : (wr.drewN z).cell? ⟨b1, o1 + j, none⟩ = some (.int .i64 (i : Int)) := d1
        by_cases hqn : q < n
        · obtain ⟨r, qb, rfl, k1, k2⟩ := HG.out.rows _ HWz.out i hin
          have k3 := HG.out.c1 _ HWz.out
          have ca := World.rowIs.cell k2 hqn
          have cq := HMz.out.cell hqn
          have q0 : (0 : Int) ≤ q := by omega
          have qn : (q : Int) < n := by omega
          unfold rv at k1
          clear k2 d1
          have HZZ : Hid (∀ y, (wr.drewN z).drewN y = wr.drewN (z + y)) := fun y => by simp [World.drewN, Nat.add_assoc]
          generalize hwz : wr.drewN z = wz at *
          have HWZ := Lib.hid hwz
          clear hwz
          cases ha : A i q with
          | false =>
            have HS : Hid (lstN (A i) (q + 1) = lstN (A i) q) := lstN_no ha
            rw [ha] at ca
            clear ha
            go_wp2
            go_quiet (fail)
            go_wp2
            go_roundg (n - (q + 1))
            case rel => exact ⟨q + 1, by omega, rfl, by go_num, by rw [HS.out], _, HZZ.out _⟩
            case measure => omega
          | true =>
            have HS : Hid (mxL f (lstN (A i) (q + 1)) = max (mxL f (lstN (A i) q)) (f q)) := by unfold Hid; rw [lstN_yes ha, mxL_snoc]
            rw [ha] at ca
            clear ha
            generalize mxL f (lstN (A i) q) = x at *
            generalize f q = y at *
            by_cases hxy : x < y
            · have hd : decide ((x : Int) < (y : Int)) = true := decide_eq_true (by omega)
              go_wp2
              go_quiet (fail)
              go_wp2
              go_roundg (n - (q + 1))
              case rel => exact ⟨q + 1, by omega, rfl, by go_num, by rw [HS.out, Nat.max_eq_right (Nat.le_of_lt hxy)], _, HZZ.out _⟩
              case measure => omega
            · have hd : decide ((x : Int) < (y : Int)) = false := decide_eq_false (by omega)
              go_wp2
              go_quiet (fail)
              go_wp2
              go_roundg (n - (q + 1))
              case rel => exact ⟨q + 1, by omega, rfl, by go_num, by rw [HS.out, Nat.max_eq_left (by omega)], _, HZZ.out _⟩
              case measure => omega
        · have hqn : q = n := by omega
          subst hqn
          have hmx := mxL_le HFB.out (lstN (A i) q)
          have fi := HMz.out.frozen i
          have ci := HMz.out.cell hin
          have HMi := Lib.hid (HMz.out.set i (.int .i64 ((mxL f (lstN (A i) q) : Nat) + 1 : Int)))
          have HM3 : Hid (((wr.drewN z).setCell ⟨B, i, none⟩ (.int .i64 ((mxL f (lstN (A i) q) : Nat) + 1 : Int))).rowIs B 3 q fun k => .int .i64 ((dF A q ((oL A q).take (j + 1)) k : Nat) : Int)) := HMi.out.congr fun k _ => by
            rw [HDS.out]
            show (if k = i then Value.int .i64 ((mxL f (lstN (A i) q) : Nat) + 1 : Int) else Value.int .i64 ((f k : Nat) : Int)) = Value.int .i64 ((dStep A q i f k : Nat) : Int)
            unfold dStep
            by_cases e : k = i
            · rw [if_pos e, if_pos e]; rfl
            · rw [if_neg e, if_neg e]
          have x3 := exc_set (wr.drewN z) B i (.int .i64 ((mxL f (lstN (A i) q) : Nat) + 1 : Int)) 0
          have HR3 : Hid (Rd ((wr.drewN z).setCell ⟨B, i, none⟩ (.int .i64 ((mxL f (lstN (A i) q) : Nat) + 1 : Int))) (some ⟨b1, o1, none⟩) (nl (oL A q))) := Rd.exc (show Rd (wr.drewN z) _ _ from HR.out) x3 fun k o e => by injection e with e; injection e with e _; omega
          have HW3 : Hid (Below B w ((wr.drewN z).setCell ⟨B, i, none⟩ (.int .i64 ((mxL f (lstN (A i) q) : Nat) + 1 : Int)))) := HWz.out.setCell (Nat.le_refl _) _
          have hw : IntKind.i64.wrap (((mxL f (lstN (A i) q) : Nat) : Int) + 1) = ((mxL f (lstN (A i) q) : Nat) : Int) + 1 := IntWalk.i64_in _ (by omega)
          clear HMi x3 HMz HWz d1
          generalize mxL f (lstN (A i) q) = x at *
          generalize wr.drewN z = wz at *
          go_wp2
          go_roundg (ll - (j + 1))
          case rel => exact ⟨j + 1, by omega, rfl, by go_num, HM3.out, HR3.out, HW3.out⟩
          case measure => omega
    · have hjl : j = ll := by omega
      subst hjl
      have HE : Hid (Below w.heap.size w wr) := by unfold Hid; rw [HB.out]; exact HW.out
      have HI : Hid (Is wr w.heap.size (.slice (some ⟨B, 0, none⟩) n n) (dL A n)) := by
        have h1 := HM.out
        rw [← HLL.out, List.take_length] at h1
        rw [HB.out]
        exact dL_is h1 hn
      clear HM HR HW
      go_wp2
      go_ret
      exact ⟨_, rfl, HI.out, HE.out⟩
end Go.Proofs.YtonnopcafmhaaaaDoor

/- Get: the value that some bytes begin with, or what is wrong. -/
import Derived.Test.YtpmdkekjoocplaaGi
import Derived.StillTailTactics
namespace Go.Proofs.Ytpmdkekjoocplaa
open Go.RowKit Typ

theorem value_all : ∀ d : Nat, d ≤ 8 → ValHolds ((9 - d : Nat) : Int) (dec tok d) := by
  intro d
  induction d with
  | zero => intro _; exact value_deep
  | succ d ih =>
    intro h
    rw [show 9 - (d + 1) = 8 - d by omega]
    exact value_next (by omega) (ih (by omega))
/-- what Get answers -/
def getR (M : List Nat) : Except Nat (Val × Nat) := match dec tok 8 M with
  | .error z => .error z
  | .ok (V, k) => if 512 < weight V then .error 3 else .ok (V, k)
abbrev zeroV : Value := vv 0 0 ⟨#[]⟩ (.slice none 0 0) (.slice none 0 0) 0 0 false
def GetPost (M : List Nat) (w : World) (e : Ending) (w' : World) : Prop :=
  Below w.heap.size w w' ∧ match getR M with
    | .error z => e = .returned (.tuple #[zeroV, .int .i64 0, .int .i64 z])
    | .ok (V, k) => ∃ v, e = .returned (.tuple #[v, .int .i64 k, .int .i64 0]) ∧ LiesP (fun b => w.heap.size ≤ b ∧ b < w'.heap.size) w' V v
theorem heap_set8_same {w : World} {k : Nat} {a0 a1 a2 a3 a4 a5 a6 a7 v0 v1 v2 v3 v4 v5 v6 v7 : Value} (h : w.heap[k]? = some (.cells #[a0, a1, a2, a3, a4, a5, a6, a7] 30 (0, 0))) :
    ((((((((w.setCell ⟨k, 0, none⟩ v0).setCell ⟨k, 1, none⟩ v1).setCell ⟨k, 2, none⟩ v2).setCell ⟨k, 3, none⟩ v3).setCell ⟨k, 4, none⟩ v4).setCell ⟨k, 5, none⟩ v5).setCell ⟨k, 6, none⟩ v6).setCell ⟨k, 7, none⟩ v7).heap[k]? = some (.cells #[v0, v1, v2, v3, v4, v5, v6, v7] 30 (0, 0)) := by
  have h0 : (w.setCell ⟨k, 0, none⟩ v0).heap[k]? = some (.cells #[v0, a1, a2, a3, a4, a5, a6, a7] 30 (0, 0)) := (heap_setCell_same _ k 0 _ _ v0 h).trans rfl
  have h1 : ((w.setCell ⟨k, 0, none⟩ v0).setCell ⟨k, 1, none⟩ v1).heap[k]? = some (.cells #[v0, v1, a2, a3, a4, a5, a6, a7] 30 (0, 0)) := (heap_setCell_same _ k 1 _ _ v1 h0).trans rfl
  have h2 : (((w.setCell ⟨k, 0, none⟩ v0).setCell ⟨k, 1, none⟩ v1).setCell ⟨k, 2, none⟩ v2).heap[k]? = some (.cells #[v0, v1, v2, a3, a4, a5, a6, a7] 30 (0, 0)) := (heap_setCell_same _ k 2 _ _ v2 h1).trans rfl
  have h3 : ((((w.setCell ⟨k, 0, none⟩ v0).setCell ⟨k, 1, none⟩ v1).setCell ⟨k, 2, none⟩ v2).setCell ⟨k, 3, none⟩ v3).heap[k]? = some (.cells #[v0, v1, v2, v3, a4, a5, a6, a7] 30 (0, 0)) := (heap_setCell_same _ k 3 _ _ v3 h2).trans rfl
  have h4 : (((((w.setCell ⟨k, 0, none⟩ v0).setCell ⟨k, 1, none⟩ v1).setCell ⟨k, 2, none⟩ v2).setCell ⟨k, 3, none⟩ v3).setCell ⟨k, 4, none⟩ v4).heap[k]? = some (.cells #[v0, v1, v2, v3, v4, a5, a6, a7] 30 (0, 0)) := (heap_setCell_same _ k 4 _ _ v4 h3).trans rfl
  have h5 : ((((((w.setCell ⟨k, 0, none⟩ v0).setCell ⟨k, 1, none⟩ v1).setCell ⟨k, 2, none⟩ v2).setCell ⟨k, 3, none⟩ v3).setCell ⟨k, 4, none⟩ v4).setCell ⟨k, 5, none⟩ v5).heap[k]? = some (.cells #[v0, v1, v2, v3, v4, v5, a6, a7] 30 (0, 0)) := (heap_setCell_same _ k 5 _ _ v5 h4).trans rfl
  have h6 : (((((((w.setCell ⟨k, 0, none⟩ v0).setCell ⟨k, 1, none⟩ v1).setCell ⟨k, 2, none⟩ v2).setCell ⟨k, 3, none⟩ v3).setCell ⟨k, 4, none⟩ v4).setCell ⟨k, 5, none⟩ v5).setCell ⟨k, 6, none⟩ v6).heap[k]? = some (.cells #[v0, v1, v2, v3, v4, v5, v6, a7] 30 (0, 0)) := (heap_setCell_same _ k 6 _ _ v6 h5).trans rfl
  have h7 : ((((((((w.setCell ⟨k, 0, none⟩ v0).setCell ⟨k, 1, none⟩ v1).setCell ⟨k, 2, none⟩ v2).setCell ⟨k, 3, none⟩ v3).setCell ⟨k, 4, none⟩ v4).setCell ⟨k, 5, none⟩ v5).setCell ⟨k, 6, none⟩ v6).setCell ⟨k, 7, none⟩ v7).heap[k]? = some (.cells #[v0, v1, v2, v3, v4, v5, v6, v7] 30 (0, 0)) := (heap_setCell_same _ k 7 _ _ v7 h6).trans rfl
  exact h7
set_option maxHeartbeats 2000000 in
theorem get_any {n : Nat} {o : Option Addr} {cap : Nat} {M : List Nat} {w : World} (B : Bts n w o cap M) (hn : n ≤ w.heap.size) :
    Calls Try.prog 7 #[.slice o M.length cap] w (GetPost M w) := by
  have HV : Hid (ValHolds 1 (dec tok 8)) := value_all 8 (by omega)
  have HB := Lib.hid B
  have l1 := B.row.1
  have l2 := B.row.2.1
  unfold maxLen at l2
  clear B
  have HB1 := Lib.hid (((Below.refl w.heap.size w).alloc (Nat.le_refl _) (.cells zero8 30)).alloc (by simp) (.cells #[.slice o M.length cap, .int .i64 0, .int .i64 0] 43))
  have RW : Hid (Rdr ((w.alloc (.cells zero8 30)).alloc (.cells #[.slice o M.length cap, .int .i64 0, .int .i64 0] 43)) (w.heap.size + 1) o cap M 0 0) := by
    refine ⟨?_, (⟨(HB.out.row.below (HB1.out.mono hn)).mono fun b hb => by omega, HB.out.b, HB.out.sp⟩), Nat.zero_le _, Nat.le_refl _⟩
    have := heap_alloc_new (w.alloc (.cells zero8 30)) (.cells #[.slice o M.length cap, .int .i64 0, .int .i64 0] 43)
    simpa using this
  have CW : Hid (((w.alloc (.cells zero8 30)).alloc (.cells #[.slice o M.length cap, .int .i64 0, .int .i64 0] 43)).heap[w.heap.size]? = some (.cells zero8 30 (0, 0))) :=
    (Below.heap_alloc _ _ _ (by simp)).trans (heap_alloc_new _ _)
  have HZ : Hid (((w.alloc (.cells zero8 30)).alloc (.cells #[.slice o M.length cap, .int .i64 0, .int .i64 0] 43)).heap.size = w.heap.size + 2) := by simp [Hid]
  go_enter Try.func7, Try.ntmps7
  go_wp2_with fail
  generalize World.alloc (World.alloc _ _) _ = W at *
  refine (HV.out _ _ _ _ _ _ _ RW.out).mono ?_
  rintro e w1 ⟨x, wt2, hR, hx, k, i, s, oL, nL, cL, oK, nK, cK, tk, to, m, y, rfl, hm⟩
  have hzs := HZ.out
  have C1 : Hid (w1.heap[w.heap.size]? = some (.cells zero8 30 (0, 0))) := (hx.block _ (by omega) (by intro e; injection e with e; omega)).trans CW.out
  have B1 : Hid (Below w.heap.size w w1) := HB1.out.trans (hx.below (by omega) (fun k hk => by injection hk with hk; omega))
  have HR := Lib.hid (And.intro hR hx)
  obtain ⟨y0, y1, y2, y3, y4, y5, y6, y7, z0, z1, z2, z3, z4, z5, z6, z7, zl⟩ := b8_of C1.out
  clear hR hx
  rw [List.drop_zero] at hm
  have HMM := Lib.hid hm
  clear hm
  have C2 : Hid (_ = some (Obj.cells #[.int .i64 k, .int .i64 i, .string s, .slice oL nL cL, .slice oK nK cK, .int .i64 tk, .int .i64 to, .bool m] 30 (0, 0))) := heap_set8_same (v0 := .int .i64 k) (v1 := .int .i64 i) (v2 := .string s) (v3 := .slice oL nL cL) (v4 := .slice oK nK cK) (v5 := .int .i64 tk) (v6 := .int .i64 to) (v7 := .bool m) C1.out
  have O2 : Hid (∀ b, b ≠ w.heap.size → _ = w1.heap[b]?) := fun b hb => heap_set8 (w := w1) hb (v0 := .int .i64 k) (v1 := .int .i64 i) (v2 := .string s) (v3 := .slice oL nL cL) (v4 := .slice oK nK cK) (v5 := .int .i64 tk) (v6 := .int .i64 to) (v7 := .bool m)
  have B2 := Lib.hid (below_set8 B1.out (Nat.le_refl _) (.int .i64 k) (.int .i64 i) (.string s) (.slice oL nL cL) (.slice oK nK cK) (.int .i64 tk) (.int .i64 to) (.bool m))
  have Z2 : Hid (w1.heap.size ≤ ((((((((w1.setCell ⟨w.heap.size, 0, none⟩ (.int .i64 k)).setCell ⟨w.heap.size, 1, none⟩ (.int .i64 i)).setCell ⟨w.heap.size, 2, none⟩ (.string s)).setCell ⟨w.heap.size, 3, none⟩ (.slice oL nL cL)).setCell ⟨w.heap.size, 4, none⟩ (.slice oK nK cK)).setCell ⟨w.heap.size, 5, none⟩ (.int .i64 tk)).setCell ⟨w.heap.size, 6, none⟩ (.int .i64 to)).setCell ⟨w.heap.size, 7, none⟩ (.bool m)).heap.size) := (below_set8 (Below.refl w.heap.size w1) (Nat.le_refl _) _ _ _ _ _ _ _ _).size
  go_upto_region 3 with fail
  clear y0 y1 y2 y3 y4 y5 y6 y7 z0 z1 z2 z3 z4 z5 z6 z7 zl
  generalize World.setCell (World.setCell (World.setCell (World.setCell (World.setCell (World.setCell (World.setCell (World.setCell w1 _ _) _ _) _ _) _ _) _ _) _ _) _ _) _ _ = w2 at *
  have ROW : w2.heap[w.heap.size + 1]? = some (.cells #[.slice o M.length cap, .int .i64 x, .int .i64 wt2] 43 (0, 0)) := (O2.out _ (by omega)).trans HR.out.1.row
  obtain ⟨q0, q1, q2, q3, q4, q5⟩ := rc_of ROW
  obtain ⟨y0, y1, y2, y3, y4, y5, y6, y7, z0, z1, z2, z3, z4, z5, z6, z7, zl⟩ := b8_of C2.out
  clear ROW
  have hm := HMM.out
  cases hd : dec tok 8 M with
  | error z =>
    rw [hd] at hm
    obtain ⟨rfl, hz⟩ := hm
    have hz0 : ((z : Int) == 0) = false := by rw [beq_eq_false_iff_ne]; omega
    have hz1 : ((z : Int) != 0) = true := by rw [bne_iff_ne]; omega
    have HQ : Hid (getR M = .error z) := by unfold Hid getR; rw [hd]
    clear hd HMM
    go_wp2_with fail
    refine bodyPost_ret (v := .tuple #[zeroV, .int .i64 0, .int .i64 z]) (by simp [results, Try.results7, go_sem, y0, y1, y2, y3, y4, y5, y6, y7]) rfl ?_
    unfold GetPost
    rw [HQ.out]
    exact ⟨below_set8 B2.out (Nat.le_refl _) _ _ _ _ _ _ _ _, rfl⟩
  | ok p =>
    obtain ⟨V, u⟩ := p
    rw [hd] at hm
    obtain ⟨rfl, rfl, rfl, V', hl, hs⟩ := hm
    by_cases hw : 512 < weight V
    · have HQ : Hid (getR M = .error 3) := by unfold Hid getR; rw [hd]; simp only; rw [if_pos hw]
      clear hd hl hs HMM
      go_wp2_with fail
      refine bodyPost_ret (v := .tuple #[zeroV, .int .i64 0, .int .i64 3]) (by simp [results, Try.results7, go_sem, y0, y1, y2, y3, y4, y5, y6, y7]) rfl ?_
      unfold GetPost
      rw [HQ.out]
      exact ⟨below_set8 B2.out (Nat.le_refl _) _ _ _ _ _ _ _ _, rfl⟩
    · have HQ : Hid (getR M = .ok (V, u)) := by unfold Hid getR; rw [hd]; simp only; rw [if_neg hw]
      have HL : Hid (LiesP (fun b => w.heap.size ≤ b ∧ b < w2.heap.size ∧ b ≠ w.heap.size) w2 V (vv k i s (.slice oL nL cL) (.slice oK nK cK) tk to m)) := by
        rw [← hs (by omega)]
        exact hl.keptP fun b ⟨h1, h2⟩ => ⟨⟨by omega, by have := Z2.out; omega, by omega⟩, O2.out b (by omega)⟩
      clear hd hl hs HMM
      go_wp2_with fail
      go_region
      go_wp2_with fail
      refine bodyPost_ret (v := .tuple #[vv k i s (.slice oL nL cL) (.slice oK nK cK) tk to m, .int .i64 u, .int .i64 0]) (by simp [results, Try.results7, go_sem, y0, y1, y2, y3, y4, y5, y6, y7]) rfl ?_
      unfold GetPost
      rw [HQ.out]
      have B3 := Lib.hid (below_set8 B2.out (Nat.le_refl _) (.int .i64 k) (.int .i64 i) (.string s) (.slice oL nL cL) (.slice oK nK cK) (.int .i64 tk) (.int .i64 to) (.bool m))
      have O3 : Hid (∀ b, b ≠ w.heap.size → _ = w2.heap[b]?) := fun b hb => heap_set8 (w := w2) hb (v0 := .int .i64 k) (v1 := .int .i64 i) (v2 := .string s) (v3 := .slice oL nL cL) (v4 := .slice oK nK cK) (v5 := .int .i64 tk) (v6 := .int .i64 to) (v7 := .bool m)
      have Z3 := Lib.hid (below_set8 (Below.refl w.heap.size w2) (Nat.le_refl _) (.int .i64 k) (.int .i64 i) (.string s) (.slice oL nL cL) (.slice oK nK cK) (.int .i64 tk) (.int .i64 to) (.bool m)).size
      generalize World.setCell (World.setCell (World.setCell (World.setCell (World.setCell (World.setCell (World.setCell (World.setCell w2 _ _) _ _) _ _) _ _) _ _) _ _) _ _) _ _ = w3 at *
      refine ⟨Below.drew B3.out, _, rfl, ?_⟩
      exact HL.out.keptP fun b ⟨h1, h2, h3⟩ => ⟨⟨h1, Nat.lt_of_lt_of_le h2 Z3.out⟩, O3.out b h3⟩
end Go.Proofs.Ytpmdkekjoocplaa

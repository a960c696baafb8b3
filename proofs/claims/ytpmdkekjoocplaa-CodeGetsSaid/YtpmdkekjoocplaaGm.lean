/- The reference's get. -/
import Derived.Test.YtpmdkekjoocplaaGl
import Derived.Test.YtpmdkekjoocplaaGj
namespace Go.Proofs.Ytpmdkekjoocplaa
open Go.RowKit Typ

theorem gstr_len {b : List Nat} {m : Nat} {s : ByteArray} {k : Nat} (h : gstr b m = .ok (s, k)) : k ≤ b.length := by
  unfold gstr at h
  split at h
  · cases h
  · rename_i n k' hk
    have := (gs_ok hk).1
    split at h
    · cases h
    · split at h
      · cases h
      · simp only [Except.ok.injEq, Prod.mk.injEq] at h
        omega
theorem gstr_pos {b : List Nat} {m : Nat} {s : ByteArray} {k : Nat} (h : gstr b m = .ok (s, k)) : 0 < k := by
  unfold gstr at h
  split at h
  · cases h
  · rename_i n k' hk
    have := (gs_ok hk).2
    split at h
    · cases h
    · split at h
      · cases h
      · simp only [Except.ok.injEq, Prod.mk.injEq] at h
        omega
theorem Bts.cutE {n : Nat} {w : World} {b off cap : Nat} {M : List Nat} (h : Bts n w (some ⟨b, off, none⟩) cap M) {j : Nat} (hj : j ≤ M.length) (hc : cap = j) : Bts n w (some ⟨b, off, none⟩) 0 (M.drop j) := by
  have := h.cut hj
  rw [if_pos hc, hc, Nat.sub_self] at this
  exact this
def RPost (r : Except Nat (Val × Nat)) (L at' : Nat) (w : World) (e : Ending) (w' : World) : Prop :=
  Below w.heap.size w w' ∧ ∃ k i s oL nL cL oK nK cK tk to m a b, e = .returned (.tuple #[vv k i s (.slice oL nL cL) (.slice oK nK cK) tk to m, .int .i64 a, .int .i64 b]) ∧
    match r with
    | .error z => b = z ∧ 0 < z
    | .ok (V, u) => b = 0 ∧ a = ((at' + u : Nat) : Int) ∧ at' + u ≤ L ∧ LiesP (fun b => w.heap.size ≤ b ∧ b < w'.heap.size) w' V (vv k i s (.slice oL nL cL) (.slice oK nK cK) tk to m)
def RHolds (D : Int) (f : List Nat → Except Nat (Val × Nat)) : Prop :=
  ∀ (n : Nat) (o : Option Addr) (cap : Nat) (M : List Nat) (at' : Nat) (w : World), Bts n w o cap M → n ≤ w.heap.size → at' ≤ M.length → Calls Try.prog 16 #[.slice o M.length cap, .int .i64 at', .int .i64 D] w (RPost (f (M.drop at')) M.length at' w)
theorem rp_err {r : Except Nat (Val × Nat)} {L at' : Nat} {w w' : World} {e : Ending} {z : Nat} (h : r = .error z) (hz : 0 < z) (hb : Below w.heap.size w w') (he : e = .returned (.tuple #[zeroV, .int .i64 0, .int .i64 z])) : RPost r L at' w e w' := by
  refine ⟨hb, 0, 0, ⟨#[]⟩, none, 0, 0, none, 0, 0, 0, 0, false, 0, z, he, ?_⟩
  rw [h]; exact ⟨rfl, hz⟩
theorem rp_ok {r : Except Nat (Val × Nat)} {L at' u : Nat} {V : Val} {w w' : World} {e : Ending} {k i : Int} {s : ByteArray} {oL oK : Option Addr} {nL nK cL cK : Nat} {tk to a : Int} {m : Bool} (h : r = .ok (V, u)) (hb : Below w.heap.size w w') (ha : a = ((at' + u : Nat) : Int)) (hu : at' + u ≤ L)
    (hl : LiesP (fun b => w.heap.size ≤ b ∧ b < w'.heap.size) w' V (vv k i s (.slice oL nL cL) (.slice oK nK cK) tk to m)) (he : e = .returned (.tuple #[vv k i s (.slice oL nL cL) (.slice oK nK cK) tk to m, .int .i64 a, .int .i64 0])) : RPost r L at' w e w' := by
  refine ⟨hb, k, i, s, oL, nL, cL, oK, nK, cK, tk, to, m, a, 0, he, ?_⟩
  rw [h]; exact ⟨rfl, ha, hu, hl⟩
set_option maxRecDepth 100000 in
set_option maxHeartbeats 2000000 in
theorem rget_deep : RHolds 9 (dec tok 0) := by
  intro n o cap M at' w B hn hle
  have HB0 := Lib.hid (((Below.refl w.heap.size w).alloc (Nat.le_refl _) (.cells zero8 30)).alloc (by simp) (.cells zero8 30))
  have C0 : Hid (((w.alloc (.cells zero8 30)).alloc (.cells zero8 30)).heap[w.heap.size]? = some (.cells zero8 30 (0, 0))) := (Below.heap_alloc _ _ _ (by simp)).trans (heap_alloc_new _ _)
  have C1 : Hid (((w.alloc (.cells zero8 30)).alloc (.cells zero8 30)).heap[w.heap.size + 1]? = some (.cells zero8 30 (0, 0))) := by
    have := heap_alloc_new (w.alloc (.cells zero8 30)) (.cells zero8 30)
    simpa [Hid] using this
  clear B
  go_enter Try.func16, Try.ntmps16
  go_upto_region 2 with fail
  generalize World.alloc (World.alloc _ _) _ = W at *
  obtain ⟨y0, y1, y2, y3, y4, y5, y6, y7, z0, z1, z2, z3, z4, z5, z6, z7, zl⟩ := b8_of C0.out
  obtain ⟨p0, p1, p2, p3, p4, p5, p6, p7, t0, t1, t2, t3, t4, t5, t6, t7, tl⟩ := b8_of C1.out
  go_wp2_with fail
  refine bodyPost_ret (v := .tuple #[zeroV, .int .i64 0, .int .i64 12]) (by simp [results, Try.results16, go_sem, y0, y1, y2, y3, y4, y5, y6, y7]) rfl ?_
  exact rp_err (z := 12) rfl (by omega) (below_set8 HB0.out (Nat.le_refl _) _ _ _ _ _ _ _ _) rfl
end Go.Proofs.Ytpmdkekjoocplaa

/- The reader of package code: short. -/
import Derived.Test.YtakoghdkllfhlaaDoorRb
import Derived.Laws.Rows
namespace Go.Proofs.YtakoghdkllfhlaaDoor
open Go.RowKit Go.Lib

structure Exc (cb : Option Nat) (w w' : World) : Prop where
  os : w'.os = w.os
  tape : w'.tape = w.tape
  output : w'.output = w.output
  size : w.heap.size ≤ w'.heap.size
  block : ∀ k, k < w.heap.size → cb ≠ some k → w'.heap[k]? = w.heap[k]?
theorem Exc.refl (cb : Option Nat) (w : World) : Exc cb w w := ⟨rfl, rfl, rfl, Nat.le_refl _, fun _ _ _ => rfl⟩
theorem Exc.trans {cb : Option Nat} {a b c : World} (h : Exc cb a b) (k : Exc cb b c) : Exc cb a c :=
  ⟨k.os.trans h.os, k.tape.trans h.tape, k.output.trans h.output, Nat.le_trans h.size k.size, fun i hi hc => (k.block i (Nat.lt_of_lt_of_le hi h.size) hc).trans (h.block i hi hc)⟩
theorem Exc.of_below {cb : Option Nat} {a b : World} (h : Below a.heap.size a b) : Exc cb a b := ⟨h.os, h.tape, h.output, h.size, fun k hk _ => h.block k hk⟩
theorem Exc.below {cb : Option Nat} {a b : World} {n : Nat} (h : Exc cb a b) (hn : n ≤ a.heap.size) (hc : ∀ k, cb = some k → n ≤ k) : Below n a b :=
  ⟨h.os, h.tape, h.output, h.size, fun k hk => h.block k (by omega) fun e => by have := hc k e; omega⟩
theorem Exc.cell {cb : Option Nat} {w w' : World} (h : Exc cb w w') {b o : Nat} (hb : b < w.heap.size) (hc : cb ≠ some b) : w'.cell? ⟨b, o, none⟩ = w.cell? ⟨b, o, none⟩ := World.cell?_of_block (w := w) (h.block b hb hc)
/-- a reader in block rb, at a place, behind so many values -/
structure Rdr (w : World) (rb : Nat) (o : Option Addr) (cap : Nat) (M : List Nat) (at' wt : Nat) : Prop where
  row : w.heap[rb]? = some (.cells #[.slice o M.length cap, .int .i64 at', .int .i64 wt] 141 (0, 0))
  B : Bts rb w o cap M
  le : at' ≤ M.length
  wle : wt ≤ at'
theorem Rdr.lt {w : World} {rb : Nat} {o : Option Addr} {cap : Nat} {M : List Nat} {at' wt : Nat} (h : Rdr w rb o cap M at' wt) : rb < w.heap.size := (Array.getElem?_eq_some_iff.1 h.row).1
theorem Rdr.kept {w w' : World} {rb : Nat} {o : Option Addr} {cap : Nat} {M : List Nat} {at' wt m : Nat} (h : Rdr w rb o cap M at' wt) (hb : Below m w w') (hm : rb < m) : Rdr w' rb o cap M at' wt :=
  ⟨(hb.block rb hm).trans h.row, h.B.kept (hb.mono (by omega)), h.le, h.wle⟩
/-- what a walk asks of it -/
structure RC (w : World) (rb : Nat) (S : Value) (x y : Int) : Prop where
  c0 : w.cell? ⟨rb, 0, none⟩ = some S
  c1 : w.cell? ⟨rb, 1, none⟩ = some (.int .i64 x)
  c2 : w.cell? ⟨rb, 2, none⟩ = some (.int .i64 y)
  f1 : w.frozen? ⟨rb, 1, none⟩ = false
  f2 : w.frozen? ⟨rb, 2, none⟩ = false
  lt : rb < w.heap.size
theorem rc_of {w : World} {rb : Nat} {S : Value} {x y : Int} (h : w.heap[rb]? = some (.cells #[S, .int .i64 x, .int .i64 y] 141 (0, 0))) : RC w rb S x y :=
  ⟨cell_of_row w rb 0 _ _ _ h, cell_of_row w rb 1 _ _ _ h, cell_of_row w rb 2 _ _ _ h, frozen_of_row w rb 1 _ _ h, frozen_of_row w rb 2 _ _ h, (Array.getElem?_eq_some_iff.1 h).1⟩
theorem Rdr.rc {w : World} {rb : Nat} {o : Option Addr} {cap : Nat} {M : List Nat} {at' wt : Nat} (h : Rdr w rb o cap M at' wt) : RC w rb (.slice o M.length cap) at' wt := rc_of h.row
/-- all that is behind a place -/
theorem Bts.drop {n : Nat} {w : World} {b off cap : Nat} {M : List Nat} (h : Bts n w (some ⟨b, off, none⟩) cap M) {j : Nat} (hj : j ≤ M.length) : Bts n w (some ⟨b, off + j, none⟩) (cap - j) (M.drop j) := by
  obtain ⟨h1, h2, h3, h4⟩ := h.row
  refine ⟨⟨by rw [List.length_drop]; omega, by omega, (fun e => by cases e), fun h0 => ?_⟩, fun c hc => h.b c (List.mem_of_mem_drop hc), fun a e => by injection e with e; rw [← e]⟩
  rw [List.length_drop] at h0
  obtain ⟨b', off', e, hb, hc⟩ := h4 (by omega)
  injection e with e
  injection e with e1 e2
  subst e1 e2
  refine ⟨b, off + j, rfl, hb, fun i hi m hm => ?_⟩
  rw [List.length_drop] at hi
  have := hc (j + i) (by omega) m hm
  obtain rfl : m = 0 := by omega
  rw [show off + (j + i) * 1 + 0 = off + j + i * 1 + 0 by omega] at this
  rw [this]
  simp only [bf]
  rw [List.getD_eq_getElem?_getD, List.getD_eq_getElem?_getD, List.getElem?_drop]
theorem Bts.cut {n : Nat} {w : World} {b off cap : Nat} {M : List Nat} (h : Bts n w (some ⟨b, off, none⟩) cap M) {j : Nat} (hj : j ≤ M.length) : Bts n w (if cap = j then some ⟨b, off, none⟩ else some ⟨b, off + j, none⟩) (cap - j) (M.drop j) := by
  by_cases hc : cap = j
  · have l1 := h.row.1
    rw [if_pos hc, List.drop_eq_nil_of_le (by omega)]
    exact ⟨⟨Nat.zero_le _, (by have := h.row.2.1; omega), (fun e => by cases e), fun h0 => absurd h0 (Nat.lt_irrefl _)⟩, (fun c hc => by cases hc), fun a e => by injection e with e; rw [← e]⟩
  · rw [if_neg hc]; exact h.drop hj
theorem Bts.nil {n : Nat} {w : World} {cap : Nat} {M : List Nat} (h : Bts n w none cap M) : cap = 0 ∧ M = [] := by
  have h0 := h.row.2.2.1 rfl
  have h1 := h.row.1
  exact ⟨h0, List.eq_nil_of_length_eq_zero (by omega)⟩
theorem exc_set {w : World} {rb j : Nat} {v : Value} : Exc (some rb) w (w.setCell ⟨rb, j, none⟩ v) := by
  have hb : Below rb w (w.setCell ⟨rb, j, none⟩ v) := Below.setCell (Below.refl rb w) (p := ⟨rb, j, none⟩) (Nat.le_refl rb) v
  exact ⟨hb.os, hb.tape, hb.output, hb.size, fun k hk hc => heap_setCell_other w _ k v fun e => hc (by rw [e])⟩
theorem Rdr.set1 {w : World} {rb : Nat} {o : Option Addr} {cap : Nat} {M : List Nat} {at' wt x : Nat} (h : Rdr w rb o cap M at' wt) (hx : x ≤ M.length) (hw : wt ≤ x) {v : Value} (hv : v = .int .i64 x) : Rdr (w.setCell ⟨rb, 1, none⟩ v) rb o cap M x wt := by
  subst hv
  exact ⟨(heap_setCell_same w rb 1 _ _ _ h.row).trans rfl, h.B.kept (Below.setCell (Below.refl rb w) (p := ⟨rb, 1, none⟩) (Nat.le_refl rb) _), hx, hw⟩
theorem Rdr.set2 {w : World} {rb : Nat} {o : Option Addr} {cap : Nat} {M : List Nat} {at' wt x : Nat} (h : Rdr w rb o cap M at' wt) (hw : x ≤ at') {v : Value} (hv : v = .int .i64 x) : Rdr (w.setCell ⟨rb, 2, none⟩ v) rb o cap M at' x := by
  subst hv
  exact ⟨(heap_setCell_same w rb 2 _ _ _ h.row).trans rfl, h.B.kept (Below.setCell (Below.refl rb w) (p := ⟨rb, 2, none⟩) (Nat.le_refl rb) _), h.le, hw⟩
/-- what a reader's call leaves -/
structure Rd (w : World) (rb : Nat) (o : Option Addr) (cap : Nat) (M : List Nat) (at' wt : Nat) (w' : World) : Prop where
  r : Rdr w' rb o cap M at' wt
  x : Exc (some rb) w w'
/-- a short form, as the reader answers -/
def shV (r : Except Nat (Nat × Nat)) : Ending := match r with
  | .ok (n, _) => .returned (.tuple #[.int .u64 n, .int .i64 0])
  | .error e => .returned (.tuple #[.int .u64 0, .int .i64 e])
/-- how many bytes were read -/
def used (r : Except Nat (Nat × Nat)) : Nat := match r with
  | .ok (_, k) => k
  | .error _ => 0
set_option maxHeartbeats 1000000 in
theorem short_any {rb : Nat} {o : Option Addr} {cap : Nat} {M : List Nat} {at' wt : Nat} {w : World} (R : Rdr w rb o cap M at' wt) :
    Calls Tryd.prog 134 #[.pointer (some ⟨rb, 0, none⟩)] w fun e w' => e = shV (gs 0 (M.drop at')) ∧ Rd w rb o cap M (at' + used (gs 0 (M.drop at'))) wt w' := by
  have H := Lib.hid R
  have l1 := R.B.row.1
  have l2 := R.B.row.2.1
  have le := R.le
  unfold maxLen at l2
  obtain ⟨x0, x1, x2, x3, x4, x5⟩ := H.out.rc
  clear R
  have S : ∀ (o' : Option Addr) (cap' : Nat) w, Bts rb w o' cap' (M.drop at') → Calls Tryd.prog 82 #[.slice o' (M.drop at').length cap'] w fun e w' => e = gsV (gs 0 (M.drop at')) ∧ ∃ m, w' = w.drewN m := fun o' cap' w B => getShort_any B
  have hlen : (M.drop at').length = M.length - at' := List.length_drop
  rw [hlen] at S
  have K : ∀ (q k : Nat), at' + k ≤ M.length → ∀ v, v = Value.int .i64 ((at' + k : Nat) : Int) → Rd w rb o cap M (at' + k) wt ((w.drewN q).setCell ⟨rb, 1, none⟩ v) := fun q k hk v hv =>
    ⟨(H.out.kept (below_drewN (Below.refl (rb + 1) w) q) (Nat.lt_succ_self _)).set1 hk (by have := H.out.wle; omega) hv, (Exc.of_below (below_drewN (Below.refl _ w) q)).trans exc_set⟩
  have HK := Lib.hid K
  clear K
  cases o with
  | none =>
    obtain ⟨rfl, rfl⟩ := H.out.B.nil
    obtain rfl : at' = 0 := by simpa using le
    rw [show gs 0 (([] : List Nat).drop 0) = .error 2 from rfl] at S ⊢
    have HS := Lib.hid (S none 0)
    clear S
    go_enter Tryd.func134, Tryd.ntmps134
    go_wp2_with fail
    go_quiet (first | (go_at_call 82; refine Calls.quiet_of (HS.out _ ?_); exact (H.out.B.kept (below_drewN (Below.refl rb w) _))))
    go_wp2_with fail
    all_goals
      go_ret2
      exact ⟨rfl, HK.out _ 0 (Nat.le_refl _) _ rfl⟩
  | some a =>
    have hsp := H.out.B.sp a rfl
    obtain ⟨b, off, spot⟩ := a
    simp only at hsp
    subst hsp
    cases hg : gs 0 (M.drop at') with
    | error e =>
      rw [hg] at S
      have HS := Lib.hid S
      clear S hg
      go_enter Tryd.func134, Tryd.ntmps134
      go_wp2_with fail
      go_quiet (first | (go_at_call 82; refine Calls.quiet_of (HS.out _ _ _ ?_); exact (H.out.B.kept (below_drewN (Below.refl rb w) _)).cut le))
      go_wp2_with fail
      all_goals
        go_ret2
        first
          | exact ⟨rfl, HK.out _ 0 le _ rfl⟩
          | (have hh : cap = at' := by assumption
             subst hh
             exact ⟨rfl, HK.out _ 0 le _ rfl⟩)
    | ok p =>
      obtain ⟨m, k⟩ := p
      have hk := (gs_ok hg).1
      rw [hlen] at hk
      rw [hg] at S
      have HS := Lib.hid S
      clear S hg
      go_enter Tryd.func134, Tryd.ntmps134
      go_wp2_with fail
      go_quiet (first | (go_at_call 82; refine Calls.quiet_of (HS.out _ _ _ ?_); exact (H.out.B.kept (below_drewN (Below.refl rb w) _)).cut le))
      go_wp2_with fail
      all_goals
        go_ret2
        first
          | exact ⟨rfl, HK.out _ k (by omega) _ rfl⟩
          | (have hh : cap = at' := by assumption
             subst hh
             exact ⟨rfl, HK.out _ k (by omega) _ rfl⟩)
theorem gs_bd {M : List Nat} (hM : ∀ c, c ∈ M → c < 256) : ∀ (i n k : Nat), i ≤ 9 → gs i M = .ok (n, k) → n * 128 ^ i < 2 ^ 64 := by
  induction M with
  | nil => intro i n k _ h; simp [gs] at h
  | cons c r ih =>
    intro i n k hi h
    rw [gs] at h
    split at h
    · cases h
    · rename_i h9
      split at h
      · rename_i h1
        split at h
        · cases h
        · simp only [Except.ok.injEq, Prod.mk.injEq] at h
          obtain ⟨rfl, _⟩ := h
          rw [Nat.mul_comm]
          exact pow128_64 hi h9 h1
      · rename_i h1
        split at h
        · rename_i n' k' hk
          simp only [Except.ok.injEq, Prod.mk.injEq] at h
          obtain ⟨rfl, _⟩ := h
          have hc := hM c (by simp)
          by_cases hi9 : i = 9
          · omega
          have := ih (fun x hx => hM x (by simp [hx])) (i + 1) n' k' (by omega) hk
          have e8 : 128 ^ (i + 1) * (2 ^ 64 / 128 ^ (i + 1)) = 2 ^ 64 := by
            have : i = 0 ∨ i = 1 ∨ i = 2 ∨ i = 3 ∨ i = 4 ∨ i = 5 ∨ i = 6 ∨ i = 7 ∨ i = 8 := by omega
            rcases this with rfl | rfl | rfl | rfl | rfl | rfl | rfl | rfl | rfl <;> decide
          obtain ⟨q, hq⟩ : ∃ q, 128 ^ (i + 1) * q = 2 ^ 64 := ⟨_, e8⟩
          clear e8
          have h5 : n' < q := by
            have h4 : 128 ^ (i + 1) * n' < 128 ^ (i + 1) * q := by rw [hq, Nat.mul_comm]; exact this
            exact Nat.lt_of_mul_lt_mul_left h4
          have h6 : 128 ^ (i + 1) * (n' + 1) ≤ 2 ^ 64 := by rw [← hq]; exact Nat.mul_le_mul_left _ h5
          have h7 : (c - 128) * 128 ^ i ≤ 127 * 128 ^ i := Nat.mul_le_mul_right _ (by omega)
          have h8 : 128 * n' * 128 ^ i = 128 ^ (i + 1) * n' := by rw [Nat.pow_succ]; ac_rfl
          have h9 : 0 < 128 ^ i := Nat.pow_pos (by omega)
          rw [Nat.mul_add, Nat.mul_one] at h6
          rw [Nat.add_mul, h8]
          rw [Nat.pow_succ] at h6 ⊢
          generalize 128 ^ i * 128 * n' = A at *
          generalize 128 ^ i = B at *
          generalize (c - 128) * B = C at *
          omega
        · cases h
end Go.Proofs.YtakoghdkllfhlaaDoor

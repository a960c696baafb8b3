/- Contracts: less, take. -/
import Derived.Test.YtonnopcafmhaaaaDoorC1
namespace Go.Proofs.YtonnopcafmhaaaaDoor
open Go.RowKit

/-- a set as a value -/
noncomputable def sv (S : Nat → Bool) : Value := .agg #[.int .u64 (wd S 0 : Int), .int .u64 (wd S 1 : Int)]
theorem st_new (w : World) (S : Nat → Bool) : St (w.alloc (.cells #[.int .u64 (wd S 0 : Int), .int .u64 (wd S 1 : Int)] 49)) w.heap.size S :=
  World.rowIs_alloc w #[.int .u64 (wd S 0 : Int), .int .u64 (wd S 1 : Int)] 49 (sc S) fun i hi => by
    have : i = 0 ∨ i = 1 := by simp at hi; omega
    rcases this with rfl | rfl <;> rfl
theorem st_nil (w : World) : St (w.alloc (.cells #[.int .u64 0, .int .u64 0] 49)) w.heap.size fun _ => false := by
  have := st_new w fun _ => false
  rw [wd_nil, wd_nil] at this
  exact this
theorem st_two {w : World} {g : Nat} {S : Nat → Bool} (h : St w g S) : w.cell? ⟨g, 0, none⟩ = some (.int .u64 (wd S 0 : Int)) ∧ w.cell? ⟨g, 1, none⟩ = some (.int .u64 (wd S 1 : Int)) :=
  ⟨h.cell (i := 0) (by omega), h.cell (i := 1) (by omega)⟩
theorem st_blk {w : World} {g : Nat} {S : Nat → Bool} (h : St w g S) : w.heap[g]? = some (.cells #[.int .u64 (wd S 0 : Int), .int .u64 (wd S 1 : Int)] 49 (0, 0)) := by
  obtain ⟨c, hb, hn, hc⟩ := h
  have : c = #[.int .u64 (wd S 0 : Int), .int .u64 (wd S 1 : Int)] := by
    apply Array.ext_getElem?
    intro i
    by_cases h : i < 2
    · have : i = 0 ∨ i = 1 := by omega
      rcases this with rfl | rfl
      · rw [hc 0 (by omega)]; rfl
      · rw [hc 1 (by omega)]; rfl
    · rw [Array.getElem?_eq_none (by omega), Array.getElem?_eq_none (by simp; omega)]
  rw [hb, this]
/-- so far the difference -/
noncomputable def half (S T : Nat → Bool) (k j : Nat) : Value := if j < k then sc T j else sc S j
set_option maxHeartbeats 2000000 in
theorem less_any (S T : Nat → Bool) (w : World) :
    Calls Tryd.prog 32 #[sv S, sv T] w fun e w' => e = .returned (sv (dif S T)) ∧ Below w.heap.size w w' := by
  have R0 := Lib.hid (((st_new w S).alloc (.cells #[.int .u64 (wd T 0 : Int), .int .u64 (wd T 1 : Int)] 49)).alloc (.cells #[.int .u64 0, .int .u64 0] 49))
  have R1 := Lib.hid ((st_new (w.alloc (.cells #[.int .u64 (wd S 0 : Int), .int .u64 (wd S 1 : Int)] 49)) T).alloc (.cells #[.int .u64 0, .int .u64 0] 49))
  have R2 := Lib.hid (st_nil ((w.alloc (.cells #[.int .u64 (wd S 0 : Int), .int .u64 (wd S 1 : Int)] 49)).alloc (.cells #[.int .u64 (wd T 0 : Int), .int .u64 (wd T 1 : Int)] 49)))
  have HB : Hid (Below w.heap.size w (((w.alloc (.cells #[.int .u64 (wd S 0 : Int), .int .u64 (wd S 1 : Int)] 49)).alloc (.cells #[.int .u64 (wd T 0 : Int), .int .u64 (wd T 1 : Int)] 49)).alloc (.cells #[.int .u64 0, .int .u64 0] 49))) :=
    (((Below.refl _ w).alloc (Nat.le_refl _) _).alloc (by simp) _).alloc (by simp; omega) _
  simp only [Go.Deep.nblk_alloc] at R0 R1 R2
  unfold sv
  generalize hx0 : (wd S 0 : Int) = x0 at *
  generalize hx1 : (wd S 1 : Int) = x1 at *
  generalize hy0 : (wd T 0 : Int) = y0 at *
  generalize hy1 : (wd T 1 : Int) = y1 at *
  clear hx0 hx1 hy0 hy1
  go_enter Tryd.func32, Tryd.ntmps32
  go_wp2
  go_loopw [6] (fun c wr => ∃ k : Nat, k ≤ 2 ∧ c = .int .i64 k ∧ Hid (wr.rowIs w.heap.size 49 2 (half S (dif S T) k)) ∧ Hid (St wr (w.heap.size + 1) T) ∧ Hid (St wr (w.heap.size + 1 + 1) fun _ => false) ∧ Hid (Below w.heap.size w wr)) (fun c _ => 2 - (intOf c).toNat)
  case atStart => exact ⟨0, by omega, rfl, R0.out.congr fun i _ => by simp [half], R1.out, R2.out, HB.out⟩
  case round =>
    clear R0 R1 R2 HB
    obtain ⟨k, hk, rfl, R0, R1, R2, HB⟩ := hrel
    by_cases hlt : k < 2
    · have c0 := R0.out.cell hlt
      have f0 := R0.out.frozen k
      have c1 := R1.out.cell hlt
      have E := wd_not S T k
      have e0 : half S (dif S T) k k = sc S k := by simp [half]
      rw [e0] at c0
      clear e0
      unfold sc at c0 c1
      have k2 : (k : Int) < 2 := by omega
      have k0 : (0 : Int) ≤ k := by omega
      have EN : Hid (∀ j, j < 2 → (if j = k then Value.int .u64 (wd (dif S T) k : Int) else half S (dif S T) k j) = half S (dif S T) (k + 1) j) := fun j _ => by
        unfold half
        by_cases e : j = k
        · subst e; rw [if_pos rfl, if_pos (by omega)]; rfl
        · rw [if_neg e]
          by_cases h : j < k
          · rw [if_pos h, if_pos (by omega)]
          · rw [if_neg h, if_neg (by omega)]
      generalize ((wd (dif S T) k : Nat) : Int) = z at *
      generalize ((wd S k : Nat) : Int) = x at *
      generalize ((wd T k : Nat) : Int) = y at *
      go_wp2
      go_still_tail 8, (by kernel_rfl)
      go_wp2
      go_roundw
      case rel => exact ⟨k + 1, by omega, by go_num, (R0.out.set k _).congr EN.out, R1.out.setOther (by simp) _, R2.out.setOther (by simp; omega) _, HB.out.drew.setCell (by simp) _⟩
      case measure => simp [intOf]; omega
    · have hk2 : k = 2 := by omega
      subst hk2
      have R0 : Hid (St wr w.heap.size (dif S T)) := R0.out.congr fun i hi => by unfold half; rw [if_pos hi]
      obtain ⟨a0, a1⟩ := st_two R0.out
      obtain ⟨b0, b1⟩ := st_two R2.out
      rw [wd_nil] at b0 b1
      have f0 := R2.out.frozen 0
      have f1 := R2.out.frozen 1
      have HB2 : Hid (Below w.heap.size w ((wr.setCell ⟨w.heap.size + 1 + 1, 0, none⟩ (.int .u64 (wd (dif S T) 0 : Int))).setCell ⟨w.heap.size + 1 + 1, 1, none⟩ (.int .u64 (wd (dif S T) 1 : Int)))) := (HB.out.setCell (by simp; omega) _).setCell (by simp; omega) _
      have HS : Hid (St ((wr.setCell ⟨w.heap.size + 1 + 1, 0, none⟩ (.int .u64 (wd (dif S T) 0 : Int))).setCell ⟨w.heap.size + 1 + 1, 1, none⟩ (.int .u64 (wd (dif S T) 1 : Int))) (w.heap.size + 1 + 1) (dif S T)) :=
        ((R2.out.set 0 _).set 1 _).congr fun i hi => by
          have : i = 0 ∨ i = 1 := by omega
          rcases this with rfl | rfl <;> rfl
      clear R0 R1 R2 HB
      go_wp2
      exact bodyPost_ret (v := sv (dif S T)) (results_cell_row rfl _ _ (w.heap.size + 1 + 1) 49 _ (0, 0) _ rfl (st_blk HS.out) Tryd.underlying49 rfl (by kernel_rfl)) rfl ⟨rfl, HB2.out⟩

set_option maxHeartbeats 2000000 in
theorem take_raw (g o n : Nat) (T : TypeId) (f : Nat → Value) (S U : Nat → Bool) (w : World) (h : w.rowIs g T n f) (ho : o + 2 ≤ n) (hf : ∀ k, k < 2 → f (o + k) = sc S k) :
    Calls Tryd.prog 33 #[.pointer (some ⟨g, o, none⟩), sv U] w fun e w' => e = .returned (.tuple #[]) ∧ Hid (w'.rowIs g T n fun j => if o ≤ j ∧ j < o + 2 then sc (uni S U) (j - o) else f j) ∧ Exc (some g) w w' := by
  have R0 := Lib.hid (h.alloc (.cells #[.int .u64 (wd U 0 : Int), .int .u64 (wd U 1 : Int)] 49))
  have R1 := Lib.hid (st_new w U)
  have HB : Hid (Exc (some g) w (w.alloc (.cells #[.int .u64 (wd U 0 : Int), .int .u64 (wd U 1 : Int)] 49))) := Exc.of_below ((Below.refl _ w).alloc (Nat.le_refl _) _)
  have hg := h.lt
  have HF := Lib.hid hf
  unfold sv
  generalize hy0 : (wd U 0 : Int) = y0 at *
  generalize hy1 : (wd U 1 : Int) = y1 at *
  clear hy0 hy1 h hf
  go_enter Tryd.func33, Tryd.ntmps33
  go_wp2
  go_loopw [5] (fun c wr => ∃ k : Nat, k ≤ 2 ∧ c = .int .i64 k ∧ Hid (wr.rowIs g T n fun j => if o ≤ j ∧ j < o + k then sc (uni S U) (j - o) else f j) ∧ Hid (St wr w.heap.size U) ∧ Hid (Exc (some g) w wr)) (fun c _ => 2 - (intOf c).toNat)
  case atStart => exact ⟨0, by omega, rfl, R0.out.congr fun i _ => by rw [if_neg (by omega)], R1.out, HB.out⟩
  case round =>
    clear R0 R1 HB
    obtain ⟨k, hk, rfl, R0, R1, HB⟩ := hrel
    by_cases hlt : k < 2
    · have c0 := R0.out.cell (i := o + k) (by omega)
      have f0 := R0.out.frozen (o + k)
      have c1 := R1.out.cell hlt
      have E := wd_or S U k
      rw [if_neg (by omega), HF.out k hlt] at c0
      unfold sc at c0 c1
      have k2 : (k : Int) < 2 := by omega
      have k0 : (0 : Int) ≤ k := by omega
      have EN : Hid (∀ j, j < n → (if j = o + k then Value.int .u64 (wd (uni S U) k : Int) else if o ≤ j ∧ j < o + k then sc (uni S U) (j - o) else f j) = if o ≤ j ∧ j < o + (k + 1) then sc (uni S U) (j - o) else f j) := fun j _ => by
        by_cases e : j = o + k
        · subst e; rw [if_pos rfl, if_pos (by omega), Nat.add_sub_cancel_left]; rfl
        · rw [if_neg e]
          by_cases h : o ≤ j ∧ j < o + k
          · rw [if_pos h, if_pos (by omega)]
          · rw [if_neg h, if_neg (by omega)]
      generalize ((wd (uni S U) k : Nat) : Int) = z at *
      generalize ((wd S k : Nat) : Int) = x at *
      generalize ((wd U k : Nat) : Int) = y at *
      have XS : Hid (Exc (some g) wr ((wr.setCell ⟨g, o + k, none⟩ (.int .u64 z)).drewN 1)) := exc_set _ _ _ _ _
      have R2 : Hid (St (wr.setCell ⟨g, o + k, none⟩ (.int .u64 z)) w.heap.size U) := R1.out.setOther (by simp; omega) _
      go_wp2
      go_still_tail 11, (by kernel_rfl)
      go_wp2
      go_roundw
      case rel => exact ⟨k + 1, by omega, by go_num, (R0.out.set (o + k) _).congr EN.out, R2.out, HB.out.trans XS.out⟩
      case measure => simp [intOf]; omega
    · have hk2 : k = 2 := by omega
      subst hk2
      clear R1
      go_wp2
      refine bodyPost_end (v := .tuple #[]) (results_none rfl _ _ _) rfl ⟨rfl, R0.out, HB.out⟩
theorem take_st (g : Nat) (S U : Nat → Bool) (w : World) (h : St w g S) :
    Calls Tryd.prog 33 #[.pointer (some ⟨g, 0, none⟩), sv U] w fun e w' => e = .returned (.tuple #[]) ∧ St w' g (uni S U) ∧ Exc (some g) w w' := by
  refine (take_raw g 0 2 49 (sc S) S U w h (by omega) fun k _ => by rw [Nat.zero_add]).mono ?_
  rintro e w' ⟨rfl, hr, hx⟩
  exact ⟨rfl, hr.out.congr fun i hi => by rw [if_pos (by omega), Nat.sub_zero], hx⟩
/-- a row joined with another one -/
def tk2 (A : Nat → Nat → Bool) (i : Nat) (U : Nat → Bool) : Nat → Nat → Bool := fun a => if a = i then uni (A a) U else A a
theorem take_ga (g n i : Nat) (A B : Nat → Nat → Bool) (U : Nat → Bool) (w : World) (hi : i < 128) (h : GB w g n A B) :
    Calls Tryd.prog 33 #[.pointer (some ⟨g, 1 + i * 2, none⟩), sv U] w fun e w' => e = .returned (.tuple #[]) ∧ GB w' g n (tk2 A i U) B ∧ Exc (some g) w w' := by
  refine (take_raw g (1 + i * 2) 513 52 _ (A i) U w h (by omega) fun k hk => gc_a _ _ _ hi hk).mono ?_
  rintro e w' ⟨rfl, hr, hx⟩
  refine ⟨rfl, hr.out.congr fun j hj => ?_, hx⟩
  by_cases e : 1 + i * 2 ≤ j ∧ j < 1 + i * 2 + 2
  · obtain ⟨k, rfl⟩ : ∃ k, j = 1 + i * 2 + k := ⟨j - (1 + i * 2), by omega⟩
    rw [if_pos e, gc_a _ _ _ hi (by omega), Nat.add_sub_cancel_left]
    unfold tk2; rw [if_pos rfl]
  · rw [if_neg e]
    unfold gc
    by_cases h0 : j = 0
    · rw [if_pos h0, if_pos h0]
    · rw [if_neg h0, if_neg h0]
      by_cases h1 : j < 257
      · rw [if_pos h1, if_pos h1]
        unfold tk2; rw [if_neg (by omega)]
      · rw [if_neg h1, if_neg h1]
theorem take_gb (g n i : Nat) (A B : Nat → Nat → Bool) (U : Nat → Bool) (w : World) (hi : i < 128) (h : GB w g n A B) :
    Calls Tryd.prog 33 #[.pointer (some ⟨g, 257 + i * 2, none⟩), sv U] w fun e w' => e = .returned (.tuple #[]) ∧ GB w' g n A (tk2 B i U) ∧ Exc (some g) w w' := by
  refine (take_raw g (257 + i * 2) 513 52 _ (B i) U w h (by omega) fun k hk => gc_b _ _ _ hk).mono ?_
  rintro e w' ⟨rfl, hr, hx⟩
  refine ⟨rfl, hr.out.congr fun j hj => ?_, hx⟩
  by_cases e : 257 + i * 2 ≤ j ∧ j < 257 + i * 2 + 2
  · obtain ⟨k, rfl⟩ : ∃ k, j = 257 + i * 2 + k := ⟨j - (257 + i * 2), by omega⟩
    rw [if_pos e, gc_b _ _ _ (by omega), Nat.add_sub_cancel_left]
    unfold tk2; rw [if_pos rfl]
  · rw [if_neg e]
    unfold gc
    by_cases h0 : j = 0
    · rw [if_pos h0, if_pos h0]
    · rw [if_neg h0, if_neg h0]
      by_cases h1 : j < 257
      · rw [if_pos h1, if_pos h1]
      · rw [if_neg h1, if_neg h1]
        unfold tk2; rw [if_neg (by omega)]
end Go.Proofs.YtonnopcafmhaaaaDoor

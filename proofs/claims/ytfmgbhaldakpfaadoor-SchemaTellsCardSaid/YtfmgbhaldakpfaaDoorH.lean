/- Rows of texts made anew. -/
import Derived.Test.YtfmgbhaldakpfaaDoorG
import Derived.Deep.OwnRows
namespace Go.Proofs.YtfmgbhaldakpfaaDoor
open Go.RowKit

def AsPost (ks : List ByteArray) (w : World) (e : Ending) (w' : World) : Prop :=
  ∃ (o : Option Addr) (cap : Nat), e = .returned (.slice o ks.length cap) ∧ RowP (Fr w w') w' o cap ks.length 1 (fun j _ => .string (ks.getD j default)) ∧ Mine w.heap.size w' o 9 ks.length 1 ∧ Below w.heap.size w w'
theorem info9 : (Tryd.prog.info? 9).map (fun i => (i.zero, i.size, i.bytes)) = some (some (.string ⟨#[]⟩), 1, 16) := by kernel_rfl
theorem make9 (len : Nat) (h : len ≤ 60000) (w : World) : (Instr.makeSlice 36 (.int .i64 len) (.int .i64 len)).run Tryd.prog w = .ok (.slice (some ⟨w.heap.size, 0, none⟩) len len) (w.alloc (.cells (madeCells #[.string ⟨#[]⟩] len) 9)) := by
  obtain ⟨i, hi, hzz⟩ := Option.map_eq_some_iff.1 info9
  simp only [Prod.mk.injEq] at hzz
  obtain ⟨hz, hs, hb⟩ := hzz
  have hr := run_make (P := Tryd.prog) w 36 9 i _ Tryd.underlying36 hi hz .i64 .i64 len len (by omega) (Int.le_refl _) (by rw [hb]; omega) (by omega)
  simp only [Int.toNat_natCast, hs, Nat.mul_one] at hr
  exact hr
def AsRel (ks : List ByteArray) (g : Nat) (w0 : World) (j : Nat) (wr : World) : Prop := Below g w0 wr ∧ Out wr g 9 ks.length 1 j (fun i _ => .string (kk ks i))
theorem Out.cell1 {w : World} {g : Nat} {T : TypeId} {len j : Nat} {C : Nat → Nat → Value} (h : Out w g T len 1 j C) (i : Nat) (hi : i < len) : ∃ v, w.cell? ⟨g, i, none⟩ = some v := by
  obtain ⟨cs, h1, h2, _⟩ := h
  have : i < cs.size := by omega
  exact ⟨cs[i], by rw [cell_of_row w g i cs T (0, 0) h1]; exact Array.getElem?_eq_getElem this⟩
theorem Out.free {w : World} {g : Nat} {T : TypeId} {len z j : Nat} {C : Nat → Nat → Value} (h : Out w g T len z j C) (i : Nat) : w.frozen? ⟨g, i, none⟩ = false := by
  obtain ⟨cs, h1, _⟩ := h; exact frozen_of_row w g i cs T h1
theorem Out.set1 {w : World} {g : Nat} {T : TypeId} {len j : Nat} {C : Nat → Nat → Value} (h : Out w g T len 1 j C) (v : Value) (hv : v = C j 0) (hj : j < len) : Out (w.setCell ⟨g, j, none⟩ v) g T len 1 (j + 1) C := by
  obtain ⟨cs, h1, h2, h3⟩ := h
  refine ⟨_, heap_setCell_same w g j cs T v h1, by simp; omega, fun i hi m hm => ?_⟩
  obtain rfl : m = 0 := by omega
  rw [Array.getElem?_setIfInBounds]
  by_cases e : j = i
  · subst e
    rw [if_pos (by omega)]
    rw [if_pos (by omega), hv]
  · rw [if_neg (by omega)]
    exact h3 i (by omega) 0 hm
theorem as_end {ks : List ByteArray} {w wr : World} (h : AsRel ks w.heap.size w ks.length wr) (hl : ks.length ≤ 60000) : AsPost ks w (.returned (.slice (some ⟨w.heap.size, 0, none⟩) ks.length ks.length)) wr := by
  obtain ⟨hb, hO⟩ := h
  refine ⟨some ⟨w.heap.size, 0, none⟩, ks.length, rfl, ⟨Nat.le_refl _, by unfold maxLen; omega, (fun h => by cases h), fun _ => ?_⟩, .inr ⟨w.heap.size, _, rfl, Nat.le_refl _, hO⟩, hb⟩
  refine ⟨_, _, rfl, ⟨Nat.le_refl _, hO.lt⟩, fun j hj m hm => ?_⟩
  obtain ⟨cs, h1, h2, h3⟩ := hO
  rw [cell_of_row wr w.heap.size _ cs 9 (0, 0) h1, Nat.zero_add]
  exact h3 j hj m hm
set_option maxRecDepth 100000 in
set_option maxHeartbeats 2000000 in
theorem anew_s {n : Nat} {w : World} {ks : List ByteArray} {o : Option Addr} {cap : Nat} (hl : ks.length ≤ 60000) (hR : Row n w o cap ks.length 1 (fun j _ => .string (ks.getD j default))) (hn : n ≤ w.heap.size) :
    Calls Tryd.prog 78 #[.slice o ks.length cap, .func (.func 79) #[] #[]] w (AsPost ks w) := by
  have hc := hR.1
  have hm := hR.2.1
  have hnil := fun (w : World) (a : Option Addr) (n c : Nat) => Lib.run_eql_slice_nil (P := Tryd.prog) w 36 9 a n c 0 0 Tryd.underlying36
  unfold maxLen at hm
  cases o with
  | none =>
    have h0 : cap = 0 := hR.2.2.1 rfl
    have h1 : ks.length = 0 := by omega
    have h2 : ks = [] := List.length_eq_zero_iff.1 h1
    subst h2
    subst h0
    clear hR hl h1 hc hm
    go_enter Tryd.func78, Tryd.ntmps78
    go_wp2
    go_ret
    exact ⟨none, 0, rfl, RowP.nil _ _ _ _, .inl ⟨rfl, rfl⟩, Below.refl _ _⟩
  | some a =>
    have HF := Lib.hid hR
    have hmk := make9 ks.length (by omega)
    clear hR
    have HO : Hid (AsRel ks w.heap.size w 0 (w.alloc (.cells (madeCells #[.string ⟨#[]⟩] ks.length) 9))) :=
      ⟨(Below.refl _ _).alloc (Nat.le_refl _) _, by have := Out.made w 9 ks.length 1 #[.string ⟨#[]⟩] (fun i _ => .string (kk ks i)); rw [Nat.mul_one] at this; exact this⟩
    go_enter Tryd.func78, Tryd.ntmps78
    go_wp2_with fail
    generalize w.alloc (.cells (madeCells _ _) 9) = w0 at *
    clear hmk
    go_loopw [15] (fun i wr => ∃ j : Nat, j ≤ ks.length ∧ i = .int .i64 j ∧ Hid (AsRel ks w.heap.size w j wr)) (fun i _ => ks.length - (intOf i).toNat)
    case atStart => exact ⟨0, Nat.zero_le _, rfl, HO⟩
    case round =>
      obtain ⟨j, hj, rfl, HR⟩ := hrel
      by_cases hlt : j < ks.length
      · obtain ⟨b', off', e1, hb', y0⟩ := (HF.out.below (HR.out.1.mono hn)).el1 hlt
        injection e1 with e1
        subst e1
        change wr.cell? _ = some (.string (kk ks j)) at y0
        obtain ⟨v0, hv0⟩ := HR.out.2.cell1 j hlt
        have hfz := HR.out.2.free j
        have HS : Hid (AsRel ks w.heap.size w (j + 1) (wr.setCell ⟨w.heap.size, j, none⟩ (.string (kk ks j)))) := ⟨HR.out.1.setCell (Nat.le_refl _) _, HR.out.2.set1 _ rfl hlt⟩
        go_wp2_with go_in
        go_roundw
        case rel => exact ⟨j + 1, by omega, by go_num, HS⟩
        case measure => simp [intOf]; omega
      · have hjl : j = ks.length := by omega
        subst hjl
        go_wp2_with fail
        go_ret
        exact as_end HR.out hl
end Go.Proofs.YtfmgbhaldakpfaaDoor

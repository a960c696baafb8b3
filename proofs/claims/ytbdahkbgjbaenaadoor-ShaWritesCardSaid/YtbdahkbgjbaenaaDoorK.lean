/- Contracts: Sum of parts, Len, New. -/
import Derived.Test.YtbdahkbgjbaenaaDoorJ
namespace Go.Proofs.YtbdahkbgjbaenaaDoor
open Go.RowKit

def catN (M : Nat → List Int) : Nat → List Int
  | 0 => []
  | n + 1 => catN M n ++ M n
theorem catN_mono (M : Nat → List Int) (a b : Nat) (h : a ≤ b) : (catN M a).length ≤ (catN M b).length := by
  induction b with
  | zero => rw [show a = 0 by omega]; exact Nat.le_refl _
  | succ b ih =>
    by_cases e : a = b + 1
    · rw [e]; exact Nat.le_refl _
    · have := ih (by omega); rw [catN, List.length_append]; omega
theorem catN_part (M : Nat → List Int) (i m : Nat) (h : i < m) : (catN M i).length + (M i).length ≤ (catN M m).length := by
  have := catN_mono M (i + 1) m h
  rw [catN, List.length_append] at this
  exact this
/-- a slice of bytes that stands -/
def Rd (w : World) (sp : Option Addr) (M : List Int) : Prop := ∀ i, i < M.length → ∃ k o, sp = some ⟨k, o, none⟩ ∧ k < w.heap.size ∧ w.cell? ⟨k, o + i, none⟩ = some (.int .u8 (M.getD i 0))
theorem Rd.below {w w' : World} {sp : Option Addr} {M : List Int} {B : Nat} (h : Rd w sp M) (hb : Below B w w') (hB : w.heap.size ≤ B) : Rd w' sp M := fun i hi => by
  obtain ⟨k, o, a, b, c⟩ := h i hi
  exact ⟨k, o, a, Nat.lt_of_lt_of_le b hb.size, (hb.cell (p := ⟨k, o + i, none⟩) (by show k < B; omega)).trans c⟩
theorem Rd.sl {w w' : World} {sp : Option Addr} {M : List Int} {n : Nat} (h : Rd w sp M) (hb : Below w.heap.size w w') (hn : w.heap.size ≤ n) : Sl w' n sp M := fun i hi => by
  obtain ⟨k, o, a, b, c⟩ := h i hi
  exact ⟨k, o, a, by omega, Nat.lt_of_lt_of_le b hb.size, (hb.cell (p := ⟨k, o + i, none⟩) b).trans c⟩
def isB (M : List Int) : Prop := ∀ i, 0 ≤ M.getD i 0 ∧ M.getD i 0 < 256
/-- what a slice of parts reads as -/
structure Pt (w : World) (pp : Option Addr) (m : Nat) (S : Nat → Option Addr) (M : Nat → List Int) (C : Nat → Nat) : Prop where
  at_ : ∀ i, i < m → ∃ k o, pp = some ⟨k, o, none⟩ ∧ k < w.heap.size ∧ w.cell? ⟨k, o + i, none⟩ = some (.slice (S i) (M i).length (C i))
  rd : ∀ i, i < m → Rd w (S i) (M i)
  bt : ∀ i, i < m → isB (M i)
  cp : ∀ i, i < m → (M i).length ≤ C i ∧ C i ≤ maxLen
/-- what is held of memory while parts are taken -/
structure Sm (B : Nat) (L : List Int) (w W : World) : Prop where
  res : Row W B 27 .u8 32 fun _ => 0
  wr : Wr W (B + 1) L
  bel : Below B w W
  lt : B + 2 ≤ W.heap.size
set_option maxHeartbeats 2000000 in
theorem sum_any (pp : Option Addr) (m cap : Nat) (S : Nat → Option Addr) (M : Nat → List Int) (C : Nat → Nat) (w : World) (h : Pt w pp m S M C) (hlen : (catN M m).length < 576460752303423488) (hm : m ≤ maxLen) (hT : Tab w) :
    Calls Tryd.prog 11 #[.slice pp m cap] w fun e w' => e = .returned (.agg (mk .u8 32 (dig (catN M m)))) ∧ Below w.heap.size w w' := by
  have b0 : Below w.heap.size w ((w.alloc (.cells (mk .u8 32 fun _ => 0) 27)).alloc (.cells (WC (fun _ => 0) (fun _ => 0) 0) 58)) := ((Below.refl _ _).alloc (Nat.le_refl _) _).alloc (by simp) _
  have S0 : Sm w.heap.size [] w ((w.alloc (.cells (mk .u8 32 fun _ => 0) 27)).alloc (.cells (WC (fun _ => 0) (fun _ => 0) 0) 58)) :=
    ⟨(Row.made w _ _ _ _).alloc _, wr_nil _ _ (heap_alloc2_new w _ _), b0, by simp⟩
  have HS := Lib.hid S0
  have z58 := zero58
  have HP := Lib.hid h
  have HT := Lib.hid hT
  unfold maxLen at hm
  clear S0 b0 h hT
  rw [Z27] at HS
  go_enter Tryd.func11, Tryd.ntmps11
  go_wp2_with fail
  clear z58
  generalize World.alloc (World.alloc _ _) _ = W2 at *
  go_loopw [8] (fun i wr => ∃ k : Nat, k ≤ m ∧ i = .int .i64 k ∧ Hid (Sm w.heap.size (catN M k) w wr)) (fun i _ => m - (intOf i).toNat)
  case atStart => exact ⟨0, Nat.zero_le _, rfl, HS.out⟩
  case round =>
    clear HS
    obtain ⟨k, hk, rfl, HS⟩ := hrel
    by_cases hlt : k < m
    · obtain ⟨b, o, rfl, hb, hc⟩ := HP.out.at_ k hlt
      rw [← HS.out.bel.cell (p := ⟨b, o + k, none⟩) hb] at hc
      have cl := catN_part M k m hlt
      have cp := HP.out.cp k hlt
      have WA := write_any (w.heap.size + 1) (catN M k) (M k) (S k) (C k) wr HS.out.wr (HP.out.bt k hlt) (by omega) (HT.out.below HS.out.bel HT.out.1) (by omega) ((HP.out.rd k hlt).sl HS.out.bel (by omega)) cp.1 cp.2
      have k0 : (k : Int) < m := by omega
      clear cl cp
      go_wp2_with fail
      refine WA.mono ?_
      clear WA
      rintro e w3 ⟨rfl, s3, k3⟩
      have S3 := Lib.hid s3
      have K3 := Lib.hid k3
      clear s3 k3 hc
      go_wp2_with fail
      go_roundw
      case rel => exact ⟨k + 1, by omega, by go_num, ⟨HS.out.res.kp K3.out (by omega), S3.out.wr, K3.out.below HS.out.bel (by have := HS.out.lt; omega) (by omega), by have := HS.out.lt; have := K3.out.size; omega⟩⟩
      case measure => simp [intOf]; omega
    · have hkm : k = m := by omega
      rw [hkm] at HS
      have WS := wsum_any (some ⟨w.heap.size + 1, 0, none⟩) (catN M m) wr (.inr ⟨_, rfl, HS.out.wr⟩) hlen (HT.out.below HS.out.bel HT.out.1)
      go_wp2_with fail
      refine WS.mono ?_
      rintro e w3 ⟨rfl, b3⟩
      have S2 := HS.out.res.below b3 (by have := HS.out.lt; omega)
      have B3 := Lib.hid (HS.out.bel.trans (b3.mono (by have := HS.out.lt; omega)))
      clear HS WS b3
      go_wp2_with (refine wpList_store_row rfl 27 (.tmp 2) (.tmp 15) rfl w.heap.size rfl (mk .u8 32 (dig (catN M m))) rfl 27 _ S2 (by simp [mk_size]) (info27 _) (mk_one _ _ _) ?_)
      exact bodyPost_ret (v := .agg (mk .u8 32 (dig (catN M m)))) (results_cell_row rfl _ _ w.heap.size 27 _ (0, 0) _ rfl (S2.setRow _ _ _) Tryd.underlying27 rfl (info27 _)) rfl ⟨rfl, below_setRow B3.out (Nat.le_refl _) _⟩
theorem len_some (n : Nat) (L : List Int) (w : World) (h : Wr w n L) : Calls Tryd.prog 15 #[.pointer (some ⟨n, 0, none⟩)] w fun e w' => e = .returned (.int .u64 L.length) ∧ w = w' := by
  have c := h.taken
  go_enter Tryd.func15, Tryd.ntmps15
  go_wp2
  go_ret
  exact ⟨rfl, rfl⟩
theorem len_nil (w : World) : Calls Tryd.prog 15 #[.pointer none] w fun e w' => e = .returned (.int .u64 0) ∧ w = w' := by
  go_enter Tryd.func15, Tryd.ntmps15
  go_wp2
  go_ret
  exact ⟨rfl, rfl⟩
theorem write_nil (v : Value) (w : World) : Calls Tryd.prog 14 #[.pointer none, v] w fun e w' => e = .returned (.tuple #[]) ∧ w = w' := by
  go_enter Tryd.func14, Tryd.ntmps14
  go_wp2
  exact bodyPost_ret (results_none rfl _ _ _) rfl ⟨rfl, rfl⟩
end Go.Proofs.YtbdahkbgjbaenaaDoor

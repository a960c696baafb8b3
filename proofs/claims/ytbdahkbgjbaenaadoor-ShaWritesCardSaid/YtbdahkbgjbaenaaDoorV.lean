/- Contract: Hex of the reference. -/
import Derived.Test.YtbdahkbgjbaenaaDoorU
import Derived.WalkSpells
namespace Go.Proofs.YtbdahkbgjbaenaaDoor
open Go.RowKit

theorem ext16_0 : (⟨#[48, 49, 50, 51, 52, 53, 54, 55, 56, 57, 97, 98, 99, 100, 101, 102]⟩ : ByteArray).extract 0 1 = ⟨#[48]⟩ := by kernel_rfl
theorem ext16_1 : (⟨#[48, 49, 50, 51, 52, 53, 54, 55, 56, 57, 97, 98, 99, 100, 101, 102]⟩ : ByteArray).extract 1 2 = ⟨#[49]⟩ := by kernel_rfl
theorem ext16_2 : (⟨#[48, 49, 50, 51, 52, 53, 54, 55, 56, 57, 97, 98, 99, 100, 101, 102]⟩ : ByteArray).extract 2 3 = ⟨#[50]⟩ := by kernel_rfl
theorem ext16_3 : (⟨#[48, 49, 50, 51, 52, 53, 54, 55, 56, 57, 97, 98, 99, 100, 101, 102]⟩ : ByteArray).extract 3 4 = ⟨#[51]⟩ := by kernel_rfl
theorem ext16_4 : (⟨#[48, 49, 50, 51, 52, 53, 54, 55, 56, 57, 97, 98, 99, 100, 101, 102]⟩ : ByteArray).extract 4 5 = ⟨#[52]⟩ := by kernel_rfl
theorem ext16_5 : (⟨#[48, 49, 50, 51, 52, 53, 54, 55, 56, 57, 97, 98, 99, 100, 101, 102]⟩ : ByteArray).extract 5 6 = ⟨#[53]⟩ := by kernel_rfl
theorem ext16_6 : (⟨#[48, 49, 50, 51, 52, 53, 54, 55, 56, 57, 97, 98, 99, 100, 101, 102]⟩ : ByteArray).extract 6 7 = ⟨#[54]⟩ := by kernel_rfl
theorem ext16_7 : (⟨#[48, 49, 50, 51, 52, 53, 54, 55, 56, 57, 97, 98, 99, 100, 101, 102]⟩ : ByteArray).extract 7 8 = ⟨#[55]⟩ := by kernel_rfl
theorem ext16_8 : (⟨#[48, 49, 50, 51, 52, 53, 54, 55, 56, 57, 97, 98, 99, 100, 101, 102]⟩ : ByteArray).extract 8 9 = ⟨#[56]⟩ := by kernel_rfl
theorem ext16_9 : (⟨#[48, 49, 50, 51, 52, 53, 54, 55, 56, 57, 97, 98, 99, 100, 101, 102]⟩ : ByteArray).extract 9 10 = ⟨#[57]⟩ := by kernel_rfl
theorem ext16_10 : (⟨#[48, 49, 50, 51, 52, 53, 54, 55, 56, 57, 97, 98, 99, 100, 101, 102]⟩ : ByteArray).extract 10 11 = ⟨#[97]⟩ := by kernel_rfl
theorem ext16_11 : (⟨#[48, 49, 50, 51, 52, 53, 54, 55, 56, 57, 97, 98, 99, 100, 101, 102]⟩ : ByteArray).extract 11 12 = ⟨#[98]⟩ := by kernel_rfl
theorem ext16_12 : (⟨#[48, 49, 50, 51, 52, 53, 54, 55, 56, 57, 97, 98, 99, 100, 101, 102]⟩ : ByteArray).extract 12 13 = ⟨#[99]⟩ := by kernel_rfl
theorem ext16_13 : (⟨#[48, 49, 50, 51, 52, 53, 54, 55, 56, 57, 97, 98, 99, 100, 101, 102]⟩ : ByteArray).extract 13 14 = ⟨#[100]⟩ := by kernel_rfl
theorem ext16_14 : (⟨#[48, 49, 50, 51, 52, 53, 54, 55, 56, 57, 97, 98, 99, 100, 101, 102]⟩ : ByteArray).extract 14 15 = ⟨#[101]⟩ := by kernel_rfl
theorem ext16_15 : (⟨#[48, 49, 50, 51, 52, 53, 54, 55, 56, 57, 97, 98, 99, 100, 101, 102]⟩ : ByteArray).extract 15 16 = ⟨#[102]⟩ := by kernel_rfl
theorem ext16 (n : Int) (h : 0 ≤ n ∧ n < 16) : (⟨#[48, 49, 50, 51, 52, 53, 54, 55, 56, 57, 97, 98, 99, 100, 101, 102]⟩ : ByteArray).extract n.toNat (n + 1).toNat = ⟨#[UInt8.ofNat (dgt n).toNat]⟩ := by
  have : n = 0 ∨ n = 1 ∨ n = 2 ∨ n = 3 ∨ n = 4 ∨ n = 5 ∨ n = 6 ∨ n = 7 ∨ n = 8 ∨ n = 9 ∨ n = 10 ∨ n = 11 ∨ n = 12 ∨ n = 13 ∨ n = 14 ∨ n = 15 := by omega
  rcases this with rfl | rfl | rfl | rfl | rfl | rfl | rfl | rfl | rfl | rfl | rfl | rfl | rfl | rfl | rfl | rfl
  · exact ext16_0
  · exact ext16_1
  · exact ext16_2
  · exact ext16_3
  · exact ext16_4
  · exact ext16_5
  · exact ext16_6
  · exact ext16_7
  · exact ext16_8
  · exact ext16_9
  · exact ext16_10
  · exact ext16_11
  · exact ext16_12
  · exact ext16_13
  · exact ext16_14
  · exact ext16_15
def hexP (F : Nat → Int) (n : Nat) : ByteArray := ((List.range n).map (hexAt F)).foldl (fun r n => r.push (UInt8.ofNat n.toNat)) ByteArray.empty
theorem push_app (s : ByteArray) (b : UInt8) : s.push b = s ++ ⟨#[b]⟩ := by
  apply ByteArray.ext
  simp [ByteArray.data_append]
theorem hexP_succ (F : Nat → Int) (n : Nat) : hexP F (n + 1) = hexP F n ++ ⟨#[UInt8.ofNat (hexAt F n).toNat]⟩ := by
  unfold hexP
  rw [List.range_succ, List.map_append, List.foldl_append, ← push_app]
  rfl
theorem hexP_size (F : Nat → Int) (n : Nat) : (hexP F n).size = n := by
  induction n with
  | zero => rfl
  | succ n ih => rw [hexP_succ, ByteArray.size_append, ih]; rfl
theorem hexP_two (F : Nat → Int) (k : Nat) : hexP F (2 * (k + 1)) = (hexP F (2 * k) ++ ⟨#[UInt8.ofNat (dgt (F k / 16)).toNat]⟩) ++ ⟨#[UInt8.ofNat (dgt (F k % 16)).toNat]⟩ := by
  rw [show 2 * (k + 1) = 2 * k + 1 + 1 by omega, hexP_succ, hexP_succ]
  unfold hexAt
  rw [if_pos (by omega), if_neg (by omega), show 2 * k / 2 = k by omega, show (2 * k + 1) / 2 = k by omega]
set_option maxHeartbeats 2000000 in
theorem rhex_any (F : Nat → Int) (w : World) (hF : ∀ j, j < 32 → 0 ≤ F j ∧ F j < 256) : Calls Tryd.prog 20 #[.agg (mk .u8 32 F)] w fun e w' => e = .returned (.string (hexStr F)) ∧ Below w.heap.size w w' := by
  have R1 := Lib.hid (Row.made w 27 .u8 32 F)
  have B0 := Lib.hid ((Below.refl w.heap.size w).alloc (Nat.le_refl _) (.cells (mk .u8 32 F) 27))
  have HF := Lib.hid hF
  clear hF
  go_enter Tryd.func20, Tryd.ntmps20
  go_wp2_with fail
  generalize World.alloc _ _ = W2 at *
  go_loopw [3, 4] (fun v i wr => ∃ k q : Nat, k ≤ 32 ∧ i = .int .i64 k ∧ v = .string (hexP F (2 * k)) ∧ wr = W2.drewN q) (fun _ i _ => 32 - (intOf i).toNat)
  case atStart => exact ⟨0, 0, Nat.zero_le _, rfl, rfl, rfl⟩
  case round =>
    obtain ⟨k, q, hk, rfl, rfl, rfl⟩ := hrel
    by_cases hlt : k < 32
    · have ck := R1.out.cell k hlt
      have f := HF.out k hlt
      have E := Lib.hid (hexP_two F k)
      have sz := hexP_size F (2 * k)
      have k32 : (k : Int) < 32 := by omega
      have k0 : (0 : Int) ≤ k := by omega
      generalize F k = x at *
      have fm : 0 ≤ x / 16 ∧ x / 16 < 16 := by omega
      have fn : 0 ≤ x % 16 ∧ x % 16 < 16 := by omega
      have x1 := ext16 (x / 16) fm
      have x2 := ext16 (x % 16) fn
      have t1 : x.tdiv 16 = x / 16 := by rw [Int.tdiv_eq_ediv_of_nonneg f.1]
      have t2 : x.tmod 16 = x % 16 := by rw [Int.tmod_eq_emod_of_nonneg f.1]
      obtain ⟨a, ha⟩ : ∃ a, x / 16 = a := ⟨_, rfl⟩
      obtain ⟨b, hb⟩ : ∃ b, x % 16 = b := ⟨_, rfl⟩
      rw [ha] at x1 t1 fm E
      rw [hb] at x2 t2 fn E
      have w1 : IntKind.u8.wrap (a + 1) = a + 1 := by rw [show IntKind.u8.wrap (a + 1) = (a + 1) % 256 by simp [IntKind.wrap, IntKind.bits, IntKind.signed]]; omega
      have w2 : IntKind.u8.wrap (b + 1) = b + 1 := by rw [show IntKind.u8.wrap (b + 1) = (b + 1) % 256 by simp [IntKind.wrap, IntKind.bits, IntKind.signed]]; omega
      have a0 := fm.1
      have a1 := fm.2
      have b0 := fn.1
      have b1 := fn.2
      have f1 := f.1
      have f2 := f.2
      have SZ : (hexP F (2 * k)).size ≤ 64 := by omega
      have X1 := Lib.hid x1
      have X2 := Lib.hid x2
      clear sz f fm fn ha hb x1 x2
      generalize hexP F (2 * k) = s at *
      have ck : (W2.drewN q).cell? ⟨w.heap.size, k, none⟩ = _ := ck
      have HW := Lib.hid (show ∃ q', W2.drewN q = W2.drewN q' from ⟨q, rfl⟩)
      generalize W2.drewN q = W3 at *
      go_wp2
      go_quiet (fail)
      go_wp2
      go_roundw
      case rel =>
        obtain ⟨q', e'⟩ := HW.out
        exact ⟨k + 1, q' + nq, by omega, by go_num, by rw [E.out, X1.out, X2.out], by rw [e']; exact World.drewN_drewN _ _ _⟩
      case measure => simp [intOf]; omega
    · have hk32 : k = 32 := by omega
      subst hk32
      go_wp2
      go_ret
      exact ⟨rfl, below_drewN B0.out q⟩
end Go.Proofs.YtbdahkbgjbaenaaDoor

/- awake: the document's example holds. -/
import Derived.Test.YtbdahkbgjbaenaaDoorX
import Derived.Lib.SlBytesConst
namespace Go.Proofs.YtbdahkbgjbaenaaDoor
open Go.RowKit

def abcText : ByteArray := ⟨#[98, 97, 55, 56, 49, 54, 98, 102, 56, 102, 48, 49, 99, 102, 101, 97, 52, 49, 52, 49, 52, 48, 100, 101, 53, 100, 97, 101, 50, 50, 50, 51, 98, 48, 48, 51, 54, 49, 97, 51, 57, 54, 49, 55, 55, 97, 57, 99, 98, 52, 49, 48, 102, 102, 54, 49, 102, 50, 48, 48, 49, 53, 97, 100]⟩
theorem abc_hex_ : hexStr (fun i => formAt ((⟨3128432319, 2399260650, 1094795486, 1571693091, 2953011619, 2518121116, 3021012833, 4060091821⟩ : St).at (i / 4)) 4 (i % 4)) = ⟨#[98, 97, 55, 56, 49, 54, 98, 102, 56, 102, 48, 49, 99, 102, 101, 97, 52, 49, 52, 49, 52, 48, 100, 101, 53, 100, 97, 101, 50, 50, 50, 51, 98, 48, 48, 51, 54, 49, 97, 51, 57, 54, 49, 55, 55, 97, 57, 99, 98, 52, 49, 48, 102, 102, 54, 49, 102, 50, 48, 48, 49, 53, 97, 100]⟩ := by kernel_rfl
theorem abc_hex : hexStr (dig (catN (fun _ => [97, 98, 99]) 1)) = ⟨#[98, 97, 55, 56, 49, 54, 98, 102, 56, 102, 48, 49, 99, 102, 101, 97, 52, 49, 52, 49, 52, 48, 100, 101, 53, 100, 97, 101, 50, 50, 50, 51, 98, 48, 48, 51, 54, 49, 97, 51, 57, 54, 49, 55, 55, 97, 57, 99, 98, 52, 49, 48, 102, 102, 54, 49, 102, 50, 48, 48, 49, 53, 97, 100]⟩ := by
  have e : dig (catN (fun _ => [97, 98, 99]) 1) = fun i => formAt ((⟨3128432319, 2399260650, 1094795486, 1571693091, 2953011619, 2518121116, 3021012833, 4060091821⟩ : St).at (i / 4)) 4 (i % 4) := by
    funext i
    show formAt ((digSt [97, 98, 99]).at (i / 4)) 4 (i % 4) = _
    rw [abc_st]
  rw [e, abc_hex_]
theorem dig_byte (L : List Int) (j : Nat) : 0 ≤ dig L j ∧ dig L j < 256 := formAt_byte _ _ _
theorem abc_byte : isB [97, 98, 99] := by
  intro i
  match i with
  | 0 => decide
  | 1 => decide
  | 2 => decide
  | i + 3 => simp [List.getD]
/-- the example's parts -/
theorem abc_parts (w : World) : Pt ((w.alloc (.cells #[.int .u8 97, .int .u8 98, .int .u8 99] 5 (3, 4))).alloc (.cells #[.slice (some ⟨w.heap.size, 0, none⟩) 3 3] 22)) (some ⟨w.heap.size + 1, 0, none⟩) 1 (fun _ => some ⟨w.heap.size, 0, none⟩) (fun _ => [97, 98, 99]) (fun _ => 3) := by
  have h1 := heap_alloc2_new w (.cells #[.int .u8 97, .int .u8 98, .int .u8 99] 5 (3, 4)) (.cells #[.slice (some ⟨w.heap.size, 0, none⟩) 3 3] 22)
  have h0 := heap_alloc2_old w (.cells #[.int .u8 97, .int .u8 98, .int .u8 99] 5 (3, 4)) (.cells #[.slice (some ⟨w.heap.size, 0, none⟩) 3 3] 22)
  refine ⟨fun i hi => ⟨w.heap.size + 1, 0, rfl, by simp, ?_⟩, fun i hi j hj => ⟨w.heap.size, 0, rfl, by simp; omega, ?_⟩, fun i hi => abc_byte, fun i hi => ⟨by decide, by unfold maxLen; omega⟩⟩
  · obtain rfl : i = 0 := by omega
    rw [cell_of_row _ _ _ _ _ _ h1]; rfl
  · rw [cell_of_row _ _ _ _ _ _ h0]
    have : j = 0 ∨ j = 1 ∨ j = 2 := by simp at hj; omega
    rcases this with rfl | rfl | rfl <;> rfl
set_option maxHeartbeats 1000000 in
theorem awake_true (w : World) (hT : Tab w) : Calls Tryd.prog 7 #[] w fun e w' => e = .returned (.bool true) ∧ Below w.heap.size w w' := by
  have b0 : Below w.heap.size w ((w.alloc (.cells #[.int .u8 97, .int .u8 98, .int .u8 99] 5 (3, 4))).alloc (.cells #[.slice (some ⟨w.heap.size, 0, none⟩) 3 3] 22)) := ((Below.refl _ _).alloc (Nat.le_refl _) _).alloc (by simp) _
  have C := sum_any _ 1 1 _ _ _ _ (abc_parts w) (by decide) (by unfold maxLen; omega) (hT.below b0 hT.1)
  have HB := Lib.hid b0
  have HX := fun W => hex_any (dig (catN (fun _ => [97, 98, 99]) 1)) W (fun j _ => dig_byte _ j)
  rw [abc_hex] at HX
  have kc := fun (w : World) (C : Array Value) (n c : Nat) => Lib.run_convert_bytes_const (P := Tryd.prog) w 22 5 C n c Tryd.underlying22 Tryd.underlying5
  clear b0 hT
  go_enter Tryd.func7, Tryd.ntmps7
  go_wp2_with fail
  refine C.mono ?_
  rintro e w1 ⟨rfl, b1⟩
  have B1 := Lib.hid (HB.out.trans (b1.mono (by simp; omega)))
  clear C HB b1
  go_wp2_with fail
  refine (HX _).mono ?_
  rintro e w2 ⟨rfl, b2⟩
  have B2 := Lib.hid (B1.out.trans (b2.mono B1.out.size))
  clear HX B1 b2
  go_wp2
  go_ret
  exact ⟨rfl, B2.out⟩
end Go.Proofs.YtbdahkbgjbaenaaDoor

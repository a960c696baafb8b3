/- awake: the document's examples hold. -/
import Derived.Test.YtpmdkekjoocplaaHd
import Derived.Test.YtpmdkekjoocplaaHe
import Derived.Test.YtpmdkekjoocplaaHg
namespace Go.Proofs.Ytpmdkekjoocplaa
open Go.RowKit Go.Lib Typ

def exA : Val := .mk 2 (-1) ⟨#[]⟩ [] [] 0 0 false
def exB : Val := .mk 3 0 ⟨#[97]⟩ [] [] 0 0 true
theorem exA_enc : enc exA = [2, 1] := by
  unfold exA; rw [enc_eq]
  have : zg (-1) = 1 := by decide
  simp [Val.k, Val.x, Val.i, this, shrt_small]
theorem exB_enc : enc exB = [131, 1, 97] := by
  unfold exB; rw [enc_eq]
  have h1 : (ByteArray.mk #[97]).size = 1 := rfl
  simp [Val.k, Val.x, Val.s, h1, shrt_small, sb]
theorem exA_chk : chk exA = true := by
  unfold chk exA; rw [weight_flat]; decide +kernel
theorem exB_chk : chk exB = true := by
  unfold chk exB; rw [weight_flat]; decide
theorem putA (w : World) : Calls Try.prog 13 #[.slice none 0 0, vv 2 (-1) ⟨#[]⟩ (.slice none 0 0) (.slice none 0 0) 0 0 false] w (PutV exA w) :=
  put_any (n := 0) (flat_lies _ w rfl rfl rfl rfl (Nat.zero_le _) false) (Nat.zero_le _) (by unfold exA; decide) exA_chk (laid_int (-1) false ⟨by decide, by decide⟩) (by rw [exA_enc]; decide)
theorem putB (w : World) : Calls Try.prog 13 #[.slice none 0 0, vv 3 0 ⟨#[97]⟩ (.slice none 0 0) (.slice none 0 0) 0 0 true] w (PutV exB w) :=
  put_any (n := 0) (flat_lies _ w rfl rfl rfl rfl (by unfold maxLen; decide) true) (Nat.zero_le _) (by unfold exB; decide) exB_chk (laid_str ⟨#[97]⟩ true (by decide)) (by rw [exB_enc]; decide)
set_option maxHeartbeats 2000000 in
theorem awake_any (w : World) : Calls Try.prog 5 #[] w fun e w' => e = .returned (.bool true) ∧ Below w.heap.size w w' := by
  go_enter Try.func5, Try.ntmps5
  go_wp2_with fail
  refine (putA w).mono ?_
  rintro e w1 ⟨v1, rfl, ho1, hb1⟩
  rw [exA_enc] at ho1
  have B1 := Lib.hid hb1
  obtain ⟨o1, c1, rfl, T1⟩ := bts_of_own (M := [2, 1]) ho1 (by decide)
  have HT1 := Lib.hid T1
  have S1 : Hid (∀ W, Below w1.heap.size w1 W → W.heap[w1.heap.size]? = some (.cells #[.int .u8 2, .int .u8 1] 5 (0, 0)) → w1.heap.size < W.heap.size → Calls Try.prog 14 #[.slice o1 2 c1, .slice (some ⟨w1.heap.size, 0, none⟩) 2 2] W fun e w' => e = .returned (.bool true) ∧ ∃ m, w' = W.drewN m) := fun W hb hc hl =>
    same_any (A := [2, 1]) (B := [2, 1]) (nb := W.heap.size) (T1.kept hb) (bts_lit (M := [2, 1]) hc hl (by decide) (by decide))
  have A1 : Hid (Below w1.heap.size w1 (w1.alloc (.cells #[.int .u8 2, .int .u8 1] 5))) := (Below.refl _ _).alloc (Nat.le_refl _) _
  have C1 : Hid ((w1.alloc (.cells #[.int .u8 2, .int .u8 1] 5)).heap[w1.heap.size]? = some (.cells #[.int .u8 2, .int .u8 1] 5 (0, 0))) := heap_alloc_new _ _
  clear ho1 hb1 T1
  go_wp2_with fail
  refine (S1.out _ A1.out C1.out (by simp)).mono ?_
  rintro e w2 ⟨rfl, m2, rfl⟩
  have B2 : Hid (Below w.heap.size w ((w1.alloc (.cells #[.int .u8 2, .int .u8 1] 5)).drewN m2)) := (B1.out.trans (A1.out.mono B1.out.size)).trans (below_drewN (Below.refl _ _) _)
  go_wp2_with fail
  generalize World.drewN _ _ = w3 at *
  refine (putB w3).mono ?_
  rintro e w4 ⟨v4, rfl, ho4, hb4⟩
  rw [exB_enc] at ho4
  have B4 := Lib.hid (B2.out.trans (hb4.mono B2.out.size))
  obtain ⟨o4, c4, rfl, T4⟩ := bts_of_own (M := [131, 1, 97]) ho4 (by decide)
  have S4 : Hid (∀ W, Below w4.heap.size w4 W → W.heap[w4.heap.size]? = some (.cells #[.int .u8 131, .int .u8 1, .int .u8 97] 5 (0, 0)) → w4.heap.size < W.heap.size → Calls Try.prog 14 #[.slice o4 3 c4, .slice (some ⟨w4.heap.size, 0, none⟩) 3 3] W fun e w' => e = .returned (.bool true) ∧ ∃ m, w' = W.drewN m) := fun W hb hc hl =>
    same_any (A := [131, 1, 97]) (B := [131, 1, 97]) (nb := W.heap.size) (T4.kept hb) (bts_lit (M := [131, 1, 97]) hc hl (by decide) (by decide))
  have A4 : Hid (Below w4.heap.size w4 (w4.alloc (.cells #[.int .u8 131, .int .u8 1, .int .u8 97] 5))) := (Below.refl _ _).alloc (Nat.le_refl _) _
  have C4 : Hid ((w4.alloc (.cells #[.int .u8 131, .int .u8 1, .int .u8 97] 5)).heap[w4.heap.size]? = some (.cells #[.int .u8 131, .int .u8 1, .int .u8 97] 5 (0, 0))) := heap_alloc_new _ _
  clear ho4 hb4 T4
  go_wp2_with fail
  refine (S4.out _ A4.out C4.out (by simp)).mono ?_
  rintro e w5 ⟨rfl, m5, rfl⟩
  go_wp2_with fail
  go_ret
  exact ⟨rfl, (B4.out.trans (A4.out.mono B4.out.size)).trans (below_drewN (Below.refl _ _) _)⟩
end Go.Proofs.Ytpmdkekjoocplaa

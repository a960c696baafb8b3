/- The law of fingerprints' texts: its walk. -/
import Derived.Test.YtbdahkbgjbaenaaDoorV
namespace Go.Proofs.YtbdahkbgjbaenaaDoor
open Go.RowKit

theorem dgv_dgt (n : Int) (h : 0 ≤ n ∧ n < 16) : dgv (dgt n) = n := by unfold dgv dgt; split <;> split <;> (try split) <;> omega
theorem dgo_dgt (n : Int) (h : 0 ≤ n ∧ n < 16) : dgo (dgt n) = true := by
  unfold dgo; rw [decide_eq_true_iff]; unfold dgt; split <;> omega
theorem hexP_get (F : Nat → Int) (hF : ∀ j, j < 32 → 0 ≤ F j ∧ F j < 256) (n : Nat) (hn : n ≤ 64) : ∀ j, j < n → sb (hexP F n) j = hexAt F j := by
  induction n with
  | zero => intro j hj; omega
  | succ n ih =>
    intro j hj
    have sz := hexP_size F n
    have hb : 0 ≤ hexAt F n ∧ hexAt F n < 256 := by
      have f := hF (n / 2) (by omega)
      unfold hexAt
      apply dgt_byte
      split <;> omega
    rw [hexP_succ]
    unfold sb
    have hs : (hexP F n ++ (⟨#[UInt8.ofNat (hexAt F n).toNat]⟩ : ByteArray)).size = n + 1 := by rw [ByteArray.size_append, sz]; rfl
    rw [dif_pos (by omega)]
    by_cases e : j < n
    · rw [ByteArray.getElem_append_left (by omega)]
      have := ih (by omega) j e
      unfold sb at this
      rw [dif_pos (by omega)] at this
      exact this
    · have : j = n := by omega
      subst this
      rw [ByteArray.getElem_append_right (by omega)]
      simp only [sz, Nat.sub_self]
      show ((UInt8.ofNat (hexAt F j).toNat).toNat : Int) = _
      simp
      omega
theorem hex_good (F : Nat → Int) (hF : ∀ j, j < 32 → 0 ≤ F j ∧ F j < 256) (i : Nat) (hi : i < 32) : good (hexStr F) i := by
  have g := hexP_get F hF 64 (by omega)
  have f := hF i hi
  unfold good
  rw [show hexStr F = hexP F 64 from rfl, g (2 * i) (by omega), g (2 * i + 1) (by omega)]
  unfold hexAt
  rw [if_pos (by omega), if_neg (by omega), show 2 * i / 2 = i by omega, show (2 * i + 1) / 2 = i by omega]
  exact ⟨dgo_dgt _ (by omega), dgo_dgt _ (by omega)⟩
theorem hex_back (F : Nat → Int) (hF : ∀ j, j < 32 → 0 ≤ F j ∧ F j < 256) (i : Nat) (hi : i < 32) : uxF (hexStr F) i = F i := by
  have g := hexP_get F hF 64 (by omega)
  have f := hF i hi
  unfold uxF
  rw [show hexStr F = hexP F 64 from rfl, g (2 * i) (by omega), g (2 * i + 1) (by omega)]
  unfold hexAt
  rw [if_pos (by omega), if_neg (by omega), show 2 * i / 2 = i by omega, show (2 * i + 1) / 2 = i by omega, dgv_dgt _ (by omega), dgv_dgt _ (by omega)]
  omega
/-- both readers answer the same -/
theorem unhex_both (s : ByteArray) : ∃ (R : Nat → Int) (re : Int),
    (∀ w, Calls Tryd.prog 18 #[.string s] w fun e w' => e = .returned (.tuple #[.agg (mk .u8 32 R), .int .i64 re]) ∧ Below w.heap.size w w') ∧
    (∀ w, Calls Tryd.prog 19 #[.string s] w fun e w' => e = .returned (.tuple #[.agg (mk .u8 32 R), .int .i64 re]) ∧ Below w.heap.size w w') := by
  by_cases h : s.size = 64
  · have ex : ∃ bad, bad ≤ 32 ∧ (∀ i, i < bad → good s i) ∧ (bad < 32 → ¬ good s bad) := by
      have : ∀ n, n ≤ 32 → (∀ i, i < n → good s i) ∨ ∃ bad, bad < n ∧ (∀ i, i < bad → good s i) ∧ ¬ good s bad := by
        intro n
        induction n with
        | zero => intro _; left; intro i hi; omega
        | succ n ih =>
          intro hn
          rcases ih (by omega) with a | ⟨b, h1, h2, h3⟩
          · by_cases g : good s n
            · left; intro i hi
              by_cases e : i = n
              · rw [e]; exact g
              · exact a i (by omega)
            · right; exact ⟨n, by omega, a, g⟩
          · right; exact ⟨b, by omega, h2, h3⟩
      rcases this 32 (by omega) with a | ⟨b, h1, h2, h3⟩
      · exact ⟨32, by omega, a, fun h => by omega⟩
      · exact ⟨b, by omega, h2, fun _ => h3⟩
    obtain ⟨bad, h1, h2, h3⟩ := ex
    by_cases hb : bad < 32
    · exact ⟨fun _ => 0, 4, fun w => unhex_any s w h bad h1 h2 h3 _ _ (fun _ => ⟨rfl, rfl⟩) (fun k => absurd hb k), fun w => runhex_any s w h bad h1 h2 h3 _ _ (fun _ => ⟨rfl, rfl⟩) (fun k => absurd hb k)⟩
    · exact ⟨uxF s, 0, fun w => unhex_any s w h bad h1 h2 h3 _ _ (fun k => absurd k hb) (fun _ => ⟨rfl, rfl⟩), fun w => runhex_any s w h bad h1 h2 h3 _ _ (fun k => absurd k hb) (fun _ => ⟨rfl, rfl⟩)⟩
  · exact ⟨fun _ => 0, 4, fun w => unhex_short s w h, fun w => runhex_short s w h⟩
theorem unhex_hex (F : Nat → Int) (hF : ∀ j, j < 32 → 0 ≤ F j ∧ F j < 256) (w : World) : Calls Tryd.prog 18 #[.string (hexStr F)] w fun e w' => e = .returned (.tuple #[.agg (mk .u8 32 F), .int .i64 0]) ∧ Below w.heap.size w w' := by
  have := unhex_any (hexStr F) w (hexP_size F 64) 32 (by omega) (fun i hi => hex_good F hF i hi) (fun h => by omega) (uxF (hexStr F)) 0 (fun h => by omega) (fun _ => ⟨rfl, rfl⟩)
  rwa [mk_congr (G := F) (fun j hj => hex_back F hF j hj)] at this
end Go.Proofs.YtbdahkbgjbaenaaDoor

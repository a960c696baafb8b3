/- Contracts: the reference's Lent, Pick, Same, Kept. -/
import Derived.Test.YtbdahkbgjbaenaaDoorSn
namespace Go.Proofs.YtbdahkbgjbaenaaDoor
open Go.RowKit

/-- lent bytes, and the room behind them -/
def lentF (M : List Int) (j : Nat) : Int := if j < M.length then M.getD j 0 else 165
set_option maxHeartbeats 2000000 in
theorem lent_any (sp : Option Addr) (cap : Nat) (M : List Int) (w : World) (hr : Rd w sp M) (hl : M.length ≤ 300) :
    Calls Tryd.prog 8 #[.slice sp M.length cap] w fun e w' => e = .returned (.slice (some ⟨w.heap.size, 0, none⟩) M.length (M.length + 8)) ∧ Row w' w.heap.size 5 .u8 (M.length + 8) (lentF M) ∧ Below w.heap.size w w' := by
  obtain ⟨i0, hi, hz0, hz1, hz2⟩ := info_parts info5
  have HR := Lib.hid hr
  clear hr
  obtain ⟨n, hn⟩ : ∃ n, M.length = n := ⟨_, rfl⟩
  have HL : Hid (∀ j, lentF M j = if j < n then M.getD j 0 else 165) := fun j => by unfold lentF; rw [hn]
  have HI : Hid (∀ i, i < n → ∃ k o, sp = some ⟨k, o, none⟩ ∧ k < w.heap.size ∧ w.cell? ⟨k, o + i, none⟩ = some (.int .u8 (M.getD i 0))) := fun i h => HR.out i (by omega)
  rw [hn] at hl ⊢
  clear hn HR
  go_enter Tryd.func8, Tryd.ntmps8
  go_wp2_with (at_make; go_must (refine wpList_make_full _ rfl (.tmp 7) (.tmp 7) 22 rfl w.heap.size 5 i0 (.int .u8 0) 1 Tryd.underlying22 hi hz0 hz1 .i64 .i64 ((n : Int) + 8) ((n : Int) + 8) (n + 8) rfl rfl (by simp) (by simp) (by rw [hz2]; omega) (by unfold maxLen; omega) (Nat.le_refl _) ?_))
  intro w1 hown hgrow
  rw [made_row] at hown
  have R0 := Lib.hid (row_of_owns hown)
  have HB := Lib.hid ((Below.refl w.heap.size w).grown hgrow (Nat.le_refl _) (by simp))
  clear hown hgrow
  go_wp2_with fail
  go_loopw [4] (fun i wr => ∃ (k : Nat) (F : Nat → Int), k ≤ n + 8 ∧ i = .int .i64 k ∧ Hid (Row wr w.heap.size 5 .u8 (n + 8) F) ∧ Hid (Below w.heap.size w wr) ∧ Hid (∀ j, j < k → F j = lentF M j)) (fun i _ => n + 8 - (intOf i).toNat)
  case atStart => exact ⟨0, _, Nat.zero_le _, rfl, R0.out, HB.out, fun j h1 => by omega⟩
  case round =>
    clear R0 HB
    obtain ⟨k, F, hk, rfl, R0, HB, HF⟩ := hrel
    by_cases hlt : k < n + 8
    · have ck := R0.out.cell k (by omega)
      have fk := R0.out.free k
      have hk8 : (k : Int) < (n : Int) + 8 := by omega
      by_cases hn2 : k < n
      · obtain ⟨b, o, rfl, hb, c⟩ := HI.out k hn2
        have c' : wr.cell? ⟨b, o + k, none⟩ = some (.int .u8 (M.getD k 0)) := (HB.out.cell (p := ⟨b, o + k, none⟩) hb).trans c
        have E : Hid (lentF M k = M.getD k 0) := by unfold Hid; rw [HL.out, if_pos hn2]
        generalize M.getD k 0 = y at *
        clear c
        go_wp2
        go_roundw
        case rel => exact ⟨k + 1, upd F k y, by omega, by go_num, R0.out.set _ _, Below.setCell HB.out (Nat.le_refl _) _, fun j h1 => by
          by_cases e : j = k
          · subst e; rw [upd_same, E.out]
          · rw [upd_other _ _ _ _ e]; exact HF.out j (by omega)⟩
        case measure => simp [intOf]; omega
      · have E : Hid (lentF M k = 165) := by unfold Hid; rw [HL.out, if_neg hn2]
        go_wp2
        go_roundw
        case rel => exact ⟨k + 1, upd F k 165, by omega, by go_num, R0.out.set _ _, Below.setCell HB.out (Nat.le_refl _) _, fun j h1 => by
          by_cases e : j = k
          · subst e; rw [upd_same, E.out]
          · rw [upd_other _ _ _ _ e]; exact HF.out j (by omega)⟩
        case measure => simp [intOf]; omega
    · have hkn : k = n + 8 := by omega
      have hk8 : (n : Int) + 8 ≤ k := by omega
      have R1 := Lib.hid (R0.out.congr (G := lentF M) (fun j hj => HF.out j (by omega)))
      clear R0 HF HI HL
      go_wp2
      go_ret
      exact ⟨rfl, R1.out, HB.out⟩
def PickPost (n : Nat) (w : World) (e : Ending) (w' : World) : Prop := ∃ k : Nat, k < n ∧ e = .returned (.int .i64 k) ∧ w = w'
theorem tmod_bd (x : Int) (n : Nat) (hn : 1 ≤ n) : -(n : Int) < x.tmod n ∧ x.tmod n < n := by
  have hp : (0 : Int) < n := by omega
  by_cases h : 0 ≤ x
  · rw [Int.tmod_eq_emod_of_nonneg h]
    have := Int.emod_nonneg x (show (n : Int) ≠ 0 by omega)
    have := Int.emod_lt_of_pos x hp
    omega
  · obtain ⟨y, rfl⟩ : ∃ y, x = -y := ⟨-x, by omega⟩
    rw [Int.neg_tmod, Int.tmod_eq_emod_of_nonneg (by omega)]
    have := Int.emod_nonneg y (show (n : Int) ≠ 0 by omega)
    have := Int.emod_lt_of_pos y hp
    omega
theorem pick_any (x : Int) (n : Nat) (w : World) (hn : 1 ≤ n) (hl : n ≤ 301) (h1 : -9223372036854775808 ≤ x) (h2 : x ≤ 9223372036854775807) : Calls Tryd.prog 9 #[.int .i64 x, .int .i64 n] w (PickPost n w) := by
  have bd := tmod_bd x n hn
  by_cases h0 : 0 ≤ x
  · have e := Int.tmod_eq_emod_of_nonneg (b := (n : Int)) h0
    have nn := Int.emod_nonneg x (show (n : Int) ≠ 0 by omega)
    rw [e] at bd
    obtain ⟨b1, b2⟩ := bd
    have E : Hid (∃ k : Nat, x % (n : Int) = k ∧ k < n) := ⟨(x % (n : Int)).toNat, by omega, by omega⟩
    clear e
    go_enter Tryd.func9, Tryd.ntmps9
    go_wp2
    go_ret
    obtain ⟨k, e, hk⟩ := E.out
    exact ⟨k, hk, by rw [e]; rfl, rfl⟩
  · have h0' : x < 0 := by omega
    obtain ⟨b1, b2⟩ := bd
    obtain ⟨r, hr⟩ : ∃ r, x.tmod n = r := ⟨_, rfl⟩
    by_cases h3 : r < 0
    · have E : Hid (∃ k : Nat, x.tmod n + n = k ∧ k < n) := ⟨(x.tmod n + n).toNat, by omega, by omega⟩
      rw [← hr] at h3
      clear hr h0
      go_enter Tryd.func9, Tryd.ntmps9
      go_wp2
      go_ret
      obtain ⟨k, e, hk⟩ := E.out
      exact ⟨k, hk, by rw [e]; rfl, rfl⟩
    · have E : Hid (∃ k : Nat, x.tmod n = k ∧ k < n) := ⟨(x.tmod n).toNat, by omega, by omega⟩
      have h4 : 0 ≤ x.tmod n := by omega
      clear hr h0 h3
      go_enter Tryd.func9, Tryd.ntmps9
      go_wp2
      go_ret
      obtain ⟨k, e, hk⟩ := E.out
      exact ⟨k, hk, by rw [e]; rfl, rfl⟩
set_option maxHeartbeats 1000000 in
theorem same_any (g n cap cap2 : Nat) (sp : Option Addr) (M : List Int) (w : World) (hn : M.length = n) (hl : n ≤ 300) (ha : ∀ j, j < n → w.cell? ⟨g, j, none⟩ = some (.int .u8 (M.getD j 0))) (hr : Rd w sp M) :
    Calls Tryd.prog 27 #[.slice (some ⟨g, 0, none⟩) n cap, .slice sp n cap2] w fun e w' => e = .returned (.bool true) ∧ Below w.heap.size w w' := by
  have HI : Hid (∀ i, i < n → ∃ k o, sp = some ⟨k, o, none⟩ ∧ k < w.heap.size ∧ w.cell? ⟨k, o + i, none⟩ = some (.int .u8 (M.getD i 0))) := fun i h => hr i (by omega)
  have HA := Lib.hid ha
  clear hn hr ha
  go_enter Tryd.func27, Tryd.ntmps27
  go_wp2
  go_loopw [5] (fun i wr => ∃ k q : Nat, k ≤ n ∧ i = .int .i64 k ∧ wr = w.drewN q) (fun i _ => n - (intOf i).toNat)
  case atStart => exact ⟨0, 0, Nat.zero_le _, rfl, rfl⟩
  case round =>
    obtain ⟨k, q, hk, rfl, rfl⟩ := hrel
    by_cases hlt : k < n
    · obtain ⟨b, o, rfl, hb, c⟩ := HI.out k hlt
      have c1 : (w.drewN q).cell? ⟨b, o + k, none⟩ = some (.int .u8 (M.getD k 0)) := c
      have c2 : (w.drewN q).cell? ⟨g, k, none⟩ = some (.int .u8 (M.getD k 0)) := HA.out k hlt
      have k0 : (0 : Int) ≤ (k : Int) := by omega
      have k1 : (k : Int) < (n : Int) := by omega
      have HW := Lib.hid (show ∃ q', w.drewN q = w.drewN q' from ⟨q, rfl⟩)
      generalize M.getD k 0 = y at *
      clear c hb
      generalize w.drewN q = W at *
      go_wp2
      go_quiet (fail)
      go_wp2
      go_roundw
      case rel =>
        obtain ⟨q', e'⟩ := HW.out
        exact ⟨k + 1, q' + nq, by omega, by go_num, by rw [e']; exact World.drewN_drewN _ _ _⟩
      case measure => simp [intOf]; omega
    · have hkn : k = n := by omega
      go_wp2
      go_ret
      exact ⟨rfl, below_drewN (Below.refl _ _) q⟩
theorem lentF_lo (M : List Int) (j : Nat) (h : j < M.length) : lentF M j = M.getD j 0 := by unfold lentF; rw [if_pos h]
theorem lentF_hi (M : List Int) (j : Nat) (h : M.length ≤ j) : lentF M j = 165 := by unfold lentF; rw [if_neg (by omega)]
set_option maxHeartbeats 1000000 in
theorem kept_any (g n cap2 : Nat) (sp : Option Addr) (M : List Int) (w : World) (hn : M.length = n) (hl : n ≤ 300) (h : Row w g 5 .u8 (n + 8) (lentF M)) (hr : Rd w sp M) :
    Calls Tryd.prog 12 #[.slice (some ⟨g, 0, none⟩) n (n + 8), .slice sp n cap2] w fun e w' => e = .returned (.bool true) ∧ Below w.heap.size w w' := by
  have S := same_any g n (n + 8) cap2 sp M w hn hl (fun j hj => by rw [h.cell j (by omega), lentF_lo M j (by omega)]) hr
  have H := Lib.hid h
  have HF : Hid (∀ j, n ≤ j → lentF M j = 165) := fun j hj => lentF_hi M j (by omega)
  clear h hr hn
  go_enter Tryd.func12, Tryd.ntmps12
  go_wp2_with fail
  refine S.mono ?_
  rintro e w1 ⟨rfl, b1⟩
  have R1 := Lib.hid (H.out.below b1 H.out.lt)
  have B1 := Lib.hid b1
  clear b1 S H
  go_wp2
  go_loopw [6] (fun i wr => ∃ k : Nat, n ≤ k ∧ k ≤ n + 8 ∧ i = .int .i64 k ∧ wr = w1) (fun i _ => n + 8 - (intOf i).toNat)
  case atStart => exact ⟨n, Nat.le_refl _, by omega, rfl, rfl⟩
  case round =>
    obtain ⟨k, hk1, hk2, rfl, rfl⟩ := hrel
    by_cases hlt : k < n + 8
    · have c := R1.out.cell k (by omega)
      rw [HF.out k hk1] at c
      have k0 : (k : Int) < (n : Int) + 8 := by omega
      go_wp2
      go_roundw
      case rel => exact ⟨k + 1, by omega, by omega, by go_num, trivial⟩
      case measure => simp [intOf]; omega
    · have k0 : (n : Int) + 8 ≤ (k : Int) := by omega
      go_wp2
      go_ret
      exact ⟨rfl, B1.out⟩
theorem rsum_any (sp : Option Addr) (cap : Nat) (M : List Int) (w : World) (hr : Rd w sp M) (hs : sp = none → M = [] ∧ cap = 0) (hb : isB M) (hl : M.length ≤ 300) (hsp : ∀ a, sp = some a → a.spot = none) :
    Calls Tryd.prog 10 #[.slice sp M.length cap] w fun e w' => e = .returned (.agg (mk .u8 32 (dig M))) ∧ Below w.heap.size w w' := by
  cases sp with
  | none => exact rsum_none none cap M w hr hs hb hl rfl
  | some a => exact rsum_some (some a) cap M w hr hs hb hl hsp ⟨a, rfl⟩
end Go.Proofs.YtbdahkbgjbaenaaDoor

/- Contracts: New, great. -/
import Derived.Test.YtonnopcafmhaaaaDoorBd
namespace Go.Proofs.YtonnopcafmhaaaaDoor
open Go.RowKit

/-- how many nodes -/
def clamp (n : Int) : Nat := (min (max n 0) 128).toNat
theorem clamp_le (n : Int) : clamp n ≤ 128 := by unfold clamp; omega
/-- what is ahead of whom, as it is told -/
def ahA (N m : Nat) (M : Nat → List Int) : Nat → Nat → Bool := fun a k => decide (a < N ∧ a < m ∧ k < N ∧ (k : Int) ∈ M a)
/-- so far: i rows, and j of the next -/
def acc (N m : Nat) (M : Nat → List Int) (i j : Nat) : Nat → Nat → Bool := fun a k => decide (a < m ∧ k < N ∧ (a < i ∧ (k : Int) ∈ M a ∨ a = i ∧ (k : Int) ∈ (M a).take j))
section
variable {N m : Nat} {M : Nat → List Int} {i j : Nat}
theorem acc_0 : acc N m M 0 0 = fun _ _ => false := by
  funext a k; unfold acc; simp
theorem acc_row : acc N m M i (M i).length = acc N m M (i + 1) 0 := by
  funext a k; unfold acc
  refine decide_eq_decide.2 ?_
  constructor
  · rintro ⟨h1, h2, h | ⟨rfl, h⟩⟩
    · exact ⟨h1, h2, .inl ⟨by omega, h.2⟩⟩
    · rw [List.take_length] at h; exact ⟨h1, h2, .inl ⟨by omega, h⟩⟩
  · rintro ⟨h1, h2, h | ⟨rfl, h⟩⟩
    · by_cases e : a = i
      · subst e; exact ⟨h1, h2, .inr ⟨rfl, by rw [List.take_length]; exact h.2⟩⟩
      · exact ⟨h1, h2, .inl ⟨by omega, h.2⟩⟩
    · simp at h
theorem take_mem {l : List Int} (hj : j < l.length) (y : Int) : y ∈ l.take (j + 1) ↔ y ∈ l.take j ∨ y = l.getD j 0 := by
  rw [List.take_add_one, List.getElem?_eq_getElem hj, List.getD_eq_getElem?_getD, List.getElem?_eq_getElem hj]
  simp only [List.mem_append, Option.toList_some, List.mem_singleton, Option.getD_some]
theorem acc_yes {x : Nat} (hj : j < (M i).length) (hx : (M i).getD j 0 = (x : Int)) (hN : x < N) (hm : i < m) : acc N m M i (j + 1) = up2 (acc N m M i j) i x := by
  funext a k; unfold acc up2
  by_cases e : a = i
  · subst e
    rw [if_pos rfl]; unfold upd
    by_cases e : k = x
    · subst e
      rw [if_pos rfl]
      exact decide_eq_true ⟨hm, hN, .inr ⟨rfl, (take_mem hj _).2 (.inr hx.symm)⟩⟩
    · rw [if_neg e]
      refine decide_eq_decide.2 ?_
      rw [take_mem hj, hx]
      constructor
      · rintro ⟨h1, h2, h | ⟨_, h | h⟩⟩
        · exact ⟨h1, h2, .inl h⟩
        · exact ⟨h1, h2, .inr ⟨rfl, h⟩⟩
        · omega
      · rintro ⟨h1, h2, h | ⟨_, h⟩⟩
        · exact ⟨h1, h2, .inl h⟩
        · exact ⟨h1, h2, .inr ⟨rfl, .inl h⟩⟩
  · rw [if_neg e]
    refine decide_eq_decide.2 ?_
    constructor
    · rintro ⟨h1, h2, h | h⟩
      · exact ⟨h1, h2, .inl h⟩
      · exact absurd h.1 e
    · rintro ⟨h1, h2, h | h⟩
      · exact ⟨h1, h2, .inl h⟩
      · exact absurd h.1 e
theorem acc_no (hj : j < (M i).length) (hx : ¬ (0 ≤ (M i).getD j 0 ∧ (M i).getD j 0 < N)) : acc N m M i (j + 1) = acc N m M i j := by
  funext a k; unfold acc
  refine decide_eq_decide.2 ?_
  constructor
  · rintro ⟨h1, h2, h | ⟨rfl, h⟩⟩
    · exact ⟨h1, h2, .inl h⟩
    · rcases (take_mem hj _).1 h with h | h
      · exact ⟨h1, h2, .inr ⟨rfl, h⟩⟩
      · rw [← h] at hx; omega
  · rintro ⟨h1, h2, h | ⟨rfl, h⟩⟩
    · exact ⟨h1, h2, .inl h⟩
    · exact ⟨h1, h2, .inr ⟨rfl, (take_mem hj _).2 (.inl h)⟩⟩
theorem acc_end : acc N m M (min N m) 0 = ahA N m M := by
  funext a k; unfold acc ahA
  refine decide_eq_decide.2 ?_
  constructor
  · rintro ⟨h1, h2, h | ⟨rfl, h⟩⟩
    · exact ⟨by omega, h1, h2, h.2⟩
    · simp at h
  · rintro ⟨h1, h2, h3, h⟩
    exact ⟨h2, h3, .inl ⟨by omega, h⟩⟩
theorem turn_up (A : Nat → Nat → Bool) (i x : Nat) : turnA (up2 A i x) = up2 (turnA A) x i := by
  funext a b; unfold turnA up2
  by_cases h1 : b = i
  · by_cases h2 : a = x
    · subst h1 h2; simp [upd]
    · subst h1; simp [upd, h2]
  · by_cases h2 : a = x
    · subst h2; simp [upd, h1]
    · simp [h1, h2]
end
/-- a graph in memory -/
structure GR (w : World) (g n : Nat) (A : Nat → Nat → Bool) : Prop where
  blk : GB w g n A (turnA A)
  le : n ≤ 128
  fit : ∀ i k, A i k = true → i < n ∧ k < n
theorem GR.below {w w' : World} {g n B : Nat} {A : Nat → Nat → Bool} (h : GR w g n A) (b : Below B w w') (hg : g < B) : GR w' g n A := ⟨below_row b h.blk hg, h.le, h.fit⟩
theorem GR.lt {w : World} {g n : Nat} {A : Nat → Nat → Bool} (h : GR w g n A) : g < w.heap.size := World.rowIs.lt h.blk
set_option maxHeartbeats 4000000 in
theorem new_any (n : Int) (pp : Option Addr) (m cap : Nat) (S : Nat → Option Addr) (M : Nat → List Int) (C : Nat → Nat) (w : World) (h : Pt w pp m S M C) (hm : m ≤ maxLen) :
    Calls Tryd.prog 10 #[.int .i64 n, .slice pp m cap] w fun e w' => e = .returned (.pointer (some ⟨w.heap.size, 0, none⟩)) ∧ GR w' w.heap.size (clamp n) (ahA (clamp n) m M) ∧ Below w.heap.size w w' := by
  have hN := clamp_le n
  obtain ⟨X, hA, hB⟩ : ∃ X : Int, (if n < 0 then 0 else n) = X ∧ (if 128 < X then 128 else X) = (clamp n : Int) := ⟨_, rfl, by unfold clamp; split <;> split <;> omega⟩
  have HP := Lib.hid h
  clear h
  have HG := Lib.hid (gb_new w (clamp n))
  have HB0 := Lib.hid ((Below.refl _ w).alloc (Nat.le_refl _) (.cells (g0 (clamp n)) 52))
  have c0 : (w.alloc (.cells (g0 (clamp n)) 52)).cell? ⟨w.heap.size, 0, none⟩ = some (.int .i64 (clamp n : Int)) := HG.out.cell (i := 0) (by omega)
  generalize hNN : clamp n = N at *
  clear hNN
  have hC : (if m < N then (m : Int) else N) = ((min N m : Nat) : Int) := by split <;> omega
  have hL1 : min N m ≤ N := by omega
  have hL2 : min N m ≤ m := by omega
  have HE : Hid (acc N m M (min N m) 0 = ahA N m M) := acc_end
  generalize min N m = L at *
  have FIT : Hid (∀ i k, ahA N m M i k = true → i < N ∧ k < N) := fun i k h => by
    unfold ahA at h
    have := of_decide_eq_true h
    exact ⟨this.1, this.2.2.1⟩
  unfold maxLen at hm
  go_enter Tryd.func10, Tryd.ntmps10
  go_wp2_with (refine build_g0 rfl (.tmp 11) rfl (N : Int) rfl ?_)
  go_loopw [21] (fun c wr => ∃ i : Nat, i ≤ L ∧ c = .int .i64 i ∧ Hid (GB wr w.heap.size N (acc N m M i 0) (turnA (acc N m M i 0))) ∧ Hid (Below w.heap.size w wr)) (fun c _ => L - (intOf c).toNat)
  case atStart => exact ⟨0, by omega, rfl, by rw [acc_0]; exact HG.out, HB0.out⟩
  case round =>
    clear HG HB0 c0 hA hB hC
    obtain ⟨i, hi, rfl, HG, HB⟩ := hrel
    by_cases hlt : i < L
    · obtain ⟨b1, o1, rfl, g1, c1⟩ := HP.out.at_ i (by omega)
      have c1 : wr.cell? ⟨b1, o1 + i, none⟩ = _ := (HB.out.cell (p := ⟨b1, o1 + i, none⟩) g1).trans c1
      have RD := Lib.hid (HP.out.rd i (by omega))
      have hcp := HP.out.cp i (by omega)
      have ROW := Lib.hid (acc_row (N := N) (m := m) (M := M) (i := i))
      have i0 : (0 : Int) ≤ i := by omega
      have iL : (i : Int) < L := by omega
      have im : (i : Int) < m := by omega
      have im' : i < m := by omega
      obtain ⟨l, hl⟩ : ∃ l, (M i).length = l := ⟨_, rfl⟩
      rw [hl] at c1 ROW hcp
      generalize S i = si at *
      have hlm : l ≤ maxLen := by omega
      clear hcp
      unfold maxLen at hlm
      have HL := Lib.hid hl
      clear hl
      go_wp2
      go_loopw [29] (fun c wr => ∃ j : Nat, j ≤ l ∧ c = .int .i64 j ∧ Hid (GB wr w.heap.size N (acc N m M i j) (turnA (acc N m M i j))) ∧ Hid (Below w.heap.size w wr)) (fun c _ => l - (intOf c).toNat)
      case atStart => exact ⟨0, by omega, rfl, HG.out, HB.out⟩
      case round =>
        clear HG HB c1
        obtain ⟨j, hj, rfl, HG, HB⟩ := hrel
        by_cases hjl : j < l
        · obtain ⟨b2, o2, rfl, g2, c2⟩ := RD.out j (by rw [HL.out]; exact hjl)
          have c2 : wr.cell? ⟨b2, o2 + j, none⟩ = _ := (HB.out.cell (p := ⟨b2, o2 + j, none⟩) g2).trans c2
          have j0 : (0 : Int) ≤ j := by omega
          have jl : (j : Int) < l := by omega
          by_cases hx : 0 ≤ (M i).getD j 0 ∧ (M i).getD j 0 < N
          · obtain ⟨x, hxe⟩ : ∃ x : Nat, (M i).getD j 0 = x := ⟨((M i).getD j 0).toNat, by omega⟩
            have hxN : x < N := by omega
            have EN := Lib.hid (acc_yes (N := N) (m := m) (M := M) (i := i) (j := j) (x := x) (by rw [HL.out]; exact hjl) hxe hxN im')
            rw [hxe] at c2
            clear hx hxe
            have HO := holds_yes HG.out hxN
            go_wp2_with fail
            refine HO.mono ?_
            rintro e w2 ⟨rfl, rfl⟩
            clear HO
            have x0 : (0 : Int) ≤ x := by omega
            have x8 : (x : Int) < 128 := by omega
            have i8 : (i : Int) < 128 := by omega
            have A1 := add_ga w.heap.size N i x _ _ wr (by omega) (by omega) HG.out
            go_wp2_with fail
            refine A1.mono ?_
            rintro e w3 ⟨rfl, G3, X3⟩
            have A2 := add_gb w.heap.size N x i _ _ w3 (by omega) (by omega) G3
            have HX3 := Lib.hid X3
            clear A1 G3 X3
            go_wp2_with fail
            refine A2.mono ?_
            rintro e w4 ⟨rfl, G4, X4⟩
            have HG4 : Hid (GB w4 w.heap.size N (acc N m M i (j + 1)) (turnA (acc N m M i (j + 1)))) := by
              unfold Hid
              rw [EN.out, turn_up]
              exact G4
            have HB4 : Hid (Below w.heap.size w w4) := HB.out.trans ((HX3.out.trans X4).below1 HB.out.size (Nat.le_refl _))
            clear A2 G4 X4 HG HB HX3 EN c2
            go_wp2
            go_roundw
            case rel => exact ⟨j + 1, by omega, by go_num, HG4.out, HB4.out⟩
            case measure => simp [intOf]; omega
          · have EN := acc_no (N := N) (m := m) (M := M) (i := i) (j := j) (by rw [HL.out]; exact hjl) hx
            have HO := holds_no HG.out hx
            rw [← EN] at HG
            clear hx EN
            generalize (M i).getD j 0 = x at *
            go_wp2_with fail
            refine HO.mono ?_
            rintro e w2 ⟨rfl, rfl⟩
            clear HO c2
            go_wp2
            go_roundw
            case rel => exact ⟨j + 1, by omega, by go_num, HG.out, HB.out⟩
            case measure => simp [intOf]; omega
        · have hjl : j = l := by omega
          subst hjl
          rw [ROW.out] at HG
          go_wp2
          go_roundw
          case rel => exact ⟨i + 1, by omega, by go_num, HG.out, HB.out⟩
          case measure => simp [intOf]; omega
    · have hiL : i = L := by omega
      subst hiL
      rw [HE.out] at HG
      go_wp2
      go_ret
      exact ⟨rfl, ⟨HG.out, hN, FIT.out⟩, HB.out⟩
end Go.Proofs.YtonnopcafmhaaaaDoor

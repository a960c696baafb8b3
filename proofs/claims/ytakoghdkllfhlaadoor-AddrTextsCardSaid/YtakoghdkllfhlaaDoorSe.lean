/- What is printed is taken apart again: no Go in sight. -/
import Derived.Test.YtakoghdkllfhlaaDoorSd
namespace Go.Proofs.YtakoghdkllfhlaaDoor
open Go.RowKit

theorem pe_val (u : Nat) (n : Int) (hn : (u : Int) = n) (h2 : n ≤ 9223372036854775807) : pv (Lib.decDigits u) false = n ∧ pe (Lib.decDigits u) false = 0 := by
  have a := pv_num (dec_isT u false (fun h => Bool.noConfusion h)) (dec_len 18 u (by have : (10 : Nat) ^ 19 = 10000000000000000000 := by decide
                                                                                     omega))
  have e : sd (u : Int) (mi false) = n := hn
  rw [dec_val, e, nv_yes (by omega) h2, ne_yes (by omega) h2] at a
  exact a
theorem itoa_pos {n : Int} (h : 0 ≤ n) : Lib.itoa n = Lib.decDigits n.toNat := by unfold Lib.itoa; rw [if_neg (by omega)]
theorem dec_no {u : Nat} {c : UInt8} (h : c ∈ Lib.decDigits u) : 48 ≤ c.toNat ∧ c.toNat ≤ 57 := dec_dig u c h
theorem last_num {n : Int} (h0 : 0 ≤ n) (h1 : n ≤ 9223372036854775807) : lastL (Lib.itoa n) = (1, n, []) := by
  rw [itoa_pos h0]
  obtain ⟨e1, e2⟩ := pe_val n.toNat n (by omega) h1
  have hd : ∀ c : UInt8, (Lib.decDigits n.toNat).head? = some c → 48 ≤ c.toNat ∧ c.toNat ≤ 57 := fun c h => dec_no (List.mem_of_mem_head? h)
  have n34 : (Lib.decDigits n.toNat).head? ≠ some 34 := fun h => by have := (hd _ h).1; revert this; decide
  have n45 : (Lib.decDigits n.toNat).head? ≠ some 45 := fun h => by have := (hd _ h).1; revert this; decide
  unfold lastL
  rw [if_neg n34]
  unfold nume numv
  rw [if_neg n45, if_neg n45, e1, e2, if_pos rfl]
theorem cut_at {c : UInt8} {a b : List UInt8} (h : c ∉ a) : cutA c (a ++ c :: b) = a ∧ cutB c (a ++ c :: b) = b := by
  induction a with
  | nil =>
    unfold cutA cutB
    simp
  | cons x r ih =>
    rw [List.mem_cons, not_or] at h
    obtain ⟨h1, h2⟩ := ih h.2
    have hn : (x != c) = true := by simpa using fun e => h.1 (Eq.symm e)
    unfold cutA at h1 ⊢
    unfold cutB at h2 ⊢
    rw [List.cons_append, List.takeWhile_cons, List.dropWhile_cons, hn, if_pos rfl, if_pos rfl, h1, h2]
    exact ⟨rfl, rfl⟩
theorem trim_at (c : UInt8) (l : List UInt8) : trim c (l ++ [c]) = l := by unfold trim; rw [if_pos (by simp), List.dropLast_concat]
theorem name_no {s : ByteArray} (h : nameB s = true) : 46 ∉ lb s ∧ 91 ∉ lb s := by
  unfold nameB okS at h
  simp only [Bool.and_eq_true] at h
  have ha := h.1.2
  unfold allB at ha
  rw [List.all_eq_true] at ha
  exact ⟨fun hm => by have := ha _ hm; revert this; decide, fun hm => by have := ha _ hm; revert this; decide⟩
theorem lb_zero {s : ByteArray} (h : s.size = 0) : s = ⟨#[]⟩ := size_zero s h
/-- what is printed, as bytes -/
def tailA (a : Adr) : List UInt8 := if a.kd = 1 then 91 :: (Lib.itoa a.i ++ [93]) else if a.kd = 2 then 91 :: (34 :: (lb a.k ++ [34]) ++ [93]) else []
theorem lb_prA (a : Adr) : lb (prA a) = lb a.t ++ 46 :: (lb a.n ++ tailA a) := by
  unfold prA tailA lb
  split
  · simp [ByteArray.data_append]
  · split
    · simp [ByteArray.data_append]
    · simp [ByteArray.data_append]
theorem piece_pr {a : Adr} (h : checkB a = true) : pieceL (lb (prA a)) = a := by
  unfold checkB at h
  simp only [Bool.and_eq_true] at h
  obtain ⟨⟨ht, hn⟩, hl⟩ := h
  obtain ⟨t46, -⟩ := name_no ht
  obtain ⟨-, n91⟩ := name_no hn
  rw [lb_prA]
  obtain ⟨c1, c2⟩ := cut_at (c := 46) (b := lb a.n ++ tailA a) t46
  unfold pieceL
  rw [c1, c2]
  obtain ⟨t, n, kd, i, k⟩ := a
  unfold lastB at hl
  dsimp only at *
  by_cases k0 : kd = 0
  · subst k0
    rw [if_pos rfl] at hl
    simp only [Bool.and_eq_true, beq_iff_eq, decide_eq_true_eq] at hl
    obtain ⟨rfl, hk⟩ := hl
    have e := size_zero k hk
    subst e
    have eT : tailA ⟨t, n, 0, 0, ⟨#[]⟩⟩ = [] := by unfold tailA; simp
    rw [eT, List.append_nil]
    obtain ⟨-, e2, e3⟩ := index_out n91
    rw [e2, e3, if_neg n91]
  · rw [if_neg k0] at hl
    by_cases k1 : kd = 1
    · subst k1
      rw [if_pos rfl] at hl
      simp only [Bool.and_eq_true, decide_eq_true_eq] at hl
      obtain ⟨⟨i0, i1⟩, hk⟩ := hl
      have e := size_zero k hk
      subst e
      have eT : tailA ⟨t, n, 1, i, ⟨#[]⟩⟩ = 91 :: (Lib.itoa i ++ [93]) := by unfold tailA; simp
      rw [eT]
      obtain ⟨e2, e3⟩ := cut_at (c := 91) (b := Lib.itoa i ++ [93]) n91
      rw [e2, e3, trim_at, last_num i0 (by omega), if_pos (by simp)]
    · rw [if_neg k1] at hl
      by_cases k2 : kd = 2
      · subst k2
        rw [if_pos rfl] at hl
        simp only [Bool.and_eq_true, beq_iff_eq] at hl
        obtain ⟨rfl, -⟩ := hl
        have eT : tailA ⟨t, n, 2, 0, k⟩ = 91 :: (34 :: (lb k ++ [34]) ++ [93]) := by unfold tailA; simp
        rw [eT]
        obtain ⟨e2, e3⟩ := cut_at (c := 91) (b := 34 :: (lb k ++ [34]) ++ [93]) n91
        have e4 : lastL (34 :: (lb k ++ [34])) = (2, 0, lb k) := by
          unfold lastL
          rw [if_pos (by rfl), List.tail_cons, trim_at]
        rw [e2, e3, trim_at, e4, if_pos (by simp)]
      · rw [if_neg k2] at hl; cases hl
/-- any way to take a text apart that takes each good address' text apart as it gives the same answer -/
theorem par_same {g : ByteArray → Adr} (hg : ∀ a, checkB a = true → g (prA a) = a) (s : ByteArray) :
    (if checkB (g s) = true ∧ prA (g s) = s then (g s, (0 : Int)) else (⟨⟨#[]⟩, ⟨#[]⟩, 0, 0, ⟨#[]⟩⟩, 4)) = parA s := by
  unfold parA
  by_cases h : checkB (g s) = true ∧ prA (g s) = s
  · rw [if_pos h]
    have e : pieceL (lb s) = g s := by have := piece_pr h.1; rwa [h.2] at this
    rw [e, if_pos h]
  · rw [if_neg h]
    by_cases h2 : checkB (pieceL (lb s)) = true ∧ prA (pieceL (lb s)) = s
    · have e : g s = pieceL (lb s) := by have := hg _ h2.1; rwa [h2.2] at this
      rw [e] at h
      exact absurd h2 h
    · rw [if_neg h2]
/-- an address that may be is read of its text -/
theorem par_pr {a : Adr} (h : checkB a = true) : parA (prA a) = (a, 0) := by
  unfold parA
  rw [piece_pr h, if_pos ⟨h, rfl⟩]
end Go.Proofs.YtakoghdkllfhlaaDoor

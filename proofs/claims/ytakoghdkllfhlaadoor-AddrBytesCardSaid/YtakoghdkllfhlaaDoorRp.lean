/- Get of the reference, in plain words, tells the same. -/
import Derived.Test.YtakoghdkllfhlaaDoorRo
namespace Go.Proofs.YtakoghdkllfhlaaDoor
open Go.RowKit Go.Lib

/-- the number behind an address, and whether the object may be -/
def refT (M : List Nat) (A : Adr) (big p : Nat) : Obt × Nat × Nat := match gs 0 (M.drop p) with
  | .error z => (zK, 0, z)
  | .ok (x, k) => if 1000 < big ∨ 4294967295 < x then (zK, 0, 4) else if checkKB ⟨A, (x : Nat)⟩ = true then (⟨A, (x : Nat)⟩, p + k, 0) else (zK, 0, 4)
def refC (M : List Nat) (t n : ByteArray) (c p : Nat) : Obt × Nat × Nat :=
  if 2 < c then (zK, 0, 4) else if c = 1 then match gs 0 (M.drop (p + 1)) with
    | .error z => (zK, 0, z)
    | .ok (big, k) => refT M ⟨t, n, 1, (big : Nat), ⟨#[]⟩⟩ big (p + 1 + k)
  else if c = 2 then match gstr (M.drop (p + 1)) 24 with
    | .error z => (zK, 0, z)
    | .ok (s, k) => refT M ⟨t, n, 2, 0, s⟩ 0 (p + 1 + k)
  else refT M ⟨t, n, (c : Nat), 0, ⟨#[]⟩⟩ 0 (p + 1)
/-- what the reference's Get tells -/
def getR (M : List Nat) : Obt × Nat × Nat := match gstr M 24 with
  | .error z => (zK, 0, z)
  | .ok (t, a) => match gstr (M.drop a) 24 with
    | .error z => (zK, 0, z)
    | .ok (n, k) => if M.length ≤ a + k then (zK, 0, 2) else refC M t n (M.getD (a + k) 0) (a + k)
theorem stShort_err {M : List Nat} {a e : Nat} (h : e ≠ 0) : stShort M a e = (0, a, e) := by unfold stShort; rw [if_pos h]
theorem stText_err {M : List Nat} {a e : Nat} (h : e ≠ 0) : stText M a e = (⟨#[]⟩, a, e) := by unfold stText; rw [if_pos h]
theorem stKind_err {M : List Nat} {a e : Nat} (h : e ≠ 0) : stKind M a e = (0, a, e) := by unfold stKind; rw [if_pos h]
theorem getF_err {A : Adr} {n a e : Nat} (h : e ≠ 0) : getF A n a e = (zK, 0, e) := by unfold getF; rw [if_pos h]
/-- behind the Kind -/
def getL (M : List Nat) (t n : ByteArray) (k : Nat × Nat × Nat) : Obt × Nat × Nat :=
  getF (stLast M t n k).1 (stShort M (stLast M t n k).2.1 (stLast M t n k).2.2).1 (stShort M (stLast M t n k).2.1 (stLast M t n k).2.2).2.1 (stShort M (stLast M t n k).2.1 (stLast M t n k).2.2).2.2
theorem getL_err {M : List Nat} {t n : ByteArray} {a e : Nat} (h : e ≠ 0) : getL M t n (0, a, e) = (zK, 0, e) := by
  unfold getL stLast
  rw [if_neg (by simp), if_neg (by simp)]
  simp only [stShort_err h, getF_err h]
theorem check_low {t n : ByteArray} {big : Nat} {N : Int} (hb : 1000 < big) (h64 : big < 2 ^ 64) : checkKB ⟨⟨t, n, 1, i64 big, ⟨#[]⟩⟩, N⟩ = false := by
  unfold checkKB checkB lastB
  rw [if_neg (by simp), if_pos rfl]
  have : decide (0 ≤ i64 big) = false ∨ decide (i64 big < 128) = false := by
    simp only [decide_eq_false_iff_not]
    unfold i64 wrap64
    omega
  rcases this with h | h <;> dsimp only <;> rw [h] <;> simp
theorem i64_low {big : Nat} (hb : ¬ 1000 < big) : i64 big = big := by
  unfold i64
  unfold wrap64

  omega
theorem tail_eq {M : List Nat} (A A' : Adr) (big p : Nat) (hb : ¬ 1000 < big → A' = A) (hb2 : 1000 < big → ∀ N, checkKB ⟨A', N⟩ = false) :
    getF A' (stShort M p 0).1 (stShort M p 0).2.1 (stShort M p 0).2.2 = refT M A big p := by
  unfold refT stShort
  rw [if_neg (by simp)]
  cases hg : gs 0 (M.drop p) with
  | error z =>
    have := gs_err _ _ _ hg
    exact getF_err (show z ≠ 0 by omega)
  | ok q =>
    obtain ⟨x, k⟩ := q
    dsimp only
    unfold getF
    rw [if_neg (by simp)]
    by_cases h1 : 1000 < big
    · rw [if_pos (Or.inr (hb2 h1 _)), if_pos (Or.inl h1)]
    · rw [hb h1]
      by_cases h2 : 4294967295 < x
      · rw [if_pos (Or.inl (by omega)), if_pos (Or.inr h2)]
      · have hx : x % 4294967296 = x := by omega
        rw [hx]
        cases hc : checkKB ⟨A, (x : Nat)⟩ with
        | true => rw [if_neg (by simp), if_neg (by omega), if_pos rfl]
        | false => rw [if_pos (Or.inr rfl), if_neg (by omega), if_neg (by simp)]
theorem getK_eq (M : List Nat) (hM : ∀ c, c ∈ M → c < 256) : getK M = getR M := by
  have e0 : getK M = getL M (stText M 0 0).1 (stText M (stText M 0 0).2.1 (stText M 0 0).2.2).1 (stKind M (stText M (stText M 0 0).2.1 (stText M 0 0).2.2).2.1 (stText M (stText M 0 0).2.1 (stText M 0 0).2.2).2.2) := rfl
  rw [e0]
  unfold getR
  cases h1 : gstr M 24 with
  | error z =>
    have hz := gstr_err h1
    have s1 : stText M 0 0 = (⟨#[]⟩, 0, z) := by unfold stText; rw [if_neg (by simp), List.drop_zero, h1]
    simp only [s1, stText_err (show z ≠ 0 by omega), stKind_err (show z ≠ 0 by omega)]
    exact getL_err (by omega)
  | ok q =>
    obtain ⟨t, a⟩ := q
    have s1 : stText M 0 0 = (t, a, 0) := by unfold stText; rw [if_neg (by simp), List.drop_zero, h1]; simp
    simp only [s1]
    cases h2 : gstr (M.drop a) 24 with
    | error z =>
      have hz := gstr_err h2
      have s2 : stText M a 0 = (⟨#[]⟩, a, z) := by unfold stText; rw [if_neg (by simp), h2]
      simp only [s2, stKind_err (show z ≠ 0 by omega)]
      exact getL_err (by omega)
    | ok q =>
      obtain ⟨n, k⟩ := q
      have s2 : stText M a 0 = (n, a + k, 0) := by unfold stText; rw [if_neg (by simp), h2]
      simp only [s2]
      by_cases hl : M.length ≤ a + k
      · have s3 : stKind M (a + k) 0 = (0, a + k, 2) := by unfold stKind; rw [if_neg (by simp), List.drop_eq_nil_of_le hl]
        rw [s3, if_pos hl]
        exact getL_err (by omega)
      · rw [if_neg hl]
        obtain ⟨p, hp⟩ : ∃ p, a + k = p := ⟨_, rfl⟩
        rw [hp] at hl ⊢
        obtain ⟨c, hc⟩ : ∃ c, M.getD p 0 = c := ⟨_, rfl⟩
        have s3 : stKind M p 0 = if 2 < c then (0, p, 4) else (c, p + 1, 0) := by unfold stKind; rw [if_neg (by simp), drop_cons' (by omega), hc]
        rw [s3, hc]
        unfold refC
        by_cases c2 : 2 < c
        · rw [if_pos c2, if_pos c2]; exact getL_err (by omega)
        rw [if_neg c2, if_neg c2]
        unfold getL stLast
        by_cases k1 : c = 1
        · subst k1
          simp only [if_pos]
          cases hg : gs 0 (M.drop (p + 1)) with
          | error z =>
            have := gs_err _ _ _ hg
            have s4 : stShort M (p + 1) 0 = (0, p + 1, z) := by unfold stShort; rw [if_neg (by simp), hg]
            simp only [s4, stShort_err (show z ≠ 0 by omega)]
            exact getF_err (by omega)
          | ok q =>
            obtain ⟨big, j⟩ := q
            have s4 : stShort M (p + 1) 0 = (big, p + 1 + j, 0) := by unfold stShort; rw [if_neg (by simp), hg]
            have hbd : big < 2 ^ 64 := by have := gs_bd (fun c hc => hM c (List.mem_of_mem_drop hc)) 0 big j (by omega) hg; simpa using this
            simp only [s4]
            exact tail_eq _ _ big _ (fun h => by rw [i64_low h]) (fun h N => check_low h hbd)
        · rw [if_neg k1]
          by_cases k2 : c = 2
          · subst k2
            simp only [if_pos, if_neg k1]
            cases hg : gstr (M.drop (p + 1)) 24 with
            | error z =>
              have := gstr_err hg
              have s4 : stText M (p + 1) 0 = (⟨#[]⟩, p + 1, z) := by unfold stText; rw [if_neg (by simp), hg]
              simp only [s4, stShort_err (show z ≠ 0 by omega)]
              exact getF_err (by omega)
            | ok q =>
              obtain ⟨s, j⟩ := q
              have s4 : stText M (p + 1) 0 = (s, p + 1 + j, 0) := by unfold stText; rw [if_neg (by simp), hg]
              simp only [s4]
              exact tail_eq _ _ 0 _ (fun _ => rfl) (fun h => absurd h (by omega))
          · simp only [if_neg k1, if_neg k2]
            exact tail_eq _ _ 0 _ (fun _ => rfl) (fun h => absurd h (by omega))
end Go.Proofs.YtakoghdkllfhlaaDoor

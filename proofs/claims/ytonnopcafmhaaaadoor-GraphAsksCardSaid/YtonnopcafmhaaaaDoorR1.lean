/- GraphRight in plain words. -/
import Derived.Test.YtonnopcafmhaaaaDoorC8
namespace Go.Proofs.YtonnopcafmhaaaaDoor

/-- the order -/
def oL (A : Nat → Nat → Bool) (N : Nat) : List Nat := ordM A N N fun _ => false
/-- what has no place -/
def kL (A : Nat → Nat → Bool) (N : Nat) : List Nat := lstN (stuckS A N) 128
theorem lst_kL (A : Nat → Nat → Bool) (N : Nat) : lst (stuckS A N) 128 = nl (kL A N) := rfl
theorem lst_nl (S : Nat → Bool) (n : Nat) : lst S n = nl (lstN S n) := rfl
theorem mem_lstN {S : Nat → Bool} {n k : Nat} : k ∈ lstN S n ↔ k < n ∧ S k = true := by unfold lstN; rw [List.mem_filter, List.mem_range]
theorem lstN_nodup (S : Nat → Bool) (n : Nat) : (lstN S n).Nodup := List.Pairwise.filter _ List.nodup_range
theorem lstN_len (S : Nat → Bool) : ∀ n, (lstN S n).length = cnt S n
  | 0 => rfl
  | n + 1 => by
    have ih := lstN_len S n
    unfold lstN at *
    unfold cnt
    rw [List.range_succ, List.filter_append, List.length_append, ih]
    by_cases h : S n = true
    · simp [h]
    · simp [h]
theorem cnt_beyond {S : Nat → Bool} {n : Nat} (h : ∀ i, S i = true → i < n) : ∀ d, cnt S (n + d) = cnt S n
  | 0 => rfl
  | d + 1 => by
    have e1 : cnt S (n + d + 1) = cnt S (n + d) + if S (n + d) = true then 1 else 0 := rfl
    rw [← Nat.add_assoc, e1, cnt_beyond h d, if_neg (fun e => by have := h _ e; omega)]; rfl
theorem cnt_not (d : Nat → Bool) : ∀ n m, m ≤ n → cnt d m + cnt (fun i => decide (i < n) && !d i) m = m
  | _, 0, _ => rfl
  | n, m + 1, h => by
    have := cnt_not d n m (by omega)
    unfold cnt
    rw [decide_eq_true (show m < n by omega)]
    cases d m <;> simp <;> omega
theorem cnt_done {A : Nat → Nat → Bool} {N : Nat} : ∀ t d, cnt (doneM A N t d) N = cnt d N + (ordM A N t d).length
  | 0, d => rfl
  | t + 1, d => by
    cases h : nextM A N d with
    | none => rw [(ord_stop h _).1, (ord_stop h _).2]; rfl
    | some i =>
      have hi := next_some h
      rw [(ord_go h t).1, (ord_go h t).2, cnt_done t, cnt_upd (ready_iff.1 hi.2.1).1 N hi.1, List.length_cons]; omega
section
variable {A : Nat → Nat → Bool} {N : Nat} (hN : N ≤ 128)
theorem oL_len : (oL A N).length ≤ N := by
  have h1 := cnt_done (A := A) (N := N) N fun _ => false
  have h2 := cnt_le (doneM A N N fun _ => false) N
  rw [cnt_none] at h1
  unfold oL; omega
include hN in
theorem len_all : (oL A N).length + (kL A N).length = N := by
  have h1 := cnt_done (A := A) (N := N) N fun _ => false
  rw [cnt_none] at h1
  have h2 := cnt_not (doneM A N N fun _ => false) N N (Nat.le_refl _)
  have h3 := cnt_beyond (S := stuckS A N) (n := N) (fun i h => by unfold stuckS at h; simp only [Bool.and_eq_true, decide_eq_true_eq] at h; exact h.1) (128 - N)
  rw [show N + (128 - N) = 128 by omega] at h3
  unfold kL oL
  rw [lstN_len, h3]
  have h4 : cnt (stuckS A N) N = cnt (fun i => decide (i < N) && !(doneM A N N fun _ => false) i) N := rfl
  omega
theorem in_oL {k : Nat} : (∃ q : Nat, (oL A N)[q]? = some k) ↔ doneM A N N (fun _ => false) k = true := by
  rw [done_mem]
  constructor
  · rintro ⟨q, h⟩; exact .inr (List.mem_of_getElem? h)
  · rintro (h | h)
    · cases h
    · obtain ⟨q, hq⟩ := List.mem_iff_getElem?.1 h
      exact ⟨q, hq⟩
theorem oL_inj {p q k : Nat} (h1 : (oL A N)[p]? = some k) (h2 : (oL A N)[q]? = some k) : p = q := by
  have hp := (List.getElem?_eq_some_iff.1 h1).1
  exact (List.getElem?_inj hp (ord_nodup N _)).1 (h1.trans h2.symm)
theorem kL_inj {p q k : Nat} (h1 : (kL A N)[p]? = some k) (h2 : (kL A N)[q]? = some k) : p = q := by
  have hp := (List.getElem?_eq_some_iff.1 h1).1
  exact (List.getElem?_inj hp (lstN_nodup _ _)).1 (h1.trans h2.symm)
theorem kL_not {q k : Nat} (h : (kL A N)[q]? = some k) : k < N ∧ ∀ p : Nat, (oL A N)[p]? ≠ some k := by
  have h1 := (mem_lstN.1 (List.mem_of_getElem? h)).2
  unfold stuckS at h1
  simp only [Bool.and_eq_true, decide_eq_true_eq, Bool.not_eq_true'] at h1
  refine ⟨h1.1, fun p hp => ?_⟩
  have := in_oL.1 ⟨p, hp⟩
  rw [h1.2] at this; cases this
include hN in
theorem kL_has {k : Nat} (hk : k < N) (h : ∀ p : Nat, (oL A N)[p]? ≠ some k) : ∃ q : Nat, (kL A N)[q]? = some k := by
  have h1 : doneM A N N (fun _ => false) k = false := by
    cases hd : doneM A N N (fun _ => false) k with
    | false => rfl
    | true => obtain ⟨p, hp⟩ := in_oL.2 hd; exact absurd hp (h p)
  refine List.mem_iff_getElem?.1 (mem_lstN.2 ⟨by omega, ?_⟩)
  unfold stuckS
  rw [decide_eq_true hk, h1]; rfl
/-- places so far -/
def P1 (A : Nat → Nat → Bool) (N j : Nat) (f : Nat → Int) : Prop := (∀ q k : Nat, q < j → (oL A N)[q]? = some k → f k = (q : Int) + 1) ∧ ∀ k : Nat, (∀ q : Nat, q < j → (oL A N)[q]? ≠ some k) → f k = 0
def P2 (A : Nat → Nat → Bool) (N j : Nat) (f : Nat → Int) : Prop :=
  (∀ q k : Nat, (oL A N)[q]? = some k → f k = (q : Int) + 1) ∧ (∀ q k : Nat, q < j → (kL A N)[q]? = some k → f k = -1) ∧ ∀ k : Nat, (∀ q : Nat, (oL A N)[q]? ≠ some k) → (∀ q : Nat, q < j → (kL A N)[q]? ≠ some k) → f k = 0
def P3 (A : Nat → Nat → Bool) (N : Nat) (f : Nat → Int) : Prop := (∀ q k : Nat, (oL A N)[q]? = some k → f k = (q : Int) + 1) ∧ ∀ k : Nat, k < N → (∀ q : Nat, (oL A N)[q]? ≠ some k) → f k = -1
theorem P1.start : P1 A N 0 fun _ => 0 := ⟨fun _ _ h => absurd h (Nat.not_lt_zero _), fun _ _ => rfl⟩
theorem P1.zero {j k : Nat} {f : Nat → Int} (h : P1 A N j f) (hk : (oL A N)[j]? = some k) : f k = 0 :=
  h.2 k fun q hq e => by have := oL_inj e hk; omega
theorem P1.step {j k : Nat} {f : Nat → Int} (h : P1 A N j f) (hk : (oL A N)[j]? = some k) : P1 A N (j + 1) fun x => if x = k then (j : Int) + 1 else f x := by
  refine ⟨fun q x hq hx => ?_, fun x hx => ?_⟩
  · by_cases e : x = k
    · subst e
      have := oL_inj hx hk
      subst this
      show (if _ then _ else _) = _
      rw [if_pos rfl]
    · show (if _ then _ else _) = _
      rw [if_neg e]
      have : q ≠ j := fun e2 => e (by rw [e2, hk] at hx; injection hx with hx; exact hx.symm)
      exact h.1 q x (by omega) hx
  · have e : x ≠ k := fun e => hx j (by omega) (by rw [e]; exact hk)
    show (if x = k then _ else _) = _
    rw [if_neg e]
    exact h.2 x fun q hq => hx q (by omega)
theorem P1.done {f : Nat → Int} (h : P1 A N (oL A N).length f) : P2 A N 0 f :=
  ⟨fun q k hk => h.1 q k (List.getElem?_eq_some_iff.1 hk).1 hk, fun _ _ hq => absurd hq (Nat.not_lt_zero _), fun k hk _ => h.2 k fun q _ => hk q⟩
theorem P2.zero {j k : Nat} {f : Nat → Int} (h : P2 A N j f) (hk : (kL A N)[j]? = some k) : f k = 0 :=
  h.2.2 k (kL_not hk).2 fun q hq e => by have := kL_inj e hk; omega
theorem P2.step {j k : Nat} {f : Nat → Int} (h : P2 A N j f) (hk : (kL A N)[j]? = some k) : P2 A N (j + 1) fun x => if x = k then -1 else f x := by
  refine ⟨fun q x hx => ?_, fun q x hq hx => ?_, fun x hx1 hx2 => ?_⟩
  · have e : x ≠ k := fun e => (kL_not hk).2 q (by rw [← e]; exact hx)
    show (if x = k then _ else _) = _
    rw [if_neg e]; exact h.1 q x hx
  · show (if x = k then _ else _) = _
    by_cases e : x = k
    · rw [if_pos e]
    · rw [if_neg e]
      have : q ≠ j := fun e2 => e (by rw [e2, hk] at hx; injection hx with hx; exact hx.symm)
      exact h.2.1 q x (by omega) hx
  · have e : x ≠ k := fun e => hx2 j (by omega) (by rw [e]; exact hk)
    show (if x = k then _ else _) = _
    rw [if_neg e]
    exact h.2.2 x hx1 fun q hq => hx2 q (by omega)
include hN in
theorem P2.done {f : Nat → Int} (h : P2 A N (kL A N).length f) : P3 A N f :=
  ⟨h.1, fun k hk hq => by
    obtain ⟨q, e⟩ := kL_has hN hk hq
    exact h.2.1 q k (List.getElem?_eq_some_iff.1 e).1 e⟩
variable {f : Nat → Int} (h : P3 A N f)
include h
theorem P3.cases (k : Nat) (hk : k < N) : (∃ q : Nat, (oL A N)[q]? = some k ∧ f k = (q : Int) + 1) ∨ (doneM A N N (fun _ => false) k = false ∧ f k = -1) := by
  cases hd : doneM A N N (fun _ => false) k with
  | true => obtain ⟨q, hq⟩ := in_oL.2 hd; exact .inl ⟨q, hq, h.1 q k hq⟩
  | false => exact .inr ⟨rfl, h.2 k hk fun q e => by rw [in_oL.1 ⟨q, e⟩] at hd; cases hd⟩
theorem P3.ne {k : Nat} (hk : k < N) : f k ≠ 0 := by
  rcases P3.cases h k hk with ⟨q, _, e⟩ | ⟨_, e⟩ <;> omega
theorem P3.behind (hf : ∀ i k, A i k = true → i < N ∧ k < N) {i l : Nat} (ha : A i l = true) (hp : 0 < f i) : 1 ≤ f l ∧ f l < f i := by
  obtain ⟨hi, hl⟩ := hf i l ha
  rcases P3.cases h i hi with ⟨p, e1, e2⟩ | ⟨_, e⟩
  · rcases ord_behind N (fun _ => false) p i l e1 hl ha with h1 | ⟨q, h1, h2⟩
    · cases h1
    · have := h.1 q l h2
      omega
  · omega
theorem P3.stuck {i : Nat} (hi : i < N) (hn : f i < 0) : ∃ l, A i l = true ∧ l < N ∧ f l < 0 := by
  rcases P3.cases h i hi with ⟨p, e1, e2⟩ | ⟨hd, e⟩
  · omega
  · obtain ⟨k, hk, ha, hd2⟩ := stuck_has (A := A) (N := N) N (fun _ => false) (by omega) i hi hd
    rcases P3.cases h k hk with ⟨p, e1, e2⟩ | ⟨_, e3⟩
    · have := in_oL.1 ⟨p, e1⟩
      rw [hd2] at this; cases this
    · exact ⟨k, ha, hk, by omega⟩
end
end Go.Proofs.YtonnopcafmhaaaaDoor

/- Graphs in plain words: what is reached, what comes next. No Go in sight. -/
import Derived.Test.YtonnopcafmhaaaaDoorProg
namespace Go.Proofs.YtonnopcafmhaaaaDoor

/-- that many of the first n hold -/
def cnt (s : Nat → Bool) : Nat → Nat
  | 0 => 0
  | n + 1 => cnt s n + if s n then 1 else 0
theorem cnt_le (s : Nat → Bool) : ∀ n, cnt s n ≤ n
  | 0 => Nat.le_refl _
  | n + 1 => by
    have := cnt_le s n
    unfold cnt
    split <;> omega
theorem cnt_all {s : Nat → Bool} : ∀ {n : Nat}, n ≤ cnt s n → ∀ k, k < n → s k = true
  | 0, _, k, hk => absurd hk (Nat.not_lt_zero _)
  | n + 1, h, k, hk => by
    have h1 := cnt_le s n
    unfold cnt at h
    by_cases hs : s n = true
    · rw [if_pos hs] at h
      by_cases e : k = n
      · subst e; exact hs
      · exact cnt_all (n := n) (by omega) k (by omega)
    · rw [if_neg hs] at h; omega
theorem cnt_mono {s t : Nat → Bool} (h : ∀ k, s k = true → t k = true) : ∀ n, cnt s n ≤ cnt t n
  | 0 => Nat.le_refl _
  | n + 1 => by
    have := cnt_mono h n
    unfold cnt
    by_cases hs : s n = true
    · rw [if_pos hs, if_pos (h n hs)]; omega
    · rw [if_neg hs]; split <;> omega
theorem cnt_same {s t : Nat → Bool} (h : ∀ k, s k = true → t k = true) : ∀ {n : Nat}, cnt t n ≤ cnt s n → ∀ k, k < n → t k = s k
  | 0, _, k, hk => absurd hk (Nat.not_lt_zero _)
  | n + 1, hc, k, hk => by
    have h1 := cnt_mono h n
    unfold cnt at hc
    by_cases hs : s n = true
    · rw [if_pos hs, if_pos (h n hs)] at hc
      by_cases e : k = n
      · subst e; rw [hs, h k hs]
      · exact cnt_same h (n := n) (by omega) k (by omega)
    · rw [if_neg hs] at hc
      by_cases ht : t n = true
      · rw [if_pos ht] at hc; omega
      · by_cases e : k = n
        · subst e
          rw [Bool.not_eq_true] at hs ht
          rw [hs, ht]
        · exact cnt_same h (n := n) (by rw [if_neg ht] at hc; omega) k (by omega)
/-- what is reached of what is asked for -/
inductive Rch (A : Nat → Nat → Bool) (N : Nat) (S : Nat → Bool) : Nat → Prop
  | start {k : Nat} : k < N → S k = true → Rch A N S k
  | step {i k : Nat} : Rch A N S i → k < N → A i k = true → Rch A N S k
theorem Rch.lt {A : Nat → Nat → Bool} {N : Nat} {S : Nat → Bool} {k : Nat} (h : Rch A N S k) : k < N := by cases h <;> assumption
/-- a node's row, once: who is ahead of it is in, if it is -/
def relax (A : Nat → Nat → Bool) (N i : Nat) (s : Nat → Bool) : Nat → Bool := fun k => s k || (s i && decide (k < N) && A i k)
def passTo (A : Nat → Nat → Bool) (N : Nat) : Nat → (Nat → Bool) → Nat → Bool
  | 0, s => s
  | j + 1, s => relax A N j (passTo A N j s)
def passes (A : Nat → Nat → Bool) (N : Nat) : Nat → (Nat → Bool) → Nat → Bool
  | 0, s => s
  | t + 1, s => passTo A N N (passes A N t s)
section
variable {A : Nat → Nat → Bool} {N : Nat}
theorem relax_mono (i : Nat) (s : Nat → Bool) (k : Nat) (h : s k = true) : relax A N i s k = true := by unfold relax; rw [h]; rfl
theorem passTo_mono (s : Nat → Bool) (k : Nat) (h : s k = true) : ∀ j, passTo A N j s k = true
  | 0 => h
  | j + 1 => relax_mono j _ k (passTo_mono s k h j)
theorem passTo_row (s : Nat → Bool) {i k : Nat} (hk : k < N) (hs : s i = true) (ha : A i k = true) : ∀ j, i < j → passTo A N j s k = true
  | 0, h => absurd h (Nat.not_lt_zero _)
  | j + 1, h => by
    by_cases e : i = j
    · subst e
      show relax A N i _ k = true
      unfold relax
      rw [passTo_mono s i hs i, ha, decide_eq_true hk]
      simp
    · exact relax_mono j _ k (passTo_row s hk hs ha j (by omega))
theorem relax_rch {S s : Nat → Bool} (i : Nat) (h : ∀ k, k < N → s k = true → Rch A N S k) (hi : i < N) : ∀ k, k < N → relax A N i s k = true → Rch A N S k := fun k hk hr => by
  unfold relax at hr
  rw [Bool.or_eq_true, Bool.and_eq_true, Bool.and_eq_true] at hr
  rcases hr with hr | ⟨⟨h1, _⟩, h3⟩
  · exact h k hk hr
  · exact .step (h i hi h1) hk h3
theorem passTo_rch {S s : Nat → Bool} (h : ∀ k, k < N → s k = true → Rch A N S k) : ∀ j, j ≤ N → ∀ k, k < N → passTo A N j s k = true → Rch A N S k
  | 0, _ => h
  | j + 1, hj => relax_rch j (passTo_rch h j (by omega)) (by omega)
theorem passes_rch {S : Nat → Bool} : ∀ t k, k < N → passes A N t S k = true → Rch A N S k
  | 0, _, hk, h => .start hk h
  | t + 1, k, hk, h => passTo_rch (passes_rch t) N (Nat.le_refl _) k hk h
theorem passes_mono {S : Nat → Bool} (k : Nat) (h : S k = true) : ∀ t, passes A N t S k = true
  | 0 => h
  | t + 1 => passTo_mono _ k (passes_mono k h t) N
/-- nothing is to be added -/
def Shut (A : Nat → Nat → Bool) (N : Nat) (s : Nat → Bool) : Prop := ∀ i k, i < N → k < N → s i = true → A i k = true → s k = true
theorem shut_relax {s : Nat → Bool} (h : Shut A N s) {i : Nat} (hi : i < N) : ∀ k, relax A N i s k = s k := fun k => by
  unfold relax
  by_cases hs : s k = true
  · rw [hs]; rfl
  · rw [Bool.not_eq_true] at hs
    rw [hs, Bool.false_or]
    by_cases h1 : s i = true
    · by_cases hk : k < N
      · by_cases h2 : A i k = true
        · rw [h i k hi hk h1 h2] at hs; cases hs
        · rw [Bool.not_eq_true] at h2; rw [h2, Bool.and_false]
      · rw [decide_eq_false hk, Bool.and_false, Bool.false_and]
    · rw [Bool.not_eq_true] at h1; rw [h1, Bool.false_and, Bool.false_and]
theorem shut_pass {s : Nat → Bool} (h : Shut A N s) : ∀ j, j ≤ N → passTo A N j s = s
  | 0, _ => rfl
  | j + 1, hj => by
    show relax A N j (passTo A N j s) = s
    rw [shut_pass h j (by omega)]
    exact funext (shut_relax h (by omega))
theorem pass_shut {s : Nat → Bool} (h : cnt (passTo A N N s) N ≤ cnt s N) : Shut A N s := fun i k hi hk h1 h2 => by
  have := cnt_same (fun k hk => passTo_mono (A := A) (N := N) s k hk N) h k hk
  rw [← this]
  exact passTo_row s hk h1 h2 N hi
theorem passes_shut (S : Nat → Bool) : ∀ t, Shut A N (passes A N t S) ∨ t ≤ cnt (passes A N t S) N
  | 0 => .inr (Nat.zero_le _)
  | t + 1 => by
    show Shut A N (passTo A N N (passes A N t S)) ∨ t + 1 ≤ cnt (passTo A N N (passes A N t S)) N
    rcases passes_shut S t with h | h
    · left; rw [shut_pass h N (Nat.le_refl _)]; exact h
    · by_cases hc : cnt (passTo A N N (passes A N t S)) N ≤ cnt (passes A N t S) N
      · left
        have := pass_shut hc
        rw [shut_pass this N (Nat.le_refl _)]; exact this
      · right; omega
/-- as many passes as there are nodes reach all that is reached -/
theorem passes_all (S : Nat → Bool) {k : Nat} (hk : k < N) : passes A N N S k = true ↔ Rch A N S k := by
  refine ⟨passes_rch N k hk, fun h => ?_⟩
  have hs : Shut A N (passes A N N S) := by
    rcases passes_shut (A := A) (N := N) S N with h | h
    · exact h
    · exact fun i k _ hk _ _ => cnt_all h k hk
  clear hk
  induction h with
  | start _ h => exact passes_mono _ h N
  | step hr hk ha ih => exact hs _ _ hr.lt hk ih ha
end
/-- has it nothing ahead that isn't done? -/
def ready (A : Nat → Nat → Bool) (N : Nat) (d : Nat → Bool) (i : Nat) : Bool := !d i && (List.range N).all fun k => !A i k || d k
def upd (d : Nat → Bool) (i : Nat) : Nat → Bool := fun k => if k = i then true else d k
/-- the least one that is next -/
def nextM (A : Nat → Nat → Bool) (N : Nat) (d : Nat → Bool) : Option Nat := (List.range N).find? (ready A N d)
/-- the order, that many more turns -/
def ordM (A : Nat → Nat → Bool) (N : Nat) : Nat → (Nat → Bool) → List Nat
  | 0, _ => []
  | t + 1, d => match nextM A N d with
    | none => []
    | some i => i :: ordM A N t (upd d i)
/-- what is done behind that many turns -/
def doneM (A : Nat → Nat → Bool) (N : Nat) : Nat → (Nat → Bool) → Nat → Bool
  | 0, d => d
  | t + 1, d => match nextM A N d with
    | none => d
    | some i => doneM A N t (upd d i)
section
variable {A : Nat → Nat → Bool} {N : Nat}
theorem next_some {d : Nat → Bool} {i : Nat} (h : nextM A N d = some i) : i < N ∧ ready A N d i = true ∧ ∀ j, j < i → ready A N d j = false := by
  unfold nextM at h
  have h1 := List.find?_some h
  have h2 := List.mem_of_find?_eq_some h
  refine ⟨List.mem_range.1 h2, h1, fun j hj => ?_⟩
  rw [List.find?_range_eq_some] at h
  have := h.2.2 j hj
  simpa using this
theorem next_none {d : Nat → Bool} (h : nextM A N d = none) : ∀ i, i < N → ready A N d i = false := fun i hi => by
  unfold nextM at h
  have := List.find?_eq_none.1 h i (List.mem_range.2 hi)
  simpa using this
theorem ready_iff {d : Nat → Bool} {i : Nat} : ready A N d i = true ↔ d i = false ∧ ∀ k, k < N → A i k = true → d k = true := by
  unfold ready
  rw [Bool.and_eq_true, List.all_eq_true]
  constructor
  · rintro ⟨h1, h2⟩
    refine ⟨by simpa using h1, fun k hk ha => ?_⟩
    have := h2 k (List.mem_range.2 hk)
    rw [ha] at this
    simpa using this
  · rintro ⟨h1, h2⟩
    refine ⟨by simpa using h1, fun k hk => ?_⟩
    cases ha : A i k with
    | false => rfl
    | true => rw [h2 k (List.mem_range.1 hk) ha]; rfl
theorem done_mem (t : Nat) : ∀ (d : Nat → Bool) (k : Nat), doneM A N t d k = true ↔ d k = true ∨ k ∈ ordM A N t d := by
  induction t with
  | zero => intro d k; simp [doneM, ordM]
  | succ t ih =>
    intro d k
    unfold doneM ordM
    cases h : nextM A N d with
    | none => simp
    | some i =>
      simp only []
      rw [ih, List.mem_cons]
      unfold upd
      by_cases e : k = i
      · simp [e]
      · simp [e]
theorem ord_lt (t : Nat) : ∀ (d : Nat → Bool) (k : Nat), k ∈ ordM A N t d → k < N ∧ d k = false := by
  induction t with
  | zero => intro d k h; simp [ordM] at h
  | succ t ih =>
    intro d k h
    unfold ordM at h
    cases hn : nextM A N d with
    | none => rw [hn] at h; simp at h
    | some i =>
      rw [hn] at h
      obtain ⟨h1, h2, -⟩ := next_some hn
      rw [List.mem_cons] at h
      rcases h with rfl | h
      · exact ⟨h1, (ready_iff.1 h2).1⟩
      · obtain ⟨h3, h4⟩ := ih _ k h
        unfold upd at h4
        by_cases e : k = i
        · rw [if_pos e] at h4; cases h4
        · rw [if_neg e] at h4; exact ⟨h3, h4⟩
theorem ord_nodup (t : Nat) : ∀ (d : Nat → Bool), (ordM A N t d).Nodup := by
  induction t with
  | zero => intro d; simp [ordM]
  | succ t ih =>
    intro d
    unfold ordM
    cases hn : nextM A N d with
    | none => simp
    | some i =>
      simp only [List.nodup_cons]
      refine ⟨fun h => ?_, ih _⟩
      have := (ord_lt t _ i h).2
      unfold upd at this
      simp at this
/-- in the order each is behind all that come ahead of it -/
theorem ord_behind (t : Nat) : ∀ (d : Nat → Bool) (p : Nat) (i k : Nat), (ordM A N t d)[p]? = some i → k < N → A i k = true → d k = true ∨ ∃ q, q < p ∧ (ordM A N t d)[q]? = some k := by
  induction t with
  | zero => intro d p i k h; simp [ordM] at h
  | succ t ih =>
    intro d p i k h hk ha
    unfold ordM at h ⊢
    cases hn : nextM A N d with
    | none => rw [hn] at h; simp at h
    | some j =>
      rw [hn] at h
      simp only [] at h ⊢
      cases p with
      | zero =>
        simp only [List.getElem?_cons_zero, Option.some.injEq] at h
        subst h
        exact .inl ((ready_iff.1 (next_some hn).2.1).2 k hk ha)
      | succ p =>
        rw [List.getElem?_cons_succ] at h
        rcases ih _ p i k h hk ha with h1 | ⟨q, h1, h2⟩
        · unfold upd at h1
          by_cases e : k = j
          · exact .inr ⟨0, by omega, by simp [e]⟩
          · rw [if_neg e] at h1; exact .inl h1
        · exact .inr ⟨q + 1, by omega, by simpa using h2⟩
theorem cnt_upd {d : Nat → Bool} {i : Nat} (h : d i = false) : ∀ n, i < n → cnt (upd d i) n = cnt d n + 1
  | 0, hi => absurd hi (Nat.not_lt_zero _)
  | n + 1, hi => by
    unfold cnt
    by_cases e : n = i
    · subst e
      have h2 : ∀ m, m ≤ n → cnt (upd d n) m = cnt d m := fun m hm => by
        induction m with
        | zero => rfl
        | succ m ih =>
          unfold cnt
          rw [ih (by omega)]
          have : upd d n m = d m := by unfold upd; rw [if_neg (by omega)]
          rw [this]
      rw [h2 n (Nat.le_refl _), h]
      have : upd d n n = true := by unfold upd; rw [if_pos rfl]
      rw [this]; simp
    · rw [cnt_upd h n (by omega)]
      have : upd d i n = d n := by unfold upd; rw [if_neg e]
      rw [this]; omega
/-- what has no place has something ahead that has none -/
theorem stuck_has (t : Nat) : ∀ (d : Nat → Bool), N ≤ t + cnt d N → ∀ i, i < N → doneM A N t d i = false → ∃ k, k < N ∧ A i k = true ∧ doneM A N t d k = false := by
  induction t with
  | zero =>
    intro d hc i hi h
    have := cnt_all (s := d) (n := N) (by omega) i hi
    unfold doneM at h
    rw [this] at h; cases h
  | succ t ih =>
    intro d hc i hi h
    unfold doneM at h ⊢
    cases hn : nextM A N d with
    | none =>
      rw [hn] at h
      simp only [] at h ⊢
      have hr := next_none hn i hi
      apply Classical.byContradiction
      intro hno
      have : ready A N d i = true := ready_iff.2 ⟨h, fun k hk ha => by
        cases hd : d k with
        | true => rfl
        | false => exact absurd ⟨k, hk, ha, hd⟩ hno⟩
      rw [this] at hr; cases hr
    | some j =>
      rw [hn] at h
      simp only [] at h ⊢
      obtain ⟨h1, h2, -⟩ := next_some hn
      exact ih _ (by rw [cnt_upd (ready_iff.1 h2).1 N h1]; omega) i hi h
end
end Go.Proofs.YtonnopcafmhaaaaDoor

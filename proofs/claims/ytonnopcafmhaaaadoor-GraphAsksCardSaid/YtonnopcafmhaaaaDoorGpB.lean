/- Graphs in plain words: over and under, how deep. No Go in sight. -/
import Derived.Test.YtonnopcafmhaaaaDoorGpA
namespace Go.Proofs.YtonnopcafmhaaaaDoor

/-- the nodes that are reached, rising -/
def underM (A : Nat → Nat → Bool) (N : Nat) (S : Nat → Bool) : List Nat := (List.range N).filter (passes A N N S)
def turnA (A : Nat → Nat → Bool) : Nat → Nat → Bool := fun i k => A k i
def listM (A : Nat → Nat → Bool) (N i : Nat) : List Nat := (List.range N).filter (A i)
section
variable {A : Nat → Nat → Bool} {N : Nat}
theorem mem_under {S : Nat → Bool} {k : Nat} : k ∈ underM A N S ↔ Rch A N S k := by
  unfold underM
  rw [List.mem_filter, List.mem_range]
  constructor
  · rintro ⟨h1, h2⟩; exact (passes_all S h1).1 h2
  · intro h; exact ⟨h.lt, (passes_all S h.lt).2 h⟩
theorem under_eq {S : Nat → Bool} {f : Nat → Bool} (h : ∀ k, k < N → (f k = true ↔ Rch A N S k)) : (List.range N).filter f = underM A N S := by
  unfold underM
  refine List.filter_congr fun k hk => ?_
  have hk := List.mem_range.1 hk
  have h1 := h k hk
  have h2 := passes_all (A := A) S hk
  cases hf : f k <;> cases hp : passes A N N S k <;> simp_all
theorem rch_idem {S : Nat → Bool} {k : Nat} : Rch A N (fun k => decide (k ∈ underM A N S)) k ↔ Rch A N S k := by
  constructor
  · intro h
    induction h with
    | start hk h => exact mem_under.1 (by simpa using h)
    | step _ hk ha ih => exact .step ih hk ha
  · intro h
    exact .start h.lt (by simpa using mem_under.2 h)
/-- a way from one to another one -/
theorem rch_from {i k : Nat} (h : Rch A N (fun x => decide (x = i)) k) : ∀ j, Rch (turnA A) N (fun x => decide (x = j)) k → Rch (turnA A) N (fun x => decide (x = j)) i := by
  induction h with
  | start hk h => intro j hj; have := of_decide_eq_true h
                  subst this; exact hj
  | step hr hk ha ih => intro j hj; exact ih j (.step hj hr.lt ha)
theorem rch_swap {i k : Nat} : Rch A N (fun x => decide (x = i)) k → Rch (turnA A) N (fun x => decide (x = k)) i := fun h => rch_from h k (.start h.lt (by simp))
theorem turn_turn : turnA (turnA A) = A := rfl
theorem rch_swap' {i k : Nat} : Rch A N (fun x => decide (x = i)) k ↔ Rch (turnA A) N (fun x => decide (x = k)) i :=
  ⟨rch_swap, fun h => rch_swap (A := turnA A) h⟩
/-- the greatest of the depths ahead -/
def topM (f : Nat → Nat) : List Nat → Nat
  | [] => 0
  | k :: r => max (f k) (topM f r)
/-- depths, node by node in an order -/
def deepL (A : Nat → Nat → Bool) (N : Nat) : List Nat → (Nat → Nat) → Nat → Nat
  | [], f => f
  | i :: r, f => deepL A N r fun j => if j = i then topM f (listM A N i) + 1 else f j
def deepM (A : Nat → Nat → Bool) (N : Nat) : List Nat := (List.range N).map (deepL A N (ordM A N N fun _ => false) fun _ => 0)
end
end Go.Proofs.YtonnopcafmhaaaaDoor

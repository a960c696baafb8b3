/- The order of addresses and of objects: the mathematics. -/
import Derived.Test.YtakoghdkllfhlaaDoorD
import Derived.Sort.Walk0
namespace Go.Proofs.YtakoghdkllfhlaaDoor
open Go.RowKit

/-- an address -/
structure Adr where
  t : ByteArray
  n : ByteArray
  kd : Int
  i : Int
  k : ByteArray
/-- an object -/
structure Obt where
  a : Adr
  N : Int
def ordA (a b : Adr) : Int := orL [cmpS a.t b.t, cmpS a.n b.n, cmpI a.kd b.kd, cmpI a.i b.i, cmpS a.k b.k]
def ordK (a b : Obt) : Int := orL [ordA a.a b.a, cmpI a.N b.N]
/-- a comparison -/
structure Cmp (α : Type) (f : α → α → Int) : Prop where
  zero : ∀ {a b}, f a b = 0 ↔ a = b
  neg : ∀ {a b}, f b a = - f a b
  trans : ∀ {a b c}, f a b < 0 → f b c < 0 → f a c < 0
theorem bl_iff (a b : ByteArray) : blt a b = true ↔ a.toList < b.toList := by
  unfold blt
  rw [Go.Proofs.bytesLess_eq, decide_eq_true_eq]
theorem bl_irrefl (a : ByteArray) : blt a a = false := by
  cases h : blt a a with
  | false => rfl
  | true =>
    rw [bl_iff] at h
    exact absurd h (List.lt_irrefl _)
theorem cI : Cmp Int cmpI := ⟨fun {a b} => by unfold cmpI; split <;> (try split) <;> omega, fun {a b} => by unfold cmpI; split <;> (try split) <;> (try split) <;> (try split) <;> omega, fun {a b c} => by unfold cmpI; split <;> (try split) <;> (try split) <;> (try split) <;> (try split) <;> (try split) <;> omega⟩
theorem cmpS_lt (a b : ByteArray) : cmpS a b < 0 ↔ blt a b = true := by
  unfold cmpS
  split
  · simp [*]
  · split
    · rename_i h1 h2; subst h2; simp [bl_irrefl]
    · simp [*]
theorem cS : Cmp ByteArray cmpS := ⟨fun {a b} => by
    unfold cmpS
    constructor
    · intro h
      split at h
      · omega
      · split at h
        · assumption
        · omega
    · intro h; subst h; rw [bl_irrefl]; simp, fun {a b} => by
    unfold cmpS
    by_cases h1 : blt a b = true
    · have h2 : ¬ blt b a = true := fun h => List.lt_asymm ((bl_iff a b).1 h1) ((bl_iff b a).1 h)
      have h3 : a ≠ b := fun e => by subst e; rw [bl_irrefl] at h1; cases h1
      rw [if_pos h1, if_neg h2, if_neg (fun e => h3 e.symm)]; decide
    · rw [if_neg h1]
      by_cases h3 : a = b
      · subst h3; rw [if_neg h1, if_pos rfl]; decide
      · have h2 : blt b a = true := by
          rw [bl_iff] at h1 ⊢
          rcases Std.lt_trichotomy a.toList b.toList with h | h | h
          · exact absurd h h1
          · exact absurd (by rw [ByteArray.toList_eq, ByteArray.toList_eq] at h; have := Array.toList_inj.1 h; cases a; cases b; simp_all) h3
          · exact h
        rw [if_pos h2, if_neg h3], fun {a b c} h1 h2 => by
    rw [cmpS_lt, bl_iff] at *
    exact List.lt_trans h1 h2⟩
/-- by the first, then by the second -/
theorem Cmp.lex {α β γ : Type} {f : α → α → Int} {g : β → β → Int} (hf : Cmp α f) (hg : Cmp β g) (p : γ → α) (q : γ → β) (hpq : ∀ {x y : γ}, p x = p y → q x = q y → x = y) : Cmp γ fun x y => if f (p x) (p y) = 0 then g (q x) (q y) else f (p x) (p y) := by
  refine ⟨fun {a b} => ?_, fun {a b} => ?_, fun {a b c} h1 h2 => ?_⟩
  · constructor
    · intro h
      split at h
      · exact hpq (hf.zero.1 ‹_›) (hg.zero.1 h)
      · exact absurd h ‹_›
    · intro h; subst h; rw [if_pos (hf.zero.2 rfl)]; exact hg.zero.2 rfl
  · have h1 := hf.neg (a := p a) (b := p b)
    have h2 := hg.neg (a := q a) (b := q b)
    show (if f (p b) (p a) = 0 then g (q b) (q a) else f (p b) (p a)) = - (if f (p a) (p b) = 0 then g (q a) (q b) else f (p a) (p b))
    rw [h1]
    by_cases h : f (p a) (p b) = 0
    · rw [if_pos (show - f (p a) (p b) = 0 by omega), if_pos h, h2]
    · rw [if_neg (show ¬ - f (p a) (p b) = 0 by omega), if_neg h]
  · by_cases e1 : f (p a) (p b) = 0
    · rw [if_pos e1] at h1
      rw [hf.zero.1 e1]
      by_cases e2 : f (p b) (p c) = 0
      · rw [if_pos e2] at h2 ⊢; exact hg.trans h1 h2
      · rw [if_neg e2] at h2 ⊢; exact h2
    · rw [if_neg e1] at h1
      by_cases e2 : f (p b) (p c) = 0
      · rw [← hf.zero.1 e2, if_neg e1]; exact h1
      · rw [if_neg e2] at h2
        have := hf.trans h1 h2
        rw [if_neg (by omega)]; exact this
theorem cmp_congr {α : Type} {f g : α → α → Int} (h : Cmp α f) (e : ∀ x y, g x y = f x y) : Cmp α g := by
  have : g = f := by funext x y; exact e x y
  rw [this]; exact h
theorem orL_cons (a : Int) (r : List Int) : orL (a :: r) = if a = 0 then orL r else a := rfl
theorem ite0 (a : Int) : (if a = 0 then 0 else a) = a := by split <;> simp [*]
theorem orL_nil : orL [] = 0 := rfl
theorem cA : Cmp Adr ordA := by
  have h5 : Cmp (Int × ByteArray) fun x y => if cmpI x.1 y.1 = 0 then cmpS x.2 y.2 else cmpI x.1 y.1 := cI.lex cS Prod.fst Prod.snd fun h1 h2 => Prod.ext h1 h2
  have h4 : Cmp (Int × Int × ByteArray) _ := cI.lex h5 Prod.fst Prod.snd fun h1 h2 => Prod.ext h1 h2
  have h3 : Cmp (ByteArray × Int × Int × ByteArray) _ := cS.lex h4 Prod.fst Prod.snd fun h1 h2 => Prod.ext h1 h2
  have h2 : Cmp Adr _ := cS.lex h3 Adr.t (fun a => (a.n, a.kd, a.i, a.k)) fun {x y} h1 h2 => by
    cases x; cases y
    simp only [Prod.mk.injEq] at h2
    simp_all
  refine cmp_congr h2 fun x y => ?_
  unfold ordA
  simp only [orL_cons, orL_nil, ite0]
theorem cK : Cmp Obt ordK := by
  have h2 : Cmp Obt _ := cA.lex cI Obt.a Obt.N fun {x y} h1 h2 => by cases x; cases y; simp_all
  refine cmp_congr h2 fun x y => ?_
  unfold ordK
  simp only [orL_cons, orL_nil, ite0]
/-- what the document says -/
def lessA (a b : Adr) : Bool := if a.t ≠ b.t then blt a.t b.t else if a.n ≠ b.n then blt a.n b.n else if a.kd ≠ b.kd then decide (a.kd < b.kd) else if a.i ≠ b.i then decide (a.i < b.i) else blt a.k b.k
theorem cmpI_lt (a b : Int) : cmpI a b < 0 ↔ a < b := by unfold cmpI; split <;> (try split) <;> omega
theorem lessA_iff (a b : Adr) : ordA a b < 0 ↔ lessA a b = true := by
  unfold lessA ordA
  simp only [orL_cons, orL_nil, ite0]
  by_cases h1 : a.t = b.t
  · rw [if_pos (cS.zero.2 h1), if_neg (show ¬ a.t ≠ b.t by simp [h1])]
    by_cases h2 : a.n = b.n
    · rw [if_pos (cS.zero.2 h2), if_neg (show ¬ a.n ≠ b.n by simp [h2])]
      by_cases h3 : a.kd = b.kd
      · rw [if_pos (cI.zero.2 h3), if_neg (show ¬ a.kd ≠ b.kd by simp [h3])]
        by_cases h4 : a.i = b.i
        · rw [if_pos (cI.zero.2 h4), if_neg (show ¬ a.i ≠ b.i by simp [h4])]
          exact cmpS_lt _ _
        · rw [if_neg (fun h => h4 (cI.zero.1 h)), if_pos h4, decide_eq_true_eq]; exact cmpI_lt _ _
      · rw [if_neg (fun h => h3 (cI.zero.1 h)), if_pos h3, decide_eq_true_eq]; exact cmpI_lt _ _
    · rw [if_neg (fun h => h2 (cS.zero.1 h)), if_pos h2]; exact cmpS_lt _ _
  · rw [if_neg (fun h => h1 (cS.zero.1 h)), if_pos h1]; exact cmpS_lt _ _
theorem lessK_same {a b : Obt} (h : a.a = b.a) : ordK a b < 0 ↔ a.N < b.N := by
  unfold ordK
  simp only [orL_cons, orL_nil, ite0]
  rw [if_pos (cA.zero.2 h)]; exact cmpI_lt _ _
theorem lessK_other {a b : Obt} (h : a.a ≠ b.a) : ordK a b < 0 ↔ lessA a.a b.a = true := by
  unfold ordK
  simp only [orL_cons, orL_nil, ite0]
  rw [if_neg (fun h2 => h (cA.zero.1 h2))]; exact lessA_iff _ _
end Go.Proofs.YtakoghdkllfhlaaDoor

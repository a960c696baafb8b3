/- Bool, Int, Str, Unknown, List. -/
import Derived.Test.YtfmgbhaldakpfaaDoorH
import Derived.Test.YtfmgbhaldakpfaaDoorTc
namespace Go.Proofs.YtfmgbhaldakpfaaDoor
open Go.RowKit

/-- a value without elements and keys -/
def flat (k i : Int) (s : ByteArray) (t1 t2 : Int) : Val := .mk k i s [] [] t1 t2 false
theorem flat_lies (P : Nat → Prop) (w : World) {k i t1 t2 : Int} {s : ByteArray} (hk : (Lit.int .i64 k).wf = true) (hi : (Lit.int .i64 i).wf = true) (h1 : (Lit.int .i64 t1).wf = true) (h2 : (Lit.int .i64 t2).wf = true) (hs : s.size ≤ maxLen) :
    LiesP P w (flat k i s t1 t2) (vv k i s (.slice none 0 0) (.slice none 0 0) t1 t2 false) :=
  .mk (flat k i s t1 t2) none none 0 0 (fun _ _ => undef) hk hi h1 h2 hs (fun s h => by cases h) (RowP.nil _ _ _ _) (RowP.nil _ _ _ _) (fun j x h => by simp [flat, Val.l] at h)
theorem cells8 {w : World} {b : Nat} {a0 a1 a2 a3 a4 a5 a6 a7 : Value} (h : w.heap[b]? = some (.cells #[a0, a1, a2, a3, a4, a5, a6, a7] 42 (0, 0))) :
    w.cell? ⟨b, 0, none⟩ = some a0 ∧ w.cell? ⟨b, 1, none⟩ = some a1 ∧ w.cell? ⟨b, 2, none⟩ = some a2 ∧ w.cell? ⟨b, 3, none⟩ = some a3 ∧ w.cell? ⟨b, 4, none⟩ = some a4 ∧ w.cell? ⟨b, 5, none⟩ = some a5 ∧ w.cell? ⟨b, 6, none⟩ = some a6 ∧ w.cell? ⟨b, 7, none⟩ = some a7 := by
  refine ⟨?_, ?_, ?_, ?_, ?_, ?_, ?_, ?_⟩ <;> rw [cell_of_row w b _ _ 42 (0, 0) h] <;> rfl
abbrev lst8 (o : Option Addr) (n cap : Nat) : Array Value := #[.int .i64 4, .int .i64 0, .string ⟨#[]⟩, .slice o n cap, .slice none 0 0, .int .i64 0, .int .i64 0, .bool false]
/-- what is stored whole over a box -/
abbrev over (old part : Array Value) : Array Value := (old.toList.take 0 ++ part.toList ++ old.toList.drop (0 + part.size)).toArray
theorem ret_v {v v' : Value} (h : v = v') : Ending.returned v = .returned v' := by rw [h]
/-- a list -/
def lst (l : List Val) : Val := .mk 4 0 ⟨#[]⟩ l [] 0 0 false
end Go.Proofs.YtfmgbhaldakpfaaDoor

/- A slice's rest, as a step. -/
import Derived.Test.YtakoghdkllfhlaaDoorRp
namespace Go.Proofs.YtakoghdkllfhlaaDoor
open Go.RowKit Go.Lib

/-- where a slice's rest lies -/
def cutO (b off cap j : Nat) : Option Addr := if cap = j then some ⟨b, off, none⟩ else some ⟨b, off + j, none⟩
set_option maxRecDepth 100000 in
theorem wpList_cut {w : World} {ops : Array Oper} {rest : List Oper} {o : Oper} {a : Act} {Q : Exit → Act → World → Prop} (hgd : o.guard = none) (x y : Operand) (ho : o.op = .slice 49 x (some y) none none) (b off len cap j : Nat)
    (hx : a.eval x = .slice (some ⟨b, off, none⟩) len cap) (hy : a.eval y = .int .i64 j) (hj : j ≤ len) (hc : len ≤ cap)
    (h : ∀ oc, Hid (oc = cutO b off cap j) → wpList Tryd.prog ops Q rest (a.put o.dst (.slice oc (len - j) (cap - j))) w) : wpList Tryd.prog ops Q (o :: rest) a w := by
  refine wpList_plain hgd fun K hK => ?_
  have ea : (⟨b, off, none⟩ : Addr).add j = ⟨b, off + j, none⟩ := by unfold Addr.add; split <;> simp_all
  have h1 := hK _ _ (h _ rfl)
  unfold cutO at h1
  have j1 : (j : Int) ≤ len := by omega
  have j2 : (j : Int) ≤ cap := by omega
  have j3 : (len : Int) ≤ cap := by omega
  unfold Oper.wp
  simp only [execOp, ho, hx, Option.map_some, hy]
  go_simp


  exact h1
theorem gstr_pos {M : List Nat} {m : Nat} {s : ByteArray} {k : Nat} (h : gstr M m = .ok (s, k)) : 0 < k := by
  unfold gstr at h
  split at h
  · cases h
  · rename_i n u hg
    have := (gs_ok hg).2
    split at h
    · cases h
    · split at h
      · cases h
      · simp only [Except.ok.injEq, Prod.mk.injEq] at h
        omega
theorem gstr_size {M : List Nat} {s : ByteArray} {k : Nat} (h : gstr M 24 = .ok (s, k)) : s.size ≤ 24 := by
  have h1 := stText_size M 0 0
  have h2 : stText M 0 0 = (s, 0 + k, 0) := by unfold stText; rw [if_neg (by simp), List.drop_zero, h]
  rw [h2] at h1
  exact h1
/-- the Kind that stands there, 9 if none does -/
def kindOf (M : List Nat) : Nat := match gstr M 24 with
  | .error _ => 9
  | .ok (_, a) => match gstr (M.drop a) 24 with
    | .error _ => 9
    | .ok (_, k) => if M.length ≤ a + k then 9 else M.getD (a + k) 0
end Go.Proofs.YtakoghdkllfhlaaDoor

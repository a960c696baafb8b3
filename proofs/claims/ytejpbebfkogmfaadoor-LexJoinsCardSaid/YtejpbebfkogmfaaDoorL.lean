/- The document's example: awake. -/
import Derived.Test.YtejpbebfkogmfaaDoorK
namespace Go.Proofs.YtejpbebfkogmfaaDoor
open Go.RowKit

abbrev exT : List UInt8 := [97, 32, 61, 32, 34, 120, 36, 123, 98, 125, 121, 34, 32, 35, 32, 122]
theorem ex_lex : lexL exT = .ok [⟨1, [97], 0, [], ⟨0, 1, 1⟩⟩, ⟨4, [61], 0, [], ⟨2, 1, 3⟩⟩, ⟨3, [], 0, [⟨false, [120], noP⟩, ⟨true, [98], ⟨8, 1, 9⟩⟩, ⟨false, [121], noP⟩], ⟨4, 1, 5⟩⟩, ⟨0, [], 0, [], ⟨16, 1, 17⟩⟩] := by kernel_rfl
theorem own_cell {w : World} {B e z n g l c : Nat} {xs : List Value} (h : w.ownsRow B e z (.slice (some ⟨g, 0, none⟩) l c) n xs) {i : Nat} {v : Value} (hv : xs[i]? = some v) : w.cell? ⟨g, i, none⟩ = some v := by
  have := h.cells (g := g) rfl i v hv
  have ea : (⟨g, 0, none⟩ : Addr).add i = ⟨g, i, none⟩ := by unfold Addr.add; split <;> simp_all
  rwa [ea] at this
theorem map4 {α β : Type} {l : List (α × β)} {a b c d : α} (h : l.map (·.1) = [a, b, c, d]) : ∃ x y z u, l = [(a, x), (b, y), (c, z), (d, u)] := by
  cases l with
  | nil => cases h
  | cons p l =>
    cases l with
    | nil => cases h
    | cons q l =>
      cases l with
      | nil => cases h
      | cons r l =>
        cases l with
        | nil => cases h
        | cons s l =>
          cases l with
          | cons _ _ => cases h
          | nil =>
            obtain ⟨p1, p2⟩ := p
            obtain ⟨q1, q2⟩ := q
            obtain ⟨r1, r2⟩ := r
            obtain ⟨s1, s2⟩ := s
            simp only [List.map_cons, List.map_nil, List.cons.injEq, and_true] at h
            obtain ⟨rfl, rfl, rfl, rfl⟩ := h
            exact ⟨_, _, _, _, rfl⟩
abbrev ex0 : Tkn := ⟨1, [97], 0, [], ⟨0, 1, 1⟩⟩
abbrev ex1 : Tkn := ⟨4, [61], 0, [], ⟨2, 1, 3⟩⟩
abbrev ex2 : Tkn := ⟨3, [], 0, [⟨false, [120], noP⟩, ⟨true, [98], ⟨8, 1, 9⟩⟩, ⟨false, [121], noP⟩], ⟨4, 1, 5⟩⟩
abbrev ex3 : Tkn := ⟨0, [], 0, [], ⟨16, 1, 17⟩⟩
/-- what the example asks -/
structure Ex (w : World) (g gp : Nat) (cp : Nat) : Prop where
  c1 : w.cell? ⟨g, 1, none⟩ = some (.string ⟨#[97]⟩)
  c8 : w.cell? ⟨g, 8, none⟩ = some (.string ⟨#[61]⟩)
  c17 : w.cell? ⟨g, 17, none⟩ = some (.slice (some ⟨gp, 0, none⟩) 3 cp)
  c21 : w.cell? ⟨g, 21, none⟩ = some (.int .i64 0)
  d5 : w.cell? ⟨gp, 5, none⟩ = some (.bool true)
  d6 : w.cell? ⟨gp, 6, none⟩ = some (.string ⟨#[98]⟩)
  lg : g < w.heap.size
  lp : gp < w.heap.size
theorem ex_of {w : World} {N : Nat} {vl : Value} {acc : List (Tkn × Value)} (h : Toks w N vl acc) (hm : acc.map (·.1) = [ex0, ex1, ex2, ex3]) : ∃ g cap gp cp, vl = .slice (some ⟨g, 0, none⟩) 4 cap ∧ Ex w g gp cp := by
  obtain ⟨v0, v1, v2, v3, rfl⟩ := map4 hm
  have hr := h.row
  have hp : w.ownsRow N 39 5 v2 3 (pcs ex2.ps) := h.el (ex2, v2) (by simp)
  obtain ⟨g, cap, rfl, -, lg⟩ := hr.form (by simp)
  obtain ⟨gp, cp, rfl, -, lp⟩ := hp.form (by simp)
  exact ⟨g, cap, gp, cp, rfl, own_cell hr (i := 1) rfl, own_cell hr (i := 8) rfl, own_cell hr (i := 17) rfl, own_cell hr (i := 21) rfl, own_cell hp (i := 5) rfl, own_cell hp (i := 6) rfl, lg, lp⟩
set_option maxRecDepth 100000 in
set_option maxHeartbeats 2000000 in
theorem awake_any {w : World} (hT : Tab w) : Calls Tryd.prog 7 #[] w fun e w' => e = .returned (.bool true) ∧ Below w.heap.size w w' := by
  have C := all_any (s := ⟨#[97, 32, 61, 32, 34, 120, 36, 123, 98, 125, 121, 34, 32, 35, 32, 122]⟩) hT (by decide)
  rw [show lb ⟨#[97, 32, 61, 32, 34, 120, 36, 123, 98, 125, 121, 34, 32, 35, 32, 122]⟩ = exT from rfl, ex_lex] at C
  have HC := Lib.hid C
  clear C
  go_enter Tryd.func7, Tryd.ntmps7
  go_wp2_with fail
  refine HC.out.mono ?_
  rintro e w1 ⟨hB, vl, acc, hm, rfl, hK⟩
  have HB := Lib.hid hB
  obtain ⟨g, cap, gp, cp, rfl, X⟩ := ex_of hK hm
  clear hm hK hB
  obtain ⟨c1, c8, c17, c21, d5, d6, lg, lp⟩ := X
  go_wp2_with fail
  all_goals
    go_ret
    exact ⟨rfl, HB.out.alloc HB.out.size _⟩
end Go.Proofs.YtejpbebfkogmfaaDoor

/- What the laid table gives; a text that came in. -/
import Derived.Test.YtfmgbhaldakpfaaDoorSh
import Derived.Test.YtfmgbhaldakpfaaDoorRows
import Derived.ProofKit
import Derived.LaidMore
import Derived.Lib.LaidTab
import Derived.Lib.SmallJoins
import Derived.OpenShut
import Derived.Stop.Joined
import Derived.Stop.LaidErr
import Derived.ShutString
import Derived.Carry
import Derived.SizedLaws
import Derived.Deep.Slices
namespace Go.Proofs.YtfmgbhaldakpfaaDoor
open Go.ChangeShapes Go.WideShapes Go.ChangeAt Go.RowKit Go.Joins Go.Deep

theorem own : ownKnob Tryd.prog.godebug = none := by kernel_rfl
theorem co56 : Tryd.prog.cellsOf 56 = 8 := by kernel_rfl
theorem co57 : Tryd.prog.cellsOf 57 = 152 := by kernel_rfl
theorem co31 : Tryd.prog.cellsOf 31 = 7 := by kernel_rfl
theorem co29 : Tryd.prog.cellsOf 29 = 2 := by kernel_rfl
theorem co9' : Tryd.prog.cellsOf 9 = 1 := by kernel_rfl
theorem co3 : Tryd.prog.cellsOf 3 = 1 := by kernel_rfl
theorem co4 : Tryd.prog.cellsOf 4 = 1 := by kernel_rfl
def atD {H : Type} (a : Atr) : DataW H := .agg [.lit (.string a.nm.data.toList), .agg [.lit (.int .i64 a.tk), .lit (.int .i64 a.to)], .lit (.bool a.nd), .lit (.bool a.cm), .lit (.bool a.an), .lit (.bool a.ow)]
def rowD {H : Type} (r : ByteArray × Atr) : DataW H := .agg [.lit (.string r.1.data.toList), atD r.2]
theorem dRows : (Rows.laid_surety_schema_rows : DataW Unit) = .agg (tab.map rowD) := by kernel_rfl
section
variable {H : Type} {enc : TypeId × Value → H} {w : World} {base : Nat} {spare : Nat → Bool} {held : Bool}
set_option maxRecDepth 100000 in
theorem ty_trod {fuel : Nat} {cs : List Value} {k o : Int} {p : List MemPlace} (h : DataW.trod enc Tryd.prog w base spare held fuel 29 cs = some (.agg [.lit (.int .i64 k), .lit (.int .i64 o)], p)) : cs = [.int .i64 k, .int .i64 o] := by
  obtain ⟨xs, n, hfu, hx, hlen, hxl, hf⟩ := DataW.trod_struct Tryd.underlying29 h
  rw [co29] at hlen
  match cs, hlen, xs, hxl with
  | [c0, c1], _, [y0, y1], _ =>
    have h0 : DataW.trod enc Tryd.prog w base spare held n 3 (([c0, c1].drop 0).take (Tryd.prog.cellsOf 3)) = some y0 := hf 0 _ rfl
    have h1 : DataW.trod enc Tryd.prog w base spare held n 3 (([c0, c1].drop 1).take (Tryd.prog.cellsOf 3)) = some y1 := hf 1 _ rfl
    simp only [co3, List.drop_zero, List.drop_succ_cons, List.take_succ_cons, List.take_zero] at h0 h1
    obtain ⟨i0, q0, e0, _⟩ := DataW.trod_int Tryd.underlying3 h0
    obtain ⟨i1, q1, e1, _⟩ := DataW.trod_int Tryd.underlying3 h1
    subst e0 e1
    simp only [List.map_cons, List.map_nil, Prod.mk.injEq, DataW.agg.injEq, List.cons.injEq, DataW.lit.injEq, Lit.int.injEq, true_and, and_true] at hx
    injection q0 with q0 _
    injection q1 with q1 _
    rw [q0, q1, hx.1.1, hx.1.2]
set_option maxRecDepth 100000 in
theorem at_trod {fuel : Nat} {cs : List Value} {a : Atr} {p : List MemPlace} (h : DataW.trod enc Tryd.prog w base spare held fuel 31 cs = some (atD a, p)) : cs = atL a := by
  obtain ⟨xs, n, hfu, hx, hlen, hxl, hf⟩ := DataW.trod_struct Tryd.underlying31 h
  rw [co31] at hlen
  match cs, hlen, xs, hxl with
  | [c0, c1, c2, c3, c4, c5, c6], _, [y0, y1, y2, y3, y4, y5], _ =>
    have h0 : DataW.trod enc Tryd.prog w base spare held n 9 (([c0, c1, c2, c3, c4, c5, c6].drop 0).take (Tryd.prog.cellsOf 9)) = some y0 := hf 0 _ rfl
    have h1 : DataW.trod enc Tryd.prog w base spare held n 29 (([c0, c1, c2, c3, c4, c5, c6].drop 1).take (Tryd.prog.cellsOf 29)) = some y1 := hf 1 _ rfl
    have h2 : DataW.trod enc Tryd.prog w base spare held n 4 (([c0, c1, c2, c3, c4, c5, c6].drop 3).take (Tryd.prog.cellsOf 4)) = some y2 := hf 2 _ rfl
    have h3 : DataW.trod enc Tryd.prog w base spare held n 4 (([c0, c1, c2, c3, c4, c5, c6].drop 4).take (Tryd.prog.cellsOf 4)) = some y3 := hf 3 _ rfl
    have h4 : DataW.trod enc Tryd.prog w base spare held n 4 (([c0, c1, c2, c3, c4, c5, c6].drop 5).take (Tryd.prog.cellsOf 4)) = some y4 := hf 4 _ rfl
    have h5 : DataW.trod enc Tryd.prog w base spare held n 4 (([c0, c1, c2, c3, c4, c5, c6].drop 6).take (Tryd.prog.cellsOf 4)) = some y5 := hf 5 _ rfl
    simp only [co9', co29, co4, List.drop_zero, List.drop_succ_cons, List.take_succ_cons, List.take_zero] at h0 h1 h2 h3 h4 h5
    obtain ⟨s0, q0, e0, _⟩ := DataW.trod_string Tryd.underlying9 h0
    obtain ⟨b2, q2, e2⟩ := DataW.trod_bool Tryd.underlying4 h2
    obtain ⟨b3, q3, e3⟩ := DataW.trod_bool Tryd.underlying4 h3
    obtain ⟨b4, q4, e4⟩ := DataW.trod_bool Tryd.underlying4 h4
    obtain ⟨b5, q5, e5⟩ := DataW.trod_bool Tryd.underlying4 h5
    obtain ⟨d1, p1⟩ := y1
    subst e0 e2 e3 e4 e5
    simp only [atD, List.map_cons, List.map_nil, Prod.mk.injEq, DataW.agg.injEq, List.cons.injEq, DataW.lit.injEq, Lit.string.injEq, Lit.bool.injEq, and_true] at hx
    obtain ⟨⟨x0, x1, x2, x3, x4, x5⟩, _⟩ := hx
    rw [← x1] at h1
    have q1 := ty_trod h1
    injection q0 with q0 _
    injection q1 with q1 q1'
    injection q1' with q1' _
    injection q2 with q2 _
    injection q3 with q3 _
    injection q4 with q4 _
    injection q5 with q5 _
    have es : s0 = a.nm := ByteArray.ext (Array.toList_inj.1 x0.symm)
    rw [q0, q1, q1', q2, q3, q4, q5, es, ← x2, ← x3, ← x4, ← x5]
set_option maxRecDepth 100000 in
theorem row_trod {fuel : Nat} {cs : List Value} {r : ByteArray × Atr} {p : List MemPlace} (h : DataW.trod enc Tryd.prog w base spare held fuel 56 cs = some (rowD r, p)) : cs = (rowC r).toList := by
  obtain ⟨xs, n, hfu, hx, hlen, hxl, hf⟩ := DataW.trod_struct Tryd.underlying56 h
  rw [co56] at hlen
  match cs, hlen, xs, hxl with
  | [c0, c1, c2, c3, c4, c5, c6, c7], _, [y0, y1], _ =>
    have h0 : DataW.trod enc Tryd.prog w base spare held n 9 (([c0, c1, c2, c3, c4, c5, c6, c7].drop 0).take (Tryd.prog.cellsOf 9)) = some y0 := hf 0 _ rfl
    have h1 : DataW.trod enc Tryd.prog w base spare held n 31 (([c0, c1, c2, c3, c4, c5, c6, c7].drop 1).take (Tryd.prog.cellsOf 31)) = some y1 := hf 1 _ rfl
    simp only [co9', co31, List.drop_zero, List.drop_succ_cons, List.take_succ_cons, List.take_zero] at h0 h1
    obtain ⟨s0, q0, e0, _⟩ := DataW.trod_string Tryd.underlying9 h0
    obtain ⟨d1, p1⟩ := y1
    subst e0
    simp only [rowD, List.map_cons, List.map_nil, Prod.mk.injEq, DataW.agg.injEq, List.cons.injEq, DataW.lit.injEq, Lit.string.injEq, and_true] at hx
    obtain ⟨⟨x0, x1⟩, _⟩ := hx
    rw [← x1] at h1
    have q1 := at_trod h1
    injection q0 with q0 _
    have es : s0 = r.1 := ByteArray.ext (Array.toList_inj.1 x0.symm)
    rw [q0, es, q1]
set_option maxRecDepth 100000 in
/-- an array of rows, cell for cell -/
theorem rows_trod {fuel : Nat} {cs : List Value} {p : List MemPlace} (h : DataW.trod enc Tryd.prog w base spare held fuel 57 cs = some (.agg (tab.map rowD), p)) : cs = tab.flatMap fun r => (rowC r).toList := by
  cases fuel with
  | zero => simp [DataW.trod] at h
  | succ fuel =>
    simp only [DataW.trod, Tryd.underlying57, co56, co57] at h
    split at h
    · rename_i hl
      obtain ⟨xs, hm, hx⟩ := Option.map_eq_some_iff.1 h
      have hxs : xs.map (·.1) = tab.map rowD := by
        have := congrArg Prod.fst hx
        simpa using this
      apply List.ext_getElem?
      intro i
      by_cases hi : i < 152
      · have hd : i / 8 < 19 := by omega
        obtain ⟨b, hb, hf⟩ := Lib.mapM_at hm (i / 8) (i / 8) (by simp [hd])
        have h2 : (xs.map (·.1))[i / 8]? = some b.1 := by simp [hb]
        rw [hxs, List.getElem?_map, tab_at _ hd] at h2
        have h3 : rowD (rw' (i / 8)) = b.1 := by simpa using h2
        obtain ⟨d, pp⟩ := b
        subst h3
        have h4 := row_trod hf
        have h5 := flat_get (fun r => (rowC r).toList) 8 (fun _ => rfl) tab (i / 8) (i % 8) _ (tab_at _ hd) (Nat.mod_lt _ (by omega))
        have e : i / 8 * 8 + i % 8 = i := by omega
        rw [e] at h5
        rw [h5, ← h4, List.getElem?_take, if_pos (Nat.mod_lt _ (by omega)), List.getElem?_drop, e]
      · rw [List.getElem?_eq_none (by omega), List.getElem?_eq_none (by
          have : (tab.flatMap fun r => (rowC r).toList).length = 152 := by kernel_rfl
          omega)]
    · cases h
set_option maxRecDepth 100000 in
/-- a text that came in -/
theorem open_str {r : Reach} {b0 : Nat} {v : Value} {d : DataW H} {p : List MemPlace} (hv : Value.okWide Tryd.prog w r b0 9 v) (h : DataW.Trod enc Tryd.prog w base spare held 9 v d p) : ∃ s : ByteArray, v = .string s ∧ s.size ≤ maxLen := by
  obtain ⟨s, rfl, rfl, rfl, hs⟩ := Go.ChangeMaps.open_string Tryd.underlying9 hv h
  exact ⟨s, rfl, hs⟩
end
theorem gRows : Tryd.prog.globalNamed "surety/schema.rows" = some 0 := by kernel_rfl
theorem tRows : (Tryd.prog.globals[0]?).map (·.type) = some 57 := by kernel_rfl
set_option maxRecDepth 100000 in
/-- what the condition gives the walk -/
theorem of_laid {W : World} {l : List (String × DataW Unit)} (hl : l = [("surety/schema.rows", Rows.laid_surety_schema_rows)]) (h : laidMet Tryd.prog l W) : Tab W := by
  subst hl
  rw [dRows] at h
  obtain ⟨ps, ⟨g', t', cs, fuel, p, q, hg', ht', hvar, hd, _, _⟩, _⟩ := h
  obtain rfl := Option.some.inj (gRows.symm.trans hg')
  obtain rfl := Option.some.inj (tRows.symm.trans ht')
  have e := rows_trod hd
  unfold World.var? at hvar
  rw [gRows] at hvar
  simp only [Option.bind_some] at hvar
  split at hvar
  · rename_i cs' T fr hb
    injection hvar with hvar
    subst hvar
    refine ⟨T, fr, ?_⟩
    rw [hb]
    congr 2
    unfold tabC
    rw [← e]
  · cases hvar
end Go.Proofs.YtfmgbhaldakpfaaDoor

/- The document's table of attributes; in memory. -/
import Derived.Test.YtfmgbhaldakpfaaDoorX
import Derived.Laws.Rows
import Derived.Deep.AppendLies
import Derived.OwnWalk
namespace Go.Proofs.YtfmgbhaldakpfaaDoor
open Go.RowKit

/-- an attribute: name, type, what it is -/
structure Atr where
  nm : ByteArray
  tk : Int
  to : Int
  nd : Bool
  cm : Bool
  an : Bool
  ow : Bool
  deriving DecidableEq
/-- its cells -/
abbrev atL (a : Atr) : List Value := [.string a.nm, .int .i64 a.tk, .int .i64 a.to, .bool a.nd, .bool a.cm, .bool a.an, .bool a.ow]
abbrev av (a : Atr) : Value := .agg #[.string a.nm, .int .i64 a.tk, .int .i64 a.to, .bool a.nd, .bool a.cm, .bool a.an, .bool a.ow]
def zAt : Atr := ⟨⟨#[]⟩, 0, 0, false, false, false, false⟩
def bDisk : ByteArray := ⟨#[100, 105, 115, 107]⟩
def bNode : ByteArray := ⟨#[110, 111, 100, 101]⟩
def bNote : ByteArray := ⟨#[110, 111, 116, 101]⟩
def bRule : ByteArray := ⟨#[114, 117, 108, 101]⟩
/-- the table -/
def tab : List (ByteArray × Atr) := [(bDisk, ⟨⟨#[105, 100]⟩, 3, 0, false, true, false, false⟩), (bDisk, ⟨⟨#[107, 105, 110, 100]⟩, 3, 0, false, false, true, false⟩), (bDisk, ⟨⟨#[108, 97, 98, 101, 108]⟩, 3, 0, false, false, false, false⟩), (bDisk, ⟨⟨#[115, 101, 114, 105, 97, 108]⟩, 2, 0, false, true, false, false⟩), (bDisk, ⟨⟨#[115, 105, 122, 101]⟩, 2, 0, true, false, false, false⟩), (bNode, ⟨⟨#[97, 100, 100, 114]⟩, 3, 0, false, true, false, false⟩), (bNode, ⟨⟨#[100, 105, 115, 107]⟩, 3, 0, false, false, false, false⟩), (bNode, ⟨⟨#[105, 100]⟩, 3, 0, false, true, false, false⟩), (bNode, ⟨⟨#[105, 109, 97, 103, 101]⟩, 3, 0, true, false, true, false⟩), (bNode, ⟨⟨#[112, 111, 114, 116, 115]⟩, 4, 2, false, false, false, false⟩), (bNode, ⟨⟨#[115, 101, 99, 114, 101, 116]⟩, 3, 0, false, false, false, true⟩), (bNode, ⟨⟨#[116, 97, 103, 115]⟩, 5, 3, false, false, false, false⟩), (bNote, ⟨⟨#[105, 100]⟩, 3, 0, false, true, false, false⟩), (bNote, ⟨⟨#[109, 101, 116, 97]⟩, 5, 0, false, false, false, false⟩), (bNote, ⟨⟨#[116, 101, 120, 116]⟩, 3, 0, false, false, false, false⟩), (bRule, ⟨⟨#[97, 108, 108, 111, 119]⟩, 4, 3, false, false, false, false⟩), (bRule, ⟨⟨#[102, 114, 111, 109]⟩, 3, 0, true, false, false, false⟩), (bRule, ⟨⟨#[105, 100]⟩, 3, 0, false, true, false, false⟩), (bRule, ⟨⟨#[116, 111]⟩, 3, 0, false, false, false, false⟩)]
theorem tab_len : tab.length = 19 := by kernel_rfl
/-- row k -/
def rw' (k : Nat) : ByteArray × Atr := tab.getD k (⟨#[]⟩, zAt)
def attrs (t : ByteArray) : List Atr := (tab.filter fun r => decide (r.1 = t)).map (·.2)
/-- of the first k rows -/
def pre (t : ByteArray) (k : Nat) : List Atr := ((tab.take k).filter fun r => decide (r.1 = t)).map (·.2)
theorem pre_zero (t : ByteArray) : pre t 0 = [] := rfl
theorem pre_all (t : ByteArray) : pre t 19 = attrs t := by unfold pre attrs; rw [List.take_of_length_le (by rw [tab_len]; exact Nat.le_refl _)]
theorem tab_take (k : Nat) (h : k < 19) : tab.take (k + 1) = tab.take k ++ [rw' k] := by
  have h' : k < tab.length := by rw [tab_len]; exact h
  rw [List.take_succ_eq_append_getElem h']
  unfold rw'
  rw [List.getD_eq_getElem?_getD, List.getElem?_eq_getElem h', Option.getD_some]
theorem pre_yes (t : ByteArray) (k : Nat) (h : k < 19) (e : (rw' k).1 = t) : pre t (k + 1) = pre t k ++ [(rw' k).2] := by
  unfold pre; rw [tab_take k h, List.filter_append, List.map_append]; simp [e]
theorem pre_no (t : ByteArray) (k : Nat) (h : k < 19) (e : (rw' k).1 ≠ t) : pre t (k + 1) = pre t k := by
  unfold pre; rw [tab_take k h, List.filter_append, List.map_append]; simp [e]
theorem pre_len (t : ByteArray) (k : Nat) : (pre t k).length ≤ 19 := by
  unfold pre; rw [List.length_map]
  have := List.length_filter_le (fun r : ByteArray × Atr => decide (r.1 = t)) (tab.take k)
  have h2 := List.length_take_le' k tab
  rw [tab_len] at h2; omega
/-- a row's cells -/
abbrev rowC (r : ByteArray × Atr) : Array Value := #[.string r.1, .string r.2.nm, .int .i64 r.2.tk, .int .i64 r.2.to, .bool r.2.nd, .bool r.2.cm, .bool r.2.an, .bool r.2.ow]
def tabC : Array Value := (tab.flatMap fun r => (rowC r).toList).toArray
theorem tabC_size : tabC.size = 152 := by kernel_rfl
/-- the table lies where the program keeps it -/
def Tab (w : World) : Prop := ∃ T fr, w.heap[0]? = some (.cells tabC T fr)
theorem Tab.lt {w : World} (h : Tab w) : 0 < w.heap.size := by obtain ⟨T, fr, h⟩ := h; exact (Array.getElem?_eq_some_iff.1 h).1
theorem Tab.below {B : Nat} {w w' : World} (h : Tab w) (hb : Below B w w') (hB : 0 < B) : Tab w' := by
  obtain ⟨T, fr, h⟩ := h; exact ⟨T, fr, (hb.block 0 hB).trans h⟩
theorem ir0 (w : World) : (Instr.index 57 (.agg tabC) (.int .i64 ((0 : Nat) : Int))).run Tryd.prog w = .ok (.agg (rowC (rw' 0))) w := by kernel_rfl
theorem ir1 (w : World) : (Instr.index 57 (.agg tabC) (.int .i64 ((1 : Nat) : Int))).run Tryd.prog w = .ok (.agg (rowC (rw' 1))) w := by kernel_rfl
theorem ir2 (w : World) : (Instr.index 57 (.agg tabC) (.int .i64 ((2 : Nat) : Int))).run Tryd.prog w = .ok (.agg (rowC (rw' 2))) w := by kernel_rfl
theorem ir3 (w : World) : (Instr.index 57 (.agg tabC) (.int .i64 ((3 : Nat) : Int))).run Tryd.prog w = .ok (.agg (rowC (rw' 3))) w := by kernel_rfl
theorem ir4 (w : World) : (Instr.index 57 (.agg tabC) (.int .i64 ((4 : Nat) : Int))).run Tryd.prog w = .ok (.agg (rowC (rw' 4))) w := by kernel_rfl
theorem ir5 (w : World) : (Instr.index 57 (.agg tabC) (.int .i64 ((5 : Nat) : Int))).run Tryd.prog w = .ok (.agg (rowC (rw' 5))) w := by kernel_rfl
theorem ir6 (w : World) : (Instr.index 57 (.agg tabC) (.int .i64 ((6 : Nat) : Int))).run Tryd.prog w = .ok (.agg (rowC (rw' 6))) w := by kernel_rfl
theorem ir7 (w : World) : (Instr.index 57 (.agg tabC) (.int .i64 ((7 : Nat) : Int))).run Tryd.prog w = .ok (.agg (rowC (rw' 7))) w := by kernel_rfl
theorem ir8 (w : World) : (Instr.index 57 (.agg tabC) (.int .i64 ((8 : Nat) : Int))).run Tryd.prog w = .ok (.agg (rowC (rw' 8))) w := by kernel_rfl
theorem ir9 (w : World) : (Instr.index 57 (.agg tabC) (.int .i64 ((9 : Nat) : Int))).run Tryd.prog w = .ok (.agg (rowC (rw' 9))) w := by kernel_rfl
theorem ir10 (w : World) : (Instr.index 57 (.agg tabC) (.int .i64 ((10 : Nat) : Int))).run Tryd.prog w = .ok (.agg (rowC (rw' 10))) w := by kernel_rfl
theorem ir11 (w : World) : (Instr.index 57 (.agg tabC) (.int .i64 ((11 : Nat) : Int))).run Tryd.prog w = .ok (.agg (rowC (rw' 11))) w := by kernel_rfl
theorem ir12 (w : World) : (Instr.index 57 (.agg tabC) (.int .i64 ((12 : Nat) : Int))).run Tryd.prog w = .ok (.agg (rowC (rw' 12))) w := by kernel_rfl
theorem ir13 (w : World) : (Instr.index 57 (.agg tabC) (.int .i64 ((13 : Nat) : Int))).run Tryd.prog w = .ok (.agg (rowC (rw' 13))) w := by kernel_rfl
theorem ir14 (w : World) : (Instr.index 57 (.agg tabC) (.int .i64 ((14 : Nat) : Int))).run Tryd.prog w = .ok (.agg (rowC (rw' 14))) w := by kernel_rfl
theorem ir15 (w : World) : (Instr.index 57 (.agg tabC) (.int .i64 ((15 : Nat) : Int))).run Tryd.prog w = .ok (.agg (rowC (rw' 15))) w := by kernel_rfl
theorem ir16 (w : World) : (Instr.index 57 (.agg tabC) (.int .i64 ((16 : Nat) : Int))).run Tryd.prog w = .ok (.agg (rowC (rw' 16))) w := by kernel_rfl
theorem ir17 (w : World) : (Instr.index 57 (.agg tabC) (.int .i64 ((17 : Nat) : Int))).run Tryd.prog w = .ok (.agg (rowC (rw' 17))) w := by kernel_rfl
theorem ir18 (w : World) : (Instr.index 57 (.agg tabC) (.int .i64 ((18 : Nat) : Int))).run Tryd.prog w = .ok (.agg (rowC (rw' 18))) w := by kernel_rfl
theorem idx_row : ∀ (k : Nat) (_ : k < 19) (w : World), (Instr.index 57 (.agg tabC) (.int .i64 (k : Int))).run Tryd.prog w = .ok (.agg (rowC (rw' k))) w
  | 0, _, w => ir0 w
  | 1, _, w => ir1 w
  | 2, _, w => ir2 w
  | 3, _, w => ir3 w
  | 4, _, w => ir4 w
  | 5, _, w => ir5 w
  | 6, _, w => ir6 w
  | 7, _, w => ir7 w
  | 8, _, w => ir8 w
  | 9, _, w => ir9 w
  | 10, _, w => ir10 w
  | 11, _, w => ir11 w
  | 12, _, w => ir12 w
  | 13, _, w => ir13 w
  | 14, _, w => ir14 w
  | 15, _, w => ir15 w
  | 16, _, w => ir16 w
  | 17, _, w => ir17 w
  | 18, _, w => ir18 w
  | k + 19, h, _ => absurd h (by omega)
theorem info57 : (Tryd.prog.info? 57).map (·.size) = some tabC.size := by kernel_rfl
theorem info31 : (Tryd.prog.info? 31).map (fun i => (i.zero, i.size, i.bytes)) = some (some (.agg #[.string ⟨#[]⟩, .int .i64 0, .int .i64 0, .bool false, .bool false, .bool false, .bool false]), 7, 40) := by kernel_rfl
/-- attributes in a row -/
abbrev AtRow (P : Nat → Prop) (w : World) (o : Option Addr) (cap : Nat) (l : List Atr) : Prop := RowP P w o cap l.length 7 (fun j m => (atL (l.getD j zAt)).getD m undef)
end Go.Proofs.YtfmgbhaldakpfaaDoor

/- The reference's table: Table, attr. -/
import Derived.Test.YtfmgbhaldakpfaaDoorSd
import Derived.Test.YtfmgbhaldakpfaaDoorSe
namespace Go.Proofs.YtfmgbhaldakpfaaDoor
open Go.RowKit

/-- what it is, in letters -/
def isBB (nd cm an ow : Bool) : ByteArray := ⟨((if nd then [(110 : UInt8)] else []) ++ (if cm then [99] else []) ++ (if an then [97] else []) ++ (if ow then [111] else [])).toArray⟩
def isB (a : Atr) : ByteArray := isBB a.nd a.cm a.an a.ow
abbrev tcell (r : ByteArray × Atr) : Array Value := #[.string r.1, .string r.2.nm, .int .i64 r.2.tk, .int .i64 r.2.to, .string (isB r.2)]
def tcs : List Value := tab.flatMap fun r => (tcell r).toList
theorem bal {w w1 : World} (h : Below w.heap.size w w1) (o : Obj) : Below w.heap.size w (w1.alloc o) := h.alloc h.size o
theorem at_top (w : World) (o : Obj) (g : Nat) (h : g = w.heap.size) : (w.alloc o).heap[g]? = some o := by subst h; exact heap_alloc_new _ _
set_option maxHeartbeats 1000000 in
set_option maxRecDepth 100000 in
theorem table_any (w : World) : Calls Tryd.prog 29 #[] w fun e w' => ∃ g, e = .returned (.slice (some ⟨g, 0, none⟩) 19 19) ∧ w.heap.size ≤ g ∧ (∃ cs, cs = tcs.toArray ∧ w'.heap[g]? = some (.cells cs 61 (0, 0))) ∧ Below w.heap.size w w' := by
  go_enter Tryd.func29, Tryd.ntmps29
  go_wp2
  go_ret
  refine ⟨_, rfl, ?_, ⟨_, ?_, at_top _ _ _ (by simp)⟩, ?_⟩
  · omega
  · kernel_rfl
  · exact bal (bal (bal (bal (bal (bal (bal (Below.refl _ _) _) _) _) _) _) _) _
end Go.Proofs.YtfmgbhaldakpfaaDoor

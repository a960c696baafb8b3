/- Contracts: Under, Over. -/
import Derived.Test.YtonnopcafmhaaaaDoorCA
namespace Go.Proofs.YtonnopcafmhaaaaDoor
open Go.RowKit

theorem under_nil (w : World) (v : Value) : Calls Tryd.prog 18 #[.pointer none, v] w fun e w' => e = .returned (.slice none 0 0) ∧ w = w' := by
  go_enter Tryd.func18, Tryd.ntmps18
  go_wp2
  go_ret
  exact ⟨rfl, rfl⟩
theorem over_nil (w : World) (v : Value) : Calls Tryd.prog 20 #[.pointer none, v] w fun e w' => e = .returned (.slice none 0 0) ∧ w = w' := by
  go_enter Tryd.func20, Tryd.ntmps20
  go_wp2
  go_ret
  exact ⟨rfl, rfl⟩
theorem rows_a {W : World} {g n : Nat} {A B : Nat → Nat → Bool} (h : GB W g n A B) (i : Nat) (hi : i < 128) :
    W.cell? ⟨g, 1 + i * 2, none⟩ = some (.int .u64 (wd (A i) 0 : Int)) ∧ W.cell? ⟨g, 1 + i * 2 + 1, none⟩ = some (.int .u64 (wd (A i) 1 : Int)) := by
  have c0 := World.rowIs.cell h (i := 1 + i * 2 + 0) (by omega)
  have c1 := World.rowIs.cell h (i := 1 + i * 2 + 1) (by omega)
  rw [gc_a _ _ _ (by omega) (by omega)] at c0 c1
  exact ⟨c0, c1⟩
theorem rows_b {W : World} {g n : Nat} {A B : Nat → Nat → Bool} (h : GB W g n A B) (i : Nat) (hi : i < 128) :
    W.cell? ⟨g, 257 + i * 2, none⟩ = some (.int .u64 (wd (B i) 0 : Int)) ∧ W.cell? ⟨g, 257 + i * 2 + 1, none⟩ = some (.int .u64 (wd (B i) 1 : Int)) := by
  have c0 := World.rowIs.cell h (i := 257 + i * 2 + 0) (by omega)
  have c1 := World.rowIs.cell h (i := 257 + i * 2 + 1) (by omega)
  rw [gc_b _ _ _ (by omega)] at c0 c1
  exact ⟨c0, c1⟩
theorem under_any {w : World} {g n : Nat} {A : Nat → Nat → Bool} (sp : Option Addr) (cap : Nat) (l : List Int) (h : GR w g n A) (hT : Tab w) (hr : Rd w sp l) (hl : l.length ≤ maxLen) :
    Calls Tryd.prog 18 #[.pointer (some ⟨g, 0, none⟩), .slice sp l.length cap] w fun e w' => ∃ v, e = .returned v ∧ Is w' w.heap.size v (nl (underM A n (inL l))) ∧ Below w.heap.size w w' := by
  have C := Lib.hid (reach_any 1 sp cap l h hT hr hl (fun W hW i hi => rows_a hW i hi) fun i k hk => (h.fit i k hk).2)
  clear h hT hr hl
  go_enter Tryd.func18, Tryd.ntmps18
  go_wp2_with fail
  refine C.out.mono ?_
  rintro e w2 ⟨v, rfl, hv, b⟩
  have HV := Lib.hid (And.intro hv b)
  clear hv b C
  go_wp2
  go_ret
  exact ⟨v, rfl, HV.out.1, HV.out.2⟩
theorem over_any {w : World} {g n : Nat} {A : Nat → Nat → Bool} (sp : Option Addr) (cap : Nat) (l : List Int) (h : GR w g n A) (hT : Tab w) (hr : Rd w sp l) (hl : l.length ≤ maxLen) :
    Calls Tryd.prog 20 #[.pointer (some ⟨g, 0, none⟩), .slice sp l.length cap] w fun e w' => ∃ v, e = .returned v ∧ Is w' w.heap.size v (nl (underM (turnA A) n (inL l))) ∧ Below w.heap.size w w' := by
  have C := Lib.hid (reach_any 257 sp cap l h hT hr hl (fun W hW i hi => rows_b hW i hi) fun i k hk => (h.fit k i hk).1)
  clear h hT hr hl
  go_enter Tryd.func20, Tryd.ntmps20
  go_wp2_with fail
  refine C.out.mono ?_
  rintro e w2 ⟨v, rfl, hv, b⟩
  have HV := Lib.hid (And.intro hv b)
  clear hv b C
  go_wp2
  go_ret
  exact ⟨v, rfl, HV.out.1, HV.out.2⟩
end Go.Proofs.YtonnopcafmhaaaaDoor

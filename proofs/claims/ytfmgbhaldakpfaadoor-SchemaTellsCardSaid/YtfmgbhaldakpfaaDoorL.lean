/- Weight, Depth, Known, by every. -/
import Derived.Test.YtfmgbhaldakpfaaDoorE
import Derived.OneCell
namespace Go.Proofs.YtfmgbhaldakpfaaDoor
open Go.RowKit

/-- block cb is one cell that holds s -/
def Cap (cb : Nat) (s : Int) (w : World) : Prop := w.heap[cb]? = some (.cells #[.int .i64 s] 3 (0, 0))
theorem Cap.lt {cb : Nat} {s : Int} {w : World} (h : Cap cb s w) : cb < w.heap.size := (Array.getElem?_eq_some_iff.1 h).1
theorem Cap.keep {cb : Nat} {s : Int} {w w' : World} (h : Cap cb s w) (b : Below w.heap.size w w') : Cap cb s w' := by unfold Cap; rw [b.block _ h.lt]; exact h
theorem Cap.cell {cb : Nat} {s : Int} {w : World} (h : Cap cb s w) : w.cell? ⟨cb, 0, none⟩ = some (.int .i64 s) := by rw [cell_of_row w cb 0 _ 3 (0, 0) h]; rfl
theorem Cap.free {cb : Nat} {s : Int} {w : World} (h : Cap cb s w) : w.frozen? ⟨cb, 0, none⟩ = false := frozen_of_row w cb 0 _ 3 h
theorem Cap.set {cb : Nat} {s : Int} {w : World} (h : Cap cb s w) (s' : Int) : Cap cb s' (w.setCell ⟨cb, 0, none⟩ (.int .i64 s')) := by unfold Cap; rw [heap_setCell_same w cb 0 _ 3 _ h]; rfl
theorem Exc.setCell {cb : Nat} {a w : World} (h : Exc (some cb) a w) (o : Nat) (v : Value) : Exc (some cb) a (w.setCell ⟨cb, o, none⟩ v) :=
  ⟨h.os, h.tape, h.output, by rw [World.size_setCell]; exact h.size, fun k hk hc => (heap_setCell_other w ⟨cb, o, none⟩ k v (fun e => hc (by rw [e]))).trans (h.block k hk hc)⟩
def BdW (m : Nat) (s : Int) : Prop := 0 ≤ s ∧ s + m ≤ 130000
def EyPost (cb : Option Nat) (Inv : Int → World → Prop) (St : Nat → Val → Int → Bool → Int → Prop) (V : Val) (s : Int) (w : World) (e : Ending) (w' : World) : Prop :=
  ∃ b s', e = .returned (.bool b) ∧ Ev St 1 V s b s' ∧ Inv s' w' ∧ Exc cb w w'
def StK (_ : Nat) (V : Val) (_ : Int) (b : Bool) (_ : Int) : Prop := b = (V.k != 6)
def BdK (_ : Nat) (_ : Int) : Prop := True
theorem stepK : Step StK BdK := ⟨fun _ _ _ _ _ => trivial, fun _ _ _ _ _ _ _ _ => trivial⟩
set_option maxHeartbeats 1000000 in
theorem known1 (n : Nat) (d : Nat) (V : Val) (v : Value) (s : Int) (w : World) (_ : d ≤ 60000) (h : Lies n w V v) (_ : n ≤ w.heap.size) (_ : True) (_ : BdK (sz V) s) :
    Calls Tryd.prog 62 #[v, .int .i64 d] w (StPost none (fun _ _ => True) StK d V s w) := by
  obtain ⟨oL, oK, cL, cK, c, rfl, O⟩ := h.inv
  have HX := Lib.hid (Exc.of_below (cb := none) ((Below.refl w.heap.size w).alloc (Nat.le_refl _) (bx V oL oK cL cK)))
  clear h O
  go_enter Tryd.func62, Tryd.ntmps62
  go_wp2
  go_ret
  exact ⟨_, s, rfl, rfl, trivial, HX.out⟩
theorem evK (V : Val) : ∀ d s b s', Ev StK d V s b s' → b = known V := by
  induction V using val_ind with
  | h V ih =>
    have hl : ∀ l : List Val, (∀ x, x ∈ l → x ∈ V.l) → ∀ d s b s', EvL StK d l s b s' → b = l.all known := by
      intro l
      induction l with
      | nil => intro _ d s b s' h; cases h; rfl
      | cons a r ihr =>
        intro hm d s b s' h
        rw [List.all_cons]
        cases h with
        | stop h1 => rw [← ih a (hm a (by simp)) _ _ _ _ h1]; rfl
        | cons h1 h2 => rw [← ih a (hm a (by simp)) _ _ _ _ h1, ← ihr (fun x hx => hm x (by simp [hx])) _ _ _ _ h2]; rfl
    intro d s b s' h
    rw [known_eq]
    cases h with
    | stop h1 => rw [← show false = (V.k != 6) from h1]; rfl
    | go h1 h2 => rw [← show true = (V.k != 6) from h1, hl _ (fun x hx => els_mem hx) _ _ _ _ h2]; rfl
set_option maxHeartbeats 1000000 in
theorem every_63 (n : Nat) (V : Val) (v : Value) (s : Int) (w : World) (hN : sz V ≤ 50000) (h : Lies n w V v) (hn : n ≤ w.heap.size) :
    Calls Tryd.prog 61 #[v, .func (.func 62) #[] #[]] w (EyPost none (fun _ _ => True) StK V s w) := by
  have HC := Lib.hid (everyFrom_63 none n (fun _ _ => True) StK BdK stepK (fun _ _ _ _ _ => trivial) (fun s w k h e => by cases e) (fun k e => by cases e) (known1 n) 50000 1 V)
  obtain ⟨oL, oK, cL, cK, c, rfl, O⟩ := h.inv
  have HW := Lib.hid ((Below.refl w.heap.size w).alloc (Nat.le_refl _) (bx V oL oK cL cK))
  have H := Lib.hid (O.kept (HW.out.mono hn)).lies
  clear h O
  go_enter Tryd.func61, Tryd.ntmps61
  go_wp2_with fail
  refine (HC.out _ s _ hN (by omega) H.out (by simp; omega) trivial trivial).mono ?_
  rintro e w1 ⟨b, s', rfl, he, hi, x⟩
  have K := Lib.hid (And.intro he ((Exc.of_below HW.out).trans x))
  clear he hi x
  go_wp2_with fail
  go_ret
  exact ⟨b, s', rfl, K.out.1, trivial, K.out.2⟩
set_option maxHeartbeats 1000000 in
theorem cknown_any (n : Nat) (V : Val) (v : Value) (w : World) (hN : sz V ≤ 50000) (h : Lies n w V v) (hn : n ≤ w.heap.size) :
    Calls Tryd.prog 41 #[v] w fun e w' => e = .returned (.bool (known V)) ∧ Below w.heap.size w w' := by
  obtain ⟨oL, oK, cL, cK, c, rfl, O⟩ := h.inv
  have HW := Lib.hid ((Below.refl w.heap.size w).alloc (Nat.le_refl _) (bx V oL oK cL cK))
  have H := Lib.hid (O.kept (HW.out.mono hn)).lies
  clear h O
  go_enter Tryd.func41, Tryd.ntmps41
  go_wp2_with fail
  refine (every_63 n V _ 0 _ hN H.out (by simp; omega)).mono ?_
  rintro e w1 ⟨b, s', rfl, he, hi, x⟩
  obtain rfl := evK _ _ _ _ _ he
  have B := Lib.hid (HW.out.trans ((x.below (n := w.heap.size + 1) (by simp) (fun k e => by cases e)).mono (by omega)))
  clear he hi x
  go_wp2_with fail
  go_ret
  exact ⟨rfl, B.out⟩
end Go.Proofs.YtfmgbhaldakpfaaDoor

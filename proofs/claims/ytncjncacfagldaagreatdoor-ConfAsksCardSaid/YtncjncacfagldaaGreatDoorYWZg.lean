import Derived.Test.YtncjncacfagldaaGreatDoorYWZd
import Derived.Test.YtncjncacfagldaaGreatDoorYWZa
import Derived.Test.YtncjncacfagldaaGreatDoorYWZe
import Derived.Deep.DeepCutAuto
import Derived.StillTailTactics
import Derived.Laws.Concat
namespace Go.Proofs.YtncjncacfagldaaGreatDoor
open Go.RowKit Go.Lib

def Nw (w w' : World) (k : Nat) : Prop := w.heap.size ≤ k ∧ k < w'.heap.size
theorem xp_zero (P : Nat → Prop) (w : World) : XP P w zeroX (.agg (xc zeroX none 0 none 0 none 0)) := xp_mk 0 ⟨#[]⟩ ⟨#[]⟩ (by decide) (by decide) (by decide) [] 0 0 0 (rowP_nil _ _ _ (fun _ _ => undef)) (fun j x h => by cases h)
theorem inq_lex {n : Nat} {a : List (Tkn × Option Addr × Nat)} {ts : List Tkn} (e : a.map (·.1) = ts) (g : LexG n ts) (vl : Value) (sg n0 : Nat) : Inq ⟨a, vl, sg, ps0, n0⟩ := by
 refine ⟨fun X hX x hx hex => ?_, (by show (-100000000000 : Int) ≤ 0 ∧ (0 : Int) ≤ 100000000000; decide), (by show (-100000000000 : Int) ≤ 0 ∧ (0 : Int) ≤ 100000000000; decide), (by show (-100000000000 : Int) ≤ 0 ∧ (0 : Int) ≤ 100000000000; decide)⟩
 have k := g.el X.1 (by rw [← e]; exact List.mem_map_of_mem hX)
 exact ⟨(k.el x hx).i hex, Nat.le_trans (flat_le hx) (Nat.le_trans k.flat (by decide))⟩
open Go.RowKit Go.Lib

instance (c : UInt8) : Decidable (isDig c) := by unfold isDig; infer_instance
instance (l : List UInt8) (m : Bool) : Decidable (IsT l m) := by unfold IsT; infer_instance
def pvC (l : List UInt8) (m : Bool) : Int := if IsT l m ∧ l.length ≤ 19 then nv (sd (dval l) (mi m)) else 0
def peC (l : List UInt8) (m : Bool) : Int := if IsT l m then (if l.length ≤ 19 then ne (sd (dval l) (mi m)) else 6) else 4
theorem pv_c (l : List UInt8) (m : Bool) : pv l m = pvC l m := by
 unfold pv pvC
 by_cases h : IsT l m ∧ l.length ≤ 19
 · rw [if_pos h, if_pos h]
 · rw [if_neg h, if_neg h]
theorem pe_c (l : List UInt8) (m : Bool) : pe l m = peC l m := by
 unfold pe peC
 by_cases h : IsT l m
 · rw [if_pos h, if_pos h]
 · rw [if_neg h, if_neg h]
def tokC (p : Plc) : List UInt8 → Except Nat (Tkn × List UInt8)
 | [] => .error 0
 | c :: r =>
   if isLetter c.toNat then (if 24 < (takeP isWord (c :: r)).length then .error 3 else .ok (⟨1, takeP isWord (c :: r), 0, [], p⟩, dropP isWord (c :: r)))
   else if isDgt c.toNat then (if peC (takeP isWord (c :: r)) false = 0 then .ok (⟨2, [], pvC (takeP isWord (c :: r)) false, [], p⟩, dropP isWord (c :: r)) else .error (peC (takeP isWord (c :: r)) false).toNat)
   else if c = 34 then strE p (strL (r.length + 1) r (p.step c) [] [] 0)
   else if sgn (c :: r) = 0 then .error 23 else .ok (⟨4, (c :: r).take (sgn (c :: r)), 0, [], p⟩, (c :: r).drop (sgn (c :: r)))
theorem tok_c (p : Plc) (l : List UInt8) : tokL p l = tokC p l := by
 cases l with
 | nil => rfl
 | cons c r => rw [tokL_c, tokC, pe_c, pv_c]
def allC : Nat → Plc → List UInt8 → Except (Nat × Plc) (List Tkn)
 | 0, p, _ => .error (99, p)
 | f + 1, p, l => match skip l with
   | [] => .ok [⟨0, [], 0, [], p.adv l⟩]
   | c :: r => match tokC (p.adv (l.take (l.length - (r.length + 1)))) (c :: r) with
     | .error e => .error (e, p.adv (l.take (l.length - (r.length + 1))))
     | .ok (t, l2) => match allC f (p.adv (l.take (l.length - l2.length))) l2 with
       | .error e => .error e
       | .ok ts => .ok (t :: ts)
theorem all_c : ∀ (f : Nat) (p : Plc) (l : List UInt8), allL f p l = allC f p l
 | 0, _, _ => rfl
 | f + 1, p, l => by
   unfold allL allC
   cases skip l with
   | nil => rfl
   | cons c r =>
     simp only [tok_c]
     cases tokC (p.adv (l.take (l.length - (r.length + 1)))) (c :: r) with
     | error e => rfl
     | ok tr =>
       simp only [all_c f]
       cases allC f (p.adv (List.take (l.length - tr.snd.length) l)) tr.snd <;> rfl
def lexC (L : List UInt8) : Except (Nat × Plc) (List Tkn) := if 32768 < L.length then .error (3, plc0) else allC (L.length + 1) plc0 L
theorem lex_c (L : List UInt8) : lexL L = lexC L := by unfold lexL lexC; rw [all_c]
def innC (l : List UInt8) (h : Ps) : Ex × Nat × Ps :=
 match lexC l with
 | .error (e, p) => (zeroX, e, mv h p.ps)
 | .ok ts => ((wholeM ⟨ts, h, noInn⟩).1, (wholeM ⟨ts, h, noInn⟩).2.e, (wholeM ⟨ts, h, noInn⟩).2.q)
theorem inn_c : innM = innC := by
 funext l h
 unfold innM innC
 rw [lex_c]
 cases lexC l with
 | error e => rfl
 | ok ts => rfl
open Go.RowKit Go.Lib

open Go.RowKit Go.Lib

theorem held_next {N : Nat} {W0 W1 W2 : World} (b : Below W1.heap.size W1 W2) (h : (∀ b o, b < N → W1.cell? ⟨b, o, none⟩ = W0.cell? ⟨b, o, none⟩) ∧ Hid (Below N W0 W1) ∧ Hid (N ≤ W1.heap.size)) :
 (∀ b o, b < N → W2.cell? ⟨b, o, none⟩ = W0.cell? ⟨b, o, none⟩) ∧ Hid (Below N W0 W2) ∧ Hid (N ≤ W2.heap.size) := by
 have hB : Below N W0 W2 := h.2.1.out.trans (b.mono h.2.2.out)
 exact ⟨fun b o hb => hB.cell (p := ⟨b, o, none⟩) hb, hB, Nat.le_trans h.2.2.out b.size⟩
theorem held_at {N : Nat} {W0 : World} (h : N = W0.heap.size) : (∀ b o, b < N → W0.drew.cell? ⟨b, o, none⟩ = W0.cell? ⟨b, o, none⟩) ∧ Hid (Below N W0 W0.drew) ∧ Hid (N ≤ W0.drew.heap.size) :=
 ⟨fun _ _ _ => rfl, (Below.refl _ _).drew, Nat.le_of_eq h⟩
open Go.RowKit Go.Lib

theorem tx_sz (a : List UInt8) : (tx a).size = a.length := by show a.toArray.size = _; simp
end Go.Proofs.YtncjncacfagldaaGreatDoor

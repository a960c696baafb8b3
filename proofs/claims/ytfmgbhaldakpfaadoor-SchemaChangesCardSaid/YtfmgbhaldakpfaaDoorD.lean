/- held: the elements that count, and their keys. -/
import Derived.Test.YtfmgbhaldakpfaaDoorB
namespace Go.Proofs.YtfmgbhaldakpfaaDoor
open Go.RowKit

theorem RowP.le {P : Nat → Prop} {w : World} {o : Option Addr} {cap len len' z : Nat} {c : Nat → Nat → Value} (h : RowP P w o cap len z c) (hl : len' ≤ len) : RowP P w o cap len' z c := by
  obtain ⟨h1, h2, h3, h4⟩ := h
  refine ⟨by omega, h2, h3, fun h0 => ?_⟩
  obtain ⟨b, off, e, hb, hc⟩ := h4 (by omega)
  exact ⟨b, off, e, hb, fun j hj => hc j (by omega)⟩
theorem RowP.nil (P : Nat → Prop) (w : World) (z : Nat) (c : Nat → Nat → Value) : RowP P w none 0 0 z c := ⟨Nat.le_refl _, Nat.zero_le _, fun _ => rfl, fun h => absurd h (Nat.lt_irrefl _)⟩
/-- how many keys count -/
def cntK (V : Val) : Nat := if V.k = 5 then cnt V else 0
def HeldPost (n : Nat) (V : Val) (c : Nat → Nat → Value) (w : World) (e : Ending) (w' : World) : Prop :=
  ∃ oL oK cL cK, e = .returned (.tuple #[.slice oK (cntK V) cK, .slice oL (cnt V) cL]) ∧ Row n w' oL cL (cnt V) 8 c ∧ Row n w' oK cK (cntK V) 1 (fun j _ => .string (V.ks.getD j default)) ∧ Below w.heap.size w w'
theorem held_mk {n : Nat} {V : Val} {c : Nat → Nat → Value} {w w' : World} {e : Ending} (oL oK : Option Addr) (cL cK m mk : Nat) (h : cnt V = m ∧ cntK V = mk) (hw : Below w.heap.size w w') (hn : n ≤ w.heap.size)
    (hL : Row n w oL cL m 8 c) (hK : Row n w oK cK mk 1 fun j _ => .string (V.ks.getD j default)) (he : e = .returned (.tuple #[.slice oK mk cK, .slice oL m cL])) : HeldPost n V c w e w' := by
  obtain ⟨rfl, rfl⟩ := h
  exact ⟨oL, oK, cL, cK, he, hL.below (hw.mono hn), hK.below (hw.mono hn), hw⟩
set_option maxHeartbeats 1000000 in
theorem held_any {n : Nat} {V : Val} {oL oK : Option Addr} {cL cK : Nat} {c : Nat → Nat → Value} {w : World} (O : Opn n w V oL oK cL cK c) (hn : n ≤ w.heap.size) :
    Calls Tryd.prog 65 #[vv V.k V.i V.s (.slice oL V.l.length cL) (.slice oK V.ks.length cK) V.tk V.to V.x] w (HeldPost n V c w) := by
  have l1 := O.L.1
  have l2 := O.L.2.1
  have l3 := O.K.1
  have l4 := O.K.2.1
  unfold maxLen at l2 l4
  have H := Lib.hid O
  clear O
  by_cases h5 : V.k = 5
  · by_cases hle : V.ks.length ≤ V.l.length
    · have HM : Hid (cnt V = V.ks.length ∧ cntK V = V.ks.length) := by
        have : cnt V = V.ks.length := by unfold cnt; rw [if_neg (by omega), if_pos h5]; omega
        exact ⟨this, by unfold cntK; rw [if_pos h5, this]⟩
      rw [h5]
      clear h5
      go_enter Tryd.func65, Tryd.ntmps65
      go_wp2
      go_quiet (fail)
      go_wp2
      go_ret2
      exact held_mk oL oK cL cK _ _ HM.out (below_drewN ((Below.refl _ _).alloc (Nat.le_refl _) _) _) hn (H.out.L.le hle) H.out.K rfl
    · have HM : Hid (cnt V = V.l.length ∧ cntK V = V.l.length) := by
        have : cnt V = V.l.length := by unfold cnt; rw [if_neg (by omega), if_pos h5]; omega
        exact ⟨this, by unfold cntK; rw [if_pos h5, this]⟩
      have hlt : V.l.length < V.ks.length := by omega
      rw [h5]
      clear h5
      go_enter Tryd.func65, Tryd.ntmps65
      go_wp2
      go_quiet (fail)
      go_wp2
      go_ret2
      exact held_mk oL oK cL cK _ _ HM.out (below_drewN ((Below.refl _ _).alloc (Nat.le_refl _) _) _) hn H.out.L (H.out.K.le (by omega)) rfl
  · by_cases h4 : V.k = 4
    · have HM : Hid (cnt V = V.l.length ∧ cntK V = 0) := by
        have : cnt V = V.l.length := by unfold cnt; rw [if_pos h4]
        exact ⟨this, by unfold cntK; rw [if_neg h5]⟩
      rw [h4]
      clear h5 h4
      go_enter Tryd.func65, Tryd.ntmps65
      go_wp2
      go_quiet (fail)
      go_wp2
      go_ret2
      exact held_mk oL none cL 0 _ _ HM.out (below_drewN ((Below.refl _ _).alloc (Nat.le_refl _) _) _) hn H.out.L (RowP.nil _ _ _ _) rfl
    · have HM : Hid (cnt V = 0 ∧ cntK V = 0) := by
        have : cnt V = 0 := by unfold cnt; rw [if_neg h4, if_neg h5]
        exact ⟨this, by unfold cntK; rw [if_neg h5]⟩
      have e4 : (V.k == 4) = false := by rw [beq_eq_false_iff_ne]; exact h4
      have e5 : (V.k == 5) = false := by rw [beq_eq_false_iff_ne]; exact h5
      clear h5 h4
      go_enter Tryd.func65, Tryd.ntmps65
      go_wp2
      go_ret2
      exact held_mk none none 0 0 _ _ HM.out ((Below.refl _ _).alloc (Nat.le_refl _) _) hn (RowP.nil _ _ _ _) (RowP.nil _ _ _ _) rfl
end Go.Proofs.YtfmgbhaldakpfaaDoor

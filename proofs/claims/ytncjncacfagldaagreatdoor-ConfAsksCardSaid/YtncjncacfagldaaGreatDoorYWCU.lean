import Derived.Test.YtncjncacfagldaaGreatDoorYWCT
import Derived.Test.YtncjncacfagldaaGreatDoorYWCG
namespace Go.Proofs.YtncjncacfagldaaGreatDoor
open Go.RowKit Go.Lib

abbrev Res (α : Type) := Except (Nat × Ps) (α × Nat)
abbrev Pay (α : Type) := α → (Nat → Prop) → World → Value → Prop
def RdU {α : Type} (pay : Pay α) (lo hi : Nat) (R : Nat) (K : Kz) (M : Res α) (W : World) (v : Value) (c : Nat) (q : Ps) : Prop :=
 hi ≤ W.heap.size ∧ match M with
 | .ok (a, p) => c = 0 ∧ q = ps0 ∧ pay a (fun k => lo ≤ k ∧ k < hi) W v ∧ Kd W R K p ∧ p < K.acc.length
 | .error (c', q') => v = .slice none 0 0 ∧ c = c' ∧ q = q' ∧ c' ≠ 0
def RdP {α : Type} (pay : Pay α) (w : World) (R : Nat) (K : Kz) (M : Res α) (e : Ending) (w' : World) : Prop :=
 ∃ v c q, e = .returned (.tuple #[v, dgv c q]) ∧ RdU pay w.heap.size w'.heap.size R K M w' v c q ∧ Fm R w w'
theorem Kd.low {w w' : World} {R n : Nat} {K : Kz} {p : Nat} (h : Kd w R K p) (b : Below n w w') (hR : R < n) (hn : K.n0 ≤ n) : Kd w' R K p :=
 ⟨(b.block R hR).trans h.blk, h.kt.kept fun k hk _ => b.block k (Nat.lt_of_lt_of_le hk hn), h.sz, h.iq, h.le, Nat.le_trans h.nn b.size⟩
theorem Fm.low {R : Nat} {w W W' : World} (h : Fm R w W) (b : Below w.heap.size W W') : Fm R w W' :=
 ⟨b.os.trans h.os, b.tape.trans h.tape, b.output.trans h.output, Nat.le_trans h.size b.size, fun k hk hr => (b.block k hk).trans (h.block k hk hr)⟩
theorem labelsM_ne (C : Cx) : ∀ (f p : Nat) (acc : List (List UInt8)) (c : Nat) (q : Ps), labelsM C f p acc = .error (c, q) → c ≠ 0 := by
 intro f
 induction f with
 | zero => intro p acc c q h; simp [labelsM] at h
 | succ f ih =>
   intro p acc c q h
   rw [labelsM_succ] at h
   repeat' split at h
   · injection h with h; injection h with h1; omega
   · injection h with h; injection h with h1; omega
   · exact ih _ _ _ _ h
   · cases h
theorem labels_u {w : World} {R : Nat} {K : Kz} {p : Nat} (h : Kd w R K p) (hlt : p < K.acc.length) (hE : Ends K) : Calls Tryz.prog 158 #[.pointer (some ⟨R, 0, none⟩)] w (RdP PayL w R K (labelsM K.cx (K.acc.length + 1) p [])) := by
 refine (labels_any h hlt hE).mono fun e w' => ?_
 have hne := labelsM_ne K.cx (K.acc.length + 1) p []
 cases hM : labelsM K.cx (K.acc.length + 1) p [] with
 | error x =>
   rintro ⟨rfl, hf⟩
   exact ⟨_, _, _, rfl, ⟨Nat.le_refl _, rfl, rfl, rfl, hne _ _ hM⟩, hf⟩
 | ok x =>
   rintro ⟨v, rfl, ho, hk, hl, -, hf⟩
   refine ⟨v, 0, ps0, rfl, ⟨Nat.le_refl _, rfl, rfl, ?_, hk, hl⟩, hf⟩
   obtain ⟨lb, q⟩ := x
   rcases ho.2 with ⟨rfl, h0⟩ | ⟨g, cap, cur, rfl, hbg, hgb, r1, r2, r3, r4⟩
   · have h0' : lb.length = 0 := h0
     exact ⟨none, 0, by rw [h0'], by rw [h0']; exact rowP_nil _ _ _ _⟩
   · refine ⟨some ⟨g, 0, none⟩, cap, rfl, r1, r2, (fun e => by cases e), fun hl => ⟨g, 0, rfl, ⟨by omega, (Array.getElem?_eq_some_iff.1 hgb).1⟩, fun j hj m hm => ?_⟩⟩
     obtain rfl : m = 0 := by omega
     have := ho.cells (g := g) rfl j (.string (tx (lb.getD j []))) (by rw [List.getElem?_map, List.getElem?_eq_getElem hj]; simp [hj])
     have ea : (⟨g, 0, none⟩ : Addr).add j = ⟨g, 0 + j * 1 + 0, none⟩ := by
      have : 0 + j * 1 + 0 = j := by omega
      rw [this]; unfold Addr.add; split <;> simp_all
     rw [ea] at this
     exact this
end Go.Proofs.YtncjncacfagldaaGreatDoor

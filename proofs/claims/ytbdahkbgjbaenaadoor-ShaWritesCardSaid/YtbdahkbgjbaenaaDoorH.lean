/- Contract: Write. -/
import Derived.Test.YtbdahkbgjbaenaaDoorG
import Derived.Deep.RegionWith
import Derived.Maps.RangeWalk
namespace Go.Proofs.YtbdahkbgjbaenaaDoor
open Go.RowKit

def lenOf : Value → Nat | .slice _ l _ => l | _ => 0
theorem getD_app_l (L M : List Int) (j : Nat) (h : j < L.length) : (L ++ M).getD j 0 = L.getD j 0 := by
  simp [List.getD, List.getElem?_append_left h]
theorem getD_app_r (L M : List Int) (j : Nat) : (L ++ M).getD (L.length + j) 0 = M.getD j 0 := by
  simp [List.getD, List.getElem?_append_right]
theorem after_app (L M : List Int) (n : Nat) (h : 64 * n ≤ L.length) : after (L ++ M) n = after L n :=
  after_congr _ _ _ fun j hj => getD_app_l L M j (by omega)
/-- bytes that don't fill the block -/
theorem Wf.more {w w' : World} {n : Nat} {L : List Int} {H p : Nat → Int} (h : Wf w n L H p) (X : List Int) (hX : ∀ i, 0 ≤ X.getD i 0 ∧ X.getD i 0 < 256) (F : Nat → Int) (hF : ∀ i, i < X.length → F i = X.getD i 0)
    (hlt : L.length % 64 + X.length < 64) (e : w'.heap[n]? = some (.cells (WC H (laidIn p (L.length % 64) X.length F) (L ++ X).length) 58 (0, 0))) :
    Wf w' n (L ++ X) H (laidIn p (L.length % 64) X.length F) := by
  refine ⟨e, fun j hj => ?_, fun j hj => ?_⟩
  · unfold laidIn
    split
    · rw [hF _ (by omega)]; exact hX _
    · exact h.byte j hj
  · rw [List.length_append] at hj ⊢
    have e1 : (L.length + X.length) / 64 = L.length / 64 := by omega
    have e2 : (L.length + X.length) % 64 = L.length % 64 + X.length := by omega
    rw [e1]
    unfold laidIn
    by_cases h1 : j < L.length % 64
    · rw [if_neg (by omega), h.part j h1, getD_app_l _ _ _ (by omega)]
    · rw [if_pos (by omega), hF _ (by omega), show 64 * (L.length / 64) + j = L.length + (j - L.length % 64) by omega, getD_app_r]
theorem Right.more {L X : List Int} {H : Nat → Int} (h : Right L H) (hlt : L.length % 64 + X.length < 64) : Right (L ++ X) H := fun j hj => by
  rw [List.length_append, show (L.length + X.length) / 64 = L.length / 64 by omega, after_app _ _ _ (by omega)]; exact h j hj
/-- a full block -/
theorem Right.full {L X : List Int} {H p : Nat → Int} (h : Right L H) (hlt : L.length % 64 + X.length = 64) (hp : ∀ j, j < L.length % 64 → p j = L.getD (64 * (L.length / 64) + j) 0) (F : Nat → Int) (hF : ∀ i, i < X.length → F i = X.getD i 0)
    (s : St) (hs : ∀ j, j < 8 → H j = s.at j) : Right (L ++ X) (press s (laidIn p (L.length % 64) X.length F)).at := fun j hj => by
  have es : s = after L (L.length / 64) := by
    have e := fun j hj => (hs j hj).symm.trans (h j hj)
    have e0 := e 0 (by omega); have e1 := e 1 (by omega); have e2 := e 2 (by omega); have e3 := e 3 (by omega)
    have e4 := e 4 (by omega); have e5 := e 5 (by omega); have e6 := e 6 (by omega); have e7 := e 7 (by omega)
    cases s; cases hq : after L (L.length / 64)
    rw [hq] at e0 e1 e2 e3 e4 e5 e6 e7
    simp only [St.at] at e0 e1 e2 e3 e4 e5 e6 e7
    subst e0 e1 e2 e3 e4 e5 e6 e7
    rfl
  have hh : ∀ i, i < 64 → laidIn p (L.length % 64) X.length F i = (L ++ X).getD (64 * (L.length / 64) + i) 0 := by
    intro i hi
    unfold laidIn
    by_cases h1 : i < L.length % 64
    · rw [if_neg (by omega), hp i h1, getD_app_l _ _ _ (by omega)]
    · rw [if_pos (by omega), hF _ (by omega), show 64 * (L.length / 64) + i = L.length + (i - L.length % 64) by omega, getD_app_r]
  rw [press_congr s _ _ hh, List.length_append, show (L.length + X.length) / 64 = L.length / 64 + 1 by omega]
  show _ = (press (after (L ++ X) (L.length / 64)) _).at j
  rw [after_app _ _ _ (by omega), ← es]
theorem Wf.full {w w' : World} {n : Nat} {L : List Int} {H p : Nat → Int} (h : Wf w n L H p) (X : List Int) (hX : ∀ i, 0 ≤ X.getD i 0 ∧ X.getD i 0 < 256) (F : Nat → Int) (hF : ∀ i, i < X.length → F i = X.getD i 0)
    (hlt : L.length % 64 + X.length = 64) (G : Nat → Int) (e : w'.heap[n]? = some (.cells (WC G (laidIn p (L.length % 64) X.length F) (L ++ X).length) 58 (0, 0))) :
    Wf w' n (L ++ X) G (laidIn p (L.length % 64) X.length F) := by
  refine ⟨e, fun j hj => ?_, fun j hj => ?_⟩
  · unfold laidIn
    split
    · rw [hF _ (by omega)]; exact hX _
    · exact h.byte j hj
  · rw [List.length_append] at hj; omega
theorem take_len {M : List Int} {d : Nat} (h : d ≤ M.length) : (M.take d).length = d := by simp; omega
theorem take_drop_getD (M : List Int) (d c i : Nat) (h : i < c) : ((M.drop d).take c).getD i 0 = M.getD (d + i) 0 := by
  simp [List.getD, h, List.getElem?_drop]
theorem take_add (M : List Int) (d c : Nat) : M.take (d + c) = M.take d ++ (M.drop d).take c := by rw [List.take_add]
theorem sub_byte (M : List Int) (hM : ∀ i, 0 ≤ M.getD i 0 ∧ M.getD i 0 < 256) (d c i : Nat) : 0 ≤ ((M.drop d).take c).getD i 0 ∧ ((M.drop d).take c).getD i 0 < 256 := by
  by_cases h : i < c
  · rw [take_drop_getD _ _ _ _ h]; exact hM _
  · have : ((M.drop d).take c).getD i 0 = 0 := by
      simp [List.getD, List.getElem?_take, h]
    rw [this]; omega
/-- what is left of the slice -/
def Rest (w : World) (n : Nat) (sp : Option Addr) (M : List Int) (d : Nat) : Prop := ∀ i, d + i < M.length → ∃ k o, sp = some ⟨k, o, none⟩ ∧ k ≠ n ∧ k < w.heap.size ∧ w.cell? ⟨k, o + i, none⟩ = some (.int .u8 (M.getD (d + i) 0))

theorem lit8_ (a b c d e f g h : Int) : mk .u32 8 (⟨a, b, c, d, e, f, g, h⟩ : St).at = #[.int .u32 a, .int .u32 b, .int .u32 c, .int .u32 d, .int .u32 e, .int .u32 f, .int .u32 g, .int .u32 h] := by kernel_rfl
theorem lit8 (s : St) : mk .u32 8 s.at = #[.int .u32 s.a, .int .u32 s.b, .int .u32 s.c, .int .u32 s.d, .int .u32 s.e, .int .u32 s.f, .int .u32 s.g, .int .u32 s.h] := lit8_ s.a s.b s.c s.d s.e s.f s.g s.h
theorem WC_cells {W : World} {n : Nat} {H p : Nat → Int} {t : Int} {s : St} (h3 : W.heap[n]? = some (.cells (WC H p t) 58 (0, 0))) (hs : ∀ j, j < 8 → H j = s.at j) (j : Nat) (hj : j < 8) :
    W.cell? ⟨n, j, none⟩ = some (.int .u32 (s.at j)) := by
  rw [cell_of_row W n j _ 58 (0, 0) h3, WC_get _ _ _ _ (by omega)]; unfold wc; rw [if_pos hj, hs j hj]
/-- the call of through, over a Writer's block -/
theorem press_call {W : World} {n : Nat} {H p : Nat → Int} {t : Int} {s : St} (h3 : W.heap[n]? = some (.cells (WC H p t) 58 (0, 0))) (hs : ∀ j, j < 8 → H j = s.at j) (ok : s.ok) (tab : Tab W)
    (hp : ∀ j, j < 64 → 0 ≤ p j ∧ p j < 256) :
    Calls Tryd.prog 29 #[.agg #[.int .u32 s.a, .int .u32 s.b, .int .u32 s.c, .int .u32 s.d, .int .u32 s.e, .int .u32 s.f, .int .u32 s.g, .int .u32 s.h], .pointer (some ⟨n, 8, none⟩)] W.drew fun e w' => e = .returned (.agg #[.int .u32 (press s p).a, .int .u32 (press s p).b, .int .u32 (press s p).c, .int .u32 (press s p).d, .int .u32 (press s p).e, .int .u32 (press s p).f, .int .u32 (press s p).g, .int .u32 (press s p).h]) ∧ Below W.heap.size W w' ∧ w'.cell? ⟨n, 0, none⟩ = some (.int .u32 s.a) ∧ w'.frozen? ⟨n, 0, none⟩ = false ∧ w'.cell? ⟨n, 1, none⟩ = some (.int .u32 s.b) ∧ w'.frozen? ⟨n, 1, none⟩ = false ∧ w'.cell? ⟨n, 2, none⟩ = some (.int .u32 s.c) ∧ w'.frozen? ⟨n, 2, none⟩ = false ∧ w'.cell? ⟨n, 3, none⟩ = some (.int .u32 s.d) ∧ w'.frozen? ⟨n, 3, none⟩ = false ∧ w'.cell? ⟨n, 4, none⟩ = some (.int .u32 s.e) ∧ w'.frozen? ⟨n, 4, none⟩ = false ∧ w'.cell? ⟨n, 5, none⟩ = some (.int .u32 s.f) ∧ w'.frozen? ⟨n, 5, none⟩ = false ∧ w'.cell? ⟨n, 6, none⟩ = some (.int .u32 s.g) ∧ w'.frozen? ⟨n, 6, none⟩ = false ∧ w'.cell? ⟨n, 7, none⟩ = some (.int .u32 s.h) ∧ w'.frozen? ⟨n, 7, none⟩ = false := by
  have hn := (Array.getElem?_eq_some_iff.1 h3).1
  have T := through_any s n 8 p W.drew ok tab hp (fun j hj => by
    show W.cell? _ = _
    rw [cell_of_row W n (8 + j) _ 58 (0, 0) h3, WC_get _ _ _ _ (by omega)]; unfold wc; rw [if_neg (by omega), if_pos (by omega), show 8 + j - 8 = j by omega])
  rw [lit8, lit8] at T
  refine T.mono fun e w' ⟨he, hb⟩ => ?_
  have hb' : Below W.heap.size W w' := ⟨hb.os, hb.tape, hb.output, hb.size, hb.block⟩
  have h4 : w'.heap[n]? = some (.cells (WC H p t) 58 (0, 0)) := (hb'.block n hn).trans h3
  have c := WC_cells h4 hs
  have f := fun j => frozen_of_row w' n j _ 58 h4
  exact ⟨he, hb', c 0 (by omega), f 0, c 1 (by omega), f 1, c 2 (by omega), f 2, c 3 (by omega), f 3, c 4 (by omega), f 4, c 5 (by omega), f 5, c 6 (by omega), f 6, c 7 (by omega), f 7⟩
/-- eight stores into the words -/
theorem eight {W : World} {n : Nat} {H p : Nat → Int} {t : Int} {s : St} (h3 : W.heap[n]? = some (.cells (WC H p t) 58 (0, 0))) :
    (((((((((W.setCell ⟨n, 0, none⟩ (.int .u32 s.a)).setCell ⟨n, 1, none⟩ (.int .u32 s.b)).setCell ⟨n, 2, none⟩ (.int .u32 s.c)).setCell ⟨n, 3, none⟩ (.int .u32 s.d)).setCell ⟨n, 4, none⟩ (.int .u32 s.e)).setCell ⟨n, 5, none⟩ (.int .u32 s.f)).setCell ⟨n, 6, none⟩ (.int .u32 s.g)).setCell ⟨n, 7, none⟩ (.int .u32 s.h))).heap[n]? = some (.cells (WC s.at p t) 58 (0, 0)) ∧
    Kp n W ((((((((W.setCell ⟨n, 0, none⟩ (.int .u32 s.a)).setCell ⟨n, 1, none⟩ (.int .u32 s.b)).setCell ⟨n, 2, none⟩ (.int .u32 s.c)).setCell ⟨n, 3, none⟩ (.int .u32 s.d)).setCell ⟨n, 4, none⟩ (.int .u32 s.e)).setCell ⟨n, 5, none⟩ (.int .u32 s.f)).setCell ⟨n, 6, none⟩ (.int .u32 s.g)).setCell ⟨n, 7, none⟩ (.int .u32 s.h)) := by
  have g0 := heap_setCell_same W n 0 _ 58 (.int .u32 s.a) h3
  have g1 := heap_setCell_same _ n 1 _ 58 (.int .u32 s.b) g0
  have g2 := heap_setCell_same _ n 2 _ 58 (.int .u32 s.c) g1
  have g3 := heap_setCell_same _ n 3 _ 58 (.int .u32 s.d) g2
  have g4 := heap_setCell_same _ n 4 _ 58 (.int .u32 s.e) g3
  have g5 := heap_setCell_same _ n 5 _ 58 (.int .u32 s.f) g4
  have g6 := heap_setCell_same _ n 6 _ 58 (.int .u32 s.g) g5
  have g7 := heap_setCell_same _ n 7 _ 58 (.int .u32 s.h) g6
  refine ⟨?_, (((((((Kp.setCell n W 0 _).trans (Kp.setCell n _ 1 _)).trans (Kp.setCell n _ 2 _)).trans (Kp.setCell n _ 3 _)).trans (Kp.setCell n _ 4 _)).trans (Kp.setCell n _ 5 _)).trans (Kp.setCell n _ 6 _)).trans (Kp.setCell n _ 7 _)⟩
  rw [g7]
  refine congrArg (fun c => some (Obj.cells c 58 (0, 0))) ?_
  apply eq_WC
  · simp [WC_size]
  · intro j hj
    simp only [Array.getElem?_setIfInBounds, Array.size_setIfInBounds, WC_size]
    by_cases h : j < 8
    · have : j = 0 ∨ j = 1 ∨ j = 2 ∨ j = 3 ∨ j = 4 ∨ j = 5 ∨ j = 6 ∨ j = 7 := by omega
      rcases this with rfl | rfl | rfl | rfl | rfl | rfl | rfl | rfl <;> rfl
    · rw [if_neg (by omega), if_neg (by omega), if_neg (by omega), if_neg (by omega), if_neg (by omega), if_neg (by omega), if_neg (by omega), if_neg (by omega), WC_get _ _ _ _ hj]
      unfold wc; rw [if_neg h, if_neg h]
theorem laid_byte {p F : Nat → Int} {l c : Nat} (hp : ∀ j, j < 64 → 0 ≤ p j ∧ p j < 256) (hF : ∀ j, 0 ≤ F j ∧ F j < 256) : ∀ j, j < 64 → 0 ≤ laidIn p l c F j ∧ laidIn p l c F j < 256 := by
  intro j hj; unfold laidIn; split
  · exact hF _
  · exact hp j hj
theorem W_len {L M : List Int} {d c T : Nat} (hl : (L ++ M.take d).length = T) (hc : c ≤ M.length - d) : ((L ++ M.take d) ++ (M.drop d).take c).length = T + c ∧ ((M.drop d).take c).length = c := by
  have : ((M.drop d).take c).length = c := by simp; omega
  rw [List.length_append, hl, this]; exact ⟨rfl, rfl⟩
theorem Ws_more {wr w2 : World} {n T c d : Nat} {L M : List Int} {H p : Nat → Int} (hf : Wf wr n (L ++ M.take d) H p) (hr : Right (L ++ M.take d) H) (hl : (L ++ M.take d).length = T)
    (hM : ∀ i, 0 ≤ M.getD i 0 ∧ M.getD i 0 < 256) (hc : c ≤ M.length - d) (hlt : T % 64 + c < 64)
    (hh2 : w2.heap[n]? = some (.cells (WC H (laidIn p (T % 64) c fun j => M.getD (d + j) 0) T) 58 (0, 0))) : Ws (w2.setCell ⟨n, 72, none⟩ (.int .u64 ((T : Int) + c))) n (L ++ M.take (d + c)) := by
  have e := W_len hl hc
  have h3 := heap_setCell_same w2 n 72 _ 58 (.int .u64 ((T : Int) + c)) hh2
  rw [WC_taken] at h3
  rw [take_add, ← List.append_assoc]
  have := hf.more (w' := w2.setCell ⟨n, 72, none⟩ (.int .u64 ((T : Int) + c))) ((M.drop d).take c) (sub_byte M hM d c) (fun j => M.getD (d + j) 0) (fun i hi => by rw [e.2] at hi; rw [take_drop_getD _ _ _ _ hi]) (by rw [hl, e.2]; exact hlt)
    (by rw [hl, e.1, e.2, h3, Int.natCast_add])
  exact ⟨H, _, this, hr.more (by rw [hl, e.2]; exact hlt)⟩
theorem Ws_full {wr w2 : World} {n T c d : Nat} {L M : List Int} {H p : Nat → Int} (hf : Wf wr n (L ++ M.take d) H p) (hr : Right (L ++ M.take d) H) (hl : (L ++ M.take d).length = T)
    (hM : ∀ i, 0 ≤ M.getD i 0 ∧ M.getD i 0 < 256) (hc : c ≤ M.length - d) (hlt : T % 64 + c = 64) (s s2 : St) (hs : ∀ j, j < 8 → H j = s.at j) (hP : press s (laidIn p (T % 64) c fun j => M.getD (d + j) 0) = s2)
    (hh2 : w2.heap[n]? = some (.cells (WC s2.at (laidIn p (T % 64) c fun j => M.getD (d + j) 0) ((T : Int) + c)) 58 (0, 0))) : Ws w2 n (L ++ M.take (d + c)) := by
  have e := W_len hl hc
  rw [take_add, ← List.append_assoc]
  have hF : ∀ i, i < ((M.drop d).take c).length → (fun j => M.getD (d + j) 0) i = ((M.drop d).take c).getD i 0 := fun i hi => by rw [e.2] at hi; rw [take_drop_getD _ _ _ _ hi]
  have := hf.full (w' := w2) ((M.drop d).take c) (sub_byte M hM d c) (fun j => M.getD (d + j) 0) hF (by rw [hl, e.2]; exact hlt) s2.at
    (by rw [hl, e.1, e.2, hh2, Int.natCast_add])
  refine ⟨_, _, this, ?_⟩
  have r := hr.full (X := (M.drop d).take c) (by rw [hl, e.2]; exact hlt) hf.part (fun j => M.getD (d + j) 0) hF s hs
  rw [hl, e.2, hP] at r
  exact r
theorem Rest_more {w : World} {n k o d c cap : Nat} {M : List Int} {sp2 : Option Addr} (h : Rest w n (some ⟨k, o, none⟩) M d) (hc : M.length - d ≤ cap)
    (h3 : c < cap → ∀ k' o', some (⟨k, o, none⟩ : Addr) = some ⟨k', o', none⟩ → sp2 = some ⟨k', o' + c, none⟩) : Rest w n sp2 M (d + c) := fun i hi => by
  obtain ⟨k1, o1, e1, e2, e3, e4⟩ := h (c + i) (by omega)
  injection e1 with e1; injection e1 with a b; subst a b
  exact ⟨k, o + c, h3 (by omega) k o rfl, e2, e3, by rw [Nat.add_assoc, e4, Nat.add_assoc]⟩

set_option maxRecDepth 100000 in
set_option maxHeartbeats 2000000 in
theorem write_any (n : Nat) (L M : List Int) (sp : Option Addr) (cap : Nat) (w : World) (hw : Wr w n L) (hM : ∀ i, 0 ≤ M.getD i 0 ∧ M.getD i 0 < 256) (hlen : L.length + M.length < 1152921504606846976)
    (hT : Tab w) (hn : n ≠ 0) (hsl : Sl w n sp M) (hcap : M.length ≤ cap) (hcap2 : cap ≤ maxLen) :
    Calls Tryd.prog 14 #[.pointer (some ⟨n, 0, none⟩), .slice sp M.length cap] w fun e w' => e = .returned (.tuple #[]) ∧ Ws w' n (L ++ M) ∧ Kp n w w' := by
  obtain ⟨H, p, hf, hr⟩ := hw
  have c72 := hf.taken
  have HT := Lib.hid hT
  have HS := Lib.hid hsl
  have HM := Lib.hid hM
  have HR := Lib.hid hr
  have HF := Lib.hid hf
  have hheap := hf.heap
  unfold maxLen at hcap2
  by_cases h0 : L.length = 0
  · have b0 : ((L.length : Int) == 0) = true := by simp [h0]
    have d0 : decide ((L.length : Int) = 0) = true := by simp [h0]
    have H0 := Lib.hid h0
    clear hT hsl hM hr hf
    go_enter Tryd.func14, Tryd.ntmps14
    go_wp2_with fail
    refine (starting_any _).mono ?_
    rintro e w1 ⟨rfl, hb⟩
    have hp1 : w1.heap[n]? = some (.cells (WC H p L.length) 58 (0, 0)) := (hb.block n HF.out.lt).trans hheap
    have K1 := Lib.hid ((Kp.of_below (n := n) hb).trans (Kp.setRow n w1 (WC st0.at p L.length)))
    have HW : Hid (Ws (w1.setRow n (WC st0.at p L.length)) n L) := ⟨st0.at, p, ⟨setRow_heap _ _ _ _ _ _ hp1, HF.out.byte, HF.out.part⟩, fun j hj => by rw [show L.length / 64 = 0 by omega]; rfl⟩
    clear c72 hheap hb b0 d0 HF HR h0
    go_wp2_with (refine wpList_store_at rfl 55 (.tmp 15) (.tmp 13) rfl n 0 rfl (mk .u32 8 st0.at) rfl 58 _ hp1 (by simp [mk_size, WC_size]) (info55 _) (mk_one _ _ _) ?_; rw [WC_words])
    clear hp1
    generalize World.setRow _ _ _ = W1 at *
    go_frame
    go_loopw [1] (fun v wr => ∃ (d : Nat) (sp' : Option Addr) (cap' : Nat), d ≤ M.length ∧ v = .slice sp' (M.length - d) cap' ∧ M.length - d ≤ cap' ∧ cap' ≤ 9223372036854775807 ∧ Hid (Rest w n sp' M d) ∧ Hid (Ws wr n (L ++ M.take d)) ∧ Hid (Kp n w wr)) (fun v _ => lenOf v)
    case atStart => exact ⟨0, sp, cap, Nat.zero_le _, by rw [Nat.sub_zero], by omega, by omega, fun i hi => by simpa using HS.out i (by omega), by unfold Hid; simpa using HW.out, K1.out⟩
    case round =>
      clear HW K1
      obtain ⟨d, sp', cap', hd, rfl, hcp, hcp2, HX, HW, K1⟩ := hrel
      clear HS
      by_cases hlt : d < M.length
      · obtain ⟨H, p, hf, hr⟩ := HW.out
        clear HW
        obtain ⟨k, o, hsp, hkn, hk, _⟩ := HX.out 0 (by omega)
        subst hsp
        have hl : (L ++ M.take d).length = L.length + d := by rw [List.length_append, take_len hd]
        have hT1 : L.length + d < 1152921504606846976 - (M.length - d) := by omega
        have c72 := hf.taken
        have f72 := hf.free 72
        have hh := hf.heap
        rw [hl] at c72 hh
        have HL := Lib.hid hl
        clear hl
        obtain ⟨T, hTT⟩ : ∃ T, L.length + d = T := ⟨_, rfl⟩
        rw [hTT] at c72 hh HL hT1
        obtain ⟨c, hc⟩ : ∃ c, c = min (M.length - d) (64 - T % 64) := ⟨_, rfl⟩
        have hc1 : 1 ≤ c := by omega
        have hc2 : c ≤ M.length - d := by omega
        have hc3 : T % 64 + c ≤ 64 := by omega
        have hc4 : T + c < 1152921504606846976 := by omega
        have hs1 := slice56l n 8 (T % 64) ((T : Int).tmod 64) .u64 (by rw [Int.tmod_eq_emod_of_nonneg (by omega)]; omega) (by omega)
        obtain ⟨sp2, hs2, hs3⟩ := slice22l (some ⟨k, o, none⟩) (M.length - d) cap' c hc2
        have HS3 := Lib.hid hs3
        have HF := Lib.hid hf
        have HR := Lib.hid hr
        have HC := Lib.hid hc
        have HSRC : Hid (∀ j v, ((List.range c).map fun j => Value.int .u8 (M.getD (d + j) 0))[j]? = some v → wr.cell? ((⟨k, o, none⟩ : Addr).add j) = some v) := by
          intro j v hv
          obtain ⟨hj, rfl⟩ : j < c ∧ v = Value.int .u8 (M.getD (d + j) 0) := by
            rw [List.getElem?_map] at hv
            by_cases h : j < c
            · rw [List.getElem?_range h] at hv; simp at hv; exact ⟨h, by rw [← hv]; simp [List.getD]⟩
            · rw [List.getElem?_eq_none (by simp; omega)] at hv; simp at hv
          obtain ⟨k2, o2, e2, _, _, c2⟩ := HX.out j (by omega)
          injection e2 with e2; injection e2 with e3 e4; subst e3 e4
          have : (⟨k, o, none⟩ : Addr).add j = ⟨k, o + j, none⟩ := by unfold Addr.add; split <;> simp_all
          rw [this, K1.out.cell hk hkn, c2]
        clear hf hr hc hs3
        go_wp2
        go_still_tail 10, (by kernel_rfl)
        change wpList _ _ _ _ _ wr.drew
        refine wpList_copy_to rfl (.tmp 27) (.tmp 28) 22 22 rfl 5 Tryd.underlying22 size5 n (8 + T % 64) (64 - T % 64) (64 - T % 64) ⟨k, o, none⟩ (M.length - d) cap' rfl rfl _ 58 hh ((List.range c).map fun j => Value.int .u8 (M.getD (d + j) 0)) (by rw [List.length_map, List.length_range]; exact HC.out) HSRC.out (by rw [List.length_map, List.length_range, WC_size]; omega) (by intro v hv; simp at hv; obtain ⟨_, _, rfl⟩ := hv; rfl) c (by simp) (WC H (laidIn p (T % 64) c fun j => M.getD (d + j) 0) (T : Int)) (WC_bytes _ _ _ _ _ _ hc3) ?_
        intro w2 hw2
        have hh2 : w2.heap[n]? = some (.cells (WC H (laidIn p (T % 64) c fun j => M.getD (d + j) 0) T) 58 (0, 0)) := by rw [hw2]; exact setRow_heap _ _ _ _ _ _ hh
        have K2 : Hid (Kp n w w2) := by unfold Hid; rw [hw2]; exact (K1.out.trans (Kp.drew n wr)).trans (Kp.setRow _ _ _)
        have c72b : w2.cell? ⟨n, 72, none⟩ = some (.int .u64 T) := by rw [cell_of_row w2 n 72 _ 58 (0, 0) hh2, WC_get _ _ _ _ (by omega)]; simp [wc]
        have f72b := frozen_of_row w2 n 72 _ 58 hh2
        have HH2 := Lib.hid hh2
        clear hw2 hh2 c72 f72 hh HSRC hs1 K1
        by_cases hfull : T % 64 + c = 64
        · have m1 : ((T : Int) + c) % 64 = 0 := by omega
          go_wp2
          have h3 := heap_setCell_same w2 n 72 _ 58 (.int .u64 ((T : Int) + c)) HH2.out
          rw [WC_taken] at h3
          have K3 := Lib.hid (K2.out.trans (Kp.setCell n w2 72 (.int .u64 ((T : Int) + c))))
          clear HH2 K2 f72b c72b
          generalize World.setCell _ _ _ = W3 at *
          obtain ⟨s, hs⟩ : ∃ s : St, s = after (L ++ M.take d) ((L ++ M.take d).length / 64) := ⟨_, rfl⟩
          have hsj : ∀ j, j < 8 → H j = s.at j := fun j hj => by rw [hs]; exact HR.out j hj
          have PC := press_call h3 hsj (by rw [hs]; exact after_ok _ _) (HT.out.kp K3.out hn) (laid_byte HF.out.byte (fun j => HM.out (d + j)))
          have WCs := WC_cells h3 hsj
          have e0 := WCs 0 (by omega)
          have e1 := WCs 1 (by omega)
          have e2 := WCs 2 (by omega)
          have e3 := WCs 3 (by omega)
          have e4 := WCs 4 (by omega)
          have e5 := WCs 5 (by omega)
          have e6 := WCs 6 (by omega)
          have e7 := WCs 7 (by omega)
          simp only [St.at] at e0 e1 e2 e3 e4 e5 e6 e7
          have H3 := Lib.hid h3
          have HSJ := Lib.hid hsj
          clear hs h3 WCs hsj
          generalize hP : press s (laidIn p (T % 64) c fun j => M.getD (d + j) 0) = s2 at PC
          have HP := Lib.hid hP
          clear hP
          go_region_with (go_at_call 29; refine PC.mono ?_; rintro e w4 ⟨rfl, hb, y0, z0, y1, z1, y2, z2, y3, z3, y4, z4, y5, z5, y6, z6, y7, z7⟩; have HB := Lib.hid hb; clear hb)
          have h4 := eight (s := s2) ((HB.out.block n (Array.getElem?_eq_some_iff.1 H3.out).1).trans H3.out)
          have H4 := Lib.hid h4.1
          have K4 := Lib.hid ((K3.out.trans (Kp.of_below HB.out)).trans h4.2)
          clear h4 y0 y1 y2 y3 y4 y5 y6 y7 z0 z1 z2 z3 z4 z5 z6 z7 e0 e1 e2 e3 e4 e5 e6 e7
          generalize World.setCell _ _ _ = W5 at *
          go_roundw
          case rel => ((repeat apply Exists.intro); exact ⟨⟨d + c, sp2, cap' - c, by omega, by rw [Nat.sub_add_eq], by omega, by omega, Rest_more HX.out hcp HS3.out, Ws_full HF.out HR.out HL.out HM.out hc2 hfull s s2 HSJ.out HP.out H4.out, K4.out⟩, rfl⟩)
          case measure => simp [lenOf]; omega
        · have m1 : decide (((T : Int) + c) % 64 = 0) = false := by simp; omega
          have m2 : (((T : Int) + c) % 64 == 0) = false := by simp; omega
          go_wp2
          go_roundw
          case rel => exact ⟨d + c, sp2, cap' - c, by omega, by rw [Nat.sub_add_eq], by omega, by omega, Rest_more HX.out hcp HS3.out, Ws_more HF.out HR.out HL.out HM.out hc2 (by omega) HH2.out, K2.out.trans (Kp.setCell n w2 72 _)⟩
          case measure => simp [lenOf]; omega
      · have hdM : d = M.length := by omega
        subst hdM
        go_wp2
        go_end0
        have hx := HW.out
        rw [List.take_length] at hx
        exact ⟨rfl, hx, K1.out⟩
  · have b0 : ((L.length : Int) == 0) = false := by rw [beq_eq_false_iff_ne]; omega
    have d0 : decide ((L.length : Int) = 0) = false := decide_eq_false (by omega)
    have HW : Hid (Ws w n L) := ⟨H, p, hf, hr (by omega)⟩
    have K1 : Hid (Kp n w w) := Kp.refl n w
    clear hT hsl hM hr hf HF HR
    go_enter Tryd.func14, Tryd.ntmps14
    go_wp2_with fail
    clear c72 hheap b0 d0
    go_loopw [1] (fun v wr => ∃ (d : Nat) (sp' : Option Addr) (cap' : Nat), d ≤ M.length ∧ v = .slice sp' (M.length - d) cap' ∧ M.length - d ≤ cap' ∧ cap' ≤ 9223372036854775807 ∧ Hid (Rest w n sp' M d) ∧ Hid (Ws wr n (L ++ M.take d)) ∧ Hid (Kp n w wr)) (fun v _ => lenOf v)
    case atStart => exact ⟨0, sp, cap, Nat.zero_le _, by rw [Nat.sub_zero], by omega, by omega, fun i hi => by simpa using HS.out i (by omega), by unfold Hid; simpa using HW.out, K1.out⟩
    case round =>
      clear HW K1
      obtain ⟨d, sp', cap', hd, rfl, hcp, hcp2, HX, HW, K1⟩ := hrel
      clear HS
      by_cases hlt : d < M.length
      · obtain ⟨H, p, hf, hr⟩ := HW.out
        clear HW
        obtain ⟨k, o, hsp, hkn, hk, _⟩ := HX.out 0 (by omega)
        subst hsp
        have hl : (L ++ M.take d).length = L.length + d := by rw [List.length_append, take_len hd]
        have hT1 : L.length + d < 1152921504606846976 - (M.length - d) := by omega
        have c72 := hf.taken
        have f72 := hf.free 72
        have hh := hf.heap
        rw [hl] at c72 hh
        have HL := Lib.hid hl
        clear hl
        obtain ⟨T, hTT⟩ : ∃ T, L.length + d = T := ⟨_, rfl⟩
        rw [hTT] at c72 hh HL hT1
        obtain ⟨c, hc⟩ : ∃ c, c = min (M.length - d) (64 - T % 64) := ⟨_, rfl⟩
        have hc1 : 1 ≤ c := by omega
        have hc2 : c ≤ M.length - d := by omega
        have hc3 : T % 64 + c ≤ 64 := by omega
        have hc4 : T + c < 1152921504606846976 := by omega
        have hs1 := slice56l n 8 (T % 64) ((T : Int).tmod 64) .u64 (by rw [Int.tmod_eq_emod_of_nonneg (by omega)]; omega) (by omega)
        obtain ⟨sp2, hs2, hs3⟩ := slice22l (some ⟨k, o, none⟩) (M.length - d) cap' c hc2
        have HS3 := Lib.hid hs3
        have HF := Lib.hid hf
        have HR := Lib.hid hr
        have HC := Lib.hid hc
        have HSRC : Hid (∀ j v, ((List.range c).map fun j => Value.int .u8 (M.getD (d + j) 0))[j]? = some v → wr.cell? ((⟨k, o, none⟩ : Addr).add j) = some v) := by
          intro j v hv
          obtain ⟨hj, rfl⟩ : j < c ∧ v = Value.int .u8 (M.getD (d + j) 0) := by
            rw [List.getElem?_map] at hv
            by_cases h : j < c
            · rw [List.getElem?_range h] at hv; simp at hv; exact ⟨h, by rw [← hv]; simp [List.getD]⟩
            · rw [List.getElem?_eq_none (by simp; omega)] at hv; simp at hv
          obtain ⟨k2, o2, e2, _, _, c2⟩ := HX.out j (by omega)
          injection e2 with e2; injection e2 with e3 e4; subst e3 e4
          have : (⟨k, o, none⟩ : Addr).add j = ⟨k, o + j, none⟩ := by unfold Addr.add; split <;> simp_all
          rw [this, K1.out.cell hk hkn, c2]
        clear hf hr hc hs3
        go_wp2
        go_still_tail 10, (by kernel_rfl)
        change wpList _ _ _ _ _ wr.drew
        refine wpList_copy_to rfl (.tmp 27) (.tmp 28) 22 22 rfl 5 Tryd.underlying22 size5 n (8 + T % 64) (64 - T % 64) (64 - T % 64) ⟨k, o, none⟩ (M.length - d) cap' rfl rfl _ 58 hh ((List.range c).map fun j => Value.int .u8 (M.getD (d + j) 0)) (by rw [List.length_map, List.length_range]; exact HC.out) HSRC.out (by rw [List.length_map, List.length_range, WC_size]; omega) (by intro v hv; simp at hv; obtain ⟨_, _, rfl⟩ := hv; rfl) c (by simp) (WC H (laidIn p (T % 64) c fun j => M.getD (d + j) 0) (T : Int)) (WC_bytes _ _ _ _ _ _ hc3) ?_
        intro w2 hw2
        have hh2 : w2.heap[n]? = some (.cells (WC H (laidIn p (T % 64) c fun j => M.getD (d + j) 0) T) 58 (0, 0)) := by rw [hw2]; exact setRow_heap _ _ _ _ _ _ hh
        have K2 : Hid (Kp n w w2) := by unfold Hid; rw [hw2]; exact (K1.out.trans (Kp.drew n wr)).trans (Kp.setRow _ _ _)
        have c72b : w2.cell? ⟨n, 72, none⟩ = some (.int .u64 T) := by rw [cell_of_row w2 n 72 _ 58 (0, 0) hh2, WC_get _ _ _ _ (by omega)]; simp [wc]
        have f72b := frozen_of_row w2 n 72 _ 58 hh2
        have HH2 := Lib.hid hh2
        clear hw2 hh2 c72 f72 hh HSRC hs1 K1
        by_cases hfull : T % 64 + c = 64
        · have m1 : ((T : Int) + c) % 64 = 0 := by omega
          go_wp2
          have h3 := heap_setCell_same w2 n 72 _ 58 (.int .u64 ((T : Int) + c)) HH2.out
          rw [WC_taken] at h3
          have K3 := Lib.hid (K2.out.trans (Kp.setCell n w2 72 (.int .u64 ((T : Int) + c))))
          clear HH2 K2 f72b c72b
          generalize World.setCell _ _ _ = W3 at *
          obtain ⟨s, hs⟩ : ∃ s : St, s = after (L ++ M.take d) ((L ++ M.take d).length / 64) := ⟨_, rfl⟩
          have hsj : ∀ j, j < 8 → H j = s.at j := fun j hj => by rw [hs]; exact HR.out j hj
          have PC := press_call h3 hsj (by rw [hs]; exact after_ok _ _) (HT.out.kp K3.out hn) (laid_byte HF.out.byte (fun j => HM.out (d + j)))
          have WCs := WC_cells h3 hsj
          have e0 := WCs 0 (by omega)
          have e1 := WCs 1 (by omega)
          have e2 := WCs 2 (by omega)
          have e3 := WCs 3 (by omega)
          have e4 := WCs 4 (by omega)
          have e5 := WCs 5 (by omega)
          have e6 := WCs 6 (by omega)
          have e7 := WCs 7 (by omega)
          simp only [St.at] at e0 e1 e2 e3 e4 e5 e6 e7
          have H3 := Lib.hid h3
          have HSJ := Lib.hid hsj
          clear hs h3 WCs hsj
          generalize hP : press s (laidIn p (T % 64) c fun j => M.getD (d + j) 0) = s2 at PC
          have HP := Lib.hid hP
          clear hP
          go_region_with (go_at_call 29; refine PC.mono ?_; rintro e w4 ⟨rfl, hb, y0, z0, y1, z1, y2, z2, y3, z3, y4, z4, y5, z5, y6, z6, y7, z7⟩; have HB := Lib.hid hb; clear hb)
          have h4 := eight (s := s2) ((HB.out.block n (Array.getElem?_eq_some_iff.1 H3.out).1).trans H3.out)
          have H4 := Lib.hid h4.1
          have K4 := Lib.hid ((K3.out.trans (Kp.of_below HB.out)).trans h4.2)
          clear h4 y0 y1 y2 y3 y4 y5 y6 y7 z0 z1 z2 z3 z4 z5 z6 z7 e0 e1 e2 e3 e4 e5 e6 e7
          generalize World.setCell _ _ _ = W5 at *
          go_roundw
          case rel => ((repeat apply Exists.intro); exact ⟨⟨d + c, sp2, cap' - c, by omega, by rw [Nat.sub_add_eq], by omega, by omega, Rest_more HX.out hcp HS3.out, Ws_full HF.out HR.out HL.out HM.out hc2 hfull s s2 HSJ.out HP.out H4.out, K4.out⟩, rfl⟩)
          case measure => simp [lenOf]; omega
        · have m1 : decide (((T : Int) + c) % 64 = 0) = false := by simp; omega
          have m2 : (((T : Int) + c) % 64 == 0) = false := by simp; omega
          go_wp2
          go_roundw
          case rel => exact ⟨d + c, sp2, cap' - c, by omega, by rw [Nat.sub_add_eq], by omega, by omega, Rest_more HX.out hcp HS3.out, Ws_more HF.out HR.out HL.out HM.out hc2 (by omega) HH2.out, K2.out.trans (Kp.setCell n w2 72 _)⟩
          case measure => simp [lenOf]; omega
      · have hdM : d = M.length := by omega
        subst hdM
        go_wp2
        go_end0
        have hx := HW.out
        rw [List.take_length] at hx
        exact ⟨rfl, hx, K1.out⟩
end Go.Proofs.YtbdahkbgjbaenaaDoor

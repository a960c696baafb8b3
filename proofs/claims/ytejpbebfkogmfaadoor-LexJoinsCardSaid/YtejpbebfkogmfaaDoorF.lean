/- Strings: the token of its parts, text. -/
import Derived.Test.YtejpbebfkogmfaaDoorE
namespace Go.Proofs.YtejpbebfkogmfaaDoor
open Go.RowKit

/-- a token as cells -/
abbrev tkc (k : Nat) (s : ByteArray) (n : Int) (v : Value) (p : Plc) : Array Value := #[.int .i64 k, .string s, .int .i64 n, v, .int .i64 p.a, .int .i64 p.l, .int .i64 p.c]
abbrev tkz : Array Value := #[.int .i64 0, .string ⟨#[]⟩, .int .i64 0, .slice none 0 0, .int .i64 0, .int .i64 0, .int .i64 0]
theorem rc7 {w : World} {b : Nat} {c0 c1 c2 c3 c4 c5 c6 : Value} {t : TypeId} (h : w.heap[b]? = some (.cells #[c0, c1, c2, c3, c4, c5, c6] t (0, 0))) :
    (w.cell? ⟨b, 0, none⟩ = some c0 ∧ w.cell? ⟨b, 1, none⟩ = some c1 ∧ w.cell? ⟨b, 2, none⟩ = some c2 ∧ w.cell? ⟨b, 3, none⟩ = some c3 ∧ w.cell? ⟨b, 4, none⟩ = some c4 ∧ w.cell? ⟨b, 5, none⟩ = some c5 ∧ w.cell? ⟨b, 6, none⟩ = some c6) ∧
    (w.frozen? ⟨b, 0, none⟩ = false ∧ w.frozen? ⟨b, 1, none⟩ = false ∧ w.frozen? ⟨b, 2, none⟩ = false ∧ w.frozen? ⟨b, 3, none⟩ = false ∧ w.frozen? ⟨b, 4, none⟩ = false ∧ w.frozen? ⟨b, 5, none⟩ = false ∧ w.frozen? ⟨b, 6, none⟩ = false) ∧ b < w.heap.size :=
  ⟨⟨cell_of_row w b 0 _ _ _ h, cell_of_row w b 1 _ _ _ h, cell_of_row w b 2 _ _ _ h, cell_of_row w b 3 _ _ _ h, cell_of_row w b 4 _ _ _ h, cell_of_row w b 5 _ _ _ h, cell_of_row w b 6 _ _ _ h⟩,
   ⟨frozen_of_row w b 0 _ _ h, frozen_of_row w b 1 _ _ h, frozen_of_row w b 2 _ _ h, frozen_of_row w b 3 _ _ h, frozen_of_row w b 4 _ _ h, frozen_of_row w b 5 _ _ h, frozen_of_row w b 6 _ _ h⟩, (Array.getElem?_eq_some_iff.1 h).1⟩
theorem below_set7 {B N : Nat} {w w1 : World} {v0 v1 v2 v3 v4 v5 v6 : Value} (h : Below B w w1) (hN : B ≤ N) :
    Below B w (((((((w1.setCell ⟨N, 0, none⟩ v0).setCell ⟨N, 1, none⟩ v1).setCell ⟨N, 2, none⟩ v2).setCell ⟨N, 3, none⟩ v3).setCell ⟨N, 4, none⟩ v4).setCell ⟨N, 5, none⟩ v5).setCell ⟨N, 6, none⟩ v6) :=
  ((((((h.setCell (p := ⟨N, 0, none⟩) hN _).setCell (p := ⟨N, 1, none⟩) hN _).setCell (p := ⟨N, 2, none⟩) hN _).setCell (p := ⟨N, 3, none⟩) hN _).setCell (p := ⟨N, 4, none⟩) hN _).setCell (p := ⟨N, 5, none⟩) hN _).setCell (p := ⟨N, 6, none⟩) hN _
theorem set7_other {N k : Nat} {w1 : World} {v0 v1 v2 v3 v4 v5 v6 : Value} (h : k ≠ N) :
    (((((((w1.setCell ⟨N, 0, none⟩ v0).setCell ⟨N, 1, none⟩ v1).setCell ⟨N, 2, none⟩ v2).setCell ⟨N, 3, none⟩ v3).setCell ⟨N, 4, none⟩ v4).setCell ⟨N, 5, none⟩ v5).setCell ⟨N, 6, none⟩ v6).heap[k]? = w1.heap[k]? := by
  rw [heap_setCell_other _ _ _ _ h, heap_setCell_other _ _ _ _ h, heap_setCell_other _ _ _ _ h, heap_setCell_other _ _ _ _ h, heap_setCell_other _ _ _ _ h, heap_setCell_other _ _ _ _ h, heap_setCell_other _ _ _ _ h]
theorem own_slice {w : World} {B e z n : Nat} {v : Value} {xs : List Value} (h : w.ownsRow B e z v n xs) : ∃ o l c, v = .slice o l c := by
  rcases h.2 with h | ⟨g, c, _, h, _⟩
  · exact ⟨_, _, _, h.1⟩
  · exact ⟨_, _, _, h⟩
theorem own_ty {w : World} {B e z n N : Nat} {v : Value} {xs : List Value} {cs : Array Value} {t : TypeId} {fr : Nat × Nat} (h : w.ownsRow B e z v n xs) (hN : w.heap[N]? = some (.cells cs t fr)) (ht : e ≠ t) : ∀ k, v.ownBlock = some k → k ≠ N := by
  intro k hk hkN
  subst hkN
  rcases h.2 with ⟨rfl, _⟩ | ⟨g, cap, cur, rfl, _, hg, _⟩
  · cases hk
  · simp only [Value.ownBlock, Option.some.injEq] at hk
    subst hk
    rw [hg] at hN
    simp only [Option.some.injEq, Obj.cells.injEq] at hN
    exact ht hN.2.1
/-- what the token of a string's parts is -/
def PtPost (w : World) (pb : Nat) (z : Int) (ps : List Prt) (n : Nat) (e : Ending) (w' : World) : Prop :=
  if 1024 < n then e = .returned (.tuple #[.agg tkz, .int .i64 0, .int .i64 3]) ∧ Below pb w w'
  else ∃ vl, e = .returned (.tuple #[.agg (tkc 3 ⟨#[]⟩ 0 vl noP), .int .i64 z, .int .i64 0]) ∧ w'.ownsRow (pb + 1) 39 5 vl ps.length (pcs ps) ∧ Below pb w w'
set_option maxHeartbeats 1000000 in
theorem ptoken_any {w : World} {pb : Nat} {vl vp : Value} {ps : List Prt} {b : List UInt8} {n : Nat} (P : Pb w pb vl vp ps b n) (hb : b.length ≤ 1000000) (hp : ps.length ≤ 1000000) (hn : n ≤ 1000000) (z : Int) :
    Calls Tryd.prog 32 #[.pointer (some ⟨pb, 0, none⟩), .int .i64 z] w (PtPost w pb z (flush ps b) n) := by
  have lt := P.lt
  obtain ⟨N, hN⟩ : ∃ N, N = w.heap.size := ⟨_, rfl⟩
  have hlN : pb < N := by omega
  have P1 := Lib.hid (P.keep (w' := w.alloc (.cells tkz 26)) fun k _ hk => ((Below.refl w.heap.size w).alloc (Nat.le_refl _) _).block k hk)
  have B1 : Hid (Below pb w (w.alloc (.cells tkz 26))) := (Below.refl pb w).alloc (by omega) _
  have HR1 : Hid ((w.alloc (.cells tkz 26)).heap[N]? = some (.cells tkz 26 (0, 0))) := by rw [hN]; exact heap_alloc_new _ _
  have EP := Lib.hid (endPiece_any P1.out hb hp)
  have HL : Hid (∀ g, vl.ownBlock = some g → g < N) := fun g hg => by have := (P.ol.lt g hg).2; omega
  clear P
  generalize flush ps b = ps2 at *
  by_cases h : 1024 < n
  · have h' : (1024 : Int) < n := by omega
    go_enter Tryd.func32, Tryd.ntmps32
    go_upto_region 1 with fail
    generalize w.alloc _ = w1 at *
    rw [← hN] at *
    obtain ⟨x0, x1, x2, f0, f1, f2, l2⟩ := rc3 P1.out.row
    obtain ⟨⟨r0, r1, r2, r3, r4, r5, r6⟩, ⟨g0, g1, g2, g3, g4, g5, g6⟩, lN⟩ := rc7 HR1.out
    go_wp2_with fail
    refine bodyPost_ret (v := .tuple #[.agg tkz, .int .i64 0, .int .i64 3]) (by simp [results, Tryd.results32, go_sem, r0, r1, r2, r3, r4, r5, r6]) rfl ?_
    unfold PtPost
    rw [if_pos h]
    exact ⟨rfl, below_set7 B1.out (by omega)⟩
  · have h' : ¬ (1024 : Int) < n := by omega
    go_enter Tryd.func32, Tryd.ntmps32
    go_upto_region 1 with fail
    generalize w.alloc _ = w1 at *
    rw [← hN] at *
    obtain ⟨x0, x1, x2, f0, f1, f2, l2⟩ := rc3 P1.out.row
    go_wp2_with fail
    refine EP.out.mono ?_
    rintro e w2 ⟨⟨rfl, ⟨vl2, vp2, P2⟩, B2⟩, OT⟩
    have HR2 := (OT N (by have := (Array.getElem?_eq_some_iff.1 HR1.out).1; omega) (by omega) (fun e => by have := (HL.out N e); omega)).trans HR1.out
    have B12 := Lib.hid (B1.out.trans B2)
    have HP2 := Lib.hid P2
    clear x0 x1 x2 f0 f1 f2 l2 OT B2
    obtain ⟨x0, x1, x2, f0, f1, f2, l2⟩ := rc3 P2.row
    obtain ⟨⟨r0, r1, r2, r3, r4, r5, r6⟩, ⟨g0, g1, g2, g3, g4, g5, g6⟩, lN⟩ := rc7 HR2
    obtain ⟨vo, vn, vc, rfl⟩ := own_slice P2.ol
    have HR3 := Lib.hid HR2
    clear P2 HR2
    go_wp2_with fail
    refine bodyPost_ret (v := .tuple #[.agg (tkc 3 ⟨#[]⟩ 0 (.slice vo vn vc) noP), .int .i64 z, .int .i64 0]) (by simp [results, Tryd.results32, go_sem, r0, r1, r2, r3, r4, r5, r6, noP]) rfl ?_
    unfold PtPost
    rw [if_neg h]
    refine ⟨_, rfl, ownsRow_kept HP2.out.ol fun k hk => set7_other ?_, below_set7 B12.out (by omega)⟩
    exact own_ty HP2.out.ol HR3.out (by decide) k hk
end Go.Proofs.YtejpbebfkogmfaaDoor

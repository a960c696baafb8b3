/- Contracts: the reference's New. -/
import Derived.Test.YtonnopcafmhaaaaDoorR1
namespace Go.Proofs.YtonnopcafmhaaaaDoor
open Go.RowKit

theorem owns_ne {w : World} {B : Nat} {T T' : TypeId} {v : Value} {n m b : Nat} {xs : List Value} {f : Nat → Value} (h : w.ownsRow B T 1 v n xs) (r : w.rowIs b T' m f) (hT : T ≠ T') : v.ownBlock ≠ some b := fun e => by
  obtain ⟨c, hb, -, -⟩ := r
  obtain ⟨-, ⟨rfl, -⟩ | ⟨g, cap, cur, rfl, -, h4, -⟩⟩ := h
  · cases e
  · have : g = b := Option.some.inj e
    subst this
    rw [h4] at hb
    injection hb with hb
    injection hb with _ hb _
    exact hT hb
/-- a row of truths -/
abbrev Bl (w : World) (q n : Nat) (f : Nat → Bool) : Prop := w.rowIs q 4 n fun k => .bool (f k)
def rv (n q : Nat) : Value := .slice (some ⟨q, 0, none⟩) n n
def c34 (n : Nat) (v : Value) (j : Nat) : Value := if j = 0 then .int .i64 (n : Int) else v
/-- the reference's graph in memory -/
structure RG (w : World) (g n : Nat) (A : Nat → Nat → Bool) : Prop where
  c0 : w.cell? ⟨g, 0, none⟩ = some (.int .i64 (n : Int))
  c1 : ∃ sp cap, w.cell? ⟨g, 1, none⟩ = some (.slice sp n cap) ∧ ∀ i, i < n → ∃ r q, sp = some ⟨r, 0, none⟩ ∧ r < w.heap.size ∧ w.cell? ⟨r, i, none⟩ = some (rv n q) ∧ Bl w q n (A i)
  lt : g < w.heap.size
  le : n ≤ 128
theorem RG.below {w w' : World} {g n : Nat} {A : Nat → Nat → Bool} {B : Nat} (h : RG w g n A) (b : Below B w w') (hB : w.heap.size ≤ B) : RG w' g n A := by
  have hg := h.lt
  obtain ⟨sp, cap, h1, h2⟩ := h.c1
  refine ⟨(b.cell (p := ⟨g, 0, none⟩) (by show g < B; omega)).trans h.c0, ⟨sp, cap, (b.cell (p := ⟨g, 1, none⟩) (by show g < B; omega)).trans h1, fun i hi => ?_⟩, Nat.lt_of_lt_of_le hg b.size, h.le⟩
  obtain ⟨r, q, e, h3, h4, h5⟩ := h2 i hi
  have := World.rowIs.lt h5
  exact ⟨r, q, e, Nat.lt_of_lt_of_le h3 b.size, (b.cell (p := ⟨r, i, none⟩) (by show r < B; omega)).trans h4, below_row b h5 (by omega)⟩
/-- while it is made -/
def RN (n0 n : Nat) (F : Nat → Nat → Bool) (w0 : World) (i : Nat) (v : Value) (Q : Nat → Nat) (W : World) : Prop :=
  W.rowIs n0 34 2 (c34 n v) ∧ W.ownsRow (n0 + 1) 55 1 v i ((List.range i).map fun j => rv n (Q j)) ∧ (∀ j, j < i → n0 + 1 ≤ Q j ∧ Bl W (Q j) n (F j)) ∧ Below n0 w0 W
section
variable {n0 n i : Nat} {F : Nat → Nat → Bool} {w0 W W' : World} {v : Value} {Q : Nat → Nat}
theorem RN.exc {q : Nat} (h : RN n0 n F w0 i v Q W) (x : Exc (some q) W W') (hn : n0 < q) (hq : n0 ≤ W.heap.size) (hQ : ∀ j, j < i → Q j ≠ q) (ho : v.ownBlock ≠ some q) : RN n0 n F w0 i v Q W' :=
  ⟨Exc.row x h.1 (by omega), owns_exc h.2.1 x ho, fun j hj => ⟨(h.2.2.1 j hj).1, Exc.row x (h.2.2.1 j hj).2 fun e => hQ j hj e.symm⟩, h.2.2.2.trans (x.below1 hq (by omega))⟩
theorem RN.keep (h : RN n0 n F w0 i v Q W) (b : Below W.heap.size W W') (hq : n0 ≤ W.heap.size) : RN n0 n F w0 i v Q W' :=
  ⟨below_row b h.1 (World.rowIs.lt h.1), owns_below h.2.1 b, fun j hj => ⟨(h.2.2.1 j hj).1, below_row b (h.2.2.1 j hj).2 (World.rowIs.lt (h.2.2.1 j hj).2)⟩, h.2.2.2.trans (b.mono hq)⟩
/-- a row more -/
theorem RN.grow {q : Nat} {v' : Value} {W2 : World} (h : RN n0 n F w0 i v Q W) (hr : Bl W q n (F i)) (hq : n0 + 1 ≤ q)
    (o7 : W'.ownsRow (n0 + 1) 55 1 v' (i + 1) (((List.range i).map fun j => rv n (Q j)) ++ [rv n q])) (g7 : (W.alloc (.cells #[rv n q] 55)).grownBy W' v.ownBlock) (hW2 : W2 = W'.setCell ⟨n0, 1, none⟩ v') : RN n0 n F w0 (i + 1) v' (fun j => if j = i then q else Q j) W2 := by
  have hs := World.rowIs.lt h.1
  have hl := h.2.1.lt
  have o1 : v.ownBlock ≠ some n0 := fun e => by have := (hl n0 e).1; omega
  have key : ∀ b, b < W.heap.size → v.ownBlock ≠ some b → b ≠ n0 → W2.heap[b]? = W.heap[b]? := fun b hb hv hn => by
    rw [hW2, Below.heap_setCell _ _ _ _ (show b ≠ (⟨n0, 1, none⟩ : Addr).block from hn), g7.block b (by simp; omega) (fun e => hv e.symm), Below.heap_alloc _ _ _ hb]
  refine ⟨?_, ?_, fun j hj => ?_, ?_⟩
  · have h1 : W'.rowIs n0 34 2 (c34 n v) := World.rowIs.of_block (World.rowIs.alloc h.1 _) (g7.block n0 (by simp; omega) (fun e => o1 e.symm))
    rw [hW2]
    refine (h1.set 1 v').congr fun j hj => ?_
    have : j = 0 ∨ j = 1 := by omega
    rcases this with rfl | rfl <;> rfl
  · have e : ((List.range (i + 1)).map fun j => rv n (if j = i then q else Q j)) = ((List.range i).map fun j => rv n (Q j)) ++ [rv n q] := by
      rw [List.range_succ, List.map_append]
      congr 1
      · refine List.map_congr_left fun j hj => ?_
        have := List.mem_range.1 hj
        rw [if_neg (by omega)]
      · simp
    show W2.ownsRow (n0 + 1) 55 1 v' (i + 1) ((List.range (i + 1)).map fun j => rv n (if j = i then q else Q j))
    rw [e, hW2]
    exact ownsRow_setCell_below o7 (by show n0 < n0 + 1; omega) v'
  · by_cases e : j = i
    · subst e
      simp only [if_true]
      exact ⟨hq, World.rowIs.of_block hr (key q (World.rowIs.lt hr) (owns_ne h.2.1 hr (by decide)) (by omega))⟩
    · simp only [if_neg e]
      have hj' := h.2.2.1 j (by omega)
      exact ⟨hj'.1, World.rowIs.of_block hj'.2 (key _ (World.rowIs.lt hj'.2) (owns_ne h.2.1 hj'.2 (by decide)) (by omega))⟩
  · rw [hW2]
    exact ((h.2.2.2.alloc (by omega) _).grown g7 (by simp; omega) (fun k hk => by have := (hl k hk).1; omega)).setCell (Nat.le_refl _) _
theorem RN.done (h : RN n0 n F w0 n v Q W) (hn : n ≤ 128) : RG W n0 n F := by
  obtain ⟨sp, cap, rfl, -, -, -, h4⟩ := owns_form1 h.2.1
  refine ⟨h.1.cell (i := 0) (by omega), ⟨sp, cap, h.1.cell (i := 1) (by omega), fun i hi => ?_⟩, World.rowIs.lt h.1, hn⟩
  obtain ⟨r, e, -, h5, h6⟩ := h4 i (rv n (Q i)) (by rw [List.getElem?_map, List.getElem?_range hi]; rfl)
  rw [Nat.zero_add] at h6
  exact ⟨r, Q i, e, h5, h6, (h.2.2.1 i hi).2⟩
end
/-- a row so far -/
def fr (N m : Nat) (M : Nat → List Int) (i j : Nat) : Nat → Bool := fun k => decide (k < N ∧ i < m ∧ (k : Int) ∈ (M i).take j)
theorem fr_0 (N m : Nat) (M : Nat → List Int) (i : Nat) : fr N m M i 0 = fun _ => false := by funext k; simp [fr]
theorem fr_yes {N m : Nat} {M : Nat → List Int} {i j x : Nat} (hj : j < (M i).length) (hx : (M i).getD j 0 = (x : Int)) (hN : x < N) (hm : i < m) : (fun k => if k = x then true else fr N m M i j k) = fr N m M i (j + 1) := by
  funext k
  unfold fr
  by_cases e : k = x
  · subst e
    rw [if_pos rfl]
    exact (decide_eq_true ⟨hN, hm, (take_mem hj _).2 (.inr hx.symm)⟩).symm
  · rw [if_neg e]
    refine decide_eq_decide.2 ?_
    rw [take_mem hj, hx]
    constructor
    · rintro ⟨h1, h2, h⟩; exact ⟨h1, h2, .inl h⟩
    · rintro ⟨h1, h2, h | h⟩
      · exact ⟨h1, h2, h⟩
      · omega
theorem fr_no {N m : Nat} {M : Nat → List Int} {i j : Nat} (hj : j < (M i).length) (hx : ¬ (0 ≤ (M i).getD j 0 ∧ (M i).getD j 0 < N)) : fr N m M i (j + 1) = fr N m M i j := by
  funext k; unfold fr
  refine decide_eq_decide.2 ?_
  rw [take_mem hj]
  constructor
  · rintro ⟨h1, h2, h | h⟩
    · exact ⟨h1, h2, h⟩
    · rw [← h] at hx; omega
  · rintro ⟨h1, h2, h⟩; exact ⟨h1, h2, .inl h⟩
theorem fr_end {N m : Nat} {M : Nat → List Int} {i : Nat} (hi : i < N) : fr N m M i (M i).length = ahA N m M i := by
  funext k; unfold fr ahA
  rw [List.take_length]
  refine decide_eq_decide.2 ⟨fun h => ⟨hi, h.2.1, h.1, h.2.2⟩, fun h => ⟨h.2.2.1, h.2.1, h.2.2.2⟩⟩
theorem fr_out {N m : Nat} {M : Nat → List Int} {i : Nat} (_ : i < N) (hm : ¬ i < m) : fr N m M i 0 = ahA N m M i := by
  funext k; unfold fr ahA
  refine decide_eq_decide.2 ⟨fun h => absurd h.2.1 hm, fun h => absurd h.2.1 hm⟩
theorem info4 : (Tryd.prog.info? 4).map (fun i => (i.zero, i.size, i.bytes)) = some (some (.bool false), 1, 1) := by kernel_rfl
theorem info55 : (Tryd.prog.info? 55).map (fun i => (i.zero, i.size, i.bytes)) = some (some (.slice none 0 0), 1, 24) := by kernel_rfl
set_option maxHeartbeats 8000000 in
theorem rnew_any (n : Int) (pp : Option Addr) (m cap : Nat) (S : Nat → Option Addr) (M : Nat → List Int) (C : Nat → Nat) (w : World) (h : Pt w pp m S M C) (hm : m ≤ maxLen) :
    Calls Tryd.prog 11 #[.int .i64 n, .slice pp m cap] w fun e w' => e = .returned (.pointer (some ⟨w.heap.size, 0, none⟩)) ∧ RG w' w.heap.size (clamp n) (ahA (clamp n) m M) ∧ Below w.heap.size w w' := by
  obtain ⟨i5, hi5, hz0, hz1, hz2⟩ := info_parts info55
  have hN := clamp_le n
  obtain ⟨X, hA, hB⟩ : ∃ X : Int, (if 128 < n then 128 else n) = X ∧ (if 0 < X then X else 0) = (clamp n : Int) := ⟨_, rfl, by unfold clamp; split <;> split <;> omega⟩
  have HP := Lib.hid h
  clear h
  generalize hNN : clamp n = N at *
  clear hNN
  have hmk := run_make_row' (P := Tryd.prog) 55 4 (.bool false) 1 Tryd.underlying55 info4 rfl .i64 .i64 N (by omega) (by omega)
  obtain ⟨n0, hn0⟩ : ∃ k, w.heap.size = k := ⟨_, rfl⟩
  have HN0 := Lib.hid hn0
  have R0 : Hid ((w.alloc (.cells #[.int .i64 (N : Int), .slice none 0 0] 34)).rowIs n0 34 2 (c34 N (.slice none 0 0))) := by
    have := World.rowIs_alloc w #[.int .i64 (N : Int), .slice none 0 0] 34 (c34 N (.slice none 0 0)) fun i hi => by
      have : i = 0 ∨ i = 1 := by simp at hi; omega
      rcases this with rfl | rfl <;> rfl
    rw [hn0] at this; exact this
  have HB0 : Hid (Below n0 w (w.alloc (.cells #[.int .i64 (N : Int), .slice none 0 0] 34))) := (Below.refl _ w).alloc (by omega) _
  unfold maxLen at hm
  go_enter Tryd.func11, Tryd.ntmps11
  go_wp2
  clear hn0
  go_loopg [6] N (fun k c wr => ∃ (i : Nat) (v : Value) (Q : Nat → Nat), i ≤ N ∧ k = N - i ∧ c = .int .i64 i ∧ Hid (RN n0 N (ahA N m M) w i v Q wr))
  case atStart => exact ⟨0, .slice none 0 0, fun _ => 0, by omega, by omega, rfl, R0.out, World.ownsRow_nil _ _ _ _, fun j h => absurd h (Nat.not_lt_zero _), HB0.out⟩
  case round =>
    clear R0 HB0 hA hB
    obtain ⟨i, v, Q, hi, rfl, rfl, HR⟩ := hrel
    by_cases hlt : i < N
    · have hg0 := World.rowIs.lt HR.out.1
      have HMR := Lib.hid (World.rowIs_made wr (.bool false) N 4)
      have HRM := Lib.hid (HR.out.keep ((Below.refl _ wr).alloc (Nat.le_refl _) (.cells (madeCells #[.bool false] N) 4)) (by omega))
      have HQ : Hid (∀ j, j < i → Q j < wr.heap.size) := fun j hj => World.rowIs.lt (HR.out.2.2.1 j hj).2
      obtain ⟨q, hq⟩ : ∃ k, wr.heap.size = k := ⟨_, rfl⟩
      rw [hq] at HMR HQ hg0
      have i0 : (0 : Int) ≤ i := by omega
      have iN : (i : Int) < N := by omega
      by_cases im : i < m
      · obtain ⟨b1, o1, rfl, g1, d1⟩ := HP.out.at_ i im
        have HD1 := Lib.hid d1
        have d1 : wr.cell? ⟨b1, o1 + i, none⟩ = _ := (HR.out.2.2.2.cell (p := ⟨b1, o1 + i, none⟩) (by show b1 < n0; have := HN0.out; omega)).trans d1
        have RD := Lib.hid (HP.out.rd i im)
        have hcp := HP.out.cp i im
        have im' : (i : Int) < m := by omega
        have EE : Hid (fr N m M i (M i).length = ahA N m M i) := fr_end hlt
        obtain ⟨l, hl⟩ : ∃ l, (M i).length = l := ⟨_, rfl⟩
        rw [hl] at d1 hcp EE HD1
        generalize S i = si at *
        have hlm : l ≤ maxLen := by omega
        clear hcp
        unfold maxLen at hlm
        have HL := Lib.hid hl
        clear hl HR
        go_wp2
        clear hq
        go_loopg [8] l (fun k c wr => ∃ j : Nat, j ≤ l ∧ k = l - j ∧ c = .int .i64 j ∧ Hid (RN n0 N (ahA N m M) w i v Q wr) ∧ Hid (Bl wr q N (fr N m M i j)))
        case atStart => exact ⟨0, by omega, by omega, rfl, HRM.out, by rw [fr_0]; exact HMR.out⟩
        case round =>
          clear HRM HMR d1
          obtain ⟨j, hj, rfl, rfl, HRM, HMR⟩ := hrel
          have d1 : wr.cell? ⟨b1, o1 + i, none⟩ = some (.slice si l (C i)) := (HRM.out.2.2.2.cell (p := ⟨b1, o1 + i, none⟩) (by show b1 < n0; have := HN0.out; omega)).trans HD1.out
          by_cases hjl : j < l
          · obtain ⟨b2, o2, rfl, g2, c2⟩ := RD.out j (by rw [HL.out]; exact hjl)
            have c2 : wr.cell? ⟨b2, o2 + j, none⟩ = _ := (HRM.out.2.2.2.cell (p := ⟨b2, o2 + j, none⟩) (by show b2 < n0; have := HN0.out; omega)).trans c2
            have j0 : (0 : Int) ≤ j := by omega
            have jl : (j : Int) < l := by omega
            by_cases hx : 0 ≤ (M i).getD j 0 ∧ (M i).getD j 0 < N
            · obtain ⟨x, hxe⟩ : ∃ x : Nat, (M i).getD j 0 = x := ⟨((M i).getD j 0).toNat, by omega⟩
              have hxN : x < N := by omega
              have EN := fr_yes (N := N) (m := m) (M := M) (i := i) (j := j) (x := x) (by rw [HL.out]; exact hjl) hxe hxN im
              rw [hxe] at c2
              have cx := HMR.out.cell hxN
              have fx := HMR.out.frozen x
              have x0 : (0 : Int) ≤ x := by omega
              have xN : (x : Int) < N := by omega
              have HMR2 : Hid (Bl (wr.setCell ⟨q, x, none⟩ (.bool true)) q N (fr N m M i (j + 1))) := (HMR.out.set x (.bool true)).congr fun k _ => by
                rw [← EN]
                show (if k = x then _ else _) = Value.bool (if k = x then _ else _)
                by_cases e : k = x
                · rw [if_pos e, if_pos e]
                · rw [if_neg e, if_neg e]
              have hqs := World.rowIs.lt HMR.out
              have HRM2 : Hid (RN n0 N (ahA N m M) w i v Q (wr.setCell ⟨q, x, none⟩ (.bool true))) :=
                HRM.out.exc (exc_set wr q x (.bool true) 0) hg0 (by omega) (fun j hj e => by have := HQ.out j hj; omega) (owns_ne HRM.out.2.1 HMR.out (by decide))
              clear hx hxe EN HMR HRM hqs
              go_wp2
              go_roundg (l - (j + 1))
              case rel => exact ⟨j + 1, by omega, rfl, by go_num, HRM2.out, HMR2.out⟩
              case measure => omega
            · have EN := fr_no (N := N) (m := m) (M := M) (i := i) (j := j) (by rw [HL.out]; exact hjl) hx
              rw [← EN] at HMR
              clear EN
              generalize (M i).getD j 0 = x at *
              by_cases hx0 : 0 ≤ x
              · have hxd : decide (x < (N : Int)) = false := decide_eq_false fun h => hx ⟨hx0, h⟩
                clear hx
                go_wp2
                go_roundg (l - (j + 1))
                case rel => exact ⟨j + 1, by omega, rfl, by go_num, HRM.out, HMR.out⟩
                case measure => omega
              · clear hx
                go_wp2
                go_roundg (l - (j + 1))
                case rel => exact ⟨j + 1, by omega, rfl, by go_num, HRM.out, HMR.out⟩
                case measure => omega
          · have hjl : j = l := by omega
            subst hjl
            rw [EE.out] at HMR
            clear RD EE HL
            have HRN : Hid (RN n0 N (ahA N m M) w i v Q wr) := HRM.out
            have c1 := HRN.out.1.cell (i := 1) (by omega)
            have f1 := HRN.out.1.frozen 1
            have c1 : wr.cell? ⟨n0, 1, none⟩ = some v := c1
            have hq1 : n0 + 1 ≤ wr.heap.size := by have := World.rowIs.lt HRN.out.1; omega
            have HOW := Lib.hid (HRN.out.2.1.alloc (.cells #[.slice (some ⟨q, 0, none⟩) N N] 55))
            clear HRM
            go_wp2_with (at_builtin; go_must (refine wpList_append_own _ rfl (.tmp 59) (.tmp 61) 32 rfl (n0 + 1) 55 i5 (.slice none 0 0) 1 24 Tryd.underlying32 hi5 hz0 hz1 hz2 rfl (by decide) _ i _ rfl HOW.out ⟨wr.heap.size, 0, none⟩ 1 1 [.slice (some ⟨q, 0, none⟩) N N] rfl rfl (cell_one_new _ _ _) (by intro u hu; simp at hu; subst hu; rfl) (by unfold maxLen; omega) (by omega) (by simp; omega) ?_))
            intro v7 w7 o7 g7 _
            obtain ⟨sp7, cp7, rfl, -, -, -, -⟩ := owns_form1 o7
            have HR7 : Hid (RN n0 N (ahA N m M) w (i + 1) (.slice sp7 (i + 1) cp7) (fun j => if j = i then q else Q j) (w7.setCell ⟨n0, 1, none⟩ (.slice sp7 (i + 1) cp7))) := HRN.out.grow HMR.out (by omega) o7 g7 rfl
            have hk0 : w7.cell? ⟨n0, 1, none⟩ = some v := by
              have o1 : v.ownBlock ≠ some n0 := fun e => by have := (HRN.out.2.1.lt n0 e).1; omega
              rw [World.cell?_of_block (w := wr.alloc (.cells #[.slice (some ⟨q, 0, none⟩) N N] 55)) (a := ⟨n0, 1, none⟩) (g7.block n0 (by simp; omega) (fun e => o1 e.symm)), World.cell?_of_block (w := wr) (a := ⟨n0, 1, none⟩) (Below.heap_alloc _ _ _ (by show n0 < wr.heap.size; omega))]
              exact c1
            have hk1 : w7.frozen? ⟨n0, 1, none⟩ = false := by
              have o1 : v.ownBlock ≠ some n0 := fun e => by have := (HRN.out.2.1.lt n0 e).1; omega
              rw [World.frozen?_of_block (w := wr.alloc (.cells #[.slice (some ⟨q, 0, none⟩) N N] 55)) (a := ⟨n0, 1, none⟩) (g7.block n0 (by simp; omega) (fun e => o1 e.symm)), World.frozen?_of_block (w := wr) (a := ⟨n0, 1, none⟩) (Below.heap_alloc _ _ _ (by show n0 < wr.heap.size; omega))]
              exact f1
            clear o7 g7 HRN HOW HMR c1 f1 hq1 HQ
            go_wp2_with fail
            go_roundg (N - (i + 1))
            case rel => exact ⟨i + 1, _, _, by omega, rfl, by go_num, HR7.out⟩
            case measure => omega
      · have EE : Hid (fr N m M i 0 = ahA N m M i) := fr_out hlt im
        rw [fr_0] at EE
        have im' : ¬ (i : Int) < m := by omega
        have HMR2 : Hid (Bl (wr.alloc (.cells (madeCells #[.bool false] N) 4)) q N (ahA N m M i)) := by
          unfold Hid; rw [← EE.out]; exact HMR.out
        clear HMR EE HR
        go_wp2
        clear hq
        go_loopg [8] 0 (fun k c wr => k = 0 ∧ c = .int .i64 0 ∧ Hid (RN n0 N (ahA N m M) w i v Q wr) ∧ Hid (Bl wr q N (ahA N m M i)))
        case atStart => exact ⟨rfl, rfl, HRM.out, HMR2.out⟩
        case round =>
          clear HRM HMR2
          obtain ⟨rfl, rfl, HRM, HMR⟩ := hrel
          have HRN : Hid (RN n0 N (ahA N m M) w i v Q wr) := HRM.out
          have c1 := HRN.out.1.cell (i := 1) (by omega)
          have f1 := HRN.out.1.frozen 1
          have c1 : wr.cell? ⟨n0, 1, none⟩ = some v := c1
          have hq1 : n0 + 1 ≤ wr.heap.size := by have := World.rowIs.lt HRN.out.1; omega
          have HOW := Lib.hid (HRN.out.2.1.alloc (.cells #[.slice (some ⟨q, 0, none⟩) N N] 55))
          clear HRM
          go_wp2_with (at_builtin; go_must (refine wpList_append_own _ rfl (.tmp 59) (.tmp 61) 32 rfl (n0 + 1) 55 i5 (.slice none 0 0) 1 24 Tryd.underlying32 hi5 hz0 hz1 hz2 rfl (by decide) _ i _ rfl HOW.out ⟨wr.heap.size, 0, none⟩ 1 1 [.slice (some ⟨q, 0, none⟩) N N] rfl rfl (cell_one_new _ _ _) (by intro u hu; simp at hu; subst hu; rfl) (by unfold maxLen; omega) (by omega) (by simp; omega) ?_))
          intro v7 w7 o7 g7 _
          obtain ⟨sp7, cp7, rfl, -, -, -, -⟩ := owns_form1 o7
          have HR7 : Hid (RN n0 N (ahA N m M) w (i + 1) (.slice sp7 (i + 1) cp7) (fun j => if j = i then q else Q j) (w7.setCell ⟨n0, 1, none⟩ (.slice sp7 (i + 1) cp7))) := HRN.out.grow HMR.out (by omega) o7 g7 rfl
          have hk0 : w7.cell? ⟨n0, 1, none⟩ = some v := by
            have o1 : v.ownBlock ≠ some n0 := fun e => by have := (HRN.out.2.1.lt n0 e).1; omega
            rw [World.cell?_of_block (w := wr.alloc (.cells #[.slice (some ⟨q, 0, none⟩) N N] 55)) (a := ⟨n0, 1, none⟩) (g7.block n0 (by simp; omega) (fun e => o1 e.symm)), World.cell?_of_block (w := wr) (a := ⟨n0, 1, none⟩) (Below.heap_alloc _ _ _ (by show n0 < wr.heap.size; omega))]
            exact c1
          have hk1 : w7.frozen? ⟨n0, 1, none⟩ = false := by
            have o1 : v.ownBlock ≠ some n0 := fun e => by have := (HRN.out.2.1.lt n0 e).1; omega
            rw [World.frozen?_of_block (w := wr.alloc (.cells #[.slice (some ⟨q, 0, none⟩) N N] 55)) (a := ⟨n0, 1, none⟩) (g7.block n0 (by simp; omega) (fun e => o1 e.symm)), World.frozen?_of_block (w := wr) (a := ⟨n0, 1, none⟩) (Below.heap_alloc _ _ _ (by show n0 < wr.heap.size; omega))]
            exact f1
          clear o7 g7 HRN HOW HMR c1 f1 hq1 HQ
          go_wp2_with fail
          go_roundg (N - (i + 1))
          case rel => exact ⟨i + 1, _, _, by omega, rfl, by go_num, HR7.out⟩
          case measure => omega
    · have hiN : i = N := by omega
      subst hiN
      have HE : Hid (RG wr n0 i (ahA i m M)) := HR.out.done hN
      have HB2 : Hid (Below w.heap.size w wr) := by unfold Hid; rw [HN0.out]; exact HR.out.2.2.2
      have c0 := HR.out.1.cell (i := 0) (by omega)
      clear HR
      go_wp2
      go_ret
      exact ⟨by rw [HN0.out]; rfl, by rw [HN0.out]; exact HE.out, HB2.out⟩
end Go.Proofs.YtonnopcafmhaaaaDoor

/- Memory: rows, sets of nodes, graphs; frames. -/
import Derived.Test.YtonnopcafmhaaaaDoorBt
import Derived.WalkKit
import Derived.Below
import Derived.WalkSmall
import Derived.LoopTactic
import Derived.RegionTactic
import Derived.ChangeAlike
import Derived.BigGuardPart
import Derived.Deep.QuietTactic
import Derived.BigQuiet
import Derived.Outline
import Derived.Lib.Hide
import Derived.Handy
import Derived.WalkLawsBesides
import Derived.WalkSpells
import Derived.StillTailTactics
import Derived.Deep.DeepMust
import Derived.Deep.DeepFit
import Derived.Deep.Cut
import Derived.Deep.RegionHeld3
import Derived.Deep.OwnRows
import Derived.Deep.MidRow
import Derived.Laws.Rows
import Derived.Laws.StructEq
import Derived.Laws.AppendOwn
import Derived.Laws.MakeOwn
import Derived.Maps.AppendAt
import Derived.OwnWalk
import Derived.Carry
namespace Go.Proofs.YtonnopcafmhaaaaDoor
open Go.RowKit

/-- all but one block stays -/
structure Exc (cb : Option Nat) (w w' : World) : Prop where
  os : w'.os = w.os
  tape : w'.tape = w.tape
  output : w'.output = w.output
  size : w.heap.size ≤ w'.heap.size
  block : ∀ k, k < w.heap.size → cb ≠ some k → w'.heap[k]? = w.heap[k]?
theorem Exc.refl (cb : Option Nat) (w : World) : Exc cb w w := ⟨rfl, rfl, rfl, Nat.le_refl _, fun _ _ _ => rfl⟩
theorem Exc.trans {cb : Option Nat} {a b c : World} (h : Exc cb a b) (k : Exc cb b c) : Exc cb a c :=
  ⟨k.os.trans h.os, k.tape.trans h.tape, k.output.trans h.output, Nat.le_trans h.size k.size, fun i hi hc => (k.block i (Nat.lt_of_lt_of_le hi h.size) hc).trans (h.block i hi hc)⟩
theorem Exc.of_below {cb : Option Nat} {a b : World} (h : Below a.heap.size a b) : Exc cb a b := ⟨h.os, h.tape, h.output, h.size, fun k hk _ => h.block k hk⟩
theorem Exc.below {cb : Option Nat} {a b : World} {n : Nat} (h : Exc cb a b) (hn : n ≤ a.heap.size) (hc : ∀ k, cb = some k → n ≤ k) : Below n a b :=
  ⟨h.os, h.tape, h.output, h.size, fun k hk => h.block k (by omega) fun e => by have := hc k e; omega⟩
theorem Exc.below1 {g n : Nat} {a b : World} (h : Exc (some g) a b) (hn : n ≤ a.heap.size) (hg : n ≤ g) : Below n a b := h.below hn fun k e => by injection e with e; omega
theorem Exc.row {g b : Nat} {w w' : World} {T : TypeId} {n : Nat} {f : Nat → Value} (x : Exc (some g) w w') (h : w.rowIs b T n f) (hb : g ≠ b) : w'.rowIs b T n f := h.of_block (x.block b h.lt fun e => hb (Option.some.inj e))
theorem below_row {B b : Nat} {w w' : World} {T : TypeId} {n : Nat} {f : Nat → Value} (x : Below B w w') (h : w.rowIs b T n f) (hb : b < B) : w'.rowIs b T n f := h.of_block (x.block b hb)
theorem exc_set (w : World) (g o : Nat) (v : Value) (q : Nat) : Exc (some g) w ((w.setCell ⟨g, o, none⟩ v).drewN q) :=
  ⟨rfl, rfl, rfl, by simp [World.setCell, World.drewN], fun k _ hk => Below.heap_setCell w ⟨g, o, none⟩ v k fun e => hk (by rw [e])⟩
/-- the table stands where the program lays it -/
def Tab (w : World) : Prop := 0 < w.heap.size ∧ ∀ i, i < 64 → w.cell? ⟨0, i, none⟩ = some (.int .u8 (Kf i))
theorem Tab.below {B : Nat} {w w' : World} (h : Tab w) (hb : Below B w w') (hB : 0 < B) : Tab w' :=
  ⟨Nat.lt_of_lt_of_le h.1 hb.size, fun i hi => (hb.cell (p := ⟨0, i, none⟩) hB).trans (h.2 i hi)⟩
/-- a set's cells -/
noncomputable def sc (S : Nat → Bool) (k : Nat) : Value := .int .u64 (wd S k : Int)
abbrev St (w : World) (g : Nat) (S : Nat → Bool) : Prop := w.rowIs g 49 2 (sc S)
/-- a graph's cells -/
noncomputable def gc (n : Nat) (A B : Nat → Nat → Bool) (j : Nat) : Value :=
  if j = 0 then .int .i64 (n : Int) else if j < 257 then sc (A ((j - 1) / 2)) ((j - 1) % 2) else sc (B ((j - 257) / 2)) ((j - 257) % 2)
abbrev GB (w : World) (g n : Nat) (A B : Nat → Nat → Bool) : Prop := w.rowIs g 52 513 (gc n A B)
theorem gc_0 (n : Nat) (A B : Nat → Nat → Bool) : gc n A B 0 = .int .i64 (n : Int) := rfl
theorem gc_a (n : Nat) (A B : Nat → Nat → Bool) {i k : Nat} (hi : i < 128) (hk : k < 2) : gc n A B (1 + i * 2 + k) = sc (A i) k := by
  unfold gc
  rw [if_neg (by omega), if_pos (by omega), show (1 + i * 2 + k - 1) / 2 = i by omega, show (1 + i * 2 + k - 1) % 2 = k by omega]
theorem gc_b (n : Nat) (A B : Nat → Nat → Bool) {i k : Nat} (hk : k < 2) : gc n A B (257 + i * 2 + k) = sc (B i) k := by
  unfold gc
  rw [if_neg (by omega), if_neg (by omega), show (257 + i * 2 + k - 257) / 2 = i by omega, show (257 + i * 2 + k - 257) % 2 = k by omega]
/-- one node more in a row -/
def up2 (A : Nat → Nat → Bool) (i x : Nat) : Nat → Nat → Bool := fun a => if a = i then upd (A a) x else A a
theorem st_upd {w : World} {g : Nat} {S : Nat → Bool} (h : St w g S) (i : Nat) (q : Nat) : St ((w.setCell ⟨g, i / 64, none⟩ (sc (upd S i) (i / 64))).drewN q) g (upd S i) := by
  refine (h.set (i / 64) (sc (upd S i) (i / 64))).congr fun k _ => ?_
  by_cases e : k = i / 64
  · rw [if_pos e, e]
  · rw [if_neg e]; unfold sc; rw [wd_other (by omega)]
theorem gb_upa {w : World} {g n : Nat} {A B : Nat → Nat → Bool} (h : GB w g n A B) {i x : Nat} (hi : i < 128) (hx : x < 128) (q : Nat) : GB ((w.setCell ⟨g, 1 + i * 2 + x / 64, none⟩ (sc (upd (A i) x) (x / 64))).drewN q) g n (up2 A i x) B := by
  refine (h.set _ (sc (upd (A i) x) (x / 64))).congr fun j _ => ?_
  by_cases e : j = 1 + i * 2 + x / 64
  · rw [if_pos e, e, gc_a _ _ _ hi (by omega)]; unfold up2; rw [if_pos rfl]
  · rw [if_neg e]
    unfold gc
    by_cases h0 : j = 0
    · rw [if_pos h0, if_pos h0]
    · rw [if_neg h0, if_neg h0]
      by_cases h1 : j < 257
      · rw [if_pos h1, if_pos h1]
        unfold up2
        by_cases h2 : (j - 1) / 2 = i
        · rw [if_pos h2]; unfold sc; rw [wd_other (by omega)]
        · rw [if_neg h2]
      · rw [if_neg h1, if_neg h1]
theorem gb_upb {w : World} {g n : Nat} {A B : Nat → Nat → Bool} (h : GB w g n A B) {i x : Nat} (hx : x < 128) (q : Nat) : GB ((w.setCell ⟨g, 257 + i * 2 + x / 64, none⟩ (sc (upd (B i) x) (x / 64))).drewN q) g n A (up2 B i x) := by
  refine (h.set _ (sc (upd (B i) x) (x / 64))).congr fun j _ => ?_
  by_cases e : j = 257 + i * 2 + x / 64
  · rw [if_pos e, e, gc_b _ _ _ (by omega)]; unfold up2; rw [if_pos rfl]
  · rw [if_neg e]
    unfold gc
    by_cases h0 : j = 0
    · rw [if_pos h0, if_pos h0]
    · rw [if_neg h0, if_neg h0]
      by_cases h1 : j < 257
      · rw [if_pos h1, if_pos h1]
      · rw [if_neg h1, if_neg h1]
        unfold up2
        by_cases h2 : (j - 257) / 2 = i
        · rw [if_pos h2]; unfold sc; rw [wd_other (by omega)]
        · rw [if_neg h2]
/-- a row of whole numbers -/
def Rd (w : World) (sp : Option Addr) (M : List Int) : Prop := ∀ i, i < M.length → ∃ k o, sp = some ⟨k, o, none⟩ ∧ k < w.heap.size ∧ w.cell? ⟨k, o + i, none⟩ = some (.int .i64 (M.getD i 0))
theorem Rd.below {w w' : World} {sp : Option Addr} {M : List Int} {B : Nat} (h : Rd w sp M) (hb : Below B w w') (hB : w.heap.size ≤ B) : Rd w' sp M := fun i hi => by
  obtain ⟨k, o, a, b, c⟩ := h i hi
  exact ⟨k, o, a, Nat.lt_of_lt_of_le b hb.size, (hb.cell (p := ⟨k, o + i, none⟩) (by show k < B; omega)).trans c⟩
theorem Rd.nil (w : World) (sp : Option Addr) : Rd w sp [] := fun _ hi => absurd hi (Nat.not_lt_zero _)
/-- rows of rows -/
structure Pt (w : World) (pp : Option Addr) (m : Nat) (S : Nat → Option Addr) (M : Nat → List Int) (C : Nat → Nat) : Prop where
  at_ : ∀ i, i < m → ∃ k o, pp = some ⟨k, o, none⟩ ∧ k < w.heap.size ∧ w.cell? ⟨k, o + i, none⟩ = some (.slice (S i) (M i).length (C i))
  rd : ∀ i, i < m → Rd w (S i) (M i)
  cp : ∀ i, i < m → (M i).length ≤ C i ∧ C i ≤ maxLen
theorem Pt.below {w w' : World} {pp : Option Addr} {m : Nat} {S : Nat → Option Addr} {M : Nat → List Int} {C : Nat → Nat} {B : Nat} (h : Pt w pp m S M C) (hb : Below B w w') (hB : w.heap.size ≤ B) : Pt w' pp m S M C :=
  ⟨fun i hi => by
    obtain ⟨k, o, a, b, c⟩ := h.at_ i hi
    exact ⟨k, o, a, Nat.lt_of_lt_of_le b hb.size, (hb.cell (p := ⟨k, o + i, none⟩) (by show k < B; omega)).trans c⟩,
   fun i hi => (h.rd i hi).below hb hB, h.cp⟩
theorem owns_form1 {w : World} {B : Nat} {T : TypeId} {v : Value} {n : Nat} {xs : List Value} (h : w.ownsRow B T 1 v n xs) :
    ∃ sp cap, v = .slice sp n cap ∧ n ≤ cap ∧ cap ≤ maxLen ∧ (sp = none → cap = 0) ∧ ∀ j u, xs[j]? = some u → ∃ g, sp = some ⟨g, 0, none⟩ ∧ B ≤ g ∧ g < w.heap.size ∧ w.cell? ⟨g, 0 + j, none⟩ = some u := by
  obtain ⟨h1, h2 | ⟨g, cap, cur, e, h3, h4, h5, h6, h7, h8⟩⟩ := h
  · obtain ⟨e, h2⟩ := h2
    subst h2
    refine ⟨none, 0, e, Nat.le_refl _, by unfold maxLen; omega, fun _ => rfl, fun j u hj => ?_⟩
    have : xs = [] := List.length_eq_zero_iff.1 (by simpa using h1)
    rw [this] at hj; simp at hj
  · refine ⟨some ⟨g, 0, none⟩, cap, e, h5, h6, fun h => (by cases h), fun j u hj => ⟨g, rfl, h3, (Array.getElem?_eq_some_iff.1 h4).1, ?_⟩⟩
    have c : w.cell? ⟨g, 0 + j, none⟩ = cur[j]? := by simp [World.cell?, h4]
    rw [c, ← Array.getElem?_toList]
    rw [← h8] at hj
    rw [List.getElem?_take] at hj
    split at hj
    · exact hj
    · cases hj
theorem owns_below {w w' : World} {B size : Nat} {T : TypeId} {v : Value} {n : Nat} {xs : List Value} (h : w.ownsRow B T size v n xs) (b : Below w.heap.size w w') : w'.ownsRow B T size v n xs := by
  obtain ⟨h1, h2 | ⟨g, cap, cur, e, h3, h4, h5⟩⟩ := h
  · exact ⟨h1, .inl h2⟩
  · exact ⟨h1, .inr ⟨g, cap, cur, e, h3, (b.block g (Array.getElem?_eq_some_iff.1 h4).1).trans h4, h5⟩⟩
/-- another row is written -/
theorem owns_exc {w w' : World} {B size d : Nat} {T : TypeId} {v : Value} {n : Nat} {xs : List Value} (h : w.ownsRow B T size v n xs) (b : Exc (some d) w w') (hd : v.ownBlock ≠ some d) : w'.ownsRow B T size v n xs := by
  obtain ⟨h1, h2 | ⟨g, cap, cur, e, h3, h4, h5⟩⟩ := h
  · exact ⟨h1, .inl h2⟩
  · refine ⟨h1, .inr ⟨g, cap, cur, e, h3, (b.block g (Array.getElem?_eq_some_iff.1 h4).1 fun e2 => hd ?_).trans h4, h5⟩⟩
    rw [e, e2]; rfl
theorem cell_one_new (w : World) (a : Value) (T : TypeId) : ∀ j u, [a][j]? = some u → (w.alloc (.cells #[a] T)).cell? ((⟨w.heap.size, 0, none⟩ : Addr).add j) = some u := by
  intro j u hu
  have : (⟨w.heap.size, 0, none⟩ : Addr).add j = ⟨w.heap.size, j, none⟩ := by unfold Addr.add; split <;> simp_all
  rw [this]
  match j, hu with
  | 0, hu => simp at hu; subst hu; simp [go_sem]
  | j + 1, hu => simp at hu
def iv (L : List Int) : List Value := L.map (Value.int .i64)
/-- own rows of whole numbers -/
abbrev Ow (w : World) (B : Nat) (v : Value) (L : List Int) : Prop := w.ownsRow B 3 1 v L.length (iv L)
/-- a row of whole numbers that is answered, from block B on -/
def Is (w : World) (B : Nat) (v : Value) (L : List Int) : Prop := ∃ sp cap, v = .slice sp L.length cap ∧ L.length ≤ cap ∧ cap ≤ maxLen ∧ Rd w sp L ∧ (sp = none → cap = 0) ∧ (0 < L.length → ∃ g, sp = some ⟨g, 0, none⟩ ∧ B ≤ g)
theorem Ow.is {w : World} {B : Nat} {v : Value} {L : List Int} (h : Ow w B v L) : Is w B v L := by
  obtain ⟨sp, cap, e, h1, h2, h3, h4⟩ := owns_form1 h
  refine ⟨sp, cap, e, h1, h2, fun i hi => ?_, h3, fun hl => ?_⟩
  · obtain ⟨g, e1, _, e2, e3⟩ := h4 i (.int .i64 (L.getD i 0)) (by unfold iv; rw [List.getElem?_map, List.getElem?_eq_getElem hi, List.getD_eq_getElem?_getD, List.getElem?_eq_getElem hi]; rfl)
    exact ⟨g, 0, e1, e2, e3⟩
  · obtain ⟨g, e1, e2, _⟩ := h4 0 (.int .i64 (L.getD 0 0)) (by unfold iv; rw [List.getElem?_map, List.getElem?_eq_getElem hl, List.getD_eq_getElem?_getD, List.getElem?_eq_getElem hl]; rfl)
    exact ⟨g, e1, e2⟩
theorem iv_snoc (L : List Int) (x : Int) : iv (L ++ [x]) = iv L ++ [.int .i64 x] := by simp [iv]
theorem info3 : (Tryd.prog.info? 3).map (fun i => (i.zero, i.size, i.bytes)) = some (some (.int .i64 0), 1, 8) := by kernel_rfl
end Go.Proofs.YtonnopcafmhaaaaDoor

/- Rows of one element. -/
import Derived.Test.YtfgkkccgecnchaaMf
import Derived.Laws.Concat
namespace Go.Proofs.Ytfgkkccgecnchaa
open Go.RowKit

abbrev agc (c : Nat → Nat → Value) (j : Nat) : Value := .agg #[c j 0, c j 1, c j 2, c j 3, c j 4, c j 5, c j 6, c j 7]
theorem row_one (w : World) (V : Val) (L K : Value) : RowP (fun b => b < w.heap.size + 1) (w.alloc (.cells (c8 V L K) 27)) (some ⟨w.heap.size, 0, none⟩) 1 1 8 (fun _ m => (c8 V L K)[m]?.getD undef) := by
  refine ⟨Nat.le_refl _, by unfold maxLen; omega, (fun h => by cases h), fun _ => ⟨_, _, rfl, Nat.lt_succ_self _, fun j hj m hm => ?_⟩⟩
  obtain rfl : j = 0 := by omega
  rw [cell_of_row _ w.heap.size _ _ 27 (0, 0) (heap_alloc_new w _)]
  have : 0 + 0 * 8 + m = m := by omega
  rw [this]
  have hm' : m < (c8 V L K).size := hm
  show _ = some ((c8 V L K)[m]?.getD undef)
  rw [Array.getElem?_eq_getElem hm']; rfl
theorem str_one (w : World) (s : ByteArray) : RowP (fun b => b < w.heap.size + 1) (w.alloc (.cells #[.string s] 9)) (some ⟨w.heap.size, 0, none⟩) 1 1 1 (fun j _ => .string ([s].getD j default)) := by
  refine ⟨Nat.le_refl _, by unfold maxLen; omega, (fun h => by cases h), fun _ => ⟨_, _, rfl, Nat.lt_succ_self _, fun j hj m hm => ?_⟩⟩
  obtain rfl : j = 0 := by omega
  obtain rfl : m = 0 := by omega
  rw [cell_of_row _ w.heap.size _ _ 9 (0, 0) (heap_alloc_new w _)]
  rfl
theorem one_el {P : Nat → Prop} {w : World} {lo : Nat} {o : Option Addr} {cap : Nat} {c : Nat → Nat → Value} {V : Val} (r : RowP P w o cap 1 8 c) (d : Deep lo w V (agc c 0)) :
    ∃ (b off : Nat) (oL oK : Option Addr) (cL cK : Nat), o = some ⟨b, off, none⟩ ∧ P b ∧ EV w b off V oL oK cL cK ∧ Deep lo w V (vv V.k V.i V.s (.slice oL V.l.length cL) (.slice oK V.ks.length cK) V.tk V.to V.x) := by
  obtain ⟨b, off, e, hb, y0, y1, y2, y3, y4, y5, y6, y7⟩ := r.el8 (j := 0) (by omega)
  have hd := d
  obtain ⟨oL, oK, cL, cK, c', ev, O, m1, m2⟩ := d
  have e0 : off + 0 * 8 = off := by omega
  rw [e0] at y0 y1 y2 y3 y4 y5 y6 y7
  have ev2 := ev
  simp only [Value.agg.injEq] at ev2
  have ev3 := congrArg Array.toList ev2
  simp only [List.cons.injEq, and_true] at ev3
  obtain ⟨f0, f1, f2, f3, f4, f5, f6, f7⟩ := ev3
  refine ⟨b, off, oL, oK, cL, cK, e, hb, ⟨by rw [y0, f0], by rw [y1, f1], by rw [y2, f2], by rw [y3, f3], by rw [y4, f4], by rw [y5, f5], by rw [y6, f6], by rw [y7, f7]⟩, ?_⟩
  rw [ev] at hd; exact hd
theorem dst_one (s : ByteArray) : Dst [s] [s].length := fun i k h1 h2 => by simp at h2; omega
theorem srt_one {s : ByteArray} {rs : List ByteArray} (h : Srt [s] rs) : rs = [s] := by
  have hl := h.len
  match rs, hl with
  | [r], _ =>
    obtain ⟨i, hi, he⟩ := h.fro 0 (by simp)
    obtain rfl : i = 0 := by simpa using hi
    have : r = s := he
    rw [this]
theorem xs_one {s : ByteArray} {V : Val} {xs : List Val} (hl : xs.length = [s].length) (h : ∀ i j, i < [s].length → j < [s].length → kk [s] j = kk [s] i → xs[j]? = [V][i]?) : xs = [V] := by
  match xs, hl with
  | [x], _ =>
    have := h 0 0 (by simp) (by simp) rfl
    simpa using this
/-- the cells of a list's box -/
structure LB (w : World) (b : Nat) (k : Int) (L K : Value) : Prop where
  lt : b < w.heap.size
  row : w.heap[b]? = some (.cells #[.int .i64 k, .int .i64 0, .string ⟨#[]⟩, L, K, .int .i64 0, .int .i64 0, .bool false] 27 (0, 0))
theorem LB.made (w : World) (k : Int) (L K : Value) : LB (w.alloc (.cells #[.int .i64 k, .int .i64 0, .string ⟨#[]⟩, L, K, .int .i64 0, .int .i64 0, .bool false] 27)) w.heap.size k L K := ⟨by simp, heap_alloc_new w _⟩
theorem LB.kept {w w' : World} {b : Nat} {k : Int} {L K : Value} (h : LB w b k L K) {m : Nat} (hb : Below m w w') (hm : b < m) : LB w' b k L K := ⟨Nat.lt_of_lt_of_le h.lt hb.size, (hb.block b hm).trans h.row⟩
theorem LB.cells {w : World} {b : Nat} {k : Int} {L K : Value} (h : LB w b k L K) : w.cell? ⟨b, 0, none⟩ = some (.int .i64 k) ∧ w.cell? ⟨b, 3, none⟩ = some L ∧ w.cell? ⟨b, 4, none⟩ = some K :=
  have h := cells8 h.row; ⟨h.1, h.2.2.2.1, h.2.2.2.2.1⟩
theorem EV.keptP {w w' : World} {b p m : Nat} {X : Val} {oL oK : Option Addr} {cL cK : Nat} (h : EV w b p X oL oK cL cK) (hb : Below m w w') (hm : b < m) : EV w' b p X oL oK cL cK :=
  ⟨(hb.cell (p := ⟨b, _, none⟩) hm).trans h.c0, (hb.cell (p := ⟨b, _, none⟩) hm).trans h.c1, (hb.cell (p := ⟨b, _, none⟩) hm).trans h.c2, (hb.cell (p := ⟨b, _, none⟩) hm).trans h.c3, (hb.cell (p := ⟨b, _, none⟩) hm).trans h.c4, (hb.cell (p := ⟨b, _, none⟩) hm).trans h.c5, (hb.cell (p := ⟨b, _, none⟩) hm).trans h.c6, (hb.cell (p := ⟨b, _, none⟩) hm).trans h.c7⟩
abbrev k1 : ByteArray := { data := #[107] }
/-- behind the three blocks that are made ahead of Make -/
structure T5 (w w' : World) (k : Int) (L K : Value) (V : Val) (L' K' : Value) : Prop where
  size : w'.heap.size = w.heap.size + 3
  bel : Below w.heap.size w w'
  lb : LB w' w.heap.size k L K
  ks : RowP (fun b => b < w'.heap.size) w' (some ⟨w.heap.size + 1, 0, none⟩) 1 1 1 (fun j _ => .string ([k1].getD j default))
  vs : RowP (fun b => b < w'.heap.size) w' (some ⟨w.heap.size + 1 + 1, 0, none⟩) 1 1 8 (fun _ m => (c8 V L' K')[m]?.getD undef)
theorem t5_made (w : World) (k : Int) (L K : Value) (V : Val) (L' K' : Value) : T5 w (((w.alloc (.cells #[.int .i64 k, .int .i64 0, .string ⟨#[]⟩, L, K, .int .i64 0, .int .i64 0, .bool false] 27)).alloc (.cells #[.string k1] 9)).alloc (.cells (c8 V L' K') 27)) k L K V L' K' := by
  have s1 : (w.alloc (.cells #[.int .i64 k, .int .i64 0, .string ⟨#[]⟩, L, K, .int .i64 0, .int .i64 0, .bool false] 27)).heap.size = w.heap.size + 1 := by simp
  have s2 : ((w.alloc (.cells #[.int .i64 k, .int .i64 0, .string ⟨#[]⟩, L, K, .int .i64 0, .int .i64 0, .bool false] 27)).alloc (.cells #[.string k1] 9)).heap.size = w.heap.size + 1 + 1 := by simp
  have s3 : (((w.alloc (.cells #[.int .i64 k, .int .i64 0, .string ⟨#[]⟩, L, K, .int .i64 0, .int .i64 0, .bool false] 27)).alloc (.cells #[.string k1] 9)).alloc (.cells (c8 V L' K') 27)).heap.size = w.heap.size + 3 := by simp
  have k2 := (Below.refl (w.heap.size + 1) (w.alloc (.cells #[.int .i64 k, .int .i64 0, .string ⟨#[]⟩, L, K, .int .i64 0, .int .i64 0, .bool false] 27))).alloc (by omega) (.cells #[.string k1] 9)
  have k3 := (Below.refl (w.heap.size + 2) ((w.alloc (.cells #[.int .i64 k, .int .i64 0, .string ⟨#[]⟩, L, K, .int .i64 0, .int .i64 0, .bool false] 27)).alloc (.cells #[.string k1] 9))).alloc (by omega) (.cells (c8 V L' K') 27)
  refine ⟨s3, (((Below.refl _ _).alloc (Nat.le_refl _) _).alloc (by omega) _).alloc (by omega) _, ((LB.made w k L K).kept k2 (Nat.lt_succ_self _)).kept k3 (by omega), ?_, ?_⟩
  · have r := str_one (w.alloc (.cells #[.int .i64 k, .int .i64 0, .string ⟨#[]⟩, L, K, .int .i64 0, .int .i64 0, .bool false] 27)) k1
    rw [s1] at r
    exact r.keptP fun b hb => ⟨by rw [s3]; omega, k3.block b (by omega)⟩
  · have r := row_one ((w.alloc (.cells #[.int .i64 k, .int .i64 0, .string ⟨#[]⟩, L, K, .int .i64 0, .int .i64 0, .bool false] 27)).alloc (.cells #[.string k1] 9)) V L' K'
    rw [s2] at r
    exact r.mono fun b hb => by rw [s3]; omega
end Go.Proofs.Ytfgkkccgecnchaa

/- Stores into rows of the call's own. -/
namespace Go.Proofs.Ytfgkkccgecnchaa
open Go.RowKit

/-- a value's rows, in blocks from lo to hi -/
structure Ent where
  lo : Nat
  hi : Nat
  X : Val
  oL : Option Addr
  oK : Option Addr
  cL : Nat
  cK : Nat
def WL (t : Ent) (w : World) : Prop := t.X.l.length = 0 ∨ ∃ g cs, t.oL = some ⟨g, 0, none⟩ ∧ t.lo ≤ g ∧ g < t.hi ∧ w.heap[g]? = some (.cells cs 27 (0, 0)) ∧ t.X.l.length * 8 ≤ cs.size
def WK (t : Ent) (k : Nat) (w : World) : Prop := t.X.ks.length = 0 ∨ ∃ g cs, t.oK = some ⟨g, 0, none⟩ ∧ t.lo ≤ g ∧ g < t.hi ∧ w.heap[g]? = some (.cells cs 9 (0, 0)) ∧ t.X.ks.length ≤ cs.size ∧ ∀ j, k ≤ j → j < t.X.ks.length → cs[j]? = some (.string (kk t.X.ks j))
theorem WL.same {t : Ent} {w w' : World} (h : WL t w) (b : ∀ k, t.lo ≤ k → k < t.hi → w'.heap[k]? = w.heap[k]?) : WL t w' := by
  rcases h with h | ⟨g, cs, e, h1, h2, h3, h4⟩
  · exact .inl h
  · exact .inr ⟨g, cs, e, h1, h2, (b g h1 h2).trans h3, h4⟩
theorem WK.same {t : Ent} {k : Nat} {w w' : World} (h : WK t k w) (b : ∀ k, t.lo ≤ k → k < t.hi → w'.heap[k]? = w.heap[k]?) : WK t k w' := by
  rcases h with h | ⟨g, cs, e, h1, h2, h3, h4⟩
  · exact .inl h
  · exact .inr ⟨g, cs, e, h1, h2, (b g h1 h2).trans h3, h4⟩
structure Caps (t : Ent) : Prop where
  l1 : t.X.l.length ≤ t.cL
  l2 : t.cL ≤ maxLen
  k1 : t.X.ks.length ≤ t.cK
  k2 : t.cK ≤ maxLen
theorem wr_of_deep {lo : Nat} {w : World} {X : Val} {oL oK : Option Addr} {cL cK : Nat} (h : Deep lo w X (vv X.k X.i X.s (.slice oL X.l.length cL) (.slice oK X.ks.length cK) X.tk X.to X.x)) :
    WL ⟨lo, w.heap.size, X, oL, oK, cL, cK⟩ w ∧ WK ⟨lo, w.heap.size, X, oL, oK, cL, cK⟩ 0 w ∧ Caps ⟨lo, w.heap.size, X, oL, oK, cL, cK⟩ := by
  obtain ⟨oL', oK', cL', cK', c, ev, O, m1, m2⟩ := h
  simp only [Value.agg.injEq] at ev
  have ev3 := congrArg Array.toList ev
  simp only [List.cons.injEq, and_true, Value.slice.injEq, true_and] at ev3
  obtain ⟨⟨rfl, rfl⟩, rfl, rfl⟩ := ev3
  refine ⟨?_, ?_, ⟨O.L.1, O.L.2.1, O.K.1, O.K.2.1⟩⟩
  · rcases m1 with ⟨_, h0⟩ | ⟨g, C, e, hg, cs, h1, h2, _⟩
    · exact .inl h0
    · exact .inr ⟨g, cs, e, hg, (Array.getElem?_eq_some_iff.1 h1).1, h1, by show X.l.length * 8 ≤ cs.size; omega⟩
  · rcases m2 with ⟨_, h0⟩ | ⟨g, C, e, hg, cs, h1, h2, _⟩
    · exact .inl h0
    · refine .inr ⟨g, cs, e, hg, (Array.getElem?_eq_some_iff.1 h1).1, h1, by show X.ks.length ≤ cs.size; omega, fun j _ hj => ?_⟩
      obtain ⟨b, off, e2, _, hc⟩ := O.K.key hj
      rw [e] at e2
      injection e2 with e2
      injection e2 with e2 e3
      subst e2 e3
      rw [Nat.zero_add, cell_of_row w g j cs 9 (0, 0) h1] at hc
      exact hc
/-- what the loops keep -/
structure RL (en : Nat → Ent) (gN lo0 : Nat) (ws wr : World) (i : Nat) : Prop where
  bel : Below lo0 ws wr
  top : wr.heap[gN]? = ws.heap[gN]?
  rowL : ∀ i', i ≤ i' → i' < 5 → WL (en i') wr
  rowK : ∀ i', i ≤ i' → i' < 5 → WK (en i') 0 wr
structure Apart (en : Nat → Ent) (gN lo0 : Nat) : Prop where
  dis : ∀ i i', i < 5 → i' < 5 → i ≠ i' → (en i).hi ≤ (en i').lo ∨ (en i').hi ≤ (en i).lo
  low : ∀ i, i < 5 → lo0 ≤ (en i).lo
  top : ∀ i, i < 5 → (en i).hi ≤ gN
variable {en : Nat → Ent} {gN lo0 : Nat} {ws wr : World} {i : Nat}
theorem RL.next (h : RL en gN lo0 ws wr i) : RL en gN lo0 ws wr (i + 1) := ⟨h.bel, h.top, fun i' h1 h2 => h.rowL i' (by omega) h2, fun i' h1 h2 => h.rowK i' (by omega) h2⟩
theorem RL.storeL (h : RL en gN lo0 ws wr i) (A : Apart en gN lo0) (hi : i < 5) {g : Nat} {cs : Array Value} (hg1 : (en i).lo ≤ g) (hg2 : g < (en i).hi) (h1 : wr.heap[g]? = some (.cells cs 27 (0, 0))) (ho : (en i).oL = some ⟨g, 0, none⟩) (cs' : Array Value) (hs : cs'.size = cs.size) :
    RL en gN lo0 ws (wr.setRow g cs') i := by
  have hl := A.low i hi
  have ht := A.top i hi
  have hoth : ∀ k, k ≠ g → (wr.setRow g cs').heap[k]? = wr.heap[k]? := fun k hk => setRow_other _ _ _ _ hk
  have hap : ∀ i', i' < 5 → i' ≠ i → ∀ k, (en i').lo ≤ k → k < (en i').hi → (wr.setRow g cs').heap[k]? = wr.heap[k]? := fun i' h5 hne k h6 h7 => hoth k (by rcases A.dis i' i h5 hi hne with d | d <;> omega)
  refine ⟨below_setRow h.bel (by omega) _, (hoth gN (by omega)).trans h.top, fun i' h2 h3 => ?_, fun i' h2 h3 => ?_⟩
  · by_cases e : i' = i
    · subst e
      rcases h.rowL i' (Nat.le_refl _) h3 with h0 | ⟨g', cs0, e0, _, _, h6, h7⟩
      · exact .inl h0
      · rw [ho] at e0
        injection e0 with e0
        injection e0 with e0
        subst e0
        rw [h1] at h6
        injection h6 with h6
        injection h6 with h6
        subst h6
        exact .inr ⟨g, cs', ho, hg1, hg2, setRow_heap wr g cs cs' 27 _ h1, by omega⟩
    · exact (h.rowL i' h2 h3).same (hap i' h3 e)
  · by_cases e : i' = i
    · subst e
      rcases h.rowK i' (Nat.le_refl _) h3 with h0 | ⟨g', cs0, e0, h4, h5, h6, h7⟩
      · exact .inl h0
      · have hne : g' ≠ g := fun e => by
          subst e
          rw [h1] at h6
          injection h6 with h6
          injection h6 with _ h6
          cases h6
        exact .inr ⟨g', cs0, e0, h4, h5, (hoth g' hne).trans h6, h7⟩
    · exact (h.rowK i' h2 h3).same (hap i' h3 e)
theorem RL.storeK (h : RL en gN lo0 ws wr (i + 1)) (A : Apart en gN lo0) (hi : i < 5) {g k : Nat} {cs : Array Value} (hg1 : (en i).lo ≤ g) (hg2 : g < (en i).hi) (h1 : wr.heap[g]? = some (.cells cs 9 (0, 0))) (hk : (en i).X.ks.length ≤ cs.size) (hp : ∀ j, k ≤ j → j < (en i).X.ks.length → cs[j]? = some (.string (kk (en i).X.ks j))) (ho : (en i).oK = some ⟨g, 0, none⟩) (v : Value) :
    RL en gN lo0 ws (wr.setCell ⟨g, k, none⟩ v) (i + 1) ∧ WK (en i) (k + 1) (wr.setCell ⟨g, k, none⟩ v) := by
  have hl := A.low i hi
  have ht := A.top i hi
  have hoth : ∀ b, b ≠ g → (wr.setCell ⟨g, k, none⟩ v).heap[b]? = wr.heap[b]? := fun b hb => heap_setCell_other wr _ b v hb
  have hap : ∀ i', i' < 5 → i' ≠ i → ∀ k', (en i').lo ≤ k' → k' < (en i').hi → (wr.setCell ⟨g, k, none⟩ v).heap[k']? = wr.heap[k']? := fun i' h5 hne k' h6 h7 => hoth k' (by rcases A.dis i' i h5 hi hne with d | d <;> omega)
  refine ⟨⟨h.bel.setCell (p := ⟨g, k, none⟩) (by show lo0 ≤ g; omega) v, (hoth gN (by omega)).trans h.top, fun i' h2 h3 => (h.rowL i' h2 h3).same (hap i' h3 (by omega)), fun i' h2 h3 => (h.rowK i' h2 h3).same (hap i' h3 (by omega))⟩, ?_⟩
  refine .inr ⟨g, _, ho, hg1, hg2, heap_setCell_same wr g k cs 9 v h1, by simpa using hk, fun j h5 h6 => ?_⟩
  rw [Array.getElem?_setIfInBounds, if_neg (by omega)]
  exact hp j (by omega) h6
theorem app5 {W : World} {g : Nat} {cs : Array Value} (h1 : W.heap[g]? = some (.cells cs 27 (0, 0))) (h2 : cs.size = 32) (part : Array Value) (hp : part.size = 8) (h8 : part.all (·.oneCell') = true) :
    ∃ (gN cap : Nat) (W' : World) (cur : Array Value), (Builtin.append_ #[22, 22] 22 #[.slice (some ⟨g, 0, none⟩) 4 4, .slice (some ⟨W.heap.size, 0, none⟩) 1 1]).run Try.prog (W.alloc (.cells part 27)) = .ok (.slice (some ⟨gN, 0, none⟩) 5 cap) W' ∧ g ≤ gN ∧ 5 ≤ cap ∧ cap ≤ maxLen ∧ gN < W'.heap.size ∧
      W'.heap[gN]? = some (.cells cur 27 (0, 0)) ∧ cur.toList.take 40 = cs.toList ++ part.toList ∧ (W.alloc (.cells part 27)).grownBy W' (some g) := by
  have hgl : g < W.heap.size := (Array.getElem?_eq_some_iff.1 h1).1
  have hown : (W.alloc (.cells part 27)).ownsRow g 27 8 (.slice (some ⟨g, 0, none⟩) 4 4) 4 cs.toList :=
    ⟨by simp [h2], .inr ⟨g, 4, cs, rfl, Nat.le_refl _, (Below.heap_alloc _ _ _ hgl).trans h1, Nat.le_refl _, by unfold maxLen; omega, by omega, by rw [List.take_of_length_le (by simp [h2])]⟩⟩
  obtain ⟨i, hi, hzz⟩ := Option.map_eq_some_iff.1 info27
  simp only [Prod.mk.injEq] at hzz
  obtain ⟨hz, hs, hb⟩ := hzz
  obtain ⟨v', W', hrun, hO, hG, hnil⟩ := run_append_own (P := Try.prog) (W.alloc (.cells part 27)) g 22 22 27 i _ 8 104 Try.underlying22 hi hz hs hb rfl (by omega) _ 4 _ hown ⟨W.heap.size, 0, none⟩ 1 1 part.toList (by simp [hp]) (fun j u hu => by
      have : ((⟨W.heap.size, 0, none⟩ : Addr).add j) = ⟨W.heap.size, j, none⟩ := by simp [Addr.add]; try (intro e; exact e.symm)
      rw [this, cell_of_row _ W.heap.size j part 27 (0, 0) (heap_alloc_new W _)]
      simpa using hu) (fun u hu => by simpa using (Array.all_eq_true_iff_forall_mem.1 h8) u (by simpa using hu)) (by unfold maxLen; omega) (by omega) (by simp; omega)
  rcases hO.2 with ⟨_, h0⟩ | ⟨gN, cap, cur, rfl, hbs, hgN, hc1, hc2, hc3, hc4⟩
  · omega
  · exact ⟨gN, cap, W', cur, hrun, hbs, hc1, hc2, (Array.getElem?_eq_some_iff.1 hgN).1, hgN, hc4, hG⟩
theorem EV.same {w w' : World} {b p : Nat} {X : Val} {oL oK : Option Addr} {cL cK : Nat} (h : EV w b p X oL oK cL cK) (e : w'.heap[b]? = w.heap[b]?) : EV w' b p X oL oK cL cK :=
  ⟨(World.cell?_of_block (a := ⟨b, _, none⟩) e).trans h.c0, (World.cell?_of_block (a := ⟨b, _, none⟩) e).trans h.c1, (World.cell?_of_block (a := ⟨b, _, none⟩) e).trans h.c2, (World.cell?_of_block (a := ⟨b, _, none⟩) e).trans h.c3,
    (World.cell?_of_block (a := ⟨b, _, none⟩) e).trans h.c4, (World.cell?_of_block (a := ⟨b, _, none⟩) e).trans h.c5, (World.cell?_of_block (a := ⟨b, _, none⟩) e).trans h.c6, (World.cell?_of_block (a := ⟨b, _, none⟩) e).trans h.c7⟩
theorem RL.drew (h : RL en gN lo0 ws wr i) : RL en gN lo0 ws wr.drew i := ⟨h.bel.drew, h.top, h.rowL, h.rowK⟩
theorem size_over (cs part : Array Value) (p : Nat) (h : p + part.size ≤ cs.size) : ((cs.toList.take p ++ part.toList ++ cs.toList.drop (p + part.size)).toArray).size = cs.size := by
  simp; omega
theorem run_cat (a : ByteArray) (h : a.size ≤ 4000) (w : World) : (Op.stringOp .add a { data := #[120] }).run Try.prog w = .ok (.string (a ++ { data := #[120] })) w := by
  have e : (ByteArray.mk #[120]).size = 1 := rfl
  exact run_string_add_sum w _ _ (by rw [e]; omega)
theorem wpList_app5 {ops : Array Oper} {rest : List Oper} {o : Oper} {a : Act} {Q : Exit → Act → World → Prop} (hgd : o.guard = none) (s x : Operand) (ho : o.op = .call { callee := .builtin .append, args := #[s, x], argTypes := #[22, 22] }) (hty : o.type = 22) (v xv r : Value) (w w' : World) (hs : a.eval s = v) (hx : a.eval x = xv)
    (hr : (Builtin.append_ #[22, 22] 22 #[v, xv]).run Try.prog w = .ok r w') (h : wpList Try.prog ops Q rest (a.put o.dst r) w') : wpList Try.prog ops Q (o :: rest) a w :=
  wpList_plain hgd fun _ hK => by
    unfold Oper.wp execOp
    simp only [ho, hty, resolve, invoke, builtin, Sem.run_bind, Sem.run_pure, Result.andThen_ok, List.map_toArray, List.map_cons, List.map_nil, hs, hx, hr]
    exact hK _ _ h
end Go.Proofs.Ytfgkkccgecnchaa

/- The five values' cells. -/
namespace Go.Proofs.Ytfgkkccgecnchaa
open Go.RowKit

def five (a b c d e : Ent) : Nat → Ent
  | 0 => a
  | 1 => b
  | 2 => c
  | 3 => d
  | _ => e
theorem lt5 {P : Nat → Prop} (h0 : P 0) (h1 : P 1) (h2 : P 2) (h3 : P 3) (h4 : P 4) : ∀ i, i < 5 → P i := by
  intro i hi
  have : i = 0 ∨ i = 1 ∨ i = 2 ∨ i = 3 ∨ i = 4 := by omega
  rcases this with rfl | rfl | rfl | rfl | rfl <;> assumption
theorem ev_at {w : World} {gN p : Nat} {cur : Array Value} (h : w.heap[gN]? = some (.cells cur 27 (0, 0))) (X : Val) (oL oK : Option Addr) (cL cK : Nat) (hc : ∀ m, m < 8 → cur[p + m]? = (#[Value.int .i64 X.k, .int .i64 X.i, .string X.s, .slice oL X.l.length cL, .slice oK X.ks.length cK, .int .i64 X.tk, .int .i64 X.to, .bool X.x] : Array Value)[m]?) : EV w gN p X oL oK cL cK := by
  refine ⟨?_, ?_, ?_, ?_, ?_, ?_, ?_, ?_⟩ <;> rw [cell_of_row w gN _ cur 27 (0, 0) h]
  · exact hc 0 (by omega)
  · exact hc 1 (by omega)
  · exact hc 2 (by omega)
  · exact hc 3 (by omega)
  · exact hc 4 (by omega)
  · exact hc 5 (by omega)
  · exact hc 6 (by omega)
  · exact hc 7 (by omega)
theorem five_cells {X0 : Val} {oL0 oK0 : Option Addr} {cL0 cK0 : Nat} {X1 : Val} {oL1 oK1 : Option Addr} {cL1 cK1 : Nat} {X2 : Val} {oL2 oK2 : Option Addr} {cL2 cK2 : Nat} {X3 : Val} {oL3 oK3 : Option Addr} {cL3 cK3 : Nat} {X4 : Val} {oL4 oK4 : Option Addr} {cL4 cK4 : Nat} {w : World} {gN : Nat} {cur : Array Value} {l0 l1 l2 l3 l4 h0 h1 h2 h3 h4 : Nat} (h : w.heap[gN]? = some (.cells cur 27 (0, 0)))
    (hc : cur.toList.take 40 = (#[.int .i64 X0.k, .int .i64 X0.i, .string X0.s, .slice oL0 X0.l.length cL0, .slice oK0 X0.ks.length cK0, .int .i64 X0.tk, .int .i64 X0.to, .bool X0.x, .int .i64 X1.k, .int .i64 X1.i, .string X1.s, .slice oL1 X1.l.length cL1, .slice oK1 X1.ks.length cK1, .int .i64 X1.tk, .int .i64 X1.to, .bool X1.x, .int .i64 X2.k, .int .i64 X2.i, .string X2.s, .slice oL2 X2.l.length cL2, .slice oK2 X2.ks.length cK2, .int .i64 X2.tk, .int .i64 X2.to, .bool X2.x, .int .i64 X3.k, .int .i64 X3.i, .string X3.s, .slice oL3 X3.l.length cL3, .slice oK3 X3.ks.length cK3, .int .i64 X3.tk, .int .i64 X3.to, .bool X3.x] : Array Value).toList ++ (#[.int .i64 X4.k, .int .i64 X4.i, .string X4.s, .slice oL4 X4.l.length cL4, .slice oK4 X4.ks.length cK4, .int .i64 X4.tk, .int .i64 X4.to, .bool X4.x] : Array Value).toList) :
    ∀ i, i < 5 → EV w gN (0 + i * 8) (five ⟨l0, h0, X0, oL0, oK0, cL0, cK0⟩ ⟨l1, h1, X1, oL1, oK1, cL1, cK1⟩ ⟨l2, h2, X2, oL2, oK2, cL2, cK2⟩ ⟨l3, h3, X3, oL3, oK3, cL3, cK3⟩ ⟨l4, h4, X4, oL4, oK4, cL4, cK4⟩ i).X (five ⟨l0, h0, X0, oL0, oK0, cL0, cK0⟩ ⟨l1, h1, X1, oL1, oK1, cL1, cK1⟩ ⟨l2, h2, X2, oL2, oK2, cL2, cK2⟩ ⟨l3, h3, X3, oL3, oK3, cL3, cK3⟩ ⟨l4, h4, X4, oL4, oK4, cL4, cK4⟩ i).oL
      (five ⟨l0, h0, X0, oL0, oK0, cL0, cK0⟩ ⟨l1, h1, X1, oL1, oK1, cL1, cK1⟩ ⟨l2, h2, X2, oL2, oK2, cL2, cK2⟩ ⟨l3, h3, X3, oL3, oK3, cL3, cK3⟩ ⟨l4, h4, X4, oL4, oK4, cL4, cK4⟩ i).oK (five ⟨l0, h0, X0, oL0, oK0, cL0, cK0⟩ ⟨l1, h1, X1, oL1, oK1, cL1, cK1⟩ ⟨l2, h2, X2, oL2, oK2, cL2, cK2⟩ ⟨l3, h3, X3, oL3, oK3, cL3, cK3⟩ ⟨l4, h4, X4, oL4, oK4, cL4, cK4⟩ i).cL
      (five ⟨l0, h0, X0, oL0, oK0, cL0, cK0⟩ ⟨l1, h1, X1, oL1, oK1, cL1, cK1⟩ ⟨l2, h2, X2, oL2, oK2, cL2, cK2⟩ ⟨l3, h3, X3, oL3, oK3, cL3, cK3⟩ ⟨l4, h4, X4, oL4, oK4, cL4, cK4⟩ i).cK := by
  have hk : ∀ k, k < 40 → cur[k]? = ((#[.int .i64 X0.k, .int .i64 X0.i, .string X0.s, .slice oL0 X0.l.length cL0, .slice oK0 X0.ks.length cK0, .int .i64 X0.tk, .int .i64 X0.to, .bool X0.x, .int .i64 X1.k, .int .i64 X1.i, .string X1.s, .slice oL1 X1.l.length cL1, .slice oK1 X1.ks.length cK1, .int .i64 X1.tk, .int .i64 X1.to, .bool X1.x, .int .i64 X2.k, .int .i64 X2.i, .string X2.s, .slice oL2 X2.l.length cL2, .slice oK2 X2.ks.length cK2, .int .i64 X2.tk, .int .i64 X2.to, .bool X2.x, .int .i64 X3.k, .int .i64 X3.i, .string X3.s, .slice oL3 X3.l.length cL3, .slice oK3 X3.ks.length cK3, .int .i64 X3.tk, .int .i64 X3.to, .bool X3.x] : Array Value).toList ++ (#[.int .i64 X4.k, .int .i64 X4.i, .string X4.s, .slice oL4 X4.l.length cL4, .slice oK4 X4.ks.length cK4, .int .i64 X4.tk, .int .i64 X4.to, .bool X4.x] : Array Value).toList)[k]? := fun k hk => by
    rw [← hc, List.getElem?_take_of_lt hk, Array.getElem?_toList]
  have m8 : ∀ {P : Nat → Prop}, P 0 → P 1 → P 2 → P 3 → P 4 → P 5 → P 6 → P 7 → ∀ m, m < 8 → P m := by
    intro P p0 p1 p2 p3 p4 p5 p6 p7 m hm
    have : m = 0 ∨ m = 1 ∨ m = 2 ∨ m = 3 ∨ m = 4 ∨ m = 5 ∨ m = 6 ∨ m = 7 := by omega
    rcases this with rfl | rfl | rfl | rfl | rfl | rfl | rfl | rfl <;> assumption
  refine lt5 ?_ ?_ ?_ ?_ ?_
  · exact ev_at h X0 oL0 oK0 cL0 cK0 (m8 ((hk 0 (by omega)).trans rfl) ((hk 1 (by omega)).trans rfl) ((hk 2 (by omega)).trans rfl) ((hk 3 (by omega)).trans rfl) ((hk 4 (by omega)).trans rfl) ((hk 5 (by omega)).trans rfl) ((hk 6 (by omega)).trans rfl) ((hk 7 (by omega)).trans rfl))
  · exact ev_at h X1 oL1 oK1 cL1 cK1 (m8 ((hk 8 (by omega)).trans rfl) ((hk 9 (by omega)).trans rfl) ((hk 10 (by omega)).trans rfl) ((hk 11 (by omega)).trans rfl) ((hk 12 (by omega)).trans rfl) ((hk 13 (by omega)).trans rfl) ((hk 14 (by omega)).trans rfl) ((hk 15 (by omega)).trans rfl))
  · exact ev_at h X2 oL2 oK2 cL2 cK2 (m8 ((hk 16 (by omega)).trans rfl) ((hk 17 (by omega)).trans rfl) ((hk 18 (by omega)).trans rfl) ((hk 19 (by omega)).trans rfl) ((hk 20 (by omega)).trans rfl) ((hk 21 (by omega)).trans rfl) ((hk 22 (by omega)).trans rfl) ((hk 23 (by omega)).trans rfl))
  · exact ev_at h X3 oL3 oK3 cL3 cK3 (m8 ((hk 24 (by omega)).trans rfl) ((hk 25 (by omega)).trans rfl) ((hk 26 (by omega)).trans rfl) ((hk 27 (by omega)).trans rfl) ((hk 28 (by omega)).trans rfl) ((hk 29 (by omega)).trans rfl) ((hk 30 (by omega)).trans rfl) ((hk 31 (by omega)).trans rfl))
  · exact ev_at h X4 oL4 oK4 cL4 cK4 (m8 ((hk 32 (by omega)).trans rfl) ((hk 33 (by omega)).trans rfl) ((hk 34 (by omega)).trans rfl) ((hk 35 (by omega)).trans rfl) ((hk 36 (by omega)).trans rfl) ((hk 37 (by omega)).trans rfl) ((hk 38 (by omega)).trans rfl) ((hk 39 (by omega)).trans rfl))
end Go.Proofs.Ytfgkkccgecnchaa

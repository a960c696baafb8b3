/- How a value lies in memory. -/
import Derived.Test.YtfmgbhaldakpfaaDoorA
import Derived.Test.YtfmgbhaldakpfaaDoorProg
import Derived.WalkKit
import Derived.Below
import Derived.WalkSmall
import Derived.LoopTactic
import Derived.RegionTactic
import Derived.ChangeAlike
import Derived.BigGuardPart
import Derived.Deep.QuietTactic
import Derived.BigQuiet
import Derived.Outline
import Derived.Lib.Hide
import Derived.Handy
import Derived.WalkLawsBesides
import Derived.WalkSpells
import Derived.Deep.DeepMust
import Derived.Deep.DeepFit
namespace Go.Proofs.YtfmgbhaldakpfaaDoor
open Go.RowKit

/-- a value's form -/
abbrev vv (k i : Int) (s : ByteArray) (L K : Value) (tk to : Int) (x : Bool) : Value := .agg #[.int .i64 k, .int .i64 i, .string s, L, K, .int .i64 tk, .int .i64 to, .bool x]
/-- a row of cells, of size z each, at o; P: the blocks that it may go through -/
def RowP (P : Nat → Prop) (w : World) (o : Option Addr) (cap len z : Nat) (c : Nat → Nat → Value) : Prop :=
  len ≤ cap ∧ cap ≤ maxLen ∧ (o = none → cap = 0) ∧ (0 < len → ∃ b off, o = some ⟨b, off, none⟩ ∧ P b ∧ ∀ j, j < len → ∀ m, m < z → w.cell? ⟨b, off + j * z + m, none⟩ = some (c j m))
inductive LiesP (P : Nat → Prop) (w : World) : Val → Value → Prop
  | mk (V : Val) (oL oK : Option Addr) (cL cK : Nat) (c : Nat → Nat → Value)
      (wk : (Lit.int .i64 V.k).wf = true) (wi : (Lit.int .i64 V.i).wf = true) (wtk : (Lit.int .i64 V.tk).wf = true) (wto : (Lit.int .i64 V.to).wf = true)
      (ws : V.s.size ≤ maxLen) (wks : ∀ s, s ∈ V.ks → s.size ≤ maxLen)
      (hL : RowP P w oL cL V.l.length 8 c) (hK : RowP P w oK cK V.ks.length 1 fun j _ => .string (V.ks.getD j default))
      (he : ∀ j x, V.l[j]? = some x → LiesP P w x (.agg #[c j 0, c j 1, c j 2, c j 3, c j 4, c j 5, c j 6, c j 7])) :
      LiesP P w V (vv V.k V.i V.s (.slice oL V.l.length cL) (.slice oK V.ks.length cK) V.tk V.to V.x)
/-- all blocks below n -/
abbrev Row (n : Nat) (w : World) (o : Option Addr) (cap len z : Nat) (c : Nat → Nat → Value) : Prop := RowP (fun b => b < n) w o cap len z c
abbrev Lies (n : Nat) (w : World) (V : Val) (v : Value) : Prop := LiesP (fun b => b < n) w V v
theorem RowP.keptP {P P' : Nat → Prop} {w w' : World} {o : Option Addr} {cap len z : Nat} {c : Nat → Nat → Value} (h : RowP P w o cap len z c) (b : ∀ k, P k → P' k ∧ w'.heap[k]? = w.heap[k]?) : RowP P' w' o cap len z c := by
  obtain ⟨h1, h2, h3, h4⟩ := h
  refine ⟨h1, h2, h3, fun hl => ?_⟩
  obtain ⟨b', off, rfl, hb, hc⟩ := h4 hl
  exact ⟨b', off, rfl, (b _ hb).1, fun j hj m hm => (World.cell?_of_block (w := w) (b _ hb).2).trans (hc j hj m hm)⟩
theorem LiesP.keptP {P P' : Nat → Prop} {w w' : World} {V : Val} {v : Value} (h : LiesP P w V v) (b : ∀ k, P k → P' k ∧ w'.heap[k]? = w.heap[k]?) : LiesP P' w' V v := by
  induction h with
  | mk V oL oK cL cK c wk wi wtk wto ws wks hL hK he ih => exact .mk V oL oK cL cK c wk wi wtk wto ws wks (hL.keptP b) (hK.keptP b) ih
theorem RowP.below {n : Nat} {w w' : World} {o : Option Addr} {cap len z : Nat} {c : Nat → Nat → Value} (h : Row n w o cap len z c) (b : Below n w w') : Row n w' o cap len z c := h.keptP fun k hk => ⟨hk, b.block k hk⟩
theorem LiesP.kept {n : Nat} {w w' : World} {V : Val} {v : Value} (h : Lies n w V v) (b : Below n w w') : Lies n w' V v := h.keptP fun k hk => ⟨hk, b.block k hk⟩
theorem RowP.mono {P P' : Nat → Prop} {w : World} {o : Option Addr} {cap len z : Nat} {c : Nat → Nat → Value} (h : RowP P w o cap len z c) (b : ∀ k, P k → P' k) : RowP P' w o cap len z c := h.keptP fun k hk => ⟨b k hk, rfl⟩
theorem LiesP.mono {P P' : Nat → Prop} {w : World} {V : Val} {v : Value} (h : LiesP P w V v) (b : ∀ k, P k → P' k) : LiesP P' w V v := h.keptP fun k hk => ⟨b k hk, rfl⟩

theorem bcell {n : Nat} {W w1 : World} (hb : Below n W w1) : (∀ b o, b < n → w1.cell? ⟨b, o, none⟩ = W.cell? ⟨b, o, none⟩) ∧ (∀ b o, b < n → w1.frozen? ⟨b, o, none⟩ = W.frozen? ⟨b, o, none⟩) :=
  ⟨fun b o h => hb.cell (p := ⟨b, o, none⟩) h, fun b o h => hb.frozen (p := ⟨b, o, none⟩) h⟩
theorem ret_int {k : IntKind} {a b : Int} (h : a = b) : Ending.returned (.int k a) = .returned (.int k b) := by rw [h]
/-- a value's parts, laid open -/
structure OpnP (P : Nat → Prop) (w : World) (V : Val) (oL oK : Option Addr) (cL cK : Nat) (c : Nat → Nat → Value) : Prop where
  wk : (Lit.int .i64 V.k).wf = true
  wi : (Lit.int .i64 V.i).wf = true
  wtk : (Lit.int .i64 V.tk).wf = true
  wto : (Lit.int .i64 V.to).wf = true
  ws : V.s.size ≤ maxLen
  wks : ∀ s, s ∈ V.ks → s.size ≤ maxLen
  L : RowP P w oL cL V.l.length 8 c
  K : RowP P w oK cK V.ks.length 1 fun j _ => .string (V.ks.getD j default)
  el : ∀ j x, V.l[j]? = some x → LiesP P w x (.agg #[c j 0, c j 1, c j 2, c j 3, c j 4, c j 5, c j 6, c j 7])
/-- all blocks below n -/
abbrev Opn (n : Nat) (w : World) (V : Val) (oL oK : Option Addr) (cL cK : Nat) (c : Nat → Nat → Value) : Prop := OpnP (fun b => b < n) w V oL oK cL cK c
theorem OpnP.lies {P : Nat → Prop} {w : World} {V : Val} {oL oK : Option Addr} {cL cK : Nat} {c : Nat → Nat → Value} (h : OpnP P w V oL oK cL cK c) : LiesP P w V (vv V.k V.i V.s (.slice oL V.l.length cL) (.slice oK V.ks.length cK) V.tk V.to V.x) :=
  .mk V oL oK cL cK c h.wk h.wi h.wtk h.wto h.ws h.wks h.L h.K h.el
theorem OpnP.kept {n : Nat} {w w' : World} {V : Val} {oL oK : Option Addr} {cL cK : Nat} {c : Nat → Nat → Value} (h : Opn n w V oL oK cL cK c) (b : Below n w w') : Opn n w' V oL oK cL cK c :=
  ⟨h.wk, h.wi, h.wtk, h.wto, h.ws, h.wks, h.L.below b, h.K.below b, fun j x hx => (h.el j x hx).kept b⟩
theorem LiesP.inv {P : Nat → Prop} {w : World} {V : Val} {v : Value} (h : LiesP P w V v) : ∃ (oL oK : Option Addr) (cL cK : Nat) (c : Nat → Nat → Value),
    v = vv V.k V.i V.s (.slice oL V.l.length cL) (.slice oK V.ks.length cK) V.tk V.to V.x ∧ OpnP P w V oL oK cL cK c := by
  cases h with
  | mk _ oL oK cL cK c wk wi wtk wto ws wks hL hK he => exact ⟨oL, oK, cL, cK, c, rfl, wk, wi, wtk, wto, ws, wks, hL, hK, he⟩
/-- what the box of a value does to the world -/
abbrev bx (V : Val) (oL oK : Option Addr) (cL cK : Nat) : Obj := .cells #[.int .i64 V.k, .int .i64 V.i, .string V.s, .slice oL V.l.length cL, .slice oK V.ks.length cK, .int .i64 V.tk, .int .i64 V.to, .bool V.x] 42
/-- block b holds V's cells -/
structure Hd (w : World) (b : Nat) (V : Val) (L K : Value) : Prop where
  lt : b < w.heap.size
  c0 : w.cell? ⟨b, 0, none⟩ = some (.int .i64 V.k)
  c1 : w.cell? ⟨b, 1, none⟩ = some (.int .i64 V.i)
  c2 : w.cell? ⟨b, 2, none⟩ = some (.string V.s)
  c3 : w.cell? ⟨b, 3, none⟩ = some L
  c4 : w.cell? ⟨b, 4, none⟩ = some K
  c5 : w.cell? ⟨b, 5, none⟩ = some (.int .i64 V.tk)
  c6 : w.cell? ⟨b, 6, none⟩ = some (.int .i64 V.to)
  c7 : w.cell? ⟨b, 7, none⟩ = some (.bool V.x)
theorem Hd.kept {w w' : World} {b m : Nat} {V : Val} {L K : Value} (h : Hd w b V L K) (hb : Below m w w') (hm : b < m) : Hd w' b V L K :=
  ⟨Nat.lt_of_lt_of_le h.lt hb.size, (hb.cell (p := ⟨b, _, none⟩) hm).trans h.c0, (hb.cell (p := ⟨b, _, none⟩) hm).trans h.c1, (hb.cell (p := ⟨b, _, none⟩) hm).trans h.c2, (hb.cell (p := ⟨b, _, none⟩) hm).trans h.c3,
    (hb.cell (p := ⟨b, _, none⟩) hm).trans h.c4, (hb.cell (p := ⟨b, _, none⟩) hm).trans h.c5, (hb.cell (p := ⟨b, _, none⟩) hm).trans h.c6, (hb.cell (p := ⟨b, _, none⟩) hm).trans h.c7⟩
theorem Hd.made (w : World) (V : Val) (L K : Value) : Hd (w.alloc (.cells #[.int .i64 V.k, .int .i64 V.i, .string V.s, L, K, .int .i64 V.tk, .int .i64 V.to, .bool V.x] 42)) w.heap.size V L K := by
  refine ⟨?_, ?_, ?_, ?_, ?_, ?_, ?_, ?_, ?_⟩ <;> simp [go_sem]
/-- eight cells from p on -/
structure E8 (w : World) (b p : Nat) (c : Nat → Value) : Prop where
  c0 : w.cell? ⟨b, p, none⟩ = some (c 0)
  c1 : w.cell? ⟨b, p + 1, none⟩ = some (c 1)
  c2 : w.cell? ⟨b, p + 2, none⟩ = some (c 2)
  c3 : w.cell? ⟨b, p + 3, none⟩ = some (c 3)
  c4 : w.cell? ⟨b, p + 4, none⟩ = some (c 4)
  c5 : w.cell? ⟨b, p + 5, none⟩ = some (c 5)
  c6 : w.cell? ⟨b, p + 6, none⟩ = some (c 6)
  c7 : w.cell? ⟨b, p + 7, none⟩ = some (c 7)
/-- the cells of element j -/
theorem RowP.el8 {P : Nat → Prop} {w : World} {o : Option Addr} {cap len : Nat} {c : Nat → Nat → Value} (h : RowP P w o cap len 8 c) {j : Nat} (hj : j < len) : ∃ b off, o = some ⟨b, off, none⟩ ∧ P b ∧ E8 w b (off + j * 8) (c j) := by
  obtain ⟨_, _, _, h4⟩ := h
  obtain ⟨b, off, e, hb, hc⟩ := h4 (by omega)
  exact ⟨b, off, e, hb, hc j hj 0 (by omega), hc j hj 1 (by omega), hc j hj 2 (by omega), hc j hj 3 (by omega), hc j hj 4 (by omega), hc j hj 5 (by omega), hc j hj 6 (by omega), hc j hj 7 (by omega)⟩
theorem RowP.el1 {P : Nat → Prop} {w : World} {o : Option Addr} {cap len : Nat} {c : Nat → Nat → Value} (h : RowP P w o cap len 1 c) {j : Nat} (hj : j < len) : ∃ b off, o = some ⟨b, off, none⟩ ∧ P b ∧ w.cell? ⟨b, off + j, none⟩ = some (c j 0) := by
  obtain ⟨_, _, _, h4⟩ := h
  obtain ⟨b, off, e, hb, hc⟩ := h4 (by omega)
  have := hc j hj 0 (by omega)
  exact ⟨b, off, e, hb, by simpa using this⟩
/-- key j -/
def kk (ks : List ByteArray) (j : Nat) : ByteArray := ks.getD j default
theorem kk_mem {ks : List ByteArray} {j : Nat} (h : j < ks.length) : kk ks j ∈ ks := by
  unfold kk
  rw [List.getD_eq_getElem?_getD, List.getElem?_eq_getElem h]; exact List.getElem_mem h
theorem RowP.key {P : Nat → Prop} {w : World} {o : Option Addr} {cap : Nat} {ks : List ByteArray} (h : RowP P w o cap ks.length 1 (fun j _ => .string (ks.getD j default))) {j : Nat} (hj : j < ks.length) : ∃ b off, o = some ⟨b, off, none⟩ ∧ P b ∧ w.cell? ⟨b, off + j, none⟩ = some (.string (kk ks j)) := h.el1 hj
/-- the cells of a value X from p on -/
structure EV (w : World) (b p : Nat) (X : Val) (oL oK : Option Addr) (cL cK : Nat) : Prop where
  c0 : w.cell? ⟨b, p, none⟩ = some (.int .i64 X.k)
  c1 : w.cell? ⟨b, p + 1, none⟩ = some (.int .i64 X.i)
  c2 : w.cell? ⟨b, p + 2, none⟩ = some (.string X.s)
  c3 : w.cell? ⟨b, p + 3, none⟩ = some (.slice oL X.l.length cL)
  c4 : w.cell? ⟨b, p + 4, none⟩ = some (.slice oK X.ks.length cK)
  c5 : w.cell? ⟨b, p + 5, none⟩ = some (.int .i64 X.tk)
  c6 : w.cell? ⟨b, p + 6, none⟩ = some (.int .i64 X.to)
  c7 : w.cell? ⟨b, p + 7, none⟩ = some (.bool X.x)
theorem RowP.elv {P : Nat → Prop} {w : World} {o : Option Addr} {cap len : Nat} {c : Nat → Nat → Value} (h : RowP P w o cap len 8 c) {j : Nat} (hj : j < len) {X : Val} (hx : LiesP P w X (.agg #[c j 0, c j 1, c j 2, c j 3, c j 4, c j 5, c j 6, c j 7])) :
    ∃ (b off : Nat) (oL oK : Option Addr) (cL cK : Nat) (c' : Nat → Nat → Value), o = some ⟨b, off, none⟩ ∧ P b ∧ EV w b (off + j * 8) X oL oK cL cK ∧ OpnP P w X oL oK cL cK c' := by
  obtain ⟨b, off, e, hb, y0, y1, y2, y3, y4, y5, y6, y7⟩ := h.el8 hj
  obtain ⟨oL, oK, cL, cK, c', ev, O⟩ := hx.inv
  simp only [Value.agg.injEq] at ev
  have ev2 := congrArg Array.toList ev
  simp only [List.cons.injEq, and_true] at ev2
  obtain ⟨e0, e1, e2, e3, e4, e5, e6, e7⟩ := ev2
  exact ⟨b, off, oL, oK, cL, cK, c', e, hb, ⟨by rw [y0, e0], by rw [y1, e1], by rw [y2, e2], by rw [y3, e3], by rw [y4, e4], by rw [y5, e5], by rw [y6, e6], by rw [y7, e7]⟩, O⟩
/-- what Len answers -/
theorem len_any {n : Nat} {V : Val} {v : Value} {w : World} (h : Lies n w V v) : Calls Tryd.prog 58 #[v] w fun e w' => e = .returned (.int .i64 (cnt V)) ∧ Below w.heap.size w w' := by
  obtain ⟨oL, oK, cL, cK, c, rfl, O⟩ := h.inv
  have l1 := O.L.1
  have l2 := O.L.2.1
  have l3 := O.K.1
  have l4 := O.K.2.1
  unfold maxLen at l2 l4
  have hc : Hid (cnt V = if V.k = 4 then V.l.length else if V.k = 5 then min V.l.length V.ks.length else 0) := rfl
  clear O h
  by_cases h4 : V.k = 4
  · rw [if_pos h4] at hc
    rw [h4]
    clear h4
    go_enter Tryd.func58, Tryd.ntmps58
    go_wp2
    go_ret
    exact ⟨by rw [hc.out]; rfl, (Below.refl _ _).alloc (Nat.le_refl _) _⟩
  · rw [if_neg h4] at hc
    by_cases h5 : V.k = 5
    · rw [if_pos h5] at hc
      rw [h5]
      clear h4 h5
      go_enter Tryd.func58, Tryd.ntmps58
      go_wp2
      all_goals
        go_ret
        exact ⟨(ret_int (by rw [hc.out]; omega) : Ending.returned (.int .i64 _) = _), (Below.refl _ _).alloc (Nat.le_refl _) _⟩
    · rw [if_neg h5] at hc
      have e4 : (V.k == 4) = false := by rw [beq_eq_false_iff_ne]; exact h4
      have e5 : (V.k == 5) = false := by rw [beq_eq_false_iff_ne]; exact h5
      clear h4 h5
      go_enter Tryd.func58, Tryd.ntmps58
      go_wp2
      go_ret
      exact ⟨by rw [hc.out]; rfl, (Below.refl _ _).alloc (Nat.le_refl _) _⟩
end Go.Proofs.YtfmgbhaldakpfaaDoor

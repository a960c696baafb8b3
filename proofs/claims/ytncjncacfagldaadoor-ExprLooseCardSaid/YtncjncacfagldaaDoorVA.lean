/- Plain mathematics: values as trees; how much they hold, their weight and depth; when two are the same. -/
import Derived.Test.YtncjncacfagldaaDoorI
import Derived.WalkKit
import Derived.Below
import Derived.WalkSmall
import Derived.LoopTactic
import Derived.RegionTactic
import Derived.ChangeAlike
import Derived.BigGuardPart
import Derived.Deep.QuietTactic
import Derived.BigQuiet
import Derived.Outline
import Derived.Lib.Hide
import Derived.Handy
import Derived.WalkLawsBesides
import Derived.WalkSpells
import Derived.Deep.DeepMust
import Derived.Deep.DeepFit
import Derived.StillTailTactics
namespace Go.Proofs.YtncjncacfagldaaDoor

/-- how many elements count -/
def cnt (V : Val) : Nat := if V.k = 4 then V.l.length else if V.k = 5 then min V.l.length V.ks.length else 0
theorem cnt_le (V : Val) : cnt V ≤ V.l.length := by unfold cnt; split <;> (try split) <;> omega
/-- the elements that count -/
def els (V : Val) : List Val := V.l.take (cnt V)
theorem els_len (V : Val) : (els V).length = cnt V := by unfold els; rw [List.length_take]; have := cnt_le V; omega
theorem els_mem {V x : Val} (h : x ∈ els V) : x ∈ V.l := List.mem_of_mem_take h
theorem els_get {V : Val} {j : Nat} (h : j < cnt V) : ∃ (h1 : j < (els V).length) (h2 : j < V.l.length), (els V)[j] = V.l[j] := by
  have h1 : j < (els V).length := by rw [els_len]; exact h
  have h2 : j < V.l.length := Nat.lt_of_lt_of_le h (cnt_le V)
  exact ⟨h1, h2, by unfold els; exact List.getElem_take⟩

mutual
/-- all that it holds -/
def sz : Val → Nat | .mk _ _ _ l ks _ _ _ => 1 + ks.length + szL l
def szL : List Val → Nat | [] => 0 | a :: r => sz a + szL r
end
theorem sz_pos (V : Val) : 1 ≤ sz V := by cases V; unfold sz; omega
theorem szL_eq (l : List Val) : szL l = (l.map sz).sum := by
  induction l with
  | nil => rfl
  | cons a r ih => rw [szL, ih]; rfl
theorem szL_mem {l : List Val} {x : Val} (h : x ∈ l) : sz x ≤ szL l := by
  induction l with
  | nil => cases h
  | cons a r ih =>
    rw [szL]
    rcases List.mem_cons.1 h with rfl | h
    · omega
    · have := ih h; omega
theorem szL_len (l : List Val) : l.length ≤ szL l := by
  induction l with
  | nil => simp [szL]
  | cons a r ih => rw [szL]; have := sz_pos a; simp; omega
theorem sz_eq (V : Val) : sz V = 1 + V.ks.length + szL V.l := by cases V; rw [sz]; rfl
theorem sz_mem {V x : Val} (h : x ∈ V.l) : sz x < sz V := by rw [sz_eq V]; have := szL_mem h; omega
theorem sz_l (V : Val) : V.l.length < sz V := by rw [sz_eq]; have := szL_len V.l; omega
theorem sz_ks (V : Val) : V.ks.length < sz V := by rw [sz_eq]; omega
/-- induction on what a value holds -/
theorem val_ind {P : Val → Prop} (h : ∀ V, (∀ x, x ∈ V.l → P x) → P V) (V : Val) : P V := by
  have : ∀ n V, sz V ≤ n → P V := by
    intro n
    induction n with
    | zero => intro V hV; have := sz_pos V; omega
    | succ n ih => intro V hV; exact h V fun x hx => ih x (by have := sz_mem hx; omega)
  exact this _ V (Nat.le_refl _)
theorem sizeOf_mem_l {V x : Val} (h : x ∈ V.l) : SizeOf.sizeOf x < SizeOf.sizeOf V := by
  cases V
  have := List.sizeOf_lt_of_mem h
  simp [Val.l] at *
  omega

/-- the weight -/
def weight (V : Val) : Nat := 1 + ((els V).attach.map fun x => weight x.1).sum
termination_by SizeOf.sizeOf V
decreasing_by exact sizeOf_mem_l (els_mem x.2)
/-- the greatest of these -/
def most : List Nat → Nat | [] => 0 | a :: r => max a (most r)
theorem most_snoc (l : List Nat) (a : Nat) : most (l ++ [a]) = max (most l) a := by
  induction l with
  | nil => simp [most]
  | cons b l ih => rw [List.cons_append, most, most, ih]; omega
def depth (V : Val) : Nat := most ((els V).attach.map fun x => depth x.1) + 1
termination_by SizeOf.sizeOf V
decreasing_by exact sizeOf_mem_l (els_mem x.2)
theorem weight_eq (V : Val) : weight V = 1 + ((els V).map weight).sum := by rw [weight]; simp
theorem depth_eq (V : Val) : depth V = most ((els V).map depth) + 1 := by rw [depth]; simp
/-- of the first j that count -/
def weightN (V : Val) (j : Nat) : Nat := (((els V).take j).map weight).sum
def depthN (V : Val) (j : Nat) : Nat := most (((els V).take j).map depth)
theorem take_get (l : List Val) (j : Nat) (h : j < l.length) : l.take (j + 1) = l.take j ++ [l[j]] := by
  rw [List.take_succ_eq_append_getElem h]
theorem els_take {V : Val} {j : Nat} (h : j < cnt V) (h2 : j < V.l.length) : (els V).take (j + 1) = (els V).take j ++ [V.l[j]] := by
  obtain ⟨h1, _, e⟩ := els_get h
  rw [take_get _ _ h1, e]
theorem weightN_succ {V : Val} {j : Nat} (h : j < cnt V) (h2 : j < V.l.length) : weightN V (j + 1) = weightN V j + weight V.l[j] := by
  unfold weightN; rw [els_take h h2]; simp
theorem depthN_succ {V : Val} {j : Nat} (h : j < cnt V) (h2 : j < V.l.length) : depthN V (j + 1) = max (depthN V j) (depth V.l[j]) := by
  unfold depthN; rw [els_take h h2, List.map_append]; exact most_snoc _ _
theorem weightN_all (V : Val) : weight V = 1 + weightN V (cnt V) := by
  rw [weight_eq]; unfold weightN; rw [List.take_of_length_le (by rw [els_len]; exact Nat.le_refl _)]
theorem depthN_all (V : Val) : depth V = depthN V (cnt V) + 1 := by
  rw [depth_eq]; unfold depthN; rw [List.take_of_length_le (by rw [els_len]; exact Nat.le_refl _)]
theorem szL_take (l : List Val) (j : Nat) : szL (l.take j) ≤ szL l := by
  rw [szL_eq, szL_eq]
  conv => rhs; rw [← List.take_append_drop j l]
  rw [List.map_append, List.sum_append]; omega
theorem weight_sz (V : Val) : weight V ≤ sz V := by
  induction V using val_ind with
  | h V ih =>
    have e : ((els V).map weight).sum ≤ szL (els V) := by
      have : ∀ l : List Val, (∀ x, x ∈ l → weight x ≤ sz x) → (l.map weight).sum ≤ szL l := by
        intro l hl
        induction l with
        | nil => simp [szL]
        | cons a r ihr => rw [szL, List.map_cons, List.sum_cons]; have := hl a (by simp); have := ihr (fun x hx => hl x (by simp [hx])); omega
      exact this _ fun x hx => ih x (els_mem hx)
    have := szL_take V.l (cnt V)
    rw [weight_eq, sz_eq]; unfold els at *; omega
theorem weightN_le (V : Val) (j : Nat) : weightN V j ≤ weight V := by
  rw [weight_eq]; unfold weightN
  conv => rhs; rw [← List.take_append_drop j (els V)]
  rw [List.map_append, List.sum_append]; omega
theorem most_le {l : List Nat} {n : Nat} (h : ∀ x, x ∈ l → x ≤ n) : most l ≤ n := by
  induction l with
  | nil => exact Nat.zero_le _
  | cons a r ih => rw [most]; have := h a (by simp); have := ih (fun x hx => h x (by simp [hx])); omega
theorem depth_sz (V : Val) : depth V ≤ sz V := by
  induction V using val_ind with
  | h V ih =>
    rw [depth_eq]
    have : most ((els V).map depth) ≤ sz V - 1 := most_le fun n hn => by
      obtain ⟨x, hx, rfl⟩ := List.mem_map.1 hn
      have := ih x (els_mem hx); have := sz_mem (els_mem hx); omega
    have := sz_pos V; omega
theorem depthN_le (V : Val) (j : Nat) : depthN V j ≤ sz V := by
  unfold depthN
  exact most_le fun n hn => by
    obtain ⟨x, hx, rfl⟩ := List.mem_map.1 hn
    have := els_mem (List.mem_of_mem_take hx)
    have := depth_sz x; have := sz_mem (els_mem (List.mem_of_mem_take hx)); omega
/-- is nothing in it unknown? -/
def known (V : Val) : Bool := (V.k != 6) && (els V).attach.all fun x => known x.1
termination_by SizeOf.sizeOf V
decreasing_by exact sizeOf_mem_l (els_mem x.2)
theorem known_eq (V : Val) : known V = ((V.k != 6) && (els V).all known) := by
  rw [known]; congr 1; rw [Bool.eq_iff_iff]; simp
end Go.Proofs.YtncjncacfagldaaDoor

/- How a value lies in memory. -/
namespace Go.Proofs.YtncjncacfagldaaDoor
open Go.RowKit

/-- all blocks below n -/
abbrev Row (n : Nat) (w : World) (o : Option Addr) (cap len z : Nat) (c : Nat → Nat → Value) : Prop := RowP (fun b => b < n) w o cap len z c
abbrev Lies (n : Nat) (w : World) (V : Val) (v : Value) : Prop := LiesP (fun b => b < n) w V v
theorem RowP.below {n : Nat} {w w' : World} {o : Option Addr} {cap len z : Nat} {c : Nat → Nat → Value} (h : Row n w o cap len z c) (b : Below n w w') : Row n w' o cap len z c := h.keptP fun k hk => ⟨hk, b.block k hk⟩
theorem LiesP.kept {n : Nat} {w w' : World} {V : Val} {v : Value} (h : Lies n w V v) (b : Below n w w') : Lies n w' V v := h.keptP fun k hk => ⟨hk, b.block k hk⟩
theorem RowP.mono {P P' : Nat → Prop} {w : World} {o : Option Addr} {cap len z : Nat} {c : Nat → Nat → Value} (h : RowP P w o cap len z c) (b : ∀ k, P k → P' k) : RowP P' w o cap len z c := h.keptP fun k hk => ⟨b k hk, rfl⟩
theorem LiesP.mono {P P' : Nat → Prop} {w : World} {V : Val} {v : Value} (h : LiesP P w V v) (b : ∀ k, P k → P' k) : LiesP P' w V v := h.keptP fun k hk => ⟨b k hk, rfl⟩

theorem bcell {n : Nat} {W w1 : World} (hb : Below n W w1) : (∀ b o, b < n → w1.cell? ⟨b, o, none⟩ = W.cell? ⟨b, o, none⟩) ∧ (∀ b o, b < n → w1.frozen? ⟨b, o, none⟩ = W.frozen? ⟨b, o, none⟩) :=
  ⟨fun b o h => hb.cell (p := ⟨b, o, none⟩) h, fun b o h => hb.frozen (p := ⟨b, o, none⟩) h⟩
theorem ret_int {k : IntKind} {a b : Int} (h : a = b) : Ending.returned (.int k a) = .returned (.int k b) := by rw [h]
/-- a value's parts, laid open -/
structure OpnP (P : Nat → Prop) (w : World) (V : Val) (oL oK : Option Addr) (cL cK : Nat) (c : Nat → Nat → Value) : Prop where
  wk : (Lit.int .i64 V.k).wf = true
  wi : (Lit.int .i64 V.i).wf = true
  wtk : (Lit.int .i64 V.tk).wf = true
  wto : (Lit.int .i64 V.to).wf = true
  ws : V.s.size ≤ maxLen
  wks : ∀ s, s ∈ V.ks → s.size ≤ maxLen
  L : RowP P w oL cL V.l.length 8 c
  K : RowP P w oK cK V.ks.length 1 fun j _ => .string (V.ks.getD j default)
  el : ∀ j x, V.l[j]? = some x → LiesP P w x (.agg #[c j 0, c j 1, c j 2, c j 3, c j 4, c j 5, c j 6, c j 7])
/-- all blocks below n -/
abbrev Opn (n : Nat) (w : World) (V : Val) (oL oK : Option Addr) (cL cK : Nat) (c : Nat → Nat → Value) : Prop := OpnP (fun b => b < n) w V oL oK cL cK c
theorem OpnP.lies {P : Nat → Prop} {w : World} {V : Val} {oL oK : Option Addr} {cL cK : Nat} {c : Nat → Nat → Value} (h : OpnP P w V oL oK cL cK c) : LiesP P w V (vv V.k V.i V.s (.slice oL V.l.length cL) (.slice oK V.ks.length cK) V.tk V.to V.x) :=
  .mk V oL oK cL cK c h.wk h.wi h.wtk h.wto h.ws h.wks h.L h.K h.el
theorem OpnP.kept {n : Nat} {w w' : World} {V : Val} {oL oK : Option Addr} {cL cK : Nat} {c : Nat → Nat → Value} (h : Opn n w V oL oK cL cK c) (b : Below n w w') : Opn n w' V oL oK cL cK c :=
  ⟨h.wk, h.wi, h.wtk, h.wto, h.ws, h.wks, h.L.below b, h.K.below b, fun j x hx => (h.el j x hx).kept b⟩
theorem LiesP.inv {P : Nat → Prop} {w : World} {V : Val} {v : Value} (h : LiesP P w V v) : ∃ (oL oK : Option Addr) (cL cK : Nat) (c : Nat → Nat → Value),
    v = vv V.k V.i V.s (.slice oL V.l.length cL) (.slice oK V.ks.length cK) V.tk V.to V.x ∧ OpnP P w V oL oK cL cK c := by
  cases h with
  | mk _ oL oK cL cK c wk wi wtk wto ws wks hL hK he => exact ⟨oL, oK, cL, cK, c, rfl, wk, wi, wtk, wto, ws, wks, hL, hK, he⟩
/-- what the box of a value does to the world -/
abbrev bx (V : Val) (oL oK : Option Addr) (cL cK : Nat) : Obj := .cells #[.int .i64 V.k, .int .i64 V.i, .string V.s, .slice oL V.l.length cL, .slice oK V.ks.length cK, .int .i64 V.tk, .int .i64 V.to, .bool V.x] 28
/-- block b holds V's cells -/
structure Hd (w : World) (b : Nat) (V : Val) (L K : Value) : Prop where
  lt : b < w.heap.size
  c0 : w.cell? ⟨b, 0, none⟩ = some (.int .i64 V.k)
  c1 : w.cell? ⟨b, 1, none⟩ = some (.int .i64 V.i)
  c2 : w.cell? ⟨b, 2, none⟩ = some (.string V.s)
  c3 : w.cell? ⟨b, 3, none⟩ = some L
  c4 : w.cell? ⟨b, 4, none⟩ = some K
  c5 : w.cell? ⟨b, 5, none⟩ = some (.int .i64 V.tk)
  c6 : w.cell? ⟨b, 6, none⟩ = some (.int .i64 V.to)
  c7 : w.cell? ⟨b, 7, none⟩ = some (.bool V.x)
theorem Hd.kept {w w' : World} {b m : Nat} {V : Val} {L K : Value} (h : Hd w b V L K) (hb : Below m w w') (hm : b < m) : Hd w' b V L K :=
  ⟨Nat.lt_of_lt_of_le h.lt hb.size, (hb.cell (p := ⟨b, _, none⟩) hm).trans h.c0, (hb.cell (p := ⟨b, _, none⟩) hm).trans h.c1, (hb.cell (p := ⟨b, _, none⟩) hm).trans h.c2, (hb.cell (p := ⟨b, _, none⟩) hm).trans h.c3,
    (hb.cell (p := ⟨b, _, none⟩) hm).trans h.c4, (hb.cell (p := ⟨b, _, none⟩) hm).trans h.c5, (hb.cell (p := ⟨b, _, none⟩) hm).trans h.c6, (hb.cell (p := ⟨b, _, none⟩) hm).trans h.c7⟩
theorem Hd.made (w : World) (V : Val) (L K : Value) : Hd (w.alloc (.cells #[.int .i64 V.k, .int .i64 V.i, .string V.s, L, K, .int .i64 V.tk, .int .i64 V.to, .bool V.x] 28)) w.heap.size V L K := by
  refine ⟨?_, ?_, ?_, ?_, ?_, ?_, ?_, ?_, ?_⟩ <;> simp [go_sem]
/-- eight cells from p on -/
structure E8 (w : World) (b p : Nat) (c : Nat → Value) : Prop where
  c0 : w.cell? ⟨b, p, none⟩ = some (c 0)
  c1 : w.cell? ⟨b, p + 1, none⟩ = some (c 1)
  c2 : w.cell? ⟨b, p + 2, none⟩ = some (c 2)
  c3 : w.cell? ⟨b, p + 3, none⟩ = some (c 3)
  c4 : w.cell? ⟨b, p + 4, none⟩ = some (c 4)
  c5 : w.cell? ⟨b, p + 5, none⟩ = some (c 5)
  c6 : w.cell? ⟨b, p + 6, none⟩ = some (c 6)
  c7 : w.cell? ⟨b, p + 7, none⟩ = some (c 7)
/-- the cells of element j -/
theorem RowP.el8 {P : Nat → Prop} {w : World} {o : Option Addr} {cap len : Nat} {c : Nat → Nat → Value} (h : RowP P w o cap len 8 c) {j : Nat} (hj : j < len) : ∃ b off, o = some ⟨b, off, none⟩ ∧ P b ∧ E8 w b (off + j * 8) (c j) := by
  obtain ⟨_, _, _, h4⟩ := h
  obtain ⟨b, off, e, hb, hc⟩ := h4 (by omega)
  exact ⟨b, off, e, hb, hc j hj 0 (by omega), hc j hj 1 (by omega), hc j hj 2 (by omega), hc j hj 3 (by omega), hc j hj 4 (by omega), hc j hj 5 (by omega), hc j hj 6 (by omega), hc j hj 7 (by omega)⟩
theorem RowP.el1 {P : Nat → Prop} {w : World} {o : Option Addr} {cap len : Nat} {c : Nat → Nat → Value} (h : RowP P w o cap len 1 c) {j : Nat} (hj : j < len) : ∃ b off, o = some ⟨b, off, none⟩ ∧ P b ∧ w.cell? ⟨b, off + j, none⟩ = some (c j 0) := by
  obtain ⟨_, _, _, h4⟩ := h
  obtain ⟨b, off, e, hb, hc⟩ := h4 (by omega)
  have := hc j hj 0 (by omega)
  exact ⟨b, off, e, hb, by simpa using this⟩
/-- key j -/
def kk (ks : List ByteArray) (j : Nat) : ByteArray := ks.getD j default
theorem kk_mem {ks : List ByteArray} {j : Nat} (h : j < ks.length) : kk ks j ∈ ks := by
  unfold kk
  rw [List.getD_eq_getElem?_getD, List.getElem?_eq_getElem h]; exact List.getElem_mem h
theorem RowP.key {P : Nat → Prop} {w : World} {o : Option Addr} {cap : Nat} {ks : List ByteArray} (h : RowP P w o cap ks.length 1 (fun j _ => .string (ks.getD j default))) {j : Nat} (hj : j < ks.length) : ∃ b off, o = some ⟨b, off, none⟩ ∧ P b ∧ w.cell? ⟨b, off + j, none⟩ = some (.string (kk ks j)) := h.el1 hj
/-- the cells of a value X from p on -/
structure EV (w : World) (b p : Nat) (X : Val) (oL oK : Option Addr) (cL cK : Nat) : Prop where
  c0 : w.cell? ⟨b, p, none⟩ = some (.int .i64 X.k)
  c1 : w.cell? ⟨b, p + 1, none⟩ = some (.int .i64 X.i)
  c2 : w.cell? ⟨b, p + 2, none⟩ = some (.string X.s)
  c3 : w.cell? ⟨b, p + 3, none⟩ = some (.slice oL X.l.length cL)
  c4 : w.cell? ⟨b, p + 4, none⟩ = some (.slice oK X.ks.length cK)
  c5 : w.cell? ⟨b, p + 5, none⟩ = some (.int .i64 X.tk)
  c6 : w.cell? ⟨b, p + 6, none⟩ = some (.int .i64 X.to)
  c7 : w.cell? ⟨b, p + 7, none⟩ = some (.bool X.x)
theorem RowP.elv {P : Nat → Prop} {w : World} {o : Option Addr} {cap len : Nat} {c : Nat → Nat → Value} (h : RowP P w o cap len 8 c) {j : Nat} (hj : j < len) {X : Val} (hx : LiesP P w X (.agg #[c j 0, c j 1, c j 2, c j 3, c j 4, c j 5, c j 6, c j 7])) :
    ∃ (b off : Nat) (oL oK : Option Addr) (cL cK : Nat) (c' : Nat → Nat → Value), o = some ⟨b, off, none⟩ ∧ P b ∧ EV w b (off + j * 8) X oL oK cL cK ∧ OpnP P w X oL oK cL cK c' := by
  obtain ⟨b, off, e, hb, y0, y1, y2, y3, y4, y5, y6, y7⟩ := h.el8 hj
  obtain ⟨oL, oK, cL, cK, c', ev, O⟩ := hx.inv
  simp only [Value.agg.injEq] at ev
  have ev2 := congrArg Array.toList ev
  simp only [List.cons.injEq, and_true] at ev2
  obtain ⟨e0, e1, e2, e3, e4, e5, e6, e7⟩ := ev2
  exact ⟨b, off, oL, oK, cL, cK, c', e, hb, ⟨by rw [y0, e0], by rw [y1, e1], by rw [y2, e2], by rw [y3, e3], by rw [y4, e4], by rw [y5, e5], by rw [y6, e6], by rw [y7, e7]⟩, O⟩
end Go.Proofs.YtncjncacfagldaaDoor

/- slices.Equal of texts; slices.EqualFunc of values. -/
namespace Go.Proofs.YtncjncacfagldaaDoor
open Go.RowKit

/-- two rows of keys are the same -/
def eqK (a b : List ByteArray) : Bool := decide (a = b)
theorem kk_ext {a b : List ByteArray} (hl : a.length = b.length) (h : ∀ j, j < a.length → kk a j = kk b j) : a = b := by
  apply List.ext_getElem hl
  intro j h1 h2
  have := h j h1
  unfold kk at this
  rw [List.getD_eq_getElem?_getD, List.getD_eq_getElem?_getD, List.getElem?_eq_getElem h1, List.getElem?_eq_getElem h2] at this
  exact this
theorem str_eq {a b : ByteArray} (h : a = b) : (a.toList == b.toList) = true ∧ (a.toList != b.toList) = false := by subst h; simp
theorem toList_inj {a b : ByteArray} (h : a.toList = b.toList) : a = b := by
  rw [ByteArray.toList_eq, ByteArray.toList_eq] at h
  obtain ⟨x⟩ := a; obtain ⟨y⟩ := b
  congr 1
  exact Array.toList_inj.1 h
theorem str_ne {a b : ByteArray} (h : a ≠ b) : (a.toList == b.toList) = false ∧ (a.toList != b.toList) = true := by
  have : a.toList ≠ b.toList := fun e => h (toList_inj e)
  simp [this]
set_option maxHeartbeats 1000000 in
theorem equal_any {n : Nat} {a b : List ByteArray} {o o' : Option Addr} {cap cap' : Nat} {w : World} (hR : Row n w o cap a.length 1 (fun j _ => .string (a.getD j default))) (hR' : Row n w o' cap' b.length 1 (fun j _ => .string (b.getD j default))) (hn : n ≤ w.heap.size) :
    Calls Tryd.prog 61 #[.slice o a.length cap, .slice o' b.length cap'] w fun e w' => e = .returned (.bool (eqK a b)) ∧ Below w.heap.size w w' := by
  have l1 := hR.1
  have l2 := hR.2.1
  have l3 := hR'.1
  have l4 := hR'.2.1
  unfold maxLen at l2 l4
  have HR := Lib.hid (And.intro hR hR')
  clear hR hR'
  by_cases hl : a.length = b.length
  · have HL := Lib.hid hl
    have g1 : ((a.length : Int) != (b.length : Int)) = false := by simp [hl]
    clear hl
    go_enter Tryd.func61, Tryd.ntmps61
    go_wp2_with fail
    go_loopw [13] (fun i wr => ∃ j : Nat, j ≤ a.length ∧ i = .int .i64 j ∧ Hid (∀ m, m < j → kk a m = kk b m) ∧ Hid (Below w.heap.size w wr)) (fun i _ => a.length - (intOf i).toNat)
    case atStart => exact ⟨0, Nat.zero_le _, rfl, fun _ h => absurd h (Nat.not_lt_zero _), Below.refl _ _⟩
    case round =>
      obtain ⟨j, hj, rfl, hok, hbr⟩ := hrel
      by_cases hlt : j < a.length
      · have hlt2 : j < b.length := by have := HL.out; omega
        obtain ⟨b1, off, e1, _, y0⟩ := (HR.out.1.below (hbr.out.mono hn)).key hlt
        obtain ⟨b2, off', e2, _, y1⟩ := (HR.out.2.below (hbr.out.mono hn)).key hlt2
        subst e1 e2
        have HBR := hbr
        clear hbr
        by_cases he : kk a j = kk b j
        · have HE := Lib.hid he
          obtain ⟨g2, g3⟩ := str_eq he
          clear he
          go_wp2_with fail
          go_quiet (fail)
          go_wp2_with fail
          go_roundw
          case rel => exact ⟨j + 1, by omega, by go_num, fun m hm => by by_cases e : m = j; subst e; exact HE.out; exact hok.out m (by omega), below_drewN HBR.out _⟩
          case measure => simp [intOf]; omega
        · have HX : Hid (eqK a b = false) := decide_eq_false (fun e => he (by rw [e]))
          obtain ⟨g2, g3⟩ := str_ne he
          clear he
          go_wp2_with fail
          go_quiet (fail)
          go_wp2_with fail
          go_ret
          exact ⟨by rw [HX.out]; rfl, below_drewN HBR.out _⟩
      · have HX : Hid (eqK a b = true) := decide_eq_true (kk_ext HL.out (fun m hm => hok.out m (by omega)))
        go_wp2_with fail
        go_ret
        exact ⟨by rw [HX.out]; rfl, hbr.out⟩
  · have HX : Hid (eqK a b = false) := decide_eq_false (fun e => hl (by rw [e]))
    have g1 : ((a.length : Int) != (b.length : Int)) = true := by simp; omega
    clear hl
    go_enter Tryd.func61, Tryd.ntmps61
    go_wp2_with fail
    go_ret
    exact ⟨by rw [HX.out]; rfl, Below.refl _ _⟩
/-- two rows of values are alike, one by one -/
def eqL (r : Val → Val → Bool) : List Val → List Val → Bool
  | [], [] => true
  | a :: x, b :: y => r a b && eqL r x y
  | _, _ => false
theorem eqL_len {r : Val → Val → Bool} : ∀ {x y : List Val}, x.length ≠ y.length → eqL r x y = false
  | [], [], h => absurd rfl h
  | [], _ :: _, _ => rfl
  | _ :: _, [], _ => rfl
  | a :: x, b :: y, h => by rw [eqL, eqL_len (x := x) (y := y) (fun e => h (by simp [e]))]; simp
theorem eqL_no {r : Val → Val → Bool} : ∀ {x y : List Val} (j : Nat) {X Y : Val}, x[j]? = some X → y[j]? = some Y → r X Y = false → eqL r x y = false
  | [], _, j, _, _, h, _, _ => by simp at h
  | _ :: _, [], j, _, _, _, h, _ => by simp at h
  | a :: x, b :: y, 0, X, Y, h1, h2, h => by simp at h1 h2; subst h1 h2; rw [eqL, h]; rfl
  | a :: x, b :: y, j + 1, X, Y, h1, h2, h => by rw [eqL, eqL_no (x := x) (y := y) j (by simpa using h1) (by simpa using h2) h]; simp
theorem eqL_yes {r : Val → Val → Bool} : ∀ {x y : List Val}, x.length = y.length → (∀ (j : Nat) (X Y : Val), x[j]? = some X → y[j]? = some Y → r X Y = true) → eqL r x y = true
  | [], [], _, _ => rfl
  | [], _ :: _, h, _ => by simp at h
  | _ :: _, [], h, _ => by simp at h
  | a :: x, b :: y, hl, h => by
    rw [eqL, h 0 a b rfl rfl, eqL_yes (x := x) (y := y) (by simpa using hl) (fun j X Y h1 h2 => h (j + 1) X Y (by simpa using h1) (by simpa using h2))]; rfl
set_option maxRecDepth 100000 in
set_option maxHeartbeats 2000000 in
theorem equalFunc_26 (r : Val → Val → Bool) (N : Nat) (hf : ∀ (n : Nat) (A B : Val) (a b : Value) (w : World), sz A + sz B ≤ N → Lies n w A a → Lies n w B b → n ≤ w.heap.size → Calls Tryd.prog 26 #[a, b] w fun e w' => e = .returned (.bool (r A B)) ∧ Below w.heap.size w w')
    {n : Nat} {w : World} {l l' : List Val} {o o' : Option Addr} {cap cap' : Nat} {c c' : Nat → Nat → Value} (hs : szL l + szL l' ≤ N) (hR : Row n w o cap l.length 8 c) (hR' : Row n w o' cap' l'.length 8 c')
    (hE : ∀ j x, l[j]? = some x → Lies n w x (.agg #[c j 0, c j 1, c j 2, c j 3, c j 4, c j 5, c j 6, c j 7])) (hE' : ∀ j x, l'[j]? = some x → Lies n w x (.agg #[c' j 0, c' j 1, c' j 2, c' j 3, c' j 4, c' j 5, c' j 6, c' j 7])) (hn : n ≤ w.heap.size) :
    Calls Tryd.prog 40 #[.slice o l.length cap, .slice o' l'.length cap', .func (.func 26) #[] #[]] w fun e w' => e = .returned (.bool (eqL r l l')) ∧ Below w.heap.size w w' := by
  have l1 := hR.1
  have l2 := hR.2.1
  have l3 := hR'.1
  have l4 := hR'.2.1
  unfold maxLen at l2 l4
  have HF := Lib.hid hf
  have HR := Lib.hid (And.intro hR (And.intro hR' (And.intro hE hE')))
  clear hR hR' hE hE' hf
  by_cases hl : l.length = l'.length
  · have HL := Lib.hid hl
    have g1 : ((l.length : Int) != (l'.length : Int)) = false := by simp [hl]
    clear hl
    go_enter Tryd.func40, Tryd.ntmps40
    go_wp2_with fail
    go_loopw [17] (fun i wr => ∃ j : Nat, j ≤ l.length ∧ i = .int .i64 j ∧ Hid (∀ m X Y, m < j → l[m]? = some X → l'[m]? = some Y → r X Y = true) ∧ Hid (Below w.heap.size w wr)) (fun i _ => l.length - (intOf i).toNat)
    case atStart => exact ⟨0, Nat.zero_le _, rfl, fun _ _ _ h => absurd h (Nat.not_lt_zero _), Below.refl _ _⟩
    case round =>
      obtain ⟨j, hj, rfl, hok, hbr⟩ := hrel
      by_cases hlt : j < l.length
      · have hlt2 : j < l'.length := by have := HL.out; omega
        obtain ⟨X, hX⟩ : ∃ X, l[j]? = some X := ⟨_, List.getElem?_eq_getElem hlt⟩
        obtain ⟨Y, hY⟩ : ∃ Y, l'[j]? = some Y := ⟨_, List.getElem?_eq_getElem hlt2⟩
        obtain ⟨b1, off, oL, oK, cL, cK, c3, e1, _, ⟨y0, y1, y2, y3, y4, y5, y6, y7⟩, OX⟩ := (HR.out.1.below (hbr.out.mono hn)).elv hlt ((HR.out.2.2.1 j X hX).kept (hbr.out.mono hn))
        obtain ⟨b2, off', oL', oK', cL', cK', c3', e2, hb2, ⟨u0, u1, u2, u3, u4, u5, u6, u7⟩, OY⟩ := (HR.out.2.1.below (hbr.out.mono hn)).elv hlt2 ((HR.out.2.2.2 j Y hY).kept (hbr.out.mono hn))
        have hm1 := szL_mem (List.mem_of_getElem? hX)
        have hm2 := szL_mem (List.mem_of_getElem? hY)
        have HX := Lib.hid (And.intro hX hY)
        have HW := Lib.hid (((Below.refl wr.heap.size wr).alloc (Nat.le_refl _) (bx X oL oK cL cK)).alloc (by simp) (bx Y oL' oK' cL' cK'))
        have hsz := hbr.out.size
        have hb3 : b2 < wr.heap.size := by omega
        have OX2 := Lib.hid (And.intro (OX.kept (HW.out.mono (by omega))) (OY.kept (HW.out.mono (by omega))))
        subst e1 e2
        clear hX hY OX OY
        go_wp2_with fail
        with_reducible refine (HF.out n X Y _ _ _ (by omega) OX2.out.1.lies OX2.out.2.lies (by simp; omega)).mono ?_
        rintro e w2 ⟨rfl, b2⟩
        have B2 := Lib.hid (hbr.out.trans ((HW.out.trans (b2.mono (by simp; omega))).mono hsz))
        clear b2
        cases hr : r X Y with
        | true =>
          have HE := Lib.hid hr
          clear hr
          go_wp2_with fail
          go_roundw
          case rel => exact ⟨j + 1, by omega, by go_num, (fun m X' Y' hm h1 h2 => by
            by_cases e : m = j
            · subst e; rw [HX.out.1] at h1; rw [HX.out.2] at h2; injection h1 with h1; injection h2 with h2; subst h1 h2; exact HE.out
            · exact hok.out m X' Y' (by omega) h1 h2), B2⟩
          case measure => simp [intOf]; omega
        | false =>
          have HE := Lib.hid (eqL_no (r := r) j HX.out.1 HX.out.2 hr)
          clear hr
          go_wp2_with fail
          go_ret
          exact ⟨by rw [HE.out]; rfl, B2.out⟩
      · have HX : Hid (eqL r l l' = true) := eqL_yes HL.out (fun m X Y h1 h2 => hok.out m X Y (by have := (List.getElem?_eq_some_iff.1 h1).1; omega) h1 h2)
        go_wp2_with fail
        go_ret
        exact ⟨by rw [HX.out]; rfl, hbr.out⟩
  · have HX : Hid (eqL r l l' = false) := eqL_len hl
    have g1 : ((l.length : Int) != (l'.length : Int)) = true := by simp; omega
    clear hl
    go_enter Tryd.func40, Tryd.ntmps40
    go_wp2_with fail
    go_ret
    exact ⟨by rw [HX.out]; rfl, Below.refl _ _⟩
end Go.Proofs.YtncjncacfagldaaDoor

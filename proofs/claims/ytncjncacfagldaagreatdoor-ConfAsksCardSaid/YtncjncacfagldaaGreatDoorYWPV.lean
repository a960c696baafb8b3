import Derived.Test.YtncjncacfagldaaGreatDoorYWI
import Derived.WalkKit
import Derived.Below
import Derived.WalkSmall
import Derived.LoopTactic
import Derived.RegionTactic
import Derived.ChangeAlike
import Derived.BigGuardPart
import Derived.Deep.QuietTactic
import Derived.BigQuiet
import Derived.Outline
import Derived.Lib.Hide
import Derived.Handy
import Derived.WalkLawsBesides
import Derived.WalkSpells
import Derived.Deep.DeepMust
import Derived.Deep.DeepFit
import Derived.StillTailTactics
import Derived.Laws.Rows
import Derived.Laws.CopyRow
import Derived.Laws.MakeOwn
import Derived.Laws.CopyOwn
import Derived.Deep.WholeRow
import Derived.OwnWalk
namespace Go.Proofs.YtncjncacfagldaaGreatDoor

theorem sz_pos (V : Val) : 1 ≤ sz V := by cases V; unfold sz; omega
theorem szL_eq (l : List Val) : szL l = (l.map sz).sum := by
 induction l with
 | nil => rfl
 | cons a r ih => rw [szL, ih]; rfl
theorem szL_mem {l : List Val} {x : Val} (h : x ∈ l) : sz x ≤ szL l := by
 induction l with
 | nil => cases h
 | cons a r ih =>
   rw [szL]
   rcases List.mem_cons.1 h with rfl | h
   · omega
   · have := ih h; omega
theorem szL_len (l : List Val) : l.length ≤ szL l := by
 induction l with
 | nil => simp [szL]
 | cons a r ih => rw [szL]; have := sz_pos a; simp; omega
theorem sz_eq (V : Val) : sz V = 1 + V.ks.length + szL V.l := by cases V; rw [sz]; rfl
theorem sz_mem {V x : Val} (h : x ∈ V.l) : sz x < sz V := by rw [sz_eq V]; have := szL_mem h; omega
theorem val_ind {P : Val → Prop} (h : ∀ V, (∀ x, x ∈ V.l → P x) → P V) (V : Val) : P V := by
 have : ∀ n V, sz V ≤ n → P V := by
  intro n
  induction n with
  | zero => intro V hV; have := sz_pos V; omega
  | succ n ih => intro V hV; exact h V fun x hx => ih x (by have := sz_mem hx; omega)
 exact this _ V (Nat.le_refl _)
theorem sizeOf_mem_l {V x : Val} (h : x ∈ V.l) : SizeOf.sizeOf x < SizeOf.sizeOf V := by
 cases V
 have := List.sizeOf_lt_of_mem h
 simp [Val.l] at *
 omega

open Go.RowKit

theorem ret_int {k : IntKind} {a b : Int} (h : a = b) : Ending.returned (.int k a) = .returned (.int k b) := by rw [h]
theorem OpnP.lies {P : Nat → Prop} {w : World} {V : Val} {oL oK : Option Addr} {cL cK : Nat} {c : Nat → Nat → Value} (h : OpnP P w V oL oK cL cK c) : LiesP P w V (vv V.k V.i V.s (.slice oL V.l.length cL) (.slice oK V.ks.length cK) V.tk V.to V.x) :=
 .mk V oL oK cL cK c h.wk h.wi h.wtk h.wto h.ws h.wks h.L h.K h.el
theorem LiesP.inv {P : Nat → Prop} {w : World} {V : Val} {v : Value} (h : LiesP P w V v) : ∃ (oL oK : Option Addr) (cL cK : Nat) (c : Nat → Nat → Value),
 v = vv V.k V.i V.s (.slice oL V.l.length cL) (.slice oK V.ks.length cK) V.tk V.to V.x ∧ OpnP P w V oL oK cL cK c := by
 cases h with
 | mk _ oL oK cL cK c wk wi wtk wto ws wks hL hK he => exact ⟨oL, oK, cL, cK, c, rfl, wk, wi, wtk, wto, ws, wks, hL, hK, he⟩
structure E8 (w : World) (b p : Nat) (c : Nat → Value) : Prop where
 c0 : w.cell? ⟨b, p, none⟩ = some (c 0)
 c1 : w.cell? ⟨b, p + 1, none⟩ = some (c 1)
 c2 : w.cell? ⟨b, p + 2, none⟩ = some (c 2)
 c3 : w.cell? ⟨b, p + 3, none⟩ = some (c 3)
 c4 : w.cell? ⟨b, p + 4, none⟩ = some (c 4)
 c5 : w.cell? ⟨b, p + 5, none⟩ = some (c 5)
 c6 : w.cell? ⟨b, p + 6, none⟩ = some (c 6)
 c7 : w.cell? ⟨b, p + 7, none⟩ = some (c 7)
theorem RowP.el8 {P : Nat → Prop} {w : World} {o : Option Addr} {cap len : Nat} {c : Nat → Nat → Value} (h : RowP P w o cap len 8 c) {j : Nat} (hj : j < len) : ∃ b off, o = some ⟨b, off, none⟩ ∧ P b ∧ E8 w b (off + j * 8) (c j) := by
 obtain ⟨_, _, _, h4⟩ := h
 obtain ⟨b, off, e, hb, hc⟩ := h4 (by omega)
 exact ⟨b, off, e, hb, hc j hj 0 (by omega), hc j hj 1 (by omega), hc j hj 2 (by omega), hc j hj 3 (by omega), hc j hj 4 (by omega), hc j hj 5 (by omega), hc j hj 6 (by omega), hc j hj 7 (by omega)⟩
theorem kk_mem {ks : List ByteArray} {j : Nat} (h : j < ks.length) : kk ks j ∈ ks := by
 unfold kk
 rw [List.getD_eq_getElem?_getD, List.getElem?_eq_getElem h]; exact List.getElem_mem h
structure EV (w : World) (b p : Nat) (X : Val) (oL oK : Option Addr) (cL cK : Nat) : Prop where
 c0 : w.cell? ⟨b, p, none⟩ = some (.int .i64 X.k)
 c1 : w.cell? ⟨b, p + 1, none⟩ = some (.int .i64 X.i)
 c2 : w.cell? ⟨b, p + 2, none⟩ = some (.string X.s)
 c3 : w.cell? ⟨b, p + 3, none⟩ = some (.slice oL X.l.length cL)
 c4 : w.cell? ⟨b, p + 4, none⟩ = some (.slice oK X.ks.length cK)
 c5 : w.cell? ⟨b, p + 5, none⟩ = some (.int .i64 X.tk)
 c6 : w.cell? ⟨b, p + 6, none⟩ = some (.int .i64 X.to)
 c7 : w.cell? ⟨b, p + 7, none⟩ = some (.bool X.x)
theorem RowP.elv {P : Nat → Prop} {w : World} {o : Option Addr} {cap len : Nat} {c : Nat → Nat → Value} (h : RowP P w o cap len 8 c) {j : Nat} (hj : j < len) {X : Val} (hx : LiesP P w X (.agg #[c j 0, c j 1, c j 2, c j 3, c j 4, c j 5, c j 6, c j 7])) :
 ∃ (b off : Nat) (oL oK : Option Addr) (cL cK : Nat) (c' : Nat → Nat → Value), o = some ⟨b, off, none⟩ ∧ P b ∧ EV w b (off + j * 8) X oL oK cL cK ∧ OpnP P w X oL oK cL cK c' := by
 obtain ⟨b, off, e, hb, y0, y1, y2, y3, y4, y5, y6, y7⟩ := h.el8 hj
 obtain ⟨oL, oK, cL, cK, c', ev, O⟩ := hx.inv
 simp only [Value.agg.injEq] at ev
 have ev2 := congrArg Array.toList ev
 simp only [List.cons.injEq, and_true] at ev2
 obtain ⟨e0, e1, e2, e3, e4, e5, e6, e7⟩ := ev2
 exact ⟨b, off, oL, oK, cL, cK, c', e, hb, ⟨by rw [y0, e0], by rw [y1, e1], by rw [y2, e2], by rw [y3, e3], by rw [y4, e4], by rw [y5, e5], by rw [y6, e6], by rw [y7, e7]⟩, O⟩
open Go.RowKit

def eqK (a b : List ByteArray) : Bool := decide (a = b)
theorem kk_ext {a b : List ByteArray} (hl : a.length = b.length) (h : ∀ j, j < a.length → kk a j = kk b j) : a = b := by
 apply List.ext_getElem hl
 intro j h1 h2
 have := h j h1
 unfold kk at this
 rw [List.getD_eq_getElem?_getD, List.getD_eq_getElem?_getD, List.getElem?_eq_getElem h1, List.getElem?_eq_getElem h2] at this
 exact this
theorem str_eq {a b : ByteArray} (h : a = b) : (a.toList == b.toList) = true ∧ (a.toList != b.toList) = false := by subst h; simp
theorem toList_inj {a b : ByteArray} (h : a.toList = b.toList) : a = b := by
 rw [ByteArray.toList_eq, ByteArray.toList_eq] at h
 obtain ⟨x⟩ := a; obtain ⟨y⟩ := b
 congr 1
 exact Array.toList_inj.1 h
theorem str_ne {a b : ByteArray} (h : a ≠ b) : (a.toList == b.toList) = false ∧ (a.toList != b.toList) = true := by
 have : a.toList ≠ b.toList := fun e => h (toList_inj e)
 simp [this]
set_option maxHeartbeats 1000000 in
theorem equal_any {n : Nat} {a b : List ByteArray} {o o' : Option Addr} {cap cap' : Nat} {w : World} (hR : Row n w o cap a.length 1 (fun j _ => .string (a.getD j default))) (hR' : Row n w o' cap' b.length 1 (fun j _ => .string (b.getD j default))) (hn : n ≤ w.heap.size) :
 Calls Tryz.prog 45 #[.slice o a.length cap, .slice o' b.length cap'] w fun e w' => e = .returned (.bool (eqK a b)) ∧ Below w.heap.size w w' := by
 have l1 := hR.1
 have l2 := hR.2.1
 have l3 := hR'.1
 have l4 := hR'.2.1
 unfold maxLen at l2 l4
 have HR := qh (And.intro hR hR')
 clear hR hR'
 by_cases hl : a.length = b.length
 · have HL := qh hl
   have g1 : ((a.length : Int) != (b.length : Int)) = false := by simp [hl]
   clear hl
   go_enter Tryz.func45, Tryz.ntmps45
   go_wp2_with fail
   go_loopw [13] (fun i wr => ∃ j : Nat, j ≤ a.length ∧ i = .int .i64 j ∧ Hid (∀ m, m < j → kk a m = kk b m) ∧ Hid (Below w.heap.size w wr)) (fun i _ => a.length - (intOf i).toNat)
   case atStart => exact ⟨0, Nat.zero_le _, rfl, fun _ h => absurd h (Nat.not_lt_zero _), Below.refl _ _⟩
   case round =>
    obtain ⟨j, hj, rfl, hok, hbr⟩ := hrel
    by_cases hlt : j < a.length
    · have hlt2 : j < b.length := by have := HL.out; omega
      obtain ⟨b1, off, e1, _, y0⟩ := (HR.out.1.below (hbr.out.mono hn)).key hlt
      obtain ⟨b2, off', e2, _, y1⟩ := (HR.out.2.below (hbr.out.mono hn)).key hlt2
      subst e1 e2
      have HBR := hbr
      clear hbr
      by_cases he : kk a j = kk b j
      · have HE := qh he
        obtain ⟨g2, g3⟩ := str_eq he
        clear he
        go_wp2_with fail
        go_quiet (fail)
        go_wp2_with fail
        go_roundw
        case rel => exact ⟨j + 1, by omega, by go_num, fun m hm => by by_cases e : m = j; subst e; exact HE.out; exact hok.out m (by omega), below_drewN HBR.out _⟩
        case measure => simp [intOf]; omega
      · have HX : Hid (eqK a b = false) := decide_eq_false (fun e => he (by rw [e]))
        obtain ⟨g2, g3⟩ := str_ne he
        clear he
        go_wp2_with fail
        go_quiet (fail)
        go_wp2_with fail
        go_ret
        exact ⟨by rw [HX.out]; rfl, below_drewN HBR.out _⟩
    · have HX : Hid (eqK a b = true) := decide_eq_true (kk_ext HL.out (fun m hm => hok.out m (by omega)))
      go_wp2_with fail
      go_ret
      exact ⟨by rw [HX.out]; rfl, hbr.out⟩
 · have HX : Hid (eqK a b = false) := decide_eq_false (fun e => hl (by rw [e]))
   have g1 : ((a.length : Int) != (b.length : Int)) = true := by simp; omega
   clear hl
   go_enter Tryz.func45, Tryz.ntmps45
   go_wp2_with fail
   go_ret
   exact ⟨by rw [HX.out]; rfl, Below.refl _ _⟩
def eqL (r : Val → Val → Bool) : List Val → List Val → Bool
 | [], [] => true
 | a :: x, b :: y => r a b && eqL r x y
 | _, _ => false
theorem eqL_len {r : Val → Val → Bool} : ∀ {x y : List Val}, x.length ≠ y.length → eqL r x y = false
 | [], [], h => absurd rfl h
 | [], _ :: _, _ => rfl
 | _ :: _, [], _ => rfl
 | a :: x, b :: y, h => by rw [eqL, eqL_len (x := x) (y := y) (fun e => h (by simp [e]))]; simp
theorem eqL_no {r : Val → Val → Bool} : ∀ {x y : List Val} (j : Nat) {X Y : Val}, x[j]? = some X → y[j]? = some Y → r X Y = false → eqL r x y = false
 | [], _, j, _, _, h, _, _ => by simp at h
 | _ :: _, [], j, _, _, _, h, _ => by simp at h
 | a :: x, b :: y, 0, X, Y, h1, h2, h => by simp at h1 h2; subst h1 h2; rw [eqL, h]; rfl
 | a :: x, b :: y, j + 1, X, Y, h1, h2, h => by rw [eqL, eqL_no (x := x) (y := y) j (by simpa using h1) (by simpa using h2) h]; simp
theorem eqL_yes {r : Val → Val → Bool} : ∀ {x y : List Val}, x.length = y.length → (∀ (j : Nat) (X Y : Val), x[j]? = some X → y[j]? = some Y → r X Y = true) → eqL r x y = true
 | [], [], _, _ => rfl
 | [], _ :: _, h, _ => by simp at h
 | _ :: _, [], h, _ => by simp at h
 | a :: x, b :: y, hl, h => by
   rw [eqL, h 0 a b rfl rfl, eqL_yes (x := x) (y := y) (by simpa using hl) (fun j X Y h1 h2 => h (j + 1) X Y (by simpa using h1) (by simpa using h2))]; rfl
set_option maxRecDepth 100000 in
set_option maxHeartbeats 2000000 in
theorem equalFunc_26 (r : Val → Val → Bool) (N : Nat) (hf : ∀ (n : Nat) (A B : Val) (a b : Value) (w : World), sz A + sz B ≤ N → Lies n w A a → Lies n w B b → n ≤ w.heap.size → Calls Tryz.prog 88 #[a, b] w fun e w' => e = .returned (.bool (r A B)) ∧ Below w.heap.size w w')
 {n : Nat} {w : World} {l l' : List Val} {o o' : Option Addr} {cap cap' : Nat} {c c' : Nat → Nat → Value} (hs : szL l + szL l' ≤ N) (hR : Row n w o cap l.length 8 c) (hR' : Row n w o' cap' l'.length 8 c')
 (hE : ∀ j x, l[j]? = some x → Lies n w x (.agg #[c j 0, c j 1, c j 2, c j 3, c j 4, c j 5, c j 6, c j 7])) (hE' : ∀ j x, l'[j]? = some x → Lies n w x (.agg #[c' j 0, c' j 1, c' j 2, c' j 3, c' j 4, c' j 5, c' j 6, c' j 7])) (hn : n ≤ w.heap.size) :
 Calls Tryz.prog 130 #[.slice o l.length cap, .slice o' l'.length cap', .func (.func 88) #[] #[]] w fun e w' => e = .returned (.bool (eqL r l l')) ∧ Below w.heap.size w w' := by
 have l1 := hR.1
 have l2 := hR.2.1
 have l3 := hR'.1
 have l4 := hR'.2.1
 unfold maxLen at l2 l4
 have HF := qh hf
 have HR := qh (And.intro hR (And.intro hR' (And.intro hE hE')))
 clear hR hR' hE hE' hf
 by_cases hl : l.length = l'.length
 · have HL := qh hl
   have g1 : ((l.length : Int) != (l'.length : Int)) = false := by simp [hl]
   clear hl
   go_enter Tryz.func130, Tryz.ntmps130
   go_wp2_with fail
   go_loopw [17] (fun i wr => ∃ j : Nat, j ≤ l.length ∧ i = .int .i64 j ∧ Hid (∀ m X Y, m < j → l[m]? = some X → l'[m]? = some Y → r X Y = true) ∧ Hid (Below w.heap.size w wr)) (fun i _ => l.length - (intOf i).toNat)
   case atStart => exact ⟨0, Nat.zero_le _, rfl, fun _ _ _ h => absurd h (Nat.not_lt_zero _), Below.refl _ _⟩
   case round =>
    obtain ⟨j, hj, rfl, hok, hbr⟩ := hrel
    by_cases hlt : j < l.length
    · have hlt2 : j < l'.length := by have := HL.out; omega
      obtain ⟨X, hX⟩ : ∃ X, l[j]? = some X := ⟨_, List.getElem?_eq_getElem hlt⟩
      obtain ⟨Y, hY⟩ : ∃ Y, l'[j]? = some Y := ⟨_, List.getElem?_eq_getElem hlt2⟩
      obtain ⟨b1, off, oL, oK, cL, cK, c3, e1, _, ⟨y0, y1, y2, y3, y4, y5, y6, y7⟩, OX⟩ := (HR.out.1.below (hbr.out.mono hn)).elv hlt ((HR.out.2.2.1 j X hX).kept (hbr.out.mono hn))
      obtain ⟨b2, off', oL', oK', cL', cK', c3', e2, hb2, ⟨u0, u1, u2, u3, u4, u5, u6, u7⟩, OY⟩ := (HR.out.2.1.below (hbr.out.mono hn)).elv hlt2 ((HR.out.2.2.2 j Y hY).kept (hbr.out.mono hn))
      have hm1 := szL_mem (List.mem_of_getElem? hX)
      have hm2 := szL_mem (List.mem_of_getElem? hY)
      have HX := qh (And.intro hX hY)
      have HW := qh (((Below.refl wr.heap.size wr).alloc (Nat.le_refl _) (bx X oL oK cL cK)).alloc (by simp) (bx Y oL' oK' cL' cK'))
      have hsz := hbr.out.size
      have hb3 : b2 < wr.heap.size := by omega
      have OX2 := qh (And.intro (OX.kept (HW.out.mono (by omega))) (OY.kept (HW.out.mono (by omega))))
      subst e1 e2
      clear hX hY OX OY
      go_wp2_with fail
      with_reducible refine (HF.out n X Y _ _ _ (by omega) OX2.out.1.lies OX2.out.2.lies (by simp; omega)).mono ?_
      rintro e w2 ⟨rfl, b2⟩
      have B2 := qh (hbr.out.trans ((HW.out.trans (b2.mono (by simp; omega))).mono hsz))
      clear b2
      cases hr : r X Y with
      | true =>
        have HE := qh hr
        clear hr
        go_wp2_with fail
        go_roundw
        case rel => exact ⟨j + 1, by omega, by go_num, (fun m X' Y' hm h1 h2 => by
         by_cases e : m = j
         · subst e; rw [HX.out.1] at h1; rw [HX.out.2] at h2; injection h1 with h1; injection h2 with h2; subst h1 h2; exact HE.out
         · exact hok.out m X' Y' (by omega) h1 h2), B2⟩
        case measure => simp [intOf]; omega
      | false =>
        have HE := qh (eqL_no (r := r) j HX.out.1 HX.out.2 hr)
        clear hr
        go_wp2_with fail
        go_ret
        exact ⟨by rw [HE.out]; rfl, B2.out⟩
    · have HX : Hid (eqL r l l' = true) := eqL_yes HL.out (fun m X Y h1 h2 => hok.out m X Y (by have := (List.getElem?_eq_some_iff.1 h1).1; omega) h1 h2)
      go_wp2_with fail
      go_ret
      exact ⟨by rw [HX.out]; rfl, hbr.out⟩
 · have HX : Hid (eqL r l l' = false) := eqL_len hl
   have g1 : ((l.length : Int) != (l'.length : Int)) = true := by simp; omega
   clear hl
   go_enter Tryz.func130, Tryz.ntmps130
   go_wp2_with fail
   go_ret
   exact ⟨by rw [HX.out]; rfl, Below.refl _ _⟩
open Go.RowKit

section
variable {P : Program}
theorem run_storeVar_at (w : World) (g o : Nat) (ty t : TypeId) (cs part : Array Value) (hg : w.heap[g]? = some (.cells cs t (0, 0)))
 (hfit : o + part.size ≤ cs.size) (hi : (P.info? ty).map (·.size) = some part.size) (h1 : part.all (·.oneCell') = true) :
 (storeVar ty ⟨g, o, none⟩ (.agg part)).run P w = .ok () (w.setRow g (cs.toList.take o ++ part.toList ++ cs.toList.drop (o + part.size)).toArray) := by
 have := run_storeCells_at P g o t part.toList 0 cs w hg (by simpa using hfit) (fun v hv => (Array.all_eq_true_iff_forall_mem.1 h1) v (by simpa using hv))
 cases hq : P.info? ty with
 | none => simp [hq] at hi
 | some i =>
   have hs : part.size = i.size := by simp [hq] at hi; omega
   simp only [Nat.add_zero, Array.length_toList] at this
   simp [storeVar, sizeOf, typeInfo, hq, Value.cells, hs, this]
theorem wpList_store_at {ops : Array Oper} {rest : List Oper} {o : Oper} {a : Act} {w : World} {Q : Exit → Act → World → Prop} (hgd : o.guard = none) (ty : TypeId) (x y : Operand) (ho : o.op = .store ty x y)
 (g off : Nat) (hx : a.eval x = .pointer (some ⟨g, off, none⟩)) (part : Array Value) (hy : a.eval y = .agg part) (t : TypeId) (cs : Array Value) (hg : w.heap[g]? = some (.cells cs t (0, 0)))
 (hfit : off + part.size ≤ cs.size) (hi : (P.info? ty).map (·.size) = some part.size) (h1 : part.all (·.oneCell') = true)
 (h : wpList P ops Q rest (a.put o.dst undef) (w.setRow g (cs.toList.take off ++ part.toList ++ cs.toList.drop (off + part.size)).toArray)) : wpList P ops Q (o :: rest) a w :=
 wpList_plain hgd fun _ hK => by
  unfold Oper.wp execOp
  simp only [ho, hx, hy, Instr.storeAt, Instr.sureAddr, Sem.run_bind, Sem.run_pure, Result.andThen_ok, run_storeVar_at w g off ty t cs part hg hfit hi h1]
  exact hK _ _ h
end
def Out (w : World) (g : Nat) (T : TypeId) (len z j : Nat) (C : Nat → Nat → Value) : Prop :=
 ∃ cs : Array Value, w.heap[g]? = some (.cells cs T (0, 0)) ∧ cs.size = len * z ∧ ∀ i, i < j → ∀ m, m < z → cs[i * z + m]? = some (C i m)
theorem Out.lt {w : World} {g : Nat} {T : TypeId} {len z j : Nat} {C : Nat → Nat → Value} (h : Out w g T len z j C) : g < w.heap.size := by
 obtain ⟨cs, h1, _⟩ := h; exact (Array.getElem?_eq_some_iff.1 h1).1
theorem Out.same {w w' : World} {g : Nat} {T : TypeId} {len z j : Nat} {C : Nat → Nat → Value} (h : Out w g T len z j C) (e : w'.heap[g]? = w.heap[g]?) : Out w' g T len z j C := by
 obtain ⟨cs, h1, h2⟩ := h; exact ⟨cs, by rw [e]; exact h1, h2⟩
theorem Out.made (w : World) (T : TypeId) (len z : Nat) (zs : Array Value) (C : Nat → Nat → Value) : Out (w.alloc (.cells (madeCells zs (len * z)) T)) w.heap.size T len z 0 C :=
 ⟨_, heap_alloc_new w _, size_madeCells _ _, fun _ hi => absurd hi (Nat.not_lt_zero _)⟩
theorem splice_get (cs : List Value) (part : List Value) (o i : Nat) (h : o + part.length ≤ cs.length) :
 (cs.take o ++ part ++ cs.drop (o + part.length))[i]? = if i < o then cs[i]? else if i < o + part.length then part[i - o]? else cs[i]? := by
 have l1 : (cs.take o).length = o := by rw [List.length_take]; omega
 by_cases h1 : i < o
 · rw [if_pos h1, List.append_assoc, List.getElem?_append_left (by omega), List.getElem?_take_of_lt h1]
 · rw [if_neg h1]
   by_cases h2 : i < o + part.length
   · rw [if_pos h2, List.getElem?_append_left (by rw [List.length_append]; omega), List.getElem?_append_right (by omega), l1]
   · rw [if_neg h2, List.getElem?_append_right (by rw [List.length_append]; omega), List.length_append, l1, List.getElem?_drop]
     congr 1; omega
theorem Out.store {w : World} {g : Nat} {T : TypeId} {len z j : Nat} {C : Nat → Nat → Value} {cs : Array Value} {part : Array Value} (h1 : w.heap[g]? = some (.cells cs T (0, 0))) (h2 : cs.size = len * z)
 (h3 : ∀ i, i < j → ∀ m, m < z → cs[i * z + m]? = some (C i m)) (hj : j < len) (hp : part.size = z) (D : Nat → Value) (hD : ∀ m, m < z → part[m]? = some (D m)) :
 Out (w.setRow g (cs.toList.take (j * z) ++ part.toList ++ cs.toList.drop (j * z + part.size)).toArray) g T len z (j + 1) (fun i m => if i = j then D m else C i m) := by
 have hjz : j * z + z ≤ len * z := by rw [← Nat.succ_mul]; exact Nat.mul_le_mul_right z hj
 refine ⟨_, setRow_heap w g _ _ T _ h1, ?_, fun i hi m hm => ?_⟩
 · simp only [List.size_toArray, List.length_append, List.length_take, List.length_drop, Array.length_toList]; omega
 · have hs := splice_get cs.toList part.toList (j * z) (i * z + m) (by simp only [Array.length_toList]; omega)
   simp only [Array.length_toList] at hs
   rw [List.getElem?_toArray, hs]
   show _ = some (if i = j then D m else C i m)
   by_cases e : i = j
   · subst e
     rw [if_neg (by omega), if_pos (by omega), if_pos rfl, Nat.add_sub_cancel_left, Array.getElem?_toList]
     exact hD m hm
   · have : i < j := by omega
     have h4 : i * z + z ≤ j * z := by rw [← Nat.succ_mul]; exact Nat.mul_le_mul_right z this
     rw [if_pos (by omega), if_neg e, Array.getElem?_toList]
     exact h3 i this m hm
theorem setRow_oth (w : World) (g : Nat) (cs : Array Value) (k : Nat) (h : k ≠ g) : (w.setRow g cs).heap[k]? = w.heap[k]? := by
 simp only [World.setRow, Array.getElem?_modify]
 rw [if_neg (fun e => h e.symm)]
open Go.RowKit

abbrev FrV (w w' : World) : Nat → Prop := fun b => w.heap.size ≤ b ∧ b < w'.heap.size
def Mine (lo : Nat) (w : World) (o : Option Addr) (T : TypeId) (len z : Nat) : Prop := (o = none ∧ len = 0) ∨ ∃ g C, o = some ⟨g, 0, none⟩ ∧ lo ≤ g ∧ Out w g T len z len C
def CpPost (V : Val) (w : World) (e : Ending) (w' : World) : Prop :=
 ∃ (oL oK : Option Addr) (cL cK : Nat) (c : Nat → Nat → Value), e = .returned (vv V.k V.i V.s (.slice oL V.l.length cL) (.slice oK V.ks.length cK) V.tk V.to V.x) ∧ OpnP (FrV w w') w' V oL oK cL cK c ∧ Mine w.heap.size w' oL 33 V.l.length 8 ∧ Mine w.heap.size w' oK 9 V.ks.length 1 ∧ Below w.heap.size w w'
def AnPost (l : List Val) (w : World) (e : Ending) (w' : World) : Prop :=
 ∃ (o : Option Addr) (cap : Nat) (c : Nat → Nat → Value), e = .returned (.slice o l.length cap) ∧ RowP (FrV w w') w' o cap l.length 8 c ∧ (∀ j x, l[j]? = some x → LiesP (FrV w w') w' x (.agg #[c j 0, c j 1, c j 2, c j 3, c j 4, c j 5, c j 6, c j 7])) ∧ Mine w.heap.size w' o 33 l.length 8 ∧ Below w.heap.size w w'
theorem info27 : (Tryz.prog.info? 33).map (fun i => (i.zero, i.size, i.bytes)) = some (some (.agg #[.int .i64 0, .int .i64 0, .string ⟨#[]⟩, .slice none 0 0, .slice none 0 0, .int .i64 0, .int .i64 0, .bool false]), 8, 104) := by kernel_rfl
theorem make27 (len : Nat) (h : len ≤ 60000) (w : World) : (Instr.makeSlice 29 (.int .i64 len) (.int .i64 len)).run Tryz.prog w = .ok (.slice (some ⟨w.heap.size, 0, none⟩) len len) (w.alloc (.cells (madeCells #[.int .i64 0, .int .i64 0, .string ⟨#[]⟩, .slice none 0 0, .slice none 0 0, .int .i64 0, .int .i64 0, .bool false] (len * 8)) 33)) := by
 obtain ⟨i, hi, hzz⟩ := Option.map_eq_some_iff.1 info27
 simp only [Prod.mk.injEq] at hzz
 obtain ⟨hz, hs, hb⟩ := hzz
 have hr := run_make (P := Tryz.prog) w 29 33 i _ Tryz.underlying29 hi hz .i64 .i64 len len (by omega) (Int.le_refl _) (by rw [hb]; omega) (by omega)
 simp only [Int.toNat_natCast, hs] at hr
 exact hr
def AnRel (l : List Val) (tr : Val → Val) (n g : Nat) (w0 : World) (j : Nat) (wr : World) : Prop :=
 Below n w0 wr ∧ ∃ C, Out wr g 33 l.length 8 j C ∧ ∀ i x, i < j → l[i]? = some x → LiesP (fun b => g < b ∧ b < wr.heap.size) wr (tr x) (.agg #[C i 0, C i 1, C i 2, C i 3, C i 4, C i 5, C i 6, C i 7])
theorem an_end {l : List Val} {tr : Val → Val} {w wr : World} {C : Nat → Nat → Value} (hb : Below w.heap.size w wr) (hO : Out wr w.heap.size 33 l.length 8 l.length C)
 (hE : ∀ i x, i < l.length → l[i]? = some x → LiesP (fun b => w.heap.size < b ∧ b < wr.heap.size) wr (tr x) (.agg #[C i 0, C i 1, C i 2, C i 3, C i 4, C i 5, C i 6, C i 7])) (hl : l.length ≤ 60000) : AnPost (l.map tr) w (.returned (.slice (some ⟨w.heap.size, 0, none⟩) l.length l.length)) wr := by
 refine ⟨some ⟨w.heap.size, 0, none⟩, l.length, C, by rw [List.length_map], ⟨by rw [List.length_map]; exact Nat.le_refl _, by unfold maxLen; omega, (fun h => by cases h), fun _ => ?_⟩, fun j x hx => ?_, .inr ⟨w.heap.size, C, rfl, Nat.le_refl _, by rw [List.length_map]; exact hO⟩, hb⟩
 · refine ⟨_, _, rfl, ⟨Nat.le_refl _, hO.lt⟩, fun j hj m hm => ?_⟩
   rw [List.length_map] at hj
   obtain ⟨cs, h1, h2, h3⟩ := hO
   rw [cell_of_row wr w.heap.size _ cs 33 (0, 0) h1, Nat.zero_add]
   exact h3 j hj m hm
 · rw [List.getElem?_map] at hx
   obtain ⟨y, hy, rfl⟩ := Option.map_eq_some_iff.1 hx
   exact (hE j y (List.getElem?_eq_some_iff.1 hy).1 hy).mono fun k hk => ⟨by omega, hk.2⟩
theorem oneCell8 (X : Val) (oL oK : Option Addr) (a b cL cK : Nat) : (#[Value.int .i64 X.k, .int .i64 X.i, .string X.s, .slice oL a cL, .slice oK b cK, .int .i64 X.tk, .int .i64 X.to, .bool X.x] : Array Value).all (·.oneCell') = true := by simp [Value.oneCell']
theorem OpnP.mono {P P' : Nat → Prop} {w : World} {V : Val} {oL oK : Option Addr} {cL cK : Nat} {c : Nat → Nat → Value} (h : OpnP P w V oL oK cL cK c) (b : ∀ k, P k → P' k) : OpnP P' w V oL oK cL cK c :=
 ⟨h.wk, h.wi, h.wtk, h.wto, h.ws, h.wks, h.L.mono b, h.K.mono b, fun j x hx => (h.el j x hx).mono b⟩
theorem AnRel.step {l : List Val} {tr : Val → Val} {n g : Nat} {w0 wr w1 : World} {j : Nat} {oL oK : Option Addr} {cL cK : Nat} {c : Nat → Nat → Value} {C : Nat → Nat → Value} {cs : Array Value} {X : Val} {B : Nat} (hn : n ≤ g) (hX : l[j]? = some X)
 (hb : Below n w0 w1) (hO : OpnP (fun b => g < b ∧ b < w1.heap.size) w1 (tr X) oL oK cL cK c) (h1 : w1.heap[g]? = some (.cells cs 33 (0, 0))) (h2 : cs.size = l.length * 8) (h3 : ∀ i, i < j → ∀ m, m < 8 → cs[i * 8 + m]? = some (C i m))
 (hold : ∀ i x, i < j → l[i]? = some x → LiesP (fun b => g < b ∧ b < B) wr (tr x) (.agg #[C i 0, C i 1, C i 2, C i 3, C i 4, C i 5, C i 6, C i 7])) (hB : B ≤ w1.heap.size) (hw : ∀ k, k < B → w1.heap[k]? = wr.heap[k]?) (part : Array Value) (hp : part = #[.int .i64 (tr X).k, .int .i64 (tr X).i, .string (tr X).s, .slice oL (tr X).l.length cL, .slice oK (tr X).ks.length cK, .int .i64 (tr X).tk, .int .i64 (tr X).to, .bool (tr X).x]) :
 AnRel l tr n g w0 (j + 1) (w1.setRow g (cs.toList.take (j * 8) ++ part.toList ++ cs.toList.drop (j * 8 + part.size)).toArray) := by
 have hj : j < l.length := by obtain ⟨h, _⟩ := List.getElem?_eq_some_iff.1 hX; exact h
 refine ⟨below_setRow hb hn _, _, Out.store h1 h2 h3 hj (by rw [hp]; rfl) (fun m => part[m]?.getD undef) (fun m hm => ?_), fun i x hi hx => ?_⟩
 · have : m < part.size := by rw [hp]; exact hm
   simp [this]
 · by_cases e : i = j
   · subst e
     rw [hX] at hx; injection hx with hx; subst hx
     simp only [if_true]
     rw [hp]
     exact hO.lies.keptP fun k hk => ⟨⟨hk.1, by simpa using hk.2⟩, setRow_oth _ _ _ _ (by omega)⟩
   · simp only [if_neg e]
     exact (hold i x (by omega) hx).keptP fun k hk => ⟨⟨hk.1, by rw [size_setRow]; omega⟩, (setRow_oth _ _ _ _ (by omega)).trans (hw k hk.2)⟩
set_option maxRecDepth 100000 in
set_option maxHeartbeats 2000000 in
theorem anew_18 (tr : Val → Val) (N : Nat) (hN : N ≤ 60000) (hf : ∀ (n : Nat) (V : Val) (v : Value) (w : World), sz V ≤ N → Lies n w V v → n ≤ w.heap.size → Calls Tryz.prog 90 #[v] w (CpPost (tr V) w))
 {n : Nat} {w : World} {l : List Val} {o : Option Addr} {cap : Nat} {c : Nat → Nat → Value} (hl : szL l ≤ N) (hR : Row n w o cap l.length 8 c) (hE : ∀ j x, l[j]? = some x → Lies n w x (.agg #[c j 0, c j 1, c j 2, c j 3, c j 4, c j 5, c j 6, c j 7])) (hn : n ≤ w.heap.size) :
 Calls Tryz.prog 159 #[.slice o l.length cap, .func (.func 90) #[] #[]] w (AnPost (l.map tr) w) := by
 have hlen := szL_len l
 have hc := hR.1
 have hm := hR.2.1
 have hnil := fun (w : World) (a : Option Addr) (n c : Nat) => Lib.run_eql_slice_nil (P := Tryz.prog) w 29 33 a n c 0 0 Tryz.underlying29
 unfold maxLen at hm
 cases o with
 | none =>
   have h0 : cap = 0 := hR.2.2.1 rfl
   have h1 : l.length = 0 := by omega
   have h2 : l = [] := List.length_eq_zero_iff.1 h1
   subst h2
   subst h0
   clear hR hE hf hl hlen h1 hc hm
   go_enter Tryz.func159, Tryz.ntmps159
   go_wp2
   go_ret
   exact ⟨none, 0, c, rfl, rowP_nil _ _ _ _, fun j x h => by simp at h, .inl ⟨rfl, rfl⟩, Below.refl _ _⟩
 | some a =>
   have HF := qh (And.intro hf (And.intro hR hE))
   have hmk := make27 l.length (by omega)
   clear hf hR hE
   have HO : Hid (AnRel l tr w.heap.size w.heap.size w 0 (w.alloc (.cells (madeCells #[.int .i64 0, .int .i64 0, .string ⟨#[]⟩, .slice none 0 0, .slice none 0 0, .int .i64 0, .int .i64 0, .bool false] (l.length * 8)) 33))) :=
    ⟨(Below.refl _ _).alloc (Nat.le_refl _) _, fun _ _ => undef, Out.made _ _ _ _ _ _, fun i x h => absurd h (Nat.not_lt_zero _)⟩
   go_enter Tryz.func159, Tryz.ntmps159
   go_wp2_with fail
   generalize w.alloc (.cells (madeCells _ _) 33) = w0 at *
   clear hmk
   go_loopw [15] (fun i wr => ∃ j : Nat, j ≤ l.length ∧ i = .int .i64 j ∧ Hid (AnRel l tr w.heap.size w.heap.size w j wr)) (fun i _ => l.length - (intOf i).toNat)
   case atStart => exact ⟨0, Nat.zero_le _, rfl, HO⟩
   case round =>
    obtain ⟨j, hj, rfl, HR⟩ := hrel
    by_cases hlt : j < l.length
    · obtain ⟨X, hX⟩ : ∃ X, l[j]? = some X := ⟨_, List.getElem?_eq_getElem hlt⟩
      have BN := qh (HR.out.1.mono hn)
      obtain ⟨b', off', oL3, oK3, cL3, cK3, c3, e1, hb', ⟨y0, y1, y2, y3, y4, y5, y6, y7⟩, OX⟩ := (HF.out.2.1.below BN.out).elv hlt ((HF.out.2.2 j X hX).kept BN.out)
      injection e1 with e1
      subst e1
      have HX := qh hX
      have hmem := szL_mem (List.mem_of_getElem? hX)
      have OX2 := qh OX
      have HW3 := qh ((Below.refl wr.heap.size wr).alloc (Nat.le_refl _) (bx X oL3 oK3 cL3 cK3))
      clear hX OX
      go_wp2_with fail
      have hsz := HR.out.1.size
      refine (HF.out.1 n X _ _ (by omega) (OX2.out.kept (HW3.out.mono (by omega))).lies (by simp; omega)).mono ?_
      rintro e w1 ⟨oL, oK, cL, cK, c1, rfl, hO, _, _, b1⟩
      have hs1 := b1.size
      simp only [World.size_alloc] at hs1
      obtain ⟨hb2, C, ⟨cs, h1, h2, h3⟩, hold⟩ := HR.out
      have hgl : w.heap.size < wr.heap.size := (Array.getElem?_eq_some_iff.1 h1).1
      have hk : ∀ k, k < wr.heap.size → w1.heap[k]? = wr.heap[k]? := fun k hk => (b1.block k (by simp; omega)).trans (Below.heap_alloc _ _ _ hk)
      have h1' : w1.heap[w.heap.size]? = some (.cells cs 33 (0, 0)) := (hk _ hgl).trans h1
      have HS := qh (AnRel.step (Nat.le_refl _) HX.out ((hb2.trans (HW3.out.mono (by omega))).trans (b1.mono (by simp; omega))) (hO.mono fun k h => ⟨by have := h.1; simp at this; omega, h.2⟩) h1' h2 h3 hold (by omega) hk _ rfl)
      have H1 := qh (And.intro h1' h2)
      clear h1 h1' h2 h3 hold hb2 hO hk b1
      go_wp2_with ((with_reducible refine wpList_store_at rfl 33 (.tmp 25) (.tmp 24) rfl w.heap.size (j * 8) rfl _ rfl 33 cs H1.out.1 ?st1 ?st2 ?st3 ?st4); case' st4 => generalize World.setRow _ _ _ = W at *)
      case st1 => have := H1.out.2; have : (j + 1) * 8 ≤ l.length * 8 := Nat.mul_le_mul_right 8 hlt; simp; omega
      case st2 => kernel_rfl
      case st3 => exact oneCell8 _ _ _ _ _ _ _
      go_roundw
      case rel => exact ⟨j + 1, by omega, by go_num, HS⟩
      case measure => simp [intOf]; omega
    · have hjl : j = l.length := by omega
      subst hjl
      obtain ⟨hb2, C, hO, hold⟩ := HR.out
      have HQ := qh (And.intro hb2 (And.intro hO hold))
      clear hb2 hO hold
      go_wp2_with fail
      go_ret
      exact an_end HQ.out.1 HQ.out.2.1 HQ.out.2.2 (by omega)
end Go.Proofs.YtncjncacfagldaaGreatDoor

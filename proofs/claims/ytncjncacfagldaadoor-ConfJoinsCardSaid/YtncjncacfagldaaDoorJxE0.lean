/- Further texts. -/
import Derived.Test.YtncjncacfagldaaDoorWI
import Derived.WalkKit
import Derived.Below
import Derived.WalkSmall
import Derived.LoopTactic
import Derived.RegionTactic
import Derived.ChangeAlike
import Derived.BigGuardPart
import Derived.Deep.QuietTactic
import Derived.BigQuiet
import Derived.Outline
import Derived.Lib.Hide
import Derived.Handy
import Derived.WalkLawsBesides
import Derived.WalkSpells
import Derived.Deep.DeepMust
import Derived.Deep.DeepFit
import Derived.StillTailTactics
import Derived.Laws.StructEq
import Derived.BigRegion
import Derived.Deep.Cut
import Derived.Test.YtncjncacfagldaaDoorWXA
import Derived.Test.YtncjncacfagldaaDoorWZe
import Derived.Test.YtncjncacfagldaaDoorWXF
import Derived.Test.YtncjncacfagldaaDoorWXM
import Derived.Test.YtncjncacfagldaaDoorWXN
import Derived.Test.YtncjncacfagldaaDoorWC0
import Derived.Test.YtncjncacfagldaaDoorWJA
import Derived.Test.YtncjncacfagldaaDoorWCZ
import Derived.Test.YtncjncacfagldaaDoorWKE
import Derived.Test.YtncjncacfagldaaDoorWKD
/- Plain mathematics: values as trees; how much they hold, their weight and depth; when two are the same. -/
namespace Go.Proofs.YtncjncacfagldaaDoor

theorem sz_pos (V : Val) : 1 ≤ sz V := by cases V; unfold sz; omega
theorem szL_mem {l : List Val} {x : Val} (h : x ∈ l) : sz x ≤ szL l := by
  induction l with
  | nil => cases h
  | cons a r ih =>
    rw [szL]
    rcases List.mem_cons.1 h with rfl | h
    · omega
    · have := ih h; omega
theorem sz_eq (V : Val) : sz V = 1 + V.ks.length + szL V.l := by cases V; rw [sz]; rfl
theorem sz_mem {V x : Val} (h : x ∈ V.l) : sz x < sz V := by rw [sz_eq V]; have := szL_mem h; omega
/-- induction on what a value holds -/
theorem val_ind {P : Val → Prop} (h : ∀ V, (∀ x, x ∈ V.l → P x) → P V) (V : Val) : P V := by
  have : ∀ n V, sz V ≤ n → P V := by
    intro n
    induction n with
    | zero => intro V hV; have := sz_pos V; omega
    | succ n ih => intro V hV; exact h V fun x hx => ih x (by have := sz_mem hx; omega)
  exact this _ V (Nat.le_refl _)
theorem sizeOf_mem_l {V x : Val} (h : x ∈ V.l) : SizeOf.sizeOf x < SizeOf.sizeOf V := by
  cases V
  have := List.sizeOf_lt_of_mem h
  simp [Val.l] at *
  omega

end Go.Proofs.YtncjncacfagldaaDoor

/- How a value lies in memory. -/
namespace Go.Proofs.YtncjncacfagldaaDoor
open Go.RowKit

theorem OpnP.lies {P : Nat → Prop} {w : World} {V : Val} {oL oK : Option Addr} {cL cK : Nat} {c : Nat → Nat → Value} (h : OpnP P w V oL oK cL cK c) : LiesP P w V (vv V.k V.i V.s (.slice oL V.l.length cL) (.slice oK V.ks.length cK) V.tk V.to V.x) :=
  .mk V oL oK cL cK c h.wk h.wi h.wtk h.wto h.ws h.wks h.L h.K h.el
theorem LiesP.inv {P : Nat → Prop} {w : World} {V : Val} {v : Value} (h : LiesP P w V v) : ∃ (oL oK : Option Addr) (cL cK : Nat) (c : Nat → Nat → Value),
    v = vv V.k V.i V.s (.slice oL V.l.length cL) (.slice oK V.ks.length cK) V.tk V.to V.x ∧ OpnP P w V oL oK cL cK c := by
  cases h with
  | mk _ oL oK cL cK c wk wi wtk wto ws wks hL hK he => exact ⟨oL, oK, cL, cK, c, rfl, wk, wi, wtk, wto, ws, wks, hL, hK, he⟩
/-- eight cells from p on -/
structure E8 (w : World) (b p : Nat) (c : Nat → Value) : Prop where
  c0 : w.cell? ⟨b, p, none⟩ = some (c 0)
  c1 : w.cell? ⟨b, p + 1, none⟩ = some (c 1)
  c2 : w.cell? ⟨b, p + 2, none⟩ = some (c 2)
  c3 : w.cell? ⟨b, p + 3, none⟩ = some (c 3)
  c4 : w.cell? ⟨b, p + 4, none⟩ = some (c 4)
  c5 : w.cell? ⟨b, p + 5, none⟩ = some (c 5)
  c6 : w.cell? ⟨b, p + 6, none⟩ = some (c 6)
  c7 : w.cell? ⟨b, p + 7, none⟩ = some (c 7)
/-- the cells of element j -/
theorem RowP.el8 {P : Nat → Prop} {w : World} {o : Option Addr} {cap len : Nat} {c : Nat → Nat → Value} (h : RowP P w o cap len 8 c) {j : Nat} (hj : j < len) : ∃ b off, o = some ⟨b, off, none⟩ ∧ P b ∧ E8 w b (off + j * 8) (c j) := by
  obtain ⟨_, _, _, h4⟩ := h
  obtain ⟨b, off, e, hb, hc⟩ := h4 (by omega)
  exact ⟨b, off, e, hb, hc j hj 0 (by omega), hc j hj 1 (by omega), hc j hj 2 (by omega), hc j hj 3 (by omega), hc j hj 4 (by omega), hc j hj 5 (by omega), hc j hj 6 (by omega), hc j hj 7 (by omega)⟩
/-- the cells of a value X from p on -/
structure EV (w : World) (b p : Nat) (X : Val) (oL oK : Option Addr) (cL cK : Nat) : Prop where
  c0 : w.cell? ⟨b, p, none⟩ = some (.int .i64 X.k)
  c1 : w.cell? ⟨b, p + 1, none⟩ = some (.int .i64 X.i)
  c2 : w.cell? ⟨b, p + 2, none⟩ = some (.string X.s)
  c3 : w.cell? ⟨b, p + 3, none⟩ = some (.slice oL X.l.length cL)
  c4 : w.cell? ⟨b, p + 4, none⟩ = some (.slice oK X.ks.length cK)
  c5 : w.cell? ⟨b, p + 5, none⟩ = some (.int .i64 X.tk)
  c6 : w.cell? ⟨b, p + 6, none⟩ = some (.int .i64 X.to)
  c7 : w.cell? ⟨b, p + 7, none⟩ = some (.bool X.x)
theorem RowP.elv {P : Nat → Prop} {w : World} {o : Option Addr} {cap len : Nat} {c : Nat → Nat → Value} (h : RowP P w o cap len 8 c) {j : Nat} (hj : j < len) {X : Val} (hx : LiesP P w X (.agg #[c j 0, c j 1, c j 2, c j 3, c j 4, c j 5, c j 6, c j 7])) :
    ∃ (b off : Nat) (oL oK : Option Addr) (cL cK : Nat) (c' : Nat → Nat → Value), o = some ⟨b, off, none⟩ ∧ P b ∧ EV w b (off + j * 8) X oL oK cL cK ∧ OpnP P w X oL oK cL cK c' := by
  obtain ⟨b, off, e, hb, y0, y1, y2, y3, y4, y5, y6, y7⟩ := h.el8 hj
  obtain ⟨oL, oK, cL, cK, c', ev, O⟩ := hx.inv
  simp only [Value.agg.injEq] at ev
  have ev2 := congrArg Array.toList ev
  simp only [List.cons.injEq, and_true] at ev2
  obtain ⟨e0, e1, e2, e3, e4, e5, e6, e7⟩ := ev2
  exact ⟨b, off, oL, oK, cL, cK, c', e, hb, ⟨by rw [y0, e0], by rw [y1, e1], by rw [y2, e2], by rw [y3, e3], by rw [y4, e4], by rw [y5, e5], by rw [y6, e6], by rw [y7, e7]⟩, O⟩
end Go.Proofs.YtncjncacfagldaaDoor

/- slices.Equal of texts; slices.EqualFunc of values. -/
namespace Go.Proofs.YtncjncacfagldaaDoor
open Go.RowKit

/-- two rows of keys are the same -/
def eqK (a b : List ByteArray) : Bool := decide (a = b)
theorem kk_ext {a b : List ByteArray} (hl : a.length = b.length) (h : ∀ j, j < a.length → kk a j = kk b j) : a = b := by
  apply List.ext_getElem hl
  intro j h1 h2
  have := h j h1
  unfold kk at this
  rw [List.getD_eq_getElem?_getD, List.getD_eq_getElem?_getD, List.getElem?_eq_getElem h1, List.getElem?_eq_getElem h2] at this
  exact this
theorem str_eq {a b : ByteArray} (h : a = b) : (a.toList == b.toList) = true ∧ (a.toList != b.toList) = false := by subst h; simp
theorem toList_inj {a b : ByteArray} (h : a.toList = b.toList) : a = b := by
  rw [ByteArray.toList_eq, ByteArray.toList_eq] at h
  obtain ⟨x⟩ := a; obtain ⟨y⟩ := b
  congr 1
  exact Array.toList_inj.1 h
theorem str_ne {a b : ByteArray} (h : a ≠ b) : (a.toList == b.toList) = false ∧ (a.toList != b.toList) = true := by
  have : a.toList ≠ b.toList := fun e => h (toList_inj e)
  simp [this]
/-- two rows of values are alike, one by one -/
def eqL (r : Val → Val → Bool) : List Val → List Val → Bool
  | [], [] => true
  | a :: x, b :: y => r a b && eqL r x y
  | _, _ => false
theorem eqL_len {r : Val → Val → Bool} : ∀ {x y : List Val}, x.length ≠ y.length → eqL r x y = false
  | [], [], h => absurd rfl h
  | [], _ :: _, _ => rfl
  | _ :: _, [], _ => rfl
  | a :: x, b :: y, h => by rw [eqL, eqL_len (x := x) (y := y) (fun e => h (by simp [e]))]; simp
theorem eqL_no {r : Val → Val → Bool} : ∀ {x y : List Val} (j : Nat) {X Y : Val}, x[j]? = some X → y[j]? = some Y → r X Y = false → eqL r x y = false
  | [], _, j, _, _, h, _, _ => by simp at h
  | _ :: _, [], j, _, _, _, h, _ => by simp at h
  | a :: x, b :: y, 0, X, Y, h1, h2, h => by simp at h1 h2; subst h1 h2; rw [eqL, h]; rfl
  | a :: x, b :: y, j + 1, X, Y, h1, h2, h => by rw [eqL, eqL_no (x := x) (y := y) j (by simpa using h1) (by simpa using h2) h]; simp
theorem eqL_yes {r : Val → Val → Bool} : ∀ {x y : List Val}, x.length = y.length → (∀ (j : Nat) (X Y : Val), x[j]? = some X → y[j]? = some Y → r X Y = true) → eqL r x y = true
  | [], [], _, _ => rfl
  | [], _ :: _, h, _ => by simp at h
  | _ :: _, [], h, _ => by simp at h
  | a :: x, b :: y, hl, h => by
    rw [eqL, h 0 a b rfl rfl, eqL_yes (x := x) (y := y) (by simpa using hl) (fun j X Y h1 h2 => h (j + 1) X Y (by simpa using h1) (by simpa using h2))]; rfl
end Go.Proofs.YtncjncacfagldaaDoor
/- Like. -/
namespace Go.Proofs.YtncjncacfagldaaDoor
open Go.RowKit

def eqLF : List (Val → Bool) → List Val → Bool
  | [], [] => true
  | f :: x, b :: y => f b && eqLF x y
  | _, _ => false
theorem eqLF_map (r : Val → Val → Bool) : ∀ x y, eqLF (x.map r) y = eqL r x y
  | [], [] => rfl
  | [], _ :: _ => rfl
  | _ :: _, [] => rfl
  | a :: x, b :: y => by rw [List.map_cons, eqLF, eqL, eqLF_map r x y]

def ownB (q i : Int) (s : ByteArray) (t1 t2 : Int) (a : List ByteArray) (q' i' : Int) (s' : ByteArray) (t1' t2' : Int) (b : List ByteArray) : Bool :=
  decide (q = q') && decide (i = i') && decide (s = s') && decide (t1 = t1') && decide (t2 = t2') && eqK a b
theorem ret_b4 {a b : Bool} (h : a = b) : Ending.returned (.bool a) = .returned (.bool b) := by rw [h]
/-- the same, with marks (m) or without -/
def sameV (m : Bool) (A B : Val) : Bool := (!m || (A.x == B.x)) && (ownB A.k A.i A.s A.tk A.to A.ks B.k B.i B.s B.tk B.to B.ks && eqLF (A.l.attach.map fun x => fun Y => sameV m x.1 Y) B.l)
termination_by SizeOf.sizeOf A
decreasing_by exact sizeOf_mem_l x.2
theorem sameV_eq (m : Bool) (A B : Val) : sameV m A B = ((!m || (A.x == B.x)) && (ownB A.k A.i A.s A.tk A.to A.ks B.k B.i B.s B.tk B.to B.ks && eqL (sameV m) A.l B.l)) := by
  rw [sameV]
  have : (A.l.attach.map fun x => fun Y => sameV m x.1 Y) = A.l.map (sameV m) := by
    rw [show (fun x : { x // x ∈ A.l } => fun Y => sameV m x.1 Y) = fun x => sameV m x.1 from rfl]
    simp
  rw [this, eqLF_map]
end Go.Proofs.YtncjncacfagldaaDoor

/- The reference's Same with marks, of any two values. -/
namespace Go.Proofs.YtncjncacfagldaaDoor
open Go.RowKit

theorem same_no_own {A B : Val} (h : ownB A.k A.i A.s A.tk A.to A.ks B.k B.i B.s B.tk B.to B.ks = false) : sameV true A B = false := by rw [sameV_eq, h, Bool.false_and, Bool.and_false]
theorem same_no_l {A B : Val} (h : eqL (sameV true) A.l B.l = false) : sameV true A B = false := by rw [sameV_eq, h, Bool.and_false, Bool.and_false]
theorem own_yes {A B : Val} (h0 : A.k = B.k) (h1 : A.i = B.i) (h2 : A.s = B.s) (h3 : A.tk = B.tk) (h4 : A.to = B.to) (h5 : A.ks = B.ks) : ownB A.k A.i A.s A.tk A.to A.ks B.k B.i B.s B.tk B.to B.ks = true := by
  unfold ownB eqK
  simp [h0, h1, h2, h3, h4, h5]
theorem int_eq {a b : Int} (h : a = b) : (a == b) = true ∧ (a != b) = false := by subst h; simp
theorem int_ne {a b : Int} (h : a ≠ b) : (a == b) = false ∧ (a != b) = true := ⟨by rw [beq_eq_false_iff_ne]; exact h, by rw [bne_iff_ne]; exact h⟩
set_option maxHeartbeats 8000000 in
set_option maxRecDepth 100000 in
theorem same24_any (N : Nat) : ∀ (n : Nat) (A B : Val) (a b : Value) (w : World), sz A + sz B ≤ N → Lies n w A a → Lies n w B b → n ≤ w.heap.size →
    Calls Tryd.prog 24 #[a, b, .bool true] w fun e w' => e = .returned (.bool (sameV true A B)) ∧ Below w.heap.size w w' := by
  induction N with
  | zero => intro n A B a b w hs; have := sz_pos A; omega
  | succ N ih =>
    intro n A B a b w hs ha hb hn
    obtain ⟨oL, oK, cL, cK, c, rfl, O⟩ := ha.inv
    obtain ⟨oL', oK', cL', cK', c', rfl, O'⟩ := hb.inv
    have IH := Lib.hid ih
    have l1 := O.L.1
    have l2 := O.L.2.1
    have l3 := O.K.1
    have l4 := O.K.2.1
    have l5 := O'.L.1
    have l6 := O'.L.2.1
    have l7 := O'.K.1
    have l8 := O'.K.2.1
    unfold maxLen at l2 l4 l6 l8
    have HB := Lib.hid ((Hd.made w A (.slice oL A.l.length cL) (.slice oK A.ks.length cK)).kept ((Below.refl (w.heap.size + 1) _).alloc (by simp) (bx B oL' oK' cL' cK')) (Nat.lt_succ_self _))
    have HB' : Hid (Hd ((w.alloc (bx A oL oK cL cK)).alloc (bx B oL' oK' cL' cK')) (w.heap.size + 1) B (.slice oL' B.l.length cL') (.slice oK' B.ks.length cK')) := by have := Hd.made (w.alloc (bx A oL oK cL cK)) B (.slice oL' B.l.length cL') (.slice oK' B.ks.length cK'); rw [World.size_alloc] at this; exact this
    have HW := Lib.hid (((Below.refl w.heap.size w).alloc (Nat.le_refl _) (bx A oL oK cL cK)).alloc (by simp) (bx B oL' oK' cL' cK'))
    have HZ : Hid (((w.alloc (bx A oL oK cL cK)).alloc (bx B oL' oK' cL' cK')).heap.size = w.heap.size + 2) := by simp [Hid]
    have H := Lib.hid (And.intro (O.kept (HW.out.mono hn)) (O'.kept (HW.out.mono hn)))
    have HNO := Lib.hid (fun h => same_no_own (A := A) (B := B) h)
    have HNX : Hid ((A.x == B.x) = false → sameV true A B = false) := fun h => by rw [sameV_eq, h]; rfl
    have HNL := Lib.hid (fun h => same_no_l (A := A) (B := B) h)
    have HYES : Hid (A.k = B.k → A.i = B.i → A.s = B.s → A.tk = B.tk → A.to = B.to → A.ks = B.ks → (A.x == B.x) = true → eqL (sameV true) A.l B.l = true → sameV true A B = true) := fun h0 h1 h2 h3 h4 h5 hx h6 => by rw [sameV_eq, own_yes h0 h1 h2 h3 h4 h5, h6, hx]; rfl
    generalize sameV true A B = R at *
    clear ha hb ih O O'
    go_enter Tryd.func24, Tryd.ntmps24
    go_upto_region 1 with (fail)
    generalize (w.alloc _).alloc _ = w0 at *
    obtain ⟨x8, x0, x1, x2, x3, x4, x5, x6, x7⟩ := HB.out
    obtain ⟨z8, z0, z1, z2, z3, z4, z5, z6, z7⟩ := HB'.out
    by_cases h0 : A.k = B.k
    case neg =>
      have HR : Hid (R = false) := HNO.out (by unfold ownB; rw [decide_eq_false h0]; rfl)
      obtain ⟨g1, g2⟩ := int_ne h0
      clear h0
      go_wp2_with fail
      go_ret
      exact ⟨by rw [HR.out]; rfl, HW.out⟩
    have H0 := Lib.hid h0
    obtain ⟨g1, g2⟩ := int_eq h0
    clear h0
    by_cases h0 : A.i = B.i
    case neg =>
      have HR : Hid (R = false) := HNO.out (by unfold ownB; rw [decide_eq_false h0, Bool.and_false]; rfl)
      obtain ⟨g3, g4⟩ := int_ne h0
      clear h0
      go_wp2_with fail
      go_ret
      exact ⟨by rw [HR.out]; rfl, HW.out⟩
    have H1 := Lib.hid h0
    obtain ⟨g3, g4⟩ := int_eq h0
    clear h0
    by_cases h0 : A.s = B.s
    case neg =>
      have HR : Hid (R = false) := HNO.out (by unfold ownB; rw [decide_eq_false h0, Bool.and_false]; rfl)
      obtain ⟨g5, g6⟩ := str_ne h0
      clear h0
      go_wp2_with fail
      go_ret
      exact ⟨by rw [HR.out]; rfl, HW.out⟩
    have H2 := Lib.hid h0
    obtain ⟨g5, g6⟩ := str_eq h0
    clear h0
    by_cases h0 : A.tk = B.tk
    case neg =>
      have HR : Hid (R = false) := HNO.out (by unfold ownB; rw [decide_eq_false h0, Bool.and_false]; rfl)
      obtain ⟨g7, g8⟩ := int_ne h0
      clear h0
      go_wp2_with fail
      go_ret
      exact ⟨by rw [HR.out]; rfl, HW.out⟩
    have H3 := Lib.hid h0
    obtain ⟨g7, g8⟩ := int_eq h0
    clear h0
    by_cases h0 : A.to = B.to
    case neg =>
      have HR : Hid (R = false) := HNO.out (by unfold ownB; rw [decide_eq_false h0, Bool.and_false]; rfl)
      obtain ⟨g9, g10⟩ := int_ne h0
      clear h0
      go_wp2_with fail
      go_ret
      exact ⟨by rw [HR.out]; rfl, HW.out⟩
    have H4 := Lib.hid h0
    obtain ⟨g9, g10⟩ := int_eq h0
    clear h0
    by_cases h0 : A.x = B.x
    case neg =>
      have HR : Hid (R = false) := HNX.out (by rw [beq_eq_false_iff_ne]; exact h0)
      have hz : A.x = !B.x := by revert h0; cases A.x <;> cases B.x <;> simp
      rw [hz] at x7
      clear h0 hz
      cases B.x
      · go_wp2_with fail
        go_ret
        exact ⟨by rw [HR.out]; rfl, HW.out⟩
      · go_wp2_with fail
        go_ret
        exact ⟨by rw [HR.out]; rfl, HW.out⟩
    have HXX : Hid ((A.x == B.x) = true) := by unfold Hid; rw [h0]; simp
    rw [h0] at x7
    clear h0
    obtain ⟨bz, hbz⟩ : ∃ b, B.x = b := ⟨_, rfl⟩
    rw [hbz] at x7 z7
    clear hbz
    have g15 : (bz != bz) = false := by simp
    by_cases h0 : A.l.length = B.l.length
    case neg =>
      have HR : Hid (R = false) := HNL.out (eqL_len h0)
      obtain ⟨g11, g12⟩ := int_ne (a := (A.l.length : Int)) (b := (B.l.length : Int)) (by omega)
      clear h0
      go_wp2_with fail
      go_ret
      exact ⟨by rw [HR.out]; rfl, HW.out⟩
    have H5 := Lib.hid h0
    obtain ⟨g11, g12⟩ := int_eq (a := (A.l.length : Int)) (b := (B.l.length : Int)) (by omega)
    clear h0
    by_cases h0 : A.ks.length = B.ks.length
    case neg =>
      have HR : Hid (R = false) := HNO.out (by unfold ownB eqK; rw [decide_eq_false (p := A.ks = B.ks) (fun e => h0 (by rw [e])), Bool.and_false])
      obtain ⟨g13, g14⟩ := int_ne (a := (A.ks.length : Int)) (b := (B.ks.length : Int)) (by omega)
      clear h0
      go_wp2_with fail
      go_ret
      exact ⟨by rw [HR.out]; rfl, HW.out⟩
    have H6 := Lib.hid h0
    obtain ⟨g13, g14⟩ := int_eq (a := (A.ks.length : Int)) (b := (B.ks.length : Int)) (by omega)
    clear h0
    go_wp2_with fail
    clear x8 x0 x1 x2 x3 x4 x5 x6 x7 z8 z0 z1 z2 z3 z4 z5 z6 z7 g1 g2 g3 g4 g5 g6 g7 g8 g9 g10 g11 g12 g13 g14 g15
    go_loopw [7] (fun i wr => ∃ j : Nat, j ≤ A.ks.length ∧ i = .int .i64 j ∧ Hid (∀ q, q < j → kk A.ks q = kk B.ks q) ∧ Hid (Below (w.heap.size + 2) w0 wr)) (fun i _ => A.ks.length - (intOf i).toNat)
    case atStart => exact ⟨0, by omega, rfl, (fun q hq => absurd hq (Nat.not_lt_zero _)), Below.refl _ _⟩
    case round =>
      obtain ⟨j, hj, rfl, hok, hbr⟩ := hrel
      obtain ⟨x8, x0, x1, x2, x3, x4, x5, x6, x7⟩ := HB.out.kept hbr.out (by omega)
      obtain ⟨z8, z0, z1, z2, z3, z4, z5, z6, z7⟩ := HB'.out.kept hbr.out (by omega)
      by_cases hlt : j < A.ks.length
      · have hlt' : j < B.ks.length := by rw [← H6.out]; exact hlt
        obtain ⟨b, off, e1, hb, y0⟩ := (H.out.1.K.below (hbr.out.mono (by omega))).key hlt
        obtain ⟨b', off', e1', hb', y0'⟩ := (H.out.2.K.below (hbr.out.mono (by omega))).key hlt'
        subst e1 e1'
        have HBR := hbr
        clear hbr
        by_cases he : kk A.ks j = kk B.ks j
        · have HE : Hid (∀ q, q < j + 1 → kk A.ks q = kk B.ks q) := fun q hq => by
            by_cases e : q = j
            · subst e; exact he
            · exact hok.out q (by omega)
          obtain ⟨s1, s2⟩ := str_eq he
          clear he hok
          go_wp2_with fail
          go_quiet (fail)
          go_wp2_with fail
          go_roundw
          case rel => exact ⟨j + 1, by omega, by go_num, HE, below_drewN HBR.out _⟩
          case measure => simp [intOf]; omega
        · have HR : Hid (R = false) := HNO.out (by unfold ownB eqK; rw [decide_eq_false (p := A.ks = B.ks) (fun e => he (by rw [e])), Bool.and_false])
          obtain ⟨s1, s2⟩ := str_ne he
          clear he hok
          go_wp2_with fail
          go_quiet (fail)
          go_wp2_with fail
          go_ret
          exact ⟨by rw [HR.out]; rfl, HW.out.trans (below_drewN (HBR.out.mono (by omega)) _)⟩
      · have HKS := Lib.hid (kk_ext H6.out (fun q hq => hok.out q (by omega)))
        clear hok
        go_wp2_with fail
        clear x8 x0 x1 x2 x3 x4 x5 x6 x7 z8 z0 z1 z2 z3 z4 z5 z6 z7
        have HBR := hbr
        clear hbr
        go_loopw [8] (fun i wr => ∃ j : Nat, j ≤ A.l.length ∧ i = .int .i64 j ∧ Hid (∀ m X Y, m < j → A.l[m]? = some X → B.l[m]? = some Y → sameV true X Y = true) ∧ Hid (Below (w.heap.size + 2) w0 wr)) (fun i _ => A.l.length - (intOf i).toNat)
        case atStart => exact ⟨0, by omega, rfl, (fun _ _ _ h => absurd h (Nat.not_lt_zero _)), HBR⟩
        case round =>
          obtain ⟨j2, hj2, rfl, hok, hbr⟩ := hrel
          obtain ⟨x8, x0, x1, x2, x3, x4, x5, x6, x7⟩ := HB.out.kept hbr.out (by omega)
          obtain ⟨z8, z0, z1, z2, z3, z4, z5, z6, z7⟩ := HB'.out.kept hbr.out (by omega)
          by_cases hlt2 : j2 < A.l.length
          · have hlt3 : j2 < B.l.length := by rw [← H5.out]; exact hlt2
            have hO := H.out.1.kept (hbr.out.mono (by omega))
            have hO' := H.out.2.kept (hbr.out.mono (by omega))
            obtain ⟨X, hX⟩ : ∃ X, A.l[j2]? = some X := ⟨_, List.getElem?_eq_getElem hlt2⟩
            obtain ⟨Y, hY⟩ : ∃ Y, B.l[j2]? = some Y := ⟨_, List.getElem?_eq_getElem hlt3⟩
            obtain ⟨b, off, oL3, oK3, cL3, cK3, c3, e1, hb, ⟨y0, y1, y2, y3, y4, y5, y6, y7⟩, OX⟩ := hO.L.elv hlt2 (hO.el j2 X hX)
            obtain ⟨b', off', oL3', oK3', cL3', cK3', c3', e1', hb', ⟨u0, u1, u2, u3, u4, u5, u6, u7⟩, OX'⟩ := hO'.L.elv hlt3 (hO'.el j2 Y hY)
            have hmem := sz_mem (List.mem_of_getElem? hX)
            have hmem' := sz_mem (List.mem_of_getElem? hY)
            have OX2 := Lib.hid (And.intro OX OX')
            have HXY := Lib.hid (And.intro hX hY)
            have HBR := hbr
            subst e1 e1'
            clear hX hY OX OX' hO hO' hbr
            go_wp2_with fail
            go_still_tail 11, (by kernel_rfl)
            change wpList _ _ _ _ _ wr.drew
            go_wp2_with fail
            with_reducible refine (IH.out n X Y _ _ _ (by omega) (OX2.out.1.kept ((Below.refl n wr).drew)).lies (OX2.out.2.kept ((Below.refl n wr).drew)).lies (by have := HBR.out.size; have := HZ.out; simp; omega)).mono ?_
            rintro e w2 ⟨rfl, b2⟩
            have B2 := Lib.hid (HBR.out.drew.trans (b2.mono (by have := HBR.out.size; have := HZ.out; simp; omega)))
            clear b2
            cases hr : sameV true X Y with
            | true =>
              have HE : Hid (∀ m X' Y', m < j2 + 1 → A.l[m]? = some X' → B.l[m]? = some Y' → sameV true X' Y' = true) := fun m X' Y' hm h1 h2 => by
                by_cases e : m = j2
                · subst e; rw [HXY.out.1] at h1; rw [HXY.out.2] at h2; injection h1 with h1; injection h2 with h2; subst h1 h2; exact hr
                · exact hok.out m X' Y' (by omega) h1 h2
              clear hr hok
              go_wp2_with fail
              go_roundw
              case rel => exact ⟨j2 + 1, by omega, by go_num, HE, B2⟩
              case measure => simp [intOf]; omega
            | false =>
              have HR : Hid (R = false) := HNL.out (eqL_no (r := sameV true) j2 HXY.out.1 HXY.out.2 hr)
              clear hr hok
              go_wp2_with fail
              go_ret
              exact ⟨by rw [HR.out]; rfl, HW.out.trans (B2.out.mono (by omega))⟩
          · have HR : Hid (R = true) := HYES.out H0.out H1.out H2.out H3.out H4.out HKS.out HXX.out (eqL_yes H5.out (fun m X Y h1 h2 => hok.out m X Y (by have := (List.getElem?_eq_some_iff.1 h1).1; omega) h1 h2))
            clear hok
            go_wp2_with fail
            go_ret
            exact ⟨by rw [HR.out]; rfl, HW.out.trans (hbr.out.mono (by omega))⟩
end Go.Proofs.YtncjncacfagldaaDoor
/- Trees: the same; EqualFunc of trees, expr.Same. -/
namespace Go.Proofs.YtncjncacfagldaaDoor
open Go.RowKit Go.Lib

theorem xp_at2 {P : Nat → Prop} {w : World} {X : Ex} {oV : Option Addr} {cV : Nat} {oK : Option Addr} {cK : Nat} {o : Option Addr} {cap : Nat} (h : XP P w X (.agg (xc X oV cV oK cK o cap))) : X.l.length ≤ cap ∧ cap ≤ maxLen ∧ LiesP P w X.v (vv X.v.k X.v.i X.v.s (.slice oV X.v.l.length cV) (.slice oK X.v.ks.length cK) X.v.tk X.v.to X.v.x) ∧ ∀ j x, X.l[j]? = some x → ∃ b off oV' cV' oK' cK' o' cap', o = some ⟨b, off, none⟩ ∧ P b ∧ XP P w x (.agg (xc x oV' cV' oK' cK' o' cap')) ∧
    (w.cell? ⟨b, off + j * 15, none⟩ = some (.int .i64 x.op) ∧ w.cell? ⟨b, off + j * 15 + 1, none⟩ = some (.string x.s) ∧ w.cell? ⟨b, off + j * 15 + 2, none⟩ = some (.string x.s2) ∧ w.cell? ⟨b, off + j * 15 + 3, none⟩ = some (.int .i64 x.v.k) ∧ w.cell? ⟨b, off + j * 15 + 4, none⟩ = some (.int .i64 x.v.i) ∧ w.cell? ⟨b, off + j * 15 + 5, none⟩ = some (.string x.v.s) ∧ w.cell? ⟨b, off + j * 15 + 6, none⟩ = some (.slice oV' x.v.l.length cV') ∧ w.cell? ⟨b, off + j * 15 + 7, none⟩ = some (.slice oK' x.v.ks.length cK') ∧ w.cell? ⟨b, off + j * 15 + 8, none⟩ = some (.int .i64 x.v.tk) ∧ w.cell? ⟨b, off + j * 15 + 9, none⟩ = some (.int .i64 x.v.to) ∧ w.cell? ⟨b, off + j * 15 + 10, none⟩ = some (.bool x.v.x) ∧ w.cell? ⟨b, off + j * 15 + 11, none⟩ = some (.slice o' x.l.length cap') ∧ w.cell? ⟨b, off + j * 15 + 12, none⟩ = some (.int .i64 x.a) ∧ w.cell? ⟨b, off + j * 15 + 13, none⟩ = some (.int .i64 x.ln) ∧ w.cell? ⟨b, off + j * 15 + 14, none⟩ = some (.int .i64 x.c)) := by
  obtain ⟨oV2, cV2, oK2, cK2, o2, cap2, e, h1, h2, h3, h4⟩ := xp_at h
  simp only [xc, Value.agg.injEq, Array.mk.injEq, List.cons.injEq, and_true, true_and, Value.slice.injEq] at e
  obtain ⟨⟨rfl, rfl⟩, ⟨rfl, rfl⟩, rfl, rfl⟩ := e
  exact ⟨h1, h2, h3, h4⟩
def eqX (r : Ex → Ex → Bool) : List Ex → List Ex → Bool
  | [], [] => true
  | a :: x, b :: y => r a b && eqX r x y
  | _, _ => false
theorem eqX_len {r : Ex → Ex → Bool} : ∀ {x y : List Ex}, x.length ≠ y.length → eqX r x y = false
  | [], [], h => absurd rfl h
  | [], _ :: _, _ => rfl
  | _ :: _, [], _ => rfl
  | a :: x, b :: y, h => by rw [eqX, eqX_len (x := x) (y := y) (fun e => h (by simp [e]))]; simp
theorem eqX_no {r : Ex → Ex → Bool} : ∀ {x y : List Ex} (j : Nat) {X Y : Ex}, x[j]? = some X → y[j]? = some Y → r X Y = false → eqX r x y = false
  | [], _, j, _, _, h, _, _ => by simp at h
  | _ :: _, [], j, _, _, _, h, _ => by simp at h
  | a :: x, b :: y, 0, X, Y, h1, h2, h => by simp at h1 h2; subst h1 h2; rw [eqX, h]; rfl
  | a :: x, b :: y, j + 1, X, Y, h1, h2, h => by rw [eqX, eqX_no (x := x) (y := y) j (by simpa using h1) (by simpa using h2) h]; simp
theorem eqX_yes {r : Ex → Ex → Bool} : ∀ {x y : List Ex}, x.length = y.length → (∀ (j : Nat) (X Y : Ex), x[j]? = some X → y[j]? = some Y → r X Y = true) → eqX r x y = true
  | [], [], _, _ => rfl
  | [], _ :: _, h, _ => by simp at h
  | _ :: _, [], h, _ => by simp at h
  | a :: x, b :: y, hl, h => by
    rw [eqX, h 0 a b rfl rfl, eqX_yes (x := x) (y := y) (by simpa using hl) (fun j X Y h1 h2 => h (j + 1) X Y (by simpa using h1) (by simpa using h2))]; rfl
def eqXF : List (Ex → Bool) → List Ex → Bool
  | [], [] => true
  | f :: x, b :: y => f b && eqXF x y
  | _, _ => false
theorem eqXF_map (r : Ex → Ex → Bool) : ∀ x y, eqXF (x.map r) y = eqX r x y
  | [], [] => rfl
  | [], _ :: _ => rfl
  | _ :: _, [] => rfl
  | a :: x, b :: y => by rw [List.map_cons, eqXF, eqX, eqXF_map r x y]
theorem sizeOf_mem_xl {X x : Ex} (h : x ∈ X.l) : SizeOf.sizeOf x < SizeOf.sizeOf X := by
  cases X
  have := List.sizeOf_lt_of_mem h
  simp [Ex.l] at *
  omega
/-- the same, with places (pl) or without -/
def sameX (pl : Bool) (A B : Ex) : Bool := decide (A.op = B.op) && (decide (A.s = B.s) && (decide (A.s2 = B.s2) && (sameV true A.v B.v && ((!pl || (decide (A.a = B.a) && (decide (A.ln = B.ln) && decide (A.c = B.c)))) && eqXF (A.l.attach.map fun x => fun Y => sameX pl x.1 Y) B.l))))
termination_by SizeOf.sizeOf A
decreasing_by exact sizeOf_mem_xl x.2
theorem sameX_eq (pl : Bool) (A B : Ex) : sameX pl A B = (decide (A.op = B.op) && (decide (A.s = B.s) && (decide (A.s2 = B.s2) && (sameV true A.v B.v && ((!pl || (decide (A.a = B.a) && (decide (A.ln = B.ln) && decide (A.c = B.c)))) && eqX (sameX pl) A.l B.l))))) := by
  rw [sameX]
  have : (A.l.attach.map fun x => fun Y => sameX pl x.1 Y) = A.l.map (sameX pl) := by
    rw [show (fun x : { x // x ∈ A.l } => fun Y => sameX pl x.1 Y) = fun x => sameX pl x.1 from rfl]
    simp
  rw [this, eqXF_map]
/-- two boxes of trees -/
theorem lie15 (w : World) (c c' : Array Value) : ((w.alloc (.cells c 33)).alloc (.cells c' 33)).heap[w.heap.size]? = some (.cells c 33 (0, 0)) ∧ ((w.alloc (.cells c 33)).alloc (.cells c' 33)).heap[w.heap.size + 1]? = some (.cells c' 33 (0, 0)) := by
  refine ⟨(heap_alloc_old _ _ (by simp)).trans (heap_alloc_new w _), ?_⟩
  have := heap_alloc_new (w.alloc (.cells c 33)) (.cells c' 33)
  rw [World.size_alloc] at this
  exact this
end Go.Proofs.YtncjncacfagldaaDoor
/- expr.Same. -/
namespace Go.Proofs.YtncjncacfagldaaDoor
open Go.RowKit Go.Lib

theorem sx_op {pl : Bool} {A B : Ex} (h : A.op ≠ B.op) : sameX pl A B = false := by rw [sameX_eq, decide_eq_false h]; rfl
theorem sx_s {pl : Bool} {A B : Ex} (h : A.s ≠ B.s) : sameX pl A B = false := by rw [sameX_eq, decide_eq_false h]; simp
theorem sx_s2 {pl : Bool} {A B : Ex} (h : A.s2 ≠ B.s2) : sameX pl A B = false := by rw [sameX_eq, decide_eq_false h]; simp
theorem sx_v {pl : Bool} {A B : Ex} (h : sameV true A.v B.v = false) : sameX pl A B = false := by rw [sameX_eq, h]; simp
theorem sx_l {pl : Bool} {A B : Ex} (h : eqX (sameX pl) A.l B.l = false) : sameX pl A B = false := by rw [sameX_eq, h]; simp
theorem sx_yes {A B : Ex} (h0 : A.op = B.op) (h1 : A.s = B.s) (h2 : A.s2 = B.s2) (h3 : sameV true A.v B.v = true) : sameX false A B = eqX (sameX false) A.l B.l := by rw [sameX_eq, decide_eq_true h0, decide_eq_true h1, decide_eq_true h2, h3]; rfl
end Go.Proofs.YtncjncacfagldaaDoor

/- The reference's Same, places aside. -/
namespace Go.Proofs.YtncjncacfagldaaDoor
open Go.RowKit Go.Lib

set_option maxRecDepth 100000 in
set_option maxHeartbeats 8000000 in
theorem same10_any (N : Nat) : ∀ (n : Nat) (A B : Ex) (a b : Value) (w : World), xsz A + xsz B ≤ N → XL n w A a → XL n w B b → n ≤ w.heap.size → Calls Tryd.prog 10 #[a, b, .bool false] w fun e w' => e = .returned (.bool (sameX false A B)) ∧ Below w.heap.size w w' := by
  induction N with
  | zero => intro n A B a b w hs; have := xsz_pos A; omega
  | succ N ih =>
    intro n A B a b w hs ha hb hn
    obtain ⟨oV, cV, oK, cK, o, cap, rfl, -⟩ := xp_at ha
    obtain ⟨oV', cV', oK', cK', o', cap', rfl, -⟩ := xp_at hb
    obtain ⟨l1, l2, hva, hat⟩ := xp_at2 ha
    obtain ⟨l3, l4, hvb, hat'⟩ := xp_at2 hb
    unfold maxLen at l2 l4
    have hV : ∀ w', Below w.heap.size w w' → Calls Tryd.prog 24 #[vv A.v.k A.v.i A.v.s (.slice oV A.v.l.length cV) (.slice oK A.v.ks.length cK) A.v.tk A.v.to A.v.x, vv B.v.k B.v.i B.v.s (.slice oV' B.v.l.length cV') (.slice oK' B.v.ks.length cK') B.v.tk B.v.to B.v.x, .bool true] w' fun e w2 => e = .returned (.bool (sameV true A.v B.v)) ∧ Below w'.heap.size w' w2 :=
      fun w' bl => same24_any (sz A.v + sz B.v) n A.v B.v _ _ w' (Nat.le_refl _) (LiesP.kept hva (bl.mono hn)) (LiesP.kept hvb (bl.mono hn)) (by have := bl.size; omega)
    have HSZ : Hid (∀ x y, x ∈ A.l → y ∈ B.l → xsz x + xsz y ≤ N) := fun x y hx hy => by have := xsz_lt hx; have := xsz_lt hy; omega
    have IH := Lib.hid ih
    have HAT := Lib.hid (And.intro hat hat')
    have HV := Lib.hid hV
    have HB := Lib.hid (lie15 w (xc A oV cV oK cK o cap) (xc B oV' cV' oK' cK' o' cap'))
    have HW : Hid (Below w.heap.size w ((w.alloc (.cells (xc A oV cV oK cK o cap) 33)).alloc (.cells (xc B oV' cV' oK' cK' o' cap') 33))) := ((Below.refl w.heap.size w).alloc (Nat.le_refl _) _).alloc (by simp) _
    have HZ : Hid (((w.alloc (.cells (xc A oV cV oK cK o cap) 33)).alloc (.cells (xc B oV' cV' oK' cK' o' cap') 33)).heap.size = w.heap.size + 2) := by simp [Hid]
    have N0 := Lib.hid (fun h => sx_op (pl := false) (A := A) (B := B) h)
    have N1 := Lib.hid (fun h => sx_s (pl := false) (A := A) (B := B) h)
    have N2 := Lib.hid (fun h => sx_s2 (pl := false) (A := A) (B := B) h)
    have N3 := Lib.hid (fun h => sx_v (pl := false) (A := A) (B := B) h)
    have N5 := Lib.hid (fun h => sx_l (pl := false) (A := A) (B := B) h)
    have N4 : Hid (A.op = B.op → A.s = B.s → A.s2 = B.s2 → sameV true A.v B.v = true → sameX false A B = eqX (sameX false) A.l B.l) := fun h0 h1 h2 h3 => sx_yes h0 h1 h2 h3
    generalize sameX false A B = R at *
    generalize sameV true A.v B.v = V at *
    clear ha hb ih hV hva hvb hat hat' hs
    go_enter Tryd.func10, Tryd.ntmps10
    go_upto_region 1 with fail
    generalize (w.alloc _).alloc _ = w0 at *
    obtain ⟨⟨c0, c1, c2, c3, c4, c5, c6, c7, c8, c9, c10, c11, c12, c13, c14⟩, -, hb1⟩ := rc15 HB.out.1
    obtain ⟨⟨d0, d1, d2, d3, d4, d5, d6, d7, d8, d9, d10, d11, d12, d13, d14⟩, -, hb2⟩ := rc15 HB.out.2
    by_cases h0 : A.op = B.op
    case neg =>
      have HR : Hid (R = false) := N0.out h0
      obtain ⟨g1, g2⟩ := int_ne h0
      clear h0
      go_wp2_with fail
      go_ret
      exact ⟨ret_b4 HR.out.symm, HW.out⟩
    have H0 := Lib.hid h0
    obtain ⟨g1, g2⟩ := int_eq h0
    clear h0
    by_cases h0 : A.s = B.s
    case neg =>
      have HR : Hid (R = false) := N1.out h0
      obtain ⟨g3, g4⟩ := str_ne h0
      clear h0
      go_wp2_with fail
      go_ret
      exact ⟨ret_b4 HR.out.symm, HW.out⟩
    have H1 := Lib.hid h0
    obtain ⟨g3, g4⟩ := str_eq h0
    clear h0
    by_cases h0 : A.s2 = B.s2
    case neg =>
      have HR : Hid (R = false) := N2.out h0
      obtain ⟨g5, g6⟩ := str_ne h0
      clear h0
      go_wp2_with fail
      go_ret
      exact ⟨ret_b4 HR.out.symm, HW.out⟩
    have H2 := Lib.hid h0
    obtain ⟨g5, g6⟩ := str_eq h0
    clear h0
    go_wp2_with fail
    refine (HV.out _ HW.out).mono ?_
    rintro e w1 ⟨rfl, b1⟩
    have B1 := Lib.hid (HW.out.trans (b1.mono HW.out.size))
    have HB1 := Lib.hid (And.intro ((b1.block _ hb1).trans HB.out.1) ((b1.block _ hb2).trans HB.out.2))
    have HS1 : Hid (w.heap.size + 2 ≤ w1.heap.size) := by have := b1.size; have := HZ.out; unfold Hid; omega
    clear c0 c1 c2 c3 c4 c5 c6 c7 c8 c9 c10 c11 c12 c13 c14 hb1 d0 d1 d2 d3 d4 d5 d6 d7 d8 d9 d10 d11 d12 d13 d14 hb2 b1 g1 g2 g3 g4 g5 g6 HW HZ HB HV
    obtain ⟨⟨c0, c1, c2, c3, c4, c5, c6, c7, c8, c9, c10, c11, c12, c13, c14⟩, -, hb1⟩ := rc15 HB1.out.1
    obtain ⟨⟨d0, d1, d2, d3, d4, d5, d6, d7, d8, d9, d10, d11, d12, d13, d14⟩, -, hb2⟩ := rc15 HB1.out.2
    cases V with
    | false =>
      have HR : Hid (R = false) := N3.out rfl
      go_wp2_with fail
      go_ret
      exact ⟨ret_b4 HR.out.symm, B1.out⟩
    | true =>
      have HR : Hid (R = eqX (sameX false) A.l B.l) := N4.out H0.out H1.out H2.out rfl
      clear N0 N1 N2 N3 N4 H0 H1 H2
      by_cases h0 : A.l.length = B.l.length
      case neg =>
        have HR2 : Hid (R = false) := N5.out (eqX_len h0)
        obtain ⟨g11, g12⟩ := int_ne (a := (A.l.length : Int)) (b := (B.l.length : Int)) (by omega)
        clear h0
        go_wp2_with fail
        go_ret
        exact ⟨ret_b4 HR2.out.symm, B1.out⟩
      have H5 := Lib.hid h0
      obtain ⟨g11, g12⟩ := int_eq (a := (A.l.length : Int)) (b := (B.l.length : Int)) (by omega)
      clear h0
      go_wp2_with fail
      clear c0 c1 c2 c3 c4 c5 c6 c7 c8 c9 c10 c11 c12 c13 c14 hb1 d0 d1 d2 d3 d4 d5 d6 d7 d8 d9 d10 d11 d12 d13 d14 hb2 g11 g12
      go_loopw [7] (fun i wr => ∃ j : Nat, j ≤ A.l.length ∧ i = .int .i64 j ∧ Hid (∀ m X Y, m < j → A.l[m]? = some X → B.l[m]? = some Y → sameX false X Y = true) ∧ Hid (Below w1.heap.size w1 wr)) (fun i _ => A.l.length - (RowKit.intOf i).toNat)
      case atStart => exact ⟨0, by omega, rfl, (fun _ _ _ h => absurd h (Nat.not_lt_zero _)), Below.refl _ _⟩
      case round =>
        obtain ⟨j, hj, rfl, hok, hbr⟩ := hrel
        have HBr := Lib.hid (And.intro ((hbr.out.block _ (Array.getElem?_eq_some_iff.1 HB1.out.1).1).trans HB1.out.1) ((hbr.out.block _ (Array.getElem?_eq_some_iff.1 HB1.out.2).1).trans HB1.out.2))
        obtain ⟨⟨c0, c1, c2, c3, c4, c5, c6, c7, c8, c9, c10, c11, c12, c13, c14⟩, -, hb1⟩ := rc15 HBr.out.1
        obtain ⟨⟨d0, d1, d2, d3, d4, d5, d6, d7, d8, d9, d10, d11, d12, d13, d14⟩, -, hb2⟩ := rc15 HBr.out.2
        by_cases hlt : j < A.l.length
        · have hlt2 : j < B.l.length := by have := H5.out; omega
          obtain ⟨X, hX⟩ : ∃ X, A.l[j]? = some X := ⟨_, List.getElem?_eq_getElem hlt⟩
          obtain ⟨Y, hY⟩ : ∃ Y, B.l[j]? = some Y := ⟨_, List.getElem?_eq_getElem hlt2⟩
          obtain ⟨b1, off, pV, pcV, pK, pcK, q, qc, e1, hbb1, OX, y0, y1, y2, y3, y4, y5, y6, y7, y8, y9, y10, y11, y12, y13, y14⟩ := HAT.out.1 j X hX
          obtain ⟨b2, off', pV', pcV', pK', pcK', q', qc', e2, hbb2, OY, u0, u1, u2, u3, u4, u5, u6, u7, u8, u9, u10, u11, u12, u13, u14⟩ := HAT.out.2 j Y hY
          have hs1 := HS1.out
          have hsr := hbr.out.size
          have bwr : Below w.heap.size w wr := B1.out.trans (hbr.out.mono (by omega))
          have t : ∀ b i, b < n → wr.cell? ⟨b, i, none⟩ = w.cell? ⟨b, i, none⟩ := fun b i hb => World.cell?_of_block (bwr.block b (by omega))
          rw [← t b1 _ hbb1] at y0 y1 y2 y3 y4 y5 y6 y7 y8 y9 y10 y11 y12 y13 y14
          rw [← t b2 _ hbb2] at u0 u1 u2 u3 u4 u5 u6 u7 u8 u9 u10 u11 u12 u13 u14
          have HXY := Lib.hid (And.intro hX hY)
          have HSXY := Lib.hid (HSZ.out X Y (List.mem_of_getElem? hX) (List.mem_of_getElem? hY))
          have OX2 := Lib.hid (And.intro (OX.bl (fun k hk => hk) (bwr.mono hn)) (OY.bl (fun k hk => hk) (bwr.mono hn)))
          have HBR := hbr
          have hnr0 : n ≤ wr.heap.size := by omega
          have hnr : n ≤ wr.drew.heap.size := hnr0
          clear hnr0
          subst e1 e2
          clear hX hY OX OY t hbr bwr
          go_wp2_with fail
          go_still_tail 11, (by kernel_rfl)
          change wpList _ _ _ _ _ wr.drew
          go_wp2_with fail
          with_reducible refine (IH.out n X Y _ _ _ HSXY.out (OX2.out.1.bl (fun k hk => hk) ((Below.refl n wr).drew)) (OX2.out.2.bl (fun k hk => hk) ((Below.refl n wr).drew)) hnr).mono ?_
          rintro e w2 ⟨rfl, b2⟩
          have B2 := Lib.hid (HBR.out.drew.trans (b2.mono hsr))
          clear b2
          cases hr : sameX false X Y with
          | true =>
            have HE : Hid (∀ m X' Y', m < j + 1 → A.l[m]? = some X' → B.l[m]? = some Y' → sameX false X' Y' = true) := fun m X' Y' hm h1 h2 => by
              by_cases e : m = j
              · subst e; rw [HXY.out.1] at h1; rw [HXY.out.2] at h2; injection h1 with h1; injection h2 with h2; subst h1 h2; exact hr
              · exact hok.out m X' Y' (by omega) h1 h2
            clear hr hok
            go_wp2_with fail
            go_roundw
            case rel => exact ⟨j + 1, by omega, by go_num, HE, B2⟩
            case measure => simp [RowKit.intOf]; omega
          | false =>
            have HR2 : Hid (R = false) := N5.out (eqX_no (r := sameX false) j HXY.out.1 HXY.out.2 hr)
            clear hr hok
            go_wp2_with fail
            go_ret
            exact ⟨ret_b4 HR2.out.symm, B1.out.trans (B2.out.mono (by omega))⟩
        · have HR2 : Hid (R = true) := by unfold Hid; rw [HR.out]; exact eqX_yes H5.out (fun m X Y h1 h2 => hok.out m X Y (by have := (List.getElem?_eq_some_iff.1 h1).1; omega) h1 h2)
          have hs1 := HS1.out
          clear hok
          go_wp2_with fail
          go_ret
          exact ⟨ret_b4 HR2.out.symm, B1.out.trans (hbr.out.mono (by omega))⟩
end Go.Proofs.YtncjncacfagldaaDoor
/- ExprSame: the law's walk. -/
namespace Go.Proofs.YtncjncacfagldaaDoor
open Go.RowKit Go.Lib

theorem sameV_self (V : Val) : sameV true V V = true := by
  induction V using val_ind with
  | h V ih =>
    have ho : ownB V.k V.i V.s V.tk V.to V.ks V.k V.i V.s V.tk V.to V.ks = true := own_yes rfl rfl rfl rfl rfl rfl
    have hl : eqL (sameV true) V.l V.l = true := eqL_yes rfl fun j X Y h1 h2 => by
      rw [h1] at h2; injection h2 with h2; subst h2
      exact ih X (List.mem_of_getElem? h1)
    rw [sameV_eq, ho, hl]; simp
end Go.Proofs.YtncjncacfagldaaDoor
/- Reading tokens that stand further on, with a bracket in place of the end: the same tree, places aside, as long as nothing is wrong. No Go in sight. -/
namespace Go.Proofs.YtncjncacfagldaaDoor
open Go.RowKit Go.Lib

theorem bareL_len (x : List Ex) : (bareL x).length = x.length := by
  induction x with
  | nil => rw [bareL_nil]
  | cons a r ih => rw [bareL_cons]; simp [ih]
theorem bareL_at (x : List Ex) (j : Nat) : (bareL x)[j]? = (x[j]?).map bareX := by
  induction x generalizing j with
  | nil => rw [bareL_nil]; rfl
  | cons a r ih => rw [bareL_cons]; cases j with
    | zero => rfl
    | succ j => simpa using ih j
theorem bare_l {A B : Ex} (h : bareX A = bareX B) : A.op = B.op ∧ A.s = B.s ∧ A.s2 = B.s2 ∧ A.v = B.v ∧ bareL A.l = bareL B.l := by
  cases A; cases B
  rw [bareX_mk, bareX_mk] at h
  injection h with h1 h2 h3 h4 h5
  exact ⟨h1, h2, h3, h4, h5⟩
/-- alike without places is the same, places aside -/
theorem same_bare {A B : Ex} (h : bareX A = bareX B) : sameX false A B = true := by
  induction A using ex_ind generalizing B with
  | h A ih =>
    obtain ⟨h1, h2, h3, h4, h5⟩ := bare_l h
    rw [sx_yes h1 h2 h3 (by rw [h4]; exact sameV_self _)]
    refine eqX_yes (by rw [← bareL_len, h5, bareL_len]) fun j X Y hx hy => ih X (List.mem_of_getElem? hx) ?_
    have k1 := bareL_at A.l j
    rw [h5, bareL_at, hx, hy] at k1
    simpa using k1.symm
theorem xdp_bare (X : Ex) : xdp (bareX X) = xdp X := by
  induction X using ex_ind with
  | h X ih =>
    cases X with
    | mk op s s2 v l a b c =>
      rw [bareX_mk, xdp, xdp]
      congr 1
      have : ∀ (m : List Ex), (∀ x ∈ m, xdp (bareX x) = xdp x) → xdpL (bareL m) = xdpL m := by
        intro m
        induction m with
        | nil => intro _; rw [bareL_nil]
        | cons y r ih2 => intro hm; rw [bareL_cons, xdpL, xdpL, hm y (List.mem_cons_self ..), ih2 fun x hx => hm x (List.mem_cons_of_mem _ hx)]
      exact this l ih
theorem xdp_same {A B : Ex} (h : bareX A = bareX B) : xdp A = xdp B := by rw [← xdp_bare A, h, xdp_bare]

section
variable {d n : Nat} {C D : Cx}
variable {f : Nat} {F G : Fs}
end
end Go.Proofs.YtncjncacfagldaaDoor
/- Tokens of a text in brackets. No Go in sight. -/
namespace Go.Proofs.YtncjncacfagldaaDoor
open Go.RowKit Go.Lib

/-- a line feed ends what a class takes -/
theorem take_dropP_lf (p : Nat → Bool) (hp : p 10 = false) (y : List UInt8) : ∀ x : List UInt8, takeP p (x ++ 10 :: y) = takeP p x ∧ dropP p (x ++ 10 :: y) = dropP p x ++ 10 :: y
  | [] => by
    unfold takeP dropP
    have h : p (UInt8.toNat 10) = false := hp
    constructor
    · rw [List.nil_append, List.takeWhile_cons, h]; rfl
    · rw [List.nil_append, List.dropWhile_cons, h]; rfl
  | c :: r => by
    obtain ⟨h1, h2⟩ := take_dropP_lf p hp y r
    unfold takeP dropP at *
    rw [List.cons_append, List.takeWhile_cons, List.dropWhile_cons, List.takeWhile_cons, List.dropWhile_cons, h1, h2]
    cases p c.toNat
    · exact ⟨rfl, rfl⟩
    · exact ⟨rfl, rfl⟩
theorem dropP_blank (y : List UInt8) : ∀ x : List UInt8, dropP isBlank (x ++ 10 :: y) = if dropP isBlank x = [] then dropP isBlank y else dropP isBlank x ++ 10 :: y
  | [] => by
    unfold dropP
    rw [List.nil_append, List.dropWhile_cons, show isBlank (10 : UInt8).toNat = true from rfl]
    rfl
  | c :: r => by
    have ih := dropP_blank y r
    unfold dropP at *
    rw [List.cons_append, List.dropWhile_cons, List.dropWhile_cons, ih]
    cases isBlank c.toNat
    · rfl
    · rfl
theorem skip_lf (y : List UInt8) : ∀ (n : Nat) (x : List UInt8), x.length ≤ n → skip (x ++ 10 :: y) = if skip x = [] then skip y else skip x ++ 10 :: y := by
  intro n
  induction n with
  | zero =>
    intro x h
    have : x = [] := List.eq_nil_of_length_eq_zero (by omega)
    subst this
    have e0 : skip [] = [] := rfl
    have e1 : dropP isBlank [] = [] := rfl
    rw [if_pos e0]
    unfold skip
    rw [dropP_blank, if_pos e1]
    have := dropP_le isBlank y
    exact skc_fuel _ _ _ (by simp only [List.length_append, List.length_cons]; omega) (by omega)
  | succ n ih =>
    intro x h
    have hb := dropP_blank y x
    cases hx : dropP isBlank x with
    | nil =>
      have e : skip x = [] := by unfold skip; rw [hx]; cases x.length <;> rfl
      rw [if_pos e]
      rw [hx, if_pos rfl] at hb
      unfold skip
      rw [hb]
      have := dropP_le isBlank y
      exact skc_fuel _ _ _ (by simp only [List.length_append, List.length_cons]; omega) (by omega)
    | cons c r =>
      rw [hx, if_neg (by simp), List.cons_append] at hb
      by_cases hc : c = 35
      · subst hc
        obtain ⟨e1, l1⟩ := skip_remark x r hx
        obtain ⟨e2, l2⟩ := skip_remark _ _ hb
        rw [e1, e2, ← List.cons_append, (take_dropP_lf isRemark rfl y (35 :: r)).2]
        exact ih _ (by omega)
      · rw [skip_other x r c hx hc, if_neg (by simp), skip_other _ _ c hb hc, List.cons_append]
theorem tk_lf {l : List UInt8} {m : Nat} {q : UInt8 ⊕ List UInt8} (y : List UInt8) (h : tk l = some (m, q)) : tk (l ++ 10 :: y) = some (m, q) := by
  cases l with
  | nil => cases h
  | cons c r =>
    by_cases h1 : c = 92
    · subst h1
      cases r with
      | nil => cases h
      | cons d r' => rw [tk_e1] at h; rw [List.cons_append, List.cons_append, tk_e1]; exact h
    · by_cases h2 : c = 36 ∧ r.head? = some 123
      · obtain ⟨rfl, h2⟩ := h2
        rw [tk_x r h2] at h
        cases r with
        | nil => cases h2
        | cons d r' =>
          have h2' : (d :: r' ++ 10 :: y).head? = some 123 := h2
          have h : (if (dropP isInner r').head? = some 125 then some (3 + (takeP isInner r').length, Sum.inr (takeP isInner r')) else none) = some (m, q) := h
          have e3 : tk (36 :: (d :: r' ++ 10 :: y)) = if (dropP isInner (r' ++ 10 :: y)).head? = some 125 then some (3 + (takeP isInner (r' ++ 10 :: y)).length, .inr (takeP isInner (r' ++ 10 :: y))) else none := tk_x _ h2'
          obtain ⟨e1, e2⟩ := take_dropP_lf isInner rfl y r'
          rw [List.cons_append, e3, e1, e2]
          by_cases h3 : (dropP isInner r').head? = some 125
          · rw [if_pos h3] at h
            rw [if_pos (by rw [List.head?_append, h3]; rfl)]
            exact h
          · rw [if_neg h3] at h; cases h
      · rw [tk_b c r h1 h2] at h
        rw [List.cons_append, tk_b _ _ h1 (fun ⟨g1, g2⟩ => h2 ⟨g1, by
          cases r with
          | nil => simp at g2
          | cons d r' => simpa using g2⟩)]
        exact h
/-- a string with more behind it -/
theorem strL_lf (y : List UInt8) : ∀ (f : Nat) (l : List UInt8) (p : Plc) (b : List UInt8) (ps : List Prt) (n : Nat) (a : List Prt) (m : Nat) (r : List UInt8) (g : Nat), strL f l p b ps n = some (a, m, r) → f ≤ g → strL g (l ++ 10 :: y) p b ps n = some (a, m, r ++ 10 :: y)
  | 0, _, _, _, _, _, _, _, _, _, h, _ => by cases h
  | f + 1, [], _, _, _, _, _, _, _, _, h, _ => by cases h
  | f + 1, c :: t, p, b, ps, n, a, m, r, g, h, hg => by
    obtain ⟨g, rfl⟩ : ∃ k, g = k + 1 := ⟨g - 1, by omega⟩
    rw [strL_cons] at h
    rw [List.cons_append, strL_cons]
    split at h
    · cases h
    · rename_i h10
      rw [if_neg h10]
      split at h
      · rename_i h34
        rw [if_pos h34]
        simp only [Option.some.injEq, Prod.mk.injEq] at h ⊢
        exact ⟨h.1, h.2.1, by rw [h.2.2]⟩
      · rename_i h34
        rw [if_neg h34]
        cases ht : tk (c :: t) with
        | none => rw [ht] at h; cases h
        | some q =>
          obtain ⟨k, q⟩ := q
          rw [ht] at h
          have ht2 := tk_lf y ht
          obtain ⟨k1, k2⟩ := tk_len ht
          rw [← List.cons_append, ht2]
          simp only at h ⊢
          have e1 : (c :: t ++ 10 :: y).drop k = (c :: t).drop k ++ 10 :: y := List.drop_append_of_le_length k2
          have e2 : (c :: t ++ 10 :: y).take k = (c :: t).take k := List.take_append_of_le_length k2
          have e3 : tkP (p.adv ((c :: t ++ 10 :: y).take 2)) ps b q = tkP (p.adv ((c :: t).take 2)) ps b q := by
            cases q with
            | inl x => rfl
            | inr e =>
              cases t with
              | nil =>
                have : tk [c] ≠ some (k, .inr e) := by
                  rw [tk_cons]
                  split
                  · simp
                  · rw [if_neg (fun ⟨_, g2⟩ => by simp at g2)]; simp
                exact absurd ht this
              | cons d t => rfl
          rw [e1, e2, e3]
          exact strL_lf y f _ _ _ _ _ _ _ _ g h (by omega)
theorem two_lf (c : UInt8) : two c 10 = false := by
  unfold two
  simp
theorem sgn_lf (c : UInt8) (r y : List UInt8) : sgn (c :: r ++ 10 :: y) = sgn (c :: r) := by
  cases r with
  | nil =>
    show (if two c 10 = true then 2 else if isMark c.toNat then 1 else 0) = if false = true then 2 else if isMark c.toNat then 1 else 0
    rw [two_lf]
  | cons d r => rfl
theorem tokL_lf {p : Plc} {l r : List UInt8} {t : Tkn} (y : List UInt8) (h : tokL p l = .ok (t, r)) : tokL p (l ++ 10 :: y) = .ok (t, r ++ 10 :: y) := by
  cases l with
  | nil => cases h
  | cons c x =>
    rw [← tokL_eq] at h
    rw [List.cons_append, ← tokL_eq, ← List.cons_append]
    obtain ⟨e1, e2⟩ := take_dropP_lf isWord rfl y (c :: x)
    rw [e1, e2]
    by_cases hl : isLetter c.toNat = true
    · rw [if_pos hl] at h ⊢
      split at h
      · cases h
      · rename_i h0
        rw [if_neg h0]
        simp only [Except.ok.injEq, Prod.mk.injEq] at h ⊢
        exact ⟨h.1, by rw [h.2]⟩
    · rw [if_neg hl] at h ⊢
      by_cases hd : isDgt c.toNat = true
      · rw [if_pos hd] at h ⊢
        split at h
        · rename_i h0
          rw [if_pos h0]
          simp only [Except.ok.injEq, Prod.mk.injEq] at h ⊢
          exact ⟨h.1, by rw [h.2]⟩
        · cases h
      · rw [if_neg hd] at h ⊢
        split at h
        · rename_i h0
          rw [if_pos h0]
          cases hs : strL (x.length + 1) x (p.step c) [] [] 0 with
          | none => rw [hs] at h; cases h
          | some S =>
            obtain ⟨a, m, z⟩ := S
            rw [hs] at h
            rw [strL_lf y _ _ _ _ _ _ _ _ _ ((x ++ 10 :: y).length + 1) hs (by simp)]
            unfold strE at h ⊢
            simp only at h ⊢
            split at h
            · cases h
            · rename_i h1
              rw [if_neg h1]
              simp only [Except.ok.injEq, Prod.mk.injEq] at h ⊢
              exact ⟨h.1, by rw [h.2]⟩
        · rename_i h0
          rw [if_neg h0, sgn_lf]
          have hg := sgn_le (c :: x)
          split at h
          · cases h
          · rename_i h1
            rw [if_neg h1]
            simp only [Except.ok.injEq, Prod.mk.injEq] at h ⊢
            refine ⟨?_, ?_⟩
            · rw [List.take_append_of_le_length hg]; exact h.1
            · rw [List.drop_append_of_le_length hg, h.2]
/-- the first text's tokens stand ahead -/
theorem allL_join (y : List UInt8) : ∀ (f : Nat) (l : List UInt8) (p : Plc) (ts : List Tkn) (g : Nat), allL f p l = .ok ts → (l ++ 10 :: y).length < g → ts ≠ [] ∧ ∃ h, y.length < h ∧ allL g p (l ++ 10 :: y) = consT ts.dropLast (allL h (p.adv (l ++ [10])) y)
  | 0, _, _, _, _, h, _ => by cases h
  | f + 1, l, p, ts, 0, _, h => by omega
  | f + 1, l, p, ts, g + 1, h, hg => by
    rw [allL] at h
    have hk := skip_lf y l.length l (Nat.le_refl _)
    have hlen : (l ++ 10 :: y).length = l.length + 1 + y.length := by simp; omega
    have hsy := (skip_suf y).length_le
    have cut : ∀ n, n ≤ y.length → (l ++ 10 :: y).take ((l ++ 10 :: y).length - n) = l ++ [10] ++ y.take (y.length - n) := fun n hn => by
      have hl1 : (l ++ [(10 : UInt8)]).length = l.length + 1 := by simp
      rw [hlen, show l ++ 10 :: y = (l ++ [(10 : UInt8)]) ++ y by simp, List.take_append, hl1, List.take_of_length_le (by rw [hl1]; omega)]
      congr 2; omega
    cases hs : skip l with
    | nil =>
      rw [hs] at h hk
      simp only [Except.ok.injEq] at h
      subst h
      refine ⟨by simp, g + 1, by omega, ?_⟩
      show _ = consT [] _
      rw [consT_nil, allL, allL, hk, if_pos rfl]
      cases hy : skip y with
      | nil => simp only; rw [← Plc.adv_app]; simp
      | cons c r =>
        rw [hy, List.length_cons] at hsy
        simp only
        rw [cut _ hsy, Plc.adv_app]
        cases ht : tokL ((p.adv (l ++ [10])).adv (y.take (y.length - (r.length + 1)))) (c :: r) with
        | error e => rfl
        | ok tr =>
          obtain ⟨t, z⟩ := tr
          simp only
          obtain ⟨q1, q2, -⟩ := tokL_suf ht
          simp only [List.length_cons] at q2
          rw [cut _ (by omega), Plc.adv_app]
    | cons c r =>
      rw [hs] at h hk
      have hsl := (skip_suf l).length_le
      rw [hs, List.length_cons] at hsl
      rw [if_neg (by simp), List.cons_append] at hk
      simp only at h
      have cut2 : ∀ n, n ≤ l.length → (l ++ 10 :: y).take ((l ++ 10 :: y).length - (n + (y.length + 1))) = l.take (l.length - n) := fun n hn => by
        rw [hlen, List.take_append_of_le_length (by omega)]
        congr 1; omega
      rw [allL, hk]
      simp only
      rw [show (r ++ 10 :: y).length + 1 = (r.length + 1) + (y.length + 1) by simp; omega, cut2 _ hsl]
      cases ht : tokL (p.adv (l.take (l.length - (r.length + 1)))) (c :: r) with
      | error e => rw [ht] at h; cases h
      | ok tr =>
        obtain ⟨t, z⟩ := tr
        rw [ht] at h
        have ht2 := tokL_lf y ht
        obtain ⟨q1, q2, -⟩ := tokL_suf ht
        simp only [List.length_cons] at q2
        rw [List.cons_append] at ht2
        rw [ht2]
        simp only at h ⊢
        rw [show (z ++ 10 :: y).length = z.length + (y.length + 1) by simp, cut2 _ (by omega)]
        cases hx : allL f (p.adv (l.take (l.length - z.length))) z with
        | error e => rw [hx] at h; cases h
        | ok us =>
          rw [hx] at h
          simp only [Except.ok.injEq] at h
          subst h
          obtain ⟨hne, h', hh, e⟩ := allL_join y f z _ us g hx (by simp only [List.length_append, List.length_cons] at hg ⊢; omega)
          have hz : z <:+ l := q1.trans (by rw [← hs]; exact skip_suf l)
          have hp : (p.adv (l.take (l.length - z.length))).adv (z ++ [10]) = p.adv (l ++ [10]) := by
            rw [← Plc.adv_app]
            obtain ⟨w, rfl⟩ := hz
            rw [List.length_append, Nat.add_sub_cancel, List.take_left, List.append_assoc]
          refine ⟨by simp, h', hh, ?_⟩
          rw [e, hp]
          cases us with
          | nil => exact absurd rfl hne
          | cons v vs =>
            cases allL h' (p.adv (l ++ [10])) y with
            | error e => rfl
            | ok ws => rfl

def tkb (t : Tkn) : Nat × List UInt8 × Int × List (Bool × List UInt8) := (t.k, t.s, t.n, t.ps.map pb)
theorem flush_pb {ps qs : List Prt} (h : ps.map pb = qs.map pb) (b : List UInt8) : (flush ps b).map pb = (flush qs b).map pb := by
  unfold flush
  split
  · exact h
  · rw [List.map_append, List.map_append, h]
/-- a string's pieces don't hang on its place -/
theorem strL_pb : ∀ (f : Nat) (l : List UInt8) (p q : Plc) (b : List UInt8) (ps qs : List Prt) (n : Nat), ps.map pb = qs.map pb → (strL f l p b ps n).map (fun x => (x.1.map pb, x.2)) = (strL f l q b qs n).map (fun x => (x.1.map pb, x.2))
  | 0, _, _, _, _, _, _, _, _ => rfl
  | f + 1, [], _, _, _, _, _, _, _ => rfl
  | f + 1, c :: t, p, q, b, ps, qs, n, h => by
    rw [strL_cons, strL_cons]
    split
    · rfl
    · split
      · simp [flush_pb h b]
      · cases ht : tk (c :: t) with
        | none => rfl
        | some z =>
          obtain ⟨k, z⟩ := z
          simp only
          refine strL_pb f _ _ _ _ _ _ _ ?_
          cases z with
          | inl x => exact h
          | inr e => show (flush ps b ++ _).map pb = (flush qs b ++ _).map pb; rw [List.map_append, List.map_append, flush_pb h b]; rfl
theorem tokL_pb (p q : Plc) (l : List UInt8) {t : Tkn} {r : List UInt8} (h : tokL p l = .ok (t, r)) : ∃ u, tokL q l = .ok (u, r) ∧ tkb u = tkb t := by
  cases l with
  | nil => cases h
  | cons c x =>
    rw [← tokL_eq] at h
    rw [← tokL_eq]
    by_cases hl : isLetter c.toNat = true
    · rw [if_pos hl] at h ⊢
      split at h
      · cases h
      · rename_i h0
        rw [if_neg h0]
        simp only [Except.ok.injEq, Prod.mk.injEq] at h
        exact ⟨_, by rw [h.2], by rw [← h.1]; rfl⟩
    · rw [if_neg hl] at h ⊢
      by_cases hd : isDgt c.toNat = true
      · rw [if_pos hd] at h ⊢
        split at h
        · rename_i h0
          rw [if_pos h0]
          simp only [Except.ok.injEq, Prod.mk.injEq] at h
          exact ⟨_, by rw [h.2], by rw [← h.1]; rfl⟩
        · cases h
      · rw [if_neg hd] at h ⊢
        split at h
        · rename_i h0
          rw [if_pos h0]
          have k := strL_pb (x.length + 1) x (p.step c) (q.step c) [] [] [] 0 rfl
          cases h1 : strL (x.length + 1) x (p.step c) [] [] 0 with
          | none => rw [h1] at h; cases h
          | some S =>
            cases h2 : strL (x.length + 1) x (q.step c) [] [] 0 with
            | none => rw [h1, h2] at k; cases k
            | some S' =>
              obtain ⟨a, m, z⟩ := S
              obtain ⟨a', m', z'⟩ := S'
              rw [h1, h2] at k
              simp only [Option.map_some, Option.some.injEq, Prod.mk.injEq] at k
              obtain ⟨g1, rfl, rfl⟩ := k
              rw [h1] at h
              unfold strE at h ⊢
              simp only at h ⊢
              split at h
              · cases h
              · rename_i h3
                rw [if_neg h3]
                simp only [Except.ok.injEq, Prod.mk.injEq] at h
                exact ⟨_, by rw [h.2], by rw [← h.1]; unfold tkb; simp only; rw [g1]⟩
        · rename_i h0
          rw [if_neg h0]
          split at h
          · cases h
          · rename_i h1
            rw [if_neg h1]
            simp only [Except.ok.injEq, Prod.mk.injEq] at h
            exact ⟨_, by rw [h.2], by rw [← h.1]; rfl⟩
theorem allL_pb : ∀ (f g : Nat) (l : List UInt8) (p q : Plc) (ts : List Tkn), l.length < f → l.length < g → allL f p l = .ok ts → ∃ us, allL g q l = .ok us ∧ us.map tkb = ts.map tkb
  | 0, _, _, _, _, _, h, _, _ => by omega
  | f + 1, 0, _, _, _, _, _, h, _ => by omega
  | f + 1, g + 1, l, p, q, ts, h1, h2, h => by
    rw [allL] at h
    rw [allL]
    cases hs : skip l with
    | nil =>
      rw [hs] at h
      simp only [Except.ok.injEq] at h
      exact ⟨_, rfl, by rw [← h]; rfl⟩
    | cons c r =>
      rw [hs] at h
      simp only at h ⊢
      have hsl := (skip_suf l).length_le
      rw [hs, List.length_cons] at hsl
      cases ht : tokL (p.adv (l.take (l.length - (r.length + 1)))) (c :: r) with
      | error e => rw [ht] at h; cases h
      | ok tr =>
        obtain ⟨t, z⟩ := tr
        rw [ht] at h
        obtain ⟨u, hu, hb⟩ := tokL_pb _ (q.adv (l.take (l.length - (r.length + 1)))) _ ht
        rw [hu]
        simp only at h ⊢
        obtain ⟨q1, q2, -⟩ := tokL_suf ht
        simp only [List.length_cons] at q2
        cases hx : allL f (p.adv (l.take (l.length - z.length))) z with
        | error e => rw [hx] at h; cases h
        | ok vs =>
          rw [hx] at h
          simp only [Except.ok.injEq] at h
          obtain ⟨us, hus, e⟩ := allL_pb f g z _ (q.adv (l.take (l.length - z.length))) vs (by omega) (by omega) hx
          rw [hus]
          exact ⟨_, rfl, by rw [← h, List.map_cons, List.map_cons, hb, e]⟩
end Go.Proofs.YtncjncacfagldaaDoor
/- Whole tokens, whole items stored. -/
namespace Go.Proofs.YtncjncacfagldaaDoor
open Go.RowKit Go.Lib

theorem rc22 {w : World} {b : Nat} {c0 c1 c2 c3 c4 c5 c6 c7 c8 c9 c10 c11 c12 c13 c14 c15 c16 c17 c18 c19 c20 c21 : Value} {t : TypeId} (h : w.heap[b]? = some (.cells #[c0, c1, c2, c3, c4, c5, c6, c7, c8, c9, c10, c11, c12, c13, c14, c15, c16, c17, c18, c19, c20, c21] t (0, 0))) :
    (w.cell? ⟨b, 0, none⟩ = some c0 ∧ w.cell? ⟨b, 1, none⟩ = some c1 ∧ w.cell? ⟨b, 2, none⟩ = some c2 ∧ w.cell? ⟨b, 3, none⟩ = some c3 ∧ w.cell? ⟨b, 4, none⟩ = some c4 ∧ w.cell? ⟨b, 5, none⟩ = some c5 ∧ w.cell? ⟨b, 6, none⟩ = some c6 ∧ w.cell? ⟨b, 7, none⟩ = some c7 ∧ w.cell? ⟨b, 8, none⟩ = some c8 ∧ w.cell? ⟨b, 9, none⟩ = some c9 ∧ w.cell? ⟨b, 10, none⟩ = some c10 ∧ w.cell? ⟨b, 11, none⟩ = some c11 ∧ w.cell? ⟨b, 12, none⟩ = some c12 ∧ w.cell? ⟨b, 13, none⟩ = some c13 ∧ w.cell? ⟨b, 14, none⟩ = some c14 ∧ w.cell? ⟨b, 15, none⟩ = some c15 ∧ w.cell? ⟨b, 16, none⟩ = some c16 ∧ w.cell? ⟨b, 17, none⟩ = some c17 ∧ w.cell? ⟨b, 18, none⟩ = some c18 ∧ w.cell? ⟨b, 19, none⟩ = some c19 ∧ w.cell? ⟨b, 20, none⟩ = some c20 ∧ w.cell? ⟨b, 21, none⟩ = some c21) ∧ (∀ i, w.frozen? ⟨b, i, none⟩ = false) ∧ b < w.heap.size :=
  ⟨⟨cell_of_row w b 0 _ _ _ h, cell_of_row w b 1 _ _ _ h, cell_of_row w b 2 _ _ _ h, cell_of_row w b 3 _ _ _ h, cell_of_row w b 4 _ _ _ h, cell_of_row w b 5 _ _ _ h, cell_of_row w b 6 _ _ _ h, cell_of_row w b 7 _ _ _ h, cell_of_row w b 8 _ _ _ h, cell_of_row w b 9 _ _ _ h, cell_of_row w b 10 _ _ _ h, cell_of_row w b 11 _ _ _ h, cell_of_row w b 12 _ _ _ h, cell_of_row w b 13 _ _ _ h, cell_of_row w b 14 _ _ _ h, cell_of_row w b 15 _ _ _ h, cell_of_row w b 16 _ _ _ h, cell_of_row w b 17 _ _ _ h, cell_of_row w b 18 _ _ _ h, cell_of_row w b 19 _ _ _ h, cell_of_row w b 20 _ _ _ h, cell_of_row w b 21 _ _ _ h⟩, fun i => frozen_of_row w b i _ _ h, (Array.getElem?_eq_some_iff.1 h).1⟩
end Go.Proofs.YtncjncacfagldaaDoor
/- What the parser's model answers of a text in brackets. No Go in sight. -/
namespace Go.Proofs.YtncjncacfagldaaDoor
open Go.RowKit Go.Lib

theorem tk_in {C : Cx} {xs : List Tkn} {e : Tkn} (h : C.L = xs ++ [e]) (hx : ∀ x ∈ xs, x.k ≠ 0) {i : Nat} (hi : i < xs.length) : (C.tk i).k ≠ 0 := by
  unfold Cx.tk
  rw [h, List.getElem?_append_left hi, List.getElem?_eq_getElem hi]
  exact hx _ (List.getElem_mem hi)
end Go.Proofs.YtncjncacfagldaaDoor
/- Items of tokens that stand further on: the same, places aside. No Go in sight. -/
namespace Go.Proofs.YtncjncacfagldaaDoor
open Go.RowKit Go.Lib

mutual
/-- an item without its places -/
def bareI : It → It | .mk b nm lb e l _ => .mk b nm lb (bareX e) (bareIL l) ps0
def bareIL : List It → List It | [] => [] | a :: r => bareI a :: bareIL r
end
theorem bareI_mk (b : Bool) (nm : List UInt8) (lb : List (List UInt8)) (e : Ex) (l : List It) (p : Ps) : bareI (.mk b nm lb e l p) = .mk b nm lb (bareX e) (bareIL l) ps0 := by rw [bareI]
theorem bareIL_nil : bareIL [] = [] := by rw [bareIL]
theorem bareIL_cons (a : It) (r : List It) : bareIL (a :: r) = bareI a :: bareIL r := by rw [bareIL]
theorem bareIL_map (l : List It) : bareIL l = l.map bareI := by
  induction l with
  | nil => rw [bareIL_nil]; rfl
  | cons a r ih => rw [bareIL_cons, ih]; rfl
theorem bareIL_app (x y : List It) : bareIL (x ++ y) = bareIL x ++ bareIL y := by rw [bareIL_map, bareIL_map, bareIL_map, List.map_append]
theorem bareIL_len (x : List It) : (bareIL x).length = x.length := by rw [bareIL_map, List.length_map]
theorem bareI_b (X : It) : (bareI X).b = X.b := by cases X; rw [bareI_mk]; rfl
theorem bareI_nm (X : It) : (bareI X).nm = X.nm := by cases X; rw [bareI_mk]; rfl
theorem attrs_bare (l : List It) : attrs (bareIL l) = attrs l := by
  induction l with
  | nil => rw [bareIL_nil]
  | cons a r ih =>
    unfold attrs at ih ⊢
    rw [bareIL_cons, List.filter_cons, List.filter_cons, bareI_b]
    cases a.b with
    | true => exact ih
    | false => simp only [Bool.not_false, if_true, List.map_cons, ih, bareI_nm]
theorem attrs_same {l m : List It} (h : bareIL l = bareIL m) : attrs l = attrs m := by rw [← attrs_bare l, h, attrs_bare]
theorem len_same {l m : List It} (h : bareIL l = bareIL m) : l.length = m.length := by rw [← bareIL_len l, h, bareIL_len]
theorem attrs_app (x y : List It) : attrs (x ++ y) = attrs x ++ attrs y := by unfold attrs; rw [List.filter_append, List.map_append]
theorem idp_bare (X : It) : idp (bareI X) = idp X := by
  induction X using it_ind with
  | h X ih =>
    cases X with
    | mk b nm lb e l p =>
      have : ∀ (m : List It), (∀ x ∈ m, idp (bareI x) = idp x) → idpL (bareIL m) = idpL m := by
        intro m
        induction m with
        | nil => intro _; rw [bareIL_nil]
        | cons y r ih2 => intro hm; rw [bareIL_cons, idpL, idpL, hm y (List.mem_cons_self ..), ih2 fun x hx => hm x (List.mem_cons_of_mem _ hx)]
      rw [bareI_mk, idp, idp, this l ih]
theorem idpL_bare (l : List It) : idpL (bareIL l) = idpL l := by
  induction l with
  | nil => rw [bareIL_nil]
  | cons a r ih => rw [bareIL_cons, idpL, idpL, idp_bare, ih]
theorem idpL_same {l m : List It} (h : bareIL l = bareIL m) : idpL l = idpL m := by rw [← idpL_bare l, h, idpL_bare]
theorem idpL_app2 (l m : List It) : idpL (l ++ m) = max (idpL l) (idpL m) := by
  induction l with
  | nil => show idpL m = max 0 (idpL m); omega
  | cons c r ih => show max (idp c) (idpL (r ++ m)) = max (max (idp c) (idpL r)) (idpL m); rw [ih]; omega

section
variable {d n : Nat} {C D : Cx}
theorem read_oc (h : Rel d n C D) {p : Nat} (hp : p ≤ n) (h0 : (readM C p).2.2.1 = 0) : (readM D (p + d)).2.2.1 = 0 ∧ (readM D (p + d)).2.1 = (readM C p).2.1 + d ∧ bareX (readM C p).1 = bareX (readM D (p + d)).1 ∧ p ≤ (readM C p).2.1 ∧ (readM C p).2.1 ≤ n := by
  obtain ⟨e0, e1, e2⟩ := read_ok h0
  have hc := h.lc
  have hd := h.ld
  have hr := (fs_oc h (3 * C.L.length + 3) (3 * D.L.length + 3)).ex (s := ⟨p, 0, ps0⟩) (t := ⟨p + d, 0, ps0⟩) ⟨rfl, rfl, rfl, hp⟩ (by show 3 * (n - p) + 3 ≤ _; omega)
  rcases hr with hr | ⟨hr, h1, h2⟩
  · exact absurd e0 hr
  · have g2 := read_mk (C := D) (p := p + d) hr.f (by rw [← xdp_same h2]; exact e1)
    rw [e2, g2]
    exact ⟨rfl, hr.p, h2, h1, hr.n⟩
theorem Rel.has_eq (h : Rel d n C D) {p : Nat} (hp : p ≤ n) {x : List UInt8} (hx : x ≠ [41]) : D.has (p + d) 4 x = C.has p 4 x := h.is_eq (s := ⟨p, 0, ps0⟩) (t := ⟨p + d, 0, ps0⟩) ⟨rfl, rfl, rfl, hp⟩ rfl hx
theorem Rel.has_lt (h : Rel d n C D) {p k : Nat} {x : List UInt8} (hk : k ≠ 0) (hi : C.has p k x = true) : p < n := h.is_lt (s := ⟨p, 0, ps0⟩) hk hi
theorem labels_oc (h : Rel d n C D) : ∀ (f g p : Nat) (acc lb : List (List UInt8)) (q : Nat), labelsM C f p acc = .ok (lb, q) → q < n → n - p < f → n - p < g → labelsM D g (p + d) acc = .ok (lb, q + d)
  | 0, _, _, _, _, _, _, _, hf, _ => by omega
  | _ + 1, 0, _, _, _, _, _, _, _, hg => by omega
  | f + 1, g + 1, p, acc, lb, q, hl, hq, hf, hg => by
    rw [labelsM] at hl ⊢
    by_cases hk : (C.tk p).k = 3
    · have hp := h.lt (i := p) (by omega)
      obtain ⟨k1, -, -, k4⟩ := h.tk p hp
      rw [if_pos hk] at hl
      rw [k1, if_pos hk, any_pb, k4, ← any_pb, flat_pb, k4, ← flat_pb]
      split at hl
      · cases hl
      · rename_i h1
        rw [if_neg h1]
        split at hl
        · cases hl
        · rename_i h2
          rw [if_neg h2, show p + d + 1 = p + 1 + d by omega]
          exact labels_oc h f g (p + 1) _ _ _ hl hq (by omega) (by omega)
    · rw [if_neg hk] at hl
      injection hl with hl
      injection hl with h1 h2
      subst h1; subst h2
      rw [(h.tk p hq).1, if_neg hk]
/-- what the items of a block are read as, further on -/
def RecR (d n : Nat) (rec rec' : Nat → Res (List It)) : Prop := ∀ p l q, p ≤ n → rec p = .ok (l, q) → p < q ∧ q ≤ n ∧ ∃ l', rec' (p + d) = .ok (l', q + d) ∧ bareIL l = bareIL l'
theorem item_oc (h : Rel d n C D) {rec rec' : Nat → Res (List It)} (hrec : RecR d n rec rec') {acc acc' : List It} {p : Nat} {i : It} {q : Nat} (hi : itemM C rec acc p = .ok (i, q)) :
    p < n ∧ p < q ∧ q ≤ n ∧ (D.tk (p + d)).k = 1 ∧
    ((acc'.length ≠ 128 → (i.b = false → i.nm ∉ attrs acc') → ∃ i', itemM D rec' acc' (p + d) = .ok (i', q + d) ∧ bareI i = bareI i') ∧
     (acc'.length = 128 ∨ (i.b = false ∧ i.nm ∈ attrs acc') → ∃ e, itemM D rec' acc' (p + d) = .error e)) := by
  obtain ⟨hk, -, hnm, hcase⟩ := item_ok hi
  have hp := h.lt (i := p) (by omega)
  obtain ⟨k1, k2, -, -⟩ := h.tk p hp
  have he : D.has (p + d + 1) 4 [61] = C.has (p + 1) 4 [61] := by rw [show p + d + 1 = p + 1 + d by omega]; exact h.has_eq (by omega) (by decide)
  rcases hcase with ⟨hs, -, h0, rfl, rfl⟩ | ⟨hs, lb, q1, l, hb, hc, hr, rfl⟩
  · have hp1 := h.has_lt (by decide) hs
    obtain ⟨r1, r2, r3, r4, r5⟩ := read_oc h (p := p + 1 + 1) (by omega) h0
    have ep : p + 1 + 1 + d = p + d + 1 + 1 := by omega
    rw [ep] at r1 r2 r3
    refine ⟨hp, by omega, r5, by rw [k1, hk], fun hl hm => ?_, fun hx => ?_⟩
    · have hm' := hm rfl
      refine ⟨.mk false (D.tk (p + d)).s [] (readM D (p + d + 1 + 1)).1 [] (D.tk (p + d)).p.ps, ?_, ?_⟩
      · rw [item_mkA rec' (C := D) (p := p + d) (by rw [k1, hk]) hl (by rw [he, hs]) (by rw [k2]; exact hm') r1, r2]
      · rw [bareI_mk, bareI_mk, r3, k2]
    · unfold itemM
      rw [if_neg (by omega)]
      rcases hx with hx | ⟨-, hx⟩
      · rw [if_pos hx]; exact ⟨_, rfl⟩
      · split
        · exact ⟨_, rfl⟩
        · rw [if_pos (by rw [he, hs])]
          unfold attributeM
          have hx' : (C.tk p).s ∈ attrs acc' := hx
          rw [k2, if_pos hx']
          exact ⟨_, rfl⟩
  · have hq1 := h.has_lt (by decide) hc
    have g1 := labelsM_up hb
    obtain ⟨g2, g3, l', g4, g5⟩ := hrec _ _ _ (by omega) hr
    have hlc := h.lc
    have hld := h.ld
    have hb' := labels_oc h (C.L.length + 1) (D.L.length + 1) (p + 1) _ _ _ hb hq1 (by omega) (by omega)
    rw [show p + 1 + d = p + d + 1 by omega] at hb'
    rw [show q1 + 1 + d = q1 + d + 1 by omega] at g4
    refine ⟨hp, by omega, g3, by rw [k1, hk], fun hl _ => ?_, fun hx => ?_⟩
    · refine ⟨_, item_mkB (C := D) (p := p + d) (by rw [k1, hk]) hl (by rw [he, hs]) hb' (by rw [h.has_eq (by omega) (by decide), hc]) g4, ?_⟩
      rw [bareI_mk, bareI_mk, k2, g5]
    · unfold itemM
      rw [if_neg (by omega)]
      rcases hx with hx | ⟨hx, -⟩
      · rw [if_pos hx]; exact ⟨_, rfl⟩
      · cases hx
end
theorem item_new {C : Cx} {rec : Nat → Res (List It)} {acc : List It} {p : Nat} {i : It} {q : Nat} (h : itemM C rec acc p = .ok (i, q)) : acc.length ≠ 128 ∧ (i.b = false → i.nm ∉ attrs acc) := by
  obtain ⟨-, hl, hn, hc⟩ := item_ok h
  refine ⟨hl, fun hb => ?_⟩
  rcases hc with ⟨-, hm, -⟩ | ⟨-, lb, q1, l, -, -, -, rfl⟩
  · rw [hn]; exact hm
  · cases hb
/-- items have at most 128 in a row, and no two attributes of one name -/
def Good (l : List It) : Prop := l.length ≤ 128 ∧ (attrs l).Nodup
theorem good_nil : Good [] := ⟨by simp, by simp [attrs]⟩
theorem good_one {acc : List It} {i : It} (h : Good acc) (h1 : acc.length ≠ 128) (h2 : i.b = false → i.nm ∉ attrs acc) : Good (acc ++ [i]) := by
  refine ⟨by have := h.1; simp; omega, ?_⟩
  rw [attrs_app]
  cases hb : i.b with
  | true => rw [show attrs [i] = [] by unfold attrs; simp [hb], List.append_nil]; exact h.2
  | false =>
    rw [show attrs [i] = [i.nm] by unfold attrs; simp [hb]]
    refine List.nodup_append.2 ⟨h.2, by simp, fun a ha b hb2 e => ?_⟩
    have e2 : b = i.nm := by simpa using hb2
    rw [e, e2] at ha
    exact h2 hb ha
theorem items_inv {C : Cx} : ∀ (f k : Nat) (x : List UInt8) (acc : List It) (p : Nat) (l : List It) (q : Nat), itemsL C f k x acc p = .ok (l, q) → Good acc → Good l ∧ ∃ m, l = acc ++ m
  | 0, _, _, _, _, _, _, h, _ => by rw [itemsL] at h; cases h
  | f + 1, k, x, acc, p, l, q, h, hg => by
    rw [itemsL_succ] at h
    split at h
    · injection h with h; injection h with h1 _; subst h1; exact ⟨hg, [], by simp⟩
    · cases hi : itemM C (itemsL C f 4 [125] []) acc p with
      | error e => rw [hi] at h; cases h
      | ok y =>
        obtain ⟨i, q1⟩ := y
        rw [hi] at h
        obtain ⟨n1, n2⟩ := item_new hi
        obtain ⟨g1, m, g2⟩ := items_inv f k x _ q1 l q h (good_one hg n1 n2)
        exact ⟨g1, i :: m, by rw [g2]; simp⟩
theorem items_oc {d n : Nat} {C D : Cx} (h : Rel d n C D) : ∀ (f k : Nat) (x : List UInt8) (acc : List It) (p : Nat) (l : List It) (q : Nat), itemsL C f k x acc p = .ok (l, q) → p ≤ n → Good acc → ∀ (k' : Nat) (x' : List UInt8), k' ≠ 1 → ∀ (pre acc' : List It), bareIL acc = bareIL acc' → ∀ g, f ≤ g →
    (∃ l' j r, q = r + 1 ∧ bareIL l = bareIL l' ∧ j < f ∧ C.has r k x = true ∧ p + j ≤ r ∧ r ≤ n ∧ itemsL D g k' x' (pre ++ acc') (p + d) = itemsL D (g - j) k' x' (pre ++ l') (r + d)) ∨
    (¬ (pre.length + l.length ≤ 128 ∧ ∀ s ∈ attrs pre, s ∉ attrs l) ∧ ∃ e, itemsL D g k' x' (pre ++ acc') (p + d) = .error e)
  | 0, _, _, _, _, _, _, hl, _, _, _, _, _, _, _, _, _, _ => by rw [itemsL] at hl; cases hl
  | f + 1, k, x, acc, p, l, q, hl, hp, hga, k', x', hk', pre, acc', hb, g, hg => by
    obtain ⟨g, rfl⟩ : ∃ m, g = m + 1 := ⟨g - 1, by omega⟩
    rw [itemsL_succ] at hl
    by_cases hh : C.has p k x = true
    · rw [if_pos hh] at hl
      injection hl with hl; injection hl with h1 h2
      subst h1; subst h2
      exact .inl ⟨acc', 0, p, rfl, hb, by omega, hh, by omega, hp, rfl⟩
    · rw [if_neg hh] at hl
      cases hi : itemM C (itemsL C f 4 [125] []) acc p with
      | error e => rw [hi] at hl; cases hl
      | ok y =>
        obtain ⟨i, q1⟩ := y
        rw [hi] at hl
        simp only [] at hl
        have hrec : RecR d n (itemsL C f 4 [125] []) (itemsL D g 4 [125] []) := fun p l q hp hc => by
          rcases items_oc h f 4 [125] [] p l q hc hp good_nil 4 [125] (by decide) [] [] rfl g (by omega) with ⟨l', j, r, rfl, e1, e2, e3, e4, e5, e6⟩ | ⟨hn, -⟩
          · have hr := h.has_lt (by decide) e3
            refine ⟨by omega, by omega, l', ?_, e1⟩
            rw [List.nil_append, List.nil_append] at e6
            rw [e6]
            obtain ⟨m, hm⟩ : ∃ m, g - j = m + 1 := ⟨g - j - 1, by omega⟩
            rw [hm, itemsL_succ, if_pos (by rw [h.has_eq (by omega) (by decide), e3]), show r + d + 1 = r + 1 + d by omega]
          · exact absurd ⟨by have := (items_inv _ _ _ _ _ _ _ hc good_nil).1.1; simpa using this, fun s hs => by simp [attrs] at hs⟩ hn
        obtain ⟨hp1, hpq, hqn, hd1, hok, hno⟩ := item_oc h hrec (acc' := pre ++ acc') hi
        have hD : D.has (p + d) k' x' = false := by
          unfold Cx.has Cx.is
          simp only []
          rw [hd1, decide_eq_false (fun e => hk' e.symm)]
          rfl
        obtain ⟨n1, n2⟩ := item_new hi
        have hg2 := good_one hga n1 n2
        obtain ⟨m, hm⟩ := items_ext _ _ _ _ _ _ _ hl
        have step : itemsL D (g + 1) k' x' (pre ++ acc') (p + d) = match itemM D (itemsL D g 4 [125] []) (pre ++ acc') (p + d) with
            | .error e => .error e
            | .ok (i, q) => itemsL D g k' x' (pre ++ acc' ++ [i]) q := by
          rw [itemsL_succ, hD]
          rfl
        have hla := len_same hb
        have hll : l.length = acc.length + 1 + m.length := by rw [hm]; simp; omega
        by_cases hbad : (pre ++ acc').length = 128 ∨ (i.b = false ∧ i.nm ∈ attrs (pre ++ acc'))
        · obtain ⟨e, he⟩ := hno hbad
          refine .inr ⟨fun ⟨g1, g2⟩ => ?_, e, by rw [step, he]⟩
          rcases hbad with hx | ⟨hx1, hx2⟩
          · rw [List.length_append] at hx; omega
          · rw [attrs_app] at hx2
            rcases List.mem_append.1 hx2 with h1 | h1
            · refine g2 _ h1 ?_
              rw [hm, attrs_app, attrs_app, show attrs [i] = [i.nm] by unfold attrs; simp [hx1]]
              simp
            · exact n2 hx1 (by rw [attrs_same hb]; exact h1)
        · obtain ⟨i', hi', hbi⟩ := hok (fun h => hbad (.inl h)) (fun h1 h2 => hbad (.inr ⟨h1, h2⟩))
          have ih := items_oc h f k x (acc ++ [i]) q1 l q hl hqn hg2 k' x' hk' pre (acc' ++ [i']) (by rw [bareIL_app, bareIL_app, hb, bareIL_cons, bareIL_cons, hbi]) g (by omega)
          rw [← List.append_assoc] at ih
          rw [hi'] at step
          simp only [] at step
          rw [step]
          rcases ih with ⟨l', j, r, e0, e1, e2, e3, e4, e5, e6⟩ | ⟨hn, e, he⟩
          · exact .inl ⟨l', j + 1, r, e0, e1, by omega, e3, by omega, e5, by rw [e6, show g + 1 - (j + 1) = g - j by omega]⟩
          · exact .inr ⟨hn, e, he⟩
theorem items_first {C : Cx} {f : Nat} {acc : List It} {p : Nat} {l : List It} {q : Nat} (h : itemsL C f 0 [] acc p = .ok (l, q)) : (C.tk p).k ≠ 4 := by
  cases f with
  | zero => rw [itemsL] at h; cases h
  | succ f =>
    rw [itemsL_succ] at h
    split at h
    · rename_i hh
      have := (is_k hh).1
      show (C.tk p).k ≠ 4
      have e : (C.tk p).k = 0 := this
      omega
    · cases hi : itemM C (itemsL C f 4 [125] []) acc p with
      | error e => rw [hi] at h; cases h
      | ok y => obtain ⟨i, q1⟩ := y; have := (item_ok hi).1; omega
/-- the items of two texts, one behind the other -/
theorem conf_join {s t : List UInt8} (hs : s.length + t.length + 1 ≤ 32768) (ha : (confM s).2.1 = 0) (hb : (confM t).2.1 = 0) :
    ((confM s).1.length + (confM t).1.length ≤ 128 ∧ (∀ x ∈ attrs (confM s).1, x ∉ attrs (confM t).1) → (confM (s ++ 10 :: t)).2.1 = 0 ∧ bareIL (confM (s ++ 10 :: t)).1 = bareIL ((confM s).1 ++ (confM t).1)) ∧
    (¬ ((confM s).1.length + (confM t).1.length ≤ 128 ∧ ∀ x ∈ attrs (confM s).1, x ∉ attrs (confM t).1) → (confM (s ++ 10 :: t)).2.1 ≠ 0) := by
  obtain ⟨ts1, a, q1, l1, i1, d1, e1⟩ := conf_good ha
  obtain ⟨ts2, b, q2, l2, i2, d2, e2⟩ := conf_good hb
  rw [e1, e2]
  simp only []
  obtain ⟨xs, z1, rfl, hz1, hx1⟩ := lexL_kinds l1
  obtain ⟨ys, z2, rfl, hz2, hx2⟩ := lexL_kinds l2
  have m1 := l1
  have m2 := l2
  unfold lexL at m1 m2
  rw [if_neg (by omega)] at m1 m2
  have hlen : (s ++ 10 :: t).length = s.length + t.length + 1 := by simp; omega
  obtain ⟨-, h', hh, e3⟩ := allL_join t (s.length + 1) s plc0 _ ((s ++ 10 :: t).length + 1) m1 (by omega)
  obtain ⟨us, hus, hmap⟩ := allL_pb (t.length + 1) h' t plc0 (plc0.adv (s ++ [10])) _ (by omega) hh m2
  rw [hus, List.dropLast_concat] at e3
  have l3 : lexL (s ++ 10 :: t) = .ok (xs ++ us) := by
    unfold lexL
    rw [if_neg (by omega), e3]
    rfl
  have hul : us.length = ys.length + 1 := by
    have := congrArg List.length hmap
    simpa using this
  have tkD1 : ∀ i, i < xs.length → (⟨xs ++ us, ps0, innM⟩ : Cx).tk i = (⟨xs ++ [z1], ps0, innM⟩ : Cx).tk i := fun i hi => by
    unfold Cx.tk
    show ((xs ++ us)[i]?).getD tk0 = ((xs ++ [z1])[i]?).getD tk0
    rw [List.getElem?_append_left hi, List.getElem?_append_left hi]
  have tkD2 : ∀ i, i < us.length → tkb ((⟨xs ++ us, ps0, innM⟩ : Cx).tk (i + xs.length)) = tkb ((⟨ys ++ [z2], ps0, innM⟩ : Cx).tk i) := fun i hi => by
    have g : (us.map tkb)[i]? = ((ys ++ [z2]).map tkb)[i]? := by rw [hmap]
    rw [List.getElem?_map, List.getElem?_map] at g
    unfold Cx.tk
    show tkb (((xs ++ us)[i + xs.length]?).getD tk0) = tkb (((ys ++ [z2])[i]?).getD tk0)
    rw [List.getElem?_append_right (by omega), Nat.add_sub_cancel]
    have hi2 : i < (ys ++ [z2]).length := by simp; omega
    rw [List.getElem?_eq_getElem hi, List.getElem?_eq_getElem hi2] at g ⊢
    simpa using g
  have tb : ∀ {t u : Tkn}, tkb t = tkb u → t.k = u.k ∧ t.s = u.s ∧ t.n = u.n ∧ t.ps.map pb = u.ps.map pb := fun {t u} h => by
    unfold tkb at h
    simpa [Prod.mk.injEq] using h
  have hlu : (xs ++ us).length = xs.length + ys.length + 1 := by rw [List.length_append]; omega
  have R1 : Rel 0 xs.length ⟨xs ++ [z1], ps0, innM⟩ ⟨xs ++ us, ps0, innM⟩ :=
    ⟨fun i hi => by rw [Nat.add_zero, tkD1 i hi]; exact ⟨rfl, rfl, rfl, rfl⟩, fun i hi => tk_out (C := ⟨xs ++ [z1], ps0, innM⟩) rfl hz1 hi,
      fun h4 => by
        have g := (tb (tkD2 0 (by omega))).1
        rw [Nat.zero_add] at g
        rw [Nat.add_zero, g] at h4
        exact absurd h4 (items_first i2),
      inn_move, by show xs.length ≤ (xs ++ [z1]).length; simp, by show xs.length ≤ (xs ++ us).length; omega⟩
  have R2 : Rel xs.length ys.length ⟨ys ++ [z2], ps0, innM⟩ ⟨xs ++ us, ps0, innM⟩ :=
    ⟨fun i hi => tb (tkD2 i (by omega)), fun i hi => tk_out (C := ⟨ys ++ [z2], ps0, innM⟩) rfl hz2 hi,
      fun h4 => by
        have g := (tb (tkD2 ys.length (by omega))).1
        rw [g, tk_out (C := ⟨ys ++ [z2], ps0, innM⟩) rfl hz2 (Nat.le_refl _)] at h4
        exact absurd h4 (by decide),
      inn_move, by show ys.length ≤ (ys ++ [z2]).length; simp, by show ys.length ≤ (xs ++ us).length; omega⟩
  have ga := (items_inv _ _ _ _ _ _ _ i1 good_nil).1
  have gb := (items_inv _ _ _ _ _ _ _ i2 good_nil).1
  have s1 := items_oc R1 _ _ _ _ _ _ _ i1 (Nat.zero_le _) good_nil 0 [] (by decide) [] [] rfl ((xs ++ us).length + 1) (by simp; omega)
  rcases s1 with ⟨a', j1, r1, -, b1, -, c1, p1, u1, k1⟩ | ⟨hn, -⟩
  rotate_left
  · exact absurd ⟨by simpa using ga.1, fun s hs => by simp [attrs] at hs⟩ hn
  have r1e : r1 = xs.length := by
    by_cases hlt : r1 < xs.length
    · exact absurd (is_k c1).1 (tk_in (C := ⟨xs ++ [z1], ps0, innM⟩) rfl hx1 hlt)
    · omega
  subst r1e
  have s2 := items_oc R2 _ _ _ _ _ _ _ i2 (Nat.zero_le _) good_nil 0 [] (by decide) a' [] rfl ((xs ++ us).length + 1 - j1) (by simp; omega)
  rw [List.append_nil, Nat.zero_add] at s2
  simp only [List.nil_append, Nat.add_zero] at k1
  rw [conf_eq l3, k1]
  have al := len_same b1
  have aa := attrs_same b1
  rw [← al, ← aa] at s2
  rcases s2 with ⟨b', j2, r2, -, b2, v2, c2, p2, u2, k2⟩ | ⟨hn, e, he⟩
  · have r2e : r2 = ys.length := by
      by_cases hlt : r2 < ys.length
      · exact absurd (is_k c2).1 (tk_in (C := ⟨ys ++ [z2], ps0, innM⟩) rfl hx2 hlt)
      · omega
    subst r2e
    have hD : (⟨xs ++ us, ps0, innM⟩ : Cx).has (ys.length + xs.length) 0 [] = true := by
      obtain ⟨g1, g2, -⟩ := tb (tkD2 ys.length (by omega))
      obtain ⟨g3, g4⟩ := is_k c2
      have g3 : ((⟨ys ++ [z2], ps0, innM⟩ : Cx).tk ys.length).k = 0 := g3
      have g4 : ((⟨ys ++ [z2], ps0, innM⟩ : Cx).tk ys.length).s = [] := g4
      unfold Cx.has Cx.is
      simp only []
      rw [g1, g2, g3, g4]
      rfl
    obtain ⟨m, hm⟩ : ∃ m, (xs ++ us).length + 1 - j1 - j2 = m + 1 := ⟨(xs ++ us).length + 1 - j1 - j2 - 1, by rw [hlu]; simp at v2; omega⟩
    rw [hm, itemsL_succ, if_pos hD] at k2
    have k3 := k2
    rw [← k1] at k3
    have gU := (items_inv _ _ _ _ _ _ _ k3 good_nil).1
    have bl := len_same b2
    have ba := attrs_same b2
    have hdp : idpL (a' ++ b') ≤ 8 := by rw [idpL_app2, ← idpL_same b1, ← idpL_same b2]; omega
    rw [k2]
    unfold cfOf
    simp only []
    rw [if_neg (by omega)]
    refine ⟨fun _ => ⟨rfl, by rw [bareIL_app, bareIL_app, b1, b2]⟩, fun hng => ?_⟩
    refine absurd ⟨?_, fun x h1 h2 => ?_⟩ hng
    · have := gU.1; rw [List.length_append] at this; omega
    · have := gU.2
      rw [attrs_app] at this
      exact (List.nodup_append.1 this).2.2 x (by rw [← aa]; exact h1) x (by rw [← ba]; exact h2) rfl
  · refine ⟨fun hg => absurd hg hn, fun _ => ?_⟩
    rw [he]
    unfold cfOf
    obtain ⟨c, q⟩ := e
    simp only []
    exact items_nz _ _ _ _ _ _ he
end Go.Proofs.YtncjncacfagldaaDoor
/- What conf.Read leaves in a law's boxes; texts of any size; the example of conf. -/
namespace Go.Proofs.YtncjncacfagldaaDoor
open Go.RowKit Go.Lib

theorem CBx.kept {w0 w w' : World} {n b : Nat} {M : List It × Nat × Ps} {o : Option Addr} {cap : Nat} (h : CBx w0 w n b M o cap) (k : Below w.heap.size w w') : CBx w0 w' n b M o cap := by
  obtain ⟨h1, ⟨q, h3⟩, h4, h5⟩ := h
  exact ⟨h1.keptP fun i hi => ⟨hi, k.block i (Nat.lt_of_lt_of_le hi h4)⟩, ⟨q, (k.block _ (Array.getElem?_eq_some_iff.1 h3).1).trans h3⟩, Nat.le_trans h4 k.size, h5.trans (k.mono h5.size)⟩
end Go.Proofs.YtncjncacfagldaaDoor

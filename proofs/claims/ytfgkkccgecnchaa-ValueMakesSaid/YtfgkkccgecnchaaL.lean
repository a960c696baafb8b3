/- Weight, Depth, Known, by every. -/
import Derived.Test.YtfgkkccgecnchaaE
import Derived.OneCell
namespace Go.Proofs.Ytfgkkccgecnchaa
open Go.RowKit

/-- block cb is one cell that holds s -/
def Cap (cb : Nat) (s : Int) (w : World) : Prop := w.heap[cb]? = some (.cells #[.int .i64 s] 3 (0, 0))
theorem Cap.lt {cb : Nat} {s : Int} {w : World} (h : Cap cb s w) : cb < w.heap.size := (Array.getElem?_eq_some_iff.1 h).1
theorem Cap.keep {cb : Nat} {s : Int} {w w' : World} (h : Cap cb s w) (b : Below w.heap.size w w') : Cap cb s w' := by unfold Cap; rw [b.block _ h.lt]; exact h
theorem Cap.cell {cb : Nat} {s : Int} {w : World} (h : Cap cb s w) : w.cell? ⟨cb, 0, none⟩ = some (.int .i64 s) := by rw [cell_of_row w cb 0 _ 3 (0, 0) h]; rfl
theorem Cap.free {cb : Nat} {s : Int} {w : World} (h : Cap cb s w) : w.frozen? ⟨cb, 0, none⟩ = false := frozen_of_row w cb 0 _ 3 h
theorem Cap.set {cb : Nat} {s : Int} {w : World} (h : Cap cb s w) (s' : Int) : Cap cb s' (w.setCell ⟨cb, 0, none⟩ (.int .i64 s')) := by unfold Cap; rw [heap_setCell_same w cb 0 _ 3 _ h]; rfl
theorem Exc.setCell {cb : Nat} {a w : World} (h : Exc (some cb) a w) (o : Nat) (v : Value) : Exc (some cb) a (w.setCell ⟨cb, o, none⟩ v) :=
  ⟨h.os, h.tape, h.output, by rw [World.size_setCell]; exact h.size, fun k hk hc => (heap_setCell_other w ⟨cb, o, none⟩ k v (fun e => hc (by rw [e]))).trans (h.block k hk hc)⟩
def StW (_ : Nat) (_ : Val) (s : Int) (b : Bool) (s' : Int) : Prop := b = true ∧ s' = s + 1
def BdW (m : Nat) (s : Int) : Prop := 0 ≤ s ∧ s + m ≤ 130000
theorem stepW : Step StW BdW := ⟨fun m m' s h hm => ⟨h.1, by have := h.2; omega⟩, fun d V s b s' m h hb => by obtain ⟨_, rfl⟩ := h; exact ⟨by have := hb.1; omega, by have := hb.2; omega⟩⟩
set_option maxHeartbeats 1000000 in
theorem weight1 (cb n : Nat) (d : Nat) (V : Val) (v : Value) (s : Int) (w : World) (_ : d ≤ 60000) (h : Lies n w V v) (_ : n ≤ w.heap.size) (hi : Cap cb s w) (hb : BdW (sz V) s) :
    Calls Try.prog 45 #[v, .int .i64 d, .pointer (some ⟨cb, 0, none⟩)] w (StPost (some cb) (Cap cb) StW d V s w) := by
  obtain ⟨oL, oK, cL, cK, c, rfl, O⟩ := h.inv
  have hs := hb.1
  have hs2 := hb.2
  have hp := sz_pos V
  have hi2 := hi.keep ((Below.refl w.heap.size w).alloc (Nat.le_refl _) (bx V oL oK cL cK))
  have H := Lib.hid (hi2.set (s + 1))
  have HX := Lib.hid ((Exc.of_below (cb := some cb) ((Below.refl w.heap.size w).alloc (Nat.le_refl _) (bx V oL oK cL cK))).setCell 0 (.int .i64 (s + 1)))
  have q0 := hi2.cell
  have q1 := hi2.free
  clear h O hb hi hi2
  go_enter Try.func45, Try.ntmps45
  go_wp2
  go_ret
  exact ⟨true, s + 1, rfl, ⟨rfl, rfl⟩, H.out, HX.out⟩
theorem evW (V : Val) : ∀ d s b s', Ev StW d V s b s' → b = true ∧ s' = s + weight V := by
  induction V using val_ind with
  | h V ih =>
    have hl : ∀ l : List Val, (∀ x, x ∈ l → x ∈ V.l) → ∀ d s b s', EvL StW d l s b s' → b = true ∧ s' = s + ((l.map weight).sum : Nat) := by
      intro l
      induction l with
      | nil => intro _ d s b s' h; cases h; exact ⟨rfl, by simp⟩
      | cons a r ihr =>
        intro hm d s b s' h
        cases h with
        | stop h1 => have := (ih a (hm a (by simp)) _ _ _ _ h1).1; cases this
        | cons h1 h2 =>
          obtain ⟨_, rfl⟩ := ih a (hm a (by simp)) _ _ _ _ h1
          obtain ⟨e, rfl⟩ := ihr (fun x hx => hm x (by simp [hx])) _ _ _ _ h2
          exact ⟨e, by simp; omega⟩
    intro d s b s' h
    rw [weight_eq]
    cases h with
    | stop h1 => cases h1.1
    | go h1 h2 =>
      obtain ⟨_, rfl⟩ := h1
      obtain ⟨e, rfl⟩ := hl _ (fun x hx => els_mem hx) _ _ _ _ h2
      exact ⟨e, by omega⟩
def EyPost (cb : Option Nat) (Inv : Int → World → Prop) (St : Nat → Val → Int → Bool → Int → Prop) (V : Val) (s : Int) (w : World) (e : Ending) (w' : World) : Prop :=
  ∃ b s', e = .returned (.bool b) ∧ Ev St 1 V s b s' ∧ Inv s' w' ∧ Exc cb w w'
set_option maxHeartbeats 1000000 in
theorem every_45 (cb n : Nat) (hcb : n ≤ cb) (V : Val) (v : Value) (s : Int) (w : World) (hN : sz V ≤ 50000) (h : Lies n w V v) (hn : n ≤ w.heap.size) (hi : Cap cb s w) (hb : BdW (sz V) s) :
    Calls Try.prog 40 #[v, .func (.func 45) #[] #[.pointer (some ⟨cb, 0, none⟩)]] w (EyPost (some cb) (Cap cb) StW V s w) := by
  have HC := Lib.hid (everyFrom_45 cb (some cb) n (Cap cb) StW BdW stepW (fun s w w' h b => h.keep b) (fun s w k h e => by injection e with e; subst e; exact h.lt) (fun k e => by injection e with e; omega) (weight1 cb n) 50000 1 V)
  obtain ⟨oL, oK, cL, cK, c, rfl, O⟩ := h.inv
  have HW := Lib.hid ((Below.refl w.heap.size w).alloc (Nat.le_refl _) (bx V oL oK cL cK))
  have H := Lib.hid (And.intro (O.kept (HW.out.mono hn)).lies (And.intro (hi.keep HW.out) hb))
  clear h O hi hb
  go_enter Try.func40, Try.ntmps40
  go_wp2_with fail
  refine (HC.out _ s _ hN (by omega) H.out.1 (by simp; omega) H.out.2.1 H.out.2.2).mono ?_
  rintro e w1 ⟨b, s', rfl, he, hi, x⟩
  have K := Lib.hid (And.intro he (And.intro hi ((Exc.of_below HW.out).trans x)))
  clear he hi x
  go_wp2_with fail
  go_ret
  exact ⟨b, s', rfl, K.out.1, K.out.2.1, K.out.2.2⟩
set_option maxHeartbeats 1000000 in
theorem cweight_any (n : Nat) (V : Val) (v : Value) (w : World) (hN : sz V ≤ 50000) (h : Lies n w V v) (hn : n ≤ w.heap.size) :
    Calls Try.prog 14 #[v] w fun e w' => e = .returned (.int .i64 (weight V)) ∧ Below w.heap.size w w' := by
  obtain ⟨oL, oK, cL, cK, c, rfl, O⟩ := h.inv
  have HW := Lib.hid (((Below.refl w.heap.size w).alloc (Nat.le_refl _) (bx V oL oK cL cK)).alloc (by simp) (.cells #[.int .i64 0] 3))
  have HC : Hid (Cap (w.heap.size + 1) 0 ((w.alloc (bx V oL oK cL cK)).alloc (.cells #[.int .i64 0] 3))) := by have := heap_alloc_new (w.alloc (bx V oL oK cL cK)) (.cells #[.int .i64 0] 3); rw [World.size_alloc] at this; exact this
  have HZ : Hid (((w.alloc (bx V oL oK cL cK)).alloc (.cells #[.int .i64 0] 3)).heap.size = w.heap.size + 2) := by simp [Hid]
  have H := Lib.hid (O.kept (HW.out.mono hn)).lies
  clear h O
  go_enter Try.func14, Try.ntmps14
  go_wp2_with fail
  generalize (w.alloc _).alloc _ = w0 at *
  refine (every_45 (w.heap.size + 1) n (by omega) V _ 0 w0 hN H.out (by have := HZ.out; omega) HC.out ⟨by omega, by omega⟩).mono ?_
  rintro e w1 ⟨b, s', rfl, he, hi, x⟩
  obtain ⟨rfl, rfl⟩ := evW _ _ _ _ _ he
  have q0 := hi.cell
  have B := Lib.hid (HW.out.trans (x.below (n := w.heap.size) (by have := HZ.out; omega) (fun k e => by injection e with e; omega)))
  clear he hi x
  go_wp2_with fail
  go_ret
  exact ⟨(ret_int (by omega) : Ending.returned (.int .i64 _) = _), B.out⟩
def StD (d : Nat) (_ : Val) (s : Int) (b : Bool) (s' : Int) : Prop := b = true ∧ s' = max s d
def BdD (_ : Nat) (s : Int) : Prop := 0 ≤ s
theorem stepD : Step StD BdD := ⟨fun m m' s h hm => h, fun d V s b s' m h hb => by obtain ⟨_, rfl⟩ := h; unfold BdD at *; omega⟩
set_option maxHeartbeats 1000000 in
theorem depth1 (cb n : Nat) (d : Nat) (V : Val) (v : Value) (s : Int) (w : World) (_ : d ≤ 60000) (h : Lies n w V v) (_ : n ≤ w.heap.size) (hi : Cap cb s w) (_ : BdD (sz V) s) :
    Calls Try.prog 47 #[v, .int .i64 d, .pointer (some ⟨cb, 0, none⟩)] w (StPost (some cb) (Cap cb) StD d V s w) := by
  obtain ⟨oL, oK, cL, cK, c, rfl, O⟩ := h.inv
  have hi2 := hi.keep ((Below.refl w.heap.size w).alloc (Nat.le_refl _) (bx V oL oK cL cK))
  have H := Lib.hid (fun s' => hi2.set s')
  have HX := Lib.hid (fun s' : Int => (Exc.of_below (cb := some cb) ((Below.refl w.heap.size w).alloc (Nat.le_refl _) (bx V oL oK cL cK))).setCell 0 (.int .i64 s'))
  have q0 := hi2.cell
  have q1 := hi2.free
  clear h O hi hi2
  by_cases hsd : s ≤ d
  · have e : Hid (max s (d : Int) = d) := by unfold Hid; omega
    go_enter Try.func47, Try.ntmps47
    go_wp2
    all_goals
      go_ret
      exact ⟨true, _, rfl, ⟨rfl, by first | exact e.out.symm | omega⟩, H.out _, HX.out _⟩
  · have e : Hid (max s (d : Int) = s) := by unfold Hid; omega
    go_enter Try.func47, Try.ntmps47
    go_wp2
    all_goals
      go_ret
      exact ⟨true, _, rfl, ⟨rfl, by first | exact e.out.symm | omega⟩, H.out _, HX.out _⟩
theorem evD (V : Val) : ∀ d s b s', Ev StD d V s b s' → b = true ∧ s' = max s ((d + depth V : Nat) - 1 : Int) := by
  induction V using val_ind with
  | h V ih =>
    have hl : ∀ l : List Val, (∀ x, x ∈ l → x ∈ V.l) → ∀ d s b s', EvL StD (d + 1) l s b s' → b = true ∧ s' = if l = [] then s else max s ((d + most (l.map depth) : Nat) : Int) := by
      intro l
      induction l with
      | nil => intro _ d s b s' h; cases h; exact ⟨rfl, by simp⟩
      | cons a r ihr =>
        intro hm d s b s' h
        cases h with
        | stop h1 => have := (ih a (hm a (by simp)) _ _ _ _ h1).1; cases this
        | cons h1 h2 =>
          obtain ⟨_, rfl⟩ := ih a (hm a (by simp)) _ _ _ _ h1
          obtain ⟨e, e2⟩ := ihr (fun x hx => hm x (by simp [hx])) _ _ _ _ h2
          refine ⟨e, ?_⟩
          rw [e2, if_neg (List.cons_ne_nil a r), List.map_cons, most]
          by_cases e0 : r = []
          · subst e0; simp [most]; omega
          · rw [if_neg e0]; omega
    intro d s b s' h
    rw [depth_eq]
    cases h with
    | stop h1 => cases h1.1
    | go h1 h2 =>
      obtain ⟨_, rfl⟩ := h1
      obtain ⟨e, rfl⟩ := hl _ (fun x hx => els_mem hx) _ _ _ _ h2
      refine ⟨e, ?_⟩
      split
      · rename_i e0; rw [e0]; simp [most]
      · omega
theorem hdpos (V : Val) : 1 ≤ depth V := by rw [depth_eq]; omega
set_option maxHeartbeats 1000000 in
theorem every_47 (cb n : Nat) (hcb : n ≤ cb) (V : Val) (v : Value) (s : Int) (w : World) (hN : sz V ≤ 50000) (h : Lies n w V v) (hn : n ≤ w.heap.size) (hi : Cap cb s w) (hb : BdD (sz V) s) :
    Calls Try.prog 40 #[v, .func (.func 47) #[] #[.pointer (some ⟨cb, 0, none⟩)]] w (EyPost (some cb) (Cap cb) StD V s w) := by
  have HC := Lib.hid (everyFrom_47 cb (some cb) n (Cap cb) StD BdD stepD (fun s w w' h b => h.keep b) (fun s w k h e => by injection e with e; subst e; exact h.lt) (fun k e => by injection e with e; omega) (depth1 cb n) 50000 1 V)
  obtain ⟨oL, oK, cL, cK, c, rfl, O⟩ := h.inv
  have HW := Lib.hid ((Below.refl w.heap.size w).alloc (Nat.le_refl _) (bx V oL oK cL cK))
  have H := Lib.hid (And.intro (O.kept (HW.out.mono hn)).lies (And.intro (hi.keep HW.out) hb))
  clear h O hi hb
  go_enter Try.func40, Try.ntmps40
  go_wp2_with fail
  refine (HC.out _ s _ hN (by omega) H.out.1 (by simp; omega) H.out.2.1 H.out.2.2).mono ?_
  rintro e w1 ⟨b, s', rfl, he, hi, x⟩
  have K := Lib.hid (And.intro he (And.intro hi ((Exc.of_below HW.out).trans x)))
  clear he hi x
  go_wp2_with fail
  go_ret
  exact ⟨b, s', rfl, K.out.1, K.out.2.1, K.out.2.2⟩
set_option maxHeartbeats 1000000 in
theorem cdepth_any (n : Nat) (V : Val) (v : Value) (w : World) (hN : sz V ≤ 50000) (h : Lies n w V v) (hn : n ≤ w.heap.size) :
    Calls Try.prog 16 #[v] w fun e w' => e = .returned (.int .i64 (depth V)) ∧ Below w.heap.size w w' := by
  obtain ⟨oL, oK, cL, cK, c, rfl, O⟩ := h.inv
  have HW := Lib.hid (((Below.refl w.heap.size w).alloc (Nat.le_refl _) (bx V oL oK cL cK)).alloc (by simp) (.cells #[.int .i64 0] 3))
  have HC : Hid (Cap (w.heap.size + 1) 0 ((w.alloc (bx V oL oK cL cK)).alloc (.cells #[.int .i64 0] 3))) := by have := heap_alloc_new (w.alloc (bx V oL oK cL cK)) (.cells #[.int .i64 0] 3); rw [World.size_alloc] at this; exact this
  have HZ : Hid (((w.alloc (bx V oL oK cL cK)).alloc (.cells #[.int .i64 0] 3)).heap.size = w.heap.size + 2) := by simp [Hid]
  have H := Lib.hid (O.kept (HW.out.mono hn)).lies
  clear h O
  go_enter Try.func16, Try.ntmps16
  go_wp2_with fail
  generalize (w.alloc _).alloc _ = w0 at *
  refine (every_47 (w.heap.size + 1) n (by omega) V _ 0 w0 hN H.out (by have := HZ.out; omega) HC.out (Int.le_refl _)).mono ?_
  rintro e w1 ⟨b, s', rfl, he, hi, x⟩
  obtain ⟨rfl, rfl⟩ := evD _ _ _ _ _ he
  have q0 := hi.cell
  have hdp := hdpos V
  have B := Lib.hid (HW.out.trans (x.below (n := w.heap.size) (by have := HZ.out; omega) (fun k e => by injection e with e; omega)))
  clear he hi x
  go_wp2_with fail
  go_ret
  exact ⟨(ret_int (by have := hdp; omega) : Ending.returned (.int .i64 _) = _), B.out⟩
def StK (_ : Nat) (V : Val) (_ : Int) (b : Bool) (_ : Int) : Prop := b = (V.k != 6)
def BdK (_ : Nat) (_ : Int) : Prop := True
theorem stepK : Step StK BdK := ⟨fun _ _ _ _ _ => trivial, fun _ _ _ _ _ _ _ _ => trivial⟩
set_option maxHeartbeats 1000000 in
theorem known1 (n : Nat) (d : Nat) (V : Val) (v : Value) (s : Int) (w : World) (_ : d ≤ 60000) (h : Lies n w V v) (_ : n ≤ w.heap.size) (_ : True) (_ : BdK (sz V) s) :
    Calls Try.prog 63 #[v, .int .i64 d] w (StPost none (fun _ _ => True) StK d V s w) := by
  obtain ⟨oL, oK, cL, cK, c, rfl, O⟩ := h.inv
  have HX := Lib.hid (Exc.of_below (cb := none) ((Below.refl w.heap.size w).alloc (Nat.le_refl _) (bx V oL oK cL cK)))
  clear h O
  go_enter Try.func63, Try.ntmps63
  go_wp2
  go_ret
  exact ⟨_, s, rfl, rfl, trivial, HX.out⟩
theorem evK (V : Val) : ∀ d s b s', Ev StK d V s b s' → b = known V := by
  induction V using val_ind with
  | h V ih =>
    have hl : ∀ l : List Val, (∀ x, x ∈ l → x ∈ V.l) → ∀ d s b s', EvL StK d l s b s' → b = l.all known := by
      intro l
      induction l with
      | nil => intro _ d s b s' h; cases h; rfl
      | cons a r ihr =>
        intro hm d s b s' h
        rw [List.all_cons]
        cases h with
        | stop h1 => rw [← ih a (hm a (by simp)) _ _ _ _ h1]; rfl
        | cons h1 h2 => rw [← ih a (hm a (by simp)) _ _ _ _ h1, ← ihr (fun x hx => hm x (by simp [hx])) _ _ _ _ h2]; rfl
    intro d s b s' h
    rw [known_eq]
    cases h with
    | stop h1 => rw [← show false = (V.k != 6) from h1]; rfl
    | go h1 h2 => rw [← show true = (V.k != 6) from h1, hl _ (fun x hx => els_mem hx) _ _ _ _ h2]; rfl
set_option maxHeartbeats 1000000 in
theorem every_63 (n : Nat) (V : Val) (v : Value) (s : Int) (w : World) (hN : sz V ≤ 50000) (h : Lies n w V v) (hn : n ≤ w.heap.size) :
    Calls Try.prog 40 #[v, .func (.func 63) #[] #[]] w (EyPost none (fun _ _ => True) StK V s w) := by
  have HC := Lib.hid (everyFrom_63 none n (fun _ _ => True) StK BdK stepK (fun _ _ _ _ _ => trivial) (fun s w k h e => by cases e) (fun k e => by cases e) (known1 n) 50000 1 V)
  obtain ⟨oL, oK, cL, cK, c, rfl, O⟩ := h.inv
  have HW := Lib.hid ((Below.refl w.heap.size w).alloc (Nat.le_refl _) (bx V oL oK cL cK))
  have H := Lib.hid (O.kept (HW.out.mono hn)).lies
  clear h O
  go_enter Try.func40, Try.ntmps40
  go_wp2_with fail
  refine (HC.out _ s _ hN (by omega) H.out (by simp; omega) trivial trivial).mono ?_
  rintro e w1 ⟨b, s', rfl, he, hi, x⟩
  have K := Lib.hid (And.intro he ((Exc.of_below HW.out).trans x))
  clear he hi x
  go_wp2_with fail
  go_ret
  exact ⟨b, s', rfl, K.out.1, trivial, K.out.2⟩
set_option maxHeartbeats 1000000 in
theorem cknown_any (n : Nat) (V : Val) (v : Value) (w : World) (hN : sz V ≤ 50000) (h : Lies n w V v) (hn : n ≤ w.heap.size) :
    Calls Try.prog 29 #[v] w fun e w' => e = .returned (.bool (known V)) ∧ Below w.heap.size w w' := by
  obtain ⟨oL, oK, cL, cK, c, rfl, O⟩ := h.inv
  have HW := Lib.hid ((Below.refl w.heap.size w).alloc (Nat.le_refl _) (bx V oL oK cL cK))
  have H := Lib.hid (O.kept (HW.out.mono hn)).lies
  clear h O
  go_enter Try.func29, Try.ntmps29
  go_wp2_with fail
  refine (every_63 n V _ 0 _ hN H.out (by simp; omega)).mono ?_
  rintro e w1 ⟨b, s', rfl, he, hi, x⟩
  obtain rfl := evK _ _ _ _ _ he
  have B := Lib.hid (HW.out.trans ((x.below (n := w.heap.size + 1) (by simp) (fun k e => by cases e)).mono (by omega)))
  clear he hi x
  go_wp2_with fail
  go_ret
  exact ⟨rfl, B.out⟩
end Go.Proofs.Ytfgkkccgecnchaa

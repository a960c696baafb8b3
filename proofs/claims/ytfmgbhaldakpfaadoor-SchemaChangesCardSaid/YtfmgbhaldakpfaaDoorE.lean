/- everyFrom: all elements that count, by a function value that may keep one cell. -/
import Derived.Test.YtfmgbhaldakpfaaDoorD
import Derived.OneCell
namespace Go.Proofs.YtfmgbhaldakpfaaDoor
open Go.RowKit

/-- all blocks but one are as they were -/
structure Exc (cb : Option Nat) (w w' : World) : Prop where
  os : w'.os = w.os
  tape : w'.tape = w.tape
  output : w'.output = w.output
  size : w.heap.size ≤ w'.heap.size
  block : ∀ k, k < w.heap.size → cb ≠ some k → w'.heap[k]? = w.heap[k]?
theorem Exc.refl (cb : Option Nat) (w : World) : Exc cb w w := ⟨rfl, rfl, rfl, Nat.le_refl _, fun _ _ _ => rfl⟩
theorem Exc.trans {cb : Option Nat} {a b c : World} (h : Exc cb a b) (k : Exc cb b c) : Exc cb a c :=
  ⟨k.os.trans h.os, k.tape.trans h.tape, k.output.trans h.output, Nat.le_trans h.size k.size, fun i hi hc => (k.block i (Nat.lt_of_lt_of_le hi h.size) hc).trans (h.block i hi hc)⟩
theorem Exc.of_below {cb : Option Nat} {a b : World} (h : Below a.heap.size a b) : Exc cb a b := ⟨h.os, h.tape, h.output, h.size, fun k hk _ => h.block k hk⟩
theorem Exc.below {cb : Option Nat} {a b : World} {n : Nat} (h : Exc cb a b) (hn : n ≤ a.heap.size) (hc : ∀ k, cb = some k → n ≤ k) : Below n a b :=
  ⟨h.os, h.tape, h.output, h.size, fun k hk => h.block k (by omega) fun e => by have := hc k e; omega⟩
theorem Exc.cell {cb : Option Nat} {w w' : World} (h : Exc cb w w') {b o : Nat} (hb : b < w.heap.size) (hc : cb ≠ some b) : w'.cell? ⟨b, o, none⟩ = w.cell? ⟨b, o, none⟩ := World.cell?_of_block (w := w) (h.block b hb hc)
theorem Hd.exc {cb : Option Nat} {w w' : World} {b : Nat} {V : Val} {L K : Value} (h : Hd w b V L K) (x : Exc cb w w') (hc : cb ≠ some b) : Hd w' b V L K :=
  ⟨Nat.lt_of_lt_of_le h.lt x.size, (x.cell h.lt hc).trans h.c0, (x.cell h.lt hc).trans h.c1, (x.cell h.lt hc).trans h.c2, (x.cell h.lt hc).trans h.c3, (x.cell h.lt hc).trans h.c4, (x.cell h.lt hc).trans h.c5, (x.cell h.lt hc).trans h.c6, (x.cell h.lt hc).trans h.c7⟩

mutual
/-- what comes of a step at each: of a value -/
inductive Ev (St : Nat → Val → Int → Bool → Int → Prop) : Nat → Val → Int → Bool → Int → Prop
  | stop {d : Nat} {V : Val} {s s' : Int} : St d V s false s' → Ev St d V s false s'
  | go {d : Nat} {V : Val} {s s1 s' : Int} {b : Bool} : St d V s true s1 → EvL St (d + 1) (els V) s1 b s' → Ev St d V s b s'
/-- of a row of them -/
inductive EvL (St : Nat → Val → Int → Bool → Int → Prop) : Nat → List Val → Int → Bool → Int → Prop
  | nil {d : Nat} {s : Int} : EvL St d [] s true s
  | stop {d : Nat} {x : Val} {r : List Val} {s s' : Int} : Ev St d x s false s' → EvL St d (x :: r) s false s'
  | cons {d : Nat} {x : Val} {r : List Val} {s s1 s' : Int} {b : Bool} : Ev St d x s true s1 → EvL St d r s1 b s' → EvL St d (x :: r) s b s'
end
/-- what a step, and what it keeps, must obey -/
structure Step (St : Nat → Val → Int → Bool → Int → Prop) (Bd : Nat → Int → Prop) : Prop where
  mono : ∀ m m' s, Bd m s → m' ≤ m → Bd m' s
  step : ∀ d V s b s' m, St d V s b s' → Bd (m + 1) s → Bd m s'
theorem szL_els (V : Val) : szL (els V) + 1 ≤ sz V := by have := szL_take V.l (cnt V); rw [sz_eq]; unfold els; omega
theorem Step.ev {St : Nat → Val → Int → Bool → Int → Prop} {Bd : Nat → Int → Prop} (h : Step St Bd) (V : Val) : ∀ d s b s' m, Ev St d V s b s' → Bd (m + sz V) s → Bd m s' := by
  induction V using val_ind with
  | h V ih =>
    have hl : ∀ l : List Val, (∀ x, x ∈ l → x ∈ V.l) → ∀ d s b s' m, EvL St d l s b s' → Bd (m + szL l) s → Bd m s' := by
      intro l
      induction l with
      | nil => intro _ d s b s' m he hb; cases he; exact h.mono _ _ _ hb (by omega)
      | cons a r ihr =>
        intro hm d s b s' m he hb
        rw [szL] at hb
        cases he with
        | stop h1 => exact ih a (hm a (by simp)) _ _ _ _ _ h1 (h.mono _ _ _ hb (by omega))
        | cons h1 h2 => exact ihr (fun x hx => hm x (by simp [hx])) _ _ _ _ _ h2 (ih a (hm a (by simp)) _ _ _ _ _ h1 (h.mono _ _ _ hb (by omega)))
    intro d s b s' m he hb
    have hs := szL_els V
    cases he with
    | stop h1 => exact h.step _ _ _ _ _ _ h1 (h.mono _ _ _ hb (by omega))
    | go h1 h2 => exact hl _ (fun x hx => els_mem hx) _ _ _ _ _ h2 (h.step _ _ _ _ _ _ h1 (h.mono _ _ _ hb (by omega)))
def EvPost (cb : Option Nat) (Inv : Int → World → Prop) (St : Nat → Val → Int → Bool → Int → Prop) (d : Nat) (V : Val) (s : Int) (w : World) (e : Ending) (w' : World) : Prop :=
  ∃ b s', e = .returned (.bool b) ∧ Ev St d V s b s' ∧ Inv s' w' ∧ Exc cb w w'
def StPost (cb : Option Nat) (Inv : Int → World → Prop) (St : Nat → Val → Int → Bool → Int → Prop) (d : Nat) (V : Val) (s : Int) (w : World) (e : Ending) (w' : World) : Prop :=
  ∃ b s', e = .returned (.bool b) ∧ St d V s b s' ∧ Inv s' w' ∧ Exc cb w w'
/-- what is carried through the rounds: state, and what is still to come -/
def EvRel (Inv : Int → World → Prop) (St : Nat → Val → Int → Bool → Int → Prop) (Bd : Nat → Int → Prop) (d : Nat) (l : List Val) (s1 : Int) (j : Nat) (wr : World) : Prop :=
  ∃ s, (∀ b s', EvL St d (l.drop j) s b s' → EvL St d l s1 b s') ∧ Bd (szL (l.drop j)) s ∧ Inv s wr
set_option maxHeartbeats 2000000 in
theorem everyFrom_41 (cb : Nat) (cbo : Option Nat) (n : Nat) (Inv : Int → World → Prop) (St : Nat → Val → Int → Bool → Int → Prop) (Bd : Nat → Int → Prop) (HS : Step St Bd)
    (hI : ∀ s w w', Inv s w → Below w.heap.size w w' → Inv s w') (hlt : ∀ s w k, Inv s w → cbo = some k → k < w.heap.size) (hcb : ∀ k, cbo = some k → n ≤ k)
    (hf : ∀ (d : Nat) (V : Val) (v : Value) (s : Int) (w : World), d ≤ 60000 → Lies n w V v → n ≤ w.heap.size → Inv s w → Bd (sz V) s → Calls Tryd.prog 71 #[v, .int .i64 d, .pointer (some ⟨cb, 0, none⟩)] w (StPost cbo Inv St d V s w)) (N : Nat) :
    ∀ (d : Nat) (V : Val) (v : Value) (s : Int) (w : World), sz V ≤ N → d + N ≤ 60000 → Lies n w V v → n ≤ w.heap.size → Inv s w → Bd (sz V) s →
    Calls Tryd.prog 76 #[v, .int .i64 d, .func (.func 71) #[] #[.pointer (some ⟨cb, 0, none⟩)]] w (EvPost cbo Inv St d V s w) := by
  induction N with
  | zero => intro d V v s w hs; have := sz_pos V; omega
  | succ N ih =>
    intro d V v s w hs hd h hn hi hbd
    obtain ⟨oL, oK, cL, cK, c, rfl, O⟩ := h.inv
    have IH := Lib.hid ih
    have hsl := sz_l V
    have hcnt := cnt_le V
    have HB := Lib.hid (Hd.made w V (.slice oL V.l.length cL) (.slice oK V.ks.length cK))
    have HW := Lib.hid ((Below.refl w.heap.size w).alloc (Nat.le_refl _) (bx V oL oK cL cK))
    have HZ : Hid ((w.alloc (bx V oL oK cL cK)).heap.size = w.heap.size + 1) := by simp [Hid]
    have H := Lib.hid (O.kept (HW.out.mono hn))
    have HI := Lib.hid (hI _ _ _ hi HW.out)
    have HBD := Lib.hid hbd
    have HH := Lib.hid (And.intro hI (And.intro hlt (And.intro hcb (And.intro hf HS))))
    have hcw : Hid (∀ k, cbo = some k → k < w.heap.size) := fun k hk => hlt _ _ k hi hk
    clear h ih O hI hlt hcb hf HS hi hbd
    go_enter Tryd.func76, Tryd.ntmps76
    go_wp2_with fail
    generalize w.alloc _ = w0 at *
    refine (HH.out.2.2.2.1 d V _ s w0 (by omega) H.out.lies (by have := HZ.out; omega) HI.out HBD.out).mono ?_
    rintro e w1 ⟨b, s1, rfl, hst, hi1, x1⟩
    have hcne : Hid (cbo ≠ some w.heap.size) := fun e => by have := hcw.out _ e; omega
    have X1 := Lib.hid (And.intro hst (And.intro hi1 x1))
    have sz1 := x1.size
    have hz := HZ.out
    obtain ⟨q8, q0, q1, q2, q3, q4, q5, q6, q7⟩ := HB.out.exc x1 hcne.out
    clear hst hi1 x1 hz HI
    cases b with
    | false =>
      go_wp2
      go_ret
      exact ⟨false, s1, rfl, .stop X1.out.1, X1.out.2.1, (Exc.of_below HW.out).trans X1.out.2.2⟩
    | true =>
      have H1 := Lib.hid (H.out.kept (X1.out.2.2.below (by have := HZ.out; omega) HH.out.2.2.1))
      go_wp2_with fail
      refine (held_any H1.out (by have := HZ.out; omega)).mono ?_
      rintro e w2 ⟨oL2, oK2, cL2, cK2, rfl, rL, rK, b2⟩
      have B2 := Lib.hid b2
      have RL := Lib.hid rL
      have RM := rL.2.1
      have RC := rL.1
      unfold maxLen at RM
      have H2 := Lib.hid (H1.out.kept (B2.out.mono (by have := HZ.out; omega)))
      have I2 := Lib.hid (HH.out.1 _ _ _ X1.out.2.1 b2)
      have sz2 := b2.size
      clear rL rK b2 q8 q0 q1 q2 q3 q4 q5 q6 q7
      have hbs : Hid (Bd (szL (els V)) s1) := by have := szL_els V; exact HH.out.2.2.2.2.mono _ _ _ (HH.out.2.2.2.2.step _ _ _ _ _ (sz V - 1) X1.out.1 (by have := sz_pos V; rw [show sz V - 1 + 1 = sz V by omega]; exact HBD.out)) (by omega)
      have HZ2 : Hid (n ≤ w2.heap.size ∧ w.heap.size < w2.heap.size) := ⟨by have := HZ.out; omega, by have := HZ.out; omega⟩
      go_wp2_with fail
      go_loopw [23] (fun i wr => ∃ j : Nat, j ≤ cnt V ∧ i = .int .i64 j ∧ Hid (EvRel Inv St Bd (d + 1) (els V) s1 j wr) ∧ Hid (Exc cbo w2 wr)) (fun i _ => cnt V - (intOf i).toNat)
      case atStart => exact ⟨0, by omega, rfl, ⟨s1, fun _ _ h => h, hbs.out, I2.out⟩, Exc.refl _ _⟩
      case round =>
        obtain ⟨j, hj, rfl, hrel, hx⟩ := hrel
        by_cases hlt : j < cnt V
        · have hlt2 : j < V.l.length := by omega
          have BN := Lib.hid (hx.out.below HZ2.out.1 HH.out.2.2.1)
          obtain ⟨X, hX⟩ : ∃ X, V.l[j]? = some X := ⟨_, List.getElem?_eq_getElem hlt2⟩
          obtain ⟨b, off, oL3, oK3, cL3, cK3, c3, e1, hb, ⟨y0, y1, y2, y3, y4, y5, y6, y7⟩, OX⟩ := (RL.out.below BN.out).elv hlt ((H2.out.kept BN.out).el j X hX)
          have hmem := sz_mem (List.mem_of_getElem? hX)
          have hdr : Hid ((els V).drop j = X :: (els V).drop (j + 1)) := by
            obtain ⟨h1, h2, e⟩ := els_get hlt
            unfold Hid
            rw [List.drop_eq_getElem_cons h1, e]
            rw [List.getElem?_eq_getElem h2] at hX
            injection hX with hX
            rw [hX]
          have OX2 := Lib.hid OX
          clear hX OX
          subst e1
          go_wp2_with fail
          have HW3 := Lib.hid ((Below.refl wr.heap.size wr).alloc (Nat.le_refl _) (bx X oL3 oK3 cL3 cK3))
          obtain ⟨s, hk, hbd, hi⟩ := hrel.out
          have hsz := hx.out.size
          have K := Lib.hid (And.intro hk (And.intro hbd (HH.out.1 _ _ _ hi HW3.out)))
          clear hk hbd hi
          have hin : n ≤ wr.heap.size := by have := HZ2.out.1; omega
          refine (IH.out (d + 1) X _ s _ (by omega) (by omega) (OX2.out.kept (HW3.out.mono hin)).lies (by simp; omega) K.out.2.2 (HH.out.2.2.2.2.mono _ _ _ K.out.2.1 (by rw [hdr.out, szL]; omega))).mono ?_
          rintro e w4 ⟨b4, s4, rfl, hev, hi4, x4⟩
          have X4 := Lib.hid (And.intro hev (And.intro hi4 (hx.out.trans ((Exc.of_below HW3.out).trans x4))))
          clear hev hi4 x4
          cases b4 with
          | false =>
            go_wp2_with fail
            go_ret
            exact ⟨false, s4, rfl, .go X1.out.1 (K.out.1 _ _ (by rw [hdr.out]; exact .stop X4.out.1)), X4.out.2.1, (Exc.of_below HW.out).trans (X1.out.2.2.trans ((Exc.of_below B2.out).trans X4.out.2.2))⟩
          | true =>
            go_wp2_with fail
            go_roundw
            case rel => exact ⟨j + 1, by omega, by go_num, ⟨s4, fun b s' h => K.out.1 _ _ (by rw [hdr.out]; exact .cons X4.out.1 h), HH.out.2.2.2.2.ev _ _ _ _ _ _ X4.out.1 (HH.out.2.2.2.2.mono _ _ _ K.out.2.1 (by rw [hdr.out, szL]; omega)), X4.out.2.1⟩, X4.out.2.2⟩
            case measure => simp [intOf]; omega
        · obtain ⟨s, hk, hbd, hi⟩ := hrel.out
          have K := Lib.hid (And.intro hk hi)
          have hdr : Hid ((els V).drop j = []) := by unfold Hid; rw [List.drop_eq_nil_iff, els_len]; omega
          clear hk hbd hi
          go_wp2_with fail
          go_ret
          exact ⟨true, s, rfl, .go X1.out.1 (K.out.1 _ _ (by rw [hdr.out]; exact .nil)), K.out.2, (Exc.of_below HW.out).trans (X1.out.2.2.trans ((Exc.of_below B2.out).trans hx.out))⟩
set_option maxHeartbeats 2000000 in
theorem everyFrom_63 (cbo : Option Nat) (n : Nat) (Inv : Int → World → Prop) (St : Nat → Val → Int → Bool → Int → Prop) (Bd : Nat → Int → Prop) (HS : Step St Bd)
    (hI : ∀ s w w', Inv s w → Below w.heap.size w w' → Inv s w') (hlt : ∀ s w k, Inv s w → cbo = some k → k < w.heap.size) (hcb : ∀ k, cbo = some k → n ≤ k)
    (hf : ∀ (d : Nat) (V : Val) (v : Value) (s : Int) (w : World), d ≤ 60000 → Lies n w V v → n ≤ w.heap.size → Inv s w → Bd (sz V) s → Calls Tryd.prog 62 #[v, .int .i64 d] w (StPost cbo Inv St d V s w)) (N : Nat) :
    ∀ (d : Nat) (V : Val) (v : Value) (s : Int) (w : World), sz V ≤ N → d + N ≤ 60000 → Lies n w V v → n ≤ w.heap.size → Inv s w → Bd (sz V) s →
    Calls Tryd.prog 76 #[v, .int .i64 d, .func (.func 62) #[] #[]] w (EvPost cbo Inv St d V s w) := by
  induction N with
  | zero => intro d V v s w hs; have := sz_pos V; omega
  | succ N ih =>
    intro d V v s w hs hd h hn hi hbd
    obtain ⟨oL, oK, cL, cK, c, rfl, O⟩ := h.inv
    have IH := Lib.hid ih
    have hsl := sz_l V
    have hcnt := cnt_le V
    have HB := Lib.hid (Hd.made w V (.slice oL V.l.length cL) (.slice oK V.ks.length cK))
    have HW := Lib.hid ((Below.refl w.heap.size w).alloc (Nat.le_refl _) (bx V oL oK cL cK))
    have HZ : Hid ((w.alloc (bx V oL oK cL cK)).heap.size = w.heap.size + 1) := by simp [Hid]
    have H := Lib.hid (O.kept (HW.out.mono hn))
    have HI := Lib.hid (hI _ _ _ hi HW.out)
    have HBD := Lib.hid hbd
    have HH := Lib.hid (And.intro hI (And.intro hlt (And.intro hcb (And.intro hf HS))))
    have hcw : Hid (∀ k, cbo = some k → k < w.heap.size) := fun k hk => hlt _ _ k hi hk
    clear h ih O hI hlt hcb hf HS hi hbd
    go_enter Tryd.func76, Tryd.ntmps76
    go_wp2_with fail
    generalize w.alloc _ = w0 at *
    refine (HH.out.2.2.2.1 d V _ s w0 (by omega) H.out.lies (by have := HZ.out; omega) HI.out HBD.out).mono ?_
    rintro e w1 ⟨b, s1, rfl, hst, hi1, x1⟩
    have hcne : Hid (cbo ≠ some w.heap.size) := fun e => by have := hcw.out _ e; omega
    have X1 := Lib.hid (And.intro hst (And.intro hi1 x1))
    have sz1 := x1.size
    have hz := HZ.out
    obtain ⟨q8, q0, q1, q2, q3, q4, q5, q6, q7⟩ := HB.out.exc x1 hcne.out
    clear hst hi1 x1 hz HI
    cases b with
    | false =>
      go_wp2
      go_ret
      exact ⟨false, s1, rfl, .stop X1.out.1, X1.out.2.1, (Exc.of_below HW.out).trans X1.out.2.2⟩
    | true =>
      have H1 := Lib.hid (H.out.kept (X1.out.2.2.below (by have := HZ.out; omega) HH.out.2.2.1))
      go_wp2_with fail
      refine (held_any H1.out (by have := HZ.out; omega)).mono ?_
      rintro e w2 ⟨oL2, oK2, cL2, cK2, rfl, rL, rK, b2⟩
      have B2 := Lib.hid b2
      have RL := Lib.hid rL
      have RM := rL.2.1
      have RC := rL.1
      unfold maxLen at RM
      have H2 := Lib.hid (H1.out.kept (B2.out.mono (by have := HZ.out; omega)))
      have I2 := Lib.hid (HH.out.1 _ _ _ X1.out.2.1 b2)
      have sz2 := b2.size
      clear rL rK b2 q8 q0 q1 q2 q3 q4 q5 q6 q7
      have hbs : Hid (Bd (szL (els V)) s1) := by have := szL_els V; exact HH.out.2.2.2.2.mono _ _ _ (HH.out.2.2.2.2.step _ _ _ _ _ (sz V - 1) X1.out.1 (by have := sz_pos V; rw [show sz V - 1 + 1 = sz V by omega]; exact HBD.out)) (by omega)
      have HZ2 : Hid (n ≤ w2.heap.size ∧ w.heap.size < w2.heap.size) := ⟨by have := HZ.out; omega, by have := HZ.out; omega⟩
      go_wp2_with fail
      go_loopw [23] (fun i wr => ∃ j : Nat, j ≤ cnt V ∧ i = .int .i64 j ∧ Hid (EvRel Inv St Bd (d + 1) (els V) s1 j wr) ∧ Hid (Exc cbo w2 wr)) (fun i _ => cnt V - (intOf i).toNat)
      case atStart => exact ⟨0, by omega, rfl, ⟨s1, fun _ _ h => h, hbs.out, I2.out⟩, Exc.refl _ _⟩
      case round =>
        obtain ⟨j, hj, rfl, hrel, hx⟩ := hrel
        by_cases hlt : j < cnt V
        · have hlt2 : j < V.l.length := by omega
          have BN := Lib.hid (hx.out.below HZ2.out.1 HH.out.2.2.1)
          obtain ⟨X, hX⟩ : ∃ X, V.l[j]? = some X := ⟨_, List.getElem?_eq_getElem hlt2⟩
          obtain ⟨b, off, oL3, oK3, cL3, cK3, c3, e1, hb, ⟨y0, y1, y2, y3, y4, y5, y6, y7⟩, OX⟩ := (RL.out.below BN.out).elv hlt ((H2.out.kept BN.out).el j X hX)
          have hmem := sz_mem (List.mem_of_getElem? hX)
          have hdr : Hid ((els V).drop j = X :: (els V).drop (j + 1)) := by
            obtain ⟨h1, h2, e⟩ := els_get hlt
            unfold Hid
            rw [List.drop_eq_getElem_cons h1, e]
            rw [List.getElem?_eq_getElem h2] at hX
            injection hX with hX
            rw [hX]
          have OX2 := Lib.hid OX
          clear hX OX
          subst e1
          go_wp2_with fail
          have HW3 := Lib.hid ((Below.refl wr.heap.size wr).alloc (Nat.le_refl _) (bx X oL3 oK3 cL3 cK3))
          obtain ⟨s, hk, hbd, hi⟩ := hrel.out
          have hsz := hx.out.size
          have K := Lib.hid (And.intro hk (And.intro hbd (HH.out.1 _ _ _ hi HW3.out)))
          clear hk hbd hi
          have hin : n ≤ wr.heap.size := by have := HZ2.out.1; omega
          refine (IH.out (d + 1) X _ s _ (by omega) (by omega) (OX2.out.kept (HW3.out.mono hin)).lies (by simp; omega) K.out.2.2 (HH.out.2.2.2.2.mono _ _ _ K.out.2.1 (by rw [hdr.out, szL]; omega))).mono ?_
          rintro e w4 ⟨b4, s4, rfl, hev, hi4, x4⟩
          have X4 := Lib.hid (And.intro hev (And.intro hi4 (hx.out.trans ((Exc.of_below HW3.out).trans x4))))
          clear hev hi4 x4
          cases b4 with
          | false =>
            go_wp2_with fail
            go_ret
            exact ⟨false, s4, rfl, .go X1.out.1 (K.out.1 _ _ (by rw [hdr.out]; exact .stop X4.out.1)), X4.out.2.1, (Exc.of_below HW.out).trans (X1.out.2.2.trans ((Exc.of_below B2.out).trans X4.out.2.2))⟩
          | true =>
            go_wp2_with fail
            go_roundw
            case rel => exact ⟨j + 1, by omega, by go_num, ⟨s4, fun b s' h => K.out.1 _ _ (by rw [hdr.out]; exact .cons X4.out.1 h), HH.out.2.2.2.2.ev _ _ _ _ _ _ X4.out.1 (HH.out.2.2.2.2.mono _ _ _ K.out.2.1 (by rw [hdr.out, szL]; omega)), X4.out.2.1⟩, X4.out.2.2⟩
            case measure => simp [intOf]; omega
        · obtain ⟨s, hk, hbd, hi⟩ := hrel.out
          have K := Lib.hid (And.intro hk hi)
          have hdr : Hid ((els V).drop j = []) := by unfold Hid; rw [List.drop_eq_nil_iff, els_len]; omega
          clear hk hbd hi
          go_wp2_with fail
          go_ret
          exact ⟨true, s, rfl, .go X1.out.1 (K.out.1 _ _ (by rw [hdr.out]; exact .nil)), K.out.2, (Exc.of_below HW.out).trans (X1.out.2.2.trans ((Exc.of_below B2.out).trans hx.out))⟩
end Go.Proofs.YtfmgbhaldakpfaaDoor

/- Weight, Depth, Known, by every. -/
namespace Go.Proofs.YtfmgbhaldakpfaaDoor
open Go.RowKit

/-- block cb is one cell that holds s -/
def Cap (cb : Nat) (s : Int) (w : World) : Prop := w.heap[cb]? = some (.cells #[.int .i64 s] 3 (0, 0))
theorem Cap.lt {cb : Nat} {s : Int} {w : World} (h : Cap cb s w) : cb < w.heap.size := (Array.getElem?_eq_some_iff.1 h).1
theorem Cap.keep {cb : Nat} {s : Int} {w w' : World} (h : Cap cb s w) (b : Below w.heap.size w w') : Cap cb s w' := by unfold Cap; rw [b.block _ h.lt]; exact h
theorem Cap.cell {cb : Nat} {s : Int} {w : World} (h : Cap cb s w) : w.cell? ⟨cb, 0, none⟩ = some (.int .i64 s) := by rw [cell_of_row w cb 0 _ 3 (0, 0) h]; rfl
theorem Cap.free {cb : Nat} {s : Int} {w : World} (h : Cap cb s w) : w.frozen? ⟨cb, 0, none⟩ = false := frozen_of_row w cb 0 _ 3 h
theorem Cap.set {cb : Nat} {s : Int} {w : World} (h : Cap cb s w) (s' : Int) : Cap cb s' (w.setCell ⟨cb, 0, none⟩ (.int .i64 s')) := by unfold Cap; rw [heap_setCell_same w cb 0 _ 3 _ h]; rfl
theorem Exc.setCell {cb : Nat} {a w : World} (h : Exc (some cb) a w) (o : Nat) (v : Value) : Exc (some cb) a (w.setCell ⟨cb, o, none⟩ v) :=
  ⟨h.os, h.tape, h.output, by rw [World.size_setCell]; exact h.size, fun k hk hc => (heap_setCell_other w ⟨cb, o, none⟩ k v (fun e => hc (by rw [e]))).trans (h.block k hk hc)⟩
def BdW (m : Nat) (s : Int) : Prop := 0 ≤ s ∧ s + m ≤ 130000
def EyPost (cb : Option Nat) (Inv : Int → World → Prop) (St : Nat → Val → Int → Bool → Int → Prop) (V : Val) (s : Int) (w : World) (e : Ending) (w' : World) : Prop :=
  ∃ b s', e = .returned (.bool b) ∧ Ev St 1 V s b s' ∧ Inv s' w' ∧ Exc cb w w'
def StK (_ : Nat) (V : Val) (_ : Int) (b : Bool) (_ : Int) : Prop := b = (V.k != 6)
def BdK (_ : Nat) (_ : Int) : Prop := True
theorem stepK : Step StK BdK := ⟨fun _ _ _ _ _ => trivial, fun _ _ _ _ _ _ _ _ => trivial⟩
set_option maxHeartbeats 1000000 in
theorem known1 (n : Nat) (d : Nat) (V : Val) (v : Value) (s : Int) (w : World) (_ : d ≤ 60000) (h : Lies n w V v) (_ : n ≤ w.heap.size) (_ : True) (_ : BdK (sz V) s) :
    Calls Tryd.prog 62 #[v, .int .i64 d] w (StPost none (fun _ _ => True) StK d V s w) := by
  obtain ⟨oL, oK, cL, cK, c, rfl, O⟩ := h.inv
  have HX := Lib.hid (Exc.of_below (cb := none) ((Below.refl w.heap.size w).alloc (Nat.le_refl _) (bx V oL oK cL cK)))
  clear h O
  go_enter Tryd.func62, Tryd.ntmps62
  go_wp2
  go_ret
  exact ⟨_, s, rfl, rfl, trivial, HX.out⟩
theorem evK (V : Val) : ∀ d s b s', Ev StK d V s b s' → b = known V := by
  induction V using val_ind with
  | h V ih =>
    have hl : ∀ l : List Val, (∀ x, x ∈ l → x ∈ V.l) → ∀ d s b s', EvL StK d l s b s' → b = l.all known := by
      intro l
      induction l with
      | nil => intro _ d s b s' h; cases h; rfl
      | cons a r ihr =>
        intro hm d s b s' h
        rw [List.all_cons]
        cases h with
        | stop h1 => rw [← ih a (hm a (by simp)) _ _ _ _ h1]; rfl
        | cons h1 h2 => rw [← ih a (hm a (by simp)) _ _ _ _ h1, ← ihr (fun x hx => hm x (by simp [hx])) _ _ _ _ h2]; rfl
    intro d s b s' h
    rw [known_eq]
    cases h with
    | stop h1 => rw [← show false = (V.k != 6) from h1]; rfl
    | go h1 h2 => rw [← show true = (V.k != 6) from h1, hl _ (fun x hx => els_mem hx) _ _ _ _ h2]; rfl
set_option maxHeartbeats 1000000 in
theorem every_63 (n : Nat) (V : Val) (v : Value) (s : Int) (w : World) (hN : sz V ≤ 50000) (h : Lies n w V v) (hn : n ≤ w.heap.size) :
    Calls Tryd.prog 61 #[v, .func (.func 62) #[] #[]] w (EyPost none (fun _ _ => True) StK V s w) := by
  have HC := Lib.hid (everyFrom_63 none n (fun _ _ => True) StK BdK stepK (fun _ _ _ _ _ => trivial) (fun s w k h e => by cases e) (fun k e => by cases e) (known1 n) 50000 1 V)
  obtain ⟨oL, oK, cL, cK, c, rfl, O⟩ := h.inv
  have HW := Lib.hid ((Below.refl w.heap.size w).alloc (Nat.le_refl _) (bx V oL oK cL cK))
  have H := Lib.hid (O.kept (HW.out.mono hn)).lies
  clear h O
  go_enter Tryd.func61, Tryd.ntmps61
  go_wp2_with fail
  refine (HC.out _ s _ hN (by omega) H.out (by simp; omega) trivial trivial).mono ?_
  rintro e w1 ⟨b, s', rfl, he, hi, x⟩
  have K := Lib.hid (And.intro he ((Exc.of_below HW.out).trans x))
  clear he hi x
  go_wp2_with fail
  go_ret
  exact ⟨b, s', rfl, K.out.1, trivial, K.out.2⟩
set_option maxHeartbeats 1000000 in
theorem cknown_any (n : Nat) (V : Val) (v : Value) (w : World) (hN : sz V ≤ 50000) (h : Lies n w V v) (hn : n ≤ w.heap.size) :
    Calls Tryd.prog 41 #[v] w fun e w' => e = .returned (.bool (known V)) ∧ Below w.heap.size w w' := by
  obtain ⟨oL, oK, cL, cK, c, rfl, O⟩ := h.inv
  have HW := Lib.hid ((Below.refl w.heap.size w).alloc (Nat.le_refl _) (bx V oL oK cL cK))
  have H := Lib.hid (O.kept (HW.out.mono hn)).lies
  clear h O
  go_enter Tryd.func41, Tryd.ntmps41
  go_wp2_with fail
  refine (every_63 n V _ 0 _ hN H.out (by simp; omega)).mono ?_
  rintro e w1 ⟨b, s', rfl, he, hi, x⟩
  obtain rfl := evK _ _ _ _ _ he
  have B := Lib.hid (HW.out.trans ((x.below (n := w.heap.size + 1) (by simp) (fun k e => by cases e)).mono (by omega)))
  clear he hi x
  go_wp2_with fail
  go_ret
  exact ⟨rfl, B.out⟩
end Go.Proofs.YtfmgbhaldakpfaaDoor

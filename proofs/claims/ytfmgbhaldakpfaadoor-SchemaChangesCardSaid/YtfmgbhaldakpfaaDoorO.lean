/- Check: every value that it holds is of a right shape; its weight and its depth are within the limits. -/
import Derived.Test.YtfmgbhaldakpfaaDoorE
import Derived.Test.YtfmgbhaldakpfaaDoorM
import Derived.Test.YtfmgbhaldakpfaaDoorN
import Derived.Deep.Cut
namespace Go.Proofs.YtfmgbhaldakpfaaDoor
open Go.RowKit

def plV (V : Val) : Bool := pl V.k V.i V.s V.l.length V.ks.length V.tk V.to
def limV (V : Val) : Bool := lim V.k V.i V.s V.l.length V.ks V.tk V.to
/-- is it, without its elements, of a right shape? -/
def ok1 (V : Val) : Bool := plV V && limV V
/-- is it, so deep at most? -/
def okT : Nat → Val → Bool
  | 0, _ => false
  | m + 1, V => ok1 V && V.l.all (okT m)
theorem ok1_els {V : Val} (h : ok1 V = true) : els V = V.l := by
  unfold ok1 plV limV pl lim at h
  simp only [Bool.and_eq_true, decide_eq_true_eq] at h
  obtain ⟨⟨⟨⟨⟨_, _⟩, hL⟩, hK⟩, _⟩, hl⟩ := h
  unfold els cnt
  by_cases h4 : V.k = 4
  · rw [if_pos h4, List.take_length]
  · rw [if_neg h4]
    by_cases h5 : V.k = 5
    · rw [if_pos h5]
      rw [if_neg (by omega), if_neg (by omega), if_neg (by omega), if_pos h5] at hl
      simp only [Bool.and_eq_true, decide_eq_true_eq] at hl
      rw [List.take_of_length_le (by omega)]
    · rw [if_neg h5]
      have : V.l.length = 0 := by omega
      rw [List.length_eq_zero_iff.1 this]; rfl
theorem plain_any {n : Nat} {V : Val} {v : Value} {w : World} (h : Lies n w V v) : Calls Tryd.prog 72 #[v] w fun e w' => e = .returned (.bool (plV V)) ∧ Below w.heap.size w w' := by
  obtain ⟨oL, oK, cL, cK, c, rfl, O⟩ := h.inv
  unfold plV
  clear h O
  generalize V.k = k
  rcases kinds k with rfl | rfl | rfl | rfl | rfl | rfl | ⟨e1, e2, e3, e4, e5, e6⟩
  · exact plain_1 _ _ _ _ _ _ _ _ _ _ _ _
  · exact plain_2 _ _ _ _ _ _ _ _ _ _ _ _
  · exact plain_3 _ _ _ _ _ _ _ _ _ _ _ _
  · exact plain_4 _ _ _ _ _ _ _ _ _ _ _ _
  · exact plain_5 _ _ _ _ _ _ _ _ _ _ _ _
  · exact plain_6 _ _ _ _ _ _ _ _ _ _ _ _
  · exact plain_o _ _ _ _ _ _ _ _ _ _ _ _ _ e1 e2 e3 e4 e5 e6
def StC (d : Nat) (V : Val) (s : Int) (b : Bool) (s' : Int) : Prop := s' = s + 1 ∧ b = (decide (s + 1 ≤ 512) && decide (d ≤ 8) && ok1 V)
theorem stepC : Step StC BdW := ⟨fun m m' s h hm => ⟨h.1, by have := h.2; omega⟩, fun d V s b s' m h hb => by obtain ⟨rfl, _⟩ := h; exact ⟨by have := hb.1; omega, by have := hb.2; omega⟩⟩
theorem evC (V : Val) : ∀ d s b s', 1 ≤ d → Ev StC d V s b s' → b = (decide (s + weight V ≤ 512) && okT (9 - d) V) ∧ (b = true → s' = s + weight V) := by
  induction V using val_ind with
  | h V ih =>
    have hl : ∀ l : List Val, (∀ x, x ∈ l → x ∈ V.l) → ∀ d s b s', 1 ≤ d → s ≤ 512 → EvL StC d l s b s' → b = (decide (s + ((l.map weight).sum : Nat) ≤ 512) && l.all (okT (9 - d))) ∧ (b = true → s' = s + ((l.map weight).sum : Nat)) := by
      intro l
      induction l with
      | nil => intro _ d s b s' _ hs h; cases h; exact ⟨by simp; omega, fun _ => by simp⟩
      | cons a r ihr =>
        intro hm d s b s' hd hs h
        rw [List.map_cons, List.sum_cons, List.all_cons]
        cases h with
        | stop h1 =>
          have := (ih a (hm a (by simp)) _ _ _ _ hd h1).1
          refine ⟨?_, fun h => by cases h⟩
          rw [eq_comm, Bool.and_eq_false_iff] at this ⊢
          rcases this with h | h
          · left; rw [decide_eq_false_iff_not] at *; omega
          · right; rw [h]; rfl
        | cons h1 h2 =>
          obtain ⟨e1, e2⟩ := ih a (hm a (by simp)) _ _ _ _ hd h1
          have e3 := e2 rfl
          rw [eq_comm, Bool.and_eq_true, decide_eq_true_eq] at e1
          obtain ⟨e4, e5⟩ := ihr (fun x hx => hm x (by simp [hx])) _ _ _ _ hd (by omega) h2
          refine ⟨?_, fun h => by rw [e5 h, e3]; omega⟩
          rw [e4, e1.2, Bool.true_and, e3]
          congr 2
          rw [eq_iff_iff]; omega
    intro d s b s' hd h
    rw [weight_eq]
    cases h with
    | stop h1 =>
      obtain ⟨rfl, h2⟩ := h1
      refine ⟨?_, fun h => by cases h⟩
      rw [eq_comm, Bool.and_eq_false_iff, Bool.and_eq_false_iff] at h2
      rw [eq_comm, Bool.and_eq_false_iff]
      rcases h2 with (h | h) | h
      · left; rw [decide_eq_false_iff_not] at *; omega
      · right; rw [decide_eq_false_iff_not] at h; rw [show 9 - d = 0 by omega]; rfl
      · right
        cases hm : 9 - d with
        | zero => rfl
        | succ m => rw [okT, h]; rfl
    | go h1 h2 =>
      obtain ⟨rfl, h3⟩ := h1
      rw [eq_comm, Bool.and_eq_true, Bool.and_eq_true, decide_eq_true_eq, decide_eq_true_eq] at h3
      obtain ⟨⟨a1, a2⟩, a3⟩ := h3
      rw [ok1_els a3] at h2 ⊢
      obtain ⟨e4, e5⟩ := hl _ (fun x hx => hx) _ _ _ _ (by omega) (by omega) h2
      refine ⟨?_, fun h => by rw [e5 h]; omega⟩
      rw [e4, show 9 - d = (9 - (d + 1)) + 1 by omega, okT, a3, Bool.true_and]
      congr 2
      rw [eq_iff_iff]; omega
set_option maxHeartbeats 2000000 in
theorem check1 (cb n : Nat) (hcb : n ≤ cb) (d : Nat) (V : Val) (v : Value) (s : Int) (w : World) (hd : d ≤ 60000) (h : Lies n w V v) (hn : n ≤ w.heap.size) (hi : Cap cb s w) (hb : BdW (sz V) s) :
    Calls Tryd.prog 71 #[v, .int .i64 d, .pointer (some ⟨cb, 0, none⟩)] w (StPost (some cb) (Cap cb) StC d V s w) := by
  obtain ⟨oL, oK, cL, cK, c, rfl, O⟩ := h.inv
  have hs := hb.1
  have hs2 := hb.2
  have hp := sz_pos V
  have hi2 := hi.keep ((Below.refl w.heap.size w).alloc (Nat.le_refl _) (bx V oL oK cL cK))
  have H := Lib.hid (hi2.set (s + 1))
  have HX := Lib.hid ((Exc.of_below (cb := some cb) ((Below.refl w.heap.size w).alloc (Nat.le_refl _) (bx V oL oK cL cK))).setCell 0 (.int .i64 (s + 1)))
  have q0 := hi2.cell
  have q1 := hi2.free
  have hcl := hi.lt
  have HB : Hid (Hd ((w.alloc (bx V oL oK cL cK)).setCell ⟨cb, 0, none⟩ (.int .i64 (s + 1))) w.heap.size V (.slice oL V.l.length cL) (.slice oK V.ks.length cK)) :=
    (Hd.made w V _ _).exc ((Exc.refl (some cb) _).setCell 0 _) (fun e => by injection e with e; omega)
  have HL : Hid (Opn n ((w.alloc (bx V oL oK cL cK)).setCell ⟨cb, 0, none⟩ (.int .i64 (s + 1))) V oL oK cL cK c) := O.kept ((((Below.refl w.heap.size w).alloc (Nat.le_refl _) (bx V oL oK cL cK)).mono hn).setCell (p := ⟨cb, 0, none⟩) hcb _)
  have HZ : Hid (((w.alloc (bx V oL oK cL cK)).setCell ⟨cb, 0, none⟩ (.int .i64 (s + 1))).heap.size = w.heap.size + 1) := by simp [Hid]
  clear h O hb hi hi2 hcl
  go_enter Tryd.func71, Tryd.ntmps71
  go_upto_region 2 with fail
  generalize World.setCell _ _ _ = w2 at *
  clear q0 q1
  have q0 := H.out.cell
  obtain ⟨p8, p0, p1, p2, p3, p4, p5, p6, p7⟩ := HB.out
  by_cases h1 : s + 1 ≤ 512
  · by_cases h2 : (d : Int) ≤ 8
    · go_wp2_with fail
      refine (plain_any HL.out.lies).mono ?_
      rintro e w3 ⟨rfl, b3⟩
      have B3 := Lib.hid b3
      obtain ⟨p8, p0, p1, p2, p3, p4, p5, p6, p7⟩ := HB.out.kept b3 (by have := HZ.out; omega)
      clear b3
      cases hpl : plV V with
      | false =>
        have HP := Lib.hid hpl
        clear hpl
        go_wp2_with fail
        go_ret
        exact ⟨false, s + 1, rfl, ⟨rfl, by unfold ok1; rw [HP.out]; simp⟩, H.out.keep B3.out, HX.out.trans (Exc.of_below B3.out)⟩
      | true =>
        have HP := Lib.hid hpl
        clear hpl
        go_wp2_with fail
        refine (limits_any (HL.out.kept (B3.out.mono (by have := HZ.out; omega))).lies (by have := HZ.out; have := B3.out.size; omega)).mono ?_
        rintro e w4 ⟨rfl, b4⟩
        have B4 := Lib.hid (B3.out.trans (b4.mono B3.out.size))
        clear b4
        go_wp2_with fail
        all_goals
          go_ret
          exact ⟨_, s + 1, rfl, ⟨rfl, by unfold ok1; rw [HP.out, decide_eq_true (by omega), decide_eq_true (by omega)]; rfl⟩, H.out.keep B4.out, HX.out.trans (Exc.of_below B4.out)⟩
    · go_wp2_with fail
      go_ret
      exact ⟨false, s + 1, rfl, ⟨rfl, by rw [decide_eq_false (show ¬ d ≤ 8 by omega)]; simp⟩, H.out, HX.out⟩
  · go_wp2_with fail
    go_ret
    exact ⟨false, s + 1, rfl, ⟨rfl, by rw [decide_eq_false (show ¬ s + 1 ≤ 512 by omega)]; simp⟩, H.out, HX.out⟩
set_option maxHeartbeats 1000000 in
theorem every_41 (cb n : Nat) (hcb : n ≤ cb) (V : Val) (v : Value) (s : Int) (w : World) (hN : sz V ≤ 50000) (h : Lies n w V v) (hn : n ≤ w.heap.size) (hi : Cap cb s w) (hb : BdW (sz V) s) :
    Calls Tryd.prog 61 #[v, .func (.func 71) #[] #[.pointer (some ⟨cb, 0, none⟩)]] w (EyPost (some cb) (Cap cb) StC V s w) := by
  have HC := Lib.hid (everyFrom_41 cb (some cb) n (Cap cb) StC BdW stepC (fun s w w' h b => h.keep b) (fun s w k h e => by injection e with e; subst e; exact h.lt) (fun k e => by injection e with e; omega) (check1 cb n hcb) 50000 1 V)
  obtain ⟨oL, oK, cL, cK, c, rfl, O⟩ := h.inv
  have HW := Lib.hid ((Below.refl w.heap.size w).alloc (Nat.le_refl _) (bx V oL oK cL cK))
  have H := Lib.hid (And.intro (O.kept (HW.out.mono hn)).lies (And.intro (hi.keep HW.out) hb))
  clear h O hi hb
  go_enter Tryd.func61, Tryd.ntmps61
  go_wp2_with fail
  refine (HC.out _ s _ hN (by omega) H.out.1 (by simp; omega) H.out.2.1 H.out.2.2).mono ?_
  rintro e w1 ⟨b, s', rfl, he, hi, x⟩
  have K := Lib.hid (And.intro he (And.intro hi ((Exc.of_below HW.out).trans x)))
  clear he hi x
  go_wp2_with fail
  go_ret
  exact ⟨b, s', rfl, K.out.1, K.out.2.1, K.out.2.2⟩
/-- may it be? -/
def chk (V : Val) : Bool := decide (weight V ≤ 512) && okT 8 V
set_option maxHeartbeats 1000000 in
theorem check_any (n : Nat) (V : Val) (v : Value) (w : World) (hN : sz V ≤ 50000) (h : Lies n w V v) (hn : n ≤ w.heap.size) :
    Calls Tryd.prog 54 #[v] w fun e w' => e = .returned (.int .i64 (if chk V then 0 else 1)) ∧ Below w.heap.size w w' := by
  obtain ⟨oL, oK, cL, cK, c, rfl, O⟩ := h.inv
  have HW := Lib.hid (((Below.refl w.heap.size w).alloc (Nat.le_refl _) (bx V oL oK cL cK)).alloc (by simp) (.cells #[.int .i64 0] 3))
  have HC : Hid (Cap (w.heap.size + 1) 0 ((w.alloc (bx V oL oK cL cK)).alloc (.cells #[.int .i64 0] 3))) := by have := heap_alloc_new (w.alloc (bx V oL oK cL cK)) (.cells #[.int .i64 0] 3); rw [World.size_alloc] at this; exact this
  have HZ : Hid (((w.alloc (bx V oL oK cL cK)).alloc (.cells #[.int .i64 0] 3)).heap.size = w.heap.size + 2) := by simp [Hid]
  have H := Lib.hid (O.kept (HW.out.mono hn)).lies
  obtain ⟨r, hr⟩ : ∃ r : Int, r = if chk V then 0 else 1 := ⟨_, rfl⟩
  rw [← hr]
  have HR := Lib.hid hr
  clear h O hr
  go_enter Tryd.func54, Tryd.ntmps54
  go_wp2_with fail
  generalize (w.alloc _).alloc _ = w0 at *
  refine (every_41 (w.heap.size + 1) n (by omega) V _ 0 w0 hN H.out (by have := HZ.out; omega) HC.out ⟨by omega, by omega⟩).mono ?_
  rintro e w1 ⟨b, s', rfl, he, hi, x⟩
  have E := (evC _ _ _ _ _ (Nat.le_refl _) he).1
  have HE : Hid (b = chk V) := by unfold Hid chk; rw [E]; congr 2; rw [eq_iff_iff]; omega
  have B := Lib.hid (HW.out.trans (x.below (n := w.heap.size) (by have := HZ.out; omega) (fun k e => by injection e with e; omega)))
  clear he hi x E
  cases b with
  | true =>
    go_wp2_with fail
    go_ret
    exact ⟨by rw [HR.out, ← HE.out]; rfl, B.out⟩
  | false =>
    go_wp2_with fail
    go_ret
    exact ⟨by rw [HR.out, ← HE.out]; rfl, B.out⟩
end Go.Proofs.YtfmgbhaldakpfaaDoor

/- Put. -/
import Derived.Test.YtpmdkekjoocplaaHb
import Derived.Test.YtpmdkekjoocplaaHc
import Derived.Test.YtpmdkekjoocplaaO
import Derived.Laws.AppendOwnNone
namespace Go.Proofs.Ytpmdkekjoocplaa
open Go.RowKit Go.Lib Typ

/-- what fresh leaves -/
def FrPost (N : List Nat) (w : World) (e : Ending) (w' : World) : Prop :=
  ∃ v, e = .returned v ∧ w'.ownsRow w.heap.size 5 1 v N.length (bcs N) ∧ Below w.heap.size w w'
set_option maxHeartbeats 1000000 in
theorem fresh_nil (w : World) : Calls Try.prog 20 #[.slice none 0 0] w (FrPost [] w) := by
  have HO := Lib.hid (World.ownsRow_made w #[] 0 (base := w.heap.size) (e := 5) (size := 1) (Nat.le_refl _) (Nat.zero_le _) rfl)
  have HB := Lib.hid ((Below.refl w.heap.size w).alloc (Nat.le_refl _) (.cells #[] 5))
  go_enter Try.func20, Try.ntmps20
  go_wp2_with fail
  go_ret
  exact ⟨_, rfl, HO.out, HB.out⟩
/-- what Put leaves of what may be -/
def PutV (V : Val) (w : World) (e : Ending) (w' : World) : Prop :=
  ∃ v, e = .returned v ∧ w'.ownsRow w.heap.size 5 1 v (enc V).length (bcs (enc V)) ∧ Below w.heap.size w w'
theorem own_up {w : World} {base base' n : Nat} {v : Value} {xs : List Value} (h : w.ownsRow base 5 1 v n xs) (hb : base' ≤ base) : w.ownsRow base' 5 1 v n xs := by
  refine ⟨h.1, ?_⟩
  rcases h.2 with hn | ⟨g, cap, cur, hv, hg, rest⟩
  · exact .inl hn
  · exact .inr ⟨g, cap, cur, hv, by omega, rest⟩
set_option maxHeartbeats 1000000 in
theorem put_any {n : Nat} {V : Val} {xv : Value} {w : World} (h : Lies n w V xv) (hn : n ≤ w.heap.size) (hs : sz V ≤ 50000) (hc : chk V = true) (hl : LaidHolds V) (he : (enc V).length ≤ 4000000000) :
    Calls Try.prog 13 #[.slice none 0 0, xv] w (PutV V w) := by
  obtain ⟨oL, oK, cL, cK, c, rfl, O⟩ := h.inv
  have HB := Lib.hid (Hd.made w V (.slice oL V.l.length cL) (.slice oK V.ks.length cK))
  have HW := Lib.hid ((Below.refl w.heap.size w).alloc (Nat.le_refl _) (bx V oL oK cL cK))
  have HZ : Hid ((w.alloc (bx V oL oK cL cK)).heap.size = w.heap.size + 1) := by simp [Hid]
  have HO := Lib.hid (O.kept (HW.out.mono hn))
  have HC : Hid (∀ w, Lies n w V (vv V.k V.i V.s (.slice oL V.l.length cL) (.slice oK V.ks.length cK) V.tk V.to V.x) → n ≤ w.heap.size → Calls Try.prog 21 #[vv V.k V.i V.s (.slice oL V.l.length cL) (.slice oK V.ks.length cK) V.tk V.to V.x] w fun e w' => e = .returned (.int .i64 0) ∧ Below w.heap.size w w') := fun w h hn => by
    have := check_any n V _ w hs h hn
    rw [hc] at this
    exact this
  have HLD := Lib.hid hl
  clear O h hc hl
  go_enter Try.func13, Try.ntmps13
  go_wp2_with fail
  generalize w.alloc _ = w0 at *
  refine (fresh_nil w0).mono ?_
  rintro e w1 ⟨v1, rfl, ho1, hb1⟩
  have H1 := Lib.hid (And.intro ho1 hb1)
  have hz1 := hb1.size
  obtain ⟨x8, x0, x1, x2, x3, x4, x5, x6, x7⟩ := HB.out.kept hb1 (by have := HZ.out; omega)
  clear ho1 hb1
  go_wp2_with fail
  refine (HC.out _ (HO.out.kept (H1.out.2.mono (by have := HZ.out; omega))).lies (by have := HZ.out; omega)).mono ?_
  rintro e w2 ⟨rfl, b2⟩
  have H2 := Lib.hid (And.intro (ownsRow_kept H1.out.1 fun g hg => b2.block g (H1.out.1.lt g hg).2) (H1.out.2.trans (b2.mono hz1)))
  have hz2 := b2.size
  obtain ⟨x8, x0, x1, x2, x3, x4, x5, x6, x7⟩ := HB.out.kept H2.out.2 (by have := HZ.out; omega)
  clear b2
  go_wp2_with fail
  refine (HLD.out w0.heap.size v1 [] _ w2 ((HO.out.kept (H2.out.2.mono (by have := HZ.out; omega))).lies.mono fun b hb => by have := HZ.out; omega) H2.out.1 (by omega) (by simpa using he)).mono ?_
  rintro e w3 ⟨v3, rfl, ho3, hb3⟩
  have H3 := Lib.hid (And.intro ho3 hb3)
  clear ho3 hb3
  go_wp2_with fail
  go_ret
  refine ⟨_, rfl, ?_, HW.out.trans ((H2.out.2.trans (H3.out.2.bel (by omega))).mono (by have := HZ.out; omega))⟩
  have h4 := own_up H3.out.1 (base' := w.heap.size) (by have := HZ.out; omega)
  simpa using h4
end Go.Proofs.Ytpmdkekjoocplaa

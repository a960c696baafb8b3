/- Rows of one, two, three trees; contracts: unary. -/
import Derived.Test.YtncjncacfagldaaDoorWR
namespace Go.Proofs.YtncjncacfagldaaDoor
open Go.RowKit
attribute [local go_sem] field66_0 field66_1 field66_2 field66_3 field66_4 field101_0 field101_1 field101_2

theorem rowP_cells {P : Nat → Prop} {w : World} {g k : Nat} {cs : Array Value} {t : TypeId} (h : w.heap[g]? = some (.cells cs t (0, 0))) (hp : P g) (hs : cs.size = k * 15) (hk : k ≤ 3) : RowP P w (some ⟨g, 0, none⟩) k k 15 (fun j m => (cs[j * 15 + m]?).getD undef) := by
  refine ⟨Nat.le_refl _, by unfold maxLen; omega, (fun e => by cases e), fun _ => ⟨g, 0, rfl, hp, fun j hj m hm => ?_⟩⟩
  rw [cell_of_row w g _ _ _ _ h, Nat.zero_add]
  have hlt : j * 15 + m < cs.size := by omega
  show cs[j * 15 + m]? = some ((cs[j * 15 + m]?).getD undef)
  rw [Array.getElem?_eq_getElem hlt]
  rfl
/-- a tree with a row of parts -/
theorem xb_mk {n : Nat} {w : World} {R b op k : Nat} {s s2 : ByteArray} {l : List Ex} {p : Ps} {o : Option Addr} {cap : Nat} {d : Nat → Nat → Value} (hk : l.length = k) (hb : w.heap[b]? = some (.cells (lpc op s s2 (.slice o k cap) p) 33 (0, 0))) (hrow : RowP (Nu n w R) w o cap k 15 d) (hel : ∀ j x, l[j]? = some x → XP (Nu n w R) w x (.agg #[d j 0, d j 1, d j 2, d j 3, d j 4, d j 5, d j 6, d j 7, d j 8, d j 9, d j 10, d j 11, d j 12, d j 13, d j 14])) (hR : b ≠ R) (hn : n ≤ b) : Xb n w R b (.mk op s s2 vNull l p.a p.l p.c) := by
  subst hk
  exact ⟨none, 0, none, 0, o, cap, hb, xp_mk (sv := ⟨#[]⟩) op s s2 (by decide) (by decide) (by decide) l p.a p.l p.c hrow hel, hR, hn⟩
theorem xb_one {n : Nat} {w : World} {R g b op : Nat} {s s2 : ByteArray} {p : Ps} {X : Ex} {oV : Option Addr} {cV : Nat} {oK : Option Addr} {cK : Nat} {o : Option Addr} {cap : Nat} (hX : XP (Nu n w R) w X (.agg (xc X oV cV oK cK o cap))) (hg : w.heap[g]? = some (.cells (xc X oV cV oK cK o cap) 33 (0, 0))) (hgn : n ≤ g) (hgR : g ≠ R) (hb : w.heap[b]? = some (.cells (lpc op s s2 (.slice (some ⟨g, 0, none⟩) 1 1) p) 33 (0, 0))) (hR : b ≠ R) (hn : n ≤ b) : Xb n w R b (.mk op s s2 vNull [X] p.a p.l p.c) := by
  refine xb_mk rfl hb (rowP_cells hg ⟨hgn, (Array.getElem?_eq_some_iff.1 hg).1, hgR⟩ rfl (by decide)) (fun j x hx => ?_) hR hn
  rcases j with _ | j
  · simp only [List.getElem?_cons_zero, Option.some.injEq] at hx
    subst hx
    exact hX
  · simp at hx
abbrev xc2 (X Y : Ex) (oV : Option Addr) (cV : Nat) (oK : Option Addr) (cK : Nat) (o : Option Addr) (cap : Nat) (oV' : Option Addr) (cV' : Nat) (oK' : Option Addr) (cK' : Nat) (o' : Option Addr) (cap' : Nat) : Array Value :=
  #[.int .i64 X.op, .string X.s, .string X.s2, .int .i64 X.v.k, .int .i64 X.v.i, .string X.v.s, .slice oV X.v.l.length cV, .slice oK X.v.ks.length cK, .int .i64 X.v.tk, .int .i64 X.v.to, .bool X.v.x, .slice o X.l.length cap, .int .i64 X.a, .int .i64 X.ln, .int .i64 X.c,
    .int .i64 Y.op, .string Y.s, .string Y.s2, .int .i64 Y.v.k, .int .i64 Y.v.i, .string Y.v.s, .slice oV' Y.v.l.length cV', .slice oK' Y.v.ks.length cK', .int .i64 Y.v.tk, .int .i64 Y.v.to, .bool Y.v.x, .slice o' Y.l.length cap', .int .i64 Y.a, .int .i64 Y.ln, .int .i64 Y.c]
theorem xb_two {n : Nat} {w : World} {R g b op : Nat} {s s2 : ByteArray} {p : Ps} {X Y : Ex} {oV : Option Addr} {cV : Nat} {oK : Option Addr} {cK : Nat} {o : Option Addr} {cap : Nat} {oV' : Option Addr} {cV' : Nat} {oK' : Option Addr} {cK' : Nat} {o' : Option Addr} {cap' : Nat} (hX : XP (Nu n w R) w X (.agg (xc X oV cV oK cK o cap))) (hY : XP (Nu n w R) w Y (.agg (xc Y oV' cV' oK' cK' o' cap'))) (hg : w.heap[g]? = some (.cells (xc2 X Y oV cV oK cK o cap oV' cV' oK' cK' o' cap') 33 (0, 0))) (hgn : n ≤ g) (hgR : g ≠ R) (hb : w.heap[b]? = some (.cells (lpc op s s2 (.slice (some ⟨g, 0, none⟩) 2 2) p) 33 (0, 0))) (hR : b ≠ R) (hn : n ≤ b) : Xb n w R b (.mk op s s2 vNull [X, Y] p.a p.l p.c) := by
  refine xb_mk rfl hb (rowP_cells hg ⟨hgn, (Array.getElem?_eq_some_iff.1 hg).1, hgR⟩ rfl (by decide)) (fun j x hx => ?_) hR hn
  rcases j with _ | _ | j
  · simp only [List.getElem?_cons_zero, Option.some.injEq] at hx
    subst hx
    exact hX
  · simp only [List.getElem?_cons_succ, List.getElem?_cons_zero, Option.some.injEq] at hx
    subst hx
    exact hY
  · simp at hx
theorem XP.fm {n : Nat} {w w' : World} {R : Nat} {X : Ex} {v : Value} (h : XP (Nu n w R) w X v) (f : Fm R w w') : XP (Nu n w' R) w' X v := h.keptP (Nu.fr f)

/-- what unary, joined do from a place on -/
def UnOk (R : Nat) (Z : Cz) (F : Fs) (p : Nat) : Prop := ∀ (W : World) (s : St), Rd W R Z s → p ≤ s.p → Calls Tryd.prog 76 #[.pointer (some ⟨R, 0, none⟩)] W (EP W R Z s.p (F.un s))
def JoOk (R : Nat) (Z : Cz) (F : Fs) (p : Nat) : Prop := ∀ (W : World) (s : St) (lo : Nat), Rd W R Z s → p ≤ s.p → 1 ≤ lo → lo ≤ 6 → Calls Tryd.prog 53 #[.pointer (some ⟨R, 0, none⟩), .int .i64 lo] W (EP W R Z s.p (F.jo lo s))
theorem unary_eq (Z : Cz) (inn : List UInt8 → Ps → Ex × Nat × Ps) (F : Fs) (s : St) : unaryM (Z.cx inn) F s = if (Z.sign s).hd = 0 then postM (Z.cx inn) F s else (treeX (Z.sign s).hd (Z.pl s) [(F.un s.pass).1], (F.un s.pass).2) := by
  unfold unaryM
  simp only [sign_eq, pl_eq]
theorem sign_h {Z : Cz} {s : St} (h : (Z.sign s).hd ≠ 0) : s.p < Z.acc.length := by
  refine kind_lt fun e => h ?_
  unfold Cz.sign; rw [if_neg (by rw [e]; decide)]; rfl
set_option maxRecDepth 100000 in
set_option maxHeartbeats 2000000 in
theorem unary_any {w : World} {R : Nat} {Z : Cz} {s : St} {inn : List UInt8 → Ps → Ex × Nat × Ps} {F : Fs} (h : Rd w R Z s) (hu : UnOk R Z F (s.p + 1)) (hp : ∀ W, Rd W R Z s → Calls Tryd.prog 94 #[.pointer (some ⟨R, 0, none⟩)] W (EP W R Z s.p (postM (Z.cx inn) F s))) : Calls Tryd.prog 76 #[.pointer (some ⟨R, 0, none⟩)] w (EP w R Z s.p (unaryM (Z.cx inn) F s)) := by
  have H := Lib.hid h
  have HI := Lib.hid (unary_eq Z inn F s)
  have HP := Lib.hid hp
  have HSG := Lib.hid (sign_any h)
  have HPS : Hid ((Z.sign s).hd ≠ 0 → ∀ W, Rd W R Z s → Calls Tryd.prog 55 #[.pointer (some ⟨R, 0, none⟩)] W fun e w' => e = .returned (.agg #[.int .i64 (Z.pl s).a, .int .i64 (Z.pl s).l, .int .i64 (Z.pl s).c]) ∧ Rd w' R Z s.pass ∧ Fm R W w') := fun hk W hW => pass_any hW (sign_h hk)
  have HU : Hid (∀ W, Rd W R Z s.pass → Calls Tryd.prog 76 #[.pointer (some ⟨R, 0, none⟩)] W (EP W R Z (s.p + 1) (F.un s.pass))) := fun W hW => hu W s.pass hW (Nat.le_refl _)
  generalize postM (Z.cx inn) F s = PM at *
  generalize unaryM (Z.cx inn) F s = M at *
  generalize Z.sign s = G at *
  generalize Z.pl s = P at *
  generalize F.un s.pass = U at *
  clear h hu hp
  by_cases h0 : G.hd = 0
  · have e0 : ((G.hd : Int) != 0) = false := by simp [h0]
    have HM : Hid (M = PM) := by unfold Hid; rw [HI.out, if_pos h0]
    clear h0 HI HPS HU
    go_enter Tryd.func76, Tryd.ntmps76
    go_wp2_with fail
    refine HSG.out.mono ?_
    rintro e w1 ⟨rfl, c1⟩
    have H1 := Lib.hid (And.intro (H.out.below c1) (Fm.of (R := R) c1))
    clear c1
    go_wp2_with fail
    refine (HP.out _ H1.out.1).mono ?_
    intro e w4 h4
    have H4 := Lib.hid (h4.at H1.out.2 (Nat.le_refl _))
    obtain ⟨b, rfl, -⟩ := h4
    go_wp2_with fail
    go_ret
    rw [HM.out]
    exact H4.out
  · have e0 : ((G.hd : Int) != 0) = true := by rw [bne_iff_ne]; omega
    have HM : Hid (M = (treeX G.hd P [U.1], U.2)) := by unfold Hid; rw [HI.out, if_neg h0]
    have HQ := Lib.hid (HPS.out h0)
    clear h0 HI HPS HP
    go_enter Tryd.func76, Tryd.ntmps76
    go_wp2_with fail
    refine HSG.out.mono ?_
    rintro e w1 ⟨rfl, c1⟩
    have H1 := Lib.hid (And.intro (H.out.below c1) (Fm.of (R := R) c1))
    clear c1
    go_wp2_with fail
    refine (HQ.out _ H1.out.1).mono ?_
    rintro e w2 ⟨rfl, h2, f2⟩
    have H2 := Lib.hid (And.intro h2 (H1.out.2.tr f2))
    clear h2 f2
    go_wp2_with fail
    refine (HU.out _ H2.out.1).mono ?_
    rintro e w3 ⟨b, rfl, hx, hr, hf, hp⟩
    obtain ⟨oV, cV, oK, cK, o, cap, hb, hX, hbR, hnb⟩ := hx
    have H3 := Lib.hid (And.intro (hX.mono (P' := Nu w.heap.size w3 R) fun k hk => ⟨Nat.le_trans H2.out.2.size hk.1, hk.2⟩) (And.intro hr (And.intro (H2.out.2.tr hf) hp)))
    obtain ⟨⟨c0, c1, c2, c3, c4, c5, c6, c7, c8, c9, c10, c11, c12, c13, c14⟩, -, hbl⟩ := rc15 hb
    clear hX hr hf hp hb
    go_wp2_with fail
    refine (tree_any G.hd P (some ⟨w3.heap.size, 0, none⟩) 1 1 _).mono ?_
    rintro e w4 ⟨b4, rfl, hle, hb4, k4⟩
    have hg4 := (k4.block w3.heap.size (by simp)).trans (heap_alloc_new w3 (.cells (xc U.1 oV cV oK cK o cap) 33))
    have r4 : Rd w4 R Z U.2 := (H3.out.2.1.below ((Below.refl _ _).alloc (Nat.le_refl _) (.cells (xc U.1 oV cV oK cK o cap) 33))).below k4
    have f4 : Fm R w3 w4 := ((Fm.rf R w3).al _).tr (Fm.of k4)
    have hs3 : w3.heap.size < b4 := Nat.lt_of_lt_of_le (by simp) hle
    clear c0 c1 c2 c3 c4 c5 c6 c7 c8 c9 c10 c11 c12 c13 c14
    have H4 := Lib.hid (And.intro hg4 (And.intro f4 (And.intro hs3 (And.intro hb4 r4))))
    clear hg4 f4 hs3 hb4 k4 hle r4
    go_wp2_with fail
    go_ret
    rw [HM.out]
    have l3 := H3.out.2.1.lt
    have l0 := H3.out.2.2.1.size
    have l4 := H4.out.2.2.1
    exact ⟨b4, rfl, xb_one (H3.out.1.fm H4.out.2.1) H4.out.1 l0 (by omega) H4.out.2.2.2.1 (by omega) (by omega), H4.out.2.2.2.2, H3.out.2.2.1.tr H4.out.2.1, Nat.le_trans (Nat.le_succ _) H3.out.2.2.2⟩
end Go.Proofs.YtncjncacfagldaaDoor

import Derived.Test.YtncjncacfagldaaGreatDoorYWR
namespace Go.Proofs.YtncjncacfagldaaGreatDoor
open Go.RowKit
attribute [local go_sem] field66_0 field66_1 field66_2 field66_3 field66_4 field101_0 field101_1 field101_2

theorem rowP_cells {P : Nat → Prop} {w : World} {g k : Nat} {cs : Array Value} {t : TypeId} (h : w.heap[g]? = some (.cells cs t (0, 0))) (hp : P g) (hs : cs.size = k * 15) (hk : k ≤ 3) : RowP P w (some ⟨g, 0, none⟩) k k 15 (fun j m => (cs[j * 15 + m]?).getD undef) := by
 refine ⟨Nat.le_refl _, by unfold maxLen; omega, (fun e => by cases e), fun _ => ⟨g, 0, rfl, hp, fun j hj m hm => ?_⟩⟩
 rw [cell_of_row w g _ _ _ _ h, Nat.zero_add]
 have hlt : j * 15 + m < cs.size := by omega
 show cs[j * 15 + m]? = some ((cs[j * 15 + m]?).getD undef)
 rw [Array.getElem?_eq_getElem hlt]
 rfl
theorem xb_mk {n : Nat} {w : World} {R b op k : Nat} {s s2 : ByteArray} {l : List Ex} {p : Ps} {o : Option Addr} {cap : Nat} {d : Nat → Nat → Value} (hk : l.length = k) (hb : w.heap[b]? = some (.cells (lpc op s s2 (.slice o k cap) p) 38 (0, 0))) (hrow : RowP (Nu n w R) w o cap k 15 d) (hel : ∀ j x, l[j]? = some x → XP (Nu n w R) w x (.agg #[d j 0, d j 1, d j 2, d j 3, d j 4, d j 5, d j 6, d j 7, d j 8, d j 9, d j 10, d j 11, d j 12, d j 13, d j 14])) (hR : b ≠ R) (hn : n ≤ b) : Xb n w R b (.mk op s s2 vNull l p.a p.l p.c) := by
 subst hk
 exact ⟨none, 0, none, 0, o, cap, hb, xp_mk (sv := ⟨#[]⟩) op s s2 (by decide) (by decide) (by decide) l p.a p.l p.c hrow hel, hR, hn⟩
theorem xb_one {n : Nat} {w : World} {R g b op : Nat} {s s2 : ByteArray} {p : Ps} {X : Ex} {oV : Option Addr} {cV : Nat} {oK : Option Addr} {cK : Nat} {o : Option Addr} {cap : Nat} (hX : XP (Nu n w R) w X (.agg (xc X oV cV oK cK o cap))) (hg : w.heap[g]? = some (.cells (xc X oV cV oK cK o cap) 38 (0, 0))) (hgn : n ≤ g) (hgR : g ≠ R) (hb : w.heap[b]? = some (.cells (lpc op s s2 (.slice (some ⟨g, 0, none⟩) 1 1) p) 38 (0, 0))) (hR : b ≠ R) (hn : n ≤ b) : Xb n w R b (.mk op s s2 vNull [X] p.a p.l p.c) := by
 refine xb_mk rfl hb (rowP_cells hg ⟨hgn, (Array.getElem?_eq_some_iff.1 hg).1, hgR⟩ rfl (by decide)) (fun j x hx => ?_) hR hn
 rcases j with _ | j
 · simp only [List.getElem?_cons_zero, Option.some.injEq] at hx
   subst hx
   exact hX
 · simp at hx
abbrev xc2 (X Y : Ex) (oV : Option Addr) (cV : Nat) (oK : Option Addr) (cK : Nat) (o : Option Addr) (cap : Nat) (oV' : Option Addr) (cV' : Nat) (oK' : Option Addr) (cK' : Nat) (o' : Option Addr) (cap' : Nat) : Array Value :=
 #[.int .i64 X.op, .string X.s, .string X.s2, .int .i64 X.v.k, .int .i64 X.v.i, .string X.v.s, .slice oV X.v.l.length cV, .slice oK X.v.ks.length cK, .int .i64 X.v.tk, .int .i64 X.v.to, .bool X.v.x, .slice o X.l.length cap, .int .i64 X.a, .int .i64 X.ln, .int .i64 X.c,
  .int .i64 Y.op, .string Y.s, .string Y.s2, .int .i64 Y.v.k, .int .i64 Y.v.i, .string Y.v.s, .slice oV' Y.v.l.length cV', .slice oK' Y.v.ks.length cK', .int .i64 Y.v.tk, .int .i64 Y.v.to, .bool Y.v.x, .slice o' Y.l.length cap', .int .i64 Y.a, .int .i64 Y.ln, .int .i64 Y.c]
theorem xb_two {n : Nat} {w : World} {R g b op : Nat} {s s2 : ByteArray} {p : Ps} {X Y : Ex} {oV : Option Addr} {cV : Nat} {oK : Option Addr} {cK : Nat} {o : Option Addr} {cap : Nat} {oV' : Option Addr} {cV' : Nat} {oK' : Option Addr} {cK' : Nat} {o' : Option Addr} {cap' : Nat} (hX : XP (Nu n w R) w X (.agg (xc X oV cV oK cK o cap))) (hY : XP (Nu n w R) w Y (.agg (xc Y oV' cV' oK' cK' o' cap'))) (hg : w.heap[g]? = some (.cells (xc2 X Y oV cV oK cK o cap oV' cV' oK' cK' o' cap') 38 (0, 0))) (hgn : n ≤ g) (hgR : g ≠ R) (hb : w.heap[b]? = some (.cells (lpc op s s2 (.slice (some ⟨g, 0, none⟩) 2 2) p) 38 (0, 0))) (hR : b ≠ R) (hn : n ≤ b) : Xb n w R b (.mk op s s2 vNull [X, Y] p.a p.l p.c) := by
 refine xb_mk rfl hb (rowP_cells hg ⟨hgn, (Array.getElem?_eq_some_iff.1 hg).1, hgR⟩ rfl (by decide)) (fun j x hx => ?_) hR hn
 rcases j with _ | _ | j
 · simp only [List.getElem?_cons_zero, Option.some.injEq] at hx
   subst hx
   exact hX
 · simp only [List.getElem?_cons_succ, List.getElem?_cons_zero, Option.some.injEq] at hx
   subst hx
   exact hY
 · simp at hx
theorem XP.fm {n : Nat} {w w' : World} {R : Nat} {X : Ex} {v : Value} (h : XP (Nu n w R) w X v) (f : Fm R w w') : XP (Nu n w' R) w' X v := h.keptP (Nu.fr f)

def UnOk (R : Nat) (Z : Cz) (F : Fs) (p : Nat) : Prop := ∀ (W : World) (s : St), Rd W R Z s → p ≤ s.p → Calls Tryz.prog 152 #[.pointer (some ⟨R, 0, none⟩)] W (EP W R Z s.p (F.un s))
def JoOk (R : Nat) (Z : Cz) (F : Fs) (p : Nat) : Prop := ∀ (W : World) (s : St) (lo : Nat), Rd W R Z s → p ≤ s.p → 1 ≤ lo → lo ≤ 6 → Calls Tryz.prog 117 #[.pointer (some ⟨R, 0, none⟩), .int .i64 lo] W (EP W R Z s.p (F.jo lo s))
theorem unary_eq (Z : Cz) (inn : List UInt8 → Ps → Ex × Nat × Ps) (F : Fs) (s : St) : unaryM (Z.cx inn) F s = if (Z.sign s).hd = 0 then postM (Z.cx inn) F s else (treeX (Z.sign s).hd (Z.pl s) [(F.un s.pass).1], (F.un s.pass).2) := by
 unfold unaryM
 simp only [sign_eq, pl_eq]
theorem sign_h {Z : Cz} {s : St} (h : (Z.sign s).hd ≠ 0) : s.p < Z.acc.length := by
 refine kind_lt fun e => h ?_
 unfold Cz.sign; rw [if_neg (by rw [e]; decide)]; rfl
set_option maxRecDepth 100000 in
set_option maxHeartbeats 2000000 in
theorem unary_any {w : World} {R : Nat} {Z : Cz} {s : St} {inn : List UInt8 → Ps → Ex × Nat × Ps} {F : Fs} (h : Rd w R Z s) (hu : UnOk R Z F (s.p + 1)) (hp : ∀ W, Rd W R Z s → Calls Tryz.prog 178 #[.pointer (some ⟨R, 0, none⟩)] W (EP W R Z s.p (postM (Z.cx inn) F s))) : Calls Tryz.prog 152 #[.pointer (some ⟨R, 0, none⟩)] w (EP w R Z s.p (unaryM (Z.cx inn) F s)) := by
 have H := qh h
 have HI := qh (unary_eq Z inn F s)
 have HP := qh hp
 have HSG := qh (sign_any h)
 have HPS : Hid ((Z.sign s).hd ≠ 0 → ∀ W, Rd W R Z s → Calls Tryz.prog 119 #[.pointer (some ⟨R, 0, none⟩)] W fun e w' => e = .returned (.agg #[.int .i64 (Z.pl s).a, .int .i64 (Z.pl s).l, .int .i64 (Z.pl s).c]) ∧ Rd w' R Z s.pass ∧ Fm R W w') := fun hk W hW => pass_any hW (sign_h hk)
 have HU : Hid (∀ W, Rd W R Z s.pass → Calls Tryz.prog 152 #[.pointer (some ⟨R, 0, none⟩)] W (EP W R Z (s.p + 1) (F.un s.pass))) := fun W hW => hu W s.pass hW (Nat.le_refl _)
 generalize postM (Z.cx inn) F s = PM at *
 generalize unaryM (Z.cx inn) F s = M at *
 generalize Z.sign s = G at *
 generalize Z.pl s = P at *
 generalize F.un s.pass = U at *
 clear h hu hp
 by_cases h0 : G.hd = 0
 · have e0 : ((G.hd : Int) != 0) = false := by simp [h0]
   have HM : Hid (M = PM) := by unfold Hid; rw [HI.out, if_pos h0]
   clear h0 HI HPS HU
   go_enter Tryz.func152, Tryz.ntmps152
   go_wp2_with fail
   refine HSG.out.mono ?_
   rintro e w1 ⟨rfl, c1⟩
   have H1 := qh (And.intro (H.out.below c1) (Fm.of (R := R) c1))
   clear c1
   go_wp2_with fail
   refine (HP.out _ H1.out.1).mono ?_
   intro e w4 h4
   have H4 := qh (h4.at H1.out.2 (Nat.le_refl _))
   obtain ⟨b, rfl, -⟩ := h4
   go_wp2_with fail
   go_ret
   rw [HM.out]
   exact H4.out
 · have e0 : ((G.hd : Int) != 0) = true := by rw [bne_iff_ne]; omega
   have HM : Hid (M = (treeX G.hd P [U.1], U.2)) := by unfold Hid; rw [HI.out, if_neg h0]
   have HQ := qh (HPS.out h0)
   clear h0 HI HPS HP
   go_enter Tryz.func152, Tryz.ntmps152
   go_wp2_with fail
   refine HSG.out.mono ?_
   rintro e w1 ⟨rfl, c1⟩
   have H1 := qh (And.intro (H.out.below c1) (Fm.of (R := R) c1))
   clear c1
   go_wp2_with fail
   refine (HQ.out _ H1.out.1).mono ?_
   rintro e w2 ⟨rfl, h2, f2⟩
   have H2 := qh (And.intro h2 (H1.out.2.tr f2))
   clear h2 f2
   go_wp2_with fail
   refine (HU.out _ H2.out.1).mono ?_
   rintro e w3 ⟨b, rfl, hx, hr, hf, hp⟩
   obtain ⟨oV, cV, oK, cK, o, cap, hb, hX, hbR, hnb⟩ := hx
   have H3 := qh (And.intro (hX.mono (P' := Nu w.heap.size w3 R) fun k hk => ⟨Nat.le_trans H2.out.2.size hk.1, hk.2⟩) (And.intro hr (And.intro (H2.out.2.tr hf) hp)))
   obtain ⟨⟨c0, c1, c2, c3, c4, c5, c6, c7, c8, c9, c10, c11, c12, c13, c14⟩, -, hbl⟩ := rc15 hb
   clear hX hr hf hp hb
   go_wp2_with fail
   refine (tree_any G.hd P (some ⟨w3.heap.size, 0, none⟩) 1 1 _).mono ?_
   rintro e w4 ⟨b4, rfl, hle, hb4, k4⟩
   have hg4 := (k4.block w3.heap.size (by simp)).trans (heap_alloc_new w3 (.cells (xc U.1 oV cV oK cK o cap) 38))
   have r4 : Rd w4 R Z U.2 := (H3.out.2.1.below ((Below.refl _ _).alloc (Nat.le_refl _) (.cells (xc U.1 oV cV oK cK o cap) 38))).below k4
   have f4 : Fm R w3 w4 := ((Fm.rf R w3).al _).tr (Fm.of k4)
   have hs3 : w3.heap.size < b4 := Nat.lt_of_lt_of_le (by simp) hle
   clear c0 c1 c2 c3 c4 c5 c6 c7 c8 c9 c10 c11 c12 c13 c14
   have H4 := qh (And.intro hg4 (And.intro f4 (And.intro hs3 (And.intro hb4 r4))))
   clear hg4 f4 hs3 hb4 k4 hle r4
   go_wp2_with fail
   go_ret
   rw [HM.out]
   have l3 := H3.out.2.1.lt
   have l0 := H3.out.2.2.1.size
   have l4 := H4.out.2.2.1
   exact ⟨b4, rfl, xb_one (H3.out.1.fm H4.out.2.1) H4.out.1 l0 (by omega) H4.out.2.2.2.1 (by omega) (by omega), H4.out.2.2.2.2, H3.out.2.2.1.tr H4.out.2.1, Nat.le_trans (Nat.le_succ _) H3.out.2.2.2⟩
open Go.RowKit
attribute [local go_sem] field66_0 field66_1 field66_2 field66_3 field66_4 field101_0 field101_1 field101_2

theorem sgOf_bt (x : List UInt8) : (sgOf x).bt < 21 := by
 unfold sgOf
 cases h : sgT.find? (fun p => p.1 == x) with
 | none => decide
 | some p =>
   have := List.mem_of_find?_eq_some h
   simp only [sgT, List.mem_cons, List.not_mem_nil, or_false] at this
   rcases this with rfl | rfl | rfl | rfl | rfl | rfl | rfl | rfl | rfl | rfl | rfl | rfl | rfl | rfl | rfl | rfl | rfl <;> decide
theorem sign_bt (Z : Cz) (s : St) : (Z.sign s).bt < 21 := by
 unfold Cz.sign; split
 · exact sgOf_bt _
 · decide
theorem lvl_le (n : Nat) : lvl n ≤ 5 := by unfold lvl; repeat' (first | omega | split)
theorem lvl_zero : lvl 0 = 0 := by decide
theorem joinL_succ (Z : Cz) (inn : List UInt8 → Ps → Ex × Nat × Ps) (F : Fs) (lo k ti : Nat) (e : Ex) (s : St) : joinL (Z.cx inn) F lo (k + 1) ti e s = if decide (lvl (Z.sign s).bt < lo) || decide (ti < lvl (Z.sign s).bt) then (e, s) else joinL (Z.cx inn) F lo k (if lvl (Z.sign s).bt = 3 then 2 else lvl (Z.sign s).bt) (treeX (Z.sign s).bt (Z.pl s) [e, (F.jo (lvl (Z.sign s).bt + 1) s.pass).1]) (F.jo (lvl (Z.sign s).bt + 1) s.pass).2 := by
 show (if lvl ((Z.cx inn).sign s).bt < lo ∨ ti < lvl ((Z.cx inn).sign s).bt then _ else _) = _
 simp only [sign_eq, pl_eq, Bool.or_eq_true, decide_eq_true_eq]
theorem sign_b {Z : Cz} {s : St} (h : (Z.sign s).bt ≠ 0) : s.p < Z.acc.length := by
 refine kind_lt fun e => h ?_
 unfold Cz.sign; rw [if_neg (by rw [e]; decide)]; rfl
theorem Rd.lev {w : World} {R : Nat} {Z : Cz} {s : St} (h : Rd w R Z s) {i : Nat} (hi : i < 21) : w.cell? ⟨3, i, none⟩ = some (.int .i64 (lvl i)) ∧ 3 < w.heap.size := ⟨h.zt.lv i hi, Nat.lt_of_lt_of_le (Nat.lt_of_lt_of_le (by decide) h.zt.n2) h.nn⟩
set_option maxRecDepth 100000 in
set_option maxHeartbeats 4000000 in
theorem joined_any {w : World} {R : Nat} {Z : Cz} {s : St} {inn : List UInt8 → Ps → Ex × Nat × Ps} {F : Fs} {lo : Nat} (h : Rd w R Z s) (hlo1 : 1 ≤ lo) (hlo : lo ≤ 6) (hu : UnOk R Z F s.p) (hj : JoOk R Z F (s.p + 1)) : Calls Tryz.prog 117 #[.pointer (some ⟨R, 0, none⟩), .int .i64 lo] w (EP w R Z s.p (joinedM (Z.cx inn) F lo s)) := by
 have hle := h.le
 have HZ := qh h.sz
 have H0 := qh h
 have HJ := qh hj
 have HU := qh (hu w s h (Nat.le_refl _))
 have HM : Hid (joinedM (Z.cx inn) F lo s = joinL (Z.cx inn) F lo (Z.acc.length + 1) 5 (F.un s).1 (F.un s).2) := by unfold Hid joinedM; rw [Cz.len_eq]
 generalize joinedM (Z.cx inn) F lo s = M at *
 generalize F.un s = U at *
 have HLO := qh (And.intro hlo1 hlo)
 clear h hj hu hlo1 hlo hle
 go_enter Tryz.func117, Tryz.ntmps117
 go_wp2_with fail
 refine HU.out.mono ?_
 rintro e w1 ⟨b0, rfl, hx0, hr0, hf0, hp0⟩
 have HX0 := qh (And.intro hx0 (And.intro hr0 (And.intro hf0 hp0)))
 clear hx0 hr0 hf0 hp0 HU
 go_wp2_with fail
 go_loopw [5, 6] (fun v5 v6 wr => ∃ (k ti be : Nat) (e : Ex) (s' : St), v5 = .pointer (some ⟨be, 0, none⟩) ∧ v6 = .int .i64 (ti : Int) ∧ ti ≤ 5 ∧ Hid (M = joinL (Z.cx inn) F lo k ti e s') ∧ Hid (Z.acc.length - s'.p < k) ∧ Hid (Xb w.heap.size wr R be e) ∧ Hid (Rd wr R Z s') ∧ Hid (Fm R w wr) ∧ Hid (s.p ≤ s'.p)) (fun _ _ wr => 100000 - pAt R wr)
 case atStart => exact ⟨Z.acc.length + 1, 5, b0, U.1, U.2, rfl, rfl, by decide, HM.out, by unfold Hid; omega, HX0.out.1, HX0.out.2.1, HX0.out.2.2.1, HX0.out.2.2.2⟩
 case round =>
  obtain ⟨k, ti, be, e, s', rfl, rfl, hti, HK, HF, HXb, HR, HW, HSP⟩ := hrel
  obtain ⟨k, rfl⟩ : ∃ j, k = j + 1 := ⟨k - 1, by have := HF.out; omega⟩
  have hle := HR.out.le
  have hz := HZ.out.n
  have HTI := qh hti
  have HK2 := qh (HK.out.trans (joinL_succ Z inn F lo k ti e s'))
  have hbt := sign_bt Z s'
  have HSG := qh (sign_any HR.out)
  have HBT : Hid ((Z.sign s').bt ≠ 0 → s'.p < Z.acc.length) := fun h => sign_b h
  have HPS : Hid (s'.p < Z.acc.length → ∀ W, Rd W R Z s' → Calls Tryz.prog 119 #[.pointer (some ⟨R, 0, none⟩)] W fun e w' => e = .returned (.agg #[.int .i64 (Z.pl s').a, .int .i64 (Z.pl s').l, .int .i64 (Z.pl s').c]) ∧ Rd w' R Z s'.pass ∧ Fm R W w') := fun hk W hW => pass_any hW hk
  generalize Z.sign s' = G at *
  generalize Z.pl s' = P at *
  have hv5 := lvl_le G.bt
  have HV0 : Hid (1 ≤ lvl G.bt → G.bt ≠ 0) := fun h e => by rw [e, lvl_zero] at h; omega
  have hv0 : Hid (lvl G.bt = lvl G.bt) := rfl
  have HJQ : Hid (s'.p < Z.acc.length → ∀ W, Rd W R Z s'.pass → Calls Tryz.prog 117 #[.pointer (some ⟨R, 0, none⟩), .int .i64 ((lvl G.bt + 1 : Nat) : Int)] W (EP W R Z (s'.p + 1) (F.jo (lvl G.bt + 1) s'.pass))) := fun _ W hW => HJ.out W s'.pass (lvl G.bt + 1) hW (Nat.succ_le_succ HSP.out) (by omega) (by omega)
  have HLV : Hid (∀ W, Rd W R Z s' → W.cell? ⟨3, G.bt, none⟩ = some (.int .i64 (lvl G.bt)) ∧ 3 < W.heap.size) := fun W hW => hW.lev hbt
  generalize hgv : lvl G.bt = v at *
  generalize F.jo (v + 1) s'.pass = J at *
  clear HK hti
  have hk1 : (G.bt : Int) < 27 := by omega
  have hk0 : ¬ (G.bt : Int) < 0 := by omega
  clear hgv hv0
  go_wp2_with fail
  refine HSG.out.mono ?_
  rintro e0 w2 ⟨rfl, c2⟩
  have H2 := qh (And.intro (HR.out.below c2) (And.intro (HW.out.tr (Fm.of c2)) (HXb.out.fr (Fm.of c2))))
  clear c2 HSG
  obtain ⟨lv1, lv2⟩ := HLV.out _ H2.out.1
  obtain ⟨bl, hbl⟩ : ∃ b, decide (v < lo) = b := ⟨_, rfl⟩
  have el : decide ((v : Int) < (lo : Int)) = bl := by rw [← hbl]; by_cases hq : v < lo <;> simp [hq]
  obtain ⟨bg, hbg⟩ : ∃ b, decide (ti < v) = b := ⟨_, rfl⟩
  have eg : decide ((ti : Int) < (v : Int)) = bg := by rw [← hbg]; by_cases hq : ti < v <;> simp [hq]
  have HBL := qh hbl
  have HBG := qh hbg
  rw [hbl, hbg] at HK2
  obtain ⟨oV, cV, oK, cK, o, cap, hb, hX, hbR, hnb⟩ := H2.out.2.2
  have HNE := qh hbR
  have HX := qh hX
  clear hX hbR hnb
  have hb2 := (rc15 hb)
  cases bl with
  | true =>
    have HM3 : Hid (M = (e, s')) := HK2.out
    go_wp2_with fail
    go_ret
    rw [HM3.out]
    exact ⟨be, rfl, H2.out.2.2, H2.out.1, H2.out.2.1, HSP.out⟩
  | false =>
    cases bg with
    | true =>
      have HM3 : Hid (M = (e, s')) := HK2.out
      go_wp2_with fail
      go_ret
      rw [HM3.out]
      exact ⟨be, rfl, H2.out.2.2, H2.out.1, H2.out.2.1, HSP.out⟩
    | false =>
      have hlt : Hid (s'.p < Z.acc.length) := HBT.out (HV0.out (by have := HLO.out.1; have := of_decide_eq_false HBL.out; omega))
      have HM3 : Hid (M = joinL (Z.cx inn) F lo k (if v = 3 then 2 else v) (treeX G.bt P [e, J.1]) J.2) := HK2.out
      go_upto_region 7 with fail
      obtain ⟨⟨d0, d1, d2, d3, d4, d5, d6, d7, d8, d9, d10, d11, d12, d13, d14⟩, -, hbl2⟩ := hb2
      have ew : IntKind.i64.wrap ((v : Int) + 1) = ((v + 1 : Nat) : Int) := by rw [IntWalk.i64_in _ (by omega)]; rfl
      refine wp_region_noPanic ?_
      refine wp_region_held_drew (S := (fun W => (∀ o, W.cell? ⟨be, o, none⟩ = w2.cell? ⟨be, o, none⟩) ∧ be < W.heap.size)) (by kernel_rfl) ?_ (fun hH => ?_)
      · exact ⟨fun _ => rfl, hbl2⟩
      refine wpAnyH_take (i := 0) (oi := { dst := some 26, op := Op.move (Operand.tmp 7), type := 3, pos := _, after := _, guard := none }) (v := ?_) rfl (by kernel_rfl) (by kernel_rfl) (by kernel_rfl) (fun _ _ _ h => h) (Or.inl ⟨by rfl, ?_⟩) (by assumption) ?_
      rotate_left
      · (intro w hSw; (try dsimp only at hSw); go_simp; try with_reducible rfl)
      try simp only [Act.put, sqa, sqb, sqc]
      refine wpAnyH_take (i := 1) (oi := { dst := some 27, op := Op.move (Operand.tmp 0), type := 82, pos := _, after := _, guard := none }) (v := ?_) rfl (by kernel_rfl) (by kernel_rfl) (by kernel_rfl) (fun _ _ _ h => h) (Or.inl ⟨by rfl, ?_⟩) (by assumption) ?_
      rotate_left
      · (intro w hSw; (try dsimp only at hSw); go_simp; try with_reducible rfl)
      try simp only [Act.put, sqa, sqb, sqc]
      refine wpAnyH_take (i := 3) (oi := { dst := some 29, op := Op.move (Operand.tmp 5), type := 84, pos := _, after := _, guard := none }) (v := ?_) rfl (by kernel_rfl) (by kernel_rfl) (by kernel_rfl) (fun _ _ _ h => h) (Or.inl ⟨by rfl, ?_⟩) (by assumption) ?_
      rotate_left
      · (intro w hSw; (try dsimp only at hSw); go_simp; try with_reducible rfl)
      try simp only [Act.put, sqa, sqb, sqc]
      refine wpAnyH_take (i := 4) (oi := { dst := some 30, op := Op.nilCheck (Operand.tmp 29), type := 0, pos := _, after := _, guard := none }) (v := ?_) rfl (by kernel_rfl) (by kernel_rfl) (by kernel_rfl) (fun _ _ _ h => h) (Or.inl ⟨by rfl, ?_⟩) (by assumption) ?_
      rotate_left
      · (intro w hSw; (try dsimp only at hSw); go_simp; try with_reducible rfl)
      try simp only [Act.put, sqa, sqb, sqc]
      refine wpAnyH_take (i := 5) (oi := { dst := some 31, op := Op.load 38 (Operand.tmp 30), type := 38, pos := _, after := _, guard := none }) (v := ?_) rfl (by kernel_rfl) (by kernel_rfl) (by kernel_rfl) (fun _ _ _ h => h) (Or.inl ⟨by rfl, ?_⟩) (by assumption) ?_
      rotate_left
      · (intro w hSw; (try dsimp only at hSw); go_simp; try with_reducible rfl)
      try simp only [Act.put, sqa, sqb, sqc]
      refine wpAnyH_take (i := 6) (oi := { dst := some 32, op := Op.move (Operand.tmp 0), type := 82, pos := _, after := _, guard := none }) (v := ?_) rfl (by kernel_rfl) (by kernel_rfl) (by kernel_rfl) (fun _ _ _ h => h) (Or.inl ⟨by rfl, ?_⟩) (by assumption) ?_
      rotate_left
      · (intro w hSw; (try dsimp only at hSw); go_simp; try with_reducible rfl)
      try simp only [Act.put, sqa, sqb, sqc]
      refine wpAnyH_take (i := 7) (oi := { dst := some 33, op := Op.move (Operand.tmp 8), type := 3, pos := _, after := _, guard := none }) (v := ?_) rfl (by kernel_rfl) (by kernel_rfl) (by kernel_rfl) (fun _ _ _ h => h) (Or.inl ⟨by rfl, ?_⟩) (by assumption) ?_
      rotate_left
      · (intro w hSw; (try dsimp only at hSw); go_simp; try with_reducible rfl)
      try simp only [Act.put, sqa, sqb, sqc]
      refine wpAnyH_take (i := 8) (oi := { dst := some 34, op := Op.binOp BinOp.add 3 (Operand.tmp 33) (Operand.const (Value.int IntKind.i64 1)) 3, type := 3, pos := _, after := _, guard := none }) (v := ?_) rfl (by kernel_rfl) (by kernel_rfl) (by kernel_rfl) (fun _ _ _ h => h) (Or.inl ⟨by rfl, ?_⟩) (by assumption) ?_
      rotate_left
      · (intro w hSw; (try dsimp only at hSw); go_simp; try with_reducible rfl)
      try simp only [Act.put, sqa, sqb, sqc]
      refine wpAnyH_ready (rs := [2]) (by kernel_rfl) (by simp) ?_
      refine AllReadyH.cons (o := { dst := some 28, op := Op.call { callee := Callee.value (Operand.func 119), args := #[Operand.tmp 27], argTypes := #[82] }, type := 36, pos := _, after := _, guard := none }) rfl (fun K hK => ?_) AllReadyH.nil
      go_simp
      refine (HPS.out hlt.out _ (H2.out.1.below (Below.refl _ _).drew)).mono ?_
      rintro e0 WA ⟨rfl, h1, f1⟩
      have F1 := qh f1
      have HA := qh (And.intro h1 (And.intro (H2.out.2.1.dr.tr f1) ((HX.out.fm (Fm.rf R w2).dr).fm f1)))
      clear h1 f1
      refine hK.out _ _ ?_ (fun hH' => ?_)
      · exact ⟨fun o => (World.cell?_of_block (w := w2.drew) (F1.out.block be hH.2 (fun e => HNE.out (Option.some.inj e)))).trans (hH.1 o), Nat.lt_of_lt_of_le hH.2 F1.out.size⟩
      clear hK K hH
      have hH := hH'
      clear hH'
      try simp only [Act.put, sqa, sqb, sqc]
      refine wpAnyH_ready (rs := [9]) (by kernel_rfl) (by simp) ?_
      refine AllReadyH.cons (o := { dst := some 35, op := Op.call { callee := Callee.value (Operand.func 117), args := #[Operand.tmp 32, Operand.tmp 34], argTypes := #[82, 3] }, type := 84, pos := _, after := _, guard := none }) rfl (fun K hK => ?_) AllReadyH.nil
      go_simp
      refine (HJQ.out hlt.out _ HA.out.1).mono ?_
      rintro e0 WB ⟨bz, rfl, hx, hr, hf, hp⟩
      obtain ⟨oV', cV', oK', cK', o', cap', hbz, hXz, hbzR, hnbz⟩ := hx
      have F2 := qh hf
      have HB := qh (And.intro hr (And.intro (HA.out.2.1.tr hf) (And.intro (HA.out.2.2.fm hf) (And.intro (hXz.mono (P' := Nu w.heap.size WB R) fun k hk => ⟨Nat.le_trans HA.out.2.1.size hk.1, hk.2⟩) hp))))
      obtain ⟨⟨c0, c1, c2, c3, c4, c5, c6, c7, c8, c9, c10, c11, c12, c13, c14⟩, -, hblz⟩ := rc15 hbz
      clear hr hf hXz hbz hnbz hbzR hp
      refine hK.out _ _ ?_ (fun hH' => ?_)
      · exact ⟨fun o => (World.cell?_of_block (w := WA) (F2.out.block be hH.2 (fun e => HNE.out (Option.some.inj e)))).trans (hH.1 o), Nat.lt_of_lt_of_le hH.2 F2.out.size⟩
      clear hK K hH
      have hH := hH'
      clear hH'
      try simp only [Act.put, sqa, sqb, sqc]
      refine wpAnyH_take (i := 10) (oi := { dst := some 36, op := Op.nilCheck (Operand.tmp 35), type := 0, pos := _, after := _, guard := none }) (v := ?_) rfl (by kernel_rfl) (by kernel_rfl) (by kernel_rfl) (fun _ _ _ h => h) (Or.inl ⟨by rfl, ?_⟩) (by assumption) ?_
      rotate_left
      · (intro w hSw; (try dsimp only at hSw); go_simp; try with_reducible rfl)
      try simp only [Act.put, sqa, sqb, sqc]
      refine wpAnyH_ready (rs := [11]) (by kernel_rfl) (by simp) ?_
      refine AllReadyH.cons (o := { dst := some 37, op := Op.load 38 (Operand.tmp 36), type := 38, pos := _, after := _, guard := none }) rfl (fun K hK => ?_) AllReadyH.nil
      go_simp
      refine hK.out _ _ ?_ (fun hH' => ?_)
      · exact hH
      clear hK K hH
      have hH := hH'
      clear hH'
      try simp only [Act.put, sqa, sqb, sqc]
      have hHB := qh hH.1
      have hhB := qh hH.2
      refine wpAnyH_ready (rs := [12]) (by kernel_rfl) (by simp) ?_
      refine AllReadyH.cons (o := { dst := some 38, op := Op.buildSlice 34 2 #[(0, Operand.tmp 31), (1, Operand.tmp 37)], type := 34, pos := _, after := _, guard := none }) rfl (fun K hK => ?_) AllReadyH.nil
      go_simp
      refine hK.out _ _ ?_ (fun hH' => ?_)
      · exact ⟨fun o => (World.cell?_of_block (heap_alloc_old WB _ hH.2)).trans (hH.1 o), Nat.lt_of_lt_of_le hH.2 (by simp)⟩
      clear hK K hH
      have hH := hH'
      clear hH'
      try simp only [Act.put, sqa, sqb, sqc]
      refine wpAnyH_ready (rs := [13]) (by kernel_rfl) (by simp) ?_
      refine AllReadyH.cons (o := { dst := some 39, op := Op.call { callee := Callee.value (Operand.func 121), args := #[Operand.tmp 26, Operand.tmp 28, Operand.tmp 38], argTypes := #[3, 36, 34] }, type := 84, pos := _, after := _, guard := none }) rfl (fun K hK => ?_) AllReadyH.nil
      go_simp
      refine (tree_any G.bt P (some ⟨WB.heap.size, 0, none⟩) 2 2 _).mono ?_
      rintro e0 WC ⟨b4, rfl, hle4, hb4, k4⟩
      have hg4 := (k4.block WB.heap.size (by simp)).trans (heap_alloc_new WB (.cells (xc2 e J.1 oV cV oK cK o cap oV' cV' oK' cK' o' cap') 38))
      have r4 : Rd WC R Z J.2 := (HB.out.1.below ((Below.refl _ _).alloc (Nat.le_refl _) (.cells (xc2 e J.1 oV cV oK cK o cap oV' cV' oK' cK' o' cap') 38))).below k4
      have f4 : Fm R WB WC := ((Fm.rf R WB).al _).tr (Fm.of k4)
      have F3 := qh f4
      have hs3 : WB.heap.size < b4 := Nat.lt_of_lt_of_le (by simp) hle4
      clear c0 c1 c2 c3 c4 c5 c6 c7 c8 c9 c10 c11 c12 c13 c14
      have HC := qh (And.intro hg4 (And.intro hs3 (And.intro hb4 r4)))
      clear hg4 f4 hs3 hb4 k4 hle4 r4
      refine hK.out _ _ ?_ (fun hH' => ?_)
      · exact ⟨fun o => (World.cell?_of_block (w := WB) (F3.out.block be hhB.out (fun e => HNE.out (Option.some.inj e)))).trans (hHB.out o), Nat.lt_of_lt_of_le hhB.out F3.out.size⟩
      clear hK K hH
      have hH := hH'
      clear hH'
      try simp only [Act.put, sqa, sqb, sqc]
      refine wpAnyH_take (i := 14) (oi := { dst := some 5, op := Op.assign (Operand.tmp 39), type := 84, pos := _, after := _, guard := none }) (v := ?_) rfl (by kernel_rfl) (by kernel_rfl) (by kernel_rfl) (fun _ _ _ h => h) (Or.inl ⟨by rfl, ?_⟩) (by assumption) ?_
      rotate_left
      · (intro w hSw; (try dsimp only at hSw); go_simp; try with_reducible rfl)
      try simp only [Act.put, sqa, sqb, sqc]
      all_goals refine wpAnyH_done (by kernel_rfl) ?_ _
      all_goals refine NoPanic.normal ?_
      clear d0 d1 d2 d3 d4 d5 d6 d7 d8 d9 d10 d11 d12 d13 d14 hbl2 hH ew
      have HE : Hid (Xb w.heap.size WC R b4 (treeX G.bt P [e, J.1])) := by
       have l3 := HB.out.1.lt
       have l0 := HB.out.2.1.size
       have l4 := HC.out.2.1
       exact xb_two (HB.out.2.2.1.fm F3.out) (HB.out.2.2.2.1.fm F3.out) HC.out.1 l0 (by omega) HC.out.2.2.1 (by omega) (by omega)
      have HFm := qh (HB.out.2.1.tr F3.out)
      by_cases hv3 : v = 3
      · have ev3 : ((v : Int) == 3) = true := by rw [hv3]; rfl
        have HM4 : Hid (M = joinL (Z.cx inn) F lo k 2 (treeX G.bt P [e, J.1]) J.2) := by unfold Hid; rw [HM3.out, if_pos hv3]
        have es3 : IntKind.i64.wrap ((v : Int) - 1) = 2 := by rw [hv3]; rfl
        clear hv3
        go_wp2_with fail
        go_roundw
        case rel => exact ⟨k, 2, b4, treeX G.bt P [e, J.1], J.2, rfl, rfl, by decide, HM4.out, by have := HF.out; have := HB.out.2.2.2.2; unfold Hid; have := HC.out.2.2.2.le; omega, HE.out, HC.out.2.2.2, HFm.out, Nat.le_trans HSP.out (Nat.le_trans (Nat.le_succ _) HB.out.2.2.2.2)⟩
        case measure =>
         have e1 := pAt_eq HC.out.2.2.2
         have e2 := pAt_eq HR.out
         have := HC.out.2.2.2.le
         have := HB.out.2.2.2.2
         rw [e1, e2]; omega
      · have ev3 : ((v : Int) == 3) = false := by rw [beq_eq_false_iff_ne]; omega
        have HM4 : Hid (M = joinL (Z.cx inn) F lo k v (treeX G.bt P [e, J.1]) J.2) := by unfold Hid; rw [HM3.out, if_neg hv3]
        clear hv3
        go_wp2_with fail
        go_roundw
        case rel => exact ⟨k, v, b4, treeX G.bt P [e, J.1], J.2, rfl, rfl, hv5, HM4.out, by have := HF.out; have := HB.out.2.2.2.2; unfold Hid; have := HC.out.2.2.2.le; omega, HE.out, HC.out.2.2.2, HFm.out, Nat.le_trans HSP.out (Nat.le_trans (Nat.le_succ _) HB.out.2.2.2.2)⟩
        case measure =>
         have e1 := pAt_eq HC.out.2.2.2
         have e2 := pAt_eq HR.out
         have := HC.out.2.2.2.le
         have := HB.out.2.2.2.2
         rw [e1, e2]; omega
end Go.Proofs.YtncjncacfagldaaGreatDoor

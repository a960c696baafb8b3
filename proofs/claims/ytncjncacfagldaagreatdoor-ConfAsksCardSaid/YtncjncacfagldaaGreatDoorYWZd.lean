import Derived.Test.YtncjncacfagldaaGreatDoorYWZa
namespace Go.Proofs.YtncjncacfagldaaGreatDoor
open Go.RowKit Go.Lib
attribute [local go_sem] field66_0 field66_1 field66_2 field66_3 field66_4

def Inq (Z : Cz) : Prop := (∀ X ∈ Z.acc, ∀ x ∈ X.1.ps, x.ex = true → InnB x.s ∧ x.s.length ≤ 32768) ∧ (-100000000000 ≤ Z.h.a ∧ Z.h.a ≤ 100000000000) ∧ (-100000000000 ≤ Z.h.l ∧ Z.h.l ≤ 100000000000) ∧ (-100000000000 ≤ Z.h.c ∧ Z.h.c ≤ 100000000000)
theorem inn_nq {l : List UInt8} (h : InnB l) : ∀ c ∈ l, c ≠ 34 := fun c hc e => by
 have := h c hc
 subst e
 exact absurd this (by decide)
theorem lexL_nq {l : List UInt8} {ts : List Tkn} (h : lexL l = .ok ts) (hq : ∀ c ∈ l, c ≠ 34) : ∀ t ∈ ts, t.ps = [] ∧ t.k ≠ 3 := by
 unfold lexL at h
 split at h
 · cases h
 · exact allL_nq _ _ _ _ h hq
theorem Rd.below' {W w w' : World} {R : Nat} {Z : Cz} {s : St} (_ : Rd w R Z s) (hb : Below W.heap.size W w') (h0 : Rd W R Z s) : Rd w' R Z s := h0.below hb
theorem rd_new {w3 w5 : World} {B R' n sg : Nat} {vl : Value} {hh : Ps} {a : List (Tkn × Option Addr × Nat)} (h1 : ∃ o cap, vl = .slice o a.length cap ∧ RowP (fun k => B ≤ k ∧ k < w3.heap.size) w3 o cap a.length 7 (fun j m => tc7 ((a[j]?).getD (tk0, none, 0)) m))
 (h2 : ∀ x ∈ a, RowP (fun k => B ≤ k ∧ k < w3.heap.size) w3 x.2.1 x.2.2 x.1.ps.length 5 (fun j m => pc5 ((x.1.ps[j]?).getD prt0) m))
 (hn : w3.heap.size ≤ n) (hb : Below w3.heap.size w3 w5) (hR : n ≤ R') (hs : w5.heap[sg]? = some (.map sgEs 17)) (hsn : sg < n) (tb : Tab w3) (lv : Lev w3) (h2n : 4 ≤ w3.heap.size) (hz : Sz ⟨a, vl, sg, hh, n⟩)
 (hblk : w5.heap[R']? = some (.cells #[vl, .int .i64 0, .map (some sg), .int .i64 hh.a, .int .i64 hh.l, .int .i64 hh.c, .int .i64 0, .int .i64 0, .int .i64 0, .int .i64 0, .string ⟨#[]⟩] 122 (0, 0))) (hnn : n ≤ w5.heap.size) : Rd w5 R' ⟨a, vl, sg, hh, n⟩ ⟨0, 0, ps0⟩ :=
 ⟨hblk, zt_mk h1 h2 n hn hb hR hs hsn tb lv h2n, hz, Nat.zero_le _, hnn⟩
set_option maxRecDepth 100000 in
set_option maxHeartbeats 4000000 in
theorem inner_any {R : Nat} {Z : Cz} (hq : Inq Z) : InnOk R Z innM := by
 intro W s X x hW hmem hx he
 have H := qh hW
 have HZ := qh hq
 obtain ⟨hib, hil⟩ := hq.1 X hmem x hx he
 have HIB := qh hib
 have HIL := qh hil
 have hbd := (hW.sz.pt X hmem).2.2 x hx
 have HBD := qh hbd
 have hRW := hW.lt
 have hps : (0 ≤ x.p.ps.a ∧ x.p.ps.a ≤ 100000) ∧ (0 ≤ x.p.ps.l ∧ x.p.ps.l ≤ 100000) ∧ (0 ≤ x.p.ps.c ∧ x.p.ps.c ≤ 100000) := by unfold Plc.ps; simp only; omega
 have HPS := qh hps
 have HM : Hid (inh Z x = ⟨(mv Z.h x.p.ps).a, (mv Z.h x.p.ps).l - 1, (mv Z.h x.p.ps).c - 1⟩) := rfl
 have HMB : Hid ((-200000000000 ≤ (mv Z.h x.p.ps).a ∧ (mv Z.h x.p.ps).a ≤ 200000000000) ∧ (-200000000000 ≤ (mv Z.h x.p.ps).l ∧ (mv Z.h x.p.ps).l ≤ 200000000000) ∧ (-200000000000 ≤ (mv Z.h x.p.ps).c ∧ (mv Z.h x.p.ps).c ≤ 200000000000)) := by
  have := hq.2
  unfold mv Plc.ps Hid
  simp only
  refine ⟨by omega, by omega, ?_⟩
  split <;> omega
 have HMV : Hid (∀ W1, Rd W1 R Z s → Calls Tryz.prog 155 #[.pointer (some ⟨R, 0, none⟩), .agg #[.int .i64 x.p.a, .int .i64 x.p.l, .int .i64 x.p.c]] W1 fun e w' => e = .returned (.agg #[.int .i64 (mv Z.h x.p.ps).a, .int .i64 (mv Z.h x.p.ps).l, .int .i64 (mv Z.h x.p.ps).c]) ∧ Below W1.heap.size W1 w') := fun W1 h1 => moved_any h1 x.p.ps HPS.out.1 HPS.out.2.1 HPS.out.2.2
 have HB0 := qh ((Below.refl W.heap.size W).alloc (Nat.le_refl _) (.cells #[.bool x.ex, .string (tx x.s), .int .i64 x.p.a, .int .i64 x.p.l, .int .i64 x.p.c] 130))
 have HC0 := qh (heap_alloc_new W (.cells #[.bool x.ex, .string (tx x.s), .int .i64 x.p.a, .int .i64 x.p.l, .int .i64 x.p.c] 130))
 generalize hG : inh Z x = hh at *
 generalize mv Z.h x.p.ps = M at *
 clear hW hbd hps hib hil hG hq hmem hx he
 dsimp only [pav]
 have HPM : Hid (((innM x.s hh).1, if (innM x.s hh).2.1 = 0 then s else Z.fail s (innM x.s hh).2.1 (innM x.s hh).2.2) = ((innM x.s hh).1, if (innM x.s hh).2.1 = 0 then s else Z.fail s (innM x.s hh).2.1 (innM x.s hh).2.2)) := rfl
 generalize hPM : ((innM x.s hh).1, if (innM x.s hh).2.1 = 0 then s else Z.fail s (innM x.s hh).2.1 (innM x.s hh).2.2) = PM
 rw [hPM] at HPM
 replace HPM := qh hPM
 clear hPM
 go_enter Tryz.func199, Tryz.ntmps199
 go_upto_region 1 with fail
 have B0 := HB0.out
 have c0 := HC0.out
 have H0 := qh (H.out.below B0)
 generalize W.alloc (Obj.cells #[.bool x.ex, .string (tx x.s), .int .i64 x.p.a, .int .i64 x.p.l, .int .i64 x.p.c] 130) = w0 at *
 have p1 := cell_of_row w0 W.heap.size 1 _ _ _ c0
 have p2 := cell_of_row w0 W.heap.size 2 _ _ _ c0
 have p3 := cell_of_row w0 W.heap.size 3 _ _ _ c0
 have p4 := cell_of_row w0 W.heap.size 4 _ _ _ c0
 have l0 := (Array.getElem?_eq_some_iff.1 c0).1
 have HN : Hid (W.heap.size = W.heap.size) := rfl
 clear c0 B0
 go_wp2_with fail
 refine (HMV.out _ H0.out).mono ?_
 rintro e w1 ⟨rfl, c1⟩
 have H1 := qh (H0.out.below c1)
 have HB1 := qh (HB0.out.trans (c1.mono (Nat.le_of_lt l0)))
 have HC1 := qh ((c1.block _ l0).trans HC0.out)
 clear p1 p2 p3 p4 HMV
 have p1 := cell_of_row w1 W.heap.size 1 _ _ _ HC1.out
 have l1 := (Array.getElem?_eq_some_iff.1 HC1.out).1
 clear c1 l0
 go_upto_region 2 with fail
 have c2 := heap_alloc_new w1 (.cells #[.int .i64 M.a, .int .i64 M.l, .int .i64 M.c] 36)
 have HB2 := qh (HB1.out.alloc (Nat.le_of_lt l1) (.cells #[.int .i64 M.a, .int .i64 M.l, .int .i64 M.c] 36))
 have H2 := qh (H1.out.below ((Below.refl _ _).alloc (Nat.le_refl _) (.cells #[.int .i64 M.a, .int .i64 M.l, .int .i64 M.c] 36)))
 have HC2 := qh c2
 have HD2 := qh ((heap_alloc_old w1 (.cells #[.int .i64 M.a, .int .i64 M.l, .int .i64 M.c] 36) l1).trans HC1.out)
 have HNm : Hid (W.heap.size < w1.heap.size) := l1
 clear p1 l1 H1 HC1 H0 HC0 c2
 generalize w1.alloc (Obj.cells #[.int .i64 M.a, .int .i64 M.l, .int .i64 M.c] 36) = w2 at *
 generalize w1.heap.size = bm at *
 have p1 := cell_of_row w2 W.heap.size 1 _ _ _ HD2.out
 have HL := qh (all_any (w := w2) (s := tx x.s) H2.out.zt.tb (by show x.s.length ≤ 32768; exact HIL.out))
 go_wp2_with fail
 refine HL.out.mono ?_
 rintro e w3 ⟨b3, hm⟩
 have l2 := (Array.getElem?_eq_some_iff.1 HC2.out).1
 have HB3 := qh (HB2.out.trans (b3.mono HB2.out.size))
 have H3 := qh (H2.out.below b3)
 have HC3 := qh ((b3.block _ l2).trans HC2.out)
 clear p1 HL
 have HN1 : Hid (IntKind.i64.wrap (M.l - 1) = M.l - 1 ∧ IntKind.i64.wrap (M.c - 1) = M.c - 1) := by have := HMB.out; exact ⟨IntWalk.i64_in _ (by omega), IntWalk.i64_in _ (by omega)⟩
 have HT3 : Hid (Tab w3 ∧ Lev w3 ∧ 4 ≤ w3.heap.size ∧ Z.sg < w3.heap.size) := ⟨H3.out.zt.tb, H3.out.zt.lv, Nat.le_trans H3.out.zt.n2 H3.out.nn, Nat.lt_of_lt_of_le H3.out.zt.sl H3.out.nn⟩
 have HHB : Hid ((-1000000000000 ≤ hh.a ∧ hh.a ≤ 1000000000000) ∧ (-1000000000000 ≤ hh.l ∧ hh.l ≤ 1000000000000) ∧ (-1000000000000 ≤ hh.c ∧ hh.c ≤ 1000000000000)) := by have := HMB.out; rw [HM.out]; unfold Hid; simp only; omega
 cases hl : lexL (lb (tx x.s)) with
 | error ep =>
   obtain ⟨e, p⟩ := ep
   rw [hl] at hm
   dsimp only at hm
   subst hm
   have HI : Hid (innM x.s hh = (zeroX, e, mv hh p.ps)) := innM_err hl hh
   have HNZ := qh (lexL_nz hl)
   clear hl
   go_upto_region 3 with fail
   have hsz3 : bm < w3.heap.size := (Array.getElem?_eq_some_iff.1 HC3.out).1
   have c4 := heap_alloc_new w3 (.cells #[.int .i64 (e : Int), .int .i64 p.a, .int .i64 p.l, .int .i64 p.c, .string ⟨#[]⟩] 53)
   have HB4 := qh (HB3.out.alloc (by have := HNm.out; omega) (.cells #[.int .i64 (e : Int), .int .i64 p.a, .int .i64 p.l, .int .i64 p.c, .string ⟨#[]⟩] 53))
   have H4 := qh (H3.out.below ((Below.refl _ _).alloc (Nat.le_refl _) (.cells #[.int .i64 (e : Int), .int .i64 p.a, .int .i64 p.l, .int .i64 p.c, .string ⟨#[]⟩] 53)))
   have HX4 : Hid (Below w3.heap.size w3 (w3.alloc (.cells #[.int .i64 (e : Int), .int .i64 p.a, .int .i64 p.l, .int .i64 p.c, .string ⟨#[]⟩] 53))) := (Below.refl _ _).alloc (Nat.le_refl _) _
   have HC4 := qh ((heap_alloc_old w3 (.cells #[.int .i64 (e : Int), .int .i64 p.a, .int .i64 p.l, .int .i64 p.c, .string ⟨#[]⟩] 53) hsz3).trans HC3.out)
   have HD4 := qh c4
   have hbd3 : w3.heap.size < (w3.alloc (.cells #[.int .i64 (e : Int), .int .i64 p.a, .int .i64 p.l, .int .i64 p.c, .string ⟨#[]⟩] 53)).heap.size := (Array.getElem?_eq_some_iff.1 c4).1
   have HL3 : Hid (W.heap.size ≤ w3.heap.size) := HB3.out.size
   clear c4 HB3 H3 HC3 HB2 H2 HC2 HD2 l2
   have HS3 : Hid (w3.heap.size = w3.heap.size) := rfl
   generalize w3.alloc (.cells #[.int .i64 (e : Int), .int .i64 p.a, .int .i64 p.l, .int .i64 p.c, .string ⟨#[]⟩] 53) = w4 at *
   obtain ⟨bd, hbd⟩ : ∃ b, w3.heap.size = b := ⟨_, rfl⟩
   have HBD3 := qh hbd
   rw [hbd] at HD4 hsz3 hbd3 ⊢
   clear hbd HS3
   obtain ⟨⟨r0, r1, r2, r3, r4, r5, r6, r7, r8, r9, r10⟩, -, hR⟩ := rc11 H4.out.blk
   obtain ⟨⟨m0, m1, m2⟩, -, hbm⟩ := rc3 HC4.out
   obtain ⟨e1, e2⟩ := HN1.out
   clear r0 r1 r3 r4 r5 r6 r7 r8 r9 r10
   go_region
   have c5 : (w4.alloc (.cells #[.slice none 0 0, .int .i64 0, .map (some Z.sg), .int .i64 M.a, .int .i64 (M.l - 1), .int .i64 (M.c - 1), .int .i64 0, .int .i64 0, .int .i64 0, .int .i64 0, .string ⟨#[]⟩] 122)).drew.heap[w4.heap.size]? = _ := heap_alloc_new w4 (.cells #[.slice none 0 0, .int .i64 0, .map (some Z.sg), .int .i64 M.a, .int .i64 (M.l - 1), .int .i64 (M.c - 1), .int .i64 0, .int .i64 0, .int .i64 0, .int .i64 0, .string ⟨#[]⟩] 122)
   have B45 : Below w4.heap.size w4 (w4.alloc (.cells #[.slice none 0 0, .int .i64 0, .map (some Z.sg), .int .i64 M.a, .int .i64 (M.l - 1), .int .i64 (M.c - 1), .int .i64 0, .int .i64 0, .int .i64 0, .int .i64 0, .string ⟨#[]⟩] 122)).drew := ((Below.refl _ _).alloc (Nat.le_refl _) (.cells #[.slice none 0 0, .int .i64 0, .map (some Z.sg), .int .i64 M.a, .int .i64 (M.l - 1), .int .i64 (M.c - 1), .int .i64 0, .int .i64 0, .int .i64 0, .int .i64 0, .string ⟨#[]⟩] 122)).drew
   have HB5 := qh (HB4.out.trans (B45.mono HB4.out.size))
   have H5 := qh (H4.out.below B45)
   have HX5 := qh (HX4.out.trans (B45.mono HX4.out.size))
   have HD5 := qh ((B45.block _ hbd3).trans HD4.out)
   have HC5 := qh c5
   have HW4 : Hid (W.heap.size ≤ w4.heap.size) := HB4.out.size
   have HN4 : Hid (w3.heap.size ≤ w4.heap.size) := HX4.out.size
   have H45 : Hid (w4.heap.size < (w4.alloc (.cells #[.slice none 0 0, .int .i64 0, .map (some Z.sg), .int .i64 M.a, .int .i64 (M.l - 1), .int .i64 (M.c - 1), .int .i64 0, .int .i64 0, .int .i64 0, .int .i64 0, .string ⟨#[]⟩] 122)).drew.heap.size) := (Array.getElem?_eq_some_iff.1 c5).1
   clear c5 B45 r2 hR m0 m1 m2 hbm e1 e2 HB4 H4 HX4 HC4 HD4 hbd3 hsz3
   generalize (w4.alloc (.cells #[.slice none 0 0, .int .i64 0, .map (some Z.sg), .int .i64 M.a, .int .i64 (M.l - 1), .int .i64 (M.c - 1), .int .i64 0, .int .i64 0, .int .i64 0, .int .i64 0, .string ⟨#[]⟩] 122)).drew = w5 at *
   generalize w4.heap.size = b5 at *
   obtain ⟨⟨d0, d1, d2, d3, d4⟩, -, hbd5⟩ := rc5 HD5.out
   have HRN : Hid (Rd w5 b5 ⟨[], .slice none 0 0, Z.sg, hh, b5⟩ ⟨0, 0, ps0⟩) := rd_new (w3 := w3) (B := 0) ⟨none, 0, rfl, rowP_nil _ _ _ _⟩ (fun x h => by cases h) HN4.out HX5.out (Nat.le_refl _) H5.out.zt.sg (Nat.lt_of_lt_of_le HT3.out.2.2.2 HN4.out) HT3.out.1 HT3.out.2.1 HT3.out.2.2.1 ⟨Nat.zero_le _, (fun x h => by cases h), HHB.out.1, HHB.out.2.1, HHB.out.2.2, (fun x h => by cases h), (fun x h => by cases h)⟩ (by rw [HC5.out, HM.out]) (Nat.le_of_lt H45.out)
   have en : ((e : Int) != 0) = true := by rw [bne_iff_ne]; have := HNZ.out.1; omega
   have HPM2 : Hid (PM = (zeroX, Z.fail s e (mv hh p.ps))) := by unfold Hid; rw [← HPM.out, HI.out]; simp only; rw [if_neg HNZ.out.1]
   have hbdR : Hid (bd ≠ R) := by have := HBD3.out; have := HL3.out; unfold Hid; omega
   have HMV : Hid (∀ W1, Rd W1 b5 ⟨[], .slice none 0 0, Z.sg, hh, b5⟩ ⟨0, 0, ps0⟩ → Calls Tryz.prog 155 #[.pointer (some ⟨b5, 0, none⟩), .agg #[.int .i64 p.a, .int .i64 p.l, .int .i64 p.c]] W1 fun e w' => e = .returned (.agg #[.int .i64 (mv hh p.ps).a, .int .i64 (mv hh p.ps).l, .int .i64 (mv hh p.ps).c]) ∧ Below W1.heap.size W1 w') := fun W1 h1 => moved_any h1 p.ps (by have := HNZ.out; unfold Plc.ps; simp only; omega) (by have := HNZ.out; unfold Plc.ps; simp only; omega) (by have := HNZ.out; unfold Plc.ps; simp only; omega)
   generalize mv hh p.ps = Q at *
   go_upto_region 5 with fail
   refine wp_region_noPanic ?_
   refine wp_region_held_drew (S := (fun W => (∀ o, W.cell? ⟨bd, o, none⟩ = w5.cell? ⟨bd, o, none⟩) ∧ bd < W.heap.size)) (by kernel_rfl) ?_ (fun hH => ?_)
   · exact ⟨fun _ => rfl, hbd5⟩
   refine wpAnyH_take (i := 0) (oi := { dst := some 38, op := Op.move (Operand.tmp 0), type := 82, pos := _, after := _, guard := none }) (v := ?_) rfl (by kernel_rfl) (by kernel_rfl) (by kernel_rfl) (fun _ _ _ h => h) (Or.inl ⟨by rfl, ?_⟩) (by assumption) ?_
   rotate_left
   · (intro w hSw; (try dsimp only at hSw); go_simp; try with_reducible rfl)
   try simp only [Act.put, sqa, sqb, sqc]
   refine wpAnyH_take (i := 1) (oi := { dst := some 39, op := Op.fieldAddr 53 (Operand.tmp 7) 0, type := 0, pos := _, after := _, guard := none }) (v := ?_) rfl (by kernel_rfl) (by kernel_rfl) (by kernel_rfl) (fun _ _ _ h => h) (Or.inl ⟨by rfl, ?_⟩) (by assumption) ?_
   rotate_left
   · (intro w hSw; (try dsimp only at hSw); go_simp; try with_reducible rfl)
   try simp only [Act.put, sqa, sqb, sqc]
   refine wpAnyH_take (i := 2) (oi := { dst := some 40, op := Op.load 46 (Operand.tmp 39), type := 46, pos := _, after := _, guard := none }) (v := ?_) rfl (by kernel_rfl) (by kernel_rfl) (by kernel_rfl) (fun _ _ _ h => h) (Or.inl ⟨by rfl, ?_⟩) (by assumption) ?_
   rotate_left
   · (intro w hSw; (try dsimp only at hSw); go_simp; try with_reducible rfl)
   try simp only [Act.put, sqa, sqb, sqc]
   refine wpAnyH_take (i := 3) (oi := { dst := some 41, op := Op.fieldAddr 53 (Operand.tmp 7) 1, type := 0, pos := _, after := _, guard := none }) (v := ?_) rfl (by kernel_rfl) (by kernel_rfl) (by kernel_rfl) (fun _ _ _ h => h) (Or.inl ⟨by rfl, ?_⟩) (by assumption) ?_
   rotate_left
   · (intro w hSw; (try dsimp only at hSw); go_simp; try with_reducible rfl)
   try simp only [Act.put, sqa, sqb, sqc]
   refine wpAnyH_take (i := 4) (oi := { dst := some 42, op := Op.load 36 (Operand.tmp 41), type := 36, pos := _, after := _, guard := none }) (v := ?_) rfl (by kernel_rfl) (by kernel_rfl) (by kernel_rfl) (fun _ _ _ h => h) (Or.inl ⟨by rfl, ?_⟩) (by assumption) ?_
   rotate_left
   · (intro w hSw; (try dsimp only at hSw); go_simp; try with_reducible rfl)
   try simp only [Act.put, sqa, sqb, sqc]
   refine wpAnyH_ready (rs := [5]) (by kernel_rfl) (by simp) ?_
   refine AllReadyH.cons (o := { dst := some 43, op := Op.call { callee := Callee.value (Operand.func 155), args := #[Operand.tmp 8, Operand.tmp 42], argTypes := #[122, 36] }, type := 36, pos := _, after := _, guard := none }) rfl (fun K hK => ?_) AllReadyH.nil
   go_simp
   refine (HMV.out _ (HRN.out.below (Below.refl _ _).drew)).mono ?_
   rintro e0 WA ⟨rfl, b1⟩
   have F1 := qh (Fm.of (R := R) b1)
   have HA := qh (And.intro ((H5.out.below (Below.refl _ _).drew).below b1) (HB5.out.drew.trans (b1.mono HB5.out.size)))
   clear b1
   refine hK.out _ _ ?_ (fun hH' => ?_)
   · exact ⟨fun o => (World.cell?_of_block (w := w5.drew) (F1.out.block bd hH.2 (fun e => hbdR.out (Option.some.inj e)))).trans (hH.1 o), Nat.lt_of_lt_of_le hH.2 F1.out.size⟩
   clear hK K hH
   have hH := hH'
   clear hH'
   try simp only [Act.put, sqa, sqb, sqc]
   refine wpAnyH_take (i := 6) (oi := { dst := some 44, op := Op.build 53 #[(0, Operand.tmp 40), (1, Operand.tmp 43)], type := 53, pos := _, after := _, guard := none }) (v := ?_) rfl (by kernel_rfl) (by kernel_rfl) (by kernel_rfl) (fun _ _ _ h => h) (Or.inl ⟨by rfl, ?_⟩) (by assumption) ?_
   rotate_left
   · (intro w hSw; (try dsimp only at hSw); go_simp; try with_reducible rfl)
   try simp only [Act.put, sqa, sqb, sqc]
   refine wpAnyH_ready (rs := [7]) (by kernel_rfl) (by simp) ?_
   refine AllReadyH.cons (o := { dst := some 45, op := Op.call { callee := Callee.value (Operand.func 122), args := #[Operand.tmp 38, Operand.tmp 44], argTypes := #[82, 53] }, type := 0, pos := _, after := _, guard := none }) rfl (fun K hK => ?_) AllReadyH.nil
   go_simp
   refine (fail_any HA.out.1 e Q).mono ?_
   rintro e0 WB ⟨rfl, h2, f2⟩
   have F2 := qh f2
   have HBB := qh (And.intro h2 ((Fm.of (R := R) HA.out.2).tr f2))
   clear h2 f2
   refine hK.out _ _ ?_ (fun hH' => ?_)
   · exact ⟨fun o => (World.cell?_of_block (w := WA) (F2.out.block bd hH.2 (fun e => hbdR.out (Option.some.inj e)))).trans (hH.1 o), Nat.lt_of_lt_of_le hH.2 F2.out.size⟩
   clear hK K hH
   have hH := hH'
   clear hH'
   try simp only [Act.put, sqa, sqb, sqc]
   all_goals refine wpAnyH_done (by kernel_rfl) ?_ _
   all_goals refine NoPanic.normal ?_
   clear hH d0 d1 d2 d3 d4 hbd5
   go_wp2_with fail
   go_ret
   rw [HPM2.out]
   have hlb := HBB.out.2.size
   have hR' := HBB.out.1.lt
   have hcz := heap_alloc_new WB (.cells #[.int .i64 0, .string ⟨#[]⟩, .string ⟨#[]⟩, .int .i64 0, .int .i64 0, .string ⟨#[]⟩, .slice none 0 0, .slice none 0 0, .int .i64 0, .int .i64 0, .bool false, .slice none 0 0, .int .i64 0, .int .i64 0, .int .i64 0] 38)
   refine ⟨_, rfl, ⟨none, 0, none, 0, none, 0, hcz, xp_mk 0 ⟨#[]⟩ ⟨#[]⟩ (by decide) (by decide) (by decide) [] 0 0 0 (rowP_nil _ _ _ (fun _ _ => undef)) (fun j x h => by cases h), by omega, hlb⟩, HBB.out.1.below ((Below.refl _ _).alloc (Nat.le_refl _) _), HBB.out.2.al _, ?_⟩
   show s.p ≤ (Z.fail s e Q).p
   have := H.out.le
   unfold Cz.fail
   split <;> exact this
 | ok ts =>
   rw [hl] at hm
   obtain ⟨vl, acc, ha, rfl, ht⟩ := hm
   obtain ⟨a, ha2, hrow, hel⟩ := toks_row ht
   have hrow2 := hrow
   obtain ⟨o, cap, rfl, -⟩ := hrow
   have HRO := qh hrow2
   have HEL := qh hel
   have hat : a.map (·.1) = ts := ha2.trans ha
   have HAT := qh hat
   have HI : Hid (innM x.s hh = ((wholeM ⟨ts, hh, noInn⟩).1, (wholeM ⟨ts, hh, noInn⟩).2.e, (wholeM ⟨ts, hh, noInn⟩).2.q)) := innM_ok hl hh
   have HNQ : Hid (∀ x ∈ a, x.1.k ≠ 3) := fun y hy => (lexL_nq hl (inn_nq HIB.out) y.1 (by rw [← HAT.out]; exact List.mem_map_of_mem hy)).2
   have HSZ : Hid (∀ n, Sz ⟨a, .slice o a.length cap, Z.sg, hh, n⟩) := fun n => sz_mk HAT.out (lexL_g hl).1 (lexL_g hl).2.1 (lexL_g hl).2.2 _ _ _ HHB.out.1 HHB.out.2.1 HHB.out.2.2
   clear hl ha ha2 hrow2 hel hat ht acc
   go_upto_region 3 with fail
   have hsz3 : bm < w3.heap.size := (Array.getElem?_eq_some_iff.1 HC3.out).1
   have c4 := heap_alloc_new w3 (.cells #[.int .i64 0, .int .i64 0, .int .i64 0, .int .i64 0, .string ⟨#[]⟩] 53)
   have HB4 := qh (HB3.out.alloc (by have := HNm.out; omega) (.cells #[.int .i64 0, .int .i64 0, .int .i64 0, .int .i64 0, .string ⟨#[]⟩] 53))
   have H4 := qh (H3.out.below ((Below.refl _ _).alloc (Nat.le_refl _) (.cells #[.int .i64 0, .int .i64 0, .int .i64 0, .int .i64 0, .string ⟨#[]⟩] 53)))
   have HX4 : Hid (Below w3.heap.size w3 (w3.alloc (.cells #[.int .i64 0, .int .i64 0, .int .i64 0, .int .i64 0, .string ⟨#[]⟩] 53))) := (Below.refl _ _).alloc (Nat.le_refl _) _
   have HC4 := qh ((heap_alloc_old w3 (.cells #[.int .i64 0, .int .i64 0, .int .i64 0, .int .i64 0, .string ⟨#[]⟩] 53) hsz3).trans HC3.out)
   have HD4 := qh c4
   have hbd3 : w3.heap.size < (w3.alloc (.cells #[.int .i64 0, .int .i64 0, .int .i64 0, .int .i64 0, .string ⟨#[]⟩] 53)).heap.size := (Array.getElem?_eq_some_iff.1 c4).1
   have HL3 : Hid (W.heap.size ≤ w3.heap.size) := HB3.out.size
   clear c4 HB3 H3 HC3 HB2 H2 HC2 HD2 l2
   have HS3 : Hid (w3.heap.size = w3.heap.size) := rfl
   generalize w3.alloc (.cells #[.int .i64 0, .int .i64 0, .int .i64 0, .int .i64 0, .string ⟨#[]⟩] 53) = w4 at *
   obtain ⟨bd, hbd⟩ : ∃ b, w3.heap.size = b := ⟨_, rfl⟩
   have HBD3 := qh hbd
   rw [hbd] at HD4 hsz3 hbd3 ⊢
   clear hbd HS3
   obtain ⟨⟨r0, r1, r2, r3, r4, r5, r6, r7, r8, r9, r10⟩, -, hR⟩ := rc11 H4.out.blk
   obtain ⟨⟨m0, m1, m2⟩, -, hbm⟩ := rc3 HC4.out
   obtain ⟨e1, e2⟩ := HN1.out
   clear r0 r1 r3 r4 r5 r6 r7 r8 r9 r10
   go_region
   have c5 : (w4.alloc (.cells #[.slice o a.length cap, .int .i64 0, .map (some Z.sg), .int .i64 M.a, .int .i64 (M.l - 1), .int .i64 (M.c - 1), .int .i64 0, .int .i64 0, .int .i64 0, .int .i64 0, .string ⟨#[]⟩] 122)).drew.heap[w4.heap.size]? = _ := heap_alloc_new w4 (.cells #[.slice o a.length cap, .int .i64 0, .map (some Z.sg), .int .i64 M.a, .int .i64 (M.l - 1), .int .i64 (M.c - 1), .int .i64 0, .int .i64 0, .int .i64 0, .int .i64 0, .string ⟨#[]⟩] 122)
   have B45 : Below w4.heap.size w4 (w4.alloc (.cells #[.slice o a.length cap, .int .i64 0, .map (some Z.sg), .int .i64 M.a, .int .i64 (M.l - 1), .int .i64 (M.c - 1), .int .i64 0, .int .i64 0, .int .i64 0, .int .i64 0, .string ⟨#[]⟩] 122)).drew := ((Below.refl _ _).alloc (Nat.le_refl _) (.cells #[.slice o a.length cap, .int .i64 0, .map (some Z.sg), .int .i64 M.a, .int .i64 (M.l - 1), .int .i64 (M.c - 1), .int .i64 0, .int .i64 0, .int .i64 0, .int .i64 0, .string ⟨#[]⟩] 122)).drew
   have HB5 := qh (HB4.out.trans (B45.mono HB4.out.size))
   have H5 := qh (H4.out.below B45)
   have HX5 := qh (HX4.out.trans (B45.mono HX4.out.size))
   have HD5 := qh ((B45.block _ hbd3).trans HD4.out)
   have HC5 := qh c5
   have HW4 : Hid (W.heap.size ≤ w4.heap.size) := HB4.out.size
   have HN4 : Hid (w3.heap.size ≤ w4.heap.size) := HX4.out.size
   have H45 : Hid (w4.heap.size < (w4.alloc (.cells #[.slice o a.length cap, .int .i64 0, .map (some Z.sg), .int .i64 M.a, .int .i64 (M.l - 1), .int .i64 (M.c - 1), .int .i64 0, .int .i64 0, .int .i64 0, .int .i64 0, .string ⟨#[]⟩] 122)).drew.heap.size) := (Array.getElem?_eq_some_iff.1 c5).1
   clear c5 B45 r2 hR m0 m1 m2 hbm e1 e2 HB4 H4 HX4 HC4 HD4 hbd3 hsz3
   generalize (w4.alloc (.cells #[.slice o a.length cap, .int .i64 0, .map (some Z.sg), .int .i64 M.a, .int .i64 (M.l - 1), .int .i64 (M.c - 1), .int .i64 0, .int .i64 0, .int .i64 0, .int .i64 0, .string ⟨#[]⟩] 122)).drew = w5 at *
   generalize w4.heap.size = b5 at *
   obtain ⟨⟨d0, d1, d2, d3, d4⟩, -, hbd5⟩ := rc5 HD5.out
   have HRN : Hid (Rd w5 b5 ⟨a, .slice o a.length cap, Z.sg, hh, b5⟩ ⟨0, 0, ps0⟩) := rd_new (w3 := w3) HRO.out HEL.out HN4.out HX5.out (Nat.le_refl _) H5.out.zt.sg (Nat.lt_of_lt_of_le HT3.out.2.2.2 HN4.out) HT3.out.1 HT3.out.2.1 HT3.out.2.2.1 (HSZ.out _) (by rw [HC5.out, HM.out]) (Nat.le_of_lt H45.out)
   have HWH := qh (whole_any (inn := noInn) HRN.out (text_none HNQ.out noInn))
   have ecx : (⟨a, .slice o a.length cap, Z.sg, hh, b5⟩ : Cz).cx noInn = ⟨ts, hh, noInn⟩ := by unfold Cz.cx; rw [HAT.out]
   rw [ecx] at HWH
   clear ecx
   generalize wholeM ⟨ts, hh, noInn⟩ = RW at *
   clear HRN
   go_wp2_with fail
   refine HWH.out.mono ?_
   rintro e w6 ⟨b, rfl, hx, hr, hf, -⟩
   have H6 := qh (And.intro hx (Below.fm HB5.out HW4.out hf))
   have HR6 := qh (H5.out.below' H6.out.2 H.out)
   obtain ⟨⟨q0, q1, q2, q3, q4, q5, q6, q7, q8, q9, q10⟩, -, hR6⟩ := rc11 hr.blk
   clear q0 q1 q2 q3 q4 q5 hr hx hf HWH d0 d1 d2 d3 d4 hbd5
   have HLW : Hid (W.heap.size ≤ w5.heap.size ∧ R < w5.heap.size) := ⟨HB5.out.size, H5.out.lt⟩
   by_cases h0 : RW.2.e = 0
   · have en : ((RW.2.e : Int) != 0) = false := by simp [h0]
     have HPM2 : Hid (PM = (RW.1, s)) := by unfold Hid; rw [← HPM.out, HI.out]; simp only; rw [if_pos h0]
     clear h0
     go_wp2_with fail
     go_ret
     rw [HPM2.out]
     exact ⟨b, rfl, H6.out.1.re HLW.out.1 HLW.out.2, HR6.out, Fm.of H6.out.2, Nat.le_refl _⟩
   · have en : ((RW.2.e : Int) != 0) = true := by rw [bne_iff_ne]; omega
     have HPM2 : Hid (PM = (RW.1, Z.fail s RW.2.e RW.2.q)) := by unfold Hid; rw [← HPM.out, HI.out]; simp only; rw [if_neg h0]
     clear h0
     go_wp2_with fail
     refine (fail_any HR6.out RW.2.e RW.2.q).mono ?_
     rintro e w7 ⟨rfl, h7, f7⟩
     have H7 := qh (And.intro h7 f7)
     clear h7 f7
     go_wp2_with fail
     go_ret
     rw [HPM2.out]
     refine ⟨b, rfl, (H6.out.1.re HLW.out.1 HLW.out.2).fr H7.out.2, H7.out.1, (Fm.of H6.out.2).tr H7.out.2, ?_⟩
     show s.p ≤ (Z.fail s RW.2.e RW.2.q).p
     have := H.out.le
     unfold Cz.fail
     split <;> exact this
end Go.Proofs.YtncjncacfagldaaGreatDoor

/- awake. -/
import Derived.Test.YtncjncacfagldaaDoorZh
import Derived.Test.YtncjncacfagldaaDoorXD
namespace Go.Proofs.YtncjncacfagldaaDoor
open Go.RowKit Go.Lib

def exA : List UInt8 := [97, 32, 43, 32, 98, 32, 42, 32, 99]
def exB : List UInt8 := [97, 46, 98, 91, 48, 93]
def exC : List UInt8 := [34, 120, 36, 123, 97, 125, 34]
def hd1 (X : Ex) : Int := match X.l[1]? with | some y => y.op | none => 0
def hd0 (X : Ex) : Int := match X.l[0]? with | some y => y.op | none => 0
def sd1 (X : Ex) : ByteArray := match X.l[1]? with | some y => y.s | none => ⟨#[]⟩
set_option maxRecDepth 100000 in
theorem evA0 : (parseC exA).2.1 = 0 ∧ (parseC exA).1.op = 11 ∧ (parseC exA).1.l.length = 2 ∧ hd1 (parseC exA).1 = 8 := ⟨by kernel_rfl, by kernel_rfl, by kernel_rfl, by kernel_rfl⟩
theorem evA : (parseM exA).2.1 = 0 ∧ (parseM exA).1.op = 11 ∧ (parseM exA).1.l.length = 2 ∧ hd1 (parseM exA).1 = 8 := by rw [parse_c]; exact evA0
set_option maxRecDepth 100000 in
theorem evB0 : (parseC exB).2.1 = 0 ∧ (parseC exB).1.op = 4 ∧ (parseC exB).1.l.length = 2 ∧ hd0 (parseC exB).1 = 3 := ⟨by kernel_rfl, by kernel_rfl, by kernel_rfl, by kernel_rfl⟩
theorem evB : (parseM exB).2.1 = 0 ∧ (parseM exB).1.op = 4 ∧ (parseM exB).1.l.length = 2 ∧ hd0 (parseM exB).1 = 3 := by rw [parse_c]; exact evB0
set_option maxRecDepth 100000 in
theorem evC0 : (parseC exC).2.1 = 0 ∧ (parseC exC).1.op = 26 ∧ (parseC exC).1.l.length = 2 ∧ sd1 (parseC exC).1 = tx [97] := ⟨by kernel_rfl, by kernel_rfl, by kernel_rfl, by kernel_rfl⟩
theorem evC : (parseM exC).2.1 = 0 ∧ (parseM exC).1.op = 26 ∧ (parseM exC).1.l.length = 2 ∧ sd1 (parseM exC).1 = tx [97] := by rw [parse_c]; exact evC0
theorem ev_at1 {X : Ex} (h : X.l.length = 2) : ∃ y, X.l[1]? = some y ∧ hd1 X = y.op ∧ sd1 X = y.s := by
  have := List.getElem?_eq_getElem (l := X.l) (i := 1) (by omega)
  exact ⟨_, this, by unfold hd1; rw [this], by unfold sd1; rw [this]⟩
theorem ev_at0 {X : Ex} (h : X.l.length = 2) : ∃ y, X.l[0]? = some y ∧ hd0 X = y.op := by
  have := List.getElem?_eq_getElem (l := X.l) (i := 0) (by omega)
  exact ⟨_, this, by unfold hd0; rw [this]⟩
/-- what a call of Parse leaves, kept in two boxes -/
structure PB (w0 w : World) (n : Nat) (b : Nat) (M : Ex × Nat × Ps) (o : Option Addr) (cap : Nat) : Prop where
  x : ∃ oV cV oK cK, w.heap[b]? = some (.cells (xc M.1 oV cV oK cK o cap) 33 (0, 0)) ∧ XL n w M.1 (.agg (xc M.1 oV cV oK cK o cap))
  d : ∃ q : Ps, w.heap[b + 1]? = some (.cells #[.int .i64 M.2.1, .int .i64 q.a, .int .i64 q.l, .int .i64 q.c, .string ⟨#[]⟩] 36 (0, 0))
  n : n ≤ w.heap.size
  b : Below w0.heap.size w0 w
theorem PB.kept {w0 w w' : World} {n b : Nat} {M : Ex × Nat × Ps} {o : Option Addr} {cap : Nat} (h : PB w0 w n b M o cap) (k : Below w.heap.size w w') : PB w0 w' n b M o cap := by
  obtain ⟨⟨oV, cV, oK, cK, h1, h2⟩, ⟨q, h3⟩, h4, h5⟩ := h
  exact ⟨⟨oV, cV, oK, cK, (k.block _ (Array.getElem?_eq_some_iff.1 h1).1).trans h1, h2.bl (fun i hi => hi) (k.mono h4)⟩, ⟨q, (k.block _ (Array.getElem?_eq_some_iff.1 h3).1).trans h3⟩, Nat.le_trans h4 k.size, h5.trans (k.mono h5.size)⟩
theorem PB.mk' {w0 w w1 : World} {M : Ex × Nat × Ps} {oV : Option Addr} {cV : Nat} {oK : Option Addr} {cK : Nat} {o : Option Addr} {cap : Nat} (h0 : Below w0.heap.size w0 w) (hx : XP (Nw w w1) w1 M.1 (.agg (xc M.1 oV cV oK cK o cap))) (hb : Below w.heap.size w w1) :
    PB w0 ((w1.alloc (.cells (xc M.1 oV cV oK cK o cap) 33)).alloc (.cells #[.int .i64 M.2.1, .int .i64 M.2.2.a, .int .i64 M.2.2.l, .int .i64 M.2.2.c, .string ⟨#[]⟩] 36)) w1.heap.size w1.heap.size M o cap := by
  have B : Below w1.heap.size w1 ((w1.alloc (.cells (xc M.1 oV cV oK cK o cap) 33)).alloc (.cells #[.int .i64 M.2.1, .int .i64 M.2.2.a, .int .i64 M.2.2.l, .int .i64 M.2.2.c, .string ⟨#[]⟩] 36)) := ((Below.refl _ _).alloc (Nat.le_refl _) _).alloc (by simp) _
  refine ⟨⟨oV, cV, oK, cK, (heap_alloc_old _ _ (by simp)).trans (heap_alloc_new w1 _), (hx.mono fun k hk => hk.2).bl (fun k hk => hk) B⟩, ⟨M.2.2, ?_⟩, by simp; omega, (h0.trans (hb.mono h0.size)).trans (B.mono (Nat.le_trans h0.size hb.size))⟩
  have := heap_alloc_new (w1.alloc (.cells (xc M.1 oV cV oK cK o cap) 33)) (.cells #[.int .i64 M.2.1, .int .i64 M.2.2.a, .int .i64 M.2.2.l, .int .i64 M.2.2.c, .string ⟨#[]⟩] 36)
  rw [World.size_alloc] at this
  exact this
set_option maxRecDepth 100000 in
set_option maxHeartbeats 4000000 in
theorem awake_any {w : World} (hT : Tab w) (hV : Lev w) (h2 : 2 ≤ w.heap.size) : Calls Tryd.prog 8 #[] w fun e w' => e = .returned (.bool true) ∧ Below w.heap.size w w' := by
  have HT := Lib.hid (And.intro hT (And.intro hV h2))
  clear hT hV h2
  have HA := Lib.hid evA
  have HBB := Lib.hid evB
  have HCC := Lib.hid evC
  have PA : Hid (∀ W, Tab W → Lev W → 2 ≤ W.heap.size → Calls Tryd.prog 9 #[.string ⟨#[97, 32, 43, 32, 98, 32, 42, 32, 99]⟩] W (PPost W (parseM exA))) := fun W a b c => parse_any (s := ⟨#[97, 32, 43, 32, 98, 32, 42, 32, 99]⟩) a b c (by decide)
  have PBx : Hid (∀ W, Tab W → Lev W → 2 ≤ W.heap.size → Calls Tryd.prog 9 #[.string ⟨#[97, 46, 98, 91, 48, 93]⟩] W (PPost W (parseM exB))) := fun W a b c => parse_any (s := ⟨#[97, 46, 98, 91, 48, 93]⟩) a b c (by decide)
  have PC : Hid (∀ W, Tab W → Lev W → 2 ≤ W.heap.size → Calls Tryd.prog 9 #[.string ⟨#[34, 120, 36, 123, 97, 125, 34]⟩] W (PPost W (parseM exC))) := fun W a b c => parse_any (s := ⟨#[34, 120, 36, 123, 97, 125, 34]⟩) a b c (by decide)
  generalize parseM exA = MA at *
  generalize parseM exB = MB at *
  generalize parseM exC = MC at *
  go_enter Tryd.func8, Tryd.ntmps8
  go_wp2_with fail
  refine (PA.out _ HT.out.1 HT.out.2.1 HT.out.2.2).mono ?_
  rintro e u0 ⟨oV, cV, oK, cK, o0, cap0, rfl, hx, hb⟩
  have G0 := Lib.hid (PB.mk' (w0 := w) (M := MA) (Below.refl _ _) hx hb)
  go_upto_region 2 with fail
  clear hx hb
  generalize (u0.alloc (Obj.cells (xc MA.1 oV cV oK cK o0 cap0) 33)).alloc (Obj.cells #[Value.int IntKind.i64 MA.2.1, Value.int IntKind.i64 MA.2.2.a, Value.int IntKind.i64 MA.2.2.l, Value.int IntKind.i64 MA.2.2.c, Value.string ⟨#[]⟩] 36) = v0 at *
  generalize u0.heap.size = b0 at *
  go_wp2_with fail
  refine (PBx.out _ (HT.out.1.at (G0.out.b.block 0 (by have := HT.out.2.2; omega))) (HT.out.2.1.at (G0.out.b.block 1 (by have := HT.out.2.2; omega))) (Nat.le_trans HT.out.2.2 G0.out.b.size)).mono ?_
  rintro e u1 ⟨oV, cV, oK, cK, o1, cap1, rfl, hx, hb⟩
  have G1 := Lib.hid (PB.mk' (w0 := w) (M := MB) G0.out.b hx hb)
  have K0_1 := Lib.hid (G0.out.kept (hb.trans ((((Below.refl u1.heap.size u1).alloc (Nat.le_refl _) (.cells (xc MB.1 oV cV oK cK o1 cap1) 33)).alloc (by simp) (.cells #[.int .i64 MB.2.1, .int .i64 MB.2.2.a, .int .i64 MB.2.2.l, .int .i64 MB.2.2.c, .string ⟨#[]⟩] 36)).mono hb.size)))
  go_upto_region 3 with fail
  clear hx hb
  generalize (u1.alloc (Obj.cells (xc MB.1 oV cV oK cK o1 cap1) 33)).alloc (Obj.cells #[Value.int IntKind.i64 MB.2.1, Value.int IntKind.i64 MB.2.2.a, Value.int IntKind.i64 MB.2.2.l, Value.int IntKind.i64 MB.2.2.c, Value.string ⟨#[]⟩] 36) = v1 at *
  generalize u1.heap.size = b1 at *
  go_wp2_with fail
  refine (PC.out _ (HT.out.1.at (G1.out.b.block 0 (by have := HT.out.2.2; omega))) (HT.out.2.1.at (G1.out.b.block 1 (by have := HT.out.2.2; omega))) (Nat.le_trans HT.out.2.2 G1.out.b.size)).mono ?_
  rintro e u2 ⟨oV, cV, oK, cK, o2, cap2, rfl, hx, hb⟩
  have U0 := Lib.hid (K0_1.out.kept hb)
  have U1 := Lib.hid (G1.out.kept hb)
  have HBW := Lib.hid (G1.out.b.trans (hb.mono G1.out.b.size))
  have XC := Lib.hid (XP.mono (P' := fun k => k < u2.heap.size) hx (fun k hk => hk.2))
  clear hx hb G0 G1 K0_1
  obtain ⟨⟨oVa, cVa, oKa, cKa, ra, xa⟩, ⟨qa, da⟩, na, -⟩ := U0.out
  obtain ⟨⟨oVb, cVb, oKb, cKb, rb, xb⟩, ⟨qb, db⟩, nb, -⟩ := U1.out
  obtain ⟨a0, a1, a2, a3⟩ := HA.out
  obtain ⟨f0, f1, f2, f3⟩ := HBB.out
  obtain ⟨g0, g1, g2, g3⟩ := HCC.out
  obtain ⟨ya, hya, hya1, -⟩ := ev_at1 a2
  obtain ⟨yb, hyb, hyb1⟩ := ev_at0 f2
  obtain ⟨yc, hyc, -, hyc1⟩ := ev_at1 g2
  obtain ⟨-, -, -, ata⟩ := xp_at2 xa
  obtain ⟨-, -, -, atb⟩ := xp_at2 xb
  obtain ⟨lc1, lc2, -, atc⟩ := xp_at2 XC.out
  obtain ⟨ba, fa, -, -, -, -, -, -, ea, hba, -, A0, -⟩ := ata 1 ya hya
  obtain ⟨bb, fb, -, -, -, -, -, -, eb, hbb, -, B0, -⟩ := atb 0 yb hyb
  obtain ⟨bc, fc, -, -, -, -, -, -, ec, hbc, -, C0, C1, -⟩ := atc 1 yc hyc
  rw [← hya1, a3] at A0
  rw [← hyb1, f3] at B0
  rw [← hyc1, g3] at C1
  obtain ⟨⟨p0, p1, p2, p3, p4, p5, p6, p7, p8, p9, p10, p11, p12, p13, p14⟩, -, hra⟩ := rc15 ra
  obtain ⟨⟨q0, q1, q2, q3, q4, q5, q6, q7, q8, q9, q10, q11, q12, q13, q14⟩, -, hrb⟩ := rc15 rb
  obtain ⟨⟨s0, s1, s2, s3, s4⟩, -, hda⟩ := rc5 da
  obtain ⟨⟨t0, t1, t2, t3, t4⟩, -, hdb⟩ := rc5 db
  rw [a1] at p0
  rw [a2] at p11
  rw [f1] at q0
  rw [f2] at q11
  rw [a0] at s0
  rw [f0] at t0
  subst ea eb ec
  clear ata atb atc xa xb hya hyb hyc hya1 hyb1 hyc1 a0 a1 a2 a3 f0 f1 f2 f3 p1 p2 p3 p4 p5 p6 p7 p8 p9 p10 p12 p13 p14 q1 q2 q3 q4 q5 q6 q7 q8 q9 q10 q12 q13 q14 s1 s2 s3 s4 t1 t2 t3 t4 ra rb da db C0 g3
  have hba2 : ba < u2.heap.size := by omega
  have hbb2 : bb < u2.heap.size := by omega
  clear HA HBB HCC PA PBx PC
  have es : ((tx [97]).toList == [97]) = true := by rw [toList_tx]; rfl
  simp only [Nat.one_mul, Nat.zero_mul, Nat.add_zero] at A0 B0 C1
  skip
  go_wp2_with fail
  go_ret
  exact ⟨rfl, (HBW.out.alloc HBW.out.size _).alloc (by have := HBW.out.size; simp; omega) _⟩
end Go.Proofs.YtncjncacfagldaaDoor

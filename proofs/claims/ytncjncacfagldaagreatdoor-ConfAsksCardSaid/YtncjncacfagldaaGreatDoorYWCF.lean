import Derived.Test.YtncjncacfagldaaGreatDoorYWCC
namespace Go.Proofs.YtncjncacfagldaaGreatDoor
open Go.RowKit Go.Lib
attribute [local go_sem] field66_0 field66_1 field66_2 field66_3 field66_4

set_option maxRecDepth 100000 in
set_option maxHeartbeats 1000000 in
theorem newReader_at (o : Option Addr) (n cap : Nat) (p : Nat) (w : World) : Calls Tryz.prog 37 #[.slice o n cap, .int .i64 p] w fun e w' => ∃ b g, e = .returned (.pointer (some ⟨b, 0, none⟩)) ∧ w.heap.size ≤ g ∧ g < b ∧ w'.heap[g]? = some (.map sgEs 17) ∧ w'.heap[b]? = some (.cells #[.slice o n cap, .int .i64 p, .map (some g), .int .i64 0, .int .i64 0, .int .i64 0, .int .i64 0, .int .i64 0, .int .i64 0, .int .i64 0, .string ⟨#[]⟩] 122 (0, 0)) ∧ w'.heap.size = b + 1 ∧ Below w.heap.size w w' := by
 go_enter Tryz.func37, Tryz.ntmps37
 go_wp2_with fail
 refine (signs_any _).mono ?_
 rintro e w1 ⟨rfl, h1, b1⟩
 have H1 := qh (And.intro h1 b1)
 have l1 := (Array.getElem?_eq_some_iff.1 h1).1
 clear h1 b1
 go_wp2_with fail
 go_ret
 exact ⟨_, w.heap.size, rfl, Nat.le_refl _, l1, (heap_alloc_old w1 _ l1).trans H1.out.1, heap_alloc_new w1 _, by simp, H1.out.2.alloc H1.out.2.size _⟩
theorem Kd.zt {w w1 : World} {R : Nat} {K : Kz} {p : Nat} (h : Kd w R K p) (b : Below w.heap.size w w1) {R' g : Nat} (hR : w.heap.size ≤ g) (hg : g < R') (hs : w1.heap[g]? = some (.map sgEs 17)) : Zt w1 R' ⟨K.acc, K.vl, g, ps0, R'⟩ := by
 have h1 := h.nn
 have h2 := h.kt.r2
 have h3 := h.lt
 have key : ∀ k, Ok K.n0 R k → Ok R' R' k ∧ w1.heap[k]? = w.heap[k]? := fun k hk => ⟨⟨by have := hk.1; omega, by have := hk.1; omega⟩, b.block k (by have := hk.1; omega)⟩
 refine ⟨?_, fun x hx => (h.kt.pt x hx).keptP key, hs, by show g ≠ R'; omega, hg, h.kt.tb.at (b.block 2 (by omega)), h.kt.lv.at (b.block 3 (by omega)), by omega, by show 4 ≤ R'; omega⟩
 obtain ⟨o, cap, e, r⟩ := h.kt.tk
 exact ⟨o, cap, e, r.keptP key⟩
theorem Kd.rsz {w : World} {R : Nat} {K : Kz} {p : Nat} (h : Kd w R K p) (g n : Nat) : Sz ⟨K.acc, K.vl, g, ps0, n⟩ := ⟨h.sz.n, h.sz.tk, h.sz.a, h.sz.l, h.sz.c, h.sz.nw, h.sz.pt⟩
theorem Kd.rd {w w1 : World} {R : Nat} {K : Kz} {p : Nat} (h : Kd w R K p) (b : Below w.heap.size w w1) {R' g : Nat} (hR : w.heap.size ≤ g) (hg : g < R') (hs : w1.heap[g]? = some (.map sgEs 17)) (hb : w1.heap[R']? = some (.cells #[K.vl, .int .i64 p, .map (some g), .int .i64 0, .int .i64 0, .int .i64 0, .int .i64 0, .int .i64 0, .int .i64 0, .int .i64 0, .string ⟨#[]⟩] 122 (0, 0))) : Rd w1 R' ⟨K.acc, K.vl, g, ps0, R'⟩ ⟨p, 0, ps0⟩ :=
 ⟨hb, h.zt b hR hg hs, h.rsz _ _, h.le, Nat.le_of_lt (Array.getElem?_eq_some_iff.1 hb).1⟩
theorem Kz.cx_eq (K : Kz) (g n : Nat) : (⟨K.acc, K.vl, g, ps0, n⟩ : Cz).cx innM = K.cx := rfl
theorem readE_d (C : Cx) (hi : C.inn = innM) (hl : C.L.length ≤ 40000) (s : St) : xdp ((fs C (3 * C.L.length + 3)).ex s).1 ≤ 9000000000000000000 := by
 have g := (fs_d (C := C) (d := 6000000000) (by rw [hi]; exact innM_d) (by decide) (3 * C.L.length + 3)).ex s
 have : (3 * C.L.length + 3) * (C.L.length + 3) ≤ (3 * 40000 + 3) * (40000 + 3) := Nat.mul_le_mul (by omega) (by omega)
 omega
def RdPost (w : World) (m : Ex × Nat × Nat × Ps) (e : Ending) (w' : World) : Prop := ∃ oV cV oK cK o cap, e = .returned (.tuple #[.agg (xc m.1 oV cV oK cK o cap), .int .i64 m.2.1, dgv m.2.2.1 m.2.2.2]) ∧ XP (Nw w w') w' m.1 (.agg (xc m.1 oV cV oK cK o cap)) ∧ Below w.heap.size w w'
set_option maxRecDepth 100000 in
set_option maxHeartbeats 4000000 in
theorem read_any {w : World} {R : Nat} {K : Kz} {p : Nat} (h : Kd w R K p) : Calls Tryz.prog 157 #[K.vl, .int .i64 p] w (RdPost w (readM K.cx p)) := by
 have B0 : Below w.heap.size w ((w.alloc (.cells #[.int .i64 0, .string ⟨#[]⟩, .string ⟨#[]⟩, .int .i64 0, .int .i64 0, .string ⟨#[]⟩, .slice none 0 0, .slice none 0 0, .int .i64 0, .int .i64 0, .bool false, .slice none 0 0, .int .i64 0, .int .i64 0, .int .i64 0] 38)).alloc (.cells #[.int .i64 0, .int .i64 0, .int .i64 0, .int .i64 0, .string ⟨#[]⟩] 53)) := ((Below.refl _ _).alloc (Nat.le_refl _) _).alloc (by simp) _
 have HB0 := qh B0
 have HK0 := qh (h.below B0)
 have k2 : Hid (((w.alloc (.cells #[.int .i64 0, .string ⟨#[]⟩, .string ⟨#[]⟩, .int .i64 0, .int .i64 0, .string ⟨#[]⟩, .slice none 0 0, .slice none 0 0, .int .i64 0, .int .i64 0, .bool false, .slice none 0 0, .int .i64 0, .int .i64 0, .int .i64 0] 38)).alloc (.cells #[.int .i64 0, .int .i64 0, .int .i64 0, .int .i64 0, .string ⟨#[]⟩] 53)).heap[w.heap.size]? = some (.cells #[.int .i64 0, .string ⟨#[]⟩, .string ⟨#[]⟩, .int .i64 0, .int .i64 0, .string ⟨#[]⟩, .slice none 0 0, .slice none 0 0, .int .i64 0, .int .i64 0, .bool false, .slice none 0 0, .int .i64 0, .int .i64 0, .int .i64 0] 38 (0, 0))) := (heap_alloc_old _ _ (by simp)).trans (heap_alloc_new w _)
 have k3 : Hid (((w.alloc (.cells #[.int .i64 0, .string ⟨#[]⟩, .string ⟨#[]⟩, .int .i64 0, .int .i64 0, .string ⟨#[]⟩, .slice none 0 0, .slice none 0 0, .int .i64 0, .int .i64 0, .bool false, .slice none 0 0, .int .i64 0, .int .i64 0, .int .i64 0] 38)).alloc (.cells #[.int .i64 0, .int .i64 0, .int .i64 0, .int .i64 0, .string ⟨#[]⟩] 53)).heap[w.heap.size + 1]? = some (.cells #[.int .i64 0, .int .i64 0, .int .i64 0, .int .i64 0, .string ⟨#[]⟩] 53 (0, 0))) := by rw [show w.heap.size + 1 = (w.alloc (.cells #[.int .i64 0, .string ⟨#[]⟩, .string ⟨#[]⟩, .int .i64 0, .int .i64 0, .string ⟨#[]⟩, .slice none 0 0, .slice none 0 0, .int .i64 0, .int .i64 0, .bool false, .slice none 0 0, .int .i64 0, .int .i64 0, .int .i64 0] 38)).heap.size by simp]; exact heap_alloc_new _ _
 have HS0 : Hid (((w.alloc (.cells #[.int .i64 0, .string ⟨#[]⟩, .string ⟨#[]⟩, .int .i64 0, .int .i64 0, .string ⟨#[]⟩, .slice none 0 0, .slice none 0 0, .int .i64 0, .int .i64 0, .bool false, .slice none 0 0, .int .i64 0, .int .i64 0, .int .i64 0] 38)).alloc (.cells #[.int .i64 0, .int .i64 0, .int .i64 0, .int .i64 0, .string ⟨#[]⟩] 53)).heap.size = w.heap.size + 2) := by unfold Hid; simp
 have HKD := qh h
 have HIQ := qh h.iq
 have hsz := h.sz.n
 have HSZ : Hid (K.acc.length ≤ 40000) := hsz
 obtain ⟨o0, cap0, hvl, -⟩ := h.kt.tk
 have HVL := qh hvl
 obtain ⟨E, hE⟩ : ∃ E, (fs K.cx (3 * K.cx.L.length + 3)).ex ⟨p, 0, ps0⟩ = E := ⟨_, rfl⟩
 have HE := qh hE
 have HM : Hid (readM K.cx p = if (judgeC E.1 E.2 (K.cx.pl ⟨p, 0, ps0⟩)).1 = 0 then (E.1, E.2.p, 0, ps0) else (zeroX, 0, judgeC E.1 E.2 (K.cx.pl ⟨p, 0, ps0⟩))) := by rw [← hE]; rfl
 have HDP : Hid (xdp E.1 ≤ 9000000000000000000) := by rw [← hE]; exact readE_d K.cx rfl (by rw [K.len_eq]; exact hsz) _
 clear hE h B0 hsz
 rw [hvl]
 clear hvl
 generalize readM K.cx p = M at *
 go_enter Tryz.func157, Tryz.ntmps157
 go_upto_region 1 with fail
 generalize ((w.alloc (Obj.cells #[.int .i64 0, .string ⟨#[]⟩, .string ⟨#[]⟩, .int .i64 0, .int .i64 0, .string ⟨#[]⟩, .slice none 0 0, .slice none 0 0, .int .i64 0, .int .i64 0, .bool false, .slice none 0 0, .int .i64 0, .int .i64 0, .int .i64 0] 38)).alloc (Obj.cells #[.int .i64 0, .int .i64 0, .int .i64 0, .int .i64 0, .string ⟨#[]⟩] 53)) = w0 at *
 go_wp2_with fail
 refine (newReader_at o0 K.acc.length cap0 p w0).mono ?_
 rintro e w1 ⟨R', g, rfl, hg1, hg2, hg3, hblk, hsz, b1⟩
 rw [← HVL.out] at hblk
 have HR1 := qh (HK0.out.rd b1 hg1 hg2 hg3 hblk)
 have HB1 := qh (HB0.out.trans (b1.mono HB0.out.size))
 have f2 := qh ((b1.block _ (Array.getElem?_eq_some_iff.1 k2.out).1).trans k2.out)
 have f3 := qh ((b1.block _ (Array.getElem?_eq_some_iff.1 k3.out).1).trans k3.out)
 have HGG : Hid (w.heap.size < g ∧ g < R') := by have := HS0.out; exact ⟨by omega, hg2⟩
 have HRN : Hid (w.heap.size + 1 < R' ∧ R' < w1.heap.size) := by have := HS0.out; exact ⟨by omega, by omega⟩
 clear hg1 hg2 hg3 hblk hsz b1 k2 k3 HK0 HB0
 have HGD := qh (all_gd (inn := innM) (text_any (inner_any (R := R') (Z := ⟨K.acc, K.vl, g, ps0, R'⟩) HIQ.out)) (3 * K.acc.length + 3)).ex
 rw [Kz.cx_eq] at HGD
 rw [K.len_eq] at HE
 have HPL : Hid ((⟨K.acc, K.vl, g, ps0, R'⟩ : Cz).pl ⟨p, 0, ps0⟩ = K.cx.pl ⟨p, 0, ps0⟩) := by rw [← Kz.cx_eq K g R']; exact (pl_eq _ _ _).symm
 generalize K.cx.pl ⟨p, 0, ps0⟩ = q at *
 go_wp2_with fail
 refine (place_any HR1.out).mono ?_
 rintro e w2 ⟨rfl, b2⟩
 rw [HPL.out]
 have HR2 := qh (HR1.out.below b2)
 have HB2 := qh (HB1.out.trans (b2.mono HB1.out.size))
 replace f2 := qh ((b2.block _ (Array.getElem?_eq_some_iff.1 f2.out).1).trans f2.out)
 replace f3 := qh ((b2.block _ (Array.getElem?_eq_some_iff.1 f3.out).1).trans f3.out)
 have HRN2 : Hid (w.heap.size + 1 < R' ∧ R' < w2.heap.size) := ⟨HRN.out.1, Nat.lt_of_lt_of_le HRN.out.2 b2.size⟩
 have B3 : Below w2.heap.size w2 (w2.alloc (.cells #[.int .i64 q.a, .int .i64 q.l, .int .i64 q.c] 36)) := (Below.refl _ _).alloc (Nat.le_refl _) _
 have HR3 := qh (HR2.out.below B3)
 have HB3 := qh (HB2.out.trans (B3.mono HB2.out.size))
 have k31 := qh (heap_alloc_new w2 (.cells #[.int .i64 q.a, .int .i64 q.l, .int .i64 q.c] 36))
 replace f2 := qh ((B3.block _ (Array.getElem?_eq_some_iff.1 f2.out).1).trans f2.out)
 replace f3 := qh ((B3.block _ (Array.getElem?_eq_some_iff.1 f3.out).1).trans f3.out)
 have HS3 : Hid (w2.heap.size < (w2.alloc (.cells #[.int .i64 q.a, .int .i64 q.l, .int .i64 q.c] 36)).heap.size) := by unfold Hid; simp
 clear b2 B3 HR1 HR2 HB1 HB2 HRN
 go_upto_region 3 with fail
 generalize w2.alloc (Obj.cells #[.int .i64 q.a, .int .i64 q.l, .int .i64 q.c] 36) = w3 at *
 obtain ⟨b8, hb8⟩ : ∃ b, w2.heap.size = b := ⟨_, rfl⟩
 have HB8 : Hid (w.heap.size < b8) := by rw [← hb8]; have := HRN2.out; unfold Hid; omega
 rw [hb8] at k31 HRN2 HS3 ⊢
 clear hb8
 go_wp2_with fail
 refine (HGD.out w3 ⟨p, 0, ps0⟩ HR3.out (by show 3 * (K.acc.length - p) + 2 < _; omega)).mono ?_
 rintro e w4 ⟨b, rfl, hx, hr, hf, hp⟩
 rw [HE.out] at hx hr hp
 obtain ⟨oV, cV, oK, cK, o, cap, hb, hX, hbR, hnb⟩ := hx
 have HX4 := qh (And.intro hX (And.intro hr (Below.fm HB3.out (by have := HRN2.out; omega) hf)))
 replace f2 := qh ((hf.block _ (Array.getElem?_eq_some_iff.1 f2.out).1 (fun e => by have := Option.some.inj e; have := HRN2.out; omega)).trans f2.out)
 replace f3 := qh ((hf.block _ (Array.getElem?_eq_some_iff.1 f3.out).1 (fun e => by have := Option.some.inj e; have := HRN2.out; omega)).trans f3.out)
 replace k31 := qh ((hf.block _ (Array.getElem?_eq_some_iff.1 k31.out).1 (fun e => by have := Option.some.inj e; have := HRN2.out; omega)).trans k31.out)
 have HS4 : Hid (w3.heap.size ≤ w4.heap.size) := hf.size
 have HN3 : Hid (w.heap.size + 1 < w3.heap.size) := by have := HRN2.out; have := HS3.out; unfold Hid; omega
 obtain ⟨⟨c0, c1, c2, c3, c4, c5, c6, c7, c8, c9, c10, c11, c12, c13, c14⟩, -, hbl⟩ := rc15 hb
 obtain ⟨⟨x0, x1, x2, x3, x4, x5, x6, x7, x8, x9, x10, x11, x12, x13, x14⟩, gx, hb2⟩ := rc15 f2.out
 have gx0 := gx 0
 have gx1 := gx 1
 have gx2 := gx 2
 have gx3 := gx 3
 have gx4 := gx 4
 have gx5 := gx 5
 have gx6 := gx 6
 have gx7 := gx 7
 have gx8 := gx 8
 have gx9 := gx 9
 have gx10 := gx 10
 have gx11 := gx 11
 have gx12 := gx 12
 have gx13 := gx 13
 have gx14 := gx 14
 clear gx
 have hbn : w.heap.size ≠ b := by have := HN3.out; omega
 clear hX hr hf hb hbR hnb HGD HR3 HB3 HE hp
 go_upto_region 4 with fail
 clear c0 c1 c2 c3 c4 c5 c6 c7 c8 c9 c10 c11 c12 c13 c14 hbl x0 x1 x2 x3 x4 x5 x6 x7 x8 x9 x10 x11 x12 x13 x14 gx0 gx1 gx2 gx3 gx4 gx5 gx6 gx7 gx8 gx9 gx10 gx11 gx12 gx13 gx14 hb2 hbn
 have r33 := qh (set15 f2.out (.int .i64 E.1.op) (.string E.1.s) (.string E.1.s2) (.int .i64 E.1.v.k) (.int .i64 E.1.v.i) (.string E.1.v.s) (.slice oV E.1.v.l.length cV) (.slice oK E.1.v.ks.length cK) (.int .i64 E.1.v.tk) (.int .i64 E.1.v.to) (.bool E.1.v.x) (.slice o E.1.l.length cap) (.int .i64 E.1.a) (.int .i64 E.1.ln) (.int .i64 E.1.c))
 have r36 := qh ((set15_o (show w.heap.size + 1 ≠ w.heap.size by omega) (.int .i64 E.1.op) (.string E.1.s) (.string E.1.s2) (.int .i64 E.1.v.k) (.int .i64 E.1.v.i) (.string E.1.v.s) (.slice oV E.1.v.l.length cV) (.slice oK E.1.v.ks.length cK) (.int .i64 E.1.v.tk) (.int .i64 E.1.v.to) (.bool E.1.v.x) (.slice o E.1.l.length cap) (.int .i64 E.1.a) (.int .i64 E.1.ln) (.int .i64 E.1.c)).trans f3.out)
 have r31 := qh ((set15_o (show b8 ≠ w.heap.size from Nat.ne_of_gt HB8.out) (.int .i64 E.1.op) (.string E.1.s) (.string E.1.s2) (.int .i64 E.1.v.k) (.int .i64 E.1.v.i) (.string E.1.v.s) (.slice oV E.1.v.l.length cV) (.slice oK E.1.v.ks.length cK) (.int .i64 E.1.v.tk) (.int .i64 E.1.v.to) (.bool E.1.v.x) (.slice o E.1.l.length cap) (.int .i64 E.1.a) (.int .i64 E.1.ln) (.int .i64 E.1.c)).trans k31.out)
 have HB5 := qh (set15_b HX4.out.2.2 (Nat.le_refl _) (.int .i64 E.1.op) (.string E.1.s) (.string E.1.s2) (.int .i64 E.1.v.k) (.int .i64 E.1.v.i) (.string E.1.v.s) (.slice oV E.1.v.l.length cV) (.slice oK E.1.v.ks.length cK) (.int .i64 E.1.v.tk) (.int .i64 E.1.v.to) (.bool E.1.v.x) (.slice o E.1.l.length cap) (.int .i64 E.1.a) (.int .i64 E.1.ln) (.int .i64 E.1.c))
 have hS5 := (set15_b (b := w.heap.size) (Below.refl 0 w4) (Nat.zero_le _) (.int .i64 E.1.op) (.string E.1.s) (.string E.1.s2) (.int .i64 E.1.v.k) (.int .i64 E.1.v.i) (.string E.1.v.s) (.slice oV E.1.v.l.length cV) (.slice oK E.1.v.ks.length cK) (.int .i64 E.1.v.tk) (.int .i64 E.1.v.to) (.bool E.1.v.x) (.slice o E.1.l.length cap) (.int .i64 E.1.a) (.int .i64 E.1.ln) (.int .i64 E.1.c)).size
 have HX5 : Hid (XP (Nu w3.heap.size w4 R') (((((((((((((((w4.setCell ⟨w.heap.size, 0, none⟩ (.int .i64 E.1.op)).setCell ⟨w.heap.size, 1, none⟩ (.string E.1.s)).setCell ⟨w.heap.size, 2, none⟩ (.string E.1.s2)).setCell ⟨w.heap.size, 3, none⟩ (.int .i64 E.1.v.k)).setCell ⟨w.heap.size, 4, none⟩ (.int .i64 E.1.v.i)).setCell ⟨w.heap.size, 5, none⟩ (.string E.1.v.s)).setCell ⟨w.heap.size, 6, none⟩ (.slice oV E.1.v.l.length cV)).setCell ⟨w.heap.size, 7, none⟩ (.slice oK E.1.v.ks.length cK)).setCell ⟨w.heap.size, 8, none⟩ (.int .i64 E.1.v.tk)).setCell ⟨w.heap.size, 9, none⟩ (.int .i64 E.1.v.to)).setCell ⟨w.heap.size, 10, none⟩ (.bool E.1.v.x)).setCell ⟨w.heap.size, 11, none⟩ (.slice o E.1.l.length cap)).setCell ⟨w.heap.size, 12, none⟩ (.int .i64 E.1.a)).setCell ⟨w.heap.size, 13, none⟩ (.int .i64 E.1.ln)).setCell ⟨w.heap.size, 14, none⟩ (.int .i64 E.1.c)) E.1 (.agg (xc E.1 oV cV oK cK o cap))) := HX4.out.1.keptP fun k hk => ⟨hk, set15_o (show k ≠ w.heap.size by have := hk.1; have := HN3.out; omega) (.int .i64 E.1.op) (.string E.1.s) (.string E.1.s2) (.int .i64 E.1.v.k) (.int .i64 E.1.v.i) (.string E.1.v.s) (.slice oV E.1.v.l.length cV) (.slice oK E.1.v.ks.length cK) (.int .i64 E.1.v.tk) (.int .i64 E.1.v.to) (.bool E.1.v.x) (.slice o E.1.l.length cap) (.int .i64 E.1.a) (.int .i64 E.1.ln) (.int .i64 E.1.c)⟩
 have HR5 : Hid (Rd (((((((((((((((w4.setCell ⟨w.heap.size, 0, none⟩ (.int .i64 E.1.op)).setCell ⟨w.heap.size, 1, none⟩ (.string E.1.s)).setCell ⟨w.heap.size, 2, none⟩ (.string E.1.s2)).setCell ⟨w.heap.size, 3, none⟩ (.int .i64 E.1.v.k)).setCell ⟨w.heap.size, 4, none⟩ (.int .i64 E.1.v.i)).setCell ⟨w.heap.size, 5, none⟩ (.string E.1.v.s)).setCell ⟨w.heap.size, 6, none⟩ (.slice oV E.1.v.l.length cV)).setCell ⟨w.heap.size, 7, none⟩ (.slice oK E.1.v.ks.length cK)).setCell ⟨w.heap.size, 8, none⟩ (.int .i64 E.1.v.tk)).setCell ⟨w.heap.size, 9, none⟩ (.int .i64 E.1.v.to)).setCell ⟨w.heap.size, 10, none⟩ (.bool E.1.v.x)).setCell ⟨w.heap.size, 11, none⟩ (.slice o E.1.l.length cap)).setCell ⟨w.heap.size, 12, none⟩ (.int .i64 E.1.a)).setCell ⟨w.heap.size, 13, none⟩ (.int .i64 E.1.ln)).setCell ⟨w.heap.size, 14, none⟩ (.int .i64 E.1.c)) R' ⟨K.acc, K.vl, g, ps0, R'⟩ E.2) := by
  have hr := HX4.out.2.1
  have hne : R' ≠ w.heap.size := by have := HRN2.out; omega
  exact ⟨(set15_o hne (.int .i64 E.1.op) (.string E.1.s) (.string E.1.s2) (.int .i64 E.1.v.k) (.int .i64 E.1.v.i) (.string E.1.v.s) (.slice oV E.1.v.l.length cV) (.slice oK E.1.v.ks.length cK) (.int .i64 E.1.v.tk) (.int .i64 E.1.v.to) (.bool E.1.v.x) (.slice o E.1.l.length cap) (.int .i64 E.1.a) (.int .i64 E.1.ln) (.int .i64 E.1.c)).trans hr.blk, HKD.out.zt HB5.out (Nat.le_of_lt HGG.out.1) HGG.out.2 ((set15_o (Nat.ne_of_gt HGG.out.1) (.int .i64 E.1.op) (.string E.1.s) (.string E.1.s2) (.int .i64 E.1.v.k) (.int .i64 E.1.v.i) (.string E.1.v.s) (.slice oV E.1.v.l.length cV) (.slice oK E.1.v.ks.length cK) (.int .i64 E.1.v.tk) (.int .i64 E.1.v.to) (.bool E.1.v.x) (.slice o E.1.l.length cap) (.int .i64 E.1.a) (.int .i64 E.1.ln) (.int .i64 E.1.c)).trans hr.zt.sg), hr.sz, hr.le, Nat.le_trans hr.nn hS5⟩
 have HS5 := qh hS5
 clear f2 f3 k31 HX4 hS5
 generalize (((((((((((((((w4.setCell ⟨w.heap.size, 0, none⟩ (.int .i64 E.1.op)).setCell ⟨w.heap.size, 1, none⟩ (.string E.1.s)).setCell ⟨w.heap.size, 2, none⟩ (.string E.1.s2)).setCell ⟨w.heap.size, 3, none⟩ (.int .i64 E.1.v.k)).setCell ⟨w.heap.size, 4, none⟩ (.int .i64 E.1.v.i)).setCell ⟨w.heap.size, 5, none⟩ (.string E.1.v.s)).setCell ⟨w.heap.size, 6, none⟩ (.slice oV E.1.v.l.length cV)).setCell ⟨w.heap.size, 7, none⟩ (.slice oK E.1.v.ks.length cK)).setCell ⟨w.heap.size, 8, none⟩ (.int .i64 E.1.v.tk)).setCell ⟨w.heap.size, 9, none⟩ (.int .i64 E.1.v.to)).setCell ⟨w.heap.size, 10, none⟩ (.bool E.1.v.x)).setCell ⟨w.heap.size, 11, none⟩ (.slice o E.1.l.length cap)).setCell ⟨w.heap.size, 12, none⟩ (.int .i64 E.1.a)).setCell ⟨w.heap.size, 13, none⟩ (.int .i64 E.1.ln)).setCell ⟨w.heap.size, 14, none⟩ (.int .i64 E.1.c)) = w5 at *
 have HN5 : Hid (∀ k, Nu w3.heap.size w4 R' k → k < w5.heap.size) := fun k hk => Nat.lt_of_lt_of_le hk.2.1 HS5.out
 have HJ := qh (judge_any HR5.out HX5.out HN5.out HDP.out q)
 obtain ⟨J, hJ⟩ : ∃ J, judgeC E.1 E.2 q = J := ⟨_, rfl⟩
 rw [hJ] at HJ HM
 clear hJ HDP
 obtain ⟨⟨x0, x1, x2, x3, x4, x5, x6, x7, x8, x9, x10, x11, x12, x13, x14⟩, -, hb2⟩ := rc15 r33.out
 obtain ⟨⟨m0, m1, m2⟩, -, hbm⟩ := rc3 r31.out
 go_wp2_with fail
 refine HJ.out.mono ?_
 rintro e w6 ⟨rfl, b6⟩
 clear x0 x1 x2 x3 x4 x5 x6 x7 x8 x9 x10 x11 x12 x13 x14 hb2 m0 m1 m2 hbm HJ r31
 have B7 : Below w6.heap.size w6 (w6.alloc (.cells #[.int .i64 (J.1 : Int), .int .i64 J.2.a, .int .i64 J.2.l, .int .i64 J.2.c, .string ⟨#[]⟩] 53)) := (Below.refl _ _).alloc (Nat.le_refl _) _
 have BB := b6.trans (B7.mono b6.size)
 have HB7 := qh (HB5.out.trans (BB.mono HB5.out.size))
 have HX7 := qh (HX5.out.bl HN5.out BB)
 have q33 := qh ((BB.block _ (Array.getElem?_eq_some_iff.1 r33.out).1).trans r33.out)
 have q36 := qh ((BB.block _ (Array.getElem?_eq_some_iff.1 r36.out).1).trans r36.out)
 have qR := qh ((BB.block _ HR5.out.lt).trans HR5.out.blk)
 have qJ := qh (heap_alloc_new w6 (.cells #[.int .i64 (J.1 : Int), .int .i64 J.2.a, .int .i64 J.2.l, .int .i64 J.2.c, .string ⟨#[]⟩] 53))
 have HS6 : Hid (w.heap.size + 1 < w6.heap.size ∧ w4.heap.size ≤ w6.heap.size ∧ R' < w6.heap.size) := ⟨by have := HN3.out; have := HS4.out; have := HS5.out; have := b6.size; omega, by have := HS5.out; have := b6.size; omega, Nat.lt_of_lt_of_le HR5.out.lt b6.size⟩
 have HRW : Hid (w.heap.size + 1 < R') := HRN2.out.1
 clear b6 B7 BB r33 r36 HB5 HX5 HR5 HN5
 go_upto_region 5 with fail
 generalize w6.alloc (Obj.cells #[.int .i64 (J.1 : Int), .int .i64 J.2.a, .int .i64 J.2.l, .int .i64 J.2.c, .string ⟨#[]⟩] 53) = w7 at *
 obtain ⟨b9, hb9⟩ : ∃ b, w6.heap.size = b := ⟨_, rfl⟩
 rw [hb9] at qJ HS6 ⊢
 clear hb9
 obtain ⟨⟨j0, j1, j2, j3, j4⟩, -, hj⟩ := rc5 qJ.out
 obtain ⟨⟨x0, x1, x2, x3, x4, x5, x6, x7, x8, x9, x10, x11, x12, x13, x14⟩, gx, hb2⟩ := rc15 q33.out
 have gx0 := gx 0
 have gx1 := gx 1
 have gx2 := gx 2
 have gx3 := gx 3
 have gx4 := gx 4
 have gx5 := gx 5
 have gx6 := gx 6
 have gx7 := gx 7
 have gx8 := gx 8
 have gx9 := gx 9
 have gx10 := gx 10
 have gx11 := gx 11
 have gx12 := gx 12
 have gx13 := gx 13
 have gx14 := gx 14
 clear gx
 obtain ⟨⟨y0, y1, y2, y3, y4⟩, ⟨gy0, gy1, gy2, gy3, gy4⟩, hb3⟩ := rc5 q36.out
 obtain ⟨⟨z0, z1, z2, z3, z4, z5, z6, z7, z8, z9, z10⟩, gz, hbz⟩ := rc11 qR.out
 clear z0 z2 z3 z4 z5 z6 z7 z8 z9 z10 gz
 have n1 : w.heap.size < b9 := by have := HS6.out; omega
 have n2 : w.heap.size + 1 < b9 := HS6.out.1
 have n3 : w.heap.size < R' := by have := HRW.out; omega
 have n4 : w.heap.size + 1 < R' := HRW.out
 by_cases h0 : J.1 = 0
 · have en : ((J.1 : Int) != 0) = false := by simp [h0]
   have HPM : Hid (M = (E.1, E.2.p, 0, ps0)) := by unfold Hid; rw [HM.out, if_pos h0]
   clear h0 HM
   go_wp2_with fail
   go_region
   have r33 := (set5_o (show w.heap.size ≠ w.heap.size + 1 by omega) (.int .i64 0) (.int .i64 0) (.int .i64 0) (.int .i64 0) (.string ⟨#[]⟩)).trans (set15 q33.out (.int .i64 E.1.op) (.string E.1.s) (.string E.1.s2) (.int .i64 E.1.v.k) (.int .i64 E.1.v.i) (.string E.1.v.s) (.slice oV E.1.v.l.length cV) (.slice oK E.1.v.ks.length cK) (.int .i64 E.1.v.tk) (.int .i64 E.1.v.to) (.bool E.1.v.x) (.slice o E.1.l.length cap) (.int .i64 E.1.a) (.int .i64 E.1.ln) (.int .i64 E.1.c))
   have r36 := set5 ((set15_o (show w.heap.size + 1 ≠ w.heap.size by omega) (.int .i64 E.1.op) (.string E.1.s) (.string E.1.s2) (.int .i64 E.1.v.k) (.int .i64 E.1.v.i) (.string E.1.v.s) (.slice oV E.1.v.l.length cV) (.slice oK E.1.v.ks.length cK) (.int .i64 E.1.v.tk) (.int .i64 E.1.v.to) (.bool E.1.v.x) (.slice o E.1.l.length cap) (.int .i64 E.1.a) (.int .i64 E.1.ln) (.int .i64 E.1.c)).trans q36.out) (.int .i64 0) (.int .i64 0) (.int .i64 0) (.int .i64 0) (.string ⟨#[]⟩)
   have b11 := set5_b (set15_b HB7.out (Nat.le_refl _) (.int .i64 E.1.op) (.string E.1.s) (.string E.1.s2) (.int .i64 E.1.v.k) (.int .i64 E.1.v.i) (.string E.1.v.s) (.slice oV E.1.v.l.length cV) (.slice oK E.1.v.ks.length cK) (.int .i64 E.1.v.tk) (.int .i64 E.1.v.to) (.bool E.1.v.x) (.slice o E.1.l.length cap) (.int .i64 E.1.a) (.int .i64 E.1.ln) (.int .i64 E.1.c)) (Nat.le_succ _) (.int .i64 0) (.int .i64 0) (.int .i64 0) (.int .i64 0) (.string ⟨#[]⟩)
   have hs9 := (set5_b (b := w.heap.size + 1) (set15_b (b := w.heap.size) (Below.refl 0 w7) (Nat.zero_le _) (.int .i64 E.1.op) (.string E.1.s) (.string E.1.s2) (.int .i64 E.1.v.k) (.int .i64 E.1.v.i) (.string E.1.v.s) (.slice oV E.1.v.l.length cV) (.slice oK E.1.v.ks.length cK) (.int .i64 E.1.v.tk) (.int .i64 E.1.v.to) (.bool E.1.v.x) (.slice o E.1.l.length cap) (.int .i64 E.1.a) (.int .i64 E.1.ln) (.int .i64 E.1.c)) (Nat.zero_le _) (.int .i64 0) (.int .i64 0) (.int .i64 0) (.int .i64 0) (.string ⟨#[]⟩)).size
   have hxx := HX7.out.keptP (P' := Nu w3.heap.size w4 R') fun k hk => ⟨hk, (set5_o (show k ≠ w.heap.size + 1 by have := hk.1; have := HN3.out; omega) (.int .i64 0) (.int .i64 0) (.int .i64 0) (.int .i64 0) (.string ⟨#[]⟩)).trans (set15_o (show k ≠ w.heap.size by have := hk.1; have := HN3.out; omega) (.int .i64 E.1.op) (.string E.1.s) (.string E.1.s2) (.int .i64 E.1.v.k) (.int .i64 E.1.v.i) (.string E.1.v.s) (.slice oV E.1.v.l.length cV) (.slice oK E.1.v.ks.length cK) (.int .i64 E.1.v.tk) (.int .i64 E.1.v.to) (.bool E.1.v.x) (.slice o E.1.l.length cap) (.int .i64 E.1.a) (.int .i64 E.1.ln) (.int .i64 E.1.c))⟩
   clear x0 x1 x2 x3 x4 x5 x6 x7 x8 x9 x10 x11 x12 x13 x14 gx0 gx1 gx2 gx3 gx4 gx5 gx6 gx7 gx8 gx9 gx10 gx11 gx12 gx13 gx14 hb2 y0 y1 y2 y3 y4 gy0 gy1 gy2 gy3 gy4 hb3 j0 j1 j2 j3 j4 hj z1 hbz
   generalize ((((((((((((((((((((w7.setCell ⟨w.heap.size, 0, none⟩ (.int .i64 E.1.op)).setCell ⟨w.heap.size, 1, none⟩ (.string E.1.s)).setCell ⟨w.heap.size, 2, none⟩ (.string E.1.s2)).setCell ⟨w.heap.size, 3, none⟩ (.int .i64 E.1.v.k)).setCell ⟨w.heap.size, 4, none⟩ (.int .i64 E.1.v.i)).setCell ⟨w.heap.size, 5, none⟩ (.string E.1.v.s)).setCell ⟨w.heap.size, 6, none⟩ (.slice oV E.1.v.l.length cV)).setCell ⟨w.heap.size, 7, none⟩ (.slice oK E.1.v.ks.length cK)).setCell ⟨w.heap.size, 8, none⟩ (.int .i64 E.1.v.tk)).setCell ⟨w.heap.size, 9, none⟩ (.int .i64 E.1.v.to)).setCell ⟨w.heap.size, 10, none⟩ (.bool E.1.v.x)).setCell ⟨w.heap.size, 11, none⟩ (.slice o E.1.l.length cap)).setCell ⟨w.heap.size, 12, none⟩ (.int .i64 E.1.a)).setCell ⟨w.heap.size, 13, none⟩ (.int .i64 E.1.ln)).setCell ⟨w.heap.size, 14, none⟩ (.int .i64 E.1.c)).setCell ⟨(w.heap.size + 1), 0, none⟩ (.int .i64 0)).setCell ⟨(w.heap.size + 1), 1, none⟩ (.int .i64 0)).setCell ⟨(w.heap.size + 1), 2, none⟩ (.int .i64 0)).setCell ⟨(w.heap.size + 1), 3, none⟩ (.int .i64 0)).setCell ⟨(w.heap.size + 1), 4, none⟩ (.string ⟨#[]⟩)) = w8 at *
   have r33' : w8.drew.heap[w.heap.size]? = some (.cells #[.int .i64 E.1.op, .string E.1.s, .string E.1.s2, .int .i64 E.1.v.k, .int .i64 E.1.v.i, .string E.1.v.s, .slice oV E.1.v.l.length cV, .slice oK E.1.v.ks.length cK, .int .i64 E.1.v.tk, .int .i64 E.1.v.to, .bool E.1.v.x, .slice o E.1.l.length cap, .int .i64 E.1.a, .int .i64 E.1.ln, .int .i64 E.1.c] 38 (0, 0)) := r33
   have r36' : w8.drew.heap[w.heap.size + 1]? = some (.cells #[.int .i64 0, .int .i64 0, .int .i64 0, .int .i64 0, .string ⟨#[]⟩] 53 (0, 0)) := r36
   have b12 := b11.drew
   have hs10 : w7.heap.size ≤ w8.drew.heap.size := hs9
   have hxx' : XP (Nu w3.heap.size w4 R') w8.drew E.1 _ := hxx.keptP fun k hk => ⟨hk, rfl⟩
   clear r33 r36 b11 hs9 hxx
   generalize w8.drew = w9 at *
   have HF := qh (And.intro b12 (And.intro hs10 hxx'))
   clear b12 hs10 hxx'
   obtain ⟨⟨x0, x1, x2, x3, x4, x5, x6, x7, x8, x9, x10, x11, x12, x13, x14⟩, -, hb2⟩ := rc15 r33'
   obtain ⟨⟨y0, y1, y2, y3, y4⟩, -, hb3⟩ := rc5 r36'
   go_wp2_with fail
   refine bodyPost_ret (v := .tuple #[.agg #[.int .i64 E.1.op, .string E.1.s, .string E.1.s2, .int .i64 E.1.v.k, .int .i64 E.1.v.i, .string E.1.v.s, .slice oV E.1.v.l.length cV, .slice oK E.1.v.ks.length cK, .int .i64 E.1.v.tk, .int .i64 E.1.v.to, .bool E.1.v.x, .slice o E.1.l.length cap, .int .i64 E.1.a, .int .i64 E.1.ln, .int .i64 E.1.c], .int .i64 E.2.p, .agg #[.int .i64 0, .int .i64 0, .int .i64 0, .int .i64 0, .string ⟨#[]⟩]]) (by simp [results, Tryz.results157, go_sem, x0, x1, x2, x3, x4, x5, x6, x7, x8, x9, x10, x11, x12, x13, x14, y0, y1, y2, y3, y4]) rfl ?_
   rw [HPM.out]
   exact ⟨oV, cV, oK, cK, o, cap, rfl, HF.out.2.2.mono fun k hk => ⟨by have := hk.1; have := HN3.out; omega, by have := hk.2.1; have := HS6.out; have := (Array.getElem?_eq_some_iff.1 qJ.out).1; have := HF.out.2.1; omega⟩, HF.out.1⟩
 · have en : ((J.1 : Int) != 0) = true := by rw [bne_iff_ne]; omega
   have HPM : Hid (M = (zeroX, 0, J)) := by unfold Hid; rw [HM.out, if_neg h0]
   clear h0 HM
   go_wp2_with fail
   go_region
   have r33 := (set5_o (show w.heap.size ≠ w.heap.size + 1 by omega) (.int .i64 (J.1 : Int)) (.int .i64 J.2.a) (.int .i64 J.2.l) (.int .i64 J.2.c) (.string ⟨#[]⟩)).trans (set15 q33.out (.int .i64 0) (.string ⟨#[]⟩) (.string ⟨#[]⟩) (.int .i64 0) (.int .i64 0) (.string ⟨#[]⟩) (.slice none 0 0) (.slice none 0 0) (.int .i64 0) (.int .i64 0) (.bool false) (.slice none 0 0) (.int .i64 0) (.int .i64 0) (.int .i64 0))
   have r36 := set5 ((set15_o (show w.heap.size + 1 ≠ w.heap.size by omega) (.int .i64 0) (.string ⟨#[]⟩) (.string ⟨#[]⟩) (.int .i64 0) (.int .i64 0) (.string ⟨#[]⟩) (.slice none 0 0) (.slice none 0 0) (.int .i64 0) (.int .i64 0) (.bool false) (.slice none 0 0) (.int .i64 0) (.int .i64 0) (.int .i64 0)).trans q36.out) (.int .i64 (J.1 : Int)) (.int .i64 J.2.a) (.int .i64 J.2.l) (.int .i64 J.2.c) (.string ⟨#[]⟩)
   have b11 := set5_b (set15_b HB7.out (Nat.le_refl _) (.int .i64 0) (.string ⟨#[]⟩) (.string ⟨#[]⟩) (.int .i64 0) (.int .i64 0) (.string ⟨#[]⟩) (.slice none 0 0) (.slice none 0 0) (.int .i64 0) (.int .i64 0) (.bool false) (.slice none 0 0) (.int .i64 0) (.int .i64 0) (.int .i64 0)) (Nat.le_succ _) (.int .i64 (J.1 : Int)) (.int .i64 J.2.a) (.int .i64 J.2.l) (.int .i64 J.2.c) (.string ⟨#[]⟩)
   have hs9 := (set5_b (b := w.heap.size + 1) (set15_b (b := w.heap.size) (Below.refl 0 w7) (Nat.zero_le _) (.int .i64 0) (.string ⟨#[]⟩) (.string ⟨#[]⟩) (.int .i64 0) (.int .i64 0) (.string ⟨#[]⟩) (.slice none 0 0) (.slice none 0 0) (.int .i64 0) (.int .i64 0) (.bool false) (.slice none 0 0) (.int .i64 0) (.int .i64 0) (.int .i64 0)) (Nat.zero_le _) (.int .i64 (J.1 : Int)) (.int .i64 J.2.a) (.int .i64 J.2.l) (.int .i64 J.2.c) (.string ⟨#[]⟩)).size
   clear x0 x1 x2 x3 x4 x5 x6 x7 x8 x9 x10 x11 x12 x13 x14 gx0 gx1 gx2 gx3 gx4 gx5 gx6 gx7 gx8 gx9 gx10 gx11 gx12 gx13 gx14 hb2 y0 y1 y2 y3 y4 gy0 gy1 gy2 gy3 gy4 hb3 j0 j1 j2 j3 j4 hj z1 hbz
   generalize ((((((((((((((((((((w7.setCell ⟨w.heap.size, 0, none⟩ (.int .i64 0)).setCell ⟨w.heap.size, 1, none⟩ (.string ⟨#[]⟩)).setCell ⟨w.heap.size, 2, none⟩ (.string ⟨#[]⟩)).setCell ⟨w.heap.size, 3, none⟩ (.int .i64 0)).setCell ⟨w.heap.size, 4, none⟩ (.int .i64 0)).setCell ⟨w.heap.size, 5, none⟩ (.string ⟨#[]⟩)).setCell ⟨w.heap.size, 6, none⟩ (.slice none 0 0)).setCell ⟨w.heap.size, 7, none⟩ (.slice none 0 0)).setCell ⟨w.heap.size, 8, none⟩ (.int .i64 0)).setCell ⟨w.heap.size, 9, none⟩ (.int .i64 0)).setCell ⟨w.heap.size, 10, none⟩ (.bool false)).setCell ⟨w.heap.size, 11, none⟩ (.slice none 0 0)).setCell ⟨w.heap.size, 12, none⟩ (.int .i64 0)).setCell ⟨w.heap.size, 13, none⟩ (.int .i64 0)).setCell ⟨w.heap.size, 14, none⟩ (.int .i64 0)).setCell ⟨(w.heap.size + 1), 0, none⟩ (.int .i64 (J.1 : Int))).setCell ⟨(w.heap.size + 1), 1, none⟩ (.int .i64 J.2.a)).setCell ⟨(w.heap.size + 1), 2, none⟩ (.int .i64 J.2.l)).setCell ⟨(w.heap.size + 1), 3, none⟩ (.int .i64 J.2.c)).setCell ⟨(w.heap.size + 1), 4, none⟩ (.string ⟨#[]⟩)) = w8 at *
   have r33' : w8.drew.heap[w.heap.size]? = some (.cells #[.int .i64 0, .string ⟨#[]⟩, .string ⟨#[]⟩, .int .i64 0, .int .i64 0, .string ⟨#[]⟩, .slice none 0 0, .slice none 0 0, .int .i64 0, .int .i64 0, .bool false, .slice none 0 0, .int .i64 0, .int .i64 0, .int .i64 0] 38 (0, 0)) := r33
   have r36' : w8.drew.heap[w.heap.size + 1]? = some (.cells #[.int .i64 (J.1 : Int), .int .i64 J.2.a, .int .i64 J.2.l, .int .i64 J.2.c, .string ⟨#[]⟩] 53 (0, 0)) := r36
   have b12 := b11.drew
   have hs10 : w7.heap.size ≤ w8.drew.heap.size := hs9
   clear r33 r36 b11 hs9
   generalize w8.drew = w9 at *
   have HF := qh (And.intro b12 (And.intro hs10 trivial))
   clear b12 hs10
   obtain ⟨⟨x0, x1, x2, x3, x4, x5, x6, x7, x8, x9, x10, x11, x12, x13, x14⟩, -, hb2⟩ := rc15 r33'
   obtain ⟨⟨y0, y1, y2, y3, y4⟩, -, hb3⟩ := rc5 r36'
   go_wp2_with fail
   refine bodyPost_ret (v := .tuple #[.agg #[.int .i64 0, .string ⟨#[]⟩, .string ⟨#[]⟩, .int .i64 0, .int .i64 0, .string ⟨#[]⟩, .slice none 0 0, .slice none 0 0, .int .i64 0, .int .i64 0, .bool false, .slice none 0 0, .int .i64 0, .int .i64 0, .int .i64 0], .int .i64 0, .agg #[.int .i64 (J.1 : Int), .int .i64 J.2.a, .int .i64 J.2.l, .int .i64 J.2.c, .string ⟨#[]⟩]]) (by simp [results, Tryz.results157, go_sem, x0, x1, x2, x3, x4, x5, x6, x7, x8, x9, x10, x11, x12, x13, x14, y0, y1, y2, y3, y4]) rfl ?_
   rw [HPM.out]
   exact ⟨none, 0, none, 0, none, 0, rfl, xp_zero _ _, HF.out.1⟩
end Go.Proofs.YtncjncacfagldaaGreatDoor

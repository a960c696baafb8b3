/- Complete, where it does what it should, and where something is missing. -/
import Derived.Test.YtfmgbhaldakpfaaDoorSq
namespace Go.Proofs.YtfmgbhaldakpfaaDoor
open Go.RowKit

theorem attrs_nm {t : ByteArray} {a : Atr} (h : a ∈ attrs t) : a.nm.size ≤ maxLen := by
  obtain ⟨j, hj, _, e⟩ := (mem_attrs t a).1 h
  have := (rw_size j hj).2
  rw [e] at this
  unfold maxLen; omega
def CompPost (Y : Val) (w : World) (e : Ending) (w' : World) : Prop :=
  ∃ (oL oK : Option Addr) (cL cK : Nat) (c : Nat → Nat → Value), e = .returned (.tuple #[vv Y.k Y.i Y.s (.slice oL Y.l.length cL) (.slice oK Y.ks.length cK) Y.tk Y.to Y.x, .string ⟨#[]⟩, .int .i64 0]) ∧ OpnP (Fr w w') w' Y oL oK cL cK c ∧ Below w.heap.size w w'
set_option maxHeartbeats 4000000 in
set_option maxRecDepth 100000 in
theorem complete_no {n : Nat} {V : Val} {v : Value} {w : World} (t : ByteArray) (hne : attrs t ≠ []) (hmap : isMapB V = true) (ht : t.size ≤ maxLen) (hkf : KeysFit t V) (j0 : Nat) (hj0l : j0 < (attrs t).length) (hno : ∀ j, j < (attrs t).length → j < j0 → lacksB (aa (attrs t) j) (elt V (aa (attrs t) j).nm) = false) (hyes : lacksB (aa (attrs t) j0) (elt V (aa (attrs t) j0).nm) = true) (hs : sz V ≤ 50000) (h : Lies n w V v) (hn : n ≤ w.heap.size) (hT : Tab w) :
    Calls Tryd.prog 26 #[.string t, v] w fun e w' => e = .returned (.tuple #[zv, .string (aa (attrs t) j0).nm, .int .i64 15]) ∧ Below w.heap.size w w' := by
  obtain ⟨oL, oK, cL, cK, c, rfl, O⟩ := h.inv
  have hck : chk V = true := by unfold isMapB at hmap; rw [Bool.and_eq_true] at hmap; exact hmap.2
  have hk5 : V.k = 5 := by unfold isMapB at hmap; rw [Bool.and_eq_true] at hmap; simpa using hmap.1
  have hkl := chk_kl hck
  have b0 : Below w.heap.size w ((w.alloc (bx V oL oK cL cK)).alloc (.cells zc 42)) := bal (bal (Below.refl _ _) _) _
  have HB := Lib.hid b0
  have HO := Lib.hid (O.kept (b0.mono hn)).lies
  have HX := Lib.hid ((Hd.made w V (.slice oL V.l.length cL) (.slice oK V.ks.length cK)).kept ((Below.refl (w.heap.size + 1) _).alloc (by simp) (.cells zc 42)) (Nat.lt_succ_self _))
  have HZC : Hid (((w.alloc (bx V oL oK cL cK)).alloc (.cells zc 42)).heap[w.heap.size + 1]? = some (.cells zc 42 (0, 0))) := at_top _ _ _ (by simp)
  have HS : Hid (((w.alloc (bx V oL oK cL cK)).alloc (.cells zc 42)).heap.size = w.heap.size + 2) := by simp [Hid]
  have HAt := Lib.hid (attrs_any t ((w.alloc (bx V oL oK cL cK)).alloc (.cells zc 42)) (hT.below b0 hT.lt))
  have HNE := Lib.hid hne
  have CM : Hid (∀ W, Below w.heap.size ((w.alloc (bx V oL oK cL cK)).alloc (.cells zc 42)) W → Calls Tryd.prog 34 #[vv V.k V.i V.s (.slice oL V.l.length cL) (.slice oK V.ks.length cK) V.tk V.to V.x] W fun e w' => e = .returned (.bool true) ∧ Below W.heap.size W w') := fun W hW => by
    have := isMap_any hs (HO.out.kept (hW.mono hn)) (by have := hW.size; simp at this; omega)
    rw [hmap] at this
    exact this
  have CW : Hid (∀ W, Below w.heap.size ((w.alloc (bx V oL oK cL cK)).alloc (.cells zc 42)) W → Calls Tryd.prog 51 #[.string t, vv V.k V.i V.s (.slice oL V.l.length cL) (.slice oK V.ks.length cK) V.tk V.to V.x] W fun e w' => e = .returned (.tuple #[.string ⟨#[]⟩, .int .i64 0]) ∧ Below W.heap.size W w') := fun W hW =>
    wrongKey_ok t hs (hkl hk5) hkf ht (HO.out.kept (hW.mono hn)) (by have := hW.size; simp at this; omega) ((hT.below b0 hT.lt).below hW hT.lt)
  have HM : Hid (∀ (W1 W : World) (o : Option Addr) (cap : Nat), W1.heap.size ≤ W.heap.size → AtRow (fun b => b < W.heap.size) W o cap (attrs t) → Below w.heap.size ((w.alloc (bx V oL oK cL cK)).alloc (.cells zc 42)) W → Calls Tryd.prog 52 #[.slice o (attrs t).length cap, vv V.k V.i V.s (.slice oL V.l.length cL) (.slice oK V.ks.length cK) V.tk V.to V.x] W fun e w' => e = .returned (.tuple #[.string (aa (attrs t) j0).nm, .int .i64 15]) ∧ Below W.heap.size W w') := fun W1 W o cap h1 hr hW =>
    missing_no j0 hj0l hno hyes hs hkl ((HO.out.kept (hW.mono hn)).mono fun b hb => (show b < W.heap.size by have := hW.size; simp at this; omega)) hr (Nat.le_refl _)
  have HJ := Lib.hid (And.intro hj0l (And.intro hno hyes))
  clear hj0l hno hyes
  clear h O b0 hck hk5 hkl hmap hkf hne hs ht hT
  go_enter Tryd.func26, Tryd.ntmps26
  go_upto_region 1 with (fail)
  generalize (w.alloc _).alloc _ = w0 at *
  have hwl : w.heap.size < w0.heap.size := by rw [HS.out]; omega
  go_wp2_with fail
  refine HAt.out.mono ?_
  rintro e w1 hA
  rcases hA with ⟨hbad, _⟩ | ⟨_, o, cap, rfl, hR, hb1⟩
  · exact absurd hbad HNE.out
  have B1 := Lib.hid (hb1 : Below w0.heap.size w0 w1)
  have B1w := Lib.hid (B1.out.mono (Nat.le_of_lt hwl))
  have HR := Lib.hid (hR.mono (P' := fun b => b < w1.heap.size) fun b hb => hb.2)
  obtain ⟨x8, x0, x1, x2, x3, x4, x5, x6, x7⟩ := HX.out.kept B1.out hwl
  clear hb1 hR
  go_wp2_with fail
  refine (CM.out w1 B1w.out).mono ?_
  rintro e w2 ⟨rfl, hb2⟩
  have B2 := Lib.hid (B1.out.trans (hb2.mono B1.out.size))
  have B2w := Lib.hid (B2.out.mono (Nat.le_of_lt hwl))
  have b12 := Lib.hid hb2
  clear hb2 x8 x0 x1 x2 x3 x4 x5 x6 x7
  obtain ⟨x8, x0, x1, x2, x3, x4, x5, x6, x7⟩ := HX.out.kept B2.out hwl
  go_wp2_with fail
  refine (CW.out w2 B2w.out).mono ?_
  rintro e w3 ⟨rfl, hb3⟩
  have B3 := Lib.hid (B2.out.trans (hb3.mono B2.out.size))
  have B3w := Lib.hid (B3.out.mono (Nat.le_of_lt hwl))
  have b13 := Lib.hid (b12.out.trans (hb3.mono b12.out.size))
  clear hb3 x8 x0 x1 x2 x3 x4 x5 x6 x7
  obtain ⟨x8, x0, x1, x2, x3, x4, x5, x6, x7⟩ := HX.out.kept B3.out hwl
  have hz13 := b13.out.size
  go_wp2_with fail
  refine (HM.out w1 w3 o cap hz13 ((RowP.below HR.out b13.out).mono fun b hb => Nat.lt_of_lt_of_le hb hz13) B3w.out).mono ?_
  rintro e w4 ⟨rfl, hb4⟩
  have B4 := Lib.hid (B3.out.trans (hb4.mono B3.out.size))
  have B4w := Lib.hid (B4.out.mono (Nat.le_of_lt hwl))
  have b14 := Lib.hid (b13.out.trans (hb4.mono b13.out.size))
  clear hb4 x8 x0 x1 x2 x3 x4 x5 x6 x7
  obtain ⟨x8, x0, x1, x2, x3, x4, x5, x6, x7⟩ := HX.out.kept B4.out hwl
  have hz14 := b14.out.size
  have Q1 : Hid (w4.heap[w.heap.size + 1]? = some (.cells zc 42 (0, 0))) := (B4.out.block _ (by rw [HS.out]; omega)).trans HZC.out
  have R1 := Lib.hid (store_box' Q1.out zc rfl)
  have BZ := Lib.hid (below_setRow (HB.out.trans B4w.out) (Nat.le_succ _) (over zc zc) : Below w.heap.size w (w4.setRow (w.heap.size + 1) (over zc zc)))
  go_wp2_with ((with_reducible refine wpList_store_at rfl 42 (.tmp 4) (.tmp 41) rfl (w.heap.size + 1) 0 rfl _ rfl 42 zc Q1.out ?sa1 ?sa2 ?sa3 ?sa4); case' sa4 => generalize World.setRow _ _ _ = w5 at *)
  case sa1 => simp
  case sa2 => have := size42; simpa using this
  case sa3 => simp [Value.oneCell']
  obtain ⟨p0, p1, p2, p3, p4, p5, p6, p7⟩ := cells8 (show w5.heap[w.heap.size + 1]? = some (.cells zc 42 (0, 0)) from R1.out)
  exact bodyPost_ret (v := .tuple #[zv, .string (aa (attrs t) j0).nm, .int .i64 15]) (by simp [results, Tryd.results26, go_sem, p0, p1, p2, p3, p4, p5, p6, p7]) rfl ⟨rfl, BZ.out⟩
set_option maxHeartbeats 4000000 in
set_option maxRecDepth 100000 in
theorem complete_ok {n : Nat} {V : Val} {v : Value} {w : World} (t : ByteArray) (hne : attrs t ≠ []) (hmap : isMapB V = true) (ht : t.size ≤ maxLen) (hkf : KeysFit t V) (hno : ∀ j, j < (attrs t).length → lacksB (aa (attrs t) j) (elt V (aa (attrs t) j).nm) = false) (how : ∀ a, a ∈ attrs t → a.ow = false) (hcc : chk (cmpl (attrs t) V) = true) (hsc : sz (cmpl (attrs t) V) ≤ 50000) (hs : sz V ≤ 50000) (h : Lies n w V v) (hn : n ≤ w.heap.size) (hT : Tab w) :
    Calls Tryd.prog 26 #[.string t, v] w (CompPost (cmpl (attrs t) V) w) := by
  obtain ⟨oL, oK, cL, cK, c, rfl, O⟩ := h.inv
  have hck : chk V = true := by unfold isMapB at hmap; rw [Bool.and_eq_true] at hmap; exact hmap.2
  have hk5 : V.k = 5 := by unfold isMapB at hmap; rw [Bool.and_eq_true] at hmap; simpa using hmap.1
  have hkl := chk_kl hck
  have b0 : Below w.heap.size w ((w.alloc (bx V oL oK cL cK)).alloc (.cells zc 42)) := bal (bal (Below.refl _ _) _) _
  have HB := Lib.hid b0
  have HO := Lib.hid (O.kept (b0.mono hn)).lies
  have HX := Lib.hid ((Hd.made w V (.slice oL V.l.length cL) (.slice oK V.ks.length cK)).kept ((Below.refl (w.heap.size + 1) _).alloc (by simp) (.cells zc 42)) (Nat.lt_succ_self _))
  have HZC : Hid (((w.alloc (bx V oL oK cL cK)).alloc (.cells zc 42)).heap[w.heap.size + 1]? = some (.cells zc 42 (0, 0))) := at_top _ _ _ (by simp)
  have HS : Hid (((w.alloc (bx V oL oK cL cK)).alloc (.cells zc 42)).heap.size = w.heap.size + 2) := by simp [Hid]
  have HAt := Lib.hid (attrs_any t ((w.alloc (bx V oL oK cL cK)).alloc (.cells zc 42)) (hT.below b0 hT.lt))
  have HNE := Lib.hid hne
  have CM : Hid (∀ W, Below w.heap.size ((w.alloc (bx V oL oK cL cK)).alloc (.cells zc 42)) W → Calls Tryd.prog 34 #[vv V.k V.i V.s (.slice oL V.l.length cL) (.slice oK V.ks.length cK) V.tk V.to V.x] W fun e w' => e = .returned (.bool true) ∧ Below W.heap.size W w') := fun W hW => by
    have := isMap_any hs (HO.out.kept (hW.mono hn)) (by have := hW.size; simp at this; omega)
    rw [hmap] at this
    exact this
  have CW : Hid (∀ W, Below w.heap.size ((w.alloc (bx V oL oK cL cK)).alloc (.cells zc 42)) W → Calls Tryd.prog 51 #[.string t, vv V.k V.i V.s (.slice oL V.l.length cL) (.slice oK V.ks.length cK) V.tk V.to V.x] W fun e w' => e = .returned (.tuple #[.string ⟨#[]⟩, .int .i64 0]) ∧ Below W.heap.size W w') := fun W hW =>
    wrongKey_ok t hs (hkl hk5) hkf ht (HO.out.kept (hW.mono hn)) (by have := hW.size; simp at this; omega) ((hT.below b0 hT.lt).below hW hT.lt)
  have HM : Hid (∀ (W1 W : World) (o : Option Addr) (cap : Nat), W1.heap.size ≤ W.heap.size → AtRow (fun b => b < W.heap.size) W o cap (attrs t) → Below w.heap.size ((w.alloc (bx V oL oK cL cK)).alloc (.cells zc 42)) W → Calls Tryd.prog 52 #[.slice o (attrs t).length cap, vv V.k V.i V.s (.slice oL V.l.length cL) (.slice oK V.ks.length cK) V.tk V.to V.x] W fun e w' => e = .returned (.tuple #[.string ⟨#[]⟩, .int .i64 0]) ∧ Below W.heap.size W w') := fun W1 W o cap h1 hr hW =>
    missing_ok hno hs hkl ((HO.out.kept (hW.mono hn)).mono fun b hb => (show b < W.heap.size by have := hW.size; simp at this; omega)) hr (Nat.le_refl _)
  have HC : Hid (∀ (W : World) (o : Option Addr) (cap : Nat), AtRow (fun b => b < W.heap.size) W o cap (attrs t) → Below w.heap.size ((w.alloc (bx V oL oK cL cK)).alloc (.cells zc 42)) W → Calls Tryd.prog 53 #[.slice o (attrs t).length cap, vv V.k V.i V.s (.slice oL V.l.length cL) (.slice oK V.ks.length cK) V.tk V.to V.x] W (VPost (cmpl (attrs t) V) W)) := fun W o cap hr hW =>
    completed_any (attrs_len t) how (fun a ha => attrs_nm ha) hs hkl ((HO.out.kept (hW.mono hn)).mono fun b hb => (show b < W.heap.size by have := hW.size; simp at this; omega)) hr (Nat.le_refl _)
  have HCK : Hid (∀ (W : World) (y : Value), Lies W.heap.size W (cmpl (attrs t) V) y → Calls Tryd.prog 54 #[y] W fun e w' => e = .returned (.int .i64 0) ∧ Below W.heap.size W w') := fun W y hy => by
    have := check_any W.heap.size (cmpl (attrs t) V) y W hsc hy (Nat.le_refl _)
    rw [hcc] at this
    exact this
  generalize cmpl (attrs t) V = Y at *
  clear how hsc hcc hno
  clear h O b0 hck hk5 hkl hmap hkf hne hs ht hT
  go_enter Tryd.func26, Tryd.ntmps26
  go_upto_region 1 with (fail)
  generalize (w.alloc _).alloc _ = w0 at *
  have hwl : w.heap.size < w0.heap.size := by rw [HS.out]; omega
  go_wp2_with fail
  refine HAt.out.mono ?_
  rintro e w1 hA
  rcases hA with ⟨hbad, _⟩ | ⟨_, o, cap, rfl, hR, hb1⟩
  · exact absurd hbad HNE.out
  have B1 := Lib.hid (hb1 : Below w0.heap.size w0 w1)
  have B1w := Lib.hid (B1.out.mono (Nat.le_of_lt hwl))
  have HR := Lib.hid (hR.mono (P' := fun b => b < w1.heap.size) fun b hb => hb.2)
  obtain ⟨x8, x0, x1, x2, x3, x4, x5, x6, x7⟩ := HX.out.kept B1.out hwl
  clear hb1 hR
  go_wp2_with fail
  refine (CM.out w1 B1w.out).mono ?_
  rintro e w2 ⟨rfl, hb2⟩
  have B2 := Lib.hid (B1.out.trans (hb2.mono B1.out.size))
  have B2w := Lib.hid (B2.out.mono (Nat.le_of_lt hwl))
  have b12 := Lib.hid hb2
  clear hb2 x8 x0 x1 x2 x3 x4 x5 x6 x7
  obtain ⟨x8, x0, x1, x2, x3, x4, x5, x6, x7⟩ := HX.out.kept B2.out hwl
  go_wp2_with fail
  refine (CW.out w2 B2w.out).mono ?_
  rintro e w3 ⟨rfl, hb3⟩
  have B3 := Lib.hid (B2.out.trans (hb3.mono B2.out.size))
  have B3w := Lib.hid (B3.out.mono (Nat.le_of_lt hwl))
  have b13 := Lib.hid (b12.out.trans (hb3.mono b12.out.size))
  clear hb3 x8 x0 x1 x2 x3 x4 x5 x6 x7
  obtain ⟨x8, x0, x1, x2, x3, x4, x5, x6, x7⟩ := HX.out.kept B3.out hwl
  have hz13 := b13.out.size
  go_wp2_with fail
  refine (HM.out w1 w3 o cap hz13 ((RowP.below HR.out b13.out).mono fun b hb => Nat.lt_of_lt_of_le hb hz13) B3w.out).mono ?_
  rintro e w4 ⟨rfl, hb4⟩
  have B4 := Lib.hid (B3.out.trans (hb4.mono B3.out.size))
  have B4w := Lib.hid (B4.out.mono (Nat.le_of_lt hwl))
  have b14 := Lib.hid (b13.out.trans (hb4.mono b13.out.size))
  clear hb4 x8 x0 x1 x2 x3 x4 x5 x6 x7
  obtain ⟨x8, x0, x1, x2, x3, x4, x5, x6, x7⟩ := HX.out.kept B4.out hwl
  have hz14 := b14.out.size
  go_wp2_with fail
  refine (HC.out w4 o cap ((RowP.below HR.out b14.out).mono fun b hb => Nat.lt_of_lt_of_le hb hz14) B4w.out).mono ?_
  rintro e w5 ⟨o1, o3, c1, c3, cc, rfl, OY, hb5⟩
  have B5 := Lib.hid (B4.out.trans (hb5.mono B4.out.size))
  have B5w := Lib.hid (B5.out.mono (Nat.le_of_lt hwl))
  clear x8 x0 x1 x2 x3 x4 x5 x6 x7
  have hz05 := B4.out.size
  have Q1 : Hid (w5.heap[w.heap.size + 1]? = some (.cells zc 42 (0, 0))) := (B5.out.block _ (by rw [HS.out]; omega)).trans HZC.out
  have R1 := Lib.hid (store_box' Q1.out (c8 Y (.slice o1 Y.l.length c1) (.slice o3 Y.ks.length c3)) rfl)
  have BZ1 := Lib.hid (below_setRow B5w.out (Nat.le_succ _) (over zc (c8 Y (.slice o1 Y.l.length c1) (.slice o3 Y.ks.length c3))) : Below w.heap.size w0 (w5.setRow (w.heap.size + 1) (over zc (c8 Y (.slice o1 Y.l.length c1) (.slice o3 Y.ks.length c3)))))
  have OZ := Lib.hid (OY.keptP (w' := w5.setRow (w.heap.size + 1) (over zc (c8 Y (.slice o1 Y.l.length c1) (.slice o3 Y.ks.length c3)))) (P' := fun b => w.heap.size + 2 ≤ b ∧ b < (w5.setRow (w.heap.size + 1) (over zc (c8 Y (.slice o1 Y.l.length c1) (.slice o3 Y.ks.length c3)))).heap.size) fun q hq => ⟨⟨by have := hq.1; have := HS.out; omega, by rw [size_setRow]; exact hq.2⟩, setRow_other _ _ _ _ (by have := hq.1; have := HS.out; omega)⟩)
  have hbz : w0.heap.size ≤ (w5.setRow (w.heap.size + 1) (over zc (c8 Y (.slice o1 Y.l.length c1) (.slice o3 Y.ks.length c3)))).heap.size := by rw [size_setRow]; exact B5.out.size
  clear OY hb5
  go_upto_region 13 with ((with_reducible refine wpList_store_at rfl 42 (.tmp 4) (.tmp 46) rfl (w.heap.size + 1) 0 rfl _ rfl 42 zc Q1.out ?sa1 ?sa2 ?sa3 ?sa4); case' sa4 => generalize World.setRow _ _ _ = w6 at *)
  case sa1 => simp
  case sa2 => have := size42; simpa using this
  case sa3 => simp [Value.oneCell']
  have R1' : Hid (w6.heap[w.heap.size + 1]? = some (.cells (c8 Y (.slice o1 Y.l.length c1) (.slice o3 Y.ks.length c3)) 42 (0, 0))) := R1.out
  obtain ⟨p0, p1, p2, p3, p4, p5, p6, p7⟩ := cells8 R1'.out
  have CK := Lib.hid (HCK.out w6 _ (OZ.out.mono (P' := fun b => b < w6.heap.size) fun q hq => hq.2).lies)
  go_wp2_with fail
  refine CK.out.mono ?_
  rintro e w7 ⟨rfl, hb7⟩
  have hwl6 : w.heap.size + 1 < w6.heap.size := by have := HS.out; omega
  have Q2 : Hid (w7.heap[w.heap.size + 1]? = some (.cells (c8 Y (.slice o1 Y.l.length c1) (.slice o3 Y.ks.length c3)) 42 (0, 0))) := (hb7.block _ hwl6).trans R1'.out
  have R2 := Lib.hid (store_box' Q2.out (c8 Y (.slice o1 Y.l.length c1) (.slice o3 Y.ks.length c3)) rfl)
  have BZ2 := Lib.hid (below_setRow (HB.out.trans (BZ1.out.trans (hb7.mono (by omega)))) (Nat.le_succ _) (over (c8 Y (.slice o1 Y.l.length c1) (.slice o3 Y.ks.length c3)) (c8 Y (.slice o1 Y.l.length c1) (.slice o3 Y.ks.length c3))) : Below w.heap.size w (w7.setRow (w.heap.size + 1) (over (c8 Y (.slice o1 Y.l.length c1) (.slice o3 Y.ks.length c3)) (c8 Y (.slice o1 Y.l.length c1) (.slice o3 Y.ks.length c3)))))
  have OF := Lib.hid (OZ.out.keptP (w' := w7.setRow (w.heap.size + 1) (over (c8 Y (.slice o1 Y.l.length c1) (.slice o3 Y.ks.length c3)) (c8 Y (.slice o1 Y.l.length c1) (.slice o3 Y.ks.length c3)))) (P' := Fr w (w7.setRow (w.heap.size + 1) (over (c8 Y (.slice o1 Y.l.length c1) (.slice o3 Y.ks.length c3)) (c8 Y (.slice o1 Y.l.length c1) (.slice o3 Y.ks.length c3))))) fun q hq => ⟨⟨by have := hq.1; omega, by rw [size_setRow]; exact Nat.lt_of_lt_of_le hq.2 hb7.size⟩, (setRow_other _ _ _ _ (by have := hq.1; omega)).trans (hb7.block q hq.2)⟩)
  clear p0 p1 p2 p3 p4 p5 p6 p7
  obtain ⟨p0, p1, p2, p3, p4, p5, p6, p7⟩ := cells8 Q2.out
  clear hb7
  go_wp2_with ((with_reducible refine wpList_store_at rfl 42 (.tmp 4) (.tmp 51) rfl (w.heap.size + 1) 0 rfl _ rfl 42 (c8 Y (.slice o1 Y.l.length c1) (.slice o3 Y.ks.length c3)) Q2.out ?sb1 ?sb2 ?sb3 ?sb4); case' sb4 => generalize World.setRow _ _ _ = w8 at *)
  case sb1 => simp
  case sb2 => have := size42; simpa using this
  case sb3 => simp [Value.oneCell']
  obtain ⟨r0, r1, r2, r3, r4, r5, r6, r7⟩ := cells8 (show w8.heap[w.heap.size + 1]? = some (.cells (c8 Y (.slice o1 Y.l.length c1) (.slice o3 Y.ks.length c3)) 42 (0, 0)) from R2.out)
  exact bodyPost_ret (v := .tuple #[vv Y.k Y.i Y.s (.slice o1 Y.l.length c1) (.slice o3 Y.ks.length c3) Y.tk Y.to Y.x, .string ⟨#[]⟩, .int .i64 0]) (by simp [results, Tryd.results26, go_sem, r0, r1, r2, r3, r4, r5, r6, r7]) rfl ⟨o1, o3, c1, c3, cc, rfl, OF.out, BZ2.out⟩
end Go.Proofs.YtfmgbhaldakpfaaDoor

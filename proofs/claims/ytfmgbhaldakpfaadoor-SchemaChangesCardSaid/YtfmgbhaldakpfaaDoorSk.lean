/- Small questions of a value and an attribute. -/
import Derived.Test.YtfmgbhaldakpfaaDoorSh
import Derived.Test.YtfmgbhaldakpfaaDoorO
import Derived.Test.YtfmgbhaldakpfaaDoorY
import Derived.Test.YtfmgbhaldakpfaaDoorNb
import Derived.Test.YtfmgbhaldakpfaaDoorP
namespace Go.Proofs.YtfmgbhaldakpfaaDoor
open Go.RowKit

theorem isNull_any {n : Nat} {V : Val} {v : Value} {w : World} (h : Lies n w V v) : Calls Tryd.prog 63 #[v] w fun e w' => e = .returned (.bool (V.k == 0)) ∧ Below w.heap.size w w' := by
  obtain ⟨oL, oK, cL, cK, c, rfl, O⟩ := h.inv
  clear O h
  go_enter Tryd.func63, Tryd.ntmps63
  go_wp2_with fail
  go_ret
  exact ⟨rfl, (Below.refl _ _).alloc (Nat.le_refl _) _⟩
def lacksB (a : Atr) (V : Val) : Bool := a.nd && V.k == 0
set_option maxHeartbeats 1000000 in
theorem lacks_any {n : Nat} {V : Val} {v : Value} {w : World} (a : Atr) (h : Lies n w V v) (hn : n ≤ w.heap.size) : Calls Tryd.prog 57 #[av a, v] w fun e w' => e = .returned (.bool (lacksB a V)) ∧ Below w.heap.size w w' := by
  obtain ⟨oL, oK, cL, cK, c, rfl, O⟩ := h.inv
  obtain ⟨nm, tk, t2, nd, cm, an, ow⟩ := a
  have HL : Hid (lacksB ⟨nm, tk, t2, nd, cm, an, ow⟩ V = (nd && V.k == 0)) := rfl
  have HO := Lib.hid (O.kept (((Below.refl w.heap.size w).alloc (Nat.le_refl _) (.cells (ac ⟨nm, tk, t2, nd, cm, an, ow⟩) 31)).alloc (by simp) (bx V oL oK cL cK) |>.mono hn)).lies
  have HB : Hid (Below w.heap.size w ((w.alloc (.cells (ac ⟨nm, tk, t2, nd, cm, an, ow⟩) 31)).alloc (bx V oL oK cL cK))) := ((Below.refl w.heap.size w).alloc (Nat.le_refl _) (.cells (ac ⟨nm, tk, t2, nd, cm, an, ow⟩) 31)).alloc (by simp) _
  have HN := Lib.hid (fun W (h : Lies n W V (vv V.k V.i V.s (.slice oL V.l.length cL) (.slice oK V.ks.length cK) V.tk V.to V.x)) => isNull_any h)
  clear O h
  generalize lacksB ⟨nm, tk, t2, nd, cm, an, ow⟩ V = L at *
  cases nd with
  | false =>
    have hl : Hid (L = false) := HL.out
    go_enter Tryd.func57, Tryd.ntmps57
    go_wp2_with fail
    go_ret
    exact ⟨by rw [hl.out]; rfl, HB.out⟩
  | true =>
    have hl : Hid (L = (V.k == 0)) := HL.out
    go_enter Tryd.func57, Tryd.ntmps57
    go_wp2_with fail
    refine (HN.out _ HO.out).mono ?_
    rintro e w1 ⟨rfl, b⟩
    have B := Lib.hid (HB.out.trans (b.mono HB.out.size))
    clear b
    go_wp2_with fail
    go_ret
    exact ⟨by rw [hl.out]; rfl, B.out⟩
def takesB (a : Atr) (V : Val) : Bool := fits V a.tk a.to && !lacksB a V
set_option maxHeartbeats 1000000 in
theorem takes_any {n : Nat} {V : Val} {v : Value} {w : World} (a : Atr) (hs : sz V ≤ 60000) (h : Lies n w V v) (hn : n ≤ w.heap.size) : Calls Tryd.prog 38 #[av a, v] w fun e w' => e = .returned (.bool (takesB a V)) ∧ Below w.heap.size w w' := by
  obtain ⟨oL, oK, cL, cK, c, rfl, O⟩ := h.inv
  have HL : Hid (takesB a V = (fits V a.tk a.to && !lacksB a V)) := rfl
  have b0 : Below w.heap.size w ((w.alloc (.cells (ac a) 31)).alloc (bx V oL oK cL cK)) := ((Below.refl w.heap.size w).alloc (Nat.le_refl _) (.cells (ac a) 31)).alloc (by simp) _
  have HO := Lib.hid (O.kept (b0.mono hn)).lies
  have HB := Lib.hid b0
  have HF := Lib.hid (fits_all 60000 n V _ _ a.tk a.to hs HO.out (by simp; omega))
  have HZ : Hid (∀ W : World, Below ((w.alloc (.cells (ac a) 31)).alloc (bx V oL oK cL cK)).heap.size ((w.alloc (.cells (ac a) 31)).alloc (bx V oL oK cL cK)) W → Calls Tryd.prog 57 #[av a, vv V.k V.i V.s (.slice oL V.l.length cL) (.slice oK V.ks.length cK) V.tk V.to V.x] W fun e w' => e = .returned (.bool (lacksB a V)) ∧ Below W.heap.size W w') :=
    fun W hW => lacks_any a (HO.out.kept (hW.mono (by simp; omega))) (Nat.le_trans (by simp; omega) hW.size)
  generalize takesB a V = L at *
  clear O h b0
  generalize lacksB a V = l0 at *
  generalize fits V a.tk a.to = f0 at *
  cases f0 with
  | false =>
    go_enter Tryd.func38, Tryd.ntmps38
    go_wp2_with fail
    refine HF.out.mono ?_
    rintro e w1 ⟨rfl, b⟩
    have B := Lib.hid (HB.out.trans (b.mono HB.out.size))
    clear b
    go_wp2_with fail
    go_ret
    exact ⟨by rw [HL.out]; rfl, B.out⟩
  | true =>
    go_enter Tryd.func38, Tryd.ntmps38
    go_wp2_with fail
    refine HF.out.mono ?_
    rintro e w1 ⟨rfl, b⟩
    have B := Lib.hid (HB.out.trans (b.mono HB.out.size))
    have B2 := Lib.hid b
    obtain ⟨hc, hfz⟩ := bcell b
    have hz : w.heap.size + 1 < w1.heap.size := by have := b.size; simp at this; omega
    clear b
    go_wp2_with fail
    refine (HZ.out _ B2.out).mono ?_
    rintro e w2 ⟨rfl, b⟩
    have B3 := Lib.hid (B.out.trans (b.mono B.out.size))
    clear b hc hfz hz
    go_wp2_with fail
    go_ret
    exact ⟨by rw [HL.out]; rfl, B3.out⟩
def toldB (a : Atr) (V : Val) : Bool := !a.cm || !(V.k == 0)
set_option maxHeartbeats 1000000 in
theorem isTold_any {n : Nat} {V : Val} {v : Value} {w : World} (a : Atr) (h : Lies n w V v) (hn : n ≤ w.heap.size) : Calls Tryd.prog 42 #[av a, v] w fun e w' => e = .returned (.bool (toldB a V)) ∧ Below w.heap.size w w' := by
  obtain ⟨oL, oK, cL, cK, c, rfl, O⟩ := h.inv
  obtain ⟨nm, tk, t2, nd, cm, an, ow⟩ := a
  have HL : Hid (toldB ⟨nm, tk, t2, nd, cm, an, ow⟩ V = (!cm || !(V.k == 0))) := rfl
  have b0 : Below w.heap.size w ((w.alloc (.cells (ac ⟨nm, tk, t2, nd, cm, an, ow⟩) 31)).alloc (bx V oL oK cL cK)) := ((Below.refl w.heap.size w).alloc (Nat.le_refl _) (.cells (ac ⟨nm, tk, t2, nd, cm, an, ow⟩) 31)).alloc (by simp) _
  have HO := Lib.hid (O.kept (b0.mono hn)).lies
  have HB := Lib.hid b0
  have HN := Lib.hid (isNull_any HO.out)
  generalize toldB ⟨nm, tk, t2, nd, cm, an, ow⟩ V = L at *
  clear O h b0
  cases cm with
  | false =>
    go_enter Tryd.func42, Tryd.ntmps42
    go_wp2_with fail
    go_ret
    exact ⟨by rw [HL.out]; rfl, HB.out⟩
  | true =>
    go_enter Tryd.func42, Tryd.ntmps42
    go_wp2_with fail
    refine HN.out.mono ?_
    rintro e w1 ⟨rfl, b⟩
    have B := Lib.hid (HB.out.trans (b.mono HB.out.size))
    clear b
    go_wp2_with fail
    go_ret
    exact ⟨by rw [HL.out]; rfl, B.out⟩
theorem isNamed_any (a : Atr) (s : ByteArray) (w : World) : Calls Tryd.prog 36 #[av a, .string s] w fun e w' => e = .returned (.bool (decide (a.nm = s))) ∧ Below w.heap.size w w' := by
  by_cases he : a.nm = s
  · have HD : Hid (decide (a.nm = s) = true) := decide_eq_true he
    generalize decide (a.nm = s) = D at *
    obtain ⟨e1, e2⟩ := str_eq he
    clear he
    go_enter Tryd.func36, Tryd.ntmps36
    go_wp2_with fail
    go_ret
    exact ⟨by rw [HD.out]; rfl, (Below.refl _ _).alloc (Nat.le_refl _) _⟩
  · have HD : Hid (decide (a.nm = s) = false) := decide_eq_false he
    generalize decide (a.nm = s) = D at *
    obtain ⟨e1, e2⟩ := str_ne he
    clear he
    go_enter Tryd.func36, Tryd.ntmps36
    go_wp2_with fail
    go_ret
    exact ⟨by rw [HD.out]; rfl, (Below.refl _ _).alloc (Nat.le_refl _) _⟩
def isMapB (V : Val) : Bool := V.k == 5 && chk V
set_option maxHeartbeats 1000000 in
theorem isMap_any {n : Nat} {V : Val} {v : Value} {w : World} (hs : sz V ≤ 50000) (h : Lies n w V v) (hn : n ≤ w.heap.size) : Calls Tryd.prog 34 #[v] w fun e w' => e = .returned (.bool (isMapB V)) ∧ Below w.heap.size w w' := by
  obtain ⟨oL, oK, cL, cK, c, rfl, O⟩ := h.inv
  have HL : Hid (isMapB V = (V.k == 5 && chk V)) := rfl
  have b0 : Below w.heap.size w (w.alloc (bx V oL oK cL cK)) := (Below.refl w.heap.size w).alloc (Nat.le_refl _) _
  have HO := Lib.hid (O.kept (b0.mono hn)).lies
  have HB := Lib.hid b0
  have HN := Lib.hid (check_any n V _ _ hs HO.out (by simp; omega))
  generalize isMapB V = L at *
  clear O h b0
  obtain ⟨k5, hk⟩ : ∃ b, (V.k == 5) = b := ⟨_, rfl⟩
  rw [hk] at HL
  cases k5 with
  | false =>
    go_enter Tryd.func34, Tryd.ntmps34
    go_wp2_with fail
    go_ret
    exact ⟨by rw [HL.out]; rfl, HB.out⟩
  | true =>
    go_enter Tryd.func34, Tryd.ntmps34
    go_wp2_with fail
    refine HN.out.mono ?_
    rintro e w1 ⟨rfl, b⟩
    have B := Lib.hid (HB.out.trans (b.mono HB.out.size))
    clear b
    cases hc : chk V with
    | false =>
      rw [hc] at HL
      have HC := Lib.hid hc
      rw [if_neg (by simp)]
      clear hc
      go_wp2_with fail
      go_ret
      exact ⟨by rw [HL.out]; rfl, B.out⟩
    | true =>
      rw [hc] at HL
      rw [if_pos rfl]
      clear hc
      go_wp2_with fail
      go_ret
      exact ⟨by rw [HL.out]; rfl, B.out⟩
end Go.Proofs.YtfmgbhaldakpfaaDoor

/- An element of a map: Get in plain words, element. -/
namespace Go.Proofs.YtfmgbhaldakpfaaDoor
open Go.RowKit

/-- null -/
def nul : Val := flat 0 0 ⟨#[]⟩ 0 0
/-- where a key stands -/
def ixK (ks : List ByteArray) (s : ByteArray) : Option Nat := ks.findIdx? fun x => decide (x = s)
theorem kk_at {ks : List ByteArray} {j : Nat} (h : j < ks.length) : ks[j] = kk ks j := by
  unfold kk; rw [List.getD_eq_getElem?_getD, List.getElem?_eq_getElem h]; rfl
theorem ixK_none {ks : List ByteArray} {s : ByteArray} (h : At ks ks.length s (-1)) : ixK ks s = none := by
  unfold ixK
  rw [List.findIdx?_eq_none_iff]
  rcases h with ⟨_, h⟩ | ⟨j, h, _⟩
  · intro x hx
    obtain ⟨i, hi, e⟩ := List.getElem_of_mem hx
    have := h i hi
    rw [← kk_at hi, e] at this
    simpa using this
  · omega
theorem ixK_some {ks : List ByteArray} {s : ByteArray} {j : Nat} (h : At ks ks.length s j) : ixK ks s = some j := by
  unfold ixK
  rcases h with ⟨h, _⟩ | ⟨i, e, hi, h1, h2⟩
  · omega
  · obtain rfl : j = i := by omega
    rw [List.findIdx?_eq_some_iff_getElem]
    refine ⟨hi, by rw [kk_at hi]; simpa using h1, fun q hq => ?_⟩
    rw [kk_at (by omega)]
    simpa using h2 q hq
/-- the element under a key; null: there is none -/
def elt (V : Val) (s : ByteArray) : Val :=
  if V.k = 5 then match ixK V.ks s with
    | none => nul
    | some j => match V.l[j]? with
      | none => nul
      | some X => X.sx (X.x || V.x)
  else nul
/-- what Get says beside it -/
def eltE (V : Val) (s : ByteArray) : Int := if V.k = 5 then (match ixK V.ks s with | none => 11 | some _ => 0) else 8
/-- a value of new memory -/
def VPost (Y : Val) (w : World) (e : Ending) (w' : World) : Prop :=
  ∃ (oL oK : Option Addr) (cL cK : Nat) (c : Nat → Nat → Value), e = .returned (vv Y.k Y.i Y.s (.slice oL Y.l.length cL) (.slice oK Y.ks.length cK) Y.tk Y.to Y.x) ∧ OpnP (Fr w w') w' Y oL oK cL cK c ∧ Below w.heap.size w w'
def VePost (Y : Val) (x : Int) (w : World) (e : Ending) (w' : World) : Prop :=
  ∃ (oL oK : Option Addr) (cL cK : Nat) (c : Nat → Nat → Value), e = .returned (.tuple #[vv Y.k Y.i Y.s (.slice oL Y.l.length cL) (.slice oK Y.ks.length cK) Y.tk Y.to Y.x, .int .i64 x]) ∧ OpnP (Fr w w') w' Y oL oK cL cK c ∧ Below w.heap.size w w'
theorem nul_opn (P : Nat → Prop) (w : World) : OpnP P w nul none none 0 0 fun _ _ => undef :=
  ⟨by decide, by decide, by decide, by decide, Nat.zero_le _, (fun s h => by cases h), RowP.nil _ _ _ _, RowP.nil _ _ _ _, (fun j x h => by cases h)⟩
theorem get2_any {n : Nat} {V : Val} {v : Value} {w : World} (s : ByteArray) (hs : sz V ≤ 60000) (hkl : V.k = 5 → V.ks.length = V.l.length) (h : Lies n w V v) (hn : n ≤ w.heap.size) : Calls Tryd.prog 47 #[v, .string s] w (VePost (elt V s) (eltE V s) w) := by
  refine (get_any s hs hkl h hn).mono ?_
  rintro e w1 (⟨h5, rfl, hb⟩ | ⟨h5, hA, rfl, hb⟩ | ⟨j, X, h5, hA, hX, hP⟩)
  · have e1 : elt V s = nul := by unfold elt; rw [if_neg h5]
    have e2 : eltE V s = 8 := by unfold eltE; rw [if_neg h5]
    rw [e1, e2]
    exact ⟨none, none, 0, 0, _, rfl, nul_opn _ _, hb⟩
  · have e1 : elt V s = nul := by unfold elt; rw [if_pos h5, ixK_none hA]
    have e2 : eltE V s = 11 := by unfold eltE; rw [if_pos h5, ixK_none hA]
    rw [e1, e2]
    exact ⟨none, none, 0, 0, _, rfl, nul_opn _ _, hb⟩
  · have e1 : elt V s = X.sx (X.x || V.x) := by unfold elt; rw [if_pos h5, ixK_some hA]; simp only; rw [hX]
    have e2 : eltE V s = 0 := by unfold eltE; rw [if_pos h5, ixK_some hA]
    rw [e1, e2]
    exact hP
theorem chk_kl {V : Val} (h : chk V = true) : V.k = 5 → V.ks.length = V.l.length := by
  intro h5
  unfold chk at h
  rw [Bool.and_eq_true] at h
  have h2 := h.2
  unfold okT at h2
  rw [Bool.and_eq_true] at h2
  exact ((ok1_facts h2.1).2.2.2.2.2.2.2.2.2.2 h5).1
set_option maxHeartbeats 2000000 in
set_option maxRecDepth 100000 in
theorem element_any {n : Nat} {V : Val} {v : Value} {w : World} (a : Atr) (hs : sz V ≤ 60000) (hkl : V.k = 5 → V.ks.length = V.l.length) (h : Lies n w V v) (hn : n ≤ w.heap.size) : Calls Tryd.prog 69 #[v, av a] w (VPost (elt V a.nm) w) := by
  obtain ⟨oL, oK, cL, cK, c, rfl, O⟩ := h.inv
  have b0 : Below w.heap.size w (((w.alloc (bx V oL oK cL cK)).alloc (.cells (ac a) 31)).alloc (.cells zc 42)) := bal (bal (bal (Below.refl _ _) _) _) _
  have HB := Lib.hid b0
  have HO := Lib.hid (O.kept (b0.mono hn)).lies
  have HG := Lib.hid (get2_any a.nm hs hkl HO.out (by simp; omega))
  have HZ : Hid ((((w.alloc (bx V oL oK cL cK)).alloc (.cells (ac a) 31)).alloc (.cells zc 42)).heap[w.heap.size + 2]? = some (.cells zc 42 (0, 0))) := at_top _ _ _ (by simp)
  have HS : Hid ((((w.alloc (bx V oL oK cL cK)).alloc (.cells (ac a) 31)).alloc (.cells zc 42)).heap.size = w.heap.size + 3) := by simp [Hid]
  generalize elt V a.nm = Y at *
  clear b0 h O hkl hs
  go_enter Tryd.func69, Tryd.ntmps69
  go_wp2_with fail
  refine HG.out.mono ?_
  rintro e w1 ⟨o1, o3, c1, c3, cc, rfl, OY, b⟩
  generalize (World.alloc (World.alloc _ _) _) = w0 at *
  have hz1 := b.size
  rw [HS.out] at hz1
  have Q1 : Hid ((w1.alloc (bx Y o1 o3 c1 c3)).heap[w.heap.size + 2]? = some (.cells zc 42 (0, 0))) :=
    (((Below.refl (w.heap.size + 3) w1).alloc hz1 _).block _ (by omega)).trans ((b.block _ (by rw [HS.out]; omega)).trans HZ.out)
  have BB : Below w.heap.size w (w1.alloc (bx Y o1 o3 c1 c3)) := bal (HB.out.trans (b.mono HB.out.size)) _
  have R := Lib.hid (store_box' Q1.out (c8 Y (.slice o1 Y.l.length c1) (.slice o3 Y.ks.length c3)) rfl)
  have BW := Lib.hid (below_setRow BB (by omega : w.heap.size ≤ w.heap.size + 2) (over zc (c8 Y (.slice o1 Y.l.length c1) (.slice o3 Y.ks.length c3))))
  have OK := Lib.hid (OY.keptP (w' := ((w1.alloc (bx Y o1 o3 c1 c3)).setRow (w.heap.size + 2) (over zc (c8 Y (.slice o1 Y.l.length c1) (.slice o3 Y.ks.length c3))))) (P' := Fr w ((w1.alloc (bx Y o1 o3 c1 c3)).setRow (w.heap.size + 2) (over zc (c8 Y (.slice o1 Y.l.length c1) (.slice o3 Y.ks.length c3))))) fun k hk => by
    have hk1 := hk.1
    rw [HS.out] at hk1
    refine ⟨⟨by omega, by simp [World.setRow]; have := hk.2; omega⟩, ?_⟩
    exact (setRow_other (w1.alloc (bx Y o1 o3 c1 c3)) (w.heap.size + 2) _ k (by omega)).trans (Below.heap_alloc w1 _ k hk.2))
  have h8 : w1.heap.size < w1.heap.size + 1 := Nat.lt_succ_self _
  clear b BB OY
  go_upto_region 2 with (fail)
  go_wp2_with ((with_reducible refine wpList_store_at rfl 42 (.tmp 4) (.tmp 14) rfl (w.heap.size + 2) 0 rfl _ rfl 42 zc Q1.out ?st1 ?st2 ?st3 ?st4); case' st4 => generalize World.setRow _ _ _ = w5 at *)
  case st1 => simp
  case st2 => have := size42; simpa using this
  case st3 => simp [Value.oneCell']
  obtain ⟨p0, p1, p2, p3, p4, p5, p6, p7⟩ := cells8 (show w5.heap[w.heap.size + 2]? = some (.cells (c8 Y (.slice o1 Y.l.length c1) (.slice o3 Y.ks.length c3)) 42 (0, 0)) from R.out)
  exact bodyPost_ret (v := vv Y.k Y.i Y.s (.slice o1 Y.l.length c1) (.slice o3 Y.ks.length c3) Y.tk Y.to Y.x) (by simp [results, Tryd.results69, go_sem, p0, p1, p2, p3, p4, p5, p6, p7]) rfl ⟨o1, o3, c1, c3, cc, rfl, OK.out, BW.out⟩
end Go.Proofs.YtfmgbhaldakpfaaDoor

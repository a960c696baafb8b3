/- An element of a map: Get in plain words, element. -/
import Derived.Test.YtfmgbhaldakpfaaDoorSk
import Derived.Test.YtfmgbhaldakpfaaDoorP
namespace Go.Proofs.YtfmgbhaldakpfaaDoor
open Go.RowKit

/-- null -/
def nul : Val := flat 0 0 ⟨#[]⟩ 0 0
/-- where a key stands -/
def ixK (ks : List ByteArray) (s : ByteArray) : Option Nat := ks.findIdx? fun x => decide (x = s)
theorem kk_at {ks : List ByteArray} {j : Nat} (h : j < ks.length) : ks[j] = kk ks j := by
  unfold kk; rw [List.getD_eq_getElem?_getD, List.getElem?_eq_getElem h]; rfl
theorem ixK_none {ks : List ByteArray} {s : ByteArray} (h : At ks ks.length s (-1)) : ixK ks s = none := by
  unfold ixK
  rw [List.findIdx?_eq_none_iff]
  rcases h with ⟨_, h⟩ | ⟨j, h, _⟩
  · intro x hx
    obtain ⟨i, hi, e⟩ := List.getElem_of_mem hx
    have := h i hi
    rw [← kk_at hi, e] at this
    simpa using this
  · omega
theorem ixK_some {ks : List ByteArray} {s : ByteArray} {j : Nat} (h : At ks ks.length s j) : ixK ks s = some j := by
  unfold ixK
  rcases h with ⟨h, _⟩ | ⟨i, e, hi, h1, h2⟩
  · omega
  · obtain rfl : j = i := by omega
    rw [List.findIdx?_eq_some_iff_getElem]
    refine ⟨hi, by rw [kk_at hi]; simpa using h1, fun q hq => ?_⟩
    rw [kk_at (by omega)]
    simpa using h2 q hq
/-- the element under a key; null: there is none -/
def elt (V : Val) (s : ByteArray) : Val :=
  if V.k = 5 then match ixK V.ks s with
    | none => nul
    | some j => match V.l[j]? with
      | none => nul
      | some X => X.sx (X.x || V.x)
  else nul
/-- what Get says beside it -/
def eltE (V : Val) (s : ByteArray) : Int := if V.k = 5 then (match ixK V.ks s with | none => 11 | some _ => 0) else 8
/-- a value of new memory -/
def VPost (Y : Val) (w : World) (e : Ending) (w' : World) : Prop :=
  ∃ (oL oK : Option Addr) (cL cK : Nat) (c : Nat → Nat → Value), e = .returned (vv Y.k Y.i Y.s (.slice oL Y.l.length cL) (.slice oK Y.ks.length cK) Y.tk Y.to Y.x) ∧ OpnP (Fr w w') w' Y oL oK cL cK c ∧ Below w.heap.size w w'
def VePost (Y : Val) (x : Int) (w : World) (e : Ending) (w' : World) : Prop :=
  ∃ (oL oK : Option Addr) (cL cK : Nat) (c : Nat → Nat → Value), e = .returned (.tuple #[vv Y.k Y.i Y.s (.slice oL Y.l.length cL) (.slice oK Y.ks.length cK) Y.tk Y.to Y.x, .int .i64 x]) ∧ OpnP (Fr w w') w' Y oL oK cL cK c ∧ Below w.heap.size w w'
theorem nul_opn (P : Nat → Prop) (w : World) : OpnP P w nul none none 0 0 fun _ _ => undef :=
  ⟨by decide, by decide, by decide, by decide, Nat.zero_le _, (fun s h => by cases h), RowP.nil _ _ _ _, RowP.nil _ _ _ _, (fun j x h => by cases h)⟩
theorem get2_any {n : Nat} {V : Val} {v : Value} {w : World} (s : ByteArray) (hs : sz V ≤ 60000) (hkl : V.k = 5 → V.ks.length = V.l.length) (h : Lies n w V v) (hn : n ≤ w.heap.size) : Calls Tryd.prog 47 #[v, .string s] w (VePost (elt V s) (eltE V s) w) := by
  refine (get_any s hs hkl h hn).mono ?_
  rintro e w1 (⟨h5, rfl, hb⟩ | ⟨h5, hA, rfl, hb⟩ | ⟨j, X, h5, hA, hX, hP⟩)
  · have e1 : elt V s = nul := by unfold elt; rw [if_neg h5]
    have e2 : eltE V s = 8 := by unfold eltE; rw [if_neg h5]
    rw [e1, e2]
    exact ⟨none, none, 0, 0, _, rfl, nul_opn _ _, hb⟩
  · have e1 : elt V s = nul := by unfold elt; rw [if_pos h5, ixK_none hA]
    have e2 : eltE V s = 11 := by unfold eltE; rw [if_pos h5, ixK_none hA]
    rw [e1, e2]
    exact ⟨none, none, 0, 0, _, rfl, nul_opn _ _, hb⟩
  · have e1 : elt V s = X.sx (X.x || V.x) := by unfold elt; rw [if_pos h5, ixK_some hA]; simp only; rw [hX]
    have e2 : eltE V s = 0 := by unfold eltE; rw [if_pos h5, ixK_some hA]
    rw [e1, e2]
    exact hP
theorem chk_kl {V : Val} (h : chk V = true) : V.k = 5 → V.ks.length = V.l.length := by
  intro h5
  unfold chk at h
  rw [Bool.and_eq_true] at h
  have h2 := h.2
  unfold okT at h2
  rw [Bool.and_eq_true] at h2
  exact ((ok1_facts h2.1).2.2.2.2.2.2.2.2.2.2 h5).1
set_option maxHeartbeats 2000000 in
set_option maxRecDepth 100000 in
theorem element_any {n : Nat} {V : Val} {v : Value} {w : World} (a : Atr) (hs : sz V ≤ 60000) (hkl : V.k = 5 → V.ks.length = V.l.length) (h : Lies n w V v) (hn : n ≤ w.heap.size) : Calls Tryd.prog 69 #[v, av a] w (VPost (elt V a.nm) w) := by
  obtain ⟨oL, oK, cL, cK, c, rfl, O⟩ := h.inv
  have b0 : Below w.heap.size w (((w.alloc (bx V oL oK cL cK)).alloc (.cells (ac a) 31)).alloc (.cells zc 42)) := bal (bal (bal (Below.refl _ _) _) _) _
  have HB := Lib.hid b0
  have HO := Lib.hid (O.kept (b0.mono hn)).lies
  have HG := Lib.hid (get2_any a.nm hs hkl HO.out (by simp; omega))
  have HZ : Hid ((((w.alloc (bx V oL oK cL cK)).alloc (.cells (ac a) 31)).alloc (.cells zc 42)).heap[w.heap.size + 2]? = some (.cells zc 42 (0, 0))) := at_top _ _ _ (by simp)
  have HS : Hid ((((w.alloc (bx V oL oK cL cK)).alloc (.cells (ac a) 31)).alloc (.cells zc 42)).heap.size = w.heap.size + 3) := by simp [Hid]
  generalize elt V a.nm = Y at *
  clear b0 h O hkl hs
  go_enter Tryd.func69, Tryd.ntmps69
  go_wp2_with fail
  refine HG.out.mono ?_
  rintro e w1 ⟨o1, o3, c1, c3, cc, rfl, OY, b⟩
  generalize (World.alloc (World.alloc _ _) _) = w0 at *
  have hz1 := b.size
  rw [HS.out] at hz1
  have Q1 : Hid ((w1.alloc (bx Y o1 o3 c1 c3)).heap[w.heap.size + 2]? = some (.cells zc 42 (0, 0))) :=
    (((Below.refl (w.heap.size + 3) w1).alloc hz1 _).block _ (by omega)).trans ((b.block _ (by rw [HS.out]; omega)).trans HZ.out)
  have BB : Below w.heap.size w (w1.alloc (bx Y o1 o3 c1 c3)) := bal (HB.out.trans (b.mono HB.out.size)) _
  have R := Lib.hid (store_box' Q1.out (c8 Y (.slice o1 Y.l.length c1) (.slice o3 Y.ks.length c3)) rfl)
  have BW := Lib.hid (below_setRow BB (by omega : w.heap.size ≤ w.heap.size + 2) (over zc (c8 Y (.slice o1 Y.l.length c1) (.slice o3 Y.ks.length c3))))
  have OK := Lib.hid (OY.keptP (w' := ((w1.alloc (bx Y o1 o3 c1 c3)).setRow (w.heap.size + 2) (over zc (c8 Y (.slice o1 Y.l.length c1) (.slice o3 Y.ks.length c3))))) (P' := Fr w ((w1.alloc (bx Y o1 o3 c1 c3)).setRow (w.heap.size + 2) (over zc (c8 Y (.slice o1 Y.l.length c1) (.slice o3 Y.ks.length c3))))) fun k hk => by
    have hk1 := hk.1
    rw [HS.out] at hk1
    refine ⟨⟨by omega, by simp [World.setRow]; have := hk.2; omega⟩, ?_⟩
    exact (setRow_other (w1.alloc (bx Y o1 o3 c1 c3)) (w.heap.size + 2) _ k (by omega)).trans (Below.heap_alloc w1 _ k hk.2))
  have h8 : w1.heap.size < w1.heap.size + 1 := Nat.lt_succ_self _
  clear b BB OY
  go_upto_region 2 with (fail)
  go_wp2_with ((with_reducible refine wpList_store_at rfl 42 (.tmp 4) (.tmp 14) rfl (w.heap.size + 2) 0 rfl _ rfl 42 zc Q1.out ?st1 ?st2 ?st3 ?st4); case' st4 => generalize World.setRow _ _ _ = w5 at *)
  case st1 => simp
  case st2 => have := size42; simpa using this
  case st3 => simp [Value.oneCell']
  obtain ⟨p0, p1, p2, p3, p4, p5, p6, p7⟩ := cells8 (show w5.heap[w.heap.size + 2]? = some (.cells (c8 Y (.slice o1 Y.l.length c1) (.slice o3 Y.ks.length c3)) 42 (0, 0)) from R.out)
  exact bodyPost_ret (v := vv Y.k Y.i Y.s (.slice o1 Y.l.length c1) (.slice o3 Y.ks.length c3) Y.tk Y.to Y.x) (by simp [results, Tryd.results69, go_sem, p0, p1, p2, p3, p4, p5, p6, p7]) rfl ⟨o1, o3, c1, c3, cc, rfl, OK.out, BW.out⟩
end Go.Proofs.YtfmgbhaldakpfaaDoor

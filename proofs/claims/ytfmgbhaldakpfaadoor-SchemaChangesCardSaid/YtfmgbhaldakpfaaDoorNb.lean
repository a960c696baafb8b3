/- From, At, Get. -/
import Derived.Test.YtfmgbhaldakpfaaDoorNa
import Derived.Test.YtfmgbhaldakpfaaDoorMf
import Derived.StillTailTactics
namespace Go.Proofs.YtfmgbhaldakpfaaDoor
open Go.RowKit

theorem lie8z (w : World) (V : Val) (oL oK : Option Addr) (cL cK : Nat) : Hd ((w.alloc (bx V oL oK cL cK)).alloc (.cells zc 42)) w.heap.size V (.slice oL V.l.length cL) (.slice oK V.ks.length cK) :=
  (Hd.made w V _ _).kept ((Below.refl (w.heap.size + 1) _).alloc (by simp) (.cells zc 42)) (Nat.lt_succ_self _)
theorem OpnP.keptP {P P' : Nat → Prop} {w w' : World} {V : Val} {oL oK : Option Addr} {cL cK : Nat} {c : Nat → Nat → Value} (h : OpnP P w V oL oK cL cK c) (b : ∀ k, P k → P' k ∧ w'.heap[k]? = w.heap[k]?) : OpnP P' w' V oL oK cL cK c :=
  ⟨h.wk, h.wi, h.wtk, h.wto, h.ws, h.wks, h.L.keptP b, h.K.keptP b, fun j x hx => (h.el j x hx).keptP b⟩
/-- a copy, and all is well -/
def OkPost (Y : Val) (w : World) (e : Ending) (w' : World) : Prop :=
  ∃ (oL oK : Option Addr) (cL cK : Nat) (c : Nat → Nat → Value), e = .returned (.tuple #[vv Y.k Y.i Y.s (.slice oL Y.l.length cL) (.slice oK Y.ks.length cK) Y.tk Y.to Y.x, .int .i64 0]) ∧ OpnP (Fr w w') w' Y oL oK cL cK c ∧ Below w.heap.size w w'
abbrev zv : Value := vv 0 0 ⟨#[]⟩ (.slice none 0 0) (.slice none 0 0) 0 0 false
def AtPost (V : Val) (i : Int) (w : World) (e : Ending) (w' : World) : Prop :=
  (V.k ≠ 4 ∧ e = .returned (.tuple #[zv, .int .i64 8]) ∧ Below w.heap.size w w') ∨ (V.k = 4 ∧ (i < 0 ∨ V.l.length ≤ i) ∧ e = .returned (.tuple #[zv, .int .i64 11]) ∧ Below w.heap.size w w') ∨
  ∃ (j : Nat) (X : Val), V.k = 4 ∧ i = j ∧ V.l[j]? = some X ∧ OkPost (X.sx (X.x || V.x)) w e w'
def GetPost (V : Val) (s : ByteArray) (w : World) (e : Ending) (w' : World) : Prop :=
  (V.k ≠ 5 ∧ e = .returned (.tuple #[zv, .int .i64 8]) ∧ Below w.heap.size w w') ∨ (V.k = 5 ∧ At V.ks V.ks.length s (-1) ∧ e = .returned (.tuple #[zv, .int .i64 11]) ∧ Below w.heap.size w w') ∨
  ∃ (j : Nat) (X : Val), V.k = 5 ∧ At V.ks V.ks.length s j ∧ V.l[j]? = some X ∧ OkPost (X.sx (X.x || V.x)) w e w'
set_option maxRecDepth 100000 in
set_option maxHeartbeats 4000000 in
theorem get_any {n : Nat} {V : Val} {v : Value} {w : World} (s : ByteArray) (hs : sz V ≤ 60000) (hkl : V.k = 5 → V.ks.length = V.l.length) (h : Lies n w V v) (hn : n ≤ w.heap.size) : Calls Tryd.prog 47 #[v, .string s] w (GetPost V s w) := by
  obtain ⟨oL, oK, cL, cK, c, rfl, O⟩ := h.inv
  have l1 := O.L.1
  have l2 := O.L.2.1
  unfold maxLen at l2
  have HB := Lib.hid ((lie8z w V oL oK cL cK))
  have HB1 : Hid (((w.alloc (bx V oL oK cL cK)).alloc (.cells zc 42)).heap[w.heap.size + 1]? = some (.cells zc 42 (0, 0))) := by have := heap_alloc_new (w.alloc (bx V oL oK cL cK)) (.cells zc 42); rw [World.size_alloc] at this; exact this
  have HW := Lib.hid (((Below.refl w.heap.size w).alloc (Nat.le_refl _) (bx V oL oK cL cK)).alloc (by simp) (.cells zc 42))
  have HZ : Hid (((w.alloc (bx V oL oK cL cK)).alloc (.cells zc 42)).heap.size = w.heap.size + 2) := by simp [Hid]
  have H := Lib.hid (O.kept (HW.out.mono hn))
  clear h O
  by_cases h5 : V.k = 5
  · have g5 : (V.k != 5) = false := by simp [h5]
    have hkl' := hkl h5
    have hcn : cnt V = V.ks.length := by unfold cnt; rw [if_neg (by omega), if_pos h5]; omega
    have hck : cntK V = V.ks.length := by unfold cntK; rw [if_pos h5]; omega
    have HK := Lib.hid (And.intro h5 (And.intro hkl' (And.intro hcn hck)))
    clear h5 hkl hkl' hcn hck
    go_enter Tryd.func47, Tryd.ntmps47
    go_upto_region 1 with fail
    generalize (w.alloc _).alloc _ = w0 at *
    obtain ⟨x8, x0, x1, x2, x3, x4, x5, x6, x7⟩ := HB.out
    go_wp2_with fail
    refine (held_any H.out (by have := HZ.out; omega)).mono ?_
    rintro e w2 ⟨oL2, oK2, cL2, cK2, rfl, rL, rK, b2⟩
    rw [HK.out.2.2.1] at rL
    rw [HK.out.2.2.2] at rK
    rw [HK.out.2.2.1, HK.out.2.2.2]
    have l5 := rL.1
    have l6 := rL.2.1
    unfold maxLen at l6
    have HL := Lib.hid rL
    have HKR := Lib.hid rK
    have B2 := Lib.hid b2
    clear b2 rL rK x8 x0 x1 x2 x3 x4 x5 x6 x7
    go_wp2_with fail
    refine (index_any s HKR.out (by have := HZ.out; have := B2.out.size; omega)).mono ?_
    rintro e w3 ⟨⟨r, rfl, hA⟩, b3⟩
    have B3 := Lib.hid (B2.out.trans (b3.mono B2.out.size))
    have Q3 : Hid (w3.heap[w.heap.size + 1]? = some (.cells zc 42 (0, 0))) := (B3.out.block _ (by have := HZ.out; omega)).trans HB1.out
    obtain ⟨x8, x0, x1, x2, x3, x4, x5, x6, x7⟩ := HB.out.kept B3.out (by have := HZ.out; omega)
    have HA := Lib.hid hA
    rcases hA with ⟨rfl, _⟩ | ⟨j, rfl, hj, _⟩
    · clear b3
      have R := Lib.hid (store_box Q3.out zc rfl)
      have B9 := Lib.hid (below_setRow (HW.out.trans (B3.out.mono HW.out.size)) (Nat.le_succ _) (over zc zc))
      go_wp2_with ((with_reducible refine wpList_store_at rfl 42 (.tmp 4) (.tmp 23) rfl (w.heap.size + 1) 0 rfl _ rfl 42 zc Q3.out ?sa1 ?sa2 ?sa3 ?sa4); case' sa4 => generalize World.setRow _ _ _ = w9 at *)
      case sa1 => simp
      case sa2 => have := size42; simpa using this
      case sa3 => simp [Value.oneCell']
      obtain ⟨p0, p1, p2, p3, p4, p5, p6, p7⟩ := cells8 R.out
      refine bodyPost_ret (v := .tuple #[zv, .int .i64 11]) (by simp [results, Tryd.results47, go_sem, p0, p1, p2, p3, p4, p5, p6, p7]) rfl ?_
      exact .inr (.inl ⟨HK.out.1, HA.out, rfl, B9.out⟩)
    · have hjl : j < V.l.length := by have := HK.out.2.1; omega
      obtain ⟨X, hX⟩ : ∃ X, V.l[j]? = some X := ⟨_, List.getElem?_eq_getElem hjl⟩
      obtain ⟨b', off', oL3, oK3, cL3, cK3, c3, e1, hb', ⟨y0, y1, y2, y3, y4, y5, y6, y7⟩, OX⟩ := (HL.out.below (b3.mono (by have := HZ.out; have := B2.out.size; omega))).elv hj (((H.out.kept (B3.out.mono (by have := HZ.out; omega))).el j X hX))
      subst e1
      have OX2 := Lib.hid OX
      have HX := Lib.hid hX
      have hm := sz_mem (List.mem_of_getElem? hX)
      have j0 : (0 : Int) ≤ j := by omega
      have j1 : (j : Int) < V.ks.length := by omega
      clear hX OX b3
      go_upto_region 7 with fail
      go_still_tail 6, (by kernel_rfl)
      change wpList _ _ _ _ _ w3.drew
      have KD := Lib.hid ((Below.refl w3.heap.size w3).drew)
      have BD := Lib.hid (B3.out.trans (KD.out.mono B3.out.size))
      have OD := Lib.hid (OX2.out.kept (KD.out.mono (by have := HZ.out; have := B3.out.size; omega)))
      have QD : Hid (w3.drew.heap[w.heap.size + 1]? = some (.cells zc 42 (0, 0))) := (KD.out.block _ (by have := HZ.out; have := B3.out.size; omega)).trans Q3.out
      clear KD
      generalize w3.drew = w4 at *
      obtain ⟨Y, hY⟩ : ∃ Y, Y = X.sx (X.x || V.x) := ⟨_, rfl⟩
      have CM := marked_any (w := w4) V.x (by omega) OD.out.lies (by have := HZ.out; have := BD.out.size; omega)
      rw [← hY] at CM
      have HCM := Lib.hid CM
      have HY := Lib.hid hY
      clear CM hY
      go_wp2_with fail
      refine HCM.out.mono ?_
      rintro e w5 ⟨o1, o3, cap1, cap3, c1, rfl, O1, _, _, b5⟩
      have z4 := BD.out.size
      have hz := HZ.out
      have Q5 : Hid (w5.heap[w.heap.size + 1]? = some (.cells zc 42 (0, 0))) := by unfold Hid; rw [b5.block _ (by omega)]; exact QD.out
      have B5 := Lib.hid (HW.out.trans ((BD.out.trans (b5.mono BD.out.size)).mono (by omega)))
      have M := Lib.hid O1
      clear O1 b5
      have R := Lib.hid (store_box Q5.out (#[.int .i64 Y.k, .int .i64 Y.i, .string Y.s, .slice o1 Y.l.length cap1, .slice o3 Y.ks.length cap3, .int .i64 Y.tk, .int .i64 Y.to, .bool Y.x]) rfl)
      have B9 := Lib.hid (below_setRow (B5.out) (Nat.le_succ _) (over zc (#[.int .i64 Y.k, .int .i64 Y.i, .string Y.s, .slice o1 Y.l.length cap1, .slice o3 Y.ks.length cap3, .int .i64 Y.tk, .int .i64 Y.to, .bool Y.x])))
      have K9 : Hid (∀ k, w.heap.size + 2 ≤ k → (w5.setRow (w.heap.size + 1) (over zc (#[.int .i64 Y.k, .int .i64 Y.i, .string Y.s, .slice o1 Y.l.length cap1, .slice o3 Y.ks.length cap3, .int .i64 Y.tk, .int .i64 Y.to, .bool Y.x]))).heap[k]? = w5.heap[k]?) := fun k hk => setRow_other _ _ _ _ (by omega)
      have S9 : Hid ((w5.setRow (w.heap.size + 1) (over zc (#[.int .i64 Y.k, .int .i64 Y.i, .string Y.s, .slice o1 Y.l.length cap1, .slice o3 Y.ks.length cap3, .int .i64 Y.tk, .int .i64 Y.to, .bool Y.x]))).heap.size = w5.heap.size) := size_setRow _ _ _
      go_wp2_with ((with_reducible refine wpList_store_at rfl 42 (.tmp 4) (.tmp 30) rfl (w.heap.size + 1) 0 rfl _ rfl 42 zc Q5.out ?sb1 ?sb2 ?sb3 ?sb4); case' sb4 => generalize World.setRow _ _ _ = w9 at *)
      case sb1 => simp
      case sb2 => have := size42; simpa using this
      case sb3 => simp [Value.oneCell']
      obtain ⟨p0, p1, p2, p3, p4, p5, p6, p7⟩ := cells8 R.out
      refine bodyPost_ret (v := .tuple #[vv Y.k Y.i Y.s (.slice o1 Y.l.length cap1) (.slice o3 Y.ks.length cap3) Y.tk Y.to Y.x, .int .i64 0]) (by simp [results, Tryd.results47, go_sem, p0, p1, p2, p3, p4, p5, p6, p7]) rfl ?_
      exact .inr (.inr ⟨j, X, HK.out.1, HA.out, HX.out, by rw [← HY.out]; exact ⟨o1, o3, cap1, cap3, c1, rfl, M.out.keptP fun k hk => ⟨⟨by have := hk.1; omega, by rw [S9.out]; exact hk.2⟩, K9.out k (by have := hk.1; omega)⟩, B9.out⟩⟩)
  · have g5 : (V.k != 5) = true := by simpa using h5
    have HK := Lib.hid h5
    clear h5 hkl
    go_enter Tryd.func47, Tryd.ntmps47
    go_upto_region 1 with fail
    generalize (w.alloc _).alloc _ = w0 at *
    obtain ⟨x8, x0, x1, x2, x3, x4, x5, x6, x7⟩ := HB.out
    have R := Lib.hid (store_box HB1.out zc rfl)
    have B9 := Lib.hid (below_setRow (HW.out) (Nat.le_succ _) (over zc zc))
    go_wp2_with ((with_reducible refine wpList_store_at rfl 42 (.tmp 4) (.tmp 12) rfl (w.heap.size + 1) 0 rfl _ rfl 42 zc HB1.out ?sc1 ?sc2 ?sc3 ?sc4); case' sc4 => generalize World.setRow _ _ _ = w9 at *)
    case sc2 => have := size42; simpa using this
    case sc3 => simp [Value.oneCell']
    obtain ⟨p0, p1, p2, p3, p4, p5, p6, p7⟩ := cells8 R.out
    refine bodyPost_ret (v := .tuple #[zv, .int .i64 8]) (by simp [results, Tryd.results47, go_sem, p0, p1, p2, p3, p4, p5, p6, p7]) rfl ?_
    exact .inl ⟨HK.out, rfl, B9.out⟩
end Go.Proofs.YtfmgbhaldakpfaaDoor

/- Copy, Bare, marked, Mark, List. -/
import Derived.Test.YtfmgbhaldakpfaaDoorI
namespace Go.Proofs.YtfmgbhaldakpfaaDoor
open Go.RowKit

theorem OpnP.sx {P : Nat → Prop} {w : World} {V : Val} {oL oK : Option Addr} {cL cK : Nat} {c : Nat → Nat → Value} (h : OpnP P w V oL oK cL cK c) (y : Bool) : OpnP P w (V.sx y) oL oK cL cK c :=
  ⟨h.wk, h.wi, h.wtk, h.wto, h.ws, h.wks, h.L, h.K, h.el⟩
theorem cp_shift {V : Val} {w w0 w1 w2 : World} {e : Ending} {oL oK : Option Addr} {cL cK : Nat} {c : Nat → Nat → Value} {lo : Nat} (O : OpnP (Fr w0 w1) w1 V oL oK cL cK c) (m1 : Mine w0.heap.size w1 oL 42 V.l.length 8) (m3 : Mine w0.heap.size w1 oK 9 V.ks.length 1)
    (A : Aft lo w1 w2) (h0 : lo ≤ w0.heap.size) (hw : w.heap.size ≤ w0.heap.size) (B : Below w.heap.size w w2) (he : e = .returned (vv V.k V.i V.s (.slice oL V.l.length cL) (.slice oK V.ks.length cK) V.tk V.to V.x)) : CpPost V w e w2 := by
  have k1 : ∀ k, Fr w0 w1 k → Fr w w2 k ∧ w2.heap[k]? = w1.heap[k]? := fun k hk => ⟨⟨by have := hk.1; omega, Nat.lt_of_lt_of_le hk.2 A.size⟩, A.block k (by have := hk.1; omega) hk.2⟩
  exact cp_mk oL oK cL cK c he ⟨O.wk, O.wi, O.wtk, O.wto, O.ws, O.wks, O.L.keptP k1, O.K.keptP k1, fun j x hx => (O.el j x hx).keptP k1⟩ (m1.same hw A h0) (m3.same hw A h0) B
theorem sl_self (V : Val) : V.sl V.l = V := by cases V; rfl
set_option maxHeartbeats 2000000 in
set_option maxRecDepth 100000 in
theorem copy_any (N : Nat) (hN : N ≤ 60000) : ∀ (n : Nat) (V : Val) (v : Value) (w : World), sz V ≤ N → Lies n w V v → n ≤ w.heap.size → Calls Tryd.prog 46 #[v] w (CpPost V w) := by
  induction N with
  | zero => intro n V v w hs; have := sz_pos V; omega
  | succ N ih =>
    intro n V v w hs h hn
    have HR := Lib.hid (rebuilt_18 id N (by omega) (ih (by omega)))
    obtain ⟨oL, oK, cL, cK, c, rfl, O⟩ := h.inv
    have HF := Lib.hid O
    have HB1 : Hid (((w.alloc (bx V oL oK cL cK)).alloc (.cells zc 42)).heap[w.heap.size + 1]? = some (.cells zc 42 (0, 0))) := by have := heap_alloc_new (w.alloc (bx V oL oK cL cK)) (.cells zc 42); rw [World.size_alloc] at this; exact this
    have HW := Lib.hid (((Below.refl w.heap.size w).alloc (Nat.le_refl _) (bx V oL oK cL cK)).alloc (by simp) (.cells zc 42))
    have HZ : Hid (((w.alloc (bx V oL oK cL cK)).alloc (.cells zc 42)).heap.size = w.heap.size + 2) := by simp [Hid]
    clear h O ih
    go_enter Tryd.func46, Tryd.ntmps46
    go_wp2_with fail
    generalize (w.alloc _).alloc _ = w0 at *
    refine (HR.out _ _ _ _ hs (HF.out.kept (HW.out.mono hn)).lies (by have := HZ.out; omega)).mono ?_
    rw [List.map_id, sl_self]
    rintro e w1 ⟨o1, o3, cap1, cap3, c1, rfl, O1, m1, m3, b1⟩
    have Q1 : Hid (w1.heap[w.heap.size + 1]? = some (.cells zc 42 (0, 0))) := by unfold Hid; rw [b1.block _ (by have := HZ.out; omega)]; exact HB1.out
    have R := Lib.hid (store_box Q1.out (c8 V (.slice o1 V.l.length cap1) (.slice o3 V.ks.length cap3)) rfl)
    have B1 := HW.out.trans (b1.mono (by have := HZ.out; omega))
    have A4 := Lib.hid (Aft.setRow w1 (w.heap.size + 1) ((zc.toList.take 0 ++ (c8 V (.slice o1 V.l.length cap1) (.slice o3 V.ks.length cap3)).toList ++ zc.toList.drop (0 + (c8 V (.slice o1 V.l.length cap1) (.slice o3 V.ks.length cap3)).size)).toArray) (Nat.lt_succ_self _))
    have B4 := Lib.hid (below_setRow B1 (Nat.le_succ _) ((zc.toList.take 0 ++ (c8 V (.slice o1 V.l.length cap1) (.slice o3 V.ks.length cap3)).toList ++ zc.toList.drop (0 + (c8 V (.slice o1 V.l.length cap1) (.slice o3 V.ks.length cap3)).size)).toArray))
    have M := Lib.hid (And.intro O1 (And.intro m1 m3))
    clear B1 b1 O1 m1 m3
    go_wp2_with ((with_reducible refine wpList_store_at rfl 42 (.tmp 2) (.tmp 4) rfl (w.heap.size + 1) 0 rfl _ rfl 42 zc Q1.out ?st1 ?st2 ?st3 ?st4); case' st4 => generalize World.setRow _ _ _ = w5 at *)
    case st1 => simp
    case st2 => have := size42; simpa using this
    case st3 => simp [Value.oneCell']
    obtain ⟨p8, p0, p1, p2, p3, p4, p5, p6, p7⟩ := (show Wb w5 (w.heap.size + 1) V (.slice o1 V.l.length cap1) (.slice o3 V.ks.length cap3) from R.out).hd
    refine bodyPost_ret (v := vv V.k V.i V.s (.slice o1 V.l.length cap1) (.slice o3 V.ks.length cap3) V.tk V.to V.x) (by simp [results, Tryd.results46, go_sem, p0, p1, p2, p3, p4, p5, p6, p7]) rfl ?_
    exact cp_shift M.out.1 M.out.2.1 M.out.2.2 A4.out (by have := HZ.out; omega) (by have := HZ.out; omega) B4.out rfl
end Go.Proofs.YtfmgbhaldakpfaaDoor

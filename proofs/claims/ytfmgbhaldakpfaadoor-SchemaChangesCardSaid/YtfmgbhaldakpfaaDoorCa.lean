/- A copy, whose elements lie in other rows than its own. -/
import Derived.Test.YtfmgbhaldakpfaaDoorNb
namespace Go.Proofs.YtfmgbhaldakpfaaDoor
open Go.RowKit

/-- new blocks, but the row's own -/
abbrev Fd (o : Option Addr) (w w' : World) : Nat → Prop := fun b => Fr w w' b ∧ ∀ a, o = some a → b ≠ a.block
abbrev agg8 (c : Nat → Nat → Value) (j : Nat) : Value := .agg #[c j 0, c j 1, c j 2, c j 3, c j 4, c j 5, c j 6, c j 7]
def AnPostD (l : List Val) (w : World) (e : Ending) (w' : World) : Prop :=
  ∃ (o : Option Addr) (cap : Nat) (c : Nat → Nat → Value), e = .returned (.slice o l.length cap) ∧ RowP (Fr w w') w' o cap l.length 8 c ∧ (∀ j x, l[j]? = some x → LiesP (Fd o w w') w' x (agg8 c j)) ∧ Mine w.heap.size w' o 42 l.length 8 ∧ Below w.heap.size w w'
def CpPostD (V : Val) (w : World) (e : Ending) (w' : World) : Prop :=
  ∃ (oL oK : Option Addr) (cL cK : Nat) (c : Nat → Nat → Value), e = .returned (vv V.k V.i V.s (.slice oL V.l.length cL) (.slice oK V.ks.length cK) V.tk V.to V.x) ∧ OpnP (Fr w w') w' V oL oK cL cK c ∧ Mine w.heap.size w' oL 42 V.l.length 8 ∧ Mine w.heap.size w' oK 9 V.ks.length 1 ∧ Below w.heap.size w w' ∧ ∀ j x, V.l[j]? = some x → LiesP (Fd oL w w') w' x (agg8 c j)
theorem an_endD {l : List Val} {tr : Val → Val} {w wr : World} {C : Nat → Nat → Value} (hb : Below w.heap.size w wr) (hO : Out wr w.heap.size 42 l.length 8 l.length C)
    (hE : ∀ i x, i < l.length → l[i]? = some x → LiesP (fun b => w.heap.size < b ∧ b < wr.heap.size) wr (tr x) (.agg #[C i 0, C i 1, C i 2, C i 3, C i 4, C i 5, C i 6, C i 7])) (hl : l.length ≤ 60000) : AnPostD (l.map tr) w (.returned (.slice (some ⟨w.heap.size, 0, none⟩) l.length l.length)) wr := by
  refine ⟨some ⟨w.heap.size, 0, none⟩, l.length, C, by rw [List.length_map], ⟨by rw [List.length_map]; exact Nat.le_refl _, by unfold maxLen; omega, (fun h => by cases h), fun _ => ?_⟩, fun j x hx => ?_, .inr ⟨w.heap.size, C, rfl, Nat.le_refl _, by rw [List.length_map]; exact hO⟩, hb⟩
  · refine ⟨_, _, rfl, ⟨Nat.le_refl _, hO.lt⟩, fun j hj m hm => ?_⟩
    rw [List.length_map] at hj
    obtain ⟨cs, h1, h2, h3⟩ := hO
    rw [cell_of_row wr w.heap.size _ cs 42 (0, 0) h1, Nat.zero_add]
    exact h3 j hj m hm
  · rw [List.getElem?_map] at hx
    obtain ⟨y, hy, rfl⟩ := Option.map_eq_some_iff.1 hx
    exact (hE j y (List.getElem?_eq_some_iff.1 hy).1 hy).mono fun k hk => ⟨⟨by omega, hk.2⟩, fun a ha => by injection ha with ha; subst ha; show k ≠ w.heap.size; omega⟩
theorem Fd.shift {o : Option Addr} {w w0 w1 w5 : World} {lo : Nat} (T : Aft lo w1 w5) (h0 : lo ≤ w0.heap.size) (hw : w.heap.size ≤ w0.heap.size) : ∀ k, Fd o w0 w1 k → Fd o w w5 k ∧ w5.heap[k]? = w1.heap[k]? := fun k hk =>
  ⟨⟨⟨Nat.le_trans hw hk.1.1, Nat.lt_of_lt_of_le hk.1.2 T.size⟩, hk.2⟩, T.block k (Nat.le_trans h0 hk.1.1) hk.1.2⟩
theorem rb_endD {n : Nat} {V : Val} {tr : Val → Val} {w w0 w1 w2 w3 w5 : World} {oL oK o1 o3 : Option Addr} {cL cK cap1 cap3 : Nat} {c c1 : Nat → Nat → Value} (O : OpnP (fun b => b < n) w V oL oK cL cK c)
    (r1 : RowP (Fr w0 w1) w1 o1 cap1 (V.l.map tr).length 8 c1) (e1 : ∀ j x, (V.l.map tr)[j]? = some x → LiesP (Fd o1 w0 w1) w1 x (agg8 c1 j)) (m1 : Mine w0.heap.size w1 o1 42 (V.l.map tr).length 8)
    (r3 : RowP (Fr w2 w3) w3 o3 cap3 V.ks.length 1 fun j _ => .string (V.ks.getD j default)) (m3 : Mine w2.heap.size w3 o3 9 V.ks.length 1)
    (T1 : Aft (w.heap.size + 2) w1 w5) (T3 : Aft (w.heap.size + 2) w3 w5) (B : Below w.heap.size w w5) (h0 : w.heap.size + 2 ≤ w0.heap.size) (h2 : w.heap.size + 2 ≤ w2.heap.size) :
    CpPostD (V.sl (V.l.map tr)) w (.returned (vv V.k V.i V.s (.slice o1 V.l.length cap1) (.slice o3 V.ks.length cap3) V.tk V.to V.x)) w5 := by
  obtain ⟨a1, a2, a3, a4, a5, hE, O2, M1, M3, HB⟩ := rb_end O r1 (fun j x hx => (e1 j x hx).mono fun k hk => hk.1) m1 r3 m3 T1 T3 B h0 h2
  have k1 : ∀ k, Fr w0 w1 k → Fr w w5 k ∧ w5.heap[k]? = w1.heap[k]? := fun k hk => ⟨⟨by have := hk.1; omega, Nat.lt_of_lt_of_le hk.2 T1.size⟩, T1.block k (by have := hk.1; omega) hk.2⟩
  have k3 : ∀ k, Fr w2 w3 k → Fr w w5 k ∧ w5.heap[k]? = w3.heap[k]? := fun k hk => ⟨⟨by have := hk.1; omega, Nat.lt_of_lt_of_le hk.2 T3.size⟩, T3.block k (by have := hk.1; omega) hk.2⟩
  have kd := Fd.shift (o := o1) (w := w) T1 h0 (by omega)
  refine ⟨o1, o3, cap1, cap3, c1, ?_, ⟨O.wk, O.wi, O.wtk, O.wto, O.ws, O.wks, r1.keptP k1, r3.keptP k3, fun j x hx => (e1 j x hx).keptP fun k hk => ⟨(kd k hk).1.1, (kd k hk).2⟩⟩, m1.same (by omega) T1 h0, m3.same (by omega) T3 h2, B, fun j x hx => (e1 j x hx).keptP kd⟩
  show Ending.returned (vv V.k V.i V.s (.slice o1 V.l.length cap1) (.slice o3 V.ks.length cap3) V.tk V.to V.x) = Ending.returned (vv V.k V.i V.s (.slice o1 (V.l.map tr).length cap1) (.slice o3 V.ks.length cap3) V.tk V.to V.x)
  rw [List.length_map]
theorem cp_shiftD {V : Val} {w w0 w1 w2 : World} {e : Ending} {oL oK : Option Addr} {cL cK : Nat} {c : Nat → Nat → Value} {lo : Nat} (O : OpnP (Fr w0 w1) w1 V oL oK cL cK c) (m1 : Mine w0.heap.size w1 oL 42 V.l.length 8) (m3 : Mine w0.heap.size w1 oK 9 V.ks.length 1) (d1 : ∀ j x, V.l[j]? = some x → LiesP (Fd oL w0 w1) w1 x (agg8 c j))
    (A : Aft lo w1 w2) (h0 : lo ≤ w0.heap.size) (hw : w.heap.size ≤ w0.heap.size) (B : Below w.heap.size w w2) (he : e = .returned (vv V.k V.i V.s (.slice oL V.l.length cL) (.slice oK V.ks.length cK) V.tk V.to V.x)) : CpPostD V w e w2 := by
  have k1 : ∀ k, Fr w0 w1 k → Fr w w2 k ∧ w2.heap[k]? = w1.heap[k]? := fun k hk => ⟨⟨by have := hk.1; omega, Nat.lt_of_lt_of_le hk.2 A.size⟩, A.block k (by have := hk.1; omega) hk.2⟩
  exact ⟨oL, oK, cL, cK, c, he, ⟨O.wk, O.wi, O.wtk, O.wto, O.ws, O.wks, O.L.keptP k1, O.K.keptP k1, fun j x hx => (O.el j x hx).keptP k1⟩, m1.same hw A h0, m3.same hw A h0, B, fun j x hx => (d1 j x hx).keptP (Fd.shift A h0 hw)⟩
set_option maxRecDepth 100000 in
set_option maxHeartbeats 2000000 in
theorem anew_D (tr : Val → Val) (N : Nat) (hN : N ≤ 60000) (hf : ∀ (n : Nat) (V : Val) (v : Value) (w : World), sz V ≤ N → Lies n w V v → n ≤ w.heap.size → Calls Tryd.prog 46 #[v] w (CpPost (tr V) w))
    {n : Nat} {w : World} {l : List Val} {o : Option Addr} {cap : Nat} {c : Nat → Nat → Value} (hl : szL l ≤ N) (hR : Row n w o cap l.length 8 c) (hE : ∀ j x, l[j]? = some x → Lies n w x (.agg #[c j 0, c j 1, c j 2, c j 3, c j 4, c j 5, c j 6, c j 7])) (hn : n ≤ w.heap.size) :
    Calls Tryd.prog 77 #[.slice o l.length cap, .func (.func 46) #[] #[]] w (AnPostD (l.map tr) w) := by
  have hlen := szL_len l
  have hc := hR.1
  have hm := hR.2.1
  have hnil := fun (w : World) (a : Option Addr) (n c : Nat) => Lib.run_eql_slice_nil (P := Tryd.prog) w 40 42 a n c 0 0 Tryd.underlying40
  unfold maxLen at hm
  cases o with
  | none =>
    have h0 : cap = 0 := hR.2.2.1 rfl
    have h1 : l.length = 0 := by omega
    have h2 : l = [] := List.length_eq_zero_iff.1 h1
    subst h2
    subst h0
    clear hR hE hf hl hlen h1 hc hm
    go_enter Tryd.func77, Tryd.ntmps77
    go_wp2
    go_ret
    exact ⟨none, 0, c, rfl, RowP.nil _ _ _ _, fun j x h => by simp at h, .inl ⟨rfl, rfl⟩, Below.refl _ _⟩
  | some a =>
    have HF := Lib.hid (And.intro hf (And.intro hR hE))
    have hmk := make42 l.length (by omega)
    clear hf hR hE
    have HO : Hid (AnRel l tr w.heap.size w.heap.size w 0 (w.alloc (.cells (madeCells #[.int .i64 0, .int .i64 0, .string ⟨#[]⟩, .slice none 0 0, .slice none 0 0, .int .i64 0, .int .i64 0, .bool false] (l.length * 8)) 42))) :=
      ⟨(Below.refl _ _).alloc (Nat.le_refl _) _, fun _ _ => undef, Out.made _ _ _ _ _ _, fun i x h => absurd h (Nat.not_lt_zero _)⟩
    go_enter Tryd.func77, Tryd.ntmps77
    go_wp2_with fail
    generalize w.alloc (.cells (madeCells _ _) 42) = w0 at *
    clear hmk
    go_loopw [15] (fun i wr => ∃ j : Nat, j ≤ l.length ∧ i = .int .i64 j ∧ Hid (AnRel l tr w.heap.size w.heap.size w j wr)) (fun i _ => l.length - (intOf i).toNat)
    case atStart => exact ⟨0, Nat.zero_le _, rfl, HO⟩
    case round =>
      obtain ⟨j, hj, rfl, HR⟩ := hrel
      by_cases hlt : j < l.length
      · obtain ⟨X, hX⟩ : ∃ X, l[j]? = some X := ⟨_, List.getElem?_eq_getElem hlt⟩
        have BN := Lib.hid (HR.out.1.mono hn)
        obtain ⟨b', off', oL3, oK3, cL3, cK3, c3, e1, hb', ⟨y0, y1, y2, y3, y4, y5, y6, y7⟩, OX⟩ := (HF.out.2.1.below BN.out).elv hlt ((HF.out.2.2 j X hX).kept BN.out)
        injection e1 with e1
        subst e1
        have HX := Lib.hid hX
        have hmem := szL_mem (List.mem_of_getElem? hX)
        have OX2 := Lib.hid OX
        have HW3 := Lib.hid ((Below.refl wr.heap.size wr).alloc (Nat.le_refl _) (bx X oL3 oK3 cL3 cK3))
        clear hX OX
        go_wp2_with fail
        have hsz := HR.out.1.size
        refine (HF.out.1 n X _ _ (by omega) (OX2.out.kept (HW3.out.mono (by omega))).lies (by simp; omega)).mono ?_
        rintro e w1 ⟨oL, oK, cL, cK, c1, rfl, hO, _, _, b1⟩
        have hs1 := b1.size
        simp only [World.size_alloc] at hs1
        obtain ⟨hb2, C, ⟨cs, h1, h2, h3⟩, hold⟩ := HR.out
        have hgl : w.heap.size < wr.heap.size := (Array.getElem?_eq_some_iff.1 h1).1
        have hk : ∀ k, k < wr.heap.size → w1.heap[k]? = wr.heap[k]? := fun k hk => (b1.block k (by simp; omega)).trans (Below.heap_alloc _ _ _ hk)
        have h1' : w1.heap[w.heap.size]? = some (.cells cs 42 (0, 0)) := (hk _ hgl).trans h1
        have HS := Lib.hid (AnRel.step (Nat.le_refl _) HX.out ((hb2.trans (HW3.out.mono (by omega))).trans (b1.mono (by simp; omega))) (hO.mono fun k h => ⟨by have := h.1; simp at this; omega, h.2⟩) h1' h2 h3 hold (by omega) hk _ rfl)
        have H1 := Lib.hid (And.intro h1' h2)
        clear h1 h1' h2 h3 hold hb2 hO hk b1
        go_wp2_with ((with_reducible refine wpList_store_at rfl 42 (.tmp 25) (.tmp 24) rfl w.heap.size (j * 8) rfl _ rfl 42 cs H1.out.1 ?st1 ?st2 ?st3 ?st4); case' st4 => generalize World.setRow _ _ _ = W at *)
        case st1 => have := H1.out.2; have : (j + 1) * 8 ≤ l.length * 8 := Nat.mul_le_mul_right 8 hlt; simp; omega
        case st2 => kernel_rfl
        case st3 => exact oneCell8 _ _ _ _ _ _ _
        go_roundw
        case rel => exact ⟨j + 1, by omega, by go_num, HS⟩
        case measure => simp [intOf]; omega
      · have hjl : j = l.length := by omega
        subst hjl
        obtain ⟨hb2, C, hO, hold⟩ := HR.out
        have HQ := Lib.hid (And.intro hb2 (And.intro hO hold))
        clear hb2 hO hold
        go_wp2_with fail
        go_ret
        exact an_endD HQ.out.1 HQ.out.2.1 HQ.out.2.2 (by omega)
set_option maxHeartbeats 2000000 in
set_option maxRecDepth 100000 in
theorem rebuilt_D (tr : Val → Val) (N : Nat) (hN : N ≤ 60000) (hf : ∀ (n : Nat) (V : Val) (v : Value) (w : World), sz V ≤ N → Lies n w V v → n ≤ w.heap.size → Calls Tryd.prog 46 #[v] w (CpPost (tr V) w))
    (n : Nat) (V : Val) (v : Value) (w : World) (hs : sz V ≤ N + 1) (h : Lies n w V v) (hn : n ≤ w.heap.size) : Calls Tryd.prog 64 #[v, .func (.func 46) #[] #[]] w (CpPostD (V.sl (V.l.map tr)) w) := by
  obtain ⟨oL, oK, cL, cK, c, rfl, O⟩ := h.inv
  have hszl : szL V.l ≤ N ∧ V.ks.length ≤ 60000 := by rw [sz_eq] at hs; omega
  have HF := Lib.hid (And.intro hf O)
  have HB0 := Lib.hid ((Wb.made w V (.slice oL V.l.length cL) (.slice oK V.ks.length cK)).alloc (.cells zc 42))
  have HB1 : Hid (((w.alloc (bx V oL oK cL cK)).alloc (.cells zc 42)).heap[w.heap.size + 1]? = some (.cells zc 42 (0, 0))) := by have := heap_alloc_new (w.alloc (bx V oL oK cL cK)) (.cells zc 42); rw [World.size_alloc] at this; exact this
  have HW := Lib.hid (((Below.refl w.heap.size w).alloc (Nat.le_refl _) (bx V oL oK cL cK)).alloc (by simp) (.cells zc 42))
  have HZ : Hid (((w.alloc (bx V oL oK cL cK)).alloc (.cells zc 42)).heap.size = w.heap.size + 2) := by simp [Hid]
  clear hf h O
  go_enter Tryd.func64, Tryd.ntmps64
  go_wp2_with fail
  generalize (w.alloc _).alloc _ = w0 at *
  refine (anew_D tr N hN HF.out.1 hszl.1 (HF.out.2.L.below (HW.out.mono hn)) (fun j x hx => (HF.out.2.el j x hx).kept (HW.out.mono hn)) (by have := HZ.out; omega)).mono ?_
  rintro e w1 ⟨o1, cap1, c1, rfl, r1, e1, m1, b1⟩
  have z1 := b1.size
  have hz := HZ.out
  have W1 := HB0.out.keep b1 (by omega)
  have W2 := Lib.hid (W1.set3 (.slice o1 V.l.length cap1))
  have A1 := Lib.hid (Aft.setCell w1 ⟨w.heap.size, 3, none⟩ (.slice o1 V.l.length cap1) (Nat.lt_succ_self _))
  have B1 := Lib.hid (((HW.out.trans (b1.mono (by omega))).setCell (p := ⟨w.heap.size, 3, none⟩) (Nat.le_refl _) (.slice o1 V.l.length cap1)))
  have Q1 : Hid ((w1.setCell ⟨w.heap.size, 3, none⟩ (.slice o1 V.l.length cap1)).heap[w.heap.size + 1]? = some (.cells zc 42 (0, 0))) := by
    unfold Hid; rw [heap_setCell_other _ _ _ _ (by simp), b1.block _ (by omega)]; exact HB1.out
  have Z1 : Hid ((w1.setCell ⟨w.heap.size, 3, none⟩ (.slice o1 V.l.length cap1)).heap.size = w1.heap.size) := by unfold Hid; rw [World.size_setCell]
  have M1 := Lib.hid (And.intro r1 (And.intro e1 m1))
  obtain ⟨q8, q0, q1, q2, q3, q4, q5, q6, q7⟩ := W1.hd
  have f3 := W1.free 3
  clear r1 e1 m1 b1 W1 hz
  go_wp2_with fail
  generalize World.setCell _ _ _ = w2 at *
  clear q8 q0 q1 q2 q3 q4 q5 q6 q7 f3
  refine (anew_s hszl.2 (HF.out.2.K.below (B1.out.mono hn)) (by have := HZ.out; have := Z1.out; omega)).mono ?_
  rintro e w3 ⟨o3, cap3, rfl, r3, m3, b3⟩
  have z3 := b3.size
  have hz := HZ.out
  have hz1 := Z1.out
  have W3 := W2.out.keep b3 (by omega)
  have W4 := Lib.hid (W3.set4 (.slice o3 V.ks.length cap3))
  obtain ⟨q8, q0, q1, q2, q3, q4, q5, q6, q7⟩ := W3.hd
  have f4 := W3.free 4
  have A3 := Lib.hid (Aft.setCell w3 ⟨w.heap.size, 4, none⟩ (.slice o3 V.ks.length cap3) (Nat.lt_succ_self _))
  have B3 := Lib.hid ((B1.out.trans (b3.mono (by omega))).setCell (p := ⟨w.heap.size, 4, none⟩) (Nat.le_refl _) (.slice o3 V.ks.length cap3))
  have Q3 : Hid ((w3.setCell ⟨w.heap.size, 4, none⟩ (.slice o3 V.ks.length cap3)).heap[w.heap.size + 1]? = some (.cells zc 42 (0, 0))) := by
    unfold Hid; rw [heap_setCell_other _ _ _ _ (by simp), b3.block _ (by omega)]; exact Q1.out
  have M3 := Lib.hid (And.intro r3 (And.intro m3 b3))
  clear r3 m3 b3 W3 hz hz1
  go_upto_region 3 with fail
  generalize World.setCell _ _ _ = w4 at *
  clear q8 q0 q1 q2 q3 q4 q5 q6 q7 f4
  obtain ⟨q8, q0, q1, q2, q3, q4, q5, q6, q7⟩ := W4.out.hd
  have R := Lib.hid (store_box Q3.out (c8 V (.slice o1 V.l.length cap1) (.slice o3 V.ks.length cap3)) rfl)
  have A4 := Lib.hid (Aft.setRow w4 (w.heap.size + 1) ((zc.toList.take 0 ++ (c8 V (.slice o1 V.l.length cap1) (.slice o3 V.ks.length cap3)).toList ++ zc.toList.drop (0 + (c8 V (.slice o1 V.l.length cap1) (.slice o3 V.ks.length cap3)).size)).toArray) (Nat.lt_succ_self _))
  have B4 := Lib.hid (below_setRow B3.out (Nat.le_succ _) ((zc.toList.take 0 ++ (c8 V (.slice o1 V.l.length cap1) (.slice o3 V.ks.length cap3)).toList ++ zc.toList.drop (0 + (c8 V (.slice o1 V.l.length cap1) (.slice o3 V.ks.length cap3)).size)).toArray))
  go_wp2_with ((with_reducible refine wpList_store_at rfl 42 (.tmp 4) (.tmp 14) rfl (w.heap.size + 1) 0 rfl _ rfl 42 zc Q3.out ?st1 ?st2 ?st3 ?st4); case' st4 => generalize World.setRow _ _ _ = w5 at *)
  case st2 => have := size42; simpa using this
  case st3 => simp [Value.oneCell']
  obtain ⟨p8, p0, p1, p2, p3, p4, p5, p6, p7⟩ := (show Wb w5 (w.heap.size + 1) V (.slice o1 V.l.length cap1) (.slice o3 V.ks.length cap3) from R.out).hd
  have T3 : Hid (Aft (w.heap.size + 2) w3 w5) := (A3.out.mono (by omega)).trans A4.out
  have T1 : Hid (Aft (w.heap.size + 2) w1 w5) := (A1.out.mono (by omega)).trans ((Aft.of_below M3.out.2.2).trans T3.out)
  clear q8 q0 q1 q2 q3 q4 q5 q6 q7
  refine bodyPost_ret (v := vv V.k V.i V.s (.slice o1 V.l.length cap1) (.slice o3 V.ks.length cap3) V.tk V.to V.x) (by simp [results, Tryd.results64, go_sem, p0, p1, p2, p3, p4, p5, p6, p7]) rfl ?_
  exact rb_endD HF.out.2 M1.out.1 M1.out.2.1 M1.out.2.2 M3.out.1 M3.out.2.1 T1.out T3.out B4.out (by have := HZ.out; omega) (by have := HZ.out; have := Z1.out; omega)
set_option maxHeartbeats 2000000 in
theorem copyD_any {n : Nat} {V : Val} {v : Value} {w : World} (hs : sz V ≤ 60000) (h : Lies n w V v) (hn : n ≤ w.heap.size) : Calls Tryd.prog 46 #[v] w (CpPostD V w) := by
  have HR := Lib.hid (rebuilt_D id 60000 (Nat.le_refl _) (copy_any 60000 (Nat.le_refl _)))
  obtain ⟨oL, oK, cL, cK, c, rfl, O⟩ := h.inv
  have HF := Lib.hid O
  have HB1 : Hid (((w.alloc (bx V oL oK cL cK)).alloc (.cells zc 42)).heap[w.heap.size + 1]? = some (.cells zc 42 (0, 0))) := by have := heap_alloc_new (w.alloc (bx V oL oK cL cK)) (.cells zc 42); rw [World.size_alloc] at this; exact this
  have HW := Lib.hid (((Below.refl w.heap.size w).alloc (Nat.le_refl _) (bx V oL oK cL cK)).alloc (by simp) (.cells zc 42))
  have HZ : Hid (((w.alloc (bx V oL oK cL cK)).alloc (.cells zc 42)).heap.size = w.heap.size + 2) := by simp [Hid]
  clear h O
  go_enter Tryd.func46, Tryd.ntmps46
  go_wp2_with fail
  generalize (w.alloc _).alloc _ = w0 at *
  refine (HR.out _ _ _ _ (Nat.le_succ_of_le hs) (HF.out.kept (HW.out.mono hn)).lies (by have := HZ.out; omega)).mono ?_
  rw [List.map_id, sl_self]
  rintro e w1 ⟨o1, o3, cap1, cap3, c1, rfl, O1, m1, m3, b1, d1⟩
  have Q1 : Hid (w1.heap[w.heap.size + 1]? = some (.cells zc 42 (0, 0))) := by unfold Hid; rw [b1.block _ (by have := HZ.out; omega)]; exact HB1.out
  have R := Lib.hid (store_box Q1.out (c8 V (.slice o1 V.l.length cap1) (.slice o3 V.ks.length cap3)) rfl)
  have B1 := HW.out.trans (b1.mono (by have := HZ.out; omega))
  have A4 := Lib.hid (Aft.setRow w1 (w.heap.size + 1) ((zc.toList.take 0 ++ (c8 V (.slice o1 V.l.length cap1) (.slice o3 V.ks.length cap3)).toList ++ zc.toList.drop (0 + (c8 V (.slice o1 V.l.length cap1) (.slice o3 V.ks.length cap3)).size)).toArray) (Nat.lt_succ_self _))
  have B4 := Lib.hid (below_setRow B1 (Nat.le_succ _) ((zc.toList.take 0 ++ (c8 V (.slice o1 V.l.length cap1) (.slice o3 V.ks.length cap3)).toList ++ zc.toList.drop (0 + (c8 V (.slice o1 V.l.length cap1) (.slice o3 V.ks.length cap3)).size)).toArray))
  have M := Lib.hid (And.intro O1 (And.intro m1 (And.intro m3 d1)))
  clear B1 b1 O1 m1 m3 d1
  go_wp2_with ((with_reducible refine wpList_store_at rfl 42 (.tmp 2) (.tmp 4) rfl (w.heap.size + 1) 0 rfl _ rfl 42 zc Q1.out ?st1 ?st2 ?st3 ?st4); case' st4 => generalize World.setRow _ _ _ = w5 at *)
  case st1 => simp
  case st2 => have := size42; simpa using this
  case st3 => simp [Value.oneCell']
  obtain ⟨p8, p0, p1, p2, p3, p4, p5, p6, p7⟩ := (show Wb w5 (w.heap.size + 1) V (.slice o1 V.l.length cap1) (.slice o3 V.ks.length cap3) from R.out).hd
  refine bodyPost_ret (v := vv V.k V.i V.s (.slice o1 V.l.length cap1) (.slice o3 V.ks.length cap3) V.tk V.to V.x) (by simp [results, Tryd.results46, go_sem, p0, p1, p2, p3, p4, p5, p6, p7]) rfl ?_
  exact cp_shiftD M.out.1 M.out.2.1 M.out.2.2.1 M.out.2.2.2 A4.out (by have := HZ.out; omega) (by have := HZ.out; omega) B4.out rfl
end Go.Proofs.YtfmgbhaldakpfaaDoor

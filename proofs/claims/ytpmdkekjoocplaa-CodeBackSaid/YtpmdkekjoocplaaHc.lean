/- Laying: a value's elements, if they can be laid. -/
import Derived.Test.YtpmdkekjoocplaaHb
import Derived.Test.YtpmdkekjoocplaaGi
namespace Go.Proofs.Ytpmdkekjoocplaa
open Go.RowKit Go.Lib

/-- a value can be laid -/
def LaidHolds (X : Val) : Prop := ∀ (base : Nat) (v : Value) (N : List Nat) (xv : Value) (w : World), Lies base w X xv → w.ownsRow base 5 1 v N.length (bcs N) → base ≤ w.heap.size → N.length + (enc X).length ≤ 4000000000 → Calls Try.prog 22 #[v, xv] w (LongB base N (enc X) w)
theorem encE_drop (m : Bool) (ks : List ByteArray) (l : List Val) (j : Nat) (X : Val) (h : l[j]? = some X) : encE m ks ((l.drop j).map enc) j = (if m then shrt (kk ks j).size ++ sb (kk ks j) else []) ++ enc X ++ encE m ks ((l.drop (j + 1)).map enc) (j + 1) := by
  obtain ⟨h1, h2⟩ := List.getElem?_eq_some_iff.1 h
  rw [List.drop_eq_getElem_cons h1, h2]
  rfl
/-- at a round's head: what is laid -/
structure LdR (base : Nat) (v : Value) (N : List Nat) (m : Bool) (ks : List ByteArray) (l : List Val) (j : Nat) (w0 wr : World) : Prop where
  ex : ∃ F, F ++ encE m ks ((l.drop j).map enc) j = encE m ks (l.map enc) 0 ∧ wr.ownsRow base 5 1 v (N ++ F).length (bcs (N ++ F))
  bel : LB base w0 wr
set_option maxHeartbeats 2000000 in
theorem laidElements_any {base : Nat} {V : Val} {xv v : Value} {N : List Nat} {w : World} (m : Bool) (hk : V.k = if m then 5 else 4) (hks : m = true → V.ks.length = V.l.length) (hkz : ∀ s, s ∈ V.ks → s.size ≤ 1024) (hl : V.l.length ≤ 128) (HL : ∀ y, y ∈ V.l → LaidHolds y)
    (h : Lies base w V xv) (hO : w.ownsRow base 5 1 v N.length (bcs N)) (hbase : base ≤ w.heap.size) (hN : N.length + (shrt V.l.length ++ encE m V.ks (V.l.map enc) 0).length ≤ 4000000000) :
    Calls Try.prog 42 #[v, xv] w (LongB base N (shrt V.l.length ++ encE m V.ks (V.l.map enc) 0) w) := by
  obtain ⟨oL, oK, cL, cK, c, rfl, O⟩ := h.inv
  have HB := Lib.hid (Hd.made w V (.slice oL V.l.length cL) (.slice oK V.ks.length cK))
  have HW := Lib.hid ((Below.refl w.heap.size w).alloc (Nat.le_refl _) (bx V oL oK cL cK))
  have HZ : Hid ((w.alloc (bx V oL oK cL cK)).heap.size = w.heap.size + 1) := by simp [Hid]
  have HOP := Lib.hid (O.kept (HW.out.mono hbase))
  have HO : Hid ((w.alloc (bx V oL oK cL cK)).ownsRow base 5 1 v N.length (bcs N)) := ownsRow_kept hO fun g hg => HW.out.block g (hO.lt g hg).2
  have HLL := Lib.hid HL
  have HKZ := Lib.hid hkz
  have hN1 : N.length ≤ 4000000000 := by omega
  have HNN := Lib.hid hN
  have HKK := Lib.hid (And.intro hk hks)
  obtain ⟨nK, hnK⟩ : ∃ nK, V.ks.length = nK := ⟨_, rfl⟩
  have hL2 := O.L.2.1
  have hL1 := O.L.1
  have hK1 := O.K.1
  have hK2 := O.K.2.1
  unfold maxLen at hL2 hK2
  have HNK := Lib.hid hnK
  have HB2 : Hid ((w.alloc (bx V oL oK cL cK)).heap[w.heap.size]? = some (.cells #[.int .i64 V.k, .int .i64 V.i, .string V.s, .slice oL V.l.length cL, .slice oK V.ks.length cK, .int .i64 V.tk, .int .i64 V.to, .bool V.x] 30 (0, 0))) := heap_alloc_new _ _
  clear h O hO HL hkz hN hk hks hnK
  go_enter Try.func42, Try.ntmps42
  go_wp2_with fail
  generalize w.alloc _ = w0 at *
  refine (laidShort_any V.l.length (by omega) HO.out (by have := HZ.out; omega) hN1).mono ?_
  rintro e w1 hlong
  obtain ⟨v1, rfl, ho1, hb1⟩ := hlong.b HO.out
  have H1 : Hid (LdR base v1 (N ++ shrt V.l.length) m V.ks V.l 0 w0 w1) := ⟨⟨[], rfl, by rw [List.append_nil, List.length_append]; exact ho1⟩, hb1⟩
  have hbox : Hid (w1.heap[w.heap.size]? = _) := (hb1.block w.heap.size (by have := HZ.out; omega) (.inr fun cur fz e => by rw [HB2.out] at e; simp at e)).trans HB2.out
  have hbz : w.heap.size < w1.heap.size := (Array.getElem?_eq_some_iff.1 hbox.out).1
  clear hlong ho1 hb1
  obtain ⟨p0, p1, p2, p3, p4, p5, p6, p7, t0, t1, t2, t3, t4, t5, t6, t7, tl⟩ := b8_of hbox.out
  go_wp2_with fail
  go_loopw [0, 16] (fun b i wr => ∃ (j : Nat), j ≤ V.l.length ∧ i = .int .i64 j ∧ Hid (LdR base b (N ++ shrt V.l.length) m V.ks V.l j w0 wr)) (fun _ i _ => V.l.length - (intOf i).toNat)
  case atStart => exact ⟨0, Nat.zero_le _, rfl, H1.out⟩
  case round =>
    obtain ⟨j, hj, rfl, HR⟩ := hrel
    have HBR : Hid (wr.heap[w.heap.size]? = _) := (HR.out.bel.block w.heap.size (by have := HZ.out; omega) (.inr fun cur fz e => by rw [HB2.out] at e; simp at e)).trans HB2.out
    clear p0 p1 p2 p3 p4 p5 p6 p7 t0 t1 t2 t3 t4 t5 t6 t7 tl
    obtain ⟨p0, p1, p2, p3, p4, p5, p6, p7, t0, t1, t2, t3, t4, t5, t6, t7, tl⟩ := b8_of HBR.out
    by_cases hlt : j < V.l.length
    · obtain ⟨X, hX⟩ : ∃ X, V.l[j]? = some X := ⟨_, List.getElem?_eq_getElem hlt⟩
      have HOr := Lib.hid (HOP.out.kept (HR.out.bel.bel (by have := HZ.out; omega)))
      obtain ⟨b, off, oL3, oK3, cL3, cK3, c3, e1, hbb, ⟨y0, y1, y2, y3, y4, y5, y6, y7⟩, OX⟩ := HOr.out.L.elv hlt (HOr.out.el j X hX)
      have HX := Lib.hid (And.intro hX OX)
      subst e1
      clear hX OX
      cases m with
      | false =>
        have hk5 : (V.k == 5) = false := by rw [HKK.out.1]; rfl
        obtain ⟨F, hF, hO2⟩ := HR.out.ex
        have hlen := congrArg List.length hF
        rw [encE_drop _ _ _ _ _ HX.out.1] at hlen
        have hnn := HNN.out
        simp only [List.length_append, Bool.false_eq_true, if_false, List.length_nil] at hlen hnn
        have HA := Lib.hid ((Below.refl wr.heap.size wr).alloc (Nat.le_refl _) (.cells #[.int .i64 X.k, .int .i64 X.i, .string X.s, .slice oL3 X.l.length cL3, .slice oK3 X.ks.length cK3, .int .i64 X.tk, .int .i64 X.to, .bool X.x] 30))
        have HF := Lib.hid (And.intro hF (ownsRow_kept hO2 fun g hg => HA.out.block g (hO2.lt g hg).2))
        have hbn : (N ++ shrt V.l.length ++ F).length + (enc X).length ≤ 4000000000 := by simp only [List.length_append]; omega
        have szr := HR.out.bel.size
        clear hF hO2 hlen hnn
        go_wp2_with fail
        refine (HLL.out X (List.mem_of_getElem? HX.out.1) base _ (N ++ shrt V.l.length ++ F) _ _ (HX.out.2.kept (HA.out.mono (by have := HZ.out; omega))).lies HF.out.2 (by have := HZ.out; simp; omega) hbn).mono ?_
        rintro e w5 ⟨v5, rfl, ho5, hb5⟩
        have HR2 : Hid (LdR base v5 (N ++ shrt V.l.length) false V.ks V.l (j + 1) w0 w5) :=
          ⟨⟨F ++ enc X, by rw [← HF.out.1, encE_drop _ _ _ _ _ HX.out.1]; simp [List.append_assoc], by rw [← List.append_assoc, List.length_append]; exact ho5⟩, (HR.out.bel.trans (LB.of_below HA.out)).trans hb5⟩
        clear ho5 hb5
        go_wp2_with fail
        go_roundw
        case rel => exact ⟨j + 1, by omega, by go_num, HR2.out⟩
        case measure => simp [intOf]; omega
      | true =>
        have hk5 : (V.k == 5) = true := by rw [HKK.out.1]; rfl
        have hkl : j < V.ks.length := by rw [HKK.out.2 rfl]; exact hlt
        have hkl2 : (j : Int) < (V.ks.length : Int) := by omega
        obtain ⟨b2, off2, e2, hbb2, k0⟩ := HOr.out.K.key hkl
        subst e2
        have hks2 := HKZ.out _ (kk_mem hkl)
        obtain ⟨F, hF, hO2⟩ := HR.out.ex
        have hlen := congrArg List.length hF
        rw [encE_drop _ _ _ _ _ HX.out.1] at hlen
        have hnn := HNN.out
        simp only [List.length_append, if_true] at hlen hnn
        have HA := Lib.hid ((Below.refl wr.heap.size wr).alloc (Nat.le_refl _) (.cells #[.int .i64 X.k, .int .i64 X.i, .string X.s, .slice oL3 X.l.length cL3, .slice oK3 X.ks.length cK3, .int .i64 X.tk, .int .i64 X.to, .bool X.x] 30))
        have X6 : Hid ((wr.alloc (.cells #[.int .i64 X.k, .int .i64 X.i, .string X.s, .slice oL3 X.l.length cL3, .slice oK3 X.ks.length cK3, .int .i64 X.tk, .int .i64 X.to, .bool X.x] 30)).heap[wr.heap.size]? = some (.cells #[.int .i64 X.k, .int .i64 X.i, .string X.s, .slice oL3 X.l.length cL3, .slice oK3 X.ks.length cK3, .int .i64 X.tk, .int .i64 X.to, .bool X.x] 30 (0, 0))) := heap_alloc_new _ _
        have HF := Lib.hid (And.intro hF (ownsRow_kept hO2 fun g hg => HA.out.block g (hO2.lt g hg).2))
        have hbk : (N ++ shrt V.l.length ++ F).length ≤ 4000000000 := by simp only [List.length_append]; omega
        have hbn : ((N ++ shrt V.l.length ++ F) ++ (shrt (kk V.ks j).size ++ sb (kk V.ks j))).length + (enc X).length ≤ 4000000000 := by simp only [List.length_append]; omega
        have szr := HR.out.bel.size
        have HAZ : Hid ((wr.alloc (.cells #[.int .i64 X.k, .int .i64 X.i, .string X.s, .slice oL3 X.l.length cL3, .slice oK3 X.ks.length cK3, .int .i64 X.tk, .int .i64 X.to, .bool X.x] 30)).heap.size = wr.heap.size + 1) := by simp [Hid]
        clear hF hO2 hlen hnn
        go_upto_region 5 with fail
        have hbx2 : b2 < wr.heap.size := by have := HZ.out; omega
        have k2 : (wr.alloc (.cells #[.int .i64 X.k, .int .i64 X.i, .string X.s, .slice oL3 X.l.length cL3, .slice oK3 X.ks.length cK3, .int .i64 X.tk, .int .i64 X.to, .bool X.x] 30)).cell? ⟨b2, off2 + j, none⟩ = some (.string (kk V.ks j)) := (HA.out.cell (p := ⟨b2, off2 + j, none⟩) hbx2).trans k0
        have HBA : Hid ((wr.alloc (.cells #[.int .i64 X.k, .int .i64 X.i, .string X.s, .slice oL3 X.l.length cL3, .slice oK3 X.ks.length cK3, .int .i64 X.tk, .int .i64 X.to, .bool X.x] 30)).heap[w.heap.size]? = _) := (HA.out.block _ (by omega)).trans HBR.out
        clear k0 p0 p1 p2 p3 p4 p5 p6 p7 t0 t1 t2 t3 t4 t5 t6 t7 tl y0 y1 y2 y3 y4 y5 y6 y7
        generalize World.alloc wr _ = wa at *
        obtain ⟨p0, p1, p2, p3, p4, p5, p6, p7, t0, t1, t2, t3, t4, t5, t6, t7, tl⟩ := b8_of HBA.out
        go_wp2_with fail
        refine (laidText_any (kk V.ks j) (by omega) HF.out.2 (by have := HZ.out; have := HAZ.out; omega) hbk).mono ?_
        rintro e w5 ⟨v5, rfl, ho5, hb5⟩
        have H5 := Lib.hid (And.intro ho5 hb5)
        have X5 : Hid (w5.heap[wr.heap.size]? = _) := (hb5.block _ (by have := HAZ.out; omega) (.inr fun cur fz e => by rw [X6.out] at e; simp at e)).trans X6.out
        clear ho5 hb5 p0 p1 p2 p3 p4 p5 p6 p7 t0 t1 t2 t3 t4 t5 t6 t7 tl
        obtain ⟨p0, p1, p2, p3, p4, p5, p6, p7, t0, t1, t2, t3, t4, t5, t6, t7, tl⟩ := b8_of X5.out
        go_wp2_with fail
        refine (HLL.out X (List.mem_of_getElem? HX.out.1) base _ ((N ++ shrt V.l.length ++ F) ++ (shrt (kk V.ks j).size ++ sb (kk V.ks j))) _ _ (HX.out.2.kept ((HA.out.mono (by have := HZ.out; omega)).trans (H5.out.2.bel (by have := HZ.out; have := HAZ.out; omega)))).lies (by rw [List.length_append]; exact H5.out.1) (by have := HZ.out; have := HAZ.out; have := H5.out.2.size; omega) hbn).mono ?_
        rintro e w6 ⟨v6, rfl, ho6, hb6⟩
        have HR2 : Hid (LdR base v6 (N ++ shrt V.l.length) true V.ks V.l (j + 1) w0 w6) :=
          ⟨⟨F ++ (shrt (kk V.ks j).size ++ sb (kk V.ks j)) ++ enc X, by rw [← HF.out.1, encE_drop _ _ _ _ _ HX.out.1]; simp [List.append_assoc], by
            have := ho6
            rw [← List.length_append] at this
            simpa [List.append_assoc] using this⟩, ((HR.out.bel.trans (LB.of_below HA.out)).trans H5.out.2).trans hb6⟩
        clear ho6 hb6
        go_wp2_with fail
        go_roundw
        case rel => exact ⟨j + 1, by omega, by go_num, HR2.out⟩
        case measure => simp [intOf]; omega
    · have hjl : j = V.l.length := by omega
      subst hjl
      go_wp2_with fail
      go_ret
      obtain ⟨F, hF, hO2⟩ := HR.out.ex
      rw [List.drop_length] at hF
      have hF' : F = encE m V.ks (V.l.map enc) 0 := by rw [← hF]; show F = F ++ []; rw [List.append_nil]
      refine ⟨_, rfl, ?_, (LB.of_below HW.out).trans HR.out.bel⟩
      rw [hF', List.append_assoc] at hO2
      rw [← List.length_append]; exact hO2
end Go.Proofs.Ytpmdkekjoocplaa

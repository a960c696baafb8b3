import Derived.Test.YtncjncacfagldaaGreatDoorYWPV
import Derived.Deep.OwnRows
import Derived.Deep.Cut
import Derived.Deep.DeepCutAuto
namespace Go.Proofs.YtncjncacfagldaaGreatDoor
open Go.RowKit

def AsPost (ks : List ByteArray) (w : World) (e : Ending) (w' : World) : Prop :=
 ∃ (o : Option Addr) (cap : Nat), e = .returned (.slice o ks.length cap) ∧ RowP (FrV w w') w' o cap ks.length 1 (fun j _ => .string (ks.getD j default)) ∧ Mine w.heap.size w' o 9 ks.length 1 ∧ Below w.heap.size w w'
theorem info9v : (Tryz.prog.info? 9).map (fun i => (i.zero, i.size, i.bytes)) = some (some (.string ⟨#[]⟩), 1, 16) := by kernel_rfl
theorem make9 (len : Nat) (h : len ≤ 60000) (w : World) : (Instr.makeSlice 28 (.int .i64 len) (.int .i64 len)).run Tryz.prog w = .ok (.slice (some ⟨w.heap.size, 0, none⟩) len len) (w.alloc (.cells (madeCells #[.string ⟨#[]⟩] len) 9)) := by
 obtain ⟨i, hi, hzz⟩ := Option.map_eq_some_iff.1 info9v
 simp only [Prod.mk.injEq] at hzz
 obtain ⟨hz, hs, hb⟩ := hzz
 have hr := run_make (P := Tryz.prog) w 28 9 i _ Tryz.underlying28 hi hz .i64 .i64 len len (by omega) (Int.le_refl _) (by rw [hb]; omega) (by omega)
 simp only [Int.toNat_natCast, hs, Nat.mul_one] at hr
 exact hr
def AsRel (ks : List ByteArray) (g : Nat) (w0 : World) (j : Nat) (wr : World) : Prop := Below g w0 wr ∧ Out wr g 9 ks.length 1 j (fun i _ => .string (kk ks i))
theorem Out.cell1 {w : World} {g : Nat} {T : TypeId} {len j : Nat} {C : Nat → Nat → Value} (h : Out w g T len 1 j C) (i : Nat) (hi : i < len) : ∃ v, w.cell? ⟨g, i, none⟩ = some v := by
 obtain ⟨cs, h1, h2, _⟩ := h
 have : i < cs.size := by omega
 exact ⟨cs[i], by rw [cell_of_row w g i cs T (0, 0) h1]; exact Array.getElem?_eq_getElem this⟩
theorem Out.free {w : World} {g : Nat} {T : TypeId} {len z j : Nat} {C : Nat → Nat → Value} (h : Out w g T len z j C) (i : Nat) : w.frozen? ⟨g, i, none⟩ = false := by
 obtain ⟨cs, h1, _⟩ := h; exact frozen_of_row w g i cs T h1
theorem Out.set1 {w : World} {g : Nat} {T : TypeId} {len j : Nat} {C : Nat → Nat → Value} (h : Out w g T len 1 j C) (v : Value) (hv : v = C j 0) (hj : j < len) : Out (w.setCell ⟨g, j, none⟩ v) g T len 1 (j + 1) C := by
 obtain ⟨cs, h1, h2, h3⟩ := h
 refine ⟨_, heap_setCell_same w g j cs T v h1, by simp; omega, fun i hi m hm => ?_⟩
 obtain rfl : m = 0 := by omega
 rw [Array.getElem?_setIfInBounds]
 by_cases e : j = i
 · subst e
   rw [if_pos (by omega)]
   rw [if_pos (by omega), hv]
 · rw [if_neg (by omega)]
   exact h3 i (by omega) 0 hm
theorem as_end {ks : List ByteArray} {w wr : World} (h : AsRel ks w.heap.size w ks.length wr) (hl : ks.length ≤ 60000) : AsPost ks w (.returned (.slice (some ⟨w.heap.size, 0, none⟩) ks.length ks.length)) wr := by
 obtain ⟨hb, hO⟩ := h
 refine ⟨some ⟨w.heap.size, 0, none⟩, ks.length, rfl, ⟨Nat.le_refl _, by unfold maxLen; omega, (fun h => by cases h), fun _ => ?_⟩, .inr ⟨w.heap.size, _, rfl, Nat.le_refl _, hO⟩, hb⟩
 refine ⟨_, _, rfl, ⟨Nat.le_refl _, hO.lt⟩, fun j hj m hm => ?_⟩
 obtain ⟨cs, h1, h2, h3⟩ := hO
 rw [cell_of_row wr w.heap.size _ cs 9 (0, 0) h1, Nat.zero_add]
 exact h3 j hj m hm
set_option maxRecDepth 100000 in
set_option maxHeartbeats 2000000 in
theorem anew_s {n : Nat} {w : World} {ks : List ByteArray} {o : Option Addr} {cap : Nat} (hl : ks.length ≤ 60000) (hR : Row n w o cap ks.length 1 (fun j _ => .string (ks.getD j default))) (hn : n ≤ w.heap.size) :
 Calls Tryz.prog 160 #[.slice o ks.length cap, .func (.func 161) #[] #[]] w (AsPost ks w) := by
 have hc := hR.1
 have hm := hR.2.1
 have hnil := fun (w : World) (a : Option Addr) (n c : Nat) => Lib.run_eql_slice_nil (P := Tryz.prog) w 28 9 a n c 0 0 Tryz.underlying28
 unfold maxLen at hm
 cases o with
 | none =>
   have h0 : cap = 0 := hR.2.2.1 rfl
   have h1 : ks.length = 0 := by omega
   have h2 : ks = [] := List.length_eq_zero_iff.1 h1
   subst h2
   subst h0
   clear hR hl h1 hc hm
   go_enter Tryz.func160, Tryz.ntmps160
   go_wp2
   go_ret
   exact ⟨none, 0, rfl, rowP_nil _ _ _ _, .inl ⟨rfl, rfl⟩, Below.refl _ _⟩
 | some a =>
   have HF := qh hR
   have hmk := make9 ks.length (by omega)
   clear hR
   have HO : Hid (AsRel ks w.heap.size w 0 (w.alloc (.cells (madeCells #[.string ⟨#[]⟩] ks.length) 9))) :=
    ⟨(Below.refl _ _).alloc (Nat.le_refl _) _, by have := Out.made w 9 ks.length 1 #[.string ⟨#[]⟩] (fun i _ => .string (kk ks i)); rw [Nat.mul_one] at this; exact this⟩
   go_enter Tryz.func160, Tryz.ntmps160
   go_wp2_with fail
   generalize w.alloc (.cells (madeCells _ _) 9) = w0 at *
   clear hmk
   go_loopw [15] (fun i wr => ∃ j : Nat, j ≤ ks.length ∧ i = .int .i64 j ∧ Hid (AsRel ks w.heap.size w j wr)) (fun i _ => ks.length - (intOf i).toNat)
   case atStart => exact ⟨0, Nat.zero_le _, rfl, HO⟩
   case round =>
    obtain ⟨j, hj, rfl, HR⟩ := hrel
    by_cases hlt : j < ks.length
    · obtain ⟨b', off', e1, hb', y0⟩ := (HF.out.below (HR.out.1.mono hn)).el1 hlt
      injection e1 with e1
      subst e1
      change wr.cell? _ = some (.string (kk ks j)) at y0
      obtain ⟨v0, hv0⟩ := HR.out.2.cell1 j hlt
      have hfz := HR.out.2.free j
      have HS : Hid (AsRel ks w.heap.size w (j + 1) (wr.setCell ⟨w.heap.size, j, none⟩ (.string (kk ks j)))) := ⟨HR.out.1.setCell (Nat.le_refl _) _, HR.out.2.set1 _ rfl hlt⟩
      go_wp2_with go_in
      go_roundw
      case rel => exact ⟨j + 1, by omega, by go_num, HS⟩
      case measure => simp [intOf]; omega
    · have hjl : j = ks.length := by omega
      subst hjl
      go_wp2_with fail
      go_ret
      exact as_end HR.out hl
open Go.RowKit

abbrev c8 (V : Val) (L K : Value) : Array Value := #[.int .i64 V.k, .int .i64 V.i, .string V.s, L, K, .int .i64 V.tk, .int .i64 V.to, .bool V.x]
def Wb (w : World) (b : Nat) (V : Val) (L K : Value) : Prop := w.heap[b]? = some (.cells (c8 V L K) 33 (0, 0))
theorem Wb.lt {w : World} {b : Nat} {V : Val} {L K : Value} (h : Wb w b V L K) : b < w.heap.size := (Array.getElem?_eq_some_iff.1 h).1
theorem Wb.hd {w : World} {b : Nat} {V : Val} {L K : Value} (h : Wb w b V L K) : Hd w b V L K := by
 refine ⟨h.lt, ?_, ?_, ?_, ?_, ?_, ?_, ?_, ?_⟩ <;> rw [cell_of_row w b _ _ 33 (0, 0) h] <;> rfl
theorem Wb.free {w : World} {b : Nat} {V : Val} {L K : Value} (h : Wb w b V L K) (o : Nat) : w.frozen? ⟨b, o, none⟩ = false := frozen_of_row w b o _ 33 h
theorem Wb.same {w w' : World} {b : Nat} {V : Val} {L K : Value} (h : Wb w b V L K) (e : w'.heap[b]? = w.heap[b]?) : Wb w' b V L K := by unfold Wb; rw [e]; exact h
theorem Wb.keep {w w' : World} {b m : Nat} {V : Val} {L K : Value} (h : Wb w b V L K) (e : Below m w w') (hb : b < m) : Wb w' b V L K := h.same (e.block b hb)
theorem Wb.made (w : World) (V : Val) (L K : Value) : Wb (w.alloc (.cells (c8 V L K) 33)) w.heap.size V L K := heap_alloc_new w _
theorem Wb.alloc {w : World} {b : Nat} {V : Val} {L K : Value} (h : Wb w b V L K) (o : Obj) : Wb (w.alloc o) b V L K := h.same (Below.heap_alloc w o b h.lt)
theorem Wb.set3 {w : World} {b : Nat} {V : Val} {L K : Value} (h : Wb w b V L K) (L' : Value) : Wb (w.setCell ⟨b, 3, none⟩ L') b V L' K := by unfold Wb; rw [heap_setCell_same w b 3 _ 33 _ h]; rfl
theorem Wb.set4 {w : World} {b : Nat} {V : Val} {L K : Value} (h : Wb w b V L K) (K' : Value) : Wb (w.setCell ⟨b, 4, none⟩ K') b V L K' := by unfold Wb; rw [heap_setCell_same w b 4 _ 33 _ h]; rfl
def Val.sl (V : Val) (l : List Val) : Val := .mk V.k V.i V.s l V.ks V.tk V.to V.x
theorem size27 : (Tryz.prog.info? 33).map (·.size) = some 8 := by kernel_rfl
abbrev zc : Array Value := #[.int .i64 0, .int .i64 0, .string ⟨#[]⟩, .slice none 0 0, .slice none 0 0, .int .i64 0, .int .i64 0, .bool false]
theorem cp_mk {V : Val} {w w' : World} {e : Ending} (oL oK : Option Addr) (cL cK : Nat) (c : Nat → Nat → Value) (he : e = .returned (vv V.k V.i V.s (.slice oL V.l.length cL) (.slice oK V.ks.length cK) V.tk V.to V.x))
 (h1 : OpnP (FrV w w') w' V oL oK cL cK c) (h2 : Mine w.heap.size w' oL 33 V.l.length 8) (h3 : Mine w.heap.size w' oK 9 V.ks.length 1) (h4 : Below w.heap.size w w') : CpPost V w e w' := ⟨oL, oK, cL, cK, c, he, h1, h2, h3, h4⟩
theorem store_box {w : World} {g : Nat} {cs : Array Value} (h : w.heap[g]? = some (.cells cs 33 (0, 0))) (part : Array Value) (hs : cs.size = part.size) :
 (w.setRow g (cs.toList.take 0 ++ part.toList ++ cs.toList.drop (0 + part.size)).toArray).heap[g]? = some (.cells part 33 (0, 0)) := by
 rw [setRow_heap w g _ _ 33 _ h]
 congr 2
 rw [List.drop_eq_nil_of_le (by simp; omega)]
 simp
structure Aft (lo : Nat) (w w' : World) : Prop where
 os : w'.os = w.os
 tape : w'.tape = w.tape
 output : w'.output = w.output
 size : w.heap.size ≤ w'.heap.size
 block : ∀ k, lo ≤ k → k < w.heap.size → w'.heap[k]? = w.heap[k]?
theorem Aft.trans {lo : Nat} {a b c : World} (h : Aft lo a b) (k : Aft lo b c) : Aft lo a c :=
 ⟨k.os.trans h.os, k.tape.trans h.tape, k.output.trans h.output, Nat.le_trans h.size k.size, fun i hl hi => (k.block i hl (Nat.lt_of_lt_of_le hi h.size)).trans (h.block i hl hi)⟩
theorem Aft.of_below {lo : Nat} {a b : World} (h : Below a.heap.size a b) : Aft lo a b := ⟨h.os, h.tape, h.output, h.size, fun k _ hk => h.block k hk⟩
theorem Aft.mono {lo lo' : Nat} {a b : World} (h : Aft lo a b) (hl : lo ≤ lo') : Aft lo' a b := ⟨h.os, h.tape, h.output, h.size, fun k hk => h.block k (Nat.le_trans hl hk)⟩
theorem Aft.setCell {lo : Nat} (w : World) (a : Addr) (v : Value) (h : a.block < lo) : Aft lo w (w.setCell a v) :=
 ⟨rfl, rfl, rfl, by rw [World.size_setCell]; exact Nat.le_refl _, fun k hk _ => heap_setCell_other w a k v (by omega)⟩
theorem Aft.setRow {lo : Nat} (w : World) (g : Nat) (cs : Array Value) (h : g < lo) : Aft lo w (w.setRow g cs) :=
 ⟨rfl, rfl, rfl, by rw [size_setRow]; exact Nat.le_refl _, fun k hk _ => setRow_oth w g cs k (by omega)⟩
theorem Mine.same {lo lo' lo2 : Nat} {w w' : World} {o : Option Addr} {T : TypeId} {len z : Nat} (h : Mine lo w o T len z) (hl : lo' ≤ lo) (a : Aft lo2 w w') (h2 : lo2 ≤ lo) : Mine lo' w' o T len z := by
 rcases h with h | ⟨g, C, e, hg, hO⟩
 · exact .inl h
 · exact .inr ⟨g, C, e, by omega, hO.same (a.block g (by omega) hO.lt)⟩
theorem rb_end {n : Nat} {V : Val} {tr : Val → Val} {w w0 w1 w2 w3 w5 : World} {oL oK o1 o3 : Option Addr} {cL cK cap1 cap3 : Nat} {c c1 : Nat → Nat → Value} (O : OpnP (fun b => b < n) w V oL oK cL cK c)
 (r1 : RowP (FrV w0 w1) w1 o1 cap1 (V.l.map tr).length 8 c1) (e1 : ∀ j x, (V.l.map tr)[j]? = some x → LiesP (FrV w0 w1) w1 x (.agg #[c1 j 0, c1 j 1, c1 j 2, c1 j 3, c1 j 4, c1 j 5, c1 j 6, c1 j 7])) (m1 : Mine w0.heap.size w1 o1 33 (V.l.map tr).length 8)
 (r3 : RowP (FrV w2 w3) w3 o3 cap3 V.ks.length 1 fun j _ => .string (V.ks.getD j default)) (m3 : Mine w2.heap.size w3 o3 9 V.ks.length 1)
 (T1 : Aft (w.heap.size + 2) w1 w5) (T3 : Aft (w.heap.size + 2) w3 w5) (B : Below w.heap.size w w5) (h0 : w.heap.size + 2 ≤ w0.heap.size) (h2 : w.heap.size + 2 ≤ w2.heap.size) :
 CpPost (V.sl (V.l.map tr)) w (.returned (vv V.k V.i V.s (.slice o1 V.l.length cap1) (.slice o3 V.ks.length cap3) V.tk V.to V.x)) w5 := by
 have k1 : ∀ k, FrV w0 w1 k → FrV w w5 k ∧ w5.heap[k]? = w1.heap[k]? := fun k hk => ⟨⟨by have := hk.1; omega, Nat.lt_of_lt_of_le hk.2 T1.size⟩, T1.block k (by have := hk.1; omega) hk.2⟩
 have k3 : ∀ k, FrV w2 w3 k → FrV w w5 k ∧ w5.heap[k]? = w3.heap[k]? := fun k hk => ⟨⟨by have := hk.1; omega, Nat.lt_of_lt_of_le hk.2 T3.size⟩, T3.block k (by have := hk.1; omega) hk.2⟩
 refine cp_mk o1 o3 cap1 cap3 c1 ?_ ⟨O.wk, O.wi, O.wtk, O.wto, O.ws, O.wks, r1.keptP k1, r3.keptP k3, fun j x hx => (e1 j x hx).keptP k1⟩ (m1.same (by omega) T1 h0) (m3.same (by omega) T3 h2) B
 show Ending.returned (vv V.k V.i V.s (.slice o1 V.l.length cap1) (.slice o3 V.ks.length cap3) V.tk V.to V.x) = Ending.returned (vv V.k V.i V.s (.slice o1 (V.l.map tr).length cap1) (.slice o3 V.ks.length cap3) V.tk V.to V.x)
 rw [List.length_map]
set_option maxHeartbeats 2000000 in
set_option maxRecDepth 100000 in
theorem rebuilt_18 (tr : Val → Val) (N : Nat) (hN : N ≤ 60000) (hf : ∀ (n : Nat) (V : Val) (v : Value) (w : World), sz V ≤ N → Lies n w V v → n ≤ w.heap.size → Calls Tryz.prog 90 #[v] w (CpPost (tr V) w))
 (n : Nat) (V : Val) (v : Value) (w : World) (hs : sz V ≤ N + 1) (h : Lies n w V v) (hn : n ≤ w.heap.size) : Calls Tryz.prog 131 #[v, .func (.func 90) #[] #[]] w (CpPost (V.sl (V.l.map tr)) w) := by
 obtain ⟨oL, oK, cL, cK, c, rfl, O⟩ := h.inv
 have hszl : szL V.l ≤ N ∧ V.ks.length ≤ 60000 := by rw [sz_eq] at hs; omega
 have HF := qh (And.intro hf O)
 have HB0 := qh ((Wb.made w V (.slice oL V.l.length cL) (.slice oK V.ks.length cK)).alloc (.cells zc 33))
 have HB1 : Hid (((w.alloc (bx V oL oK cL cK)).alloc (.cells zc 33)).heap[w.heap.size + 1]? = some (.cells zc 33 (0, 0))) := by have := heap_alloc_new (w.alloc (bx V oL oK cL cK)) (.cells zc 33); rw [World.size_alloc] at this; exact this
 have HW := qh (((Below.refl w.heap.size w).alloc (Nat.le_refl _) (bx V oL oK cL cK)).alloc (by simp) (.cells zc 33))
 have HZ : Hid (((w.alloc (bx V oL oK cL cK)).alloc (.cells zc 33)).heap.size = w.heap.size + 2) := by simp [Hid]
 clear hf h O
 go_enter Tryz.func131, Tryz.ntmps131
 go_wp2_with fail
 generalize (w.alloc _).alloc _ = w0 at *
 refine (anew_18 tr N hN HF.out.1 hszl.1 (HF.out.2.L.below (HW.out.mono hn)) (fun j x hx => (HF.out.2.el j x hx).kept (HW.out.mono hn)) (by have := HZ.out; omega)).mono ?_
 rintro e w1 ⟨o1, cap1, c1, rfl, r1, e1, m1, b1⟩
 have z1 := b1.size
 have hz := HZ.out
 have W1 := HB0.out.keep b1 (by omega)
 have W2 := qh (W1.set3 (.slice o1 V.l.length cap1))
 have A1 := qh (Aft.setCell w1 ⟨w.heap.size, 3, none⟩ (.slice o1 V.l.length cap1) (Nat.lt_succ_self _))
 have B1 := qh (((HW.out.trans (b1.mono (by omega))).setCell (p := ⟨w.heap.size, 3, none⟩) (Nat.le_refl _) (.slice o1 V.l.length cap1)))
 have Q1 : Hid ((w1.setCell ⟨w.heap.size, 3, none⟩ (.slice o1 V.l.length cap1)).heap[w.heap.size + 1]? = some (.cells zc 33 (0, 0))) := by
  unfold Hid; rw [heap_setCell_other _ _ _ _ (by simp), b1.block _ (by omega)]; exact HB1.out
 have Z1 : Hid ((w1.setCell ⟨w.heap.size, 3, none⟩ (.slice o1 V.l.length cap1)).heap.size = w1.heap.size) := by unfold Hid; rw [World.size_setCell]
 have M1 := qh (And.intro r1 (And.intro e1 m1))
 obtain ⟨q8, q0, q1, q2, q3, q4, q5, q6, q7⟩ := W1.hd
 have f3 := W1.free 3
 clear r1 e1 m1 b1 W1 hz
 go_wp2_with fail
 generalize World.setCell _ _ _ = w2 at *
 clear q8 q0 q1 q2 q3 q4 q5 q6 q7 f3
 refine (anew_s hszl.2 (HF.out.2.K.below (B1.out.mono hn)) (by have := HZ.out; have := Z1.out; omega)).mono ?_
 rintro e w3 ⟨o3, cap3, rfl, r3, m3, b3⟩
 have z3 := b3.size
 have hz := HZ.out
 have hz1 := Z1.out
 have W3 := W2.out.keep b3 (by omega)
 have W4 := qh (W3.set4 (.slice o3 V.ks.length cap3))
 obtain ⟨q8, q0, q1, q2, q3, q4, q5, q6, q7⟩ := W3.hd
 have f4 := W3.free 4
 have A3 := qh (Aft.setCell w3 ⟨w.heap.size, 4, none⟩ (.slice o3 V.ks.length cap3) (Nat.lt_succ_self _))
 have B3 := qh ((B1.out.trans (b3.mono (by omega))).setCell (p := ⟨w.heap.size, 4, none⟩) (Nat.le_refl _) (.slice o3 V.ks.length cap3))
 have Q3 : Hid ((w3.setCell ⟨w.heap.size, 4, none⟩ (.slice o3 V.ks.length cap3)).heap[w.heap.size + 1]? = some (.cells zc 33 (0, 0))) := by
  unfold Hid; rw [heap_setCell_other _ _ _ _ (by simp), b3.block _ (by omega)]; exact Q1.out
 have M3 := qh (And.intro r3 (And.intro m3 b3))
 clear r3 m3 b3 W3 hz hz1
 go_upto_region 3 with fail
 generalize World.setCell _ _ _ = w4 at *
 clear q8 q0 q1 q2 q3 q4 q5 q6 q7 f4
 obtain ⟨q8, q0, q1, q2, q3, q4, q5, q6, q7⟩ := W4.out.hd
 have R := qh (store_box Q3.out (c8 V (.slice o1 V.l.length cap1) (.slice o3 V.ks.length cap3)) rfl)
 have A4 := qh (Aft.setRow w4 (w.heap.size + 1) ((zc.toList.take 0 ++ (c8 V (.slice o1 V.l.length cap1) (.slice o3 V.ks.length cap3)).toList ++ zc.toList.drop (0 + (c8 V (.slice o1 V.l.length cap1) (.slice o3 V.ks.length cap3)).size)).toArray) (Nat.lt_succ_self _))
 have B4 := qh (below_setRow B3.out (Nat.le_succ _) ((zc.toList.take 0 ++ (c8 V (.slice o1 V.l.length cap1) (.slice o3 V.ks.length cap3)).toList ++ zc.toList.drop (0 + (c8 V (.slice o1 V.l.length cap1) (.slice o3 V.ks.length cap3)).size)).toArray))
 go_wp2_with ((with_reducible refine wpList_store_at rfl 33 (.tmp 4) (.tmp 14) rfl (w.heap.size + 1) 0 rfl _ rfl 33 zc Q3.out ?st1 ?st2 ?st3 ?st4); case' st4 => generalize World.setRow _ _ _ = w5 at *)
 case st2 => have := size27; simpa using this
 case st3 => simp [Value.oneCell']
 obtain ⟨p8, p0, p1, p2, p3, p4, p5, p6, p7⟩ := (show Wb w5 (w.heap.size + 1) V (.slice o1 V.l.length cap1) (.slice o3 V.ks.length cap3) from R.out).hd
 have T3 : Hid (Aft (w.heap.size + 2) w3 w5) := (A3.out.mono (by omega)).trans A4.out
 have T1 : Hid (Aft (w.heap.size + 2) w1 w5) := (A1.out.mono (by omega)).trans ((Aft.of_below M3.out.2.2).trans T3.out)
 clear q8 q0 q1 q2 q3 q4 q5 q6 q7
 refine bodyPost_ret (v := vv V.k V.i V.s (.slice o1 V.l.length cap1) (.slice o3 V.ks.length cap3) V.tk V.to V.x) (by simp [results, Tryz.results131, go_sem, p0, p1, p2, p3, p4, p5, p6, p7]) rfl ?_
 exact rb_end HF.out.2 M1.out.1 M1.out.2.1 M1.out.2.2 M3.out.1 M3.out.2.1 T1.out T3.out B4.out (by have := HZ.out; omega) (by have := HZ.out; have := Z1.out; omega)
open Go.RowKit

theorem cp_shift {V : Val} {w w0 w1 w2 : World} {e : Ending} {oL oK : Option Addr} {cL cK : Nat} {c : Nat → Nat → Value} {lo : Nat} (O : OpnP (FrV w0 w1) w1 V oL oK cL cK c) (m1 : Mine w0.heap.size w1 oL 33 V.l.length 8) (m3 : Mine w0.heap.size w1 oK 9 V.ks.length 1)
 (A : Aft lo w1 w2) (h0 : lo ≤ w0.heap.size) (hw : w.heap.size ≤ w0.heap.size) (B : Below w.heap.size w w2) (he : e = .returned (vv V.k V.i V.s (.slice oL V.l.length cL) (.slice oK V.ks.length cK) V.tk V.to V.x)) : CpPost V w e w2 := by
 have k1 : ∀ k, FrV w0 w1 k → FrV w w2 k ∧ w2.heap[k]? = w1.heap[k]? := fun k hk => ⟨⟨by have := hk.1; omega, Nat.lt_of_lt_of_le hk.2 A.size⟩, A.block k (by have := hk.1; omega) hk.2⟩
 exact cp_mk oL oK cL cK c he ⟨O.wk, O.wi, O.wtk, O.wto, O.ws, O.wks, O.L.keptP k1, O.K.keptP k1, fun j x hx => (O.el j x hx).keptP k1⟩ (m1.same hw A h0) (m3.same hw A h0) B
theorem sl_self (V : Val) : V.sl V.l = V := by cases V; rfl
set_option maxHeartbeats 2000000 in
set_option maxRecDepth 100000 in
theorem copy_any (N : Nat) (hN : N ≤ 60000) : ∀ (n : Nat) (V : Val) (v : Value) (w : World), sz V ≤ N → Lies n w V v → n ≤ w.heap.size → Calls Tryz.prog 90 #[v] w (CpPost V w) := by
 induction N with
 | zero => intro n V v w hs; have := sz_pos V; omega
 | succ N ih =>
   intro n V v w hs h hn
   have HR := qh (rebuilt_18 id N (by omega) (ih (by omega)))
   obtain ⟨oL, oK, cL, cK, c, rfl, O⟩ := h.inv
   have HF := qh O
   have HB1 : Hid (((w.alloc (bx V oL oK cL cK)).alloc (.cells zc 33)).heap[w.heap.size + 1]? = some (.cells zc 33 (0, 0))) := by have := heap_alloc_new (w.alloc (bx V oL oK cL cK)) (.cells zc 33); rw [World.size_alloc] at this; exact this
   have HW := qh (((Below.refl w.heap.size w).alloc (Nat.le_refl _) (bx V oL oK cL cK)).alloc (by simp) (.cells zc 33))
   have HZ : Hid (((w.alloc (bx V oL oK cL cK)).alloc (.cells zc 33)).heap.size = w.heap.size + 2) := by simp [Hid]
   clear h O ih
   go_enter Tryz.func90, Tryz.ntmps90
   go_wp2_with fail
   generalize (w.alloc _).alloc _ = w0 at *
   refine (HR.out _ _ _ _ hs (HF.out.kept (HW.out.mono hn)).lies (by have := HZ.out; omega)).mono ?_
   rw [List.map_id, sl_self]
   rintro e w1 ⟨o1, o3, cap1, cap3, c1, rfl, O1, m1, m3, b1⟩
   have Q1 : Hid (w1.heap[w.heap.size + 1]? = some (.cells zc 33 (0, 0))) := by unfold Hid; rw [b1.block _ (by have := HZ.out; omega)]; exact HB1.out
   have R := qh (store_box Q1.out (c8 V (.slice o1 V.l.length cap1) (.slice o3 V.ks.length cap3)) rfl)
   have B1 := HW.out.trans (b1.mono (by have := HZ.out; omega))
   have A4 := qh (Aft.setRow w1 (w.heap.size + 1) ((zc.toList.take 0 ++ (c8 V (.slice o1 V.l.length cap1) (.slice o3 V.ks.length cap3)).toList ++ zc.toList.drop (0 + (c8 V (.slice o1 V.l.length cap1) (.slice o3 V.ks.length cap3)).size)).toArray) (Nat.lt_succ_self _))
   have B4 := qh (below_setRow B1 (Nat.le_succ _) ((zc.toList.take 0 ++ (c8 V (.slice o1 V.l.length cap1) (.slice o3 V.ks.length cap3)).toList ++ zc.toList.drop (0 + (c8 V (.slice o1 V.l.length cap1) (.slice o3 V.ks.length cap3)).size)).toArray))
   have M := qh (And.intro O1 (And.intro m1 m3))
   clear B1 b1 O1 m1 m3
   go_wp2_with ((with_reducible refine wpList_store_at rfl 33 (.tmp 2) (.tmp 4) rfl (w.heap.size + 1) 0 rfl _ rfl 33 zc Q1.out ?st1 ?st2 ?st3 ?st4); case' st4 => generalize World.setRow _ _ _ = w5 at *)
   case st1 => simp
   case st2 => have := size27; simpa using this
   case st3 => simp [Value.oneCell']
   obtain ⟨p8, p0, p1, p2, p3, p4, p5, p6, p7⟩ := (show Wb w5 (w.heap.size + 1) V (.slice o1 V.l.length cap1) (.slice o3 V.ks.length cap3) from R.out).hd
   refine bodyPost_ret (v := vv V.k V.i V.s (.slice o1 V.l.length cap1) (.slice o3 V.ks.length cap3) V.tk V.to V.x) (by simp [results, Tryz.results90, go_sem, p0, p1, p2, p3, p4, p5, p6, p7]) rfl ?_
   exact cp_shift M.out.1 M.out.2.1 M.out.2.2 A4.out (by have := HZ.out; omega) (by have := HZ.out; omega) B4.out rfl
end Go.Proofs.YtncjncacfagldaaGreatDoor

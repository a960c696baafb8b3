/- Places: the closure, At. -/
import Derived.Test.YtejpbebfkogmfaaDoorB
import Derived.Laws.Rows
import Derived.Deep.Cut
import Derived.Deep.QuietTactic
import Derived.BigQuiet
import Derived.Outline
namespace Go.Proofs.YtejpbebfkogmfaaDoor
open Go.RowKit

structure Exc (cb : Option Nat) (w w' : World) : Prop where
  os : w'.os = w.os
  tape : w'.tape = w.tape
  output : w'.output = w.output
  size : w.heap.size ≤ w'.heap.size
  block : ∀ k, k < w.heap.size → cb ≠ some k → w'.heap[k]? = w.heap[k]?
theorem Exc.refl (cb : Option Nat) (w : World) : Exc cb w w := ⟨rfl, rfl, rfl, Nat.le_refl _, fun _ _ _ => rfl⟩
theorem Exc.trans {cb : Option Nat} {a b c : World} (h : Exc cb a b) (k : Exc cb b c) : Exc cb a c :=
  ⟨k.os.trans h.os, k.tape.trans h.tape, k.output.trans h.output, Nat.le_trans h.size k.size, fun i hi hc => (k.block i (Nat.lt_of_lt_of_le hi h.size) hc).trans (h.block i hi hc)⟩
theorem Exc.of_below {cb : Option Nat} {a b : World} (h : Below a.heap.size a b) : Exc cb a b := ⟨h.os, h.tape, h.output, h.size, fun k hk _ => h.block k hk⟩
theorem Exc.below {cb : Option Nat} {a b : World} {n : Nat} (h : Exc cb a b) (hn : n ≤ a.heap.size) (hc : ∀ k, cb = some k → n ≤ k) : Below n a b :=
  ⟨h.os, h.tape, h.output, h.size, fun k hk => h.block k (by omega) fun e => by have := hc k e; omega⟩
theorem Exc.cell {cb : Option Nat} {w w' : World} (h : Exc cb w w') {b o : Nat} (hb : b < w.heap.size) (hc : cb ≠ some b) : w'.cell? ⟨b, o, none⟩ = w.cell? ⟨b, o, none⟩ := World.cell?_of_block (w := w) (h.block b hb hc)
theorem exc_set {w : World} {rb j : Nat} {v : Value} : Exc (some rb) w (w.setCell ⟨rb, j, none⟩ v) := by
  have hb : Below rb w (w.setCell ⟨rb, j, none⟩ v) := Below.setCell (Below.refl rb w) (p := ⟨rb, j, none⟩) (Nat.le_refl rb) v
  exact ⟨hb.os, hb.tape, hb.output, hb.size, fun k hk hc => heap_setCell_other w _ k v fun e => hc (by rw [e])⟩

/-- all blocks below N but one are as they were -/
structure Fr (rb N : Nat) (w w' : World) : Prop where
  os : w'.os = w.os
  tape : w'.tape = w.tape
  output : w'.output = w.output
  size : w.heap.size ≤ w'.heap.size
  block : ∀ k, k < N → k ≠ rb → w'.heap[k]? = w.heap[k]?
theorem Fr.below {rb N : Nat} {a b c : World} (h : Fr rb N a b) (k : Below N b c) : Fr rb N a c :=
  ⟨k.os.trans h.os, k.tape.trans h.tape, k.output.trans h.output, Nat.le_trans h.size k.size, fun i hi hc => (k.block i hi).trans (h.block i hi hc)⟩
theorem Fr.exc {rb N : Nat} {a b c : World} (h : Fr rb N a b) (hN : N ≤ b.heap.size) (k : Exc (some rb) b c) : Fr rb N a c :=
  ⟨k.os.trans h.os, k.tape.trans h.tape, k.output.trans h.output, Nat.le_trans h.size k.size, fun i hi hc => (k.block i (by omega) (fun e => by injection e with e; exact hc e.symm)).trans (h.block i hi hc)⟩
theorem Fr.to {rb : Nat} {a b : World} (h : Fr rb a.heap.size a b) : Exc (some rb) a b :=
  ⟨h.os, h.tape, h.output, h.size, fun k hk hc => h.block k hk fun e => hc (by rw [e])⟩
/-- a place in block pb, the text in block sb -/
structure Pl (w : World) (pb sb : Nat) (s : ByteArray) (p : Plc) : Prop where
  row : w.heap[pb]? = some (.cells #[.int .i64 p.a, .int .i64 p.l, .int .i64 p.c] 24 (0, 0))
  str : w.heap[sb]? = some (.cells #[.string s] 9 (0, 0))
  ne : pb ≠ sb
theorem Pl.lt {w : World} {pb sb : Nat} {s : ByteArray} {p : Plc} (h : Pl w pb sb s p) : pb < w.heap.size := (Array.getElem?_eq_some_iff.1 h.row).1
theorem Pl.ltS {w : World} {pb sb : Nat} {s : ByteArray} {p : Plc} (h : Pl w pb sb s p) : sb < w.heap.size := (Array.getElem?_eq_some_iff.1 h.str).1
theorem Pl.kept {w w' : World} {pb sb m : Nat} {s : ByteArray} {p : Plc} (h : Pl w pb sb s p) (hb : Below m w w') (h1 : pb < m) (h2 : sb < m) : Pl w' pb sb s p := ⟨(hb.block pb h1).trans h.row, (hb.block sb h2).trans h.str, h.ne⟩
theorem Pl.exc {w w' : World} {pb sb : Nat} {o : Option Nat} {s : ByteArray} {p : Plc} (h : Pl w pb sb s p) (hx : Exc o w w') (h1 : o ≠ some pb) (h2 : o ≠ some sb) : Pl w' pb sb s p := ⟨(hx.block pb h.lt h1).trans h.row, (hx.block sb h.ltS h2).trans h.str, h.ne⟩
theorem Pl.rc {w : World} {pb sb : Nat} {s : ByteArray} {p : Plc} (h : Pl w pb sb s p) : w.cell? ⟨pb, 0, none⟩ = some (.int .i64 p.a) ∧ w.cell? ⟨pb, 1, none⟩ = some (.int .i64 p.l) ∧ w.cell? ⟨pb, 2, none⟩ = some (.int .i64 p.c) ∧
    w.frozen? ⟨pb, 0, none⟩ = false ∧ w.frozen? ⟨pb, 1, none⟩ = false ∧ w.frozen? ⟨pb, 2, none⟩ = false ∧ w.cell? ⟨sb, 0, none⟩ = some (.string s) ∧ pb < w.heap.size :=
  ⟨cell_of_row w pb 0 _ _ _ h.row, cell_of_row w pb 1 _ _ _ h.row, cell_of_row w pb 2 _ _ _ h.row, frozen_of_row w pb 0 _ _ h.row, frozen_of_row w pb 1 _ _ h.row, frozen_of_row w pb 2 _ _ h.row, cell_of_row w sb 0 _ _ _ h.str, h.lt⟩
theorem Pl.s0 {w : World} {pb sb : Nat} {s : ByteArray} {p : Plc} (h : Pl w pb sb s p) (x : Nat) {v : Value} (hv : v = .int .i64 (x : Int)) : Pl (w.setCell ⟨pb, 0, none⟩ v) pb sb s { p with a := x } := by
  subst hv
  exact ⟨(heap_setCell_same w pb 0 _ _ _ h.row).trans rfl, (heap_setCell_other w _ sb _ fun e => h.ne e.symm).trans h.str, h.ne⟩
theorem Pl.s1 {w : World} {pb sb : Nat} {s : ByteArray} {p : Plc} (h : Pl w pb sb s p) (x : Nat) {v : Value} (hv : v = .int .i64 (x : Int)) : Pl (w.setCell ⟨pb, 1, none⟩ v) pb sb s { p with l := x } := by
  subst hv
  exact ⟨(heap_setCell_same w pb 1 _ _ _ h.row).trans rfl, (heap_setCell_other w _ sb _ fun e => h.ne e.symm).trans h.str, h.ne⟩
theorem Pl.s2 {w : World} {pb sb : Nat} {s : ByteArray} {p : Plc} (h : Pl w pb sb s p) (x : Nat) {v : Value} (hv : v = .int .i64 (x : Int)) : Pl (w.setCell ⟨pb, 2, none⟩ v) pb sb s { p with c := x } := by
  subst hv
  exact ⟨(heap_setCell_same w pb 2 _ _ _ h.row).trans rfl, (heap_setCell_other w _ sb _ fun e => h.ne e.symm).trans h.str, h.ne⟩
/-- a block of three numbers -/
theorem rc3 {w : World} {b : Nat} {x y z : Value} {t : TypeId} (h : w.heap[b]? = some (.cells #[x, y, z] t (0, 0))) : w.cell? ⟨b, 0, none⟩ = some x ∧ w.cell? ⟨b, 1, none⟩ = some y ∧ w.cell? ⟨b, 2, none⟩ = some z ∧
    w.frozen? ⟨b, 0, none⟩ = false ∧ w.frozen? ⟨b, 1, none⟩ = false ∧ w.frozen? ⟨b, 2, none⟩ = false ∧ b < w.heap.size :=
  ⟨cell_of_row w b 0 _ _ _ h, cell_of_row w b 1 _ _ _ h, cell_of_row w b 2 _ _ _ h, frozen_of_row w b 0 _ _ h, frozen_of_row w b 1 _ _ h, frozen_of_row w b 2 _ _ h, (Array.getElem?_eq_some_iff.1 h).1⟩
def P3 (w : World) (b : Nat) (p : Plc) : Prop := w.heap[b]? = some (.cells #[.int .i64 p.a, .int .i64 p.l, .int .i64 p.c] 24 (0, 0))
theorem P3.s0 {w : World} {pb : Nat} {p : Plc} (h : P3 w pb p) (x : Nat) {v : Value} (hv : v = .int .i64 (x : Int)) : P3 (w.setCell ⟨pb, 0, none⟩ v) pb { p with a := x } := by
  subst hv; exact (heap_setCell_same w pb 0 _ _ _ h).trans rfl
theorem P3.s1 {w : World} {pb : Nat} {p : Plc} (h : P3 w pb p) (x : Nat) {v : Value} (hv : v = .int .i64 (x : Int)) : P3 (w.setCell ⟨pb, 1, none⟩ v) pb { p with l := x } := by
  subst hv; exact (heap_setCell_same w pb 1 _ _ _ h).trans rfl
theorem P3.s2 {w : World} {pb : Nat} {p : Plc} (h : P3 w pb p) (x : Nat) {v : Value} (hv : v = .int .i64 (x : Int)) : P3 (w.setCell ⟨pb, 2, none⟩ v) pb { p with c := x } := by
  subst hv; exact (heap_setCell_same w pb 2 _ _ _ h).trans rfl
/-- a place as a value -/
abbrev pv3 (p : Plc) : Value := .agg #[.int .i64 p.a, .int .i64 p.l, .int .i64 p.c]
set_option maxHeartbeats 1000000 in
theorem place_any {pb sb : Nat} {s : ByteArray} {k j : Nat} {w : World} (P : Pl w pb sb s (plc (lb s) k)) (hs : s.size ≤ 1000000) (hk : k ≤ j) (hj : j ≤ s.size) {x : Int} (hx : ∀ i : Nat, (i : Int) < min x s.size ↔ i < j) :
    Calls Tryd.prog 22 #[.int .i64 x, .pointer (some ⟨pb, 0, none⟩), .pointer (some ⟨sb, 0, none⟩)] w fun e w' => e = .returned (pv3 (plc (lb s) j)) ∧ Pl w' pb sb s (plc (lb s) j) ∧ Exc (some pb) w w' := by
  have hlt := P.lt
  have hltS := P.ltS
  obtain ⟨N, hN⟩ : ∃ N, N = w.heap.size := ⟨_, rfl⟩
  have HW : Hid (Below N w (w.alloc (.cells #[.int .i64 0, .int .i64 0, .int .i64 0] 24))) := (Below.refl N w).alloc (by omega) _
  have HP0 := Lib.hid (P.kept HW.out (by omega) (by omega))
  have HX := Lib.hid hx
  have HRB : Hid ((w.alloc (.cells #[.int .i64 0, .int .i64 0, .int .i64 0] 24)).heap[N]? = some (.cells #[.int .i64 0, .int .i64 0, .int .i64 0] 24 (0, 0))) := by rw [hN]; exact heap_alloc_new _ _
  have HF : Hid (∀ w', Fr pb N w w' → Exc (some pb) w w') := fun w' h => by subst hN; exact h.to
  have HF0 : Hid (Fr pb N w (w.alloc (.cells #[.int .i64 0, .int .i64 0, .int .i64 0] 24))) := Fr.below ⟨rfl, rfl, rfl, Nat.le_refl _, fun _ _ _ => rfl⟩ HW.out
  rw [← hN] at hlt hltS
  have hlt0 := hlt
  clear hx P
  go_enter Tryd.func22, Tryd.ntmps22
  go_upto_region 1 with fail
  rw [← hN]
  clear hN HW
  generalize w.alloc _ = w0 at *
  go_loopw [] (fun wr => ∃ i : Nat, i ≤ j ∧ Hid (k ≤ i) ∧ Hid (Pl wr pb sb s (plc (lb s) i)) ∧ Hid (Fr pb N w wr) ∧ Hid (wr.heap[N]? = some (.cells #[.int .i64 0, .int .i64 0, .int .i64 0] 24 (0, 0)))) (fun wr => (j - (match wr.cell? ⟨pb, 0, none⟩ with | some v => (intOf v).toNat | none => 0)))
  case atStart => exact ⟨k, hk, Nat.le_refl k, HP0, HF0, HRB⟩
  case round =>
    obtain ⟨i, hi, hki, HP, HE, HB⟩ := hrel
    have LS : (lb s).length = s.size := L_len s
    obtain ⟨x0, x1, x2, f0, f1, f2, xs, lp⟩ := HP.out.rc
    rw [plc_a (lb s) i (by omega)] at x0
    obtain ⟨pl, hpl⟩ : ∃ q, (plc (lb s) i).l = q := ⟨_, rfl⟩
    obtain ⟨pc, hpc⟩ : ∃ q, (plc (lb s) i).c = q := ⟨_, rfl⟩
    have bl := plc_l (lb s) i
    have bc := plc_c (lb s) i
    rw [hpl] at x1 bl
    rw [hpc] at x2 bc
    rw [LS] at bl bc
    have hp3 : Hid (plc (lb s) i = ⟨i, pl, pc⟩) := by
      have := plc_a (lb s) i (by omega)
      unfold Hid
      rw [← hpl, ← hpc]
      rw [show (⟨i, (plc (lb s) i).l, (plc (lb s) i).c⟩ : Plc) = ⟨(plc (lb s) i).a, (plc (lb s) i).l, (plc (lb s) i).c⟩ by rw [this]]
    clear hpl hpc
    have b0 : N < wr.heap.size := (Array.getElem?_eq_some_iff.1 HB.out).1
    by_cases hlt : i < j
    · have t1 : (i : Int) < min x s.size := (HX.out i).2 hlt
      have t2 : i < s.size := by omega
      have HS : Hid (plc (lb s) (i + 1) = (plc (lb s) i).step s[i]) := by
        unfold Hid
        rw [plc_succ (lb s) i (by omega), lb_get t2]
      clear LS
      cases hc : ((s[i].toNat : Int) == 10) with
      | true =>
        have HQ : Hid (plc (lb s) (i + 1) = ⟨i + 1, pl + 1, 1⟩) := by
          unfold Hid
          rw [HS.out, hp3.out]
          have : s[i] = 10 := UInt8.toNat_inj.1 (by have h1 := eq_of_beq hc; have : (10 : UInt8).toNat = 10 := rfl; omega)
          unfold Plc.step
          rw [if_pos this]
        clear HS
        go_wp2_with fail
        go_roundw
        case rel =>
          have h1 := hp3.out ▸ HP.out
          refine ⟨i + 1, by omega, by have := hki.out; unfold Hid; omega, ?_, ?_, ?_⟩
          · unfold Hid; rw [HQ.out]
            exact (((h1.s2 (pc + 1) (by simp)).s1 (pl + 1) (by simp)).s2 1 rfl).s0 (i + 1) (by simp)
          · exact (((HE.out.exc (by omega) exc_set).exc (by simp; omega) exc_set).exc (by simp; omega) exc_set).exc (by simp; omega) exc_set
          · unfold Hid
            rw [heap_setCell_other _ _ _ _ (by simp; omega), heap_setCell_other _ _ _ _ (by simp; omega), heap_setCell_other _ _ _ _ (by simp; omega), heap_setCell_other _ _ _ _ (by simp; omega)]
            exact HB.out
        case measure =>
          have h1 := hp3.out ▸ HP.out
          rw [World.cell?_setCell_same _ _ _ (((h1.s2 (pc + 1) (v := .int .i64 ((pc : Int) + 1)) (by simp)).s1 (pl + 1) (v := .int .i64 ((pl : Int) + 1)) (by simp)).s2 1 (v := .int .i64 1) rfl).rc.1, x0]
          simp [intOf]; omega
      | false =>
        have HQ : Hid (plc (lb s) (i + 1) = ⟨i + 1, pl, pc + 1⟩) := by
          unfold Hid
          rw [HS.out, hp3.out]
          have : ¬ s[i] = 10 := fun h => by rw [h] at hc; simp at hc
          unfold Plc.step
          rw [if_neg this]
        clear HS
        go_wp2_with fail
        go_roundw
        case rel =>
          have h1 := hp3.out ▸ HP.out
          refine ⟨i + 1, by omega, by have := hki.out; unfold Hid; omega, ?_, ?_, ?_⟩
          · unfold Hid; rw [HQ.out]
            exact (h1.s2 (pc + 1) (by simp)).s0 (i + 1) (by simp)
          · exact (HE.out.exc (by omega) exc_set).exc (by simp; omega) exc_set
          · unfold Hid
            rw [heap_setCell_other _ _ _ _ (by simp; omega), heap_setCell_other _ _ _ _ (by simp; omega)]
            exact HB.out
        case measure =>
          have h1 := hp3.out ▸ HP.out
          rw [World.cell?_setCell_same _ _ _ (h1.s2 (pc + 1) (v := .int .i64 ((pc : Int) + 1)) (by simp)).rc.1, x0]
          simp [intOf]; omega
    · have hlt' := hlt0
      have t1 : ¬ (i : Int) < min x s.size := fun h => hlt ((HX.out i).1 h)
      have hij : i = j := by omega
      subst hij
      clear LS hlt
      have HP3 := hp3
      have r0 := cell_of_row wr N 0 _ _ _ HB.out
      have r1 := cell_of_row wr N 1 _ _ _ HB.out
      have r2 := cell_of_row wr N 2 _ _ _ HB.out
      have g0 := frozen_of_row wr N 0 _ _ HB.out
      have g1 := frozen_of_row wr N 1 _ _ HB.out
      have g2 := frozen_of_row wr N 2 _ _ HB.out
      go_wp2_with fail
      refine bodyPost_ret (v := pv3 (plc (lb s) i)) (by simp [results, Tryd.results22, go_sem, r0, r1, r2, HP3.out]) rfl ?_
      have hb := (((Below.refl N wr).setCell (p := ⟨N, 0, none⟩) (Nat.le_refl N) (.int .i64 i)).setCell (p := ⟨N, 1, none⟩) (Nat.le_refl N) (.int .i64 pl)).setCell (p := ⟨N, 2, none⟩) (Nat.le_refl N) (.int .i64 pc)
      exact ⟨rfl, HP.out.kept hb hlt' hltS, HF.out _ (HE.out.below hb)⟩
theorem places_any (s : ByteArray) (w : World) : Calls Tryd.prog 16 #[.string s] w fun e w' => e = .returned (.func (.func 22) #[] #[.pointer (some ⟨w.heap.size + 1, 0, none⟩), .pointer (some ⟨w.heap.size, 0, none⟩)]) ∧ w' = (w.alloc (.cells #[.string s] 9)).alloc (.cells #[.int .i64 0, .int .i64 1, .int .i64 1] 24) := by
  go_enter Tryd.func16, Tryd.ntmps16
  go_wp2_with fail
  go_ret
  exact ⟨rfl, rfl⟩
theorem pl_start (s : ByteArray) (w : World) : Pl ((w.alloc (.cells #[.string s] 9)).alloc (.cells #[.int .i64 0, .int .i64 1, .int .i64 1] 24)) (w.heap.size + 1) w.heap.size s (plc (lb s) 0) := by
  refine ⟨?_, ?_, by omega⟩
  · have := heap_alloc_new (w.alloc (.cells #[.string s] 9)) (.cells #[.int .i64 0, .int .i64 1, .int .i64 1] 24)
    rw [show (w.alloc (.cells #[.string s] 9)).heap.size = w.heap.size + 1 by simp] at this
    exact this
  · exact (((Below.refl (w.heap.size + 1) (w.alloc _)).alloc (by simp) _).block _ (Nat.lt_succ_self _)).trans (heap_alloc_new w _)
/-- how far it goes -/
def upto (x : Int) (n : Nat) : Nat := min x.toNat n
theorem upto_lt (x : Int) (n i : Nat) : (i : Int) < min x n ↔ i < upto x n := by unfold upto; omega
theorem plc_upto (s : ByteArray) (x : Int) : plc (lb s) (upto x s.size) = plc (lb s) x.toNat := by
  have LS : (lb s).length = s.size := L_len s
  unfold upto
  rw [← LS, plc_min]
theorem at_any (s : ByteArray) (hs : s.size ≤ 1000000) (x : Int) (w : World) : Calls Tryd.prog 8 #[.string s, .int .i64 x] w fun e w' => e = .returned (pv3 (plc (lb s) x.toNat)) ∧ Below w.heap.size w w' := by
  have C := fun w0 : World => place_any (j := upto x s.size) (pl_start s w0) hs (Nat.zero_le _) (by unfold upto; omega) (upto_lt x s.size)
  rw [plc_upto] at C
  have HC := Lib.hid C
  clear C
  obtain ⟨N, hN⟩ : ∃ N, N = w.heap.size := ⟨_, rfl⟩
  have HN : Hid (∀ u w', u = w → Below N w w' → Below u.heap.size w w') := fun u w' e h => by subst e; rw [← hN]; exact h
  go_enter Tryd.func8, Tryd.ntmps8
  go_wp2_with fail
  refine (places_any s _).mono ?_
  rintro e w1 ⟨rfl, rfl⟩
  go_wp2_with fail
  have C := HC.out (w.alloc (.cells #[.int .i64 0, .int .i64 0, .int .i64 0] 24))
  rw [show (w.alloc (.cells #[.int .i64 0, .int .i64 0, .int .i64 0] 24)).heap.size = w.heap.size + 1 by simp] at C
  refine C.mono ?_
  rintro e w1 ⟨rfl, -, X⟩
  have HB : Hid (w1.heap[w.heap.size]? = some (.cells #[.int .i64 0, .int .i64 0, .int .i64 0] 24 (0, 0))) := by
    refine (X.block _ (by simp; omega) (fun h => by injection h with h; omega)).trans ?_
    exact ((((Below.refl (w.heap.size + 1) (w.alloc _)).alloc (by simp) _).alloc (by simp) _).block _ (Nat.lt_succ_self _)).trans (heap_alloc_new w _)
  have HBel : Hid (Below w.heap.size w w1) := ((((Below.refl w.heap.size w).alloc (Nat.le_refl _) _).alloc (by simp) _).alloc (by simp; omega) _).trans (X.below (by simp; omega) (fun k h => by injection h with h; omega))
  clear X C
  obtain ⟨r0, r1, r2, g0, g1, g2, lb0⟩ := rc3 HB.out
  obtain ⟨p, hp⟩ : ∃ p, plc (lb s) x.toNat = p := ⟨_, rfl⟩
  have HQ : Hid (∀ e, e = Ending.returned (pv3 p) → e = Ending.returned (pv3 (plc (lb s) x.toNat))) := fun e h => by rw [hp]; exact h
  rw [hp]
  clear hp
  rw [← hN] at *
  go_wp2_with fail
  refine bodyPost_ret (v := pv3 p) (by simp [results, Tryd.results8, go_sem, r0, r1, r2]) rfl ?_
  exact ⟨HQ.out _ rfl, HN.out w _ rfl (((HBel.out.setCell (p := ⟨N, 0, none⟩) (Nat.le_refl N) _).setCell (p := ⟨N, 1, none⟩) (Nat.le_refl N) _).setCell (p := ⟨N, 2, none⟩) (Nat.le_refl N) _)⟩
theorem plc_small (s : ByteArray) (i : Nat) : (plc (lb s) i).l ≤ 1 + s.size ∧ (plc (lb s) i).c ≤ 1 + s.size := by
  have LS : (lb s).length = s.size := L_len s
  have := plc_l (lb s) i
  have := plc_c (lb s) i
  omega
set_option maxHeartbeats 1000000 in
theorem rat_any (s : ByteArray) (hs : s.size ≤ 1000000) (x : Int) (w : World) : Calls Tryd.prog 9 #[.string s, .int .i64 x] w fun e w' => e = .returned (pv3 (plc (lb s) x.toNat)) ∧ Below w.heap.size w w' := by
  have LS' : (lb s).length = s.size := L_len s
  have LS := Lib.hid LS'
  rw [← plc_upto]
  obtain ⟨T, hT⟩ : ∃ T, upto x s.size = T := ⟨_, rfl⟩
  have HT : Hid (∀ i, i < s.size → ((i : Int) < x ↔ i < T)) := fun i hi => by have := upto_lt x s.size i; rw [hT] at this; omega
  have hTs : T ≤ s.size := by rw [← hT]; unfold upto; omega
  rw [hT]
  clear hT LS'
  obtain ⟨N, hN⟩ : ∃ N, N = w.heap.size := ⟨_, rfl⟩
  have HN : Hid (∀ u w', u = w → Below N w w' → Below u.heap.size w w') := fun u w' e h => by subst e; rw [← hN]; exact h
  have HB0 : Hid (((w.alloc (.cells #[.int .i64 0, .int .i64 0, .int .i64 0] 24)).alloc (.cells #[.int .i64 0, .int .i64 1, .int .i64 1] 24)).heap[N]? = some (.cells #[.int .i64 0, .int .i64 0, .int .i64 0] 24 (0, 0))) := by
    rw [hN]; exact ((Below.refl (w.heap.size + 1) (w.alloc _)).alloc (by simp) _).block _ (Nat.lt_succ_self _) |>.trans (heap_alloc_new w _)
  have HP0 : Hid (P3 ((w.alloc (.cells #[.int .i64 0, .int .i64 0, .int .i64 0] 24)).alloc (.cells #[.int .i64 0, .int .i64 1, .int .i64 1] 24)) (N + 1) (plc (lb s) 0)) := by
    have := heap_alloc_new (w.alloc (.cells #[.int .i64 0, .int .i64 0, .int .i64 0] 24)) (.cells #[.int .i64 0, .int .i64 1, .int .i64 1] 24)
    rw [show (w.alloc (.cells #[.int .i64 0, .int .i64 0, .int .i64 0] 24)).heap.size = N + 1 by simp [hN]] at this
    exact this
  have HW0 : Hid (Below N w ((w.alloc (.cells #[.int .i64 0, .int .i64 0, .int .i64 0] 24)).alloc (.cells #[.int .i64 0, .int .i64 1, .int .i64 1] 24))) := ((Below.refl N w).alloc (by omega) _).alloc (by simp; omega) _
  go_enter Tryd.func9, Tryd.ntmps9
  go_upto_region 3 with fail
  rw [← hN] at *
  clear hN
  generalize (World.alloc w _).alloc _ = w0 at *
  go_loopw [6] (fun n wr => ∃ i : Nat, i ≤ T ∧ n = .int .i64 i ∧ Hid (P3 wr (N + 1) (plc (lb s) i)) ∧ Hid (Below N w wr) ∧ Hid (wr.heap[N]? = some (.cells #[.int .i64 0, .int .i64 0, .int .i64 0] 24 (0, 0)))) (fun n wr => T - (intOf n).toNat)
  case atStart => exact ⟨0, Nat.zero_le _, rfl, HP0, HW0, HB0⟩
  case round =>
    obtain ⟨i, hi, rfl, HP, HE, HB⟩ := hrel
    obtain ⟨x0, x1, x2, f0, f1, f2, lp⟩ := rc3 HP.out
    rw [plc_a (lb s) i (by rw [LS.out]; omega)] at x0
    have bl := (plc_small s i).1
    have bc := (plc_small s i).2
    have ha := plc_a (lb s) i (by rw [LS.out]; omega)
    obtain ⟨pl, hpl⟩ : ∃ q, (plc (lb s) i).l = q := ⟨_, rfl⟩
    obtain ⟨pc, hpc⟩ : ∃ q, (plc (lb s) i).c = q := ⟨_, rfl⟩
    have hp3 : Hid (plc (lb s) i = ⟨i, pl, pc⟩) := by
      unfold Hid
      rw [← hpl, ← hpc]
      rw [show (⟨i, (plc (lb s) i).l, (plc (lb s) i).c⟩ : Plc) = ⟨(plc (lb s) i).a, (plc (lb s) i).l, (plc (lb s) i).c⟩ by rw [ha]]
    rw [hpl] at x1 bl
    rw [hpc] at x2 bc
    clear hpl hpc ha
    have b0 : N < wr.heap.size := (Array.getElem?_eq_some_iff.1 HB.out).1
    have o1 : ∀ (w' : World) j v, Hid ((w'.setCell ⟨N + 1, j, none⟩ v).heap[N]? = w'.heap[N]?) := fun w' j v => heap_setCell_other _ _ _ _ (by simp)
    by_cases hlt : i < T
    · have t2 : (i : Int) < s.size := by omega
      have t1 : (i : Int) < x := (HT.out i (by omega)).2 hlt
      have t3 : i < s.size := by omega
      have HS : Hid (plc (lb s) (i + 1) = (plc (lb s) i).step s[i]) := by
        unfold Hid
        rw [plc_succ (lb s) i (by rw [LS.out]; omega), lb_get t3]
      cases hc : ((s[i].toNat : Int) == 10) with
      | true =>
        have HQ : Hid (plc (lb s) (i + 1) = ⟨i + 1, pl + 1, 1⟩) := by
          unfold Hid
          rw [HS.out, hp3.out]
          have : s[i] = 10 := UInt8.toNat_inj.1 (by have h1 := eq_of_beq hc; have : (10 : UInt8).toNat = 10 := rfl; omega)
          unfold Plc.step
          rw [if_pos this]
        clear HS
        go_wp2_with fail
        go_roundw
        case rel =>
          have h1 := hp3.out ▸ HP.out
          refine ⟨i + 1, by omega, by go_num, ?_, ?_, ?_⟩
          · unfold Hid; rw [HQ.out]
            exact (((h1.s0 (i + 1) (by simp)).s2 (pc + 1) (by simp)).s1 (pl + 1) (by simp)).s2 1 rfl
          · exact (((HE.out.setCell (by simp) _).setCell (by simp) _).setCell (by simp) _).setCell (by simp) _
          · exact ((o1 _ _ _).out.trans ((o1 _ _ _).out.trans ((o1 _ _ _).out.trans (o1 _ _ _).out))).trans HB.out
        case measure => simp [intOf]; omega
      | false =>
        have HQ : Hid (plc (lb s) (i + 1) = ⟨i + 1, pl, pc + 1⟩) := by
          unfold Hid
          rw [HS.out, hp3.out]
          have : ¬ s[i] = 10 := fun h => by rw [h] at hc; simp at hc
          unfold Plc.step
          rw [if_neg this]
        clear HS
        go_wp2_with fail
        go_roundw
        case rel =>
          have h1 := hp3.out ▸ HP.out
          refine ⟨i + 1, by omega, by go_num, ?_, ?_, ?_⟩
          · unfold Hid; rw [HQ.out]
            exact (h1.s0 (i + 1) (by simp)).s2 (pc + 1) (by simp)
          · exact (HE.out.setCell (by simp) _).setCell (by simp) _
          · exact ((o1 _ _ _).out.trans (o1 _ _ _).out).trans HB.out
        case measure => simp [intOf]; omega
    · have hij : i = T := by omega
      subst hij
      obtain ⟨r0, r1, r2, g0, g1, g2, -⟩ := rc3 HB.out
      have fin : ∀ e w', e = Ending.returned (.agg #[.int .i64 i, .int .i64 pl, .int .i64 pc]) → Below N w w' → Hid (e = Ending.returned (pv3 (plc (lb s) i)) ∧ Below w.heap.size w w') := fun e w' h1 h2 => by
        unfold Hid; rw [hp3.out]; exact ⟨h1, HN.out w _ rfl h2⟩
      by_cases t2 : (i : Int) < s.size
      · have t1 : ¬ (i : Int) < x := fun h => hlt ((HT.out i (by omega)).1 h)
        clear hlt
        go_wp2_with fail
        refine bodyPost_ret (v := .agg #[.int .i64 i, .int .i64 pl, .int .i64 pc]) (by simp [results, Tryd.results9, go_sem, r0, r1, r2]) rfl ?_
        exact (fin _ _ rfl (((HE.out.setCell (p := ⟨N, 0, none⟩) (Nat.le_refl N) _).setCell (p := ⟨N, 1, none⟩) (Nat.le_refl N) _).setCell (p := ⟨N, 2, none⟩) (Nat.le_refl N) _)).out
      · clear hlt
        go_wp2_with fail
        refine bodyPost_ret (v := .agg #[.int .i64 i, .int .i64 pl, .int .i64 pc]) (by simp [results, Tryd.results9, go_sem, r0, r1, r2]) rfl ?_
        exact (fin _ _ rfl (((HE.out.setCell (p := ⟨N, 0, none⟩) (Nat.le_refl N) _).setCell (p := ⟨N, 1, none⟩) (Nat.le_refl N) _).setCell (p := ⟨N, 2, none⟩) (Nat.le_refl N) _)).out
end Go.Proofs.YtejpbebfkogmfaaDoor

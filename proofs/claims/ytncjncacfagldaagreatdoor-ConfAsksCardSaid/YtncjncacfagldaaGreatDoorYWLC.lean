import Derived.Test.YtncjncacfagldaaGreatDoorYWLA
import Derived.Laws.Rows
import Derived.Deep.Cut
import Derived.Deep.QuietTactic
import Derived.BigQuiet
import Derived.Outline
import Derived.Deep.AppendLies
import Derived.OwnWalk
import Derived.Laws.BytesArg
import Derived.Deep.RegionLaw
import Derived.Lib.AppendZeros
namespace Go.Proofs.YtncjncacfagldaaGreatDoor
open Go.RowKit

structure Exc (cb : Option Nat) (w w' : World) : Prop where
 os : w'.os = w.os
 tape : w'.tape = w.tape
 output : w'.output = w.output
 size : w.heap.size ≤ w'.heap.size
 block : ∀ k, k < w.heap.size → cb ≠ some k → w'.heap[k]? = w.heap[k]?
theorem Exc.below {cb : Option Nat} {a b : World} {n : Nat} (h : Exc cb a b) (hn : n ≤ a.heap.size) (hc : ∀ k, cb = some k → n ≤ k) : Below n a b :=
 ⟨h.os, h.tape, h.output, h.size, fun k hk => h.block k (by omega) fun e => by have := hc k e; omega⟩
theorem exc_set {w : World} {rb j : Nat} {v : Value} : Exc (some rb) w (w.setCell ⟨rb, j, none⟩ v) := by
 have hb : Below rb w (w.setCell ⟨rb, j, none⟩ v) := Below.setCell (Below.refl rb w) (p := ⟨rb, j, none⟩) (Nat.le_refl rb) v
 exact ⟨hb.os, hb.tape, hb.output, hb.size, fun k hk hc => heap_setCell_other w _ k v fun e => hc (by rw [e])⟩

structure Fr (rb N : Nat) (w w' : World) : Prop where
 os : w'.os = w.os
 tape : w'.tape = w.tape
 output : w'.output = w.output
 size : w.heap.size ≤ w'.heap.size
 block : ∀ k, k < N → k ≠ rb → w'.heap[k]? = w.heap[k]?
theorem Fr.below {rb N : Nat} {a b c : World} (h : Fr rb N a b) (k : Below N b c) : Fr rb N a c :=
 ⟨k.os.trans h.os, k.tape.trans h.tape, k.output.trans h.output, Nat.le_trans h.size k.size, fun i hi hc => (k.block i hi).trans (h.block i hi hc)⟩
theorem Fr.exc {rb N : Nat} {a b c : World} (h : Fr rb N a b) (hN : N ≤ b.heap.size) (k : Exc (some rb) b c) : Fr rb N a c :=
 ⟨k.os.trans h.os, k.tape.trans h.tape, k.output.trans h.output, Nat.le_trans h.size k.size, fun i hi hc => (k.block i (by omega) (fun e => by injection e with e; exact hc e.symm)).trans (h.block i hi hc)⟩
theorem Fr.to {rb : Nat} {a b : World} (h : Fr rb a.heap.size a b) : Exc (some rb) a b :=
 ⟨h.os, h.tape, h.output, h.size, fun k hk hc => h.block k hk fun e => hc (by rw [e])⟩
structure Pl (w : World) (pb sb : Nat) (s : ByteArray) (p : Plc) : Prop where
 row : w.heap[pb]? = some (.cells #[.int .i64 p.a, .int .i64 p.l, .int .i64 p.c] 36 (0, 0))
 str : w.heap[sb]? = some (.cells #[.string s] 9 (0, 0))
 ne : pb ≠ sb
theorem Pl.lt {w : World} {pb sb : Nat} {s : ByteArray} {p : Plc} (h : Pl w pb sb s p) : pb < w.heap.size := (Array.getElem?_eq_some_iff.1 h.row).1
theorem Pl.ltS {w : World} {pb sb : Nat} {s : ByteArray} {p : Plc} (h : Pl w pb sb s p) : sb < w.heap.size := (Array.getElem?_eq_some_iff.1 h.str).1
theorem Pl.kept {w w' : World} {pb sb m : Nat} {s : ByteArray} {p : Plc} (h : Pl w pb sb s p) (hb : Below m w w') (h1 : pb < m) (h2 : sb < m) : Pl w' pb sb s p := ⟨(hb.block pb h1).trans h.row, (hb.block sb h2).trans h.str, h.ne⟩
theorem Pl.rc {w : World} {pb sb : Nat} {s : ByteArray} {p : Plc} (h : Pl w pb sb s p) : w.cell? ⟨pb, 0, none⟩ = some (.int .i64 p.a) ∧ w.cell? ⟨pb, 1, none⟩ = some (.int .i64 p.l) ∧ w.cell? ⟨pb, 2, none⟩ = some (.int .i64 p.c) ∧
 w.frozen? ⟨pb, 0, none⟩ = false ∧ w.frozen? ⟨pb, 1, none⟩ = false ∧ w.frozen? ⟨pb, 2, none⟩ = false ∧ w.cell? ⟨sb, 0, none⟩ = some (.string s) ∧ pb < w.heap.size :=
 ⟨cell_of_row w pb 0 _ _ _ h.row, cell_of_row w pb 1 _ _ _ h.row, cell_of_row w pb 2 _ _ _ h.row, frozen_of_row w pb 0 _ _ h.row, frozen_of_row w pb 1 _ _ h.row, frozen_of_row w pb 2 _ _ h.row, cell_of_row w sb 0 _ _ _ h.str, h.lt⟩
theorem Pl.s0 {w : World} {pb sb : Nat} {s : ByteArray} {p : Plc} (h : Pl w pb sb s p) (x : Nat) {v : Value} (hv : v = .int .i64 (x : Int)) : Pl (w.setCell ⟨pb, 0, none⟩ v) pb sb s { p with a := x } := by
 subst hv
 exact ⟨(heap_setCell_same w pb 0 _ _ _ h.row).trans rfl, (heap_setCell_other w _ sb _ fun e => h.ne e.symm).trans h.str, h.ne⟩
theorem Pl.s1 {w : World} {pb sb : Nat} {s : ByteArray} {p : Plc} (h : Pl w pb sb s p) (x : Nat) {v : Value} (hv : v = .int .i64 (x : Int)) : Pl (w.setCell ⟨pb, 1, none⟩ v) pb sb s { p with l := x } := by
 subst hv
 exact ⟨(heap_setCell_same w pb 1 _ _ _ h.row).trans rfl, (heap_setCell_other w _ sb _ fun e => h.ne e.symm).trans h.str, h.ne⟩
theorem Pl.s2 {w : World} {pb sb : Nat} {s : ByteArray} {p : Plc} (h : Pl w pb sb s p) (x : Nat) {v : Value} (hv : v = .int .i64 (x : Int)) : Pl (w.setCell ⟨pb, 2, none⟩ v) pb sb s { p with c := x } := by
 subst hv
 exact ⟨(heap_setCell_same w pb 2 _ _ _ h.row).trans rfl, (heap_setCell_other w _ sb _ fun e => h.ne e.symm).trans h.str, h.ne⟩
theorem lrc3 {w : World} {b : Nat} {x y z : Value} {t : TypeId} (h : w.heap[b]? = some (.cells #[x, y, z] t (0, 0))) : w.cell? ⟨b, 0, none⟩ = some x ∧ w.cell? ⟨b, 1, none⟩ = some y ∧ w.cell? ⟨b, 2, none⟩ = some z ∧
 w.frozen? ⟨b, 0, none⟩ = false ∧ w.frozen? ⟨b, 1, none⟩ = false ∧ w.frozen? ⟨b, 2, none⟩ = false ∧ b < w.heap.size :=
 ⟨cell_of_row w b 0 _ _ _ h, cell_of_row w b 1 _ _ _ h, cell_of_row w b 2 _ _ _ h, frozen_of_row w b 0 _ _ h, frozen_of_row w b 1 _ _ h, frozen_of_row w b 2 _ _ h, (Array.getElem?_eq_some_iff.1 h).1⟩
abbrev lpv3 (p : Plc) : Value := .agg #[.int .i64 p.a, .int .i64 p.l, .int .i64 p.c]
set_option maxHeartbeats 1000000 in
theorem lplace_any {pb sb : Nat} {s : ByteArray} {k j : Nat} {w : World} (P : Pl w pb sb s (plc (lb s) k)) (hs : s.size ≤ 1000000) (hk : k ≤ j) (hj : j ≤ s.size) {x : Int} (hx : ∀ i : Nat, (i : Int) < min x s.size ↔ i < j) :
 Calls Tryz.prog 107 #[.int .i64 x, .pointer (some ⟨pb, 0, none⟩), .pointer (some ⟨sb, 0, none⟩)] w fun e w' => e = .returned (lpv3 (plc (lb s) j)) ∧ Pl w' pb sb s (plc (lb s) j) ∧ Exc (some pb) w w' := by
 have hlt := P.lt
 have hltS := P.ltS
 obtain ⟨N, hN⟩ : ∃ N, N = w.heap.size := ⟨_, rfl⟩
 have HW : Hid (Below N w (w.alloc (.cells #[.int .i64 0, .int .i64 0, .int .i64 0] 36))) := (Below.refl N w).alloc (by omega) _
 have HP0 := qh (P.kept HW.out (by omega) (by omega))
 have HX := qh hx
 have HRB : Hid ((w.alloc (.cells #[.int .i64 0, .int .i64 0, .int .i64 0] 36)).heap[N]? = some (.cells #[.int .i64 0, .int .i64 0, .int .i64 0] 36 (0, 0))) := by rw [hN]; exact heap_alloc_new _ _
 have HF : Hid (∀ w', Fr pb N w w' → Exc (some pb) w w') := fun w' h => by subst hN; exact h.to
 have HF0 : Hid (Fr pb N w (w.alloc (.cells #[.int .i64 0, .int .i64 0, .int .i64 0] 36))) := Fr.below ⟨rfl, rfl, rfl, Nat.le_refl _, fun _ _ _ => rfl⟩ HW.out
 rw [← hN] at hlt hltS
 have hlt0 := hlt
 clear hx P
 go_enter Tryz.func107, Tryz.ntmps107
 go_upto_region 1 with fail
 rw [← hN]
 clear hN HW
 generalize w.alloc _ = w0 at *
 go_loopw [] (fun wr => ∃ i : Nat, i ≤ j ∧ Hid (k ≤ i) ∧ Hid (Pl wr pb sb s (plc (lb s) i)) ∧ Hid (Fr pb N w wr) ∧ Hid (wr.heap[N]? = some (.cells #[.int .i64 0, .int .i64 0, .int .i64 0] 36 (0, 0)))) (fun wr => (j - (match wr.cell? ⟨pb, 0, none⟩ with | some v => (intOf v).toNat | none => 0)))
 case atStart => exact ⟨k, hk, Nat.le_refl k, HP0, HF0, HRB⟩
 case round =>
  obtain ⟨i, hi, hki, HP, HE, HB⟩ := hrel
  have LS : (lb s).length = s.size := tp_L_len s
  obtain ⟨x0, x1, x2, f0, f1, f2, xs, lp⟩ := HP.out.rc
  rw [plc_a (lb s) i (by omega)] at x0
  obtain ⟨pl, hpl⟩ : ∃ q, (plc (lb s) i).l = q := ⟨_, rfl⟩
  obtain ⟨pc, hpc⟩ : ∃ q, (plc (lb s) i).c = q := ⟨_, rfl⟩
  have bl := plc_l (lb s) i
  have bc := plc_c (lb s) i
  rw [hpl] at x1 bl
  rw [hpc] at x2 bc
  rw [LS] at bl bc
  have hp3 : Hid (plc (lb s) i = ⟨i, pl, pc⟩) := by
   have := plc_a (lb s) i (by omega)
   unfold Hid
   rw [← hpl, ← hpc]
   rw [show (⟨i, (plc (lb s) i).l, (plc (lb s) i).c⟩ : Plc) = ⟨(plc (lb s) i).a, (plc (lb s) i).l, (plc (lb s) i).c⟩ by rw [this]]
  clear hpl hpc
  have b0 : N < wr.heap.size := (Array.getElem?_eq_some_iff.1 HB.out).1
  by_cases hlt : i < j
  · have t1 : (i : Int) < min x s.size := (HX.out i).2 hlt
    have t2 : i < s.size := by omega
    have HS : Hid (plc (lb s) (i + 1) = (plc (lb s) i).step s[i]) := by
     unfold Hid
     rw [plc_succ (lb s) i (by omega), lb_get t2]
    clear LS
    cases hc : ((s[i].toNat : Int) == 10) with
    | true =>
      have HQ : Hid (plc (lb s) (i + 1) = ⟨i + 1, pl + 1, 1⟩) := by
       unfold Hid
       rw [HS.out, hp3.out]
       have : s[i] = 10 := UInt8.toNat_inj.1 (by have h1 := eq_of_beq hc; have : (10 : UInt8).toNat = 10 := rfl; omega)
       unfold Plc.step
       rw [if_pos this]
      clear HS
      go_wp2_with fail
      go_roundw
      case rel =>
       have h1 := hp3.out ▸ HP.out
       refine ⟨i + 1, by omega, by have := hki.out; unfold Hid; omega, ?_, ?_, ?_⟩
       · unfold Hid; rw [HQ.out]
         exact (((h1.s2 (pc + 1) (by simp)).s1 (pl + 1) (by simp)).s2 1 rfl).s0 (i + 1) (by simp)
       · exact (((HE.out.exc (by omega) exc_set).exc (by simp; omega) exc_set).exc (by simp; omega) exc_set).exc (by simp; omega) exc_set
       · unfold Hid
         rw [heap_setCell_other _ _ _ _ (by simp; omega), heap_setCell_other _ _ _ _ (by simp; omega), heap_setCell_other _ _ _ _ (by simp; omega), heap_setCell_other _ _ _ _ (by simp; omega)]
         exact HB.out
      case measure =>
       have h1 := hp3.out ▸ HP.out
       rw [World.cell?_setCell_same _ _ _ (((h1.s2 (pc + 1) (v := .int .i64 ((pc : Int) + 1)) (by simp)).s1 (pl + 1) (v := .int .i64 ((pl : Int) + 1)) (by simp)).s2 1 (v := .int .i64 1) rfl).rc.1, x0]
       simp [intOf]; omega
    | false =>
      have HQ : Hid (plc (lb s) (i + 1) = ⟨i + 1, pl, pc + 1⟩) := by
       unfold Hid
       rw [HS.out, hp3.out]
       have : ¬ s[i] = 10 := fun h => by rw [h] at hc; simp at hc
       unfold Plc.step
       rw [if_neg this]
      clear HS
      go_wp2_with fail
      go_roundw
      case rel =>
       have h1 := hp3.out ▸ HP.out
       refine ⟨i + 1, by omega, by have := hki.out; unfold Hid; omega, ?_, ?_, ?_⟩
       · unfold Hid; rw [HQ.out]
         exact (h1.s2 (pc + 1) (by simp)).s0 (i + 1) (by simp)
       · exact (HE.out.exc (by omega) exc_set).exc (by simp; omega) exc_set
       · unfold Hid
         rw [heap_setCell_other _ _ _ _ (by simp; omega), heap_setCell_other _ _ _ _ (by simp; omega)]
         exact HB.out
      case measure =>
       have h1 := hp3.out ▸ HP.out
       rw [World.cell?_setCell_same _ _ _ (h1.s2 (pc + 1) (v := .int .i64 ((pc : Int) + 1)) (by simp)).rc.1, x0]
       simp [intOf]; omega
  · have hlt' := hlt0
    have t1 : ¬ (i : Int) < min x s.size := fun h => hlt ((HX.out i).1 h)
    have hij : i = j := by omega
    subst hij
    clear LS hlt
    have HP3 := hp3
    have r0 := cell_of_row wr N 0 _ _ _ HB.out
    have r1 := cell_of_row wr N 1 _ _ _ HB.out
    have r2 := cell_of_row wr N 2 _ _ _ HB.out
    have g0 := frozen_of_row wr N 0 _ _ HB.out
    have g1 := frozen_of_row wr N 1 _ _ HB.out
    have g2 := frozen_of_row wr N 2 _ _ HB.out
    go_wp2_with fail
    refine bodyPost_ret (v := lpv3 (plc (lb s) i)) (by simp [results, Tryz.results107, go_sem, r0, r1, r2, HP3.out]) rfl ?_
    have hb := (((Below.refl N wr).setCell (p := ⟨N, 0, none⟩) (Nat.le_refl N) (.int .i64 i)).setCell (p := ⟨N, 1, none⟩) (Nat.le_refl N) (.int .i64 pl)).setCell (p := ⟨N, 2, none⟩) (Nat.le_refl N) (.int .i64 pc)
    exact ⟨rfl, HP.out.kept hb hlt' hltS, HF.out _ (HE.out.below hb)⟩
theorem places_any (s : ByteArray) (w : World) : Calls Tryz.prog 71 #[.string s] w fun e w' => e = .returned (.func (.func 107) #[] #[.pointer (some ⟨w.heap.size + 1, 0, none⟩), .pointer (some ⟨w.heap.size, 0, none⟩)]) ∧ w' = (w.alloc (.cells #[.string s] 9)).alloc (.cells #[.int .i64 0, .int .i64 1, .int .i64 1] 36) := by
 go_enter Tryz.func71, Tryz.ntmps71
 go_wp2_with fail
 go_ret
 exact ⟨rfl, rfl⟩
theorem pl_start (s : ByteArray) (w : World) : Pl ((w.alloc (.cells #[.string s] 9)).alloc (.cells #[.int .i64 0, .int .i64 1, .int .i64 1] 36)) (w.heap.size + 1) w.heap.size s (plc (lb s) 0) := by
 refine ⟨?_, ?_, by omega⟩
 · have := heap_alloc_new (w.alloc (.cells #[.string s] 9)) (.cells #[.int .i64 0, .int .i64 1, .int .i64 1] 36)
   rw [show (w.alloc (.cells #[.string s] 9)).heap.size = w.heap.size + 1 by simp] at this
   exact this
 · exact (((Below.refl (w.heap.size + 1) (w.alloc _)).alloc (by simp) _).block _ (Nat.lt_succ_self _)).trans (heap_alloc_new w _)
def upto (x : Int) (n : Nat) : Nat := min x.toNat n
theorem upto_lt (x : Int) (n i : Nat) : (i : Int) < min x n ↔ i < upto x n := by unfold upto; omega
theorem plc_upto (s : ByteArray) (x : Int) : plc (lb s) (upto x s.size) = plc (lb s) x.toNat := by
 have LS : (lb s).length = s.size := tp_L_len s
 unfold upto
 rw [← LS, plc_min]
theorem at_any (s : ByteArray) (hs : s.size ≤ 1000000) (x : Int) (w : World) : Calls Tryz.prog 44 #[.string s, .int .i64 x] w fun e w' => e = .returned (lpv3 (plc (lb s) x.toNat)) ∧ Below w.heap.size w w' := by
 have C := fun w0 : World => lplace_any (j := upto x s.size) (pl_start s w0) hs (Nat.zero_le _) (by unfold upto; omega) (upto_lt x s.size)
 rw [plc_upto] at C
 have HC := qh C
 clear C
 obtain ⟨N, hN⟩ : ∃ N, N = w.heap.size := ⟨_, rfl⟩
 have HN : Hid (∀ u w', u = w → Below N w w' → Below u.heap.size w w') := fun u w' e h => by subst e; rw [← hN]; exact h
 go_enter Tryz.func44, Tryz.ntmps44
 go_wp2_with fail
 refine (places_any s _).mono ?_
 rintro e w1 ⟨rfl, rfl⟩
 go_wp2_with fail
 have C := HC.out (w.alloc (.cells #[.int .i64 0, .int .i64 0, .int .i64 0] 36))
 rw [show (w.alloc (.cells #[.int .i64 0, .int .i64 0, .int .i64 0] 36)).heap.size = w.heap.size + 1 by simp] at C
 refine C.mono ?_
 rintro e w1 ⟨rfl, -, X⟩
 have HB : Hid (w1.heap[w.heap.size]? = some (.cells #[.int .i64 0, .int .i64 0, .int .i64 0] 36 (0, 0))) := by
  refine (X.block _ (by simp; omega) (fun h => by injection h with h; omega)).trans ?_
  exact ((((Below.refl (w.heap.size + 1) (w.alloc _)).alloc (by simp) _).alloc (by simp) _).block _ (Nat.lt_succ_self _)).trans (heap_alloc_new w _)
 have HBel : Hid (Below w.heap.size w w1) := ((((Below.refl w.heap.size w).alloc (Nat.le_refl _) _).alloc (by simp) _).alloc (by simp; omega) _).trans (X.below (by simp; omega) (fun k h => by injection h with h; omega))
 clear X C
 obtain ⟨r0, r1, r2, g0, g1, g2, lb0⟩ := lrc3 HB.out
 obtain ⟨p, hp⟩ : ∃ p, plc (lb s) x.toNat = p := ⟨_, rfl⟩
 have HQ : Hid (∀ e, e = Ending.returned (lpv3 p) → e = Ending.returned (lpv3 (plc (lb s) x.toNat))) := fun e h => by rw [hp]; exact h
 rw [hp]
 clear hp
 rw [← hN] at *
 go_wp2_with fail
 refine bodyPost_ret (v := lpv3 p) (by simp [results, Tryz.results44, go_sem, r0, r1, r2]) rfl ?_
 exact ⟨HQ.out _ rfl, HN.out w _ rfl (((HBel.out.setCell (p := ⟨N, 0, none⟩) (Nat.le_refl N) _).setCell (p := ⟨N, 1, none⟩) (Nat.le_refl N) _).setCell (p := ⟨N, 2, none⟩) (Nat.le_refl N) _)⟩
open Go.RowKit

theorem ownsRow_kept {w w' : World} {base e size n : Nat} {v : Value} {xs : List Value} (h : w.ownsRow base e size v n xs) (hb : ∀ g, v.ownBlock = some g → w'.heap[g]? = w.heap[g]?) : w'.ownsRow base e size v n xs := by
 refine ⟨h.1, ?_⟩
 rcases h.2 with hn | ⟨g, cap, cur, rfl, hg, hgg, rest⟩
 · exact .inl hn
 · exact .inr ⟨g, cap, cur, rfl, hg, by rw [hb g rfl]; exact hgg, rest⟩
theorem own_ne {w : World} {B B' e e' size size' n n' : Nat} {v v' : Value} {xs xs' : List Value} (h : w.ownsRow B e size v n xs) (h' : w.ownsRow B' e' size' v' n' xs') (hne : e ≠ e') : ∀ g, v.ownBlock = some g → v'.ownBlock ≠ some g := by
 intro g hg hg'
 rcases h.2 with ⟨rfl, _⟩ | ⟨g1, cap, cur, rfl, _, hgg, _⟩
 · cases hg
 · rcases h'.2 with ⟨rfl, _⟩ | ⟨g2, cap', cur', rfl, _, hgg', _⟩
   · cases hg'
   · simp only [Value.ownBlock, Option.some.injEq] at hg hg'
     subst hg hg'
     rw [hgg] at hgg'
     simp only [Option.some.injEq, Obj.cells.injEq] at hgg'
     exact hne hgg'.2.1

theorem grown_below {w w' : World} {row : Option Nat} {B : Nat} (h : w.grownBy w' row) (hB : B ≤ w.heap.size) (hr : ∀ k, row = some k → B ≤ k) : Below B w w' := (Below.refl B w).grown h hB hr
def lbcs (b : List UInt8) : List Value := b.map fun c => Value.int .u8 (c.toNat : Int)
theorem lbcs_app (a b : List UInt8) : lbcs (a ++ b) = lbcs a ++ lbcs b := by simp [lbcs]
abbrev lpc5 (p : Prt) : List Value := [.bool p.ex, .string (tx p.s), .int .i64 p.p.a, .int .i64 p.p.l, .int .i64 p.p.c]
def pcs (ps : List Prt) : List Value := ps.flatMap lpc5
theorem pcs_app (a b : List Prt) : pcs (a ++ b) = pcs a ++ pcs b := by simp [pcs]
theorem pc5_one (p : Prt) : ∀ u ∈ lpc5 p, u.oneCell' = true := fun u hu => by
 simp only [lpc5, List.mem_cons, List.not_mem_nil, or_false] at hu
 rcases hu with rfl | rfl | rfl | rfl | rfl <;> rfl
theorem linfo5 : (Tryz.prog.info? 5).map (fun i => (i.zero, i.size, i.bytes)) = some (some (.int .u8 0), 1, 1) := by kernel_rfl
theorem info39 : (Tryz.prog.info? 130).map (fun i => (i.zero, i.size, i.bytes)) = some (some (.agg #[.bool false, .string ⟨#[]⟩, .int .i64 0, .int .i64 0, .int .i64 0]), 5, 48) := by kernel_rfl
structure Pb (w : World) (pb : Nat) (vl vp : Value) (ps : List Prt) (b : List UInt8) (n : Nat) : Prop where
 row : w.heap[pb]? = some (.cells #[vl, vp, .int .i64 n] 183 (0, 0))
 ol : w.ownsRow (pb + 1) 130 5 vl ps.length (pcs ps)
 op : w.ownsRow (pb + 1) 5 1 vp b.length (lbcs b)
theorem Pb.lt {w : World} {pb : Nat} {vl vp : Value} {ps : List Prt} {b : List UInt8} {n : Nat} (h : Pb w pb vl vp ps b n) : pb < w.heap.size := (Array.getElem?_eq_some_iff.1 h.row).1
theorem Pb.keep {w w' : World} {pb : Nat} {vl vp : Value} {ps : List Prt} {b : List UInt8} {n : Nat} (h : Pb w pb vl vp ps b n) (hk : ∀ k, pb ≤ k → k < w.heap.size → w'.heap[k]? = w.heap[k]?) : Pb w' pb vl vp ps b n :=
 ⟨(hk pb (Nat.le_refl _) h.lt).trans h.row, ownsRow_kept h.ol fun g hg => hk g (by have := (h.ol.lt g hg).1; omega) (h.ol.lt g hg).2, ownsRow_kept h.op fun g hg => hk g (by have := (h.op.lt g hg).1; omega) (h.op.lt g hg).2⟩
theorem Pb.grown_p {w w' : World} {pb : Nat} {vl vp v' : Value} {ps : List Prt} {b b' : List UInt8} {n : Nat} (h : Pb w pb vl vp ps b n) (hg : w.grownBy w' vp.ownBlock) (hn : w'.ownsRow (pb + 1) 5 1 v' b'.length (lbcs b')) (m : Nat) {w2 : World}
 (hw : ∀ k, k ≠ pb → w2.heap[k]? = w'.heap[k]?) (hr : w2.heap[pb]? = some (.cells #[vl, v', .int .i64 m] 183 (0, 0))) : Pb w2 pb vl v' ps b' m := by
 refine ⟨hr, ownsRow_kept h.ol fun g hgg => ?_, ownsRow_kept hn fun g hgg => hw g (by have := (hn.lt g hgg).1; omega)⟩
 have h1 := h.ol.lt g hgg
 rw [hw g (by omega)]
 exact hg.block g h1.2 fun e => own_ne h.ol h.op (by decide) g hgg e.symm
theorem Pb.grown_l {w w' : World} {pb : Nat} {vl vp v' : Value} {ps ps' : List Prt} {b : List UInt8} {n : Nat} (h : Pb w pb vl vp ps b n) (hg : w.grownBy w' vl.ownBlock) (hn : w'.ownsRow (pb + 1) 130 5 v' ps'.length (pcs ps')) (m : Nat) {w2 : World}
 (hw : ∀ k, k ≠ pb → w2.heap[k]? = w'.heap[k]?) (hr : w2.heap[pb]? = some (.cells #[v', vp, .int .i64 m] 183 (0, 0))) : Pb w2 pb v' vp ps' b m := by
 refine ⟨hr, ownsRow_kept hn fun g hgg => hw g (by have := (hn.lt g hgg).1; omega), ownsRow_kept h.op fun g hgg => ?_⟩
 have h1 := h.op.lt g hgg
 rw [hw g (by omega)]
 exact hg.block g h1.2 fun e => own_ne h.op h.ol (by decide) g hgg e.symm
def PbPost (w : World) (pb : Nat) (ps : List Prt) (b : List UInt8) (n : Nat) (e : Ending) (w' : World) : Prop :=
 e = .returned (.tuple #[]) ∧ (∃ vl vp, Pb w' pb vl vp ps b n) ∧ Below pb w w'
def Oth (w : World) (pb : Nat) (vl : Value) (w' : World) : Prop := ∀ k, k < w.heap.size → k ≠ pb → vl.ownBlock ≠ some k → w'.heap[k]? = w.heap[k]?
def EpPost (w : World) (pb : Nat) (vl : Value) (ps : List Prt) (n : Nat) (e : Ending) (w' : World) : Prop := PbPost w pb ps [] n e w' ∧ Oth w pb vl w'
set_option maxHeartbeats 1000000 in
theorem putByte_any {w : World} {pb : Nat} {vl vp : Value} {ps : List Prt} {b : List UInt8} {n : Nat} (P : Pb w pb vl vp ps b n) (hb : b.length ≤ 1000000) (hn : n ≤ 1000000) (c : Nat) (hc : c < 256) :
 Calls Tryz.prog 172 #[.pointer (some ⟨pb, 0, none⟩), .int .u8 c] w (PbPost w pb ps (b ++ [UInt8.ofNat c]) (n + 1)) := by
 have HP := qh P
 have lt := P.lt
 obtain ⟨i5, hi5, hz5, hs5, hb5⟩ := info_parts linfo5
 obtain ⟨x0, x1, x2, f0, f1, f2, -⟩ := lrc3 P.row
 have O1 := qh ((P.op).alloc (.cells #[.int .u8 (c : Int)] 5))
 have W1 := qh (World.news_of_block (heap_alloc_new w (.cells #[.int .u8 (c : Int)] 5)))
 clear P
 unfold PbPost
 go_enter Tryz.func172, Tryz.ntmps172
 go_wp2_with (at_builtin; go_must (refine wpList_append_lies _ rfl (.tmp 8) (.tmp 10) 67 rfl (pb + 1) 5 i5 _ 1 1 Tryz.underlying67 hi5 hz5 hs5 hb5 rfl (by omega) vp b.length (lbcs b) rfl O1.out ⟨w.heap.size, 0, none⟩ 1 1 [.int .u8 (c : Int)] rfl rfl W1.out (fun u hu => by simp at hu; subst hu; rfl) (by omega) (by unfold maxLen; omega) (by omega) (by simp; omega) (w.heap.size + 1) (by simp) ?_))
 intro g cap w2 hown hgrow hat hlt
 have hvp : some pb ≠ vp.ownBlock := fun e => by have := (HP.out.op.lt pb e.symm).1; omega
 have hrow : w2.heap[pb]? = some (.cells #[vl, vp, .int .i64 n] 183 (0, 0)) := (hgrow.block pb (by simp; omega) hvp).trans (((Below.refl w.heap.size w).alloc (Nat.le_refl _) _).block pb lt |>.trans HP.out.row)
 have H2 := qh (And.intro hown (And.intro hgrow hrow))
 have HB : Hid (Below pb w w2) := (((Below.refl pb w).alloc (by omega) _).trans (grown_below hgrow (by simp; omega) fun k hk => by have := (HP.out.op.lt k hk).1; omega))
 clear hown hgrow hat hvp x0 x1 x2 f0 f1 f2
 obtain ⟨x0, x1, x2, f0, f1, f2, l2⟩ := lrc3 hrow
 clear hrow
 go_wp2_with fail
 refine bodyPost_end (v := .tuple #[]) (results_none rfl _ _ _) rfl ?_
 refine ⟨rfl, ⟨vl, .slice (some ⟨g, 0, none⟩) (b.length + 1) cap, ?_⟩, (HB.out.setCell (p := ⟨pb, 1, none⟩) (Nat.le_refl pb) _).setCell (p := ⟨pb, 2, none⟩) (Nat.le_refl pb) _⟩
 have hl : (b ++ [UInt8.ofNat c]).length = b.length + 1 := by simp
 refine Pb.grown_p (HP.out.keep (w' := w.alloc _) fun k _ hk => ((Below.refl w.heap.size w).alloc (Nat.le_refl _) _).block k hk) H2.out.2.1 ?_ (n + 1) (fun k hk => ?_) ?_
 · rw [hl, lbcs_app]
   have : lbcs [UInt8.ofNat c] = [.int .u8 (c : Int)] := by
    have e : (UInt8.ofNat c).toNat = c := by rw [UInt8.toNat_ofNat']; omega
    simp only [lbcs, List.map_cons, List.map_nil, e]
   rw [this]
   exact H2.out.1
 · rw [heap_setCell_other _ _ _ _ (fun e => hk e), heap_setCell_other _ _ _ _ (fun e => hk e)]
 · exact (heap_setCell_same _ pb 2 _ _ _ (heap_setCell_same w2 pb 1 _ _ _ H2.out.2.2)).trans rfl
theorem lconv_own {w : World} {B : Nat} {v : Value} {b : List UInt8} (h : w.ownsRow B 5 1 v b.length (lbcs b)) : (convert 67 9 v).run Tryz.prog w = .ok (.string (tx b)) w := by
 rcases h.2 with ⟨rfl, h0⟩ | ⟨g, cap, cur, rfl, hb, hg, hn, hm, hc, ht⟩
 · obtain rfl : b = [] := List.eq_nil_of_length_eq_zero h0
   exact run_convert_bytes_nil w 67 5 Tryz.underlying67 Tryz.underlying5 0 0 9 Tryz.underlying9
 · have hcell : ∀ i, i < b.length → w.cell? ⟨g, 0 + i, none⟩ = some (.int .u8 ((b.map fun c => (c.toNat : Int)).getD i 0)) := fun i hi => by
    have := h.cells (g := g) rfl i (.int .u8 ((b[i]'hi).toNat : Int)) (by unfold lbcs; rw [List.getElem?_map, List.getElem?_eq_getElem hi]; rfl)
    have ea : (⟨g, 0, none⟩ : Addr).add i = ⟨g, i, none⟩ := by unfold Addr.add; split <;> simp_all
    rw [ea] at this
    rw [Nat.zero_add, this, List.getD_eq_getElem?_getD, List.getElem?_map, List.getElem?_eq_getElem hi]; rfl
   rw [run_convert_bytes_arg w 67 5 Tryz.underlying67 Tryz.underlying5 g 0 b.length cap (b.map fun c => (c.toNat : Int)) (by simp) hcell 9 Tryz.underlying9]
   unfold strOfNums tx
   simp only [List.map_map]
   congr
   apply List.map_id''
   intro c
   simp
set_option maxHeartbeats 1000000 in
theorem endPiece_none {w : World} {pb : Nat} {vl vp : Value} {ps : List Prt} {n : Nat} (P : Pb w pb vl vp ps [] n) :
 Calls Tryz.prog 170 #[.pointer (some ⟨pb, 0, none⟩)] w (EpPost w pb vl (flush ps []) n) := by
 have HP := qh P
 obtain ⟨x0, x1, x2, f0, f1, f2, -⟩ := lrc3 P.row
 have hv : vp = .slice none 0 0 ∨ ∃ g c, vp = .slice (some ⟨g, 0, none⟩) 0 c := by
  rcases P.op.2 with h | ⟨g, c, _, h, _⟩
  · exact .inl h.1
  · exact .inr ⟨g, c, h⟩
 clear P
 rcases hv with rfl | ⟨g, c, rfl⟩
 · go_enter Tryz.func170, Tryz.ntmps170
   go_wp2_with fail
   refine bodyPost_ret (v := .tuple #[]) (results_none rfl _ _ _) rfl ?_
   exact ⟨⟨rfl, ⟨_, _, HP.out⟩, Below.refl _ _⟩, fun k _ _ _ => rfl⟩
 · go_enter Tryz.func170, Tryz.ntmps170
   go_wp2_with fail
   refine bodyPost_ret (v := .tuple #[]) (results_none rfl _ _ _) rfl ?_
   exact ⟨⟨rfl, ⟨_, _, HP.out⟩, Below.refl _ _⟩, fun k _ _ _ => rfl⟩
theorem piece_fin {w w2 : World} {pb n g cap : Nat} {vl vp : Value} {ps : List Prt} {b : List UInt8} (P : Pb w pb vl vp ps b n) (h0 : 0 < b.length)
 (hown : w2.ownsRow (pb + 1) 130 5 (.slice (some ⟨g, 0, none⟩) (ps.length + 1) cap) (ps.length + 1) (pcs ps ++ lpc5 ⟨false, b, noP⟩)) (hgrow : (w.alloc (.cells (lpc5 ⟨false, b, noP⟩).toArray 130)).drew.grownBy w2 vl.ownBlock)
 (hrow : w2.heap[pb]? = some (.cells #[vl, vp, .int .i64 n] 183 (0, 0))) :
 PbPost w pb (flush ps b) [] n (.returned (.tuple #[])) ((w2.setCell ⟨pb, 0, none⟩ (.slice (some ⟨g, 0, none⟩) (ps.length + 1) cap)).setCell ⟨pb, 1, none⟩ (.slice none 0 0)) := by
 have hb : Below w.heap.size w (w.alloc (.cells (lpc5 ⟨false, b, noP⟩).toArray 130)).drew := ((Below.refl w.heap.size w).alloc (Nat.le_refl _) _).drew
 have hf : flush ps b = ps ++ [⟨false, b, noP⟩] := by unfold flush; cases b with | nil => simp at h0 | cons c r => rfl
 have lt := P.lt
 have P2 := P.keep (w' := (w.alloc (.cells (lpc5 ⟨false, b, noP⟩).toArray 130)).drew) fun k _ hk => hb.block k hk
 have G : Pb (w2.setCell ⟨pb, 0, none⟩ (.slice (some ⟨g, 0, none⟩) (ps.length + 1) cap)) pb (.slice (some ⟨g, 0, none⟩) (ps.length + 1) cap) vp (flush ps b) b n := by
  refine P2.grown_l hgrow ?_ n (fun k hk => heap_setCell_other _ _ _ _ fun e => hk e) ((heap_setCell_same _ pb 0 _ _ _ hrow).trans rfl)
  rw [hf, pcs_app, show (ps ++ [(⟨false, b, noP⟩ : Prt)]).length = ps.length + 1 by simp, show pcs [(⟨false, b, noP⟩ : Prt)] = lpc5 ⟨false, b, noP⟩ by simp [pcs]]
  exact hown
 refine ⟨rfl, ⟨.slice (some ⟨g, 0, none⟩) (ps.length + 1) cap, .slice none 0 0, ?_⟩, ?_⟩
 · refine ⟨(heap_setCell_same _ pb 1 _ _ _ G.row).trans rfl, ownsRow_kept G.ol fun k hk => heap_setCell_other _ _ _ _ fun e => ?_, World.ownsRow_nil _ _ _ _⟩
   have := (G.ol.lt k hk).1
   simp only at e; omega
 · exact (((hb.mono (by omega)).trans (grown_below hgrow (by show pb ≤ (w.alloc _).heap.size; simp; omega) fun k hk => by have := (P.ol.lt k hk).1; omega)).setCell (p := ⟨pb, 0, none⟩) (Nat.le_refl pb) _).setCell (p := ⟨pb, 1, none⟩) (Nat.le_refl pb) _
theorem oth_fin {w w2 : World} {pb : Nat} {q : List Value} {vl x y : Value} (hgrow : (w.alloc (.cells q.toArray 130)).drew.grownBy w2 vl.ownBlock) : Oth w pb vl ((w2.setCell ⟨pb, 0, none⟩ x).setCell ⟨pb, 1, none⟩ y) := fun k hk hp hv => by
 rw [heap_setCell_other _ _ _ _ (fun e => hp e), heap_setCell_other _ _ _ _ (fun e => hp e), hgrow.block k (by show k < (w.alloc _).heap.size; simp; omega) (fun e => hv e.symm)]
 exact ((Below.refl w.heap.size w).alloc (Nat.le_refl _) _).block k hk
set_option maxHeartbeats 1000000 in
theorem endPiece_some {w : World} {pb : Nat} {vl vp : Value} {ps : List Prt} {b : List UInt8} {n : Nat} (P : Pb w pb vl vp ps b n) (h0 : 0 < b.length) (hb : b.length ≤ 1000000) (hp : ps.length ≤ 1000000) :
 Calls Tryz.prog 170 #[.pointer (some ⟨pb, 0, none⟩)] w (EpPost w pb vl (flush ps b) n) := by
 have HP := qh P
 have lt := P.lt
 obtain ⟨i5, hi5, hz5, hs5, hb5⟩ := info_parts info39
 obtain ⟨x0, x1, x2, f0, f1, f2, -⟩ := lrc3 P.row
 obtain ⟨g, c, rfl⟩ : ∃ g c, vp = .slice (some ⟨g, 0, none⟩) b.length c := by
  rcases P.op.2 with h | ⟨g, c, _, h, _⟩
  · omega
  · exact ⟨g, c, h⟩
 have HC := qh (lconv_own P.op)
 have O1 := qh ((P.ol).alloc (.cells (lpc5 ⟨false, b, noP⟩).toArray 130)).drew
 have W1 := qh (World.news_of_block (w := (w.alloc (.cells (lpc5 ⟨false, b, noP⟩).toArray 130)).drew) (heap_alloc_new w (.cells (lpc5 ⟨false, b, noP⟩).toArray 130)))
 have h0' : (0 : Int) < b.length := by omega
 clear P
 unfold EpPost PbPost
 go_enter Tryz.func170, Tryz.ntmps170
 go_upto_region 1 with fail
 have hcv := lconv_own (HP.out.op.drew)
 have HROW : Hid (∀ w2, (w.alloc (.cells (lpc5 ⟨false, b, noP⟩).toArray 130)).drew.grownBy w2 vl.ownBlock → w2.heap[pb]? = some (.cells #[vl, .slice (some ⟨g, 0, none⟩) b.length c, .int .i64 n] 183 (0, 0))) := fun w2 hg =>
  (hg.block pb (by simp; omega) fun e => by have := (HP.out.ol.lt pb e.symm).1; omega).trans (((Below.refl w.heap.size w).alloc (Nat.le_refl _) _).block pb lt |>.trans HP.out.row)
 go_region_law (refine step_append_lies _ rfl (.tmp 12) (.tmp 19) 87 rfl (pb + 1) 130 i5 _ 5 48 Tryz.underlying87 hi5 hz5 hs5 hb5 rfl (by omega) vl ps.length (pcs ps) rfl O1.out ⟨w.heap.size, 0, none⟩ 1 1 (lpc5 ⟨false, b, noP⟩) rfl rfl W1.out (pc5_one _) (by omega) (by unfold maxLen; omega) (by omega) (by simp; omega) (w.heap.size + 1) (by simp) ?_; intro gz cz w2 hown hgrow hat hlt; have hrow := HROW.out w2 hgrow; have HG := qh (And.intro hown (And.intro hgrow hrow)); obtain ⟨z0, z1, z2, k0, k1, k2, l2⟩ := lrc3 hrow; clear hown hgrow hat hlt hrow)
 all_goals
  go_wp2_with fail
  refine bodyPost_end (v := .tuple #[]) (results_none rfl _ _ _) rfl ?_
  exact ⟨piece_fin HP.out h0 HG.out.1 HG.out.2.1 HG.out.2.2, oth_fin HG.out.2.1⟩
theorem endPiece_any {w : World} {pb : Nat} {vl vp : Value} {ps : List Prt} {b : List UInt8} {n : Nat} (P : Pb w pb vl vp ps b n) (hb : b.length ≤ 1000000) (hp : ps.length ≤ 1000000) :
 Calls Tryz.prog 170 #[.pointer (some ⟨pb, 0, none⟩)] w (EpPost w pb vl (flush ps b) n) := by
 cases b with
 | nil => exact endPiece_none P
 | cons c r => exact endPiece_some P (by simp) hb hp
theorem flush_len (ps : List Prt) (b : List UInt8) : (flush ps b).length ≤ ps.length + 1 := by unfold flush; split <;> simp
theorem expr_fin {w w2 : World} {pb n m g cap : Nat} {vl vp : Value} {ps : List Prt} {q : Prt} (P : Pb w pb vl vp ps [] n)
 (hown : w2.ownsRow (pb + 1) 130 5 (.slice (some ⟨g, 0, none⟩) (ps.length + 1) cap) (ps.length + 1) (pcs ps ++ lpc5 q)) (hgrow : (w.alloc (.cells (lpc5 q).toArray 130)).drew.grownBy w2 vl.ownBlock)
 (hrow : w2.heap[pb]? = some (.cells #[vl, vp, .int .i64 n] 183 (0, 0))) {w0 : World} (hB : Below pb w0 w) {v : Value} (hv : v = .int .i64 (m : Int)) :
 PbPost w0 pb (ps ++ [q]) [] m (.returned (.tuple #[])) ((w2.setCell ⟨pb, 0, none⟩ (.slice (some ⟨g, 0, none⟩) (ps.length + 1) cap)).setCell ⟨pb, 2, none⟩ v) := by
 subst hv
 have hb : Below w.heap.size w (w.alloc (.cells (lpc5 q).toArray 130)).drew := ((Below.refl w.heap.size w).alloc (Nat.le_refl _) _).drew
 have lt := P.lt
 have P2 := P.keep (w' := (w.alloc (.cells (lpc5 q).toArray 130)).drew) fun k _ hk => hb.block k hk
 refine ⟨rfl, ⟨.slice (some ⟨g, 0, none⟩) (ps.length + 1) cap, vp, ?_⟩, ?_⟩
 · refine P2.grown_l hgrow ?_ m (fun k hk => by rw [heap_setCell_other _ _ _ _ (fun e => hk e), heap_setCell_other _ _ _ _ (fun e => hk e)]) ((heap_setCell_same _ pb 2 _ _ _ (heap_setCell_same _ pb 0 _ _ _ hrow)).trans rfl)
   rw [pcs_app, show (ps ++ [q]).length = ps.length + 1 by simp, show pcs [q] = lpc5 q by simp [pcs]]
   exact hown
 · exact ((hB.trans ((hb.mono (by omega)).trans (grown_below hgrow (by show pb ≤ (w.alloc _).heap.size; simp; omega) fun k hk => by have := (P.ol.lt k hk).1; omega))).setCell (p := ⟨pb, 0, none⟩) (Nat.le_refl pb) _).setCell (p := ⟨pb, 2, none⟩) (Nat.le_refl pb) _
set_option maxHeartbeats 1000000 in
theorem lputExpr_any {w : World} {pb : Nat} {vl vp : Value} {ps : List Prt} {b : List UInt8} {n : Nat} (P : Pb w pb vl vp ps b n) (hb : b.length ≤ 1000000) (hp : ps.length ≤ 1000000) (hn : n ≤ 1000000) (s : ByteArray) (hs : s.size ≤ 1000000) (p : Plc) :
 Calls Tryz.prog 173 #[.pointer (some ⟨pb, 0, none⟩), .string s, lpv3 p] w (PbPost w pb (flush ps b ++ [⟨true, lb s, p⟩]) [] (n + s.size)) := by
 have lt := P.lt
 obtain ⟨i5, hi5, hz5, hs5, hb5⟩ := info_parts info39
 have hf := flush_len ps b
 obtain ⟨N, hN⟩ : ∃ N, N = w.heap.size := ⟨_, rfl⟩
 have hlN : pb < N := by omega
 have P1 := qh (P.keep (w' := w.alloc (.cells #[.int .i64 p.a, .int .i64 p.l, .int .i64 p.c] 36)) fun k _ hk => ((Below.refl w.heap.size w).alloc (Nat.le_refl _) _).block k hk)
 have B1 : Hid (Below pb w (w.alloc (.cells #[.int .i64 p.a, .int .i64 p.l, .int .i64 p.c] 36))) := (Below.refl pb w).alloc (by omega) _
 have HR1 : Hid ((w.alloc (.cells #[.int .i64 p.a, .int .i64 p.l, .int .i64 p.c] 36)).heap[N]? = some (.cells #[.int .i64 p.a, .int .i64 p.l, .int .i64 p.c] 36 (0, 0))) := by rw [hN]; exact heap_alloc_new _ _
 have HL : Hid (∀ g, vl.ownBlock = some g → g < N) := fun g hg => by have := (P.ol.lt g hg).2; omega
 have EP := qh (endPiece_any P1.out hb hp)
 clear P
 unfold PbPost
 generalize flush ps b = ps2 at *
 go_enter Tryz.func173, Tryz.ntmps173
 go_upto_region 1 with fail
 generalize w.alloc _ = w1 at *
 rw [← hN] at *
 clear hN
 go_wp2_with fail
 refine EP.out.mono ?_
 rintro e w2 ⟨⟨rfl, ⟨vl2, vp2, P2⟩, B2⟩, OT⟩
 have HP := qh P2
 have HR2 := (OT N (by have := (Array.getElem?_eq_some_iff.1 HR1.out).1; omega) (by omega) (fun e => by have := (HL.out N e); omega)).trans HR1.out
 have B12 := qh (B1.out.trans B2)
 obtain ⟨x0, x1, x2, f0, f1, f2, l2⟩ := lrc3 P2.row
 obtain ⟨r0, r1, r2, -, -, -, lN⟩ := lrc3 HR2
 have lt2 := P2.lt
 have O1 := qh ((P2.ol).alloc (.cells (lpc5 ⟨true, lb s, p⟩).toArray 130)).drew
 have W1 := qh (World.news_of_block (w := (w2.alloc (.cells (lpc5 ⟨true, lb s, p⟩).toArray 130)).drew) (heap_alloc_new w2 (.cells (lpc5 ⟨true, lb s, p⟩).toArray 130)))
 have HROW : Hid (∀ w3, (w2.alloc (.cells (lpc5 ⟨true, lb s, p⟩).toArray 130)).drew.grownBy w3 vl2.ownBlock → w3.heap[pb]? = some (.cells #[vl2, vp2, .int .i64 n] 183 (0, 0))) := fun w3 hg =>
  (hg.block pb (by simp; omega) fun e => by have := (HP.out.ol.lt pb e.symm).1; omega).trans (((Below.refl w2.heap.size w2).alloc (Nat.le_refl _) _).block pb lt2 |>.trans HP.out.row)
 have HF : Hid (∀ w3 g cap v, v = Value.int .i64 ((n + s.size : Nat) : Int) → _ → _ → _ → _) := fun w3 g cap v hv h1 h2 h3 => expr_fin (w2 := w3) (q := ⟨true, lb s, p⟩) (g := g) (cap := cap) HP.out h1 h2 h3 B12.out hv
 clear P2 P1 B1 OT HR2 B2
 go_upto_region 2 with fail
 go_region_law (refine step_append_lies _ rfl (.tmp 12) (.tmp 16) 87 rfl (pb + 1) 130 i5 _ 5 48 Tryz.underlying87 hi5 hz5 hs5 hb5 rfl (by omega) vl2 ps2.length (pcs ps2) rfl O1.out ⟨w2.heap.size, 0, none⟩ 1 1 (lpc5 ⟨true, lb s, p⟩) rfl rfl W1.out (pc5_one _) (by omega) (by unfold maxLen; omega) (by omega) (by simp; omega) (w2.heap.size + 1) (by simp) ?_; intro gz cz w3 hown hgrow hat hlt; have hrow := HROW.out w3 hgrow; have HG := qh (And.intro hown (And.intro hgrow hrow)); obtain ⟨z0, z1, z2, k0, k1, k2, l3⟩ := lrc3 hrow; clear hown hgrow hat hlt hrow)
 all_goals
  go_wp2_with fail
  refine bodyPost_end (v := .tuple #[]) (results_none rfl _ _ _) rfl ?_
  exact HF.out _ _ _ (.int .i64 ((n : Int) + (s.size : Int))) (by rw [Int.natCast_add]) HG.out.1 HG.out.2.1 HG.out.2.2
end Go.Proofs.YtncjncacfagldaaGreatDoor

/- The reader of package addr: an address. -/
import Derived.Test.YtakoghdkllfhlaaDoorRm
namespace Go.Proofs.YtakoghdkllfhlaaDoor
open Go.RowKit Go.Lib

/-- all blocks below N but one are as they were -/
structure Fr (rb N : Nat) (w w' : World) : Prop where
  os : w'.os = w.os
  tape : w'.tape = w.tape
  output : w'.output = w.output
  size : w.heap.size ≤ w'.heap.size
  block : ∀ k, k < N → k ≠ rb → w'.heap[k]? = w.heap[k]?
theorem Fr.below {rb N : Nat} {a b c : World} (h : Fr rb N a b) (k : Below N b c) : Fr rb N a c :=
  ⟨k.os.trans h.os, k.tape.trans h.tape, k.output.trans h.output, Nat.le_trans h.size k.size, fun i hi hc => (k.block i hi).trans (h.block i hi hc)⟩
theorem Fr.exc {rb N : Nat} {a b c : World} (h : Fr rb N a b) (hN : N ≤ b.heap.size) (k : Exc (some rb) b c) : Fr rb N a c :=
  ⟨k.os.trans h.os, k.tape.trans h.tape, k.output.trans h.output, Nat.le_trans h.size k.size, fun i hi hc => (k.block i (by omega) (fun e => by injection e with e; exact hc e.symm)).trans (h.block i hi hc)⟩
theorem Fr.to {rb : Nat} {a b : World} (h : Fr rb a.heap.size a b) : Exc (some rb) a b :=
  ⟨h.os, h.tape, h.output, h.size, fun k hk hc => h.block k hk fun e => hc (by rw [e])⟩
/-- an address held whole -/
def La (w : World) (b : Nat) (a : Adr) : Prop := w.heap[b]? = some (.cells #[.string a.t, .string a.n, .int .i64 a.kd, .int .i64 a.i, .string a.k] 23 (0, 0))
theorem La.lt {w : World} {b : Nat} {a : Adr} (h : La w b a) : b < w.heap.size := (Array.getElem?_eq_some_iff.1 h).1
theorem La.exc {w w' : World} {b rb : Nat} {a : Adr} (h : La w b a) (x : Exc (some rb) w w') (hb : rb ≠ b) : La w' b a := (x.block b h.lt fun e => by injection e with e; exact hb e).trans h
theorem La.rc {w : World} {b : Nat} {a : Adr} (h : La w b a) : w.cell? ⟨b, 0, none⟩ = some (.string a.t) ∧ w.cell? ⟨b, 1, none⟩ = some (.string a.n) ∧ w.cell? ⟨b, 2, none⟩ = some (.int .i64 a.kd) ∧ w.cell? ⟨b, 3, none⟩ = some (.int .i64 a.i) ∧ w.cell? ⟨b, 4, none⟩ = some (.string a.k) ∧
    w.frozen? ⟨b, 0, none⟩ = false ∧ w.frozen? ⟨b, 1, none⟩ = false ∧ w.frozen? ⟨b, 2, none⟩ = false ∧ w.frozen? ⟨b, 3, none⟩ = false ∧ w.frozen? ⟨b, 4, none⟩ = false ∧ b < w.heap.size :=
  ⟨cell_of_row w b 0 _ _ _ h, cell_of_row w b 1 _ _ _ h, cell_of_row w b 2 _ _ _ h, cell_of_row w b 3 _ _ _ h, cell_of_row w b 4 _ _ _ h,
   frozen_of_row w b 0 _ _ h, frozen_of_row w b 1 _ _ h, frozen_of_row w b 2 _ _ h, frozen_of_row w b 3 _ _ h, frozen_of_row w b 4 _ _ h, h.lt⟩
theorem La.s0 {w : World} {b : Nat} {a : Adr} (h : La w b a) (s : ByteArray) : La (w.setCell ⟨b, 0, none⟩ (.string s)) b { a with t := s } := (heap_setCell_same w b 0 _ _ _ h).trans rfl
theorem La.s1 {w : World} {b : Nat} {a : Adr} (h : La w b a) (s : ByteArray) : La (w.setCell ⟨b, 1, none⟩ (.string s)) b { a with n := s } := (heap_setCell_same w b 1 _ _ _ h).trans rfl
theorem La.s2 {w : World} {b : Nat} {a : Adr} (h : La w b a) (s : Int) : La (w.setCell ⟨b, 2, none⟩ (.int .i64 s)) b { a with kd := s } := (heap_setCell_same w b 2 _ _ _ h).trans rfl
theorem La.s3 {w : World} {b : Nat} {a : Adr} (h : La w b a) (s : Int) : La (w.setCell ⟨b, 3, none⟩ (.int .i64 s)) b { a with i := s } := (heap_setCell_same w b 3 _ _ _ h).trans rfl
theorem La.s4 {w : World} {b : Nat} {a : Adr} (h : La w b a) (s : ByteArray) : La (w.setCell ⟨b, 4, none⟩ (.string s)) b { a with k := s } := (heap_setCell_same w b 4 _ _ _ h).trans rfl
theorem La.other {w : World} {b c j : Nat} {a : Adr} {v : Value} (h : La w b a) (hc : c ≠ b) : La (w.setCell ⟨c, j, none⟩ v) b a := (heap_setCell_other w _ b v fun e => hc e.symm).trans h
/-- a number as an int64 -/
def i64 (n : Nat) : Int := wrap64 n
/-- an address, where the reader is then, and what is wrong -/
def stLast (M : List Nat) (t n : ByteArray) (k : Nat × Nat × Nat) : Adr × Nat × Nat :=
  if k.1 = 1 then (⟨t, n, 1, i64 (stShort M k.2.1 k.2.2).1, ⟨#[]⟩⟩, (stShort M k.2.1 k.2.2).2)
  else if k.1 = 2 then (⟨t, n, 2, 0, (stText M k.2.1 k.2.2).1⟩, (stText M k.2.1 k.2.2).2)
  else (⟨t, n, (k.1 : Nat), 0, ⟨#[]⟩⟩, k.2)
def stAddr (M : List Nat) (a e : Nat) : Adr × Nat × Nat :=
  let p := stText M a e
  let q := stText M p.2.1 p.2.2
  stLast M p.1 q.1 (stKind M q.2.1 q.2.2)
set_option maxRecDepth 100000 in
set_option maxHeartbeats 4000000 in
theorem aaddr_any {rb : Nat} {o : Option Addr} {cap : Nat} {M : List Nat} {at' e : Nat} {w : World} (R : Rda w rb o cap M at' e) :
    Calls Tryd.prog 58 #[.pointer (some ⟨rb, 0, none⟩)] w fun r w' => r = .returned (av (stAddr M at' e).1) ∧ Rx w rb o cap M (stAddr M at' e).2.1 (stAddr M at' e).2.2 w' := by
  obtain ⟨⟨s1, a1, e1⟩, h1⟩ : ∃ p, stText M at' e = p := ⟨_, rfl⟩
  obtain ⟨⟨s2, a2, e2⟩, h2⟩ : ∃ p, stText M a1 e1 = p := ⟨_, rfl⟩
  obtain ⟨⟨c, a3, e3⟩, h3⟩ : ∃ p, stKind M a2 e2 = p := ⟨_, rfl⟩
  have hs : stAddr M at' e = stLast M s1 s2 (c, a3, e3) := by unfold stAddr; simp only [h1, h2, h3]
  rw [hs]
  clear hs
  have C1 : Hid (∀ w, Rda w rb o cap M at' e → Calls Tryd.prog 80 #[.pointer (some ⟨rb, 0, none⟩)] w fun r w' => r = .returned (.string s1) ∧ Rx w rb o cap M a1 e1 w') := fun w R => by have := atext_any R; rw [h1] at this; exact this
  have C2 : Hid (∀ w, Rda w rb o cap M a1 e1 → Calls Tryd.prog 80 #[.pointer (some ⟨rb, 0, none⟩)] w fun r w' => r = .returned (.string s2) ∧ Rx w rb o cap M a2 e2 w') := fun w R => by have := atext_any R; rw [h2] at this; exact this
  have C3 : Hid (∀ w, Rda w rb o cap M a2 e2 → Calls Tryd.prog 81 #[.pointer (some ⟨rb, 0, none⟩)] w fun r w' => r = .returned (.int .i64 (c : Nat)) ∧ Rx w rb o cap M a3 e3 w') := fun w R => by have := akind_any R; rw [h3] at this; exact this
  have C4 : Hid (∀ w, Rda w rb o cap M a3 e3 → Calls Tryd.prog 59 #[.pointer (some ⟨rb, 0, none⟩)] w fun r w' => r = .returned (.int .u64 ((stShort M a3 e3).1 : Nat)) ∧ Rx w rb o cap M (stShort M a3 e3).2.1 (stShort M a3 e3).2.2 w') := fun w R => ashort_any R
  have C5 : Hid (∀ w, Rda w rb o cap M a3 e3 → Calls Tryd.prog 80 #[.pointer (some ⟨rb, 0, none⟩)] w fun r w' => r = .returned (.string (stText M a3 e3).1) ∧ Rx w rb o cap M (stText M a3 e3).2.1 (stText M a3 e3).2.2 w') := fun w R => atext_any R
  clear h1 h2 h3
  have hrb := R.lt
  obtain ⟨N, hN⟩ : ∃ N, N = w.heap.size := ⟨_, rfl⟩
  have SZ : (w.alloc (.cells #[.string ⟨#[]⟩, .string ⟨#[]⟩, .int .i64 0, .int .i64 0, .string ⟨#[]⟩] 23)).heap.size = N + 1 := by rw [hN]; simp
  have LN : N ≤ w.heap.size := by omega
  have HW : Hid (Below N w ((w.alloc (.cells #[.string ⟨#[]⟩, .string ⟨#[]⟩, .int .i64 0, .int .i64 0, .string ⟨#[]⟩] 23)).alloc (.cells #[.string ⟨#[]⟩, .string ⟨#[]⟩, .int .i64 0, .int .i64 0, .string ⟨#[]⟩] 23))) := ((Below.refl N w).alloc (by omega) _).alloc (by rw [SZ]; exact Nat.le_succ N) _
  have HR := Lib.hid (R.kept HW.out (by omega))
  have HA : Hid (La ((w.alloc (.cells #[.string ⟨#[]⟩, .string ⟨#[]⟩, .int .i64 0, .int .i64 0, .string ⟨#[]⟩] 23)).alloc (.cells #[.string ⟨#[]⟩, .string ⟨#[]⟩, .int .i64 0, .int .i64 0, .string ⟨#[]⟩] 23)) N ⟨⟨#[]⟩, ⟨#[]⟩, 0, 0, ⟨#[]⟩⟩) := (((Below.refl (N + 1) (w.alloc _)).alloc (by rw [SZ]; exact Nat.le_refl _) _).block N (Nat.lt_succ_self N)).trans (by subst hN; exact heap_alloc_new _ _)
  have HB : Hid (La ((w.alloc (.cells #[.string ⟨#[]⟩, .string ⟨#[]⟩, .int .i64 0, .int .i64 0, .string ⟨#[]⟩] 23)).alloc (.cells #[.string ⟨#[]⟩, .string ⟨#[]⟩, .int .i64 0, .int .i64 0, .string ⟨#[]⟩] 23)) (N + 1) ⟨⟨#[]⟩, ⟨#[]⟩, 0, 0, ⟨#[]⟩⟩) := by rw [← SZ]; exact heap_alloc_new _ _
  have HF : Hid (Fr rb N w _) := Fr.below ⟨rfl, rfl, rfl, Nat.le_refl _, fun _ _ _ => rfl⟩ HW.out
  have HT : Hid (∀ w', Fr rb N w w' → Exc (some rb) w w') := fun w' h => by subst hN; exact h.to
  rw [← hN] at hrb
  clear R HW SZ LN
  go_enter Tryd.func58, Tryd.ntmps58
  go_upto_region 2 with fail
  rw [← hN] at *
  clear hN
  generalize (World.alloc w _).alloc _ = w0 at *
  go_wp2_with fail
  refine (C1.out _ HR.out).mono ?_
  rintro _ w1 ⟨rfl, X⟩
  have HR1 := Lib.hid X.r
  have HA1 := Lib.hid (HA.out.exc X.x (by omega))
  have HB1 := Lib.hid (HB.out.exc X.x (by omega))
  have HF1 := Lib.hid (HF.out.exc (by have := HA.out.lt; omega) X.x)
  clear HR HA HB HF X
  obtain ⟨x0, x1, x2, x3, x4, f0, f1, f2, f3, f4, lb⟩ := HB1.out.rc
  dsimp only at x0 x1 x2 x3 x4
  go_upto_region 3 with fail
  have HR := Lib.hid (HR1.out.kept (Below.setCell (Below.refl N w1) (p := ⟨N + 1, 0, none⟩) (Nat.le_succ N) (.string s1)) hrb)
  have HA : Hid (La (w1.setCell ⟨N + 1, 0, none⟩ (.string s1)) N _) := HA1.out.other (by omega)
  have HB := Lib.hid (HB1.out.s0 s1)
  have HF := Lib.hid (HF1.out.below (Below.setCell (Below.refl N w1) (p := ⟨N + 1, 0, none⟩) (Nat.le_succ N) (.string s1)))
  dsimp only at HA HB
  clear HR1 HA1 HB1 HF1 x0 x1 x2 x3 x4 f0 f1 f2 f3 f4 lb
  generalize World.setCell w1 _ _ = v1 at *
  go_wp2_with fail
  refine (C2.out _ HR.out).mono ?_
  rintro _ w2 ⟨rfl, X⟩
  have HR1 := Lib.hid X.r
  have HA1 := Lib.hid (HA.out.exc X.x (by omega))
  have HB1 := Lib.hid (HB.out.exc X.x (by omega))
  have HF1 := Lib.hid (HF.out.exc (by have := HA.out.lt; omega) X.x)
  clear HR HA HB HF X
  obtain ⟨x0, x1, x2, x3, x4, f0, f1, f2, f3, f4, lb⟩ := HB1.out.rc
  dsimp only at x0 x1 x2 x3 x4
  go_upto_region 4 with fail
  have HR := Lib.hid (HR1.out.kept (Below.setCell (Below.refl N w2) (p := ⟨N + 1, 1, none⟩) (Nat.le_succ N) (.string s2)) hrb)
  have HA : Hid (La (w2.setCell ⟨N + 1, 1, none⟩ (.string s2)) N _) := HA1.out.other (by omega)
  have HB := Lib.hid (HB1.out.s1 s2)
  have HF := Lib.hid (HF1.out.below (Below.setCell (Below.refl N w2) (p := ⟨N + 1, 1, none⟩) (Nat.le_succ N) (.string s2)))
  dsimp only at HA HB
  clear HR1 HA1 HB1 HF1 x0 x1 x2 x3 x4 f0 f1 f2 f3 f4 lb
  generalize World.setCell w2 _ _ = v2 at *
  go_wp2_with fail
  refine (C3.out _ HR.out).mono ?_
  rintro _ w3 ⟨rfl, X⟩
  have HR1 := Lib.hid X.r
  have HA1 := Lib.hid (HA.out.exc X.x (by omega))
  have HB1 := Lib.hid (HB.out.exc X.x (by omega))
  have HF1 := Lib.hid (HF.out.exc (by have := HA.out.lt; omega) X.x)
  clear HR HA HB HF X
  obtain ⟨x0, x1, x2, x3, x4, f0, f1, f2, f3, f4, lb⟩ := HB1.out.rc
  dsimp only at x0 x1 x2 x3 x4
  go_upto_region 5 with fail
  have HR := Lib.hid (HR1.out.kept (Below.setCell (Below.refl N w3) (p := ⟨N + 1, 2, none⟩) (Nat.le_succ N) (.int .i64 (c : Nat))) hrb)
  have HA : Hid (La (w3.setCell ⟨N + 1, 2, none⟩ (.int .i64 (c : Nat))) N _) := HA1.out.other (by omega)
  have HB := Lib.hid (HB1.out.s2 (c : Nat))
  have HF := Lib.hid (HF1.out.below (Below.setCell (Below.refl N w3) (p := ⟨N + 1, 2, none⟩) (Nat.le_succ N) (.int .i64 (c : Nat))))
  dsimp only at HA HB
  clear HR1 HA1 HB1 HF1 x0 x1 x2 x3 x4 f0 f1 f2 f3 f4 lb
  generalize World.setCell w3 _ _ = v3 at *
  clear C1 C2 C3
  obtain ⟨x0, x1, x2, x3, x4, f0, f1, f2, f3, f4, lb⟩ := HB.out.rc
  dsimp only at x0 x1 x2 x3 x4
  by_cases k1 : c = 1
  · subst k1
    go_wp2_with fail
    refine (C4.out _ HR.out).mono ?_
    rintro _ w4 ⟨rfl, X⟩
    have HR1 := Lib.hid X.r
    have HA1 := Lib.hid (HA.out.exc X.x (by omega))
    have HB1 := Lib.hid (HB.out.exc X.x (by omega))
    have HF1 := Lib.hid (HF.out.exc (by have := HA.out.lt; omega) X.x)
    clear x0 x1 x2 x3 x4 f0 f1 f2 f3 f4 lb
    clear HR HA HB HF X
    obtain ⟨x0, x1, x2, x3, x4, f0, f1, f2, f3, f4, lb⟩ := HB1.out.rc
    dsimp only at x0 x1 x2 x3 x4
    go_upto_region 10 with fail
    have HR := Lib.hid (HR1.out.kept (Below.setCell (Below.refl N w4) (p := ⟨N + 1, 3, none⟩) (Nat.le_succ N) (.int .i64 (wrap64 ((stShort M a3 e3).1 : Nat)))) hrb)
    have HA : Hid (La (w4.setCell ⟨N + 1, 3, none⟩ (.int .i64 (wrap64 ((stShort M a3 e3).1 : Nat)))) N _) := HA1.out.other (by omega)
    have HB := Lib.hid (HB1.out.s3 (wrap64 ((stShort M a3 e3).1 : Nat)))
    have HF := Lib.hid (HF1.out.below (Below.setCell (Below.refl N w4) (p := ⟨N + 1, 3, none⟩) (Nat.le_succ N) (.int .i64 (wrap64 ((stShort M a3 e3).1 : Nat)))))
    dsimp only at HA HB
    clear HR1 HA1 HB1 HF1 x0 x1 x2 x3 x4 f0 f1 f2 f3 f4 lb
    generalize World.setCell w4 _ _ = v4 at *
    clear C4 C5
    obtain ⟨x0, x1, x2, x3, x4, f0, f1, f2, f3, f4, lb⟩ := HB.out.rc
    dsimp only at x0 x1 x2 x3 x4
    obtain ⟨y0, y1, y2, y3, y4, g0, g1, g2, g3, g4, lc⟩ := HA.out.rc
    dsimp only at y0 y1 y2 y3 y4
    go_wp2_with fail
    have HA5 : Hid (La (((((v4.setCell ⟨N, 0, none⟩ (.string s1)).setCell ⟨N, 1, none⟩ (.string s2)).setCell ⟨N, 2, none⟩ (.int .i64 1)).setCell ⟨N, 3, none⟩ (.int .i64 (wrap64 ((stShort M a3 e3).1 : Nat)))).setCell ⟨N, 4, none⟩ (.string ⟨#[]⟩)) N ⟨s1, s2, 1, (wrap64 ((stShort M a3 e3).1 : Nat)), ⟨#[]⟩⟩) := ((((HA.out.s0 s1).s1 s2).s2 1).s3 (wrap64 ((stShort M a3 e3).1 : Nat))).s4 ⟨#[]⟩
    have HB5 : Hid (Below N v4 (((((v4.setCell ⟨N, 0, none⟩ (.string s1)).setCell ⟨N, 1, none⟩ (.string s2)).setCell ⟨N, 2, none⟩ (.int .i64 1)).setCell ⟨N, 3, none⟩ (.int .i64 (wrap64 ((stShort M a3 e3).1 : Nat)))).setCell ⟨N, 4, none⟩ (.string ⟨#[]⟩))) := (Below.setCell (Below.setCell (Below.setCell (Below.setCell (Below.setCell (Below.refl N v4) (p := ⟨N, 0, none⟩) (Nat.le_refl N) _) (p := ⟨N, 1, none⟩) (Nat.le_refl N) _) (p := ⟨N, 2, none⟩) (Nat.le_refl N) _) (p := ⟨N, 3, none⟩) (Nat.le_refl N) _) (p := ⟨N, 4, none⟩) (Nat.le_refl N) _)
    generalize World.setCell (World.setCell _ _ _) _ _ = v5 at *
    obtain ⟨p0, p1, p2, p3, p4, -⟩ := HA5.out.rc
    dsimp only at p0 p1 p2 p3 p4
    clear x0 x1 x2 x3 x4 y0 y1 y2 y3 y4
    refine bodyPost_ret (v := av ⟨s1, s2, 1, (wrap64 ((stShort M a3 e3).1 : Nat)), ⟨#[]⟩⟩) (by simp [results, Tryd.results58, go_sem, p0, p1, p2, p3, p4, av]) rfl ?_
    refine ⟨rfl, HR.out.kept HB5.out hrb, HT.out _ (HF.out.below HB5.out)⟩
  · skip
    by_cases k2 : c = 2
    · subst k2
      go_wp2_with fail
      refine (C5.out _ HR.out).mono ?_
      rintro _ w4 ⟨rfl, X⟩
      have HR1 := Lib.hid X.r
      have HA1 := Lib.hid (HA.out.exc X.x (by omega))
      have HB1 := Lib.hid (HB.out.exc X.x (by omega))
      have HF1 := Lib.hid (HF.out.exc (by have := HA.out.lt; omega) X.x)
      clear x0 x1 x2 x3 x4 f0 f1 f2 f3 f4 lb
      clear HR HA HB HF X
      obtain ⟨x0, x1, x2, x3, x4, f0, f1, f2, f3, f4, lb⟩ := HB1.out.rc
      dsimp only at x0 x1 x2 x3 x4
      go_upto_region 10 with fail
      have HR := Lib.hid (HR1.out.kept (Below.setCell (Below.refl N w4) (p := ⟨N + 1, 4, none⟩) (Nat.le_succ N) (.string (stText M a3 e3).1)) hrb)
      have HA : Hid (La (w4.setCell ⟨N + 1, 4, none⟩ (.string (stText M a3 e3).1)) N _) := HA1.out.other (by omega)
      have HB := Lib.hid (HB1.out.s4 (stText M a3 e3).1)
      have HF := Lib.hid (HF1.out.below (Below.setCell (Below.refl N w4) (p := ⟨N + 1, 4, none⟩) (Nat.le_succ N) (.string (stText M a3 e3).1)))
      dsimp only at HA HB
      clear HR1 HA1 HB1 HF1 x0 x1 x2 x3 x4 f0 f1 f2 f3 f4 lb
      generalize World.setCell w4 _ _ = v4 at *
      clear C4 C5
      obtain ⟨x0, x1, x2, x3, x4, f0, f1, f2, f3, f4, lb⟩ := HB.out.rc
      dsimp only at x0 x1 x2 x3 x4
      obtain ⟨y0, y1, y2, y3, y4, g0, g1, g2, g3, g4, lc⟩ := HA.out.rc
      dsimp only at y0 y1 y2 y3 y4
      go_wp2_with fail
      have HA5 : Hid (La (((((v4.setCell ⟨N, 0, none⟩ (.string s1)).setCell ⟨N, 1, none⟩ (.string s2)).setCell ⟨N, 2, none⟩ (.int .i64 2)).setCell ⟨N, 3, none⟩ (.int .i64 0)).setCell ⟨N, 4, none⟩ (.string (stText M a3 e3).1)) N ⟨s1, s2, 2, 0, (stText M a3 e3).1⟩) := ((((HA.out.s0 s1).s1 s2).s2 2).s3 0).s4 (stText M a3 e3).1
      have HB5 : Hid (Below N v4 (((((v4.setCell ⟨N, 0, none⟩ (.string s1)).setCell ⟨N, 1, none⟩ (.string s2)).setCell ⟨N, 2, none⟩ (.int .i64 2)).setCell ⟨N, 3, none⟩ (.int .i64 0)).setCell ⟨N, 4, none⟩ (.string (stText M a3 e3).1))) := (Below.setCell (Below.setCell (Below.setCell (Below.setCell (Below.setCell (Below.refl N v4) (p := ⟨N, 0, none⟩) (Nat.le_refl N) _) (p := ⟨N, 1, none⟩) (Nat.le_refl N) _) (p := ⟨N, 2, none⟩) (Nat.le_refl N) _) (p := ⟨N, 3, none⟩) (Nat.le_refl N) _) (p := ⟨N, 4, none⟩) (Nat.le_refl N) _)
      generalize World.setCell (World.setCell _ _ _) _ _ = v5 at *
      obtain ⟨p0, p1, p2, p3, p4, -⟩ := HA5.out.rc
      dsimp only at p0 p1 p2 p3 p4
      clear x0 x1 x2 x3 x4 y0 y1 y2 y3 y4
      refine bodyPost_ret (v := av ⟨s1, s2, 2, 0, (stText M a3 e3).1⟩) (by simp [results, Tryd.results58, go_sem, p0, p1, p2, p3, p4, av]) rfl ?_
      refine ⟨rfl, HR.out.kept HB5.out hrb, HT.out _ (HF.out.below HB5.out)⟩
    · have k3 : ((c : Int) == 1) = false := by rw [beq_eq_false_iff_ne]; omega
      have k4 : ((c : Int) == 2) = false := by rw [beq_eq_false_iff_ne]; omega
      go_upto_region 10 with fail
      clear C4 C5
      have hs : stLast M s1 s2 (c, a3, e3) = (⟨s1, s2, (c : Nat), 0, ⟨#[]⟩⟩, a3, e3) := by unfold stLast; rw [if_neg k1, if_neg k2]
      have HS5 := Lib.hid hs
      clear hs
      obtain ⟨y0, y1, y2, y3, y4, g0, g1, g2, g3, g4, lc⟩ := HA.out.rc
      dsimp only at y0 y1 y2 y3 y4
      go_wp2_with fail
      have HA5 : Hid (La (((((v3.setCell ⟨N, 0, none⟩ (.string s1)).setCell ⟨N, 1, none⟩ (.string s2)).setCell ⟨N, 2, none⟩ (.int .i64 (c : Nat))).setCell ⟨N, 3, none⟩ (.int .i64 0)).setCell ⟨N, 4, none⟩ (.string ⟨#[]⟩)) N ⟨s1, s2, (c : Nat), 0, ⟨#[]⟩⟩) := ((((HA.out.s0 s1).s1 s2).s2 (c : Nat)).s3 0).s4 ⟨#[]⟩
      have HB5 : Hid (Below N v3 (((((v3.setCell ⟨N, 0, none⟩ (.string s1)).setCell ⟨N, 1, none⟩ (.string s2)).setCell ⟨N, 2, none⟩ (.int .i64 (c : Nat))).setCell ⟨N, 3, none⟩ (.int .i64 0)).setCell ⟨N, 4, none⟩ (.string ⟨#[]⟩))) := (Below.setCell (Below.setCell (Below.setCell (Below.setCell (Below.setCell (Below.refl N v3) (p := ⟨N, 0, none⟩) (Nat.le_refl N) _) (p := ⟨N, 1, none⟩) (Nat.le_refl N) _) (p := ⟨N, 2, none⟩) (Nat.le_refl N) _) (p := ⟨N, 3, none⟩) (Nat.le_refl N) _) (p := ⟨N, 4, none⟩) (Nat.le_refl N) _)
      generalize World.setCell (World.setCell _ _ _) _ _ = v5 at *
      obtain ⟨p0, p1, p2, p3, p4, -⟩ := HA5.out.rc
      dsimp only at p0 p1 p2 p3 p4
      clear x0 x1 x2 x3 x4 y0 y1 y2 y3 y4
      rw [HS5.out]
      refine bodyPost_ret (v := av ⟨s1, s2, (c : Nat), 0, ⟨#[]⟩⟩) (by simp [results, Tryd.results58, go_sem, p0, p1, p2, p3, p4, av]) rfl ?_
      refine ⟨rfl, HR.out.kept HB5.out hrb, HT.out _ (HF.out.below HB5.out)⟩
end Go.Proofs.YtakoghdkllfhlaaDoor

/- Get of an object's form. -/
import Derived.Test.YtakoghdkllfhlaaDoorRn
import Derived.StillTailTactics
namespace Go.Proofs.YtakoghdkllfhlaaDoor
open Go.RowKit Go.Lib

/-- an object held whole -/
def Lk (w : World) (b : Nat) (k : Obt) : Prop := w.heap[b]? = some (.cells #[.string k.a.t, .string k.a.n, .int .i64 k.a.kd, .int .i64 k.a.i, .string k.a.k, .int .u32 k.N] 26 (0, 0))
theorem Lk.lt {w : World} {b : Nat} {a : Obt} (h : Lk w b a) : b < w.heap.size := (Array.getElem?_eq_some_iff.1 h).1
theorem Lk.exc {w w' : World} {b rb : Nat} {a : Obt} (h : Lk w b a) (x : Exc (some rb) w w') (hb : rb ≠ b) : Lk w' b a := (x.block b h.lt fun e => by injection e with e; exact hb e).trans h
theorem Lk.kept {w w' : World} {b m : Nat} {a : Obt} (h : Lk w b a) (x : Below m w w') (hb : b < m) : Lk w' b a := (x.block b hb).trans h
theorem Lk.rc {w : World} {b : Nat} {k : Obt} (h : Lk w b k) : w.cell? ⟨b, 0, none⟩ = some (.string k.a.t) ∧ w.cell? ⟨b, 1, none⟩ = some (.string k.a.n) ∧ w.cell? ⟨b, 2, none⟩ = some (.int .i64 k.a.kd) ∧ w.cell? ⟨b, 3, none⟩ = some (.int .i64 k.a.i) ∧ w.cell? ⟨b, 4, none⟩ = some (.string k.a.k) ∧ w.cell? ⟨b, 5, none⟩ = some (.int .u32 k.N) ∧
    w.frozen? ⟨b, 0, none⟩ = false ∧ w.frozen? ⟨b, 1, none⟩ = false ∧ w.frozen? ⟨b, 2, none⟩ = false ∧ w.frozen? ⟨b, 3, none⟩ = false ∧ w.frozen? ⟨b, 4, none⟩ = false ∧ w.frozen? ⟨b, 5, none⟩ = false ∧ b < w.heap.size :=
  ⟨cell_of_row w b 0 _ _ _ h, cell_of_row w b 1 _ _ _ h, cell_of_row w b 2 _ _ _ h, cell_of_row w b 3 _ _ _ h, cell_of_row w b 4 _ _ _ h, cell_of_row w b 5 _ _ _ h,
   frozen_of_row w b 0 _ _ h, frozen_of_row w b 1 _ _ h, frozen_of_row w b 2 _ _ h, frozen_of_row w b 3 _ _ h, frozen_of_row w b 4 _ _ h, frozen_of_row w b 5 _ _ h, h.lt⟩
theorem Lk.s0 {w : World} {b : Nat} {k : Obt} (h : Lk w b k) (s : ByteArray) : Lk (w.setCell ⟨b, 0, none⟩ (.string s)) b ⟨{ k.a with t := s }, k.N⟩ := (heap_setCell_same w b 0 _ _ _ h).trans rfl
theorem Lk.s1 {w : World} {b : Nat} {k : Obt} (h : Lk w b k) (s : ByteArray) : Lk (w.setCell ⟨b, 1, none⟩ (.string s)) b ⟨{ k.a with n := s }, k.N⟩ := (heap_setCell_same w b 1 _ _ _ h).trans rfl
theorem Lk.s2 {w : World} {b : Nat} {k : Obt} (h : Lk w b k) (s : Int) : Lk (w.setCell ⟨b, 2, none⟩ (.int .i64 s)) b ⟨{ k.a with kd := s }, k.N⟩ := (heap_setCell_same w b 2 _ _ _ h).trans rfl
theorem Lk.s3 {w : World} {b : Nat} {k : Obt} (h : Lk w b k) (s : Int) : Lk (w.setCell ⟨b, 3, none⟩ (.int .i64 s)) b ⟨{ k.a with i := s }, k.N⟩ := (heap_setCell_same w b 3 _ _ _ h).trans rfl
theorem Lk.s4 {w : World} {b : Nat} {k : Obt} (h : Lk w b k) (s : ByteArray) : Lk (w.setCell ⟨b, 4, none⟩ (.string s)) b ⟨{ k.a with k := s }, k.N⟩ := (heap_setCell_same w b 4 _ _ _ h).trans rfl
theorem Lk.s5 {w : World} {b : Nat} {k : Obt} (h : Lk w b k) (s : Int) : Lk (w.setCell ⟨b, 5, none⟩ (.int .u32 s)) b ⟨k.a, s⟩ := (heap_setCell_same w b 5 _ _ _ h).trans rfl
abbrev zA : Adr := ⟨⟨#[]⟩, ⟨#[]⟩, 0, 0, ⟨#[]⟩⟩
abbrev zK : Obt := ⟨zA, 0⟩
/-- what comes of an address, a number, where the reader is and what is wrong -/
def getF (A : Adr) (n a e : Nat) : Obt × Nat × Nat :=
  if e ≠ 0 then (zK, 0, e) else if n % 4294967296 ≠ n ∨ checkKB ⟨A, ((n % 4294967296 : Nat) : Int)⟩ = false then (zK, 0, 4) else (⟨A, (n : Nat)⟩, a, 0)
/-- the object that a form begins with, how much was read, what is wrong -/
def getK (M : List Nat) : Obt × Nat × Nat :=
  let p := stAddr M 0 0
  let q := stShort M p.2.1 p.2.2
  getF p.1 q.1 q.2.1 q.2.2
def getKV (r : Obt × Nat × Nat) : Ending := .returned (.tuple #[kv r.1, .int .i64 (r.2.1 : Nat), .int .i64 (r.2.2 : Nat)])
theorem drew_cell (w : World) (p : Addr) : w.drew.cell? p = w.cell? p := rfl
theorem bs_size (l : List Nat) : (bs l).size = l.length := by
  unfold bs ByteArray.size
  simp
theorem Bts.mono {n m : Nat} {w : World} {o : Option Addr} {cap : Nat} {M : List Nat} (h : Bts n w o cap M) (hm : n ≤ m) : Bts m w o cap M := ⟨h.row.mono fun k hk => by omega, h.b, h.sp⟩
theorem stText_size (M : List Nat) (a e : Nat) : (stText M a e).1.size ≤ 24 := by
  unfold stText
  split
  · exact Nat.zero_le _
  · cases hg : gstr (M.drop a) 24 with
    | error z => exact Nat.zero_le _
    | ok p =>
      obtain ⟨s, k⟩ := p
      unfold gstr at hg
      split at hg
      · cases hg
      · split at hg
        · cases hg
        · split at hg
          · cases hg
          · simp only [Except.ok.injEq, Prod.mk.injEq] at hg
            rw [← hg.1, bs_size, List.length_take]
            omega
theorem stAddr_sm (M : List Nat) (a e : Nat) : Sm (stAddr M a e).1 := by
  unfold stAddr stLast
  have h1 := stText_size M a e
  have h2 := stText_size M (stText M a e).2.1 (stText M a e).2.2
  dsimp only
  split
  · exact ⟨by dsimp only; omega, by dsimp only; omega, Nat.zero_le _⟩
  · split
    · refine ⟨by dsimp only; omega, by dsimp only; omega, ?_⟩
      dsimp only
      exact Nat.le_trans (stText_size _ _ _) (by omega)
    · exact ⟨by dsimp only; omega, by dsimp only; omega, Nat.zero_le _⟩
set_option maxRecDepth 100000 in
set_option maxHeartbeats 4000000 in
theorem get_any {nb : Nat} {o : Option Addr} {cap : Nat} {M : List Nat} {w : World} (B : Bts nb w o cap M) (hnb : nb ≤ w.heap.size) :
    Calls Tryd.prog 35 #[.slice o M.length cap] w fun r w' => r = getKV (getK M) ∧ Below w.heap.size w w' := by
  obtain ⟨⟨A, a1, e1⟩, h1⟩ : ∃ p, stAddr M 0 0 = p := ⟨_, rfl⟩
  obtain ⟨⟨n, a2, e2⟩, h2⟩ : ∃ p, stShort M a1 e1 = p := ⟨_, rfl⟩
  have hs : getK M = getF A n a2 e2 := by unfold getK; simp only [h1, h2]
  rw [hs]
  clear hs
  have hsm : Sm A := by have := stAddr_sm M 0 0; rw [h1] at this; exact this
  obtain ⟨N, hN⟩ : ∃ N, N = w.heap.size := ⟨_, rfl⟩
  obtain ⟨rb, hrb⟩ : ∃ rb, rb = N + 1 := ⟨_, rfl⟩
  have C1 : Hid (∀ w, Rda w rb o cap M 0 0 → Calls Tryd.prog 58 #[.pointer (some ⟨rb, 0, none⟩)] w fun r w' => r = .returned (av A) ∧ Rx w rb o cap M a1 e1 w') := fun w R => by have := aaddr_any R; rw [h1] at this; exact this
  have C2 : Hid (∀ w, Rda w rb o cap M a1 e1 → Calls Tryd.prog 59 #[.pointer (some ⟨rb, 0, none⟩)] w fun r w' => r = .returned (.int .u64 (n : Nat)) ∧ Rx w rb o cap M a2 e2 w') := fun w R => by have := ashort_any R; rw [h2] at this; exact this
  obtain ⟨m, hm⟩ : ∃ m, n % 4294967296 = m := ⟨_, rfl⟩
  have HM := Lib.hid hm
  have hmi : (n : Int) % 4294967296 = m := by omega
  have HMI := Lib.hid hmi
  have hml : m < 4294967296 := by omega
  have HML := Lib.hid hml
  have C3 : Hid (∀ w, Calls Tryd.prog 11 #[kv ⟨A, (m : Nat)⟩] w (Arg w (checkKB ⟨A, (m : Nat)⟩))) := fun w => checkK_any ⟨A, (m : Nat)⟩ w hsm (by dsimp only; omega)
  clear h1 h2 hsm
  obtain ⟨w0, hw0⟩ : ∃ w0, (w.alloc (.cells #[.string ⟨#[]⟩, .string ⟨#[]⟩, .int .i64 0, .int .i64 0, .string ⟨#[]⟩, .int .u32 0] 26)).alloc (.cells #[.slice o M.length cap, .int .i64 0, .int .i64 0] 78) = w0 := ⟨_, rfl⟩
  have SZ : (w.alloc (.cells #[.string ⟨#[]⟩, .string ⟨#[]⟩, .int .i64 0, .int .i64 0, .string ⟨#[]⟩, .int .u32 0] 26)).heap.size = N + 1 := by rw [hN]; simp
  have HW : Hid (Below N w w0) := by rw [← hw0]; exact ((Below.refl N w).alloc (by omega) _).alloc (by rw [SZ]; exact Nat.le_succ N) _
  have HK : Hid (Lk w0 N zK) := by rw [← hw0]; exact (((Below.refl (N + 1) (w.alloc _)).alloc (by rw [SZ]; exact Nat.le_refl _) _).block N (Nat.lt_succ_self N)).trans (by subst hN; exact heap_alloc_new _ _)
  have HR : Hid (Rda w0 rb o cap M 0 0) := by
    refine ⟨by rw [← hw0, hrb, ← SZ]; exact heap_alloc_new _ _, ?_, Nat.zero_le _⟩
    exact (B.kept (HW.out.mono (by omega))).mono (by omega)
  have HW0 := Lib.hid hw0
  have HN := Lib.hid hN
  have HRB := Lib.hid hrb
  have HBn : Hid (∀ w', Below N w w' → Bts rb w' o cap M) := fun w' b => (B.kept (b.mono (by omega))).mono (by omega)
  clear B SZ hw0 hN hrb hmi hml hm
  go_enter Tryd.func35, Tryd.ntmps35
  go_upto_region 2 with fail
  rw [HW0.out, ← HN.out, ← HRB.out]
  clear HW0
  have nrb : N < rb := by have := HRB.out; omega
  go_wp2_with fail
  refine (C1.out _ HR.out).mono ?_
  rintro _ w1 ⟨rfl, X⟩
  have HR1 := Lib.hid X.r
  have HK1 := Lib.hid (HK.out.exc X.x (by omega))
  have HW1 := Lib.hid (HW.out.trans (X.x.below (Nat.le_of_lt HK.out.lt) (fun k h => by injection h with h; omega)))
  clear HR HK HW X
  obtain ⟨x0, x1, x2, x3, x4, x5, f0, f1, f2, f3, f4, f5, lb⟩ := HK1.out.rc
  dsimp only at x0 x1 x2 x3 x4 x5
  go_upto_region 3 with fail
  have HE : Hid (Exc (some N) w1 (((((w1.setCell ⟨N, 0, none⟩ (.string A.t)).setCell ⟨N, 1, none⟩ (.string A.n)).setCell ⟨N, 2, none⟩ (.int .i64 A.kd)).setCell ⟨N, 3, none⟩ (.int .i64 A.i)).setCell ⟨N, 4, none⟩ (.string A.k))) := ((((exc_set.trans exc_set).trans exc_set).trans exc_set).trans exc_set)
  have HK : Hid (Lk (((((w1.setCell ⟨N, 0, none⟩ (.string A.t)).setCell ⟨N, 1, none⟩ (.string A.n)).setCell ⟨N, 2, none⟩ (.int .i64 A.kd)).setCell ⟨N, 3, none⟩ (.int .i64 A.i)).setCell ⟨N, 4, none⟩ (.string A.k)) N _) := ((((HK1.out.s0 A.t).s1 A.n).s2 A.kd).s3 A.i).s4 A.k
  dsimp only at HK
  generalize (((((w1.setCell ⟨N, 0, none⟩ (.string A.t)).setCell ⟨N, 1, none⟩ (.string A.n)).setCell ⟨N, 2, none⟩ (.int .i64 A.kd)).setCell ⟨N, 3, none⟩ (.int .i64 A.i)).setCell ⟨N, 4, none⟩ (.string A.k)) = v1 at *
  have HW := Lib.hid (HW1.out.trans (HE.out.below (Nat.le_of_lt HK1.out.lt) (fun k h => by injection h with h; omega)))
  have HR : Hid (Rda v1 rb o cap M _ _) := ⟨(HE.out.block rb HR1.out.lt (fun h => by injection h with h; omega)).trans HR1.out.row, HBn.out _ HW.out, HR1.out.le⟩
  clear HE HK1 HW1 HR1
  clear x0 x1 x2 x3 x4 x5 f0 f1 f2 f3 f4 f5 lb
  go_wp2_with fail
  refine (C2.out _ HR.out).mono ?_
  rintro _ w2 ⟨rfl, X⟩
  have HR1 := Lib.hid X.r
  have HK1 := Lib.hid (HK.out.exc X.x (by omega))
  have HW1 := Lib.hid (HW.out.trans (X.x.below (Nat.le_of_lt HK.out.lt) (fun k h => by injection h with h; omega)))
  clear HR HK HW X
  obtain ⟨x0, x1, x2, x3, x4, x5, f0, f1, f2, f3, f4, f5, lb⟩ := HK1.out.rc
  dsimp only at x0 x1 x2 x3 x4 x5
  have hmi := HMI.out
  go_upto_region 5 with fail
  clear hmi
  have HE : Hid (Exc (some N) w2 (w2.setCell ⟨N, 5, none⟩ (.int .u32 (m : Nat)))) := exc_set
  have HK : Hid (Lk (w2.setCell ⟨N, 5, none⟩ (.int .u32 (m : Nat))) N _) := HK1.out.s5 (m : Nat)
  dsimp only at HK
  generalize (w2.setCell ⟨N, 5, none⟩ (.int .u32 (m : Nat))) = v2 at *
  have HW := Lib.hid (HW1.out.trans (HE.out.below (Nat.le_of_lt HK1.out.lt) (fun k h => by injection h with h; omega)))
  have HR : Hid (Rda v2 rb o cap M _ _) := ⟨(HE.out.block rb HR1.out.lt (fun h => by injection h with h; omega)).trans HR1.out.row, HBn.out _ HW.out, HR1.out.le⟩
  clear HE HK1 HW1 HR1
  clear x0 x1 x2 x3 x4 x5 f0 f1 f2 f3 f4 f5 lb
  obtain ⟨x0, x1, x2, x3, x4, x5, f0, f1, f2, f3, f4, f5, lb⟩ := HK.out.rc
  obtain ⟨r0, r1, r2, r3, r4, r5⟩ := HR.out.rc
  dsimp only at x0 x1 x2 x3 x4 x5
  by_cases he : e2 = 0
  · subst he
    have hmi := HML.out
    have hmk : (m : Int) % 18446744073709551616 = m := by omega
    by_cases hn : m = n
    · have hq : ((m : Int) != (n : Int)) = false := by rw [bne_eq_false_iff_eq]; omega
      have HQ := Lib.hid hn
      clear hn
      cases hc : checkKB ⟨A, (m : Nat)⟩ with
      | false =>
        rw [hc] at C3
        skip
        have HC := Lib.hid hc
        clear hc
        go_wp2_with fail
        refine (C3.out _).mono ?_
        rintro _ w3 ⟨rfl, b⟩
        have HKn := Lib.hid (HK.out.kept b HK.out.lt)
        have HWn := Lib.hid (HW.out.trans (b.mono (Nat.le_of_lt HK.out.lt)))
        have HRn := Lib.hid (HR.out.kept b HR.out.lt)
        clear HK HR HW r0 r1 r2 r3 r4 r5 x0 x1 x2 x3 x4 x5 f0 f1 f2 f3 f4 f5 lb
        have HK := HKn
        have HR := HRn
        have HW := HWn
        clear HKn HRn HWn
        obtain ⟨x0, x1, x2, x3, x4, x5, f0, f1, f2, f3, f4, f5, lb⟩ := HK.out.rc
        obtain ⟨r0, r1, r2, r3, r4, r5⟩ := HR.out.rc
        dsimp only at x0 x1 x2 x3 x4 x5
        have HS : Hid (getF A n a2 0 = (zK, 0, 4)) := by unfold Hid getF; rw [if_neg (by simp), if_pos (Or.inr (by rw [HM.out]; exact HC.out))]
        go_upto_region 7 with fail
        have HE : Hid (Exc (some rb) w3 (w3.setCell ⟨rb, 2, none⟩ (.int .i64 4))) := exc_set
        have HKn := Lib.hid (HK.out.exc HE.out (by omega))
        have HRn := Lib.hid (HR.out.set2 (x := 4))
        have HWn := Lib.hid (HW.out.trans (HE.out.below (Nat.le_of_lt HK.out.lt) (fun k h => by injection h with h; omega)))
        have HRn : Hid (Rda (w3.setCell ⟨rb, 2, none⟩ (.int .i64 4)) rb o cap M a2 4) := HR.out.set2
        clear HE HK HR HW r0 r1 r2 r3 r4 r5 x0 x1 x2 x3 x4 x5 f0 f1 f2 f3 f4 f5 lb
        generalize World.setCell w3 _ _ = v4 at *
        have HK := HKn
        have HR := HRn
        have HW := HWn
        clear HKn HRn HWn
        obtain ⟨x0, x1, x2, x3, x4, x5, f0, f1, f2, f3, f4, f5, lb⟩ := HK.out.rc
        obtain ⟨r0, r1, r2, r3, r4, r5⟩ := HR.out.rc
        dsimp only at x0 x1 x2 x3 x4 x5
        go_upto_region 8 with fail
        have HE : Hid (Exc (some N) v4 ((((((v4.setCell ⟨N, 0, none⟩ (.string ⟨#[]⟩)).setCell ⟨N, 1, none⟩ (.string ⟨#[]⟩)).setCell ⟨N, 2, none⟩ (.int .i64 0)).setCell ⟨N, 3, none⟩ (.int .i64 0)).setCell ⟨N, 4, none⟩ (.string ⟨#[]⟩)).setCell ⟨N, 5, none⟩ (.int .u32 0))) := (((((exc_set.trans exc_set).trans exc_set).trans exc_set).trans exc_set).trans exc_set)
        have HL : Hid (Lk ((((((v4.setCell ⟨N, 0, none⟩ (.string ⟨#[]⟩)).setCell ⟨N, 1, none⟩ (.string ⟨#[]⟩)).setCell ⟨N, 2, none⟩ (.int .i64 0)).setCell ⟨N, 3, none⟩ (.int .i64 0)).setCell ⟨N, 4, none⟩ (.string ⟨#[]⟩)).setCell ⟨N, 5, none⟩ (.int .u32 0)) N ⟨⟨⟨#[]⟩, ⟨#[]⟩, 0, 0, ⟨#[]⟩⟩, 0⟩) := (((((HK.out.s0 ⟨#[]⟩).s1 ⟨#[]⟩).s2 0).s3 0).s4 ⟨#[]⟩).s5 0
        have HR9 : Hid (((((((v4.setCell ⟨N, 0, none⟩ (.string ⟨#[]⟩)).setCell ⟨N, 1, none⟩ (.string ⟨#[]⟩)).setCell ⟨N, 2, none⟩ (.int .i64 0)).setCell ⟨N, 3, none⟩ (.int .i64 0)).setCell ⟨N, 4, none⟩ (.string ⟨#[]⟩)).setCell ⟨N, 5, none⟩ (.int .u32 0)).drew.cell? ⟨rb, 2, none⟩ = some (.int .i64 4)) := (drew_cell _ _).trans ((HE.out.cell (o := 2) HR.out.lt (fun h => by injection h with h; omega)).trans r2)
        have HLd := Lib.hid (HL.out.kept ((Below.refl (N + 1) ((((((v4.setCell ⟨N, 0, none⟩ (.string ⟨#[]⟩)).setCell ⟨N, 1, none⟩ (.string ⟨#[]⟩)).setCell ⟨N, 2, none⟩ (.int .i64 0)).setCell ⟨N, 3, none⟩ (.int .i64 0)).setCell ⟨N, 4, none⟩ (.string ⟨#[]⟩)).setCell ⟨N, 5, none⟩ (.int .u32 0))).drew) (Nat.lt_succ_self N))
        refine wp_region_noPanic ?_
        refine wp_region_held_drew (S := (fun W => W.cell? ⟨rb, 2, none⟩ = some (.int .i64 4))) (by kernel_rfl) ?_ (fun hH => ?_)
        · exact r2
        refine wpAnyH_take (i := 0) (oi := { dst := some 34, op := Op.build 26 #[], type := 26, pos := "form.go:41", after := #[], guard := none }) (v := ?_) rfl (by kernel_rfl) (by kernel_rfl) (by kernel_rfl) (fun _ _ _ h => h) (Or.inl ⟨by rfl, ?_⟩) (by assumption) ?_
        rotate_left
        · (intro w hSw; (try dsimp only at hSw); go_simp; try with_reducible rfl)
        try simp only [Act.put, List.setIfInBounds_toArray, List.set_cons_zero, List.set_cons_succ]
        refine wpAnyH_take (i := 1) (oi := { dst := some 35, op := Op.fieldAddr 78 (Operand.tmp 5) 2, type := 0, pos := "form.go:41", after := #[{ on := 4, ground := Ground.gcOnly Departure.lateStores }], guard := none }) (v := ?_) rfl (by kernel_rfl) (by kernel_rfl) (by kernel_rfl) (fun _ _ _ h => h) (Or.inl ⟨by rfl, ?_⟩) (by assumption) ?_
        rotate_left
        · (intro w hSw; (try dsimp only at hSw); go_simp; try with_reducible rfl)
        try simp only [Act.put, List.setIfInBounds_toArray, List.set_cons_zero, List.set_cons_succ]
        refine wpAnyH_take (i := 2) (oi := { dst := some 36, op := Op.load 29 (Operand.tmp 35), type := 29, pos := "form.go:41", after := #[{ on := 1, ground := Ground.data }, { on := 4, ground := Ground.gcOnly Departure.lateStores }], guard := none }) (v := ?_) rfl (by kernel_rfl) (by kernel_rfl) (by kernel_rfl) (fun _ _ _ h => h) (Or.inl ⟨by rfl, ?_⟩) (by assumption) ?_
        rotate_left
        · (intro w hSw; (try dsimp only at hSw); go_simp; try with_reducible rfl)
        try simp only [Act.put, List.setIfInBounds_toArray, List.set_cons_zero, List.set_cons_succ]
        refine wpAnyH_ready (rs := [3]) (by kernel_rfl) (by simp) ?_
        refine AllReadyH.cons (o := { dst := none, op := Op.store 26 (Operand.tmp 2) (Operand.tmp 34), type := 0, pos := "form.go:41", after := #[{ on := 0, ground := Ground.data }, { on := 0, ground := Ground.phase }, { on := 1, ground := Ground.textOnly Departure.lateStores }, { on := 2, ground := Ground.textOnly Departure.lateStores }], guard := none }) rfl (fun K hK => ?_) AllReadyH.nil
        go_simp
        refine hK.out _ _ ?_ (fun hH' => ?_)
        · exact HR9.out
        clear hK K hH
        have hH := hH'
        clear hH'
        try simp only [Act.put, List.setIfInBounds_toArray, List.set_cons_zero, List.set_cons_succ]
        refine wpAnyH_take (i := 4) (oi := { dst := some 3, op := Op.assign (Operand.const (Value.int IntKind.i64 0)), type := 3, pos := "form.go:41", after := #[{ on := 3, ground := Ground.chain }, { on := 0, ground := Ground.phase }, { on := 1, ground := Ground.textOnly Departure.lateStores }, { on := 2, ground := Ground.textOnly Departure.lateStores }, { on := 3, ground := Ground.phase }], guard := none }) (v := ?_) rfl (by kernel_rfl) (by kernel_rfl) (by kernel_rfl) (fun _ _ _ h => h) (Or.inl ⟨by rfl, ?_⟩) (by assumption) ?_
        rotate_left
        · (intro w hSw; (try dsimp only at hSw); go_simp; try with_reducible rfl)
        try simp only [Act.put, List.setIfInBounds_toArray, List.set_cons_zero, List.set_cons_succ]
        refine wpAnyH_take (i := 5) (oi := { dst := some 4, op := Op.assign (Operand.tmp 36), type := 29, pos := "form.go:41", after := #[{ on := 2, ground := Ground.data }, { on := 4, ground := Ground.chain }, { on := 0, ground := Ground.phase }, { on := 1, ground := Ground.phase }, { on := 2, ground := Ground.phase }, { on := 3, ground := Ground.phase }, { on := 4, ground := Ground.phase }], guard := none }) (v := ?_) rfl (by kernel_rfl) (by kernel_rfl) (by kernel_rfl) (fun _ _ _ h => h) (Or.inl ⟨by rfl, ?_⟩) (by assumption) ?_
        rotate_left
        · (intro w hSw; (try dsimp only at hSw); go_simp; try with_reducible rfl)
        try simp only [Act.put, List.setIfInBounds_toArray, List.set_cons_zero, List.set_cons_succ]
        refine wpAnyH_done (by kernel_rfl) ?_ _
        refine NoPanic.normal ?_
        generalize ((((((v4.setCell ⟨N, 0, none⟩ (.string ⟨#[]⟩)).setCell ⟨N, 1, none⟩ (.string ⟨#[]⟩)).setCell ⟨N, 2, none⟩ (.int .i64 0)).setCell ⟨N, 3, none⟩ (.int .i64 0)).setCell ⟨N, 4, none⟩ (.string ⟨#[]⟩)).setCell ⟨N, 5, none⟩ (.int .u32 0)) = u1 at *
        clear x0 x1 x2 x3 x4 x5 f0 f1 f2 f3 f4 f5 lb
        obtain ⟨p0, p1, p2, p3, p4, p5, -⟩ := HL.out.rc
        clear HLd HR9
        dsimp only at p0 p1 p2 p3 p4 p5
        go_wp2_with fail
        refine bodyPost_ret (v := .tuple #[kv ⟨⟨⟨#[]⟩, ⟨#[]⟩, 0, 0, ⟨#[]⟩⟩, 0⟩, .int .i64 0, .int .i64 4]) (by simp [results, Tryd.results35, go_sem, p0, p1, p2, p3, p4, p5]) rfl ?_
        have HB9 := (HW.out.trans (HE.out.below (Nat.le_of_lt HK.out.lt) (fun k h => by injection h with h; omega))).drew
        rw [HN.out] at HB9
        rw [HS.out]
        exact ⟨rfl, HB9⟩
      | true =>
        rw [hc] at C3
        skip
        have HC := Lib.hid hc
        clear hc
        go_wp2_with fail
        refine (C3.out _).mono ?_
        rintro _ w3 ⟨rfl, b⟩
        have HKn := Lib.hid (HK.out.kept b HK.out.lt)
        have HWn := Lib.hid (HW.out.trans (b.mono (Nat.le_of_lt HK.out.lt)))
        have HRn := Lib.hid (HR.out.kept b HR.out.lt)
        clear HK HR HW r0 r1 r2 r3 r4 r5 x0 x1 x2 x3 x4 x5 f0 f1 f2 f3 f4 f5 lb
        have HK := HKn
        have HR := HRn
        have HW := HWn
        clear HKn HRn HWn
        obtain ⟨x0, x1, x2, x3, x4, x5, f0, f1, f2, f3, f4, f5, lb⟩ := HK.out.rc
        obtain ⟨r0, r1, r2, r3, r4, r5⟩ := HR.out.rc
        dsimp only at x0 x1 x2 x3 x4 x5
        have HS : Hid (getF A n a2 0 = (⟨A, (m : Nat)⟩, a2, 0)) := by unfold Hid getF; rw [if_neg (by simp), if_neg (by rw [HM.out, HC.out]; intro h; rcases h with h | h; exact h HQ.out; cases h), HQ.out]
        go_upto_region 9 with fail
        have HE : Hid (Exc (some N) w3 ((((((w3.setCell ⟨N, 0, none⟩ (.string A.t)).setCell ⟨N, 1, none⟩ (.string A.n)).setCell ⟨N, 2, none⟩ (.int .i64 A.kd)).setCell ⟨N, 3, none⟩ (.int .i64 A.i)).setCell ⟨N, 4, none⟩ (.string A.k)).setCell ⟨N, 5, none⟩ (.int .u32 (m : Nat)))) := (((((exc_set.trans exc_set).trans exc_set).trans exc_set).trans exc_set).trans exc_set)
        have HL : Hid (Lk ((((((w3.setCell ⟨N, 0, none⟩ (.string A.t)).setCell ⟨N, 1, none⟩ (.string A.n)).setCell ⟨N, 2, none⟩ (.int .i64 A.kd)).setCell ⟨N, 3, none⟩ (.int .i64 A.i)).setCell ⟨N, 4, none⟩ (.string A.k)).setCell ⟨N, 5, none⟩ (.int .u32 (m : Nat))) N ⟨⟨A.t, A.n, A.kd, A.i, A.k⟩, (m : Nat)⟩) := (((((HK.out.s0 A.t).s1 A.n).s2 A.kd).s3 A.i).s4 A.k).s5 (m : Nat)
        have HR9 : Hid (((((((w3.setCell ⟨N, 0, none⟩ (.string A.t)).setCell ⟨N, 1, none⟩ (.string A.n)).setCell ⟨N, 2, none⟩ (.int .i64 A.kd)).setCell ⟨N, 3, none⟩ (.int .i64 A.i)).setCell ⟨N, 4, none⟩ (.string A.k)).setCell ⟨N, 5, none⟩ (.int .u32 (m : Nat))).drew.cell? ⟨rb, 1, none⟩ = some (.int .i64 (a2 : Nat))) := (drew_cell _ _).trans ((HE.out.cell (o := 1) HR.out.lt (fun h => by injection h with h; omega)).trans r1)
        have HLd := Lib.hid (HL.out.kept ((Below.refl (N + 1) ((((((w3.setCell ⟨N, 0, none⟩ (.string A.t)).setCell ⟨N, 1, none⟩ (.string A.n)).setCell ⟨N, 2, none⟩ (.int .i64 A.kd)).setCell ⟨N, 3, none⟩ (.int .i64 A.i)).setCell ⟨N, 4, none⟩ (.string A.k)).setCell ⟨N, 5, none⟩ (.int .u32 (m : Nat)))).drew) (Nat.lt_succ_self N))
        refine wp_region_noPanic ?_
        refine wp_region_held_drew (S := (fun W => W.cell? ⟨rb, 1, none⟩ = some (.int .i64 (a2 : Nat)) ∧ W.cell? ⟨N, 0, none⟩ = some (.string A.t) ∧ W.cell? ⟨N, 1, none⟩ = some (.string A.n) ∧ W.cell? ⟨N, 2, none⟩ = some (.int .i64 A.kd) ∧ W.cell? ⟨N, 3, none⟩ = some (.int .i64 A.i) ∧ W.cell? ⟨N, 4, none⟩ = some (.string A.k) ∧ W.cell? ⟨N, 5, none⟩ = some (.int .u32 (m : Nat)))) (by kernel_rfl) ?_ (fun hH => ?_)
        · exact ⟨r1, x0, x1, x2, x3, x4, x5⟩
        refine wpAnyH_take (i := 0) (oi := { dst := some 37, op := Op.load 26 (Operand.tmp 2), type := 26, pos := "form.go:43", after := #[], guard := none }) (v := ?_) rfl (by kernel_rfl) (by kernel_rfl) (by kernel_rfl) (fun _ _ _ h => h) (Or.inl ⟨by rfl, ?_⟩) (by assumption) ?_
        rotate_left
        · (intro w hSw; (try dsimp only at hSw); go_simp; try with_reducible rfl)
        try simp only [Act.put, List.setIfInBounds_toArray, List.set_cons_zero, List.set_cons_succ]
        refine wpAnyH_take (i := 1) (oi := { dst := some 38, op := Op.fieldAddr 78 (Operand.tmp 5) 1, type := 0, pos := "form.go:43", after := #[{ on := 3, ground := Ground.gcOnly Departure.lateStores }], guard := none }) (v := ?_) rfl (by kernel_rfl) (by kernel_rfl) (by kernel_rfl) (fun _ _ _ h => h) (Or.inl ⟨by rfl, ?_⟩) (by assumption) ?_
        rotate_left
        · (intro w hSw; (try dsimp only at hSw); go_simp; try with_reducible rfl)
        try simp only [Act.put, List.setIfInBounds_toArray, List.set_cons_zero, List.set_cons_succ]
        refine wpAnyH_take (i := 2) (oi := { dst := some 39, op := Op.load 3 (Operand.tmp 38), type := 3, pos := "form.go:43", after := #[{ on := 1, ground := Ground.data }, { on := 3, ground := Ground.gcOnly Departure.lateStores }], guard := none }) (v := ?_) rfl (by kernel_rfl) (by kernel_rfl) (by kernel_rfl) (fun _ _ _ h => h) (Or.inl ⟨by rfl, ?_⟩) (by assumption) ?_
        rotate_left
        · (intro w hSw; (try dsimp only at hSw); go_simp; try with_reducible rfl)
        try simp only [Act.put, List.setIfInBounds_toArray, List.set_cons_zero, List.set_cons_succ]
        refine wpAnyH_ready (rs := [3]) (by kernel_rfl) (by simp) ?_
        refine AllReadyH.cons (o := { dst := none, op := Op.store 26 (Operand.tmp 2) (Operand.tmp 37), type := 0, pos := "form.go:43", after := #[{ on := 0, ground := Ground.data }, { on := 0, ground := Ground.phase }, { on := 1, ground := Ground.textOnly Departure.lateStores }, { on := 2, ground := Ground.textOnly Departure.lateStores }], guard := none }) rfl (fun K hK => ?_) AllReadyH.nil
        go_simp
        refine hK.out _ _ ?_ (fun hH' => ?_)
        · exact ⟨HR9.out, by obtain ⟨p0, p1, p2, p3, p4, p5, -⟩ := HLd.out.rc; exact ⟨p0, p1, p2, p3, p4, p5⟩⟩
        clear hK K hH
        have hH := hH'
        clear hH'
        try simp only [Act.put, List.setIfInBounds_toArray, List.set_cons_zero, List.set_cons_succ]
        refine wpAnyH_take (i := 4) (oi := { dst := some 3, op := Op.assign (Operand.tmp 39), type := 3, pos := "form.go:43", after := #[{ on := 2, ground := Ground.data }, { on := 3, ground := Ground.chain }, { on := 0, ground := Ground.phase }, { on := 1, ground := Ground.phase }, { on := 2, ground := Ground.phase }, { on := 3, ground := Ground.phase }], guard := none }) (v := ?_) rfl (by kernel_rfl) (by kernel_rfl) (by kernel_rfl) (fun _ _ _ h => h) (Or.inl ⟨by rfl, ?_⟩) (by assumption) ?_
        rotate_left
        · (intro w hSw; (try dsimp only at hSw); go_simp; try with_reducible rfl)
        try simp only [Act.put, List.setIfInBounds_toArray, List.set_cons_zero, List.set_cons_succ]
        refine wpAnyH_take (i := 5) (oi := { dst := some 4, op := Op.assign (Operand.const (Value.int IntKind.i64 0)), type := 29, pos := "form.go:43", after := #[{ on := 4, ground := Ground.chain }, { on := 0, ground := Ground.phase }, { on := 1, ground := Ground.phase }, { on := 2, ground := Ground.phase }, { on := 3, ground := Ground.phase }, { on := 4, ground := Ground.phase }], guard := none }) (v := ?_) rfl (by kernel_rfl) (by kernel_rfl) (by kernel_rfl) (fun _ _ _ h => h) (Or.inl ⟨by rfl, ?_⟩) (by assumption) ?_
        rotate_left
        · (intro w hSw; (try dsimp only at hSw); go_simp; try with_reducible rfl)
        try simp only [Act.put, List.setIfInBounds_toArray, List.set_cons_zero, List.set_cons_succ]
        refine wpAnyH_done (by kernel_rfl) ?_ _
        refine NoPanic.normal ?_
        generalize ((((((w3.setCell ⟨N, 0, none⟩ (.string A.t)).setCell ⟨N, 1, none⟩ (.string A.n)).setCell ⟨N, 2, none⟩ (.int .i64 A.kd)).setCell ⟨N, 3, none⟩ (.int .i64 A.i)).setCell ⟨N, 4, none⟩ (.string A.k)).setCell ⟨N, 5, none⟩ (.int .u32 (m : Nat))) = u1 at *
        clear x0 x1 x2 x3 x4 x5 f0 f1 f2 f3 f4 f5 lb
        obtain ⟨p0, p1, p2, p3, p4, p5, -⟩ := HL.out.rc
        clear HLd HR9
        dsimp only at p0 p1 p2 p3 p4 p5
        go_wp2_with fail
        refine bodyPost_ret (v := .tuple #[kv ⟨⟨A.t, A.n, A.kd, A.i, A.k⟩, (m : Nat)⟩, .int .i64 (a2 : Nat), .int .i64 0]) (by simp [results, Tryd.results35, go_sem, p0, p1, p2, p3, p4, p5]) rfl ?_
        have HB9 := (HW.out.trans (HE.out.below (Nat.le_of_lt HK.out.lt) (fun k h => by injection h with h; omega))).drew
        rw [HN.out] at HB9
        rw [HS.out]
        exact ⟨rfl, HB9⟩
    · have hq : ((m : Int) != (n : Int)) = true := by rw [bne_iff_ne]; omega
      have HS : Hid (getF A n a2 0 = (zK, 0, 4)) := by unfold Hid getF; rw [if_neg (by simp), if_pos (Or.inl (by rw [HM.out]; exact hn))]
      go_upto_region 7 with fail
      have HE : Hid (Exc (some rb) v2 (v2.setCell ⟨rb, 2, none⟩ (.int .i64 4))) := exc_set
      have HKn := Lib.hid (HK.out.exc HE.out (by omega))
      have HRn := Lib.hid (HR.out.set2 (x := 4))
      have HWn := Lib.hid (HW.out.trans (HE.out.below (Nat.le_of_lt HK.out.lt) (fun k h => by injection h with h; omega)))
      have HRn : Hid (Rda (v2.setCell ⟨rb, 2, none⟩ (.int .i64 4)) rb o cap M a2 4) := HR.out.set2
      clear HE HK HR HW r0 r1 r2 r3 r4 r5 x0 x1 x2 x3 x4 x5 f0 f1 f2 f3 f4 f5 lb
      generalize World.setCell v2 _ _ = v4 at *
      have HK := HKn
      have HR := HRn
      have HW := HWn
      clear HKn HRn HWn
      obtain ⟨x0, x1, x2, x3, x4, x5, f0, f1, f2, f3, f4, f5, lb⟩ := HK.out.rc
      obtain ⟨r0, r1, r2, r3, r4, r5⟩ := HR.out.rc
      dsimp only at x0 x1 x2 x3 x4 x5
      go_upto_region 8 with fail
      have HE : Hid (Exc (some N) v4 ((((((v4.setCell ⟨N, 0, none⟩ (.string ⟨#[]⟩)).setCell ⟨N, 1, none⟩ (.string ⟨#[]⟩)).setCell ⟨N, 2, none⟩ (.int .i64 0)).setCell ⟨N, 3, none⟩ (.int .i64 0)).setCell ⟨N, 4, none⟩ (.string ⟨#[]⟩)).setCell ⟨N, 5, none⟩ (.int .u32 0))) := (((((exc_set.trans exc_set).trans exc_set).trans exc_set).trans exc_set).trans exc_set)
      have HL : Hid (Lk ((((((v4.setCell ⟨N, 0, none⟩ (.string ⟨#[]⟩)).setCell ⟨N, 1, none⟩ (.string ⟨#[]⟩)).setCell ⟨N, 2, none⟩ (.int .i64 0)).setCell ⟨N, 3, none⟩ (.int .i64 0)).setCell ⟨N, 4, none⟩ (.string ⟨#[]⟩)).setCell ⟨N, 5, none⟩ (.int .u32 0)) N ⟨⟨⟨#[]⟩, ⟨#[]⟩, 0, 0, ⟨#[]⟩⟩, 0⟩) := (((((HK.out.s0 ⟨#[]⟩).s1 ⟨#[]⟩).s2 0).s3 0).s4 ⟨#[]⟩).s5 0
      have HR9 : Hid (((((((v4.setCell ⟨N, 0, none⟩ (.string ⟨#[]⟩)).setCell ⟨N, 1, none⟩ (.string ⟨#[]⟩)).setCell ⟨N, 2, none⟩ (.int .i64 0)).setCell ⟨N, 3, none⟩ (.int .i64 0)).setCell ⟨N, 4, none⟩ (.string ⟨#[]⟩)).setCell ⟨N, 5, none⟩ (.int .u32 0)).drew.cell? ⟨rb, 2, none⟩ = some (.int .i64 4)) := (drew_cell _ _).trans ((HE.out.cell (o := 2) HR.out.lt (fun h => by injection h with h; omega)).trans r2)
      have HLd := Lib.hid (HL.out.kept ((Below.refl (N + 1) ((((((v4.setCell ⟨N, 0, none⟩ (.string ⟨#[]⟩)).setCell ⟨N, 1, none⟩ (.string ⟨#[]⟩)).setCell ⟨N, 2, none⟩ (.int .i64 0)).setCell ⟨N, 3, none⟩ (.int .i64 0)).setCell ⟨N, 4, none⟩ (.string ⟨#[]⟩)).setCell ⟨N, 5, none⟩ (.int .u32 0))).drew) (Nat.lt_succ_self N))
      refine wp_region_noPanic ?_
      refine wp_region_held_drew (S := (fun W => W.cell? ⟨rb, 2, none⟩ = some (.int .i64 4))) (by kernel_rfl) ?_ (fun hH => ?_)
      · exact r2
      refine wpAnyH_take (i := 0) (oi := { dst := some 34, op := Op.build 26 #[], type := 26, pos := "form.go:41", after := #[], guard := none }) (v := ?_) rfl (by kernel_rfl) (by kernel_rfl) (by kernel_rfl) (fun _ _ _ h => h) (Or.inl ⟨by rfl, ?_⟩) (by assumption) ?_
      rotate_left
      · (intro w hSw; (try dsimp only at hSw); go_simp; try with_reducible rfl)
      try simp only [Act.put, List.setIfInBounds_toArray, List.set_cons_zero, List.set_cons_succ]
      refine wpAnyH_take (i := 1) (oi := { dst := some 35, op := Op.fieldAddr 78 (Operand.tmp 5) 2, type := 0, pos := "form.go:41", after := #[{ on := 4, ground := Ground.gcOnly Departure.lateStores }], guard := none }) (v := ?_) rfl (by kernel_rfl) (by kernel_rfl) (by kernel_rfl) (fun _ _ _ h => h) (Or.inl ⟨by rfl, ?_⟩) (by assumption) ?_
      rotate_left
      · (intro w hSw; (try dsimp only at hSw); go_simp; try with_reducible rfl)
      try simp only [Act.put, List.setIfInBounds_toArray, List.set_cons_zero, List.set_cons_succ]
      refine wpAnyH_take (i := 2) (oi := { dst := some 36, op := Op.load 29 (Operand.tmp 35), type := 29, pos := "form.go:41", after := #[{ on := 1, ground := Ground.data }, { on := 4, ground := Ground.gcOnly Departure.lateStores }], guard := none }) (v := ?_) rfl (by kernel_rfl) (by kernel_rfl) (by kernel_rfl) (fun _ _ _ h => h) (Or.inl ⟨by rfl, ?_⟩) (by assumption) ?_
      rotate_left
      · (intro w hSw; (try dsimp only at hSw); go_simp; try with_reducible rfl)
      try simp only [Act.put, List.setIfInBounds_toArray, List.set_cons_zero, List.set_cons_succ]
      refine wpAnyH_ready (rs := [3]) (by kernel_rfl) (by simp) ?_
      refine AllReadyH.cons (o := { dst := none, op := Op.store 26 (Operand.tmp 2) (Operand.tmp 34), type := 0, pos := "form.go:41", after := #[{ on := 0, ground := Ground.data }, { on := 0, ground := Ground.phase }, { on := 1, ground := Ground.textOnly Departure.lateStores }, { on := 2, ground := Ground.textOnly Departure.lateStores }], guard := none }) rfl (fun K hK => ?_) AllReadyH.nil
      go_simp
      refine hK.out _ _ ?_ (fun hH' => ?_)
      · exact HR9.out
      clear hK K hH
      have hH := hH'
      clear hH'
      try simp only [Act.put, List.setIfInBounds_toArray, List.set_cons_zero, List.set_cons_succ]
      refine wpAnyH_take (i := 4) (oi := { dst := some 3, op := Op.assign (Operand.const (Value.int IntKind.i64 0)), type := 3, pos := "form.go:41", after := #[{ on := 3, ground := Ground.chain }, { on := 0, ground := Ground.phase }, { on := 1, ground := Ground.textOnly Departure.lateStores }, { on := 2, ground := Ground.textOnly Departure.lateStores }, { on := 3, ground := Ground.phase }], guard := none }) (v := ?_) rfl (by kernel_rfl) (by kernel_rfl) (by kernel_rfl) (fun _ _ _ h => h) (Or.inl ⟨by rfl, ?_⟩) (by assumption) ?_
      rotate_left
      · (intro w hSw; (try dsimp only at hSw); go_simp; try with_reducible rfl)
      try simp only [Act.put, List.setIfInBounds_toArray, List.set_cons_zero, List.set_cons_succ]
      refine wpAnyH_take (i := 5) (oi := { dst := some 4, op := Op.assign (Operand.tmp 36), type := 29, pos := "form.go:41", after := #[{ on := 2, ground := Ground.data }, { on := 4, ground := Ground.chain }, { on := 0, ground := Ground.phase }, { on := 1, ground := Ground.phase }, { on := 2, ground := Ground.phase }, { on := 3, ground := Ground.phase }, { on := 4, ground := Ground.phase }], guard := none }) (v := ?_) rfl (by kernel_rfl) (by kernel_rfl) (by kernel_rfl) (fun _ _ _ h => h) (Or.inl ⟨by rfl, ?_⟩) (by assumption) ?_
      rotate_left
      · (intro w hSw; (try dsimp only at hSw); go_simp; try with_reducible rfl)
      try simp only [Act.put, List.setIfInBounds_toArray, List.set_cons_zero, List.set_cons_succ]
      refine wpAnyH_done (by kernel_rfl) ?_ _
      refine NoPanic.normal ?_
      generalize ((((((v4.setCell ⟨N, 0, none⟩ (.string ⟨#[]⟩)).setCell ⟨N, 1, none⟩ (.string ⟨#[]⟩)).setCell ⟨N, 2, none⟩ (.int .i64 0)).setCell ⟨N, 3, none⟩ (.int .i64 0)).setCell ⟨N, 4, none⟩ (.string ⟨#[]⟩)).setCell ⟨N, 5, none⟩ (.int .u32 0)) = u1 at *
      clear x0 x1 x2 x3 x4 x5 f0 f1 f2 f3 f4 f5 lb
      obtain ⟨p0, p1, p2, p3, p4, p5, -⟩ := HL.out.rc
      clear HLd HR9
      dsimp only at p0 p1 p2 p3 p4 p5
      go_wp2_with fail
      refine bodyPost_ret (v := .tuple #[kv ⟨⟨⟨#[]⟩, ⟨#[]⟩, 0, 0, ⟨#[]⟩⟩, 0⟩, .int .i64 0, .int .i64 4]) (by simp [results, Tryd.results35, go_sem, p0, p1, p2, p3, p4, p5]) rfl ?_
      have HB9 := (HW.out.trans (HE.out.below (Nat.le_of_lt HK.out.lt) (fun k h => by injection h with h; omega))).drew
      rw [HN.out] at HB9
      rw [HS.out]
      exact ⟨rfl, HB9⟩
  · have hs : getF A n a2 e2 = (zK, 0, e2) := by unfold getF; rw [if_pos he]
    have HS := Lib.hid hs
    have q1 : ((e2 : Int) == 0) = false := by rw [beq_eq_false_iff_ne]; omega
    have q2 : ((e2 : Int) != 0) = true := by rw [bne_iff_ne]; omega
    clear hs he
    go_upto_region 8 with fail
    have HE : Hid (Exc (some N) v2 ((((((v2.setCell ⟨N, 0, none⟩ (.string ⟨#[]⟩)).setCell ⟨N, 1, none⟩ (.string ⟨#[]⟩)).setCell ⟨N, 2, none⟩ (.int .i64 0)).setCell ⟨N, 3, none⟩ (.int .i64 0)).setCell ⟨N, 4, none⟩ (.string ⟨#[]⟩)).setCell ⟨N, 5, none⟩ (.int .u32 0))) := (((((exc_set.trans exc_set).trans exc_set).trans exc_set).trans exc_set).trans exc_set)
    have HL : Hid (Lk ((((((v2.setCell ⟨N, 0, none⟩ (.string ⟨#[]⟩)).setCell ⟨N, 1, none⟩ (.string ⟨#[]⟩)).setCell ⟨N, 2, none⟩ (.int .i64 0)).setCell ⟨N, 3, none⟩ (.int .i64 0)).setCell ⟨N, 4, none⟩ (.string ⟨#[]⟩)).setCell ⟨N, 5, none⟩ (.int .u32 0)) N ⟨⟨⟨#[]⟩, ⟨#[]⟩, 0, 0, ⟨#[]⟩⟩, 0⟩) := (((((HK.out.s0 ⟨#[]⟩).s1 ⟨#[]⟩).s2 0).s3 0).s4 ⟨#[]⟩).s5 0
    have HR9 : Hid (((((((v2.setCell ⟨N, 0, none⟩ (.string ⟨#[]⟩)).setCell ⟨N, 1, none⟩ (.string ⟨#[]⟩)).setCell ⟨N, 2, none⟩ (.int .i64 0)).setCell ⟨N, 3, none⟩ (.int .i64 0)).setCell ⟨N, 4, none⟩ (.string ⟨#[]⟩)).setCell ⟨N, 5, none⟩ (.int .u32 0)).drew.cell? ⟨rb, 2, none⟩ = some (.int .i64 (e2 : Nat))) := (drew_cell _ _).trans ((HE.out.cell (o := 2) HR.out.lt (fun h => by injection h with h; omega)).trans r2)
    have HLd := Lib.hid (HL.out.kept ((Below.refl (N + 1) ((((((v2.setCell ⟨N, 0, none⟩ (.string ⟨#[]⟩)).setCell ⟨N, 1, none⟩ (.string ⟨#[]⟩)).setCell ⟨N, 2, none⟩ (.int .i64 0)).setCell ⟨N, 3, none⟩ (.int .i64 0)).setCell ⟨N, 4, none⟩ (.string ⟨#[]⟩)).setCell ⟨N, 5, none⟩ (.int .u32 0))).drew) (Nat.lt_succ_self N))
    refine wp_region_noPanic ?_
    refine wp_region_held_drew (S := (fun W => W.cell? ⟨rb, 2, none⟩ = some (.int .i64 (e2 : Nat)))) (by kernel_rfl) ?_ (fun hH => ?_)
    · exact r2
    refine wpAnyH_take (i := 0) (oi := { dst := some 34, op := Op.build 26 #[], type := 26, pos := "form.go:41", after := #[], guard := none }) (v := ?_) rfl (by kernel_rfl) (by kernel_rfl) (by kernel_rfl) (fun _ _ _ h => h) (Or.inl ⟨by rfl, ?_⟩) (by assumption) ?_
    rotate_left
    · (intro w hSw; (try dsimp only at hSw); go_simp; try with_reducible rfl)
    try simp only [Act.put, List.setIfInBounds_toArray, List.set_cons_zero, List.set_cons_succ]
    refine wpAnyH_take (i := 1) (oi := { dst := some 35, op := Op.fieldAddr 78 (Operand.tmp 5) 2, type := 0, pos := "form.go:41", after := #[{ on := 4, ground := Ground.gcOnly Departure.lateStores }], guard := none }) (v := ?_) rfl (by kernel_rfl) (by kernel_rfl) (by kernel_rfl) (fun _ _ _ h => h) (Or.inl ⟨by rfl, ?_⟩) (by assumption) ?_
    rotate_left
    · (intro w hSw; (try dsimp only at hSw); go_simp; try with_reducible rfl)
    try simp only [Act.put, List.setIfInBounds_toArray, List.set_cons_zero, List.set_cons_succ]
    refine wpAnyH_take (i := 2) (oi := { dst := some 36, op := Op.load 29 (Operand.tmp 35), type := 29, pos := "form.go:41", after := #[{ on := 1, ground := Ground.data }, { on := 4, ground := Ground.gcOnly Departure.lateStores }], guard := none }) (v := ?_) rfl (by kernel_rfl) (by kernel_rfl) (by kernel_rfl) (fun _ _ _ h => h) (Or.inl ⟨by rfl, ?_⟩) (by assumption) ?_
    rotate_left
    · (intro w hSw; (try dsimp only at hSw); go_simp; try with_reducible rfl)
    try simp only [Act.put, List.setIfInBounds_toArray, List.set_cons_zero, List.set_cons_succ]
    refine wpAnyH_ready (rs := [3]) (by kernel_rfl) (by simp) ?_
    refine AllReadyH.cons (o := { dst := none, op := Op.store 26 (Operand.tmp 2) (Operand.tmp 34), type := 0, pos := "form.go:41", after := #[{ on := 0, ground := Ground.data }, { on := 0, ground := Ground.phase }, { on := 1, ground := Ground.textOnly Departure.lateStores }, { on := 2, ground := Ground.textOnly Departure.lateStores }], guard := none }) rfl (fun K hK => ?_) AllReadyH.nil
    go_simp
    refine hK.out _ _ ?_ (fun hH' => ?_)
    · exact HR9.out
    clear hK K hH
    have hH := hH'
    clear hH'
    try simp only [Act.put, List.setIfInBounds_toArray, List.set_cons_zero, List.set_cons_succ]
    refine wpAnyH_take (i := 4) (oi := { dst := some 3, op := Op.assign (Operand.const (Value.int IntKind.i64 0)), type := 3, pos := "form.go:41", after := #[{ on := 3, ground := Ground.chain }, { on := 0, ground := Ground.phase }, { on := 1, ground := Ground.textOnly Departure.lateStores }, { on := 2, ground := Ground.textOnly Departure.lateStores }, { on := 3, ground := Ground.phase }], guard := none }) (v := ?_) rfl (by kernel_rfl) (by kernel_rfl) (by kernel_rfl) (fun _ _ _ h => h) (Or.inl ⟨by rfl, ?_⟩) (by assumption) ?_
    rotate_left
    · (intro w hSw; (try dsimp only at hSw); go_simp; try with_reducible rfl)
    try simp only [Act.put, List.setIfInBounds_toArray, List.set_cons_zero, List.set_cons_succ]
    refine wpAnyH_take (i := 5) (oi := { dst := some 4, op := Op.assign (Operand.tmp 36), type := 29, pos := "form.go:41", after := #[{ on := 2, ground := Ground.data }, { on := 4, ground := Ground.chain }, { on := 0, ground := Ground.phase }, { on := 1, ground := Ground.phase }, { on := 2, ground := Ground.phase }, { on := 3, ground := Ground.phase }, { on := 4, ground := Ground.phase }], guard := none }) (v := ?_) rfl (by kernel_rfl) (by kernel_rfl) (by kernel_rfl) (fun _ _ _ h => h) (Or.inl ⟨by rfl, ?_⟩) (by assumption) ?_
    rotate_left
    · (intro w hSw; (try dsimp only at hSw); go_simp; try with_reducible rfl)
    try simp only [Act.put, List.setIfInBounds_toArray, List.set_cons_zero, List.set_cons_succ]
    refine wpAnyH_done (by kernel_rfl) ?_ _
    refine NoPanic.normal ?_
    generalize ((((((v2.setCell ⟨N, 0, none⟩ (.string ⟨#[]⟩)).setCell ⟨N, 1, none⟩ (.string ⟨#[]⟩)).setCell ⟨N, 2, none⟩ (.int .i64 0)).setCell ⟨N, 3, none⟩ (.int .i64 0)).setCell ⟨N, 4, none⟩ (.string ⟨#[]⟩)).setCell ⟨N, 5, none⟩ (.int .u32 0)) = u1 at *
    clear x0 x1 x2 x3 x4 x5 f0 f1 f2 f3 f4 f5 lb
    obtain ⟨p0, p1, p2, p3, p4, p5, -⟩ := HL.out.rc
    clear HLd HR9
    dsimp only at p0 p1 p2 p3 p4 p5
    go_wp2_with fail
    refine bodyPost_ret (v := .tuple #[kv ⟨⟨⟨#[]⟩, ⟨#[]⟩, 0, 0, ⟨#[]⟩⟩, 0⟩, .int .i64 0, .int .i64 (e2 : Nat)]) (by simp [results, Tryd.results35, go_sem, p0, p1, p2, p3, p4, p5]) rfl ?_
    have HB9 := (HW.out.trans (HE.out.below (Nat.le_of_lt HK.out.lt) (fun k h => by injection h with h; omega))).drew
    rw [HN.out] at HB9
    rw [HS.out]
    exact ⟨rfl, HB9⟩
end Go.Proofs.YtakoghdkllfhlaaDoor

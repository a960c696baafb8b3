/- The reader: unknown. -/
import Derived.Test.YtpmdkekjoocplaaGd
namespace Go.Proofs.Ytpmdkekjoocplaa
open Go.RowKit Typ

theorem Rd.alloc_r {w w1 : World} {rb : Nat} {o : Option Addr} {cap : Nat} {M : List Nat} {at' wt : Nat} (h : Rd w rb o cap M at' wt w1) : rb < w1.heap.size := h.r.lt
/-- what comes behind a reader's call: new blocks alone -/
theorem Rd.more {w w1 w2 : World} {rb : Nat} {o : Option Addr} {cap : Nat} {M : List Nat} {at' wt : Nat} (h : Rd w rb o cap M at' wt w1) (b : Below w1.heap.size w1 w2) : Rd w rb o cap M at' wt w2 :=
  ⟨h.r.kept b h.r.lt, h.x.trans (Exc.of_below b)⟩
/-- what comes ahead of it -/
theorem Rd.ahead {w w0 w1 : World} {rb : Nat} {o : Option Addr} {cap : Nat} {M : List Nat} {at' wt : Nat} (b : Below w.heap.size w w0) (h : Rd w0 rb o cap M at' wt w1) : Rd w rb o cap M at' wt w1 :=
  ⟨h.r, (Exc.of_below b).trans h.x⟩
/-- what comes behind it: blocks that the caller's world hadn't -/
theorem Rd.also {w w1 w2 : World} {rb : Nat} {o : Option Addr} {cap : Nat} {M : List Nat} {at' wt : Nat} (h : Rd w rb o cap M at' wt w1) (hrb : rb < w.heap.size) (b : Below w.heap.size w1 w2) : Rd w rb o cap M at' wt w2 :=
  ⟨h.r.kept b hrb, ⟨b.os.trans h.x.os, b.tape.trans h.x.tape, b.output.trans h.x.output, Nat.le_trans h.x.size b.size, fun k hk hc => (b.block k hk).trans (h.x.block k hk hc)⟩⟩
theorem Rd.own2 {w w1 : World} {rb : Nat} {o : Option Addr} {cap : Nat} {M : List Nat} {at' wt : Nat} (h : Rd w rb o cap M at' wt w1) (hrb : rb < w.heap.size) {k : Nat} (hk : w.heap.size ≤ k) (i j : Nat) (u v : Value) : Rd w rb o cap M at' wt ((w1.setCell ⟨k, i, none⟩ u).setCell ⟨k, j, none⟩ v) :=
  h.also hrb (Below.setCell (p := ⟨k, j, none⟩) (Below.setCell (p := ⟨k, i, none⟩) (Below.refl _ _) hk _) hk _)
/-- an octet that is a type's code -/
def unkV (r : List Nat) : Ending := match r with
  | [] => .returned (.tuple #[ty 0 0, .int .i64 2])
  | c :: _ => if okB ((c / 8 : Nat) : Int) ((c % 8 : Nat) : Int) then .returned (.tuple #[ty ((c / 8 : Nat) : Int) ((c % 8 : Nat) : Int), .int .i64 0]) else .returned (.tuple #[ty 0 0, .int .i64 4])
set_option maxHeartbeats 1000000 in
theorem unknown_any {rb : Nat} {o : Option Addr} {cap : Nat} {M : List Nat} {at' wt : Nat} {w : World} (R : Rdr w rb o cap M at' wt) :
    Calls Try.prog 28 #[.pointer (some ⟨rb, 0, none⟩)] w fun e w' => e = unkV (M.drop at') ∧ Rd w rb o cap M (min M.length (at' + 1)) wt w' := by
  have hM : ∀ c, c ∈ M.drop at' → c < 256 := fun c hc => R.B.b c (List.mem_of_mem_drop hc)
  have S : ∀ w0, Below w.heap.size w w0 → Calls Try.prog 23 #[.pointer (some ⟨rb, 0, none⟩)] w0 fun e w' => e = octV (M.drop at') ∧ Rd w0 rb o cap M (min M.length (at' + 1)) wt w' := fun w0 b => octet_any (R.kept b R.lt)
  have hlt := R.lt
  have HB0 := Lib.hid ((Below.refl w.heap.size w).alloc (Nat.le_refl _) (.cells #[.int .i64 0, .int .i64 0] 28))
  have C0 : Hid ((w.alloc (.cells #[.int .i64 0, .int .i64 0] 28)).heap[w.heap.size]? = some (.cells #[.int .i64 0, .int .i64 0] 28 (0, 0))) := heap_alloc_new _ _
  have HZ : Hid ((w.alloc (.cells #[.int .i64 0, .int .i64 0] 28)).heap.size = w.heap.size + 1) := by simp [Hid]
  cases hd : M.drop at' with
  | nil =>
    rw [hd] at S
    have HS := Lib.hid S
    clear S R hd hM
    go_enter Try.func28, Try.ntmps28
    go_wp2_with fail
    generalize w.alloc _ = w0 at *
    refine (HS.out w0 HB0.out).mono ?_
    rintro e w1 ⟨rfl, hR⟩
    have HR := Lib.hid (Rd.ahead HB0.out hR)
    have C1 : Hid (w1.heap[w.heap.size]? = some (.cells #[.int .i64 0, .int .i64 0] 28 (0, 0))) := (hR.x.block _ (by have := HZ.out; omega) (by intro e; injection e with e; omega)).trans C0.out
    clear hR
    have y0 := cell_of_row w1 _ 0 _ _ _ C1.out
    have y1 := cell_of_row w1 _ 1 _ _ _ C1.out
    have z0 := frozen_of_row w1 _ 0 _ _ C1.out
    have z1 := frozen_of_row w1 _ 1 _ _ C1.out
    have sz := (Array.getElem?_eq_some_iff.1 C1.out).1
    unfold octV
    go_wp2_with fail
    exact bodyPost_ret (v := .tuple #[ty 0 0, .int .i64 2]) (by simp [results, Try.results28, go_sem, y0, y1]) rfl ⟨rfl, HR.out.own2 hlt (Nat.le_refl _) 0 1 _ _⟩
  | cons c r =>
    have hc := hM c (by rw [hd]; simp)
    rw [hd] at S
    have HS := Lib.hid S
    clear S R hd hM
    by_cases hk : okB ((c / 8 : Nat) : Int) ((c % 8 : Nat) : Int) = true
    · have U : Hid (unkV (c :: r) = .returned (.tuple #[ty ((c / 8 : Nat) : Int) ((c % 8 : Nat) : Int), .int .i64 0])) := by
        show (if okB ((c / 8 : Nat) : Int) ((c % 8 : Nat) : Int) then _ else _) = _; rw [if_pos hk]
      have O : Hid (∀ w : World, Calls Try.prog 46 #[.int .u8 c] w fun e w' => e = .returned (.tuple #[ty ((c / 8 : Nat) : Int) ((c % 8 : Nat) : Int), .int .i64 0]) ∧ Below w.heap.size w w') := fun w => of_ok c w (by omega) (by omega) hk
      clear hk
      go_enter Try.func28, Try.ntmps28
      go_wp2_with fail
      generalize w.alloc _ = w0 at *
      refine (HS.out w0 HB0.out).mono ?_
      rintro e w1 ⟨rfl, hR⟩
      have HR := Lib.hid (Rd.ahead HB0.out hR)
      have C1 : Hid (w1.heap[w.heap.size]? = some (.cells #[.int .i64 0, .int .i64 0] 28 (0, 0))) := (hR.x.block _ (by have := HZ.out; omega) (by intro e; injection e with e; omega)).trans C0.out
      clear hR
      unfold octV
      go_wp2_with fail
      refine (O.out _).mono ?_
      rintro e w2 ⟨rfl, b2⟩
      have hz1 := HR.out.x.size
      have sz1 := (Array.getElem?_eq_some_iff.1 C1.out).1
      have HR2 := Lib.hid (HR.out.more b2)
      have C2 : Hid (w2.heap[w.heap.size]? = some (.cells #[.int .i64 0, .int .i64 0] 28 (0, 0))) := (b2.block _ sz1).trans C1.out
      clear b2
      have y0 := cell_of_row w2 _ 0 _ _ _ C2.out
      have y1 := cell_of_row w2 _ 1 _ _ _ C2.out
      have z0 := frozen_of_row w2 _ 0 _ _ C2.out
      have z1 := frozen_of_row w2 _ 1 _ _ C2.out
      have sz := (Array.getElem?_eq_some_iff.1 C2.out).1
      go_wp2_with fail
      exact bodyPost_ret (v := .tuple #[ty ((c / 8 : Nat) : Int) ((c % 8 : Nat) : Int), .int .i64 0]) (by simp [results, Try.results28, go_sem, y0, y1]) rfl ⟨U.out.symm, HR2.out.own2 hlt (Nat.le_refl _) 0 1 _ _⟩
    · have hk' : okB ((c / 8 : Nat) : Int) ((c % 8 : Nat) : Int) = false := by simpa using hk
      have U : Hid (unkV (c :: r) = .returned (.tuple #[ty 0 0, .int .i64 4])) := by
        show (if okB ((c / 8 : Nat) : Int) ((c % 8 : Nat) : Int) then _ else _) = _; rw [if_neg hk]
      have O : Hid (∀ w : World, Calls Try.prog 46 #[.int .u8 c] w fun e w' => e = .returned (.tuple #[ty 0 0, .int .i64 4]) ∧ Below w.heap.size w w') := fun w => of_no c w (by omega) (by omega) hk'
      clear hk hk'
      go_enter Try.func28, Try.ntmps28
      go_wp2_with fail
      generalize w.alloc _ = w0 at *
      refine (HS.out w0 HB0.out).mono ?_
      rintro e w1 ⟨rfl, hR⟩
      have HR := Lib.hid (Rd.ahead HB0.out hR)
      have C1 : Hid (w1.heap[w.heap.size]? = some (.cells #[.int .i64 0, .int .i64 0] 28 (0, 0))) := (hR.x.block _ (by have := HZ.out; omega) (by intro e; injection e with e; omega)).trans C0.out
      clear hR
      unfold octV
      go_wp2_with fail
      refine (O.out _).mono ?_
      rintro e w2 ⟨rfl, b2⟩
      have hz1 := HR.out.x.size
      have sz1 := (Array.getElem?_eq_some_iff.1 C1.out).1
      have HR2 := Lib.hid (HR.out.more b2)
      have C2 : Hid (w2.heap[w.heap.size]? = some (.cells #[.int .i64 0, .int .i64 0] 28 (0, 0))) := (b2.block _ sz1).trans C1.out
      clear b2
      have y0 := cell_of_row w2 _ 0 _ _ _ C2.out
      have y1 := cell_of_row w2 _ 1 _ _ _ C2.out
      have z0 := frozen_of_row w2 _ 0 _ _ C2.out
      have z1 := frozen_of_row w2 _ 1 _ _ C2.out
      have sz := (Array.getElem?_eq_some_iff.1 C2.out).1
      go_wp2_with fail
      exact bodyPost_ret (v := .tuple #[ty 0 0, .int .i64 4]) (by simp [results, Try.results28, go_sem, y0, y1]) rfl ⟨U.out.symm, HR2.out.own2 hlt (Nat.le_refl _) 0 1 _ _⟩
end Go.Proofs.Ytpmdkekjoocplaa

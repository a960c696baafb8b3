import Derived.Test.YtncjncacfagldaaGreatDoorYWA
namespace Go.Proofs.YtncjncacfagldaaGreatDoor
open Go.RowKit
attribute [local go_sem] field66_0 field66_1 field66_3 field66_4

theorem toList_tx (l : List UInt8) : (tx l).toList = l := by rw [ByteArray.toList_eq]; rfl
theorem tx_eq {a b : List UInt8} (h : a = b) : ((tx a).toList == (tx b).toList) = true := by simp [h]
theorem tx_ne {a b : List UInt8} (h : a ≠ b) : ((tx a).toList == (tx b).toList) = false := by rw [toList_tx, toList_tx]; exact beq_eq_false_iff_ne.2 h
theorem nat_eq {a b : Nat} (h : a = b) : ((a : Int) == (b : Int)) = true := by simp [h]
theorem nat_ne {a b : Nat} (h : a ≠ b) : ((a : Int) == (b : Int)) = false := by rw [beq_eq_false_iff_ne]; omega
def Cz.stray (Z : Cz) (s : St) : St := Z.fail s 4 (Z.pl s)
theorem stray_eq (Z : Cz) (inn : List UInt8 → Ps → Ex × Nat × Ps) (s : St) : (Z.cx inn).stray s = Z.stray s := by unfold Cx.stray Cz.stray; rw [fail_eq, pl_eq]
def Cz.is (Z : Cz) (s : St) (k : Nat) (x : List UInt8) : Bool := decide ((Z.tz s.p).1.k = k) && decide ((Z.tz s.p).1.s = x)
theorem is_eq (Z : Cz) (inn : List UInt8 → Ps → Ex × Nat × Ps) (s : St) (k : Nat) (x : List UInt8) : (Z.cx inn).is s k x = Z.is s k x := by unfold Cx.is Cz.is; rw [Cz.tk_eq]
def Cz.takes (Z : Cz) (s : St) (k : Nat) (x : List UInt8) : St := if Z.is s k x then s.pass else s
def Cz.wants (Z : Cz) (s : St) (k : Nat) (x : List UInt8) : St := if Z.is s k x then s.pass else Z.stray s
theorem wants_eq (Z : Cz) (inn : List UInt8 → Ps → Ex × Nat × Ps) (s : St) (k : Nat) (x : List UInt8) : (Z.cx inn).wants s k x = Z.wants s k x := by unfold Cx.wants Cz.wants; rw [is_eq, stray_eq]
set_option maxRecDepth 100000 in
set_option maxHeartbeats 1000000 in
theorem stray_any {w : World} {R : Nat} {Z : Cz} {s : St} (h : Rd w R Z s) : Calls Tryz.prog 77 #[.pointer (some ⟨R, 0, none⟩)] w fun x w' => x = .returned (.tuple #[]) ∧ Rd w' R Z (Z.stray s) ∧ Fm R w w' := by
 have H := qh h
 clear h
 go_enter Tryz.func77, Tryz.ntmps77
 go_wp2_with fail
 refine (place_any H.out).mono ?_
 rintro e w1 ⟨rfl, c1⟩
 have H1 := qh (And.intro (H.out.below c1) (Fm.of (R := R) c1))
 clear c1
 go_wp2_with fail
 refine (fail_any H1.out.1 4 (Z.pl s)).mono ?_
 rintro e w2 ⟨rfl, h2, f2⟩
 have H2 := qh (And.intro h2 (H1.out.2.tr f2))
 clear h2 f2
 go_wp2_with fail
 go_end0
 exact ⟨rfl, H2.out.1, H2.out.2⟩
set_option maxRecDepth 100000 in
set_option maxHeartbeats 1000000 in
theorem is_any {w : World} {R : Nat} {Z : Cz} {s : St} (h : Rd w R Z s) (k : Nat) (x : List UInt8) : Calls Tryz.prog 118 #[.pointer (some ⟨R, 0, none⟩), .int .i64 k, .string (tx x)] w fun e w' => e = .returned (.bool (Z.is s k x)) ∧ Below w.heap.size w w' := by
 have H := qh h
 have hn := h.sz.n
 have hle := h.le
 obtain ⟨⟨r0, r1, r2, r3, r4, r5, r6, r7, r8, r9, r10⟩, -, hR⟩ := rc11 h.blk
 clear r0 r2 r3 r4 r5 r6 r7 r8 r9 r10 h
 have HI : Hid (Z.is s k x = (decide ((Z.tz s.p).1.k = k) && decide ((Z.tz s.p).1.s = x))) := rfl
 have HT := qh (tok_any H.out s.p (by omega))
 generalize Z.tz s.p = X at HI HT
 by_cases h1 : X.1.k = k
 · have e1 := nat_eq h1
   by_cases h2 : X.1.s = x
   · have e2 := tx_eq h2
     have HF : Hid (Z.is s k x = true) := by unfold Hid; rw [HI.out]; simp [h1, h2]
     clear h1 h2 HI
     go_enter Tryz.func118, Tryz.ntmps118
     go_wp2_with fail
     refine HT.out.mono ?_
     rintro e w1 ⟨rfl, c1⟩
     have C1 := qh c1
     clear c1
     go_wp2_with fail
     go_ret
     exact ⟨by rw [HF.out] <;> rfl, C1.out.alloc C1.out.size _⟩
   · have e2 := tx_ne h2
     have HF : Hid (Z.is s k x = false) := by unfold Hid; rw [HI.out]; simp [h2]
     clear h1 h2 HI
     go_enter Tryz.func118, Tryz.ntmps118
     go_wp2_with fail
     refine HT.out.mono ?_
     rintro e w1 ⟨rfl, c1⟩
     have C1 := qh c1
     clear c1
     go_wp2_with fail
     go_ret
     exact ⟨by rw [HF.out] <;> rfl, C1.out.alloc C1.out.size _⟩
 · have e1 := nat_ne h1
   have HF : Hid (Z.is s k x = false) := by unfold Hid; rw [HI.out]; simp [h1]
   clear h1 HI
   go_enter Tryz.func118, Tryz.ntmps118
   go_wp2_with fail
   refine HT.out.mono ?_
   rintro e w1 ⟨rfl, c1⟩
   have C1 := qh c1
   clear c1
   go_wp2_with fail
   go_ret
   exact ⟨by rw [HF.out] <;> rfl, C1.out.alloc C1.out.size _⟩
theorem is_lt {Z : Cz} {s : St} {k : Nat} {x : List UInt8} (h : Z.is s k x = true) (hk : k ≠ 0) : s.p < Z.acc.length := by
 refine Nat.lt_of_not_le fun hl => ?_
 have hz : Z.tz s.p = (tk0, none, 0) := by unfold Cz.tz; rw [List.getElem?_eq_none hl]; rfl
 unfold Cz.is at h
 rw [hz] at h
 simp [tk0] at h
 exact hk (of_decide_eq_true h.1).symm
abbrev TkP (w : World) (R : Nat) (Z : Cz) (b : Bool) (s : St) (e : Ending) (w' : World) : Prop := e = .returned (.bool b) ∧ Rd w' R Z s ∧ Fm R w w'
set_option maxRecDepth 100000 in
set_option maxHeartbeats 1000000 in
theorem takes_any {w : World} {R : Nat} {Z : Cz} {s : St} (h : Rd w R Z s) (k : Nat) (x : List UInt8) (hk : k ≠ 0) : Calls Tryz.prog 174 #[.pointer (some ⟨R, 0, none⟩), .int .i64 k, .string (tx x)] w (TkP w R Z (Z.is s k x) (Z.takes s k x)) := by
 have H := qh h
 have HI := qh (is_any h k x)
 have HK := qh hk
 have HT : Hid (Z.takes s k x = if Z.is s k x then s.pass else s) := rfl
 have HL : Hid (Z.is s k x = true → s.p < Z.acc.length) := fun e => is_lt e hk
 clear h hk
 generalize Z.is s k x = b at *
 generalize Z.takes s k x = s' at *
 go_enter Tryz.func174, Tryz.ntmps174
 go_wp2_with fail
 refine HI.out.mono ?_
 rintro e w1 ⟨rfl, c1⟩
 have H1 := qh (And.intro (H.out.below c1) (Fm.of (R := R) c1))
 clear c1 HI
 cases b with
 | false =>
   obtain rfl : s' = s := HT.out
   go_wp2_with fail
   go_ret
   exact ⟨rfl, H1.out.1, H1.out.2⟩
 | true =>
   obtain rfl : s' = s.pass := HT.out
   go_wp2_with fail
   refine (pass_any H1.out.1 (HL.out trivial)).mono ?_
   rintro e w2 ⟨rfl, h2, f2⟩
   have H2 := qh (And.intro h2 (H1.out.2.tr f2))
   clear h2 f2
   go_wp2_with fail
   go_ret
   exact ⟨rfl, H2.out.1, H2.out.2⟩
set_option maxRecDepth 100000 in
set_option maxHeartbeats 1000000 in
theorem takesSign_any {w : World} {R : Nat} {Z : Cz} {s : St} (h : Rd w R Z s) (x : List UInt8) : Calls Tryz.prog 154 #[.pointer (some ⟨R, 0, none⟩), .string (tx x)] w (TkP w R Z (Z.is s 4 x) (Z.takes s 4 x)) := by
 have HI := qh (takes_any h 4 x (by decide))
 clear h
 go_enter Tryz.func154, Tryz.ntmps154
 go_wp2_with fail
 refine HI.out.mono ?_
 rintro e w1 ⟨rfl, h1⟩
 have H1 := qh h1
 clear h1
 go_wp2_with fail
 go_ret
 exact ⟨rfl, H1.out⟩
set_option maxRecDepth 100000 in
set_option maxHeartbeats 1000000 in
theorem takesWord_any {w : World} {R : Nat} {Z : Cz} {s : St} (h : Rd w R Z s) (x : List UInt8) : Calls Tryz.prog 147 #[.pointer (some ⟨R, 0, none⟩), .string (tx x)] w (TkP w R Z (Z.is s 1 x) (Z.takes s 1 x)) := by
 have HI := qh (takes_any h 1 x (by decide))
 clear h
 go_enter Tryz.func147, Tryz.ntmps147
 go_wp2_with fail
 refine HI.out.mono ?_
 rintro e w1 ⟨rfl, h1⟩
 have H1 := qh h1
 clear h1
 go_wp2_with fail
 go_ret
 exact ⟨rfl, H1.out⟩
abbrev GoP (w : World) (R : Nat) (Z : Cz) (s : St) (e : Ending) (w' : World) : Prop := e = .returned (.tuple #[]) ∧ Rd w' R Z s ∧ Fm R w w'
set_option maxRecDepth 100000 in
set_option maxHeartbeats 1000000 in
theorem wantsSign_any {w : World} {R : Nat} {Z : Cz} {s : St} (h : Rd w R Z s) (x : List UInt8) : Calls Tryz.prog 120 #[.pointer (some ⟨R, 0, none⟩), .string (tx x)] w (GoP w R Z (Z.wants s 4 x)) := by
 have HI := qh (takesSign_any h x)
 have HT : Hid (Z.takes s 4 x = if Z.is s 4 x then s.pass else s) := rfl
 have HW : Hid (Z.wants s 4 x = if Z.is s 4 x then s.pass else Z.stray s) := rfl
 clear h
 generalize Z.is s 4 x = b at *
 generalize Z.takes s 4 x = s' at *
 generalize Z.wants s 4 x = s2 at *
 go_enter Tryz.func120, Tryz.ntmps120
 go_wp2_with fail
 refine HI.out.mono ?_
 rintro e w1 ⟨rfl, h1⟩
 have H1 := qh h1
 clear h1 HI
 cases b with
 | false =>
   obtain rfl : s' = s := HT.out
   obtain rfl : s2 = Z.stray s' := HW.out
   go_wp2_with fail
   refine (stray_any H1.out.1).mono ?_
   rintro e w2 ⟨rfl, h2, f2⟩
   have H2 := qh (And.intro h2 (H1.out.2.tr f2))
   clear h2 f2
   go_wp2_with fail
   go_end0
   exact ⟨rfl, H2.out⟩
 | true =>
   obtain rfl : s' = s.pass := HT.out
   obtain rfl : s2 = s.pass := HW.out
   go_wp2_with fail
   go_end0
   exact ⟨rfl, H1.out⟩
set_option maxRecDepth 100000 in
set_option maxHeartbeats 1000000 in
theorem wantsWord_any {w : World} {R : Nat} {Z : Cz} {s : St} (h : Rd w R Z s) (x : List UInt8) : Calls Tryz.prog 176 #[.pointer (some ⟨R, 0, none⟩), .string (tx x)] w (GoP w R Z (Z.wants s 1 x)) := by
 have HI := qh (takesWord_any h x)
 have HT : Hid (Z.takes s 1 x = if Z.is s 1 x then s.pass else s) := rfl
 have HW : Hid (Z.wants s 1 x = if Z.is s 1 x then s.pass else Z.stray s) := rfl
 clear h
 generalize Z.is s 1 x = b at *
 generalize Z.takes s 1 x = s' at *
 generalize Z.wants s 1 x = s2 at *
 go_enter Tryz.func176, Tryz.ntmps176
 go_wp2_with fail
 refine HI.out.mono ?_
 rintro e w1 ⟨rfl, h1⟩
 have H1 := qh h1
 clear h1 HI
 cases b with
 | false =>
   obtain rfl : s' = s := HT.out
   obtain rfl : s2 = Z.stray s' := HW.out
   go_wp2_with fail
   refine (stray_any H1.out.1).mono ?_
   rintro e w2 ⟨rfl, h2, f2⟩
   have H2 := qh (And.intro h2 (H1.out.2.tr f2))
   clear h2 f2
   go_wp2_with fail
   go_end0
   exact ⟨rfl, H2.out⟩
 | true =>
   obtain rfl : s' = s.pass := HT.out
   obtain rfl : s2 = s.pass := HW.out
   go_wp2_with fail
   go_end0
   exact ⟨rfl, H1.out⟩
open Go.RowKit
attribute [local go_sem] field66_0 field66_1 field66_3 field66_4

def Cz.anyName (Z : Cz) (s : St) : List UInt8 × St := if (Z.tz s.p).1.k = 1 then ((Z.tz s.p).1.s, s.pass) else ([], Z.stray s)
theorem anyName_eq (Z : Cz) (inn : List UInt8 → Ps → Ex × Nat × Ps) (s : St) : (Z.cx inn).anyName s = Z.anyName s := by unfold Cx.anyName Cz.anyName; rw [Cz.tk_eq, stray_eq]
def Cz.freeName (Z : Cz) (s : St) : List UInt8 × St := Z.anyName (if reserved (Z.tz s.p).1.s then Z.stray s else s)
theorem freeName_eq (Z : Cz) (inn : List UInt8 → Ps → Ex × Nat × Ps) (s : St) : (Z.cx inn).freeName s = Z.freeName s := by unfold Cx.freeName Cz.freeName; rw [anyName_eq, Cz.tk_eq, stray_eq]
theorem kind_lt {Z : Cz} {s : St} (h : (Z.tz s.p).1.k ≠ 0) : s.p < Z.acc.length := by
 refine Nat.lt_of_not_le fun hl => h ?_
 unfold Cz.tz; rw [List.getElem?_eq_none hl]; rfl
abbrev SnP (w : World) (R : Nat) (Z : Cz) (n : List UInt8 × St) (e : Ending) (w' : World) : Prop := e = .returned (.string (tx n.1)) ∧ Rd w' R Z n.2 ∧ Fm R w w'
set_option maxRecDepth 100000 in
set_option maxHeartbeats 1000000 in
theorem anyName_any {w : World} {R : Nat} {Z : Cz} {s : St} (h : Rd w R Z s) : Calls Tryz.prog 186 #[.pointer (some ⟨R, 0, none⟩)] w (SnP w R Z (Z.anyName s)) := by
 have H := qh h
 have hn := h.sz.n
 have hle := h.le
 obtain ⟨⟨r0, r1, r2, r3, r4, r5, r6, r7, r8, r9, r10⟩, -, hR⟩ := rc11 h.blk
 clear r0 r2 r3 r4 r5 r6 r7 r8 r9 r10 h
 have HI : Hid (Z.anyName s = if (Z.tz s.p).1.k = 1 then ((Z.tz s.p).1.s, s.pass) else ([], Z.stray s)) := rfl
 have HT := qh (tok_any H.out s.p (by omega))
 have HL : Hid ((Z.tz s.p).1.k = 1 → s.p < Z.acc.length) := fun e => kind_lt (by rw [e]; decide)
 generalize Z.tz s.p = X at HI HT HL
 generalize Z.anyName s = N at *
 by_cases h1 : X.1.k = 1
 · have e1 : ((X.1.k : Int) != 1) = false := by simp [h1]
   have HN : Hid (N = (X.1.s, s.pass)) := by unfold Hid; rw [HI.out, if_pos h1]
   have hlt := HL.out h1
   clear h1 HI HL
   go_enter Tryz.func186, Tryz.ntmps186
   go_wp2_with fail
   refine HT.out.mono ?_
   rintro e w1 ⟨rfl, c1⟩
   have H1 := qh (And.intro (H.out.below c1) (Fm.of (R := R) c1))
   clear c1 HT
   have HA : ∀ o, Calls Tryz.prog 119 #[.pointer (some ⟨R, 0, none⟩)] (w1.alloc o) _ := fun o => pass_any (H1.out.1.below ((Below.refl _ _).alloc (Nat.le_refl _) o)) hlt
   have HA := qh HA
   go_wp2_with fail
   refine (HA.out _).mono ?_
   rintro e w2 ⟨rfl, h2, f2⟩
   have c0 := (f2.block w1.heap.size (by simp) (fun e => by injection e with e; have := H1.out.1.lt; omega)).trans (heap_alloc_new w1 (.cells #[.int .i64 X.1.k, .string (tx X.1.s), .int .i64 X.1.n, .slice X.2.1 X.1.ps.length X.2.2, .int .i64 X.1.p.a, .int .i64 X.1.p.l, .int .i64 X.1.p.c] 89))
   have q1 := cell_of_row w2 w1.heap.size 1 _ _ _ c0
   have H2 := qh (And.intro h2 ((H1.out.2.al _).tr f2))
   clear h2 f2 c0
   go_wp2_with fail
   go_ret
   exact ⟨by rw [HN.out] <;> rfl, by rw [HN.out]; exact H2.out.1, H2.out.2⟩
 · have e1 : ((X.1.k : Int) != 1) = true := by rw [bne_iff_ne]; omega
   have HN : Hid (N = ([], Z.stray s)) := by unfold Hid; rw [HI.out, if_neg h1]
   clear h1 HI HL
   go_enter Tryz.func186, Tryz.ntmps186
   go_wp2_with fail
   refine HT.out.mono ?_
   rintro e w1 ⟨rfl, c1⟩
   have H1 := qh (And.intro (H.out.below c1) (Fm.of (R := R) c1))
   clear c1 HT
   have HA : ∀ o, Calls Tryz.prog 77 #[.pointer (some ⟨R, 0, none⟩)] (w1.alloc o) _ := fun o => stray_any (H1.out.1.below ((Below.refl _ _).alloc (Nat.le_refl _) o))
   have HA := qh HA
   go_wp2_with fail
   refine (HA.out _).mono ?_
   rintro e w2 ⟨rfl, h2, f2⟩
   have H2 := qh (And.intro h2 ((H1.out.2.al _).tr f2))
   clear h2 f2
   go_wp2_with fail
   go_ret
   exact ⟨by rw [HN.out] <;> rfl, by rw [HN.out]; exact H2.out.1, H2.out.2⟩
theorem beqd (x y : List UInt8) : (x == y) = decide (x = y) := by by_cases h : x = y <;> simp [h]
set_option maxRecDepth 100000 in
theorem res_any (x : List UInt8) (w : World) : Calls Tryz.prog 136 #[.string (tx x)] w fun e w' => e = .returned (.bool (reserved x)) ∧ w' = w := by
 have HR : Hid (reserved x = (decide (x = sTrue) || decide (x = sFalse) || decide (x = sNull) || decide (x = sFor) || decide (x = sIn) || decide (x = sIf))) := rfl
 obtain ⟨b0, h0⟩ : ∃ b, decide (x = sTrue) = b := ⟨_, rfl⟩
 have e0 : ((tx x).toList == [116, 114, 117, 101]) = b0 := by rw [toList_tx, ← h0]; exact beqd x _
 obtain ⟨b1, h1⟩ : ∃ b, decide (x = sFalse) = b := ⟨_, rfl⟩
 have e1 : ((tx x).toList == [102, 97, 108, 115, 101]) = b1 := by rw [toList_tx, ← h1]; exact beqd x _
 obtain ⟨b2, h2⟩ : ∃ b, decide (x = sNull) = b := ⟨_, rfl⟩
 have e2 : ((tx x).toList == [110, 117, 108, 108]) = b2 := by rw [toList_tx, ← h2]; exact beqd x _
 obtain ⟨b3, h3⟩ : ∃ b, decide (x = sFor) = b := ⟨_, rfl⟩
 have e3 : ((tx x).toList == [102, 111, 114]) = b3 := by rw [toList_tx, ← h3]; exact beqd x _
 obtain ⟨b4, h4⟩ : ∃ b, decide (x = sIn) = b := ⟨_, rfl⟩
 have e4 : ((tx x).toList == [105, 110]) = b4 := by rw [toList_tx, ← h4]; exact beqd x _
 obtain ⟨b5, h5⟩ : ∃ b, decide (x = sIf) = b := ⟨_, rfl⟩
 have e5 : ((tx x).toList == [105, 102]) = b5 := by rw [toList_tx, ← h5]; exact beqd x _
 rw [h0, h1, h2, h3, h4, h5] at HR
 clear h0 h1 h2 h3 h4 h5
 cases b0 with
 | true =>
   go_enter Tryz.func136, Tryz.ntmps136
   go_wp2
   go_ret
   exact ⟨by rw [HR.out] <;> rfl, rfl⟩
 | false =>
   cases b1 with
   | true =>
     go_enter Tryz.func136, Tryz.ntmps136
     go_wp2
     go_ret
     exact ⟨by rw [HR.out] <;> rfl, rfl⟩
   | false =>
     cases b2 with
     | true =>
       go_enter Tryz.func136, Tryz.ntmps136
       go_wp2
       go_ret
       exact ⟨by rw [HR.out] <;> rfl, rfl⟩
     | false =>
       cases b3 with
       | true =>
         go_enter Tryz.func136, Tryz.ntmps136
         go_wp2
         go_ret
         exact ⟨by rw [HR.out] <;> rfl, rfl⟩
       | false =>
         cases b4 with
         | true =>
           go_enter Tryz.func136, Tryz.ntmps136
           go_wp2
           go_ret
           exact ⟨by rw [HR.out] <;> rfl, rfl⟩
         | false =>
           cases b5 with
           | true =>
             go_enter Tryz.func136, Tryz.ntmps136
             go_wp2
             go_ret
             exact ⟨by rw [HR.out] <;> rfl, rfl⟩
           | false =>
             go_enter Tryz.func136, Tryz.ntmps136
             go_wp2
             go_ret
             exact ⟨by rw [HR.out] <;> rfl, rfl⟩
set_option maxRecDepth 100000 in
set_option maxHeartbeats 1000000 in
theorem freeName_any {w : World} {R : Nat} {Z : Cz} {s : St} (h : Rd w R Z s) : Calls Tryz.prog 175 #[.pointer (some ⟨R, 0, none⟩)] w (SnP w R Z (Z.freeName s)) := by
 have H := qh h
 have hn := h.sz.n
 have hle := h.le
 obtain ⟨⟨r0, r1, r2, r3, r4, r5, r6, r7, r8, r9, r10⟩, -, hR⟩ := rc11 h.blk
 clear r0 r2 r3 r4 r5 r6 r7 r8 r9 r10 h
 have HI : Hid (Z.freeName s = Z.anyName (if reserved (Z.tz s.p).1.s then Z.stray s else s)) := rfl
 have HT := qh (tok_any H.out s.p (by omega))
 generalize Z.tz s.p = X at HI HT
 generalize Z.freeName s = N at *
 have HB := qh (fun w => res_any X.1.s w)
 generalize reserved X.1.s = b at *
 go_enter Tryz.func175, Tryz.ntmps175
 go_wp2_with fail
 refine HT.out.mono ?_
 rintro e w1 ⟨rfl, c1⟩
 have H1 := qh (And.intro (H.out.below c1) (Fm.of (R := R) c1))
 clear c1 HT
 go_wp2_with fail
 refine (HB.out _).mono ?_
 rintro e w2 ⟨rfl, rfl⟩
 cases b with
 | false =>
   have HN : Hid (N = Z.anyName s) := HI.out
   clear HI
   go_wp2_with fail
   refine (anyName_any H1.out.1).mono ?_
   rintro e w3 ⟨rfl, h2, f2⟩
   have H2 := qh (And.intro h2 (H1.out.2.tr f2))
   clear h2 f2
   go_wp2_with fail
   go_ret
   exact ⟨by rw [HN.out] <;> rfl, by rw [HN.out]; exact H2.out.1, H2.out.2⟩
 | true =>
   have HN : Hid (N = Z.anyName (Z.stray s)) := HI.out
   clear HI
   go_wp2_with fail
   refine (stray_any H1.out.1).mono ?_
   rintro e w3 ⟨rfl, h2, f2⟩
   have H2 := qh (And.intro h2 (H1.out.2.tr f2))
   clear h2 f2
   go_wp2_with fail
   refine (anyName_any H2.out.1).mono ?_
   rintro e w4 ⟨rfl, h3, f3⟩
   have H3 := qh (And.intro h3 (H2.out.2.tr f3))
   clear h3 f3
   go_wp2_with fail
   go_ret
   exact ⟨by rw [HN.out] <;> rfl, by rw [HN.out]; exact H3.out.1, H3.out.2⟩
end Go.Proofs.YtncjncacfagldaaGreatDoor

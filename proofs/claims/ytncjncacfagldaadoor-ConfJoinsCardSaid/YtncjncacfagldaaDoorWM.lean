/- Contract: row. -/
import Derived.Test.YtncjncacfagldaaDoorWK
import Derived.Deep.RegionWith
namespace Go.Proofs.YtncjncacfagldaaDoor
open Go.RowKit

theorem putM_len (C : Cx) (F : Fs) (b : Bool) (l : List Ex) (s : St) : (putM C F b l s).1.length ≤ l.length + 2 := by
  cases b <;> simp [putM, putE, putP]
theorem rowL_succ (C : Cx) (F : Fs) (b : Bool) (x : List UInt8) (k : Nat) (l : List Ex) (s : St) : rowL C F b x (k + 1) l s = if C.is s 4 x then (l, s.pass) else if C.is (putM C F b l s).2 4 [44] then rowL C F b x k (putM C F b l s).1 (putM C F b l s).2.pass else ((putM C F b l s).1, C.wants (putM C F b l s).2 4 x) := rfl
/-- where a reader stands, read off the world -/
def pAt (R : Nat) (w : World) : Nat := (intOf ((w.cell? ⟨R, 1, none⟩).getD undef)).toNat
theorem pAt_eq {w : World} {R : Nat} {Z : Cz} {s : St} (h : Rd w R Z s) : pAt R w = s.p := by
  unfold pAt
  rw [(rc11 h.blk).1.2.1]
  simp [intOf]
abbrev putF (b : Bool) (R : Nat) : Value := .func (.func (if b then 75 else 74)) #[.pointer (some ⟨R, 0, none⟩)] #[]
/-- what put does -/
def PutOk (b : Bool) (R : Nat) (Z : Cz) (inn : List UInt8 → Ps → Ex × Nat × Ps) (F : Fs) (p : Nat) : Prop :=
  ∀ (n : Nat) (W : World) (s : St) (v : Value) (l : List Ex), Rd W R Z s → p ≤ s.p → OE n W R v l → Z.n0 ≤ n → n ≤ W.heap.size → l.length ≤ 90000 → Calls Tryd.prog (if b then 75 else 74) #[.pointer (some ⟨R, 0, none⟩), v] W (LP n W R Z s.p (putM (Z.cx inn) F b l s))
set_option maxRecDepth 100000 in
set_option maxHeartbeats 2000000 in
theorem row_any {b : Bool} {w : World} {R : Nat} {Z : Cz} {s : St} {inn : List UInt8 → Ps → Ex × Nat × Ps} {F : Fs} (h : Rd w R Z s) (x : List UInt8) (hput : PutOk b R Z inn F s.p) :
    Calls Tryd.prog 73 #[.pointer (some ⟨R, 0, none⟩), .string (tx x), putF b R] w (LP w.heap.size w R Z s.p (rowM (Z.cx inn) F b x s)) := by
  have HP := Lib.hid hput
  have H0 := Lib.hid h
  have HZ := Lib.hid h.sz
  have HM : Hid (rowM (Z.cx inn) F b x s = rowL (Z.cx inn) F b x (Z.acc.length + 1) [] s) := by unfold Hid rowM; rw [Cz.len_eq]
  generalize rowM (Z.cx inn) F b x s = M at *
  clear hput h
  unfold PutOk at HP
  cases b with
  | false =>
    go_enter Tryd.func73, Tryd.ntmps73
    go_wp2_with fail
    go_loopw [7] (fun v wr => ∃ (k : Nat) (l : List Ex) (s' : St), Hid (M = rowL (Z.cx inn) F false x k l s') ∧ Hid (Z.acc.length - s'.p < k) ∧ Hid (OE w.heap.size wr R v l) ∧ Hid (Rd wr R Z s') ∧ Hid (Fn w.heap.size R w wr) ∧ Hid (s.p ≤ s'.p) ∧ Hid (l.length ≤ 2 * s'.p)) (fun _ wr => 100000 - pAt R wr)
    case atStart => exact ⟨Z.acc.length + 1, [], s, HM.out, by unfold Hid; omega, OE.nil _ _ _, H0.out, Fn.of (Fm.rf _ _) (Nat.le_refl _), Nat.le_refl _, by simp [Hid]⟩
    case round =>
      obtain ⟨k, l, s', HK, HF, HO, HR, HW, HS, HL⟩ := hrel
      obtain ⟨k, rfl⟩ : ∃ j, k = j + 1 := ⟨k - 1, by have := HF.out; omega⟩
      have hle := HR.out.le
      have hz := HZ.out.n
      have HK2 : Hid (M = if Z.is s' 4 x then (l, s'.pass) else if Z.is (putM (Z.cx inn) F false l s').2 4 [44] then rowL (Z.cx inn) F false x k (putM (Z.cx inn) F false l s').1 (putM (Z.cx inn) F false l s').2.pass else ((putM (Z.cx inn) F false l s').1, Z.wants (putM (Z.cx inn) F false l s').2 4 x)) := by
        unfold Hid
        rw [HK.out, rowL_succ, is_eq, is_eq, wants_eq]
      have HT := Lib.hid (takesSign_any HR.out x)
      have HD : Hid (Z.takes s' 4 x = if Z.is s' 4 x then s'.pass else s') := rfl
      have HPT := Lib.hid (takes_p Z s' 4 x)
      clear HK
      generalize Z.is s' 4 x = b1 at *
      generalize Z.takes s' 4 x = s1 at *
      go_wp2_with fail
      refine HT.out.mono ?_
      rintro e w1 ⟨rfl, h1, f1⟩
      have H1 := Lib.hid (And.intro h1 (And.intro (HO.out.fr f1) (HW.out.tr (Fn.of f1 HW.out.size))))
      have HWS := Lib.hid (Nat.le_trans HW.out.size f1.size)
      clear h1 f1 HT
      cases b1 with
      | true =>
        obtain rfl : s1 = s'.pass := HD.out
        have HM2 : Hid (M = (l, s'.pass)) := HK2.out
        clear HK2
        go_wp2_with fail
        go_ret
        exact ⟨_, rfl, by rw [HM2.out]; exact H1.out.2.1, by rw [HM2.out]; exact H1.out.1, H1.out.2.2, by rw [HM2.out]; exact Nat.le_trans HS.out HPT.out⟩
      | false =>
        obtain rfl : s1 = s' := HD.out
        have HQ := Lib.hid (HP.out w.heap.size w1 s1 _ l H1.out.1 HS.out H1.out.2.1 H0.out.nn HWS.out (by have := HL.out; omega))
        have HLen := Lib.hid (putM_len (Z.cx inn) F false l s1)
        have HM2 : Hid (M = if Z.is (putM (Z.cx inn) F false l s1).2 4 [44] then rowL (Z.cx inn) F false x k (putM (Z.cx inn) F false l s1).1 (putM (Z.cx inn) F false l s1).2.pass else ((putM (Z.cx inn) F false l s1).1, Z.wants (putM (Z.cx inn) F false l s1).2 4 x)) := HK2.out
        clear HK2 HD HPT
        generalize putM (Z.cx inn) F false l s1 = r at *
        go_wp2_with fail
        refine HQ.out.mono ?_
        rintro e w2 ⟨v2, rfl, h2o, h2r, h2f, h2p⟩
        have H2 := Lib.hid (And.intro h2r (And.intro h2o (And.intro (H1.out.2.2.tr h2f) h2p)))
        clear h2o h2r h2f h2p HQ
        have HT := Lib.hid (takesSign_any H2.out.1 [44])
        have HD : Hid (Z.takes r.2 4 [44] = if Z.is r.2 4 [44] then r.2.pass else r.2) := rfl
        generalize Z.is r.2 4 [44] = b2 at *
        generalize Z.takes r.2 4 [44] = s3 at *
        go_wp2_with fail
        refine HT.out.mono ?_
        rintro e w3 ⟨rfl, h3, f3⟩
        have H3 := Lib.hid (And.intro h3 (And.intro (H2.out.2.1.fr f3) (H2.out.2.2.1.tr (Fn.of f3 H2.out.2.2.1.size))))
        clear h3 f3 HT
        have hp2 := H2.out.2.2.2
        cases b2 with
        | true =>
          obtain rfl : s3 = r.2.pass := HD.out
          have HM3 := HM2.out
          go_wp2_with fail
          go_roundw
          case rel => exact ⟨k, r.1, r.2.pass, HM3, by have := HF.out; have h8 : r.2.p + 1 ≤ Z.acc.length := H3.out.1.le; unfold Hid; show Z.acc.length - (r.2.p + 1) < k; omega, H3.out.2.1, H3.out.1, H3.out.2.2, by have := HS.out; unfold Hid; show s.p ≤ r.2.p + 1; omega, by have := HL.out; have := HLen.out; unfold Hid; show r.1.length ≤ 2 * (r.2.p + 1); omega⟩
          case measure =>
            have e1 := pAt_eq H3.out.1
            have e2 := pAt_eq HR.out
            have e3 : r.2.pass.p = r.2.p + 1 := rfl
            have := H3.out.1.le
            rw [e1, e2]; omega
        | false =>
          obtain rfl : s3 = r.2 := HD.out
          have HM3 : Hid (M = (r.1, Z.wants r.2 4 x)) := HM2.out
          clear HM2
          go_wp2_with fail
          refine (wantsSign_any H3.out.1 x).mono ?_
          rintro e w4 ⟨rfl, h4, f4⟩
          have H4 := Lib.hid (And.intro h4 (And.intro (H3.out.2.1.fr f4) (H3.out.2.2.tr (Fn.of f4 H3.out.2.2.size))))
          clear h4 f4
          have hwp := wants_p H2.out.1.le 4 x
          have HWP := Lib.hid hwp
          clear hwp
          go_wp2_with fail
          go_ret
          exact ⟨_, rfl, by rw [HM3.out]; exact H4.out.2.1, by rw [HM3.out]; exact H4.out.1, H4.out.2.2, by rw [HM3.out]; exact Nat.le_trans HS.out (Nat.le_trans hp2 HWP.out)⟩
  | true =>
    go_enter Tryd.func73, Tryd.ntmps73
    go_wp2_with fail
    go_loopw [7] (fun v wr => ∃ (k : Nat) (l : List Ex) (s' : St), Hid (M = rowL (Z.cx inn) F true x k l s') ∧ Hid (Z.acc.length - s'.p < k) ∧ Hid (OE w.heap.size wr R v l) ∧ Hid (Rd wr R Z s') ∧ Hid (Fn w.heap.size R w wr) ∧ Hid (s.p ≤ s'.p) ∧ Hid (l.length ≤ 2 * s'.p)) (fun _ wr => 100000 - pAt R wr)
    case atStart => exact ⟨Z.acc.length + 1, [], s, HM.out, by unfold Hid; omega, OE.nil _ _ _, H0.out, Fn.of (Fm.rf _ _) (Nat.le_refl _), Nat.le_refl _, by simp [Hid]⟩
    case round =>
      obtain ⟨k, l, s', HK, HF, HO, HR, HW, HS, HL⟩ := hrel
      obtain ⟨k, rfl⟩ : ∃ j, k = j + 1 := ⟨k - 1, by have := HF.out; omega⟩
      have hle := HR.out.le
      have hz := HZ.out.n
      have HK2 : Hid (M = if Z.is s' 4 x then (l, s'.pass) else if Z.is (putM (Z.cx inn) F true l s').2 4 [44] then rowL (Z.cx inn) F true x k (putM (Z.cx inn) F true l s').1 (putM (Z.cx inn) F true l s').2.pass else ((putM (Z.cx inn) F true l s').1, Z.wants (putM (Z.cx inn) F true l s').2 4 x)) := by
        unfold Hid
        rw [HK.out, rowL_succ, is_eq, is_eq, wants_eq]
      have HT := Lib.hid (takesSign_any HR.out x)
      have HD : Hid (Z.takes s' 4 x = if Z.is s' 4 x then s'.pass else s') := rfl
      have HPT := Lib.hid (takes_p Z s' 4 x)
      clear HK
      generalize Z.is s' 4 x = b1 at *
      generalize Z.takes s' 4 x = s1 at *
      go_wp2_with fail
      refine HT.out.mono ?_
      rintro e w1 ⟨rfl, h1, f1⟩
      have H1 := Lib.hid (And.intro h1 (And.intro (HO.out.fr f1) (HW.out.tr (Fn.of f1 HW.out.size))))
      have HWS := Lib.hid (Nat.le_trans HW.out.size f1.size)
      clear h1 f1 HT
      cases b1 with
      | true =>
        obtain rfl : s1 = s'.pass := HD.out
        have HM2 : Hid (M = (l, s'.pass)) := HK2.out
        clear HK2
        go_wp2_with fail
        go_ret
        exact ⟨_, rfl, by rw [HM2.out]; exact H1.out.2.1, by rw [HM2.out]; exact H1.out.1, H1.out.2.2, by rw [HM2.out]; exact Nat.le_trans HS.out HPT.out⟩
      | false =>
        obtain rfl : s1 = s' := HD.out
        have HQ := Lib.hid (HP.out w.heap.size w1 s1 _ l H1.out.1 HS.out H1.out.2.1 H0.out.nn HWS.out (by have := HL.out; omega))
        have HLen := Lib.hid (putM_len (Z.cx inn) F true l s1)
        have HM2 : Hid (M = if Z.is (putM (Z.cx inn) F true l s1).2 4 [44] then rowL (Z.cx inn) F true x k (putM (Z.cx inn) F true l s1).1 (putM (Z.cx inn) F true l s1).2.pass else ((putM (Z.cx inn) F true l s1).1, Z.wants (putM (Z.cx inn) F true l s1).2 4 x)) := HK2.out
        clear HK2 HD HPT
        generalize putM (Z.cx inn) F true l s1 = r at *
        go_wp2_with fail
        refine HQ.out.mono ?_
        rintro e w2 ⟨v2, rfl, h2o, h2r, h2f, h2p⟩
        have H2 := Lib.hid (And.intro h2r (And.intro h2o (And.intro (H1.out.2.2.tr h2f) h2p)))
        clear h2o h2r h2f h2p HQ
        have HT := Lib.hid (takesSign_any H2.out.1 [44])
        have HD : Hid (Z.takes r.2 4 [44] = if Z.is r.2 4 [44] then r.2.pass else r.2) := rfl
        generalize Z.is r.2 4 [44] = b2 at *
        generalize Z.takes r.2 4 [44] = s3 at *
        go_wp2_with fail
        refine HT.out.mono ?_
        rintro e w3 ⟨rfl, h3, f3⟩
        have H3 := Lib.hid (And.intro h3 (And.intro (H2.out.2.1.fr f3) (H2.out.2.2.1.tr (Fn.of f3 H2.out.2.2.1.size))))
        clear h3 f3 HT
        have hp2 := H2.out.2.2.2
        cases b2 with
        | true =>
          obtain rfl : s3 = r.2.pass := HD.out
          have HM3 := HM2.out
          go_wp2_with fail
          go_roundw
          case rel => exact ⟨k, r.1, r.2.pass, HM3, by have := HF.out; have h8 : r.2.p + 1 ≤ Z.acc.length := H3.out.1.le; unfold Hid; show Z.acc.length - (r.2.p + 1) < k; omega, H3.out.2.1, H3.out.1, H3.out.2.2, by have := HS.out; unfold Hid; show s.p ≤ r.2.p + 1; omega, by have := HL.out; have := HLen.out; unfold Hid; show r.1.length ≤ 2 * (r.2.p + 1); omega⟩
          case measure =>
            have e1 := pAt_eq H3.out.1
            have e2 := pAt_eq HR.out
            have e3 : r.2.pass.p = r.2.p + 1 := rfl
            have := H3.out.1.le
            rw [e1, e2]; omega
        | false =>
          obtain rfl : s3 = r.2 := HD.out
          have HM3 : Hid (M = (r.1, Z.wants r.2 4 x)) := HM2.out
          clear HM2
          go_wp2_with fail
          refine (wantsSign_any H3.out.1 x).mono ?_
          rintro e w4 ⟨rfl, h4, f4⟩
          have H4 := Lib.hid (And.intro h4 (And.intro (H3.out.2.1.fr f4) (H3.out.2.2.tr (Fn.of f4 H3.out.2.2.size))))
          clear h4 f4
          have hwp := wants_p H2.out.1.le 4 x
          have HWP := Lib.hid hwp
          clear hwp
          go_wp2_with fail
          go_ret
          exact ⟨_, rfl, by rw [HM3.out]; exact H4.out.2.1, by rw [HM3.out]; exact H4.out.1, H4.out.2.2, by rw [HM3.out]; exact Nat.le_trans HS.out (Nat.le_trans hp2 HWP.out)⟩
end Go.Proofs.YtncjncacfagldaaDoor

/- Contracts: key, putPair. -/
namespace Go.Proofs.YtncjncacfagldaaDoor
open Go.RowKit
attribute [local go_sem] field66_0 field66_1 field66_3 field66_4

/-- what text does -/
def TextOk (R : Nat) (Z : Cz) (inn : List UInt8 → Ps → Ex × Nat × Ps) : Prop :=
  ∀ (W : World) (s : St), Rd W R Z s → (Z.tz s.p).1.k = 3 → Calls Tryd.prog 98 #[.pointer (some ⟨R, 0, none⟩)] W (EP W R Z s.p (textM (Z.cx inn) s))
theorem EP.of {w w1 w2 : World} {R : Nat} {Z : Cz} {p : Nat} {m : Ex × St} {e : Ending} (h : EP w1 R Z p m e w2) (hf : Fm R w w1) : EP w R Z p m e w2 := by
  obtain ⟨b, e1, h1, h2, h3, h4⟩ := h
  exact ⟨b, e1, h1.le hf.size, h2, hf.tr h3, h4⟩
theorem anyName_len {Z : Cz} (h : Sz Z) (s : St) : (Z.anyName s).1.length ≤ 40000 := by
  unfold Cz.anyName; split
  · exact (tz_bd h _).1
  · exact Nat.zero_le _
theorem tx_size (l : List UInt8) : (tx l).size = l.length := rfl
/-- a text's literal at a place -/
theorem xb_lit {n : Nat} {w : World} {R b : Nat} {x : List UInt8} {p : Ps} (hb : w.heap[b]? = some (.cells #[.int .i64 1, .string ⟨#[]⟩, .string ⟨#[]⟩, .int .i64 3, .int .i64 0, .string (tx x), .slice none 0 0, .slice none 0 0, .int .i64 0, .int .i64 0, .bool false, .slice none 0 0, .int .i64 p.a, .int .i64 p.l, .int .i64 p.c] 33 (0, 0))) (hx : x.length ≤ maxLen) (hR : b ≠ R) (hn : n ≤ b) : Xb n w R b (litX (vStr (tx x)) p) :=
  ⟨none, 0, none, 0, none, 0, hb, xp_mk (sv := tx x) 1 ⟨#[]⟩ ⟨#[]⟩ (by decide) (by decide) hx [] p.a p.l p.c (rowP_nil _ _ _ (fun _ _ => undef)) (fun j x h => by cases h), hR, hn⟩
set_option maxRecDepth 100000 in
set_option maxHeartbeats 2000000 in
theorem key_any {w : World} {R : Nat} {Z : Cz} {s : St} {inn : List UInt8 → Ps → Ex × Nat × Ps} (h : Rd w R Z s) (ht : TextOk R Z inn) : Calls Tryd.prog 93 #[.pointer (some ⟨R, 0, none⟩)] w (EP w R Z s.p (keyM (Z.cx inn) s)) := by
  have H := Lib.hid h
  have HX := Lib.hid ht
  have hn := h.sz.n
  have hle := h.le
  obtain ⟨⟨r0, r1, r2, r3, r4, r5, r6, r7, r8, r9, r10⟩, -, hR⟩ := rc11 h.blk
  clear r0 r2 r3 r4 r5 r6 r7 r8 r9 r10 h ht
  have HI : Hid (keyM (Z.cx inn) s = if (Z.tz s.p).1.k = 3 then textM (Z.cx inn) s else (litX (vStr (tx (Z.anyName s).1)) (Z.pl s), (Z.anyName s).2)) := by
    unfold Hid keyM; rw [Cz.tk_eq, anyName_eq, pl_eq]
  have HT := Lib.hid (tok_any H.out s.p (by omega))
  have HK : Hid ((Z.tz s.p).1.k = 3 → ∀ W, Rd W R Z s → Calls Tryd.prog 98 #[.pointer (some ⟨R, 0, none⟩)] W (EP W R Z s.p (textM (Z.cx inn) s))) := fun e W hW => HX.out W s hW e
  have HN := Lib.hid (anyName_len H.out.sz s)
  have HP := Lib.hid (anyName_p H.out.le)
  have HA : Hid (∀ W, Rd W R Z s → Calls Tryd.prog 97 #[.pointer (some ⟨R, 0, none⟩)] W (SnP W R Z (Z.anyName s))) := fun W hW => anyName_any hW
  have HL : Hid (∀ W, Rd W R Z s → Calls Tryd.prog 59 #[.pointer (some ⟨R, 0, none⟩)] W fun e w' => e = .returned (.agg #[.int .i64 (Z.pl s).a, .int .i64 (Z.pl s).l, .int .i64 (Z.pl s).c]) ∧ Below W.heap.size W w') := fun W hW => place_any hW
  generalize Z.tz s.p = X at HI HT HK
  generalize Z.anyName s = N at *
  generalize Z.pl s = P at *
  generalize keyM (Z.cx inn) s = M at *
  by_cases h1 : X.1.k = 3
  · have e1 : ((X.1.k : Int) == 3) = true := by simp [h1]
    have HM : Hid (M = textM (Z.cx inn) s) := by unfold Hid; rw [HI.out, if_pos h1]
    have HQ := Lib.hid (HK.out h1)
    rw [← HM.out] at HQ
    clear h1 HI HK
    go_enter Tryd.func93, Tryd.ntmps93
    go_wp2_with fail
    refine HT.out.mono ?_
    rintro e w1 ⟨rfl, c1⟩
    have H1 := Lib.hid (And.intro (H.out.below c1) (Fm.of (R := R) c1))
    clear c1 HT
    go_wp2_with fail
    refine (HQ.out _ H1.out.1).mono ?_
    intro e w2 h2
    have H2 := Lib.hid (h2.of H1.out.2)
    obtain ⟨b, rfl, -⟩ := h2
    go_wp2_with fail
    go_ret
    exact H2.out
  · have e1 : ((X.1.k : Int) == 3) = false := by rw [beq_eq_false_iff_ne]; omega
    have HM : Hid (M = (litX (vStr (tx N.1)) P, N.2)) := by unfold Hid; rw [HI.out, if_neg h1]
    clear h1 HI HK
    go_enter Tryd.func93, Tryd.ntmps93
    go_wp2_with fail
    refine HT.out.mono ?_
    rintro e w1 ⟨rfl, c1⟩
    have H1 := Lib.hid (And.intro (H.out.below c1) (Fm.of (R := R) c1))
    clear c1 HT
    go_wp2_with fail
    refine (HL.out _ H1.out.1).mono ?_
    rintro e w2 ⟨rfl, c2⟩
    have H2 := Lib.hid (And.intro (H1.out.1.below c2) (H1.out.2.tr (Fm.of (R := R) c2)))
    clear c2
    go_upto_region 4 with fail
    have hb3 : (w2.alloc (Obj.cells #[Value.int IntKind.i64 P.a, Value.int IntKind.i64 P.l, Value.int IntKind.i64 P.c] 31)).heap[w2.heap.size]? = some (.cells #[Value.int IntKind.i64 P.a, Value.int IntKind.i64 P.l, Value.int IntKind.i64 P.c] 31 (0, 0)) := heap_alloc_new _ _
    have f3 : Fm R w2 (w2.alloc (Obj.cells #[Value.int IntKind.i64 P.a, Value.int IntKind.i64 P.l, Value.int IntKind.i64 P.c] 31)) := Fm.of ((Below.refl _ _).alloc (Nat.le_refl _) _)
    have hbR : w2.heap.size ≠ R := Nat.ne_of_gt H2.out.1.lt
    have H3 := Lib.hid (And.intro (H2.out.1.below ((Below.refl _ _).alloc (Nat.le_refl _) (Obj.cells #[Value.int IntKind.i64 P.a, Value.int IntKind.i64 P.l, Value.int IntKind.i64 P.c] 31))) (H2.out.2.tr f3))
    clear f3
    generalize w2.alloc (Obj.cells #[Value.int IntKind.i64 P.a, Value.int IntKind.i64 P.l, Value.int IntKind.i64 P.c] 31) = w3 at *
    generalize w2.heap.size = bx at *
    clear H2 H1 HL HX e1 r1
    obtain ⟨⟨k0, k1, k2⟩, ⟨g0, g1, g2⟩, l3⟩ := rc3 hb3
    have HB := Lib.hid (And.intro hb3 hbR)
    clear hb3 hbR
    go_region_with (first
      | (go_at_call 97; refine (HA.out _ ?_).mono ?_; exact H3.out.1.below (Below.refl _ _).drew; rintro e w4 ⟨rfl, h4, f4⟩; have H4 := Lib.hid (And.intro h4 ((H3.out.2.tr (Fm.of (Below.refl _ _).drew)).tr f4)); have hb4 := (f4.block bx l3 (fun e => HB.out.2 (Option.some.inj e))).trans HB.out.1; clear h4 f4; obtain ⟨⟨k40, k41, k42⟩, ⟨g40, g41, g42⟩, l4⟩ := rc3 hb4; have HB4 := Lib.hid hb4; clear hb4)
      | (go_at_call 100; refine (str_any _ _).mono ?_; rintro e w5 ⟨rfl, c5⟩; have H5 := Lib.hid (And.intro (H4.out.1.below c5) (H4.out.2.tr (Fm.of c5))); have hb5 := (c5.block bx l4).trans HB4.out; clear c5; obtain ⟨⟨k50, k51, k52⟩, ⟨g50, g51, g52⟩, l5⟩ := rc3 hb5; clear hb5)
      | (go_at_call 99; refine (lit_any 3 0 (tx N.1) false P _).mono ?_; rintro e w6 ⟨b, rfl, hb6, hc6, c6⟩; have H6 := Lib.hid (And.intro (H5.out.1.below c6) (And.intro (H5.out.2.tr (Fm.of c6)) (And.intro hb6 hc6))); clear hb6 hc6 c6))
    all_goals
      go_wp2_with fail
      go_ret
      exact ⟨b, rfl, by rw [HM.out]; exact xb_lit H6.out.2.2.2 (Nat.le_trans HN.out (by unfold maxLen; omega)) (by have := H6.out.2.2.1; have := H5.out.1.lt; omega) (Nat.le_trans H5.out.2.size H6.out.2.2.1), by rw [HM.out]; exact H6.out.1, H6.out.2.1, by rw [HM.out]; exact HP.out⟩
end Go.Proofs.YtncjncacfagldaaDoor

/- Contracts: putPair; what row puts. -/
namespace Go.Proofs.YtncjncacfagldaaDoor
open Go.RowKit
attribute [local go_sem] field66_0 field66_1 field66_3 field66_4

/-- what expr does from a place on -/
def ExOk (R : Nat) (Z : Cz) (F : Fs) (p : Nat) : Prop := ∀ (W : World) (s : St), Rd W R Z s → p ≤ s.p → Calls Tryd.prog 35 #[.pointer (some ⟨R, 0, none⟩)] W (EP W R Z s.p (F.ex s))
theorem ExOk.le {R : Nat} {Z : Cz} {F : Fs} {p q : Nat} (h : ExOk R Z F p) (hq : p ≤ q) : ExOk R Z F q := fun W s hr hs => h W s hr (Nat.le_trans hq hs)
set_option maxRecDepth 100000 in
set_option maxHeartbeats 2000000 in
theorem putPair_any {n : Nat} {w : World} {R : Nat} {Z : Cz} {s : St} {inn : List UInt8 → Ps → Ex × Nat × Ps} {F : Fs} {v : Value} {l : List Ex} (h : Rd w R Z s) (ht : TextOk R Z inn) (he : ExOk R Z F s.p) (ho : OE n w R v l) (h0 : Z.n0 ≤ n) (hn : n ≤ w.heap.size) (hl : l.length ≤ 90000) :
    Calls Tryd.prog 75 #[.pointer (some ⟨R, 0, none⟩), v] w (LP n w R Z s.p (putP (Z.cx inn) F l s)) := by
  have H := Lib.hid h
  have HE := Lib.hid he
  have HO := Lib.hid ho
  have HL := Lib.hid (And.intro hn hl)
  have HK := Lib.hid (key_any h ht)
  have HM : Hid (putP (Z.cx inn) F l s = putE F (l ++ [(keyM (Z.cx inn) s).1]) (if Z.is (keyM (Z.cx inn) s).2 4 [61] then (keyM (Z.cx inn) s).2.pass else Z.wants (keyM (Z.cx inn) s).2 4 [58])) := by
    unfold Hid putP; simp only [is_eq, wants_eq]
  generalize keyM (Z.cx inn) s = K at *
  generalize putP (Z.cx inn) F l s = M at *
  clear h he ho hn hl ht
  go_enter Tryd.func75, Tryd.ntmps75
  go_wp2_with fail
  refine HK.out.mono ?_
  rintro e w1 ⟨b, rfl, hx, hr, hf, hp⟩
  obtain ⟨oV, cV, oK, cK, o, cap, hb, hX, hbR, hnb⟩ := hx
  have H1 := Lib.hid (And.intro hX (And.intro hr (And.intro hf hp)))
  have HO1 := Lib.hid (HO.out.fr hf)
  have hR1 : R < w1.heap.size := Nat.lt_of_lt_of_le H.out.lt hf.size
  have hn1 : n ≤ w1.heap.size := Nat.le_trans HL.out.1 hf.size
  have HS := Lib.hid (And.intro hR1 hn1)
  obtain ⟨⟨c0, c1, c2, c3, c4, c5, c6, c7, c8, c9, c10, c11, c12, c13, c14⟩, -, hbl⟩ := rc15 hb
  clear hX hr hf hp hb HK hR1 hn1
  go_wp2_with (at_builtin; go_must (refine app_oe rfl (.tmp 5) (.tmp 10) rfl (v := v) (l := l) (m := w.heap.size) rfl rfl HO1.out H1.out.1 (fun g hg => (HO.out.own_lt g hg).1) HL.out.1 HS.out.2 HS.out.1 (Nat.le_trans HL.out.2 (by omega)) ?_))
  intro v' w2 ho2 hg2
  have H2 := Lib.hid (And.intro ho2 (H1.out.2.1.app HO1.out h0 HS.out.2 hg2))
  have HF2 := Lib.hid ((Fn.of H1.out.2.2.1 HL.out.1).tr H2.out.2.2)
  have HP2 := Lib.hid H1.out.2.2.2
  clear ho2 hg2 H1 c0 c1 c2 c3 c4 c5 c6 c7 c8 c9 c10 c11 c12 c13 c14
  have HT := Lib.hid (takesSign_any H2.out.2.1 [61])
  have HD : Hid (Z.takes K.2 4 [61] = if Z.is K.2 4 [61] then K.2.pass else K.2) := rfl
  generalize Z.is K.2 4 [61] = b2 at *
  generalize Z.takes K.2 4 [61] = s3 at *
  have HS2 : Hid (n ≤ w2.heap.size) := Nat.le_trans HL.out.1 HF2.out.size
  go_wp2_with fail
  refine HT.out.mono ?_
  rintro e w3 ⟨rfl, h3, f3⟩
  have H3 := Lib.hid (And.intro h3 (And.intro (H2.out.1.fr f3) (HF2.out.tr (Fn.of f3 HS2.out))))
  have HS3 : Hid (n ≤ w3.heap.size) := Nat.le_trans HS2.out f3.size
  clear h3 f3 HT
  cases b2 with
  | true =>
    obtain rfl : s3 = K.2.pass := HD.out
    have HM3 : Hid (M = putE F (l ++ [K.1]) K.2.pass) := HM.out
    have HQ := Lib.hid (putExpr_any (HE.out w3 K.2.pass H3.out.1 (Nat.le_trans HP2.out (Nat.le_succ _))) H3.out.2.1 h0 HS3.out H3.out.1.lt (by have := HL.out.2; simp; omega))
    clear HM HD
    go_wp2_with fail
    refine HQ.out.mono ?_
    rintro e w4 ⟨v4, rfl, h4o, h4r, h4f, h4p⟩
    have H4 := Lib.hid (And.intro h4o (And.intro h4r (And.intro (H3.out.2.2.tr h4f) (Nat.le_trans (Nat.le_trans HP2.out (Nat.le_succ _)) h4p))))
    clear h4o h4r h4f h4p
    go_wp2_with fail
    go_ret
    exact ⟨v4, rfl, by rw [HM3.out]; exact H4.out.1, by rw [HM3.out]; exact H4.out.2.1, H4.out.2.2.1, by rw [HM3.out]; exact H4.out.2.2.2⟩
  | false =>
    obtain rfl : s3 = K.2 := HD.out
    have HM3 : Hid (M = putE F (l ++ [K.1]) (Z.wants K.2 4 [58])) := HM.out
    have HWP := Lib.hid (wants_p (H3.out.1.le) 4 [58])
    clear HM HD
    go_wp2_with fail
    refine (wantsSign_any H3.out.1 [58]).mono ?_
    rintro e w4 ⟨rfl, h4, f4⟩
    have H4 := Lib.hid (And.intro h4 (And.intro (H3.out.2.1.fr f4) (H3.out.2.2.tr (Fn.of f4 HS3.out))))
    have HS4 : Hid (n ≤ w4.heap.size) := Nat.le_trans HS3.out f4.size
    clear h4 f4
    have HQ := Lib.hid (putExpr_any (HE.out w4 _ H4.out.1 (Nat.le_trans HP2.out HWP.out)) H4.out.2.1 h0 HS4.out H4.out.1.lt (by have := HL.out.2; simp; omega))
    generalize Z.wants K.2 4 [58] = s4 at *
    go_wp2_with fail
    refine HQ.out.mono ?_
    rintro e w5 ⟨v5, rfl, h5o, h5r, h5f, h5p⟩
    have H5 := Lib.hid (And.intro h5o (And.intro h5r (And.intro (H4.out.2.2.tr h5f) (Nat.le_trans (Nat.le_trans HP2.out HWP.out) h5p))))
    clear h5o h5r h5f h5p
    go_wp2_with fail
    go_ret
    exact ⟨v5, rfl, by rw [HM3.out]; exact H5.out.1, by rw [HM3.out]; exact H5.out.2.1, H5.out.2.2.1, by rw [HM3.out]; exact H5.out.2.2.2⟩
theorem putOk {R : Nat} {Z : Cz} {F : Fs} {p : Nat} {inn : List UInt8 → Ps → Ex × Nat × Ps} (ht : TextOk R Z inn) (he : ExOk R Z F p) (b : Bool) : PutOk b R Z inn F p := by
  intro n W s v l hr hp ho h0 hn hl
  cases b with
  | false => exact putExpr_any (he W s hr hp) ho h0 hn hr.lt (by omega)
  | true => exact putPair_any hr ht (he.le hp) ho h0 hn hl
end Go.Proofs.YtncjncacfagldaaDoor

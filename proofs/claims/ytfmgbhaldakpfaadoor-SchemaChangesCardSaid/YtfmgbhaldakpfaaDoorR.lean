/- The reference's check: lists and maps. -/
import Derived.Test.YtfmgbhaldakpfaaDoorP
namespace Go.Proofs.YtfmgbhaldakpfaaDoor
open Go.RowKit

/-- of the first j elements -/
def okN (m : Nat) (V : Val) (j : Nat) : Bool := (V.l.take j).all (okT m)
theorem okN_succ {m : Nat} {V : Val} {j : Nat} {X : Val} (h : V.l[j]? = some X) : okN m V (j + 1) = (okN m V j && okT m X) := by
  unfold okN
  rw [List.take_add_one, h, List.all_append]; simp
theorem okT_el {m : Nat} {V : Val} {j : Nat} {X : Val} (h : V.l[j]? = some X) (hx : okT m X = false) : okT (m + 1) V = false := by
  rw [okT, Bool.and_eq_false_iff]; right
  rw [List.all_eq_false]
  exact ⟨X, List.mem_of_getElem? h, by rw [hx]; decide⟩
theorem okT_all {m : Nat} {V : Val} (h : ok1 V = true) (hx : okN m V V.l.length = true) : okT (m + 1) V = true := by
  rw [okT, h]; unfold okN at hx; rw [List.take_length] at hx; rw [hx]; rfl
set_option maxRecDepth 100000 in
set_option maxHeartbeats 4000000 in
theorem rchk_4_no (m : Nat) (V : Val) (v : Value) (w : World) (n : Nat) (hk : V.k = 4) (h : Lies n w V v) (hno : ¬ (V.i = 0 ∧ V.s.toList.isEmpty = true ∧ V.tk = 0 ∧ V.to = 0 ∧ V.l.length ≤ 128 ∧ V.ks.length = 0)) : Calls Tryd.prog 44 #[v, .int .i64 ((m + 1 : Nat) : Int)] w fun e w' => e = .returned (.bool (okT (m + 1) V)) ∧ Below w.heap.size w w' := by
  obtain ⟨oL, oK, cL, cK, c, rfl, O⟩ := h.inv
  have l1 := O.L.1
  have l2 := O.L.2.1
  have l3 := O.K.1
  have l4 := O.K.2.1
  have ws := O.ws
  unfold maxLen at l2 l4 ws
  have HK := Lib.hid hk
  rw [hk]
  clear h O hk
  have HN := Lib.hid hno
  clear hno
  go_enter Tryd.func44, Tryd.ntmps44
  go_wp2_with fail
  all_goals
    first
      | (go_ret
         refine ⟨ret_b' (okT_no (ok1_no fun hh => ?_)).symm, (Below.refl _ _).alloc (Nat.le_refl _) _⟩
         obtain ⟨f0, f1, f2, f3, f4, f5, f6, f7, f8, f9, f10⟩ := ok1_facts hh
         have hkk := HK.out
         first | omega | (exfalso; simp_all; done) | (rcases f3 with f3 | f3; omega; simp_all))
      | (exfalso; exact HN.out ⟨by assumption, by assumption, by assumption, by assumption, by omega, by omega⟩)
set_option maxRecDepth 100000 in
set_option maxHeartbeats 4000000 in
theorem rchk_5_no (m : Nat) (V : Val) (v : Value) (w : World) (n : Nat) (hk : V.k = 5) (h : Lies n w V v) (hno : ¬ (V.i = 0 ∧ V.s.toList.isEmpty = true ∧ V.tk = 0 ∧ V.to = 0 ∧ V.l.length ≤ 128 ∧ V.ks.length = V.l.length)) : Calls Tryd.prog 44 #[v, .int .i64 ((m + 1 : Nat) : Int)] w fun e w' => e = .returned (.bool (okT (m + 1) V)) ∧ Below w.heap.size w w' := by
  obtain ⟨oL, oK, cL, cK, c, rfl, O⟩ := h.inv
  have l1 := O.L.1
  have l2 := O.L.2.1
  have l3 := O.K.1
  have l4 := O.K.2.1
  have ws := O.ws
  unfold maxLen at l2 l4 ws
  have HK := Lib.hid hk
  rw [hk]
  clear h O hk
  have HN := Lib.hid hno
  clear hno
  by_cases hq : V.ks.length = V.l.length
  · have hqb : ((V.ks.length : Int) != (V.l.length : Int)) = false := by simp [hq]
    have HQ := Lib.hid hq
    clear hq
    go_enter Tryd.func44, Tryd.ntmps44
    go_wp2_with fail
    all_goals
      first
        | (go_ret
           refine ⟨ret_b' (okT_no (ok1_no fun hh => ?_)).symm, (Below.refl _ _).alloc (Nat.le_refl _) _⟩
           obtain ⟨f0, f1, f2, f3, f4, f5, f6, f7, f8, f9, f10⟩ := ok1_facts hh
           have hkk := HK.out
           have hqq := HQ.out
           first | omega | (exfalso; simp_all; done) | (rcases f3 with f3 | f3; omega; simp_all))
        | (exfalso; exact HN.out ⟨by assumption, by assumption, by assumption, by assumption, by omega, HQ.out⟩)
  · have hqb : ((V.ks.length : Int) != (V.l.length : Int)) = true := by simp; omega
    have HQ := Lib.hid hq
    clear hq
    go_enter Tryd.func44, Tryd.ntmps44
    go_wp2_with fail
    all_goals
      first
        | (go_ret
           refine ⟨ret_b' (okT_no (ok1_no fun hh => ?_)).symm, (Below.refl _ _).alloc (Nat.le_refl _) _⟩
           obtain ⟨f0, f1, f2, f3, f4, f5, f6, f7, f8, f9, f10⟩ := ok1_facts hh
           have hkk := HK.out
           have hqq := HQ.out
           first | omega | (exfalso; simp_all; done) | (rcases f3 with f3 | f3; omega; simp_all))
        | (exfalso; exact HN.out ⟨by assumption, by assumption, by assumption, by assumption, by omega, by omega⟩)
set_option maxRecDepth 100000 in
set_option maxHeartbeats 4000000 in
theorem rchk_4_yes (m : Nat) (hm : m ≤ 8) (V : Val) (v : Value) (w : World) (n : Nat) (hk : V.k = 4) (h : Lies n w V v) (hn : n ≤ w.heap.size) (hf : ∀ (n : Nat) (V : Val) (v : Value) (w : World), Lies n w V v → n ≤ w.heap.size → Calls Tryd.prog 44 #[v, .int .i64 m] w fun e w' => e = .returned (.bool (okT m V)) ∧ Below w.heap.size w w') (d0 : V.i = 0) (d1 : V.s.toList.isEmpty = true) (d2 : V.tk = 0) (d3 : V.to = 0) (d4 : V.l.length ≤ 128) (d5 : V.ks.length = 0) : Calls Tryd.prog 44 #[v, .int .i64 ((m + 1 : Nat) : Int)] w fun e w' => e = .returned (.bool (okT (m + 1) V)) ∧ Below w.heap.size w w' := by
  obtain ⟨oL, oK, cL, cK, c, rfl, O⟩ := h.inv
  have l1 := O.L.1
  have l2 := O.L.2.1
  have l3 := O.K.1
  have l4 := O.K.2.1
  have ws : V.s.size = 0 := emp_size d1
  unfold maxLen at l2 l4
  have H1 : Hid (ok1 V = true) := ok1_mk (by omega) (by omega) (by omega) (.inr d1) (by omega) (.inr ⟨d2, d3⟩) (by omega) (by omega) (by omega) (by omega) (by omega)
  have HF := Lib.hid hf
  have HB := Lib.hid (Hd.made w V (.slice oL V.l.length cL) (.slice oK V.ks.length cK))
  have HW := Lib.hid ((Below.refl w.heap.size w).alloc (Nat.le_refl _) (bx V oL oK cL cK))
  have HZ : Hid ((w.alloc (bx V oL oK cL cK)).heap.size = w.heap.size + 1) := by simp [Hid]
  have H := Lib.hid (O.kept (HW.out.mono hn))
  generalize hw0 : w.alloc (bx V oL oK cL cK) = w0 at *
  unfold bx at hw0
  rw [hk, d0, d2, d3] at hw0 ⊢
  have HD := Lib.hid (And.intro hk (And.intro d0 (And.intro d2 (And.intro d3 (And.intro ws d5)))))
  obtain ⟨x8, x0, x1, x2, x3, x4, x5, x6, x7⟩ := HB.out
  rw [hk] at x0
  rw [d0] at x1
  rw [d2] at x5
  rw [d3] at x6
  have hws : ¬ 1024 < (V.s.size : Int) := by omega
  clear h O hk hf d0 d2 d3 ws
  have d7 : V.ks.length ≤ 0 := by omega
  have d8 : ¬ 0 < V.ks.length := by omega
  clear d5
  go_enter Tryd.func44, Tryd.ntmps44
  go_wp2_with fail
  have HE := Lib.hid hw0
  clear hw0
  refine wp_loop_rounds 1 ?_
  rw [rounds_succ]
  go_wp2
  clear x8 x0 x1 x2 x3 x4 x5 x6 x7 d7 d8
  go_loopw [6] (fun i wr => ∃ j : Nat, j ≤ V.l.length ∧ i = .int .i64 j ∧ Hid (okN m V j = true) ∧ Hid (Below (w.heap.size + 1) w0 wr)) (fun i _ => V.l.length - (intOf i).toNat)
  case atStart => exact ⟨0, Nat.zero_le _, rfl, rfl, Below.refl _ _⟩
  case round =>
    obtain ⟨j, hj, rfl, HO, hbr⟩ := hrel
    obtain ⟨x8, x0, x1, x2, x3, x4, x5, x6, x7⟩ := HB.out.kept hbr.out (Nat.lt_succ_self _)
    by_cases hlt : j < V.l.length
    · have hO := H.out.kept (hbr.out.mono (by omega))
      obtain ⟨X, hX⟩ : ∃ X, V.l[j]? = some X := ⟨_, List.getElem?_eq_getElem hlt⟩
      obtain ⟨b, off, oL3, oK3, cL3, cK3, c3, e1, hb, ⟨y0, y1, y2, y3, y4, y5, y6, y7⟩, OX⟩ := hO.L.elv hlt (hO.el j X hX)
      have HX := Lib.hid hX
      have OX2 := Lib.hid OX
      subst e1
      clear hX OX hO
      go_wp2_with fail
      with_reducible refine (HF.out _ X _ _ OX2.out.lies (by have := hbr.out.size; have := HZ.out; omega)).mono ?_
      rintro e w2 ⟨rfl, b2⟩
      have B2 := Lib.hid (hbr.out.trans (b2.mono (by have := hbr.out.size; have := HZ.out; omega)))
      clear b2
      cases ho : okT m X with
      | false =>
        have HR := Lib.hid (okT_el HX.out ho)
        clear ho
        go_wp2_with fail
        go_ret
        exact ⟨by rw [HR.out]; rfl, HW.out.trans (B2.out.mono (by omega))⟩
      | true =>
        have HR : Hid (okN m V (j + 1) = true) := by unfold Hid; rw [okN_succ HX.out, HO.out, ho]; rfl
        clear ho
        go_wp2_with fail
        go_roundw
        case rel => exact ⟨j + 1, by omega, by go_num, HR, B2⟩
        case measure => simp [intOf]; omega
    · have hjl : j = V.l.length := by omega
      have HR : Hid (okT (m + 1) V = true) := okT_all H1.out (by rw [hjl] at HO; exact HO.out)
      clear HO
      subst hjl
      go_wp2_with fail
      go_ret
      exact ⟨by rw [HR.out]; rfl, HW.out.trans (hbr.out.mono (by omega))⟩
set_option maxRecDepth 100000 in
set_option maxHeartbeats 4000000 in
theorem rchk_5_yes (m : Nat) (hm : m ≤ 8) (V : Val) (v : Value) (w : World) (n : Nat) (hk : V.k = 5) (h : Lies n w V v) (hn : n ≤ w.heap.size) (hf : ∀ (n : Nat) (V : Val) (v : Value) (w : World), Lies n w V v → n ≤ w.heap.size → Calls Tryd.prog 44 #[v, .int .i64 m] w fun e w' => e = .returned (.bool (okT m V)) ∧ Below w.heap.size w w') (d0 : V.i = 0) (d1 : V.s.toList.isEmpty = true) (d2 : V.tk = 0) (d3 : V.to = 0) (d4 : V.l.length ≤ 128) (d5 : V.ks.length = V.l.length) (d6 : keysOk V.ks = true) : Calls Tryd.prog 44 #[v, .int .i64 ((m + 1 : Nat) : Int)] w fun e w' => e = .returned (.bool (okT (m + 1) V)) ∧ Below w.heap.size w w' := by
  obtain ⟨oL, oK, cL, cK, c, rfl, O⟩ := h.inv
  have l1 := O.L.1
  have l2 := O.L.2.1
  have l3 := O.K.1
  have l4 := O.K.2.1
  have ws : V.s.size = 0 := emp_size d1
  unfold maxLen at l2 l4
  have H1 : Hid (ok1 V = true) := ok1_mk (by omega) (by omega) (by omega) (.inr d1) (by omega) (.inr ⟨d2, d3⟩) (by omega) (by omega) (by omega) (by omega) (fun _ => ⟨d5, d6⟩)
  have HF := Lib.hid hf
  have HB := Lib.hid (Hd.made w V (.slice oL V.l.length cL) (.slice oK V.ks.length cK))
  have HW := Lib.hid ((Below.refl w.heap.size w).alloc (Nat.le_refl _) (bx V oL oK cL cK))
  have HZ : Hid ((w.alloc (bx V oL oK cL cK)).heap.size = w.heap.size + 1) := by simp [Hid]
  have H := Lib.hid (O.kept (HW.out.mono hn))
  generalize hw0 : w.alloc (bx V oL oK cL cK) = w0 at *
  unfold bx at hw0
  rw [hk, d0, d2, d3] at hw0 ⊢
  have HD := Lib.hid (And.intro hk (And.intro d0 (And.intro d2 (And.intro d3 (And.intro ws d5)))))
  obtain ⟨x8, x0, x1, x2, x3, x4, x5, x6, x7⟩ := HB.out
  rw [hk] at x0
  rw [d0] at x1
  rw [d2] at x5
  rw [d3] at x6
  have hws : ¬ 1024 < (V.s.size : Int) := by omega
  have O0 := O
  clear h O hk hf d0 d2 d3 ws
  have d7 : ((V.ks.length : Int) != (V.l.length : Int)) = false := by simp [d5]
  have H6 := Lib.hid d6
  have KR := Lib.hid (And.intro (O0.K.below (HW.out.mono hn)) O0.wks)
  clear d5 d6 O0
  go_enter Tryd.func44, Tryd.ntmps44
  go_wp2_with fail
  have HE := Lib.hid hw0
  clear hw0
  clear x8 x0 x1 x2 x3 x4 x5 x6 x7 d7
  go_loopw [5] (fun i wr => ∃ j : Nat, j ≤ V.ks.length ∧ i = .int .i64 j ∧ Hid (keysOkN V.ks j = true) ∧ Hid (Below (w.heap.size + 1) w0 wr)) (fun i _ => V.ks.length - (intOf i).toNat)
  case atStart => exact ⟨0, Nat.zero_le _, rfl, rfl, Below.refl _ _⟩
  case round =>
    obtain ⟨j, hj, rfl, hok, hbr⟩ := hrel
    obtain ⟨x8, x0, x1, x2, x3, x4, x5, x6, x7⟩ := HB.out.kept hbr.out (Nat.lt_succ_self _)
    by_cases hlt : j < V.ks.length
    · obtain ⟨b, off, e1, hb, y0⟩ := (KR.out.1.below (hbr.out.mono (by omega))).key hlt
      subst e1
      have hz : (kk V.ks j).size ≤ 9223372036854775807 := by have := KR.out.2 _ (kk_mem hlt); unfold maxLen at this; omega
      by_cases h1 : 1024 < (kk V.ks j).size
      · have HX : Hid (keysOk V.ks = false) := keysOk_no hlt (by unfold keyOk; rw [decide_eq_false (by omega)]; rfl)
        exfalso; rw [show keysOk V.ks = false from HX.out] at H6; exact absurd H6.out (by decide)
      · by_cases h2 : j = 0
        · subst h2
          simp only [Nat.add_zero] at y0
          have HX : Hid (keysOkN V.ks (0 + 1) = true) := by unfold Hid; rw [keysOkN_succ, hok.out]; unfold keyOk; rw [decide_eq_true (by omega)]; rfl
          have g1 : decide (1024 < ((kk V.ks 0).size : Int)) = false := by simp; omega
          have HB2 := hbr
          clear hbr
          go_wp2_with fail
          go_quiet (fail)
          go_wp2_with fail
          go_roundw
          case rel => exact ⟨0 + 1, by omega, by go_num, HX, below_drewN HB2.out _⟩
          case measure => simp [intOf]; omega
        · obtain ⟨i, rfl⟩ : ∃ i, j = i + 1 := ⟨j - 1, by omega⟩
          obtain ⟨b', off', e2, _, y1⟩ := (KR.out.1.below (hbr.out.mono (by omega))).key (show i < V.ks.length by omega)
          injection e2 with e2
          injection e2 with e2 e3
          subst e2 e3
          have g1 : decide (1024 < ((kk V.ks (i + 1)).size : Int)) = false := by simp; omega
          have HK2 : Hid (keyOk V.ks (i + 1) = bl (kk V.ks i) (kk V.ks (i + 1))) := by unfold Hid keyOk; rw [decide_eq_true (by omega)]; simp
          clear h1 h2
          have HB2 := hbr
          clear hbr
          cases hb2 : bl (kk V.ks i) (kk V.ks (i + 1)) with
          | false =>
            rw [hb2] at HK2
            have HX : Hid (keysOk V.ks = false) := keysOk_no hlt HK2.out
            have e4 : Op.bytesLess (kk V.ks i).toList (kk V.ks (i + 1)).toList = false := hb2
            clear hb2
            exfalso; rw [show keysOk V.ks = false from HX.out] at H6; exact absurd H6.out (by decide)
          | true =>
            rw [hb2] at HK2
            have e4 : Op.bytesLess (kk V.ks i).toList (kk V.ks (i + 1)).toList = true := hb2
            clear hb2
            have HX : Hid (keysOkN V.ks (i + 1 + 1) = true) := by unfold Hid; rw [keysOkN_succ, hok.out, HK2.out]; rfl
            go_wp2_with fail
            go_quiet (fail)
            go_wp2_with fail
            go_roundw
            case rel => exact ⟨i + 1 + 1, by omega, by go_num, HX, below_drewN HB2.out _⟩
            case measure => simp [intOf]; omega
    · have hjl : j = V.ks.length := by omega
      subst hjl
      go_wp2_with fail
      clear x8 x0 x1 x2 x3 x4 x5 x6 x7
      have HBR := hbr
      clear hbr hok
      go_loopw [6] (fun i wr => ∃ j : Nat, j ≤ V.l.length ∧ i = .int .i64 j ∧ Hid (okN m V j = true) ∧ Hid (Below (w.heap.size + 1) w0 wr)) (fun i _ => V.l.length - (intOf i).toNat)
      case atStart => exact ⟨0, Nat.zero_le _, rfl, rfl, HBR.out⟩
      case round =>
        obtain ⟨j, hj, rfl, HO, hbr⟩ := hrel
        obtain ⟨x8, x0, x1, x2, x3, x4, x5, x6, x7⟩ := HB.out.kept hbr.out (Nat.lt_succ_self _)
        by_cases hlt : j < V.l.length
        · have hO := H.out.kept (hbr.out.mono (by omega))
          obtain ⟨X, hX⟩ : ∃ X, V.l[j]? = some X := ⟨_, List.getElem?_eq_getElem hlt⟩
          obtain ⟨b, off, oL3, oK3, cL3, cK3, c3, e1, hb, ⟨y0, y1, y2, y3, y4, y5, y6, y7⟩, OX⟩ := hO.L.elv hlt (hO.el j X hX)
          have HX := Lib.hid hX
          have OX2 := Lib.hid OX
          subst e1
          clear hX OX hO
          go_wp2_with fail
          with_reducible refine (HF.out _ X _ _ OX2.out.lies (by have := hbr.out.size; have := HZ.out; omega)).mono ?_
          rintro e w2 ⟨rfl, b2⟩
          have B2 := Lib.hid (hbr.out.trans (b2.mono (by have := hbr.out.size; have := HZ.out; omega)))
          clear b2
          cases ho : okT m X with
          | false =>
            have HR := Lib.hid (okT_el HX.out ho)
            clear ho
            go_wp2_with fail
            go_ret
            exact ⟨by rw [HR.out]; rfl, HW.out.trans (B2.out.mono (by omega))⟩
          | true =>
            have HR : Hid (okN m V (j + 1) = true) := by unfold Hid; rw [okN_succ HX.out, HO.out, ho]; rfl
            clear ho
            go_wp2_with fail
            go_roundw
            case rel => exact ⟨j + 1, by omega, by go_num, HR, B2⟩
            case measure => simp [intOf]; omega
        · have hjl : j = V.l.length := by omega
          have HR : Hid (okT (m + 1) V = true) := okT_all H1.out (by rw [hjl] at HO; exact HO.out)
          clear HO
          subst hjl
          go_wp2_with fail
          go_ret
          exact ⟨by rw [HR.out]; rfl, HW.out.trans (hbr.out.mono (by omega))⟩

set_option maxRecDepth 100000 in
set_option maxHeartbeats 4000000 in
theorem rchk_5_bad (m : Nat) (V : Val) (v : Value) (w : World) (n : Nat) (hk : V.k = 5) (h : Lies n w V v) (hn : n ≤ w.heap.size) (hf : ∀ (n : Nat) (V : Val) (v : Value) (w : World), Lies n w V v → n ≤ w.heap.size → Calls Tryd.prog 44 #[v, .int .i64 m] w fun e w' => e = .returned (.bool (okT m V)) ∧ Below w.heap.size w w') (d0 : V.i = 0) (d1 : V.s.toList.isEmpty = true) (d2 : V.tk = 0) (d3 : V.to = 0) (d4 : V.l.length ≤ 128) (d5 : V.ks.length = V.l.length) (d6 : keysOk V.ks = false) : Calls Tryd.prog 44 #[v, .int .i64 ((m + 1 : Nat) : Int)] w fun e w' => e = .returned (.bool (okT (m + 1) V)) ∧ Below w.heap.size w w' := by
  obtain ⟨oL, oK, cL, cK, c, rfl, O⟩ := h.inv
  have l1 := O.L.1
  have l2 := O.L.2.1
  have l3 := O.K.1
  have l4 := O.K.2.1
  have ws : V.s.size = 0 := emp_size d1
  unfold maxLen at l2 l4
  have H1 : Hid (okT (m + 1) V = false) := okT_no (ok1_no fun hh => by have f := ((ok1_facts hh).2.2.2.2.2.2.2.2.2.2 hk).2; rw [d6] at f; cases f)
  have HF := Lib.hid hf
  have HB := Lib.hid (Hd.made w V (.slice oL V.l.length cL) (.slice oK V.ks.length cK))
  have HW := Lib.hid ((Below.refl w.heap.size w).alloc (Nat.le_refl _) (bx V oL oK cL cK))
  have HZ : Hid ((w.alloc (bx V oL oK cL cK)).heap.size = w.heap.size + 1) := by simp [Hid]
  have H := Lib.hid (O.kept (HW.out.mono hn))
  generalize hw0 : w.alloc (bx V oL oK cL cK) = w0 at *
  unfold bx at hw0
  rw [hk, d0, d2, d3] at hw0 ⊢
  have HD := Lib.hid (And.intro hk (And.intro d0 (And.intro d2 (And.intro d3 (And.intro ws d5)))))
  obtain ⟨x8, x0, x1, x2, x3, x4, x5, x6, x7⟩ := HB.out
  rw [hk] at x0
  rw [d0] at x1
  rw [d2] at x5
  rw [d3] at x6
  have hws : ¬ 1024 < (V.s.size : Int) := by omega
  have O0 := O
  clear h O hk hf d0 d2 d3 ws
  have d7 : ((V.ks.length : Int) != (V.l.length : Int)) = false := by simp [d5]
  have H6 := Lib.hid d6
  have KR := Lib.hid (And.intro (O0.K.below (HW.out.mono hn)) O0.wks)
  clear d5 d6 O0
  go_enter Tryd.func44, Tryd.ntmps44
  go_wp2_with fail
  have HE := Lib.hid hw0
  clear hw0
  clear x8 x0 x1 x2 x3 x4 x5 x6 x7 d7
  go_loopw [5] (fun i wr => ∃ j : Nat, j ≤ V.ks.length ∧ i = .int .i64 j ∧ Hid (keysOkN V.ks j = true) ∧ Hid (Below (w.heap.size + 1) w0 wr)) (fun i _ => V.ks.length - (intOf i).toNat)
  case atStart => exact ⟨0, Nat.zero_le _, rfl, rfl, Below.refl _ _⟩
  case round =>
    obtain ⟨j, hj, rfl, hok, hbr⟩ := hrel
    obtain ⟨x8, x0, x1, x2, x3, x4, x5, x6, x7⟩ := HB.out.kept hbr.out (Nat.lt_succ_self _)
    by_cases hlt : j < V.ks.length
    · obtain ⟨b, off, e1, hb, y0⟩ := (KR.out.1.below (hbr.out.mono (by omega))).key hlt
      subst e1
      have hz : (kk V.ks j).size ≤ 9223372036854775807 := by have := KR.out.2 _ (kk_mem hlt); unfold maxLen at this; omega
      by_cases h1 : 1024 < (kk V.ks j).size
      · have HX : Hid (keysOk V.ks = false) := keysOk_no hlt (by unfold keyOk; rw [decide_eq_false (by omega)]; rfl)
        have g1 : decide (1024 < ((kk V.ks j).size : Int)) = true := by simp; omega
        go_wp2_with fail
        go_quiet (fail)
        go_wp2_with fail
        go_ret
        exact ⟨by rw [H1.out]; rfl, HW.out.trans ((below_drewN hbr.out _).mono (by omega))⟩
      · by_cases h2 : j = 0
        · subst h2
          simp only [Nat.add_zero] at y0
          have HX : Hid (keysOkN V.ks (0 + 1) = true) := by unfold Hid; rw [keysOkN_succ, hok.out]; unfold keyOk; rw [decide_eq_true (by omega)]; rfl
          have g1 : decide (1024 < ((kk V.ks 0).size : Int)) = false := by simp; omega
          have HB2 := hbr
          clear hbr
          go_wp2_with fail
          go_quiet (fail)
          go_wp2_with fail
          go_roundw
          case rel => exact ⟨0 + 1, by omega, by go_num, HX, below_drewN HB2.out _⟩
          case measure => simp [intOf]; omega
        · obtain ⟨i, rfl⟩ : ∃ i, j = i + 1 := ⟨j - 1, by omega⟩
          obtain ⟨b', off', e2, _, y1⟩ := (KR.out.1.below (hbr.out.mono (by omega))).key (show i < V.ks.length by omega)
          injection e2 with e2
          injection e2 with e2 e3
          subst e2 e3
          have g1 : decide (1024 < ((kk V.ks (i + 1)).size : Int)) = false := by simp; omega
          have HK2 : Hid (keyOk V.ks (i + 1) = bl (kk V.ks i) (kk V.ks (i + 1))) := by unfold Hid keyOk; rw [decide_eq_true (by omega)]; simp
          clear h1 h2
          have HB2 := hbr
          clear hbr
          cases hb2 : bl (kk V.ks i) (kk V.ks (i + 1)) with
          | false =>
            rw [hb2] at HK2
            have HX : Hid (keysOk V.ks = false) := keysOk_no hlt HK2.out
            have e4 : Op.bytesLess (kk V.ks i).toList (kk V.ks (i + 1)).toList = false := hb2
            clear hb2
            go_wp2_with fail
            go_quiet (fail)
            go_wp2_with fail
            go_ret
            exact ⟨by rw [H1.out]; rfl, HW.out.trans ((below_drewN HB2.out _).mono (by omega))⟩
          | true =>
            rw [hb2] at HK2
            have e4 : Op.bytesLess (kk V.ks i).toList (kk V.ks (i + 1)).toList = true := hb2
            clear hb2
            have HX : Hid (keysOkN V.ks (i + 1 + 1) = true) := by unfold Hid; rw [keysOkN_succ, hok.out, HK2.out]; rfl
            go_wp2_with fail
            go_quiet (fail)
            go_wp2_with fail
            go_roundw
            case rel => exact ⟨i + 1 + 1, by omega, by go_num, HX, below_drewN HB2.out _⟩
            case measure => simp [intOf]; omega
    · have hjl : j = V.ks.length := by omega
      subst hjl
      exfalso; have e := H6.out; rw [show keysOk V.ks = true from hok.out] at e; cases e
end Go.Proofs.YtfmgbhaldakpfaaDoor

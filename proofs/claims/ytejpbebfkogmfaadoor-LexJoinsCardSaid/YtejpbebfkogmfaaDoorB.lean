/- Contracts: in, behind, between, byteAt. -/
import Derived.Test.YtejpbebfkogmfaaDoorA
import Derived.LoopTactic
import Derived.RegionTactic
import Derived.ChangeAlike
import Derived.BigGuardPart
import Derived.Handy
import Derived.WalkLawsBesides
import Derived.WalkSpells
import Derived.Deep.DeepFit
namespace Go.Proofs.YtejpbebfkogmfaaDoor
open Go.RowKit

theorem ret_b {a b : Bool} (h : a = b) : Ending.returned (.bool a) = .returned (.bool b) := by rw [h]
theorem ret_nat {a b : Nat} (h : a = b) : Ending.returned (.int .i64 (a : Int)) = .returned (.int .i64 (b : Int)) := by rw [h]
abbrev Is (w : World) (b : Bool) (e : Ending) (w' : World) : Prop := e = .returned (.bool b) ∧ w = w'
abbrev IsN (w : World) (n : Nat) (e : Ending) (w' : World) : Prop := e = .returned (.int .i64 (n : Int)) ∧ w = w'
/-- the table of classes -/
def clsT : List Int := [4294968832, 0, 0, 0, 0, 576460745860972544, 0, 0, 287948901175001088, 0, 0, 0, 287948901175001088, 576460745860972544, 0, 0, 17582333466748387328, 2882303762188206080, 0, 0, 18446744056529681407, 15564440312192434175, 18446744073709551615, 18446744073709551615, 18446744073709550591, 18446744073709551615, 18446744073709551615, 18446744073709551615]
def Tab (w : World) : Prop := 0 < w.heap.size ∧ ∀ i, i < 28 → w.cell? ⟨0, i, none⟩ = some (.int .u64 (clsT.getD i 0))
theorem Tab.below {B : Nat} {w w' : World} (h : Tab w) (hb : Below B w w') (hB : 0 < B) : Tab w' :=
  ⟨Nat.lt_of_lt_of_le h.1 hb.size, fun i hi => (hb.cell (p := ⟨0, i, none⟩) hB).trans (h.2 i hi)⟩
def clsB (k c : Nat) : Bool := bits .and .u64 (clsT.getD (k * 4 + c / 64) 0 / 2 ^ (c % 64)) 1 != 0
theorem all256 {f g : Nat → Bool} (h : (List.range 256).all (fun c => f c == g c) = true) (c : Nat) (hc : c < 256) : f c = g c := by
  rw [List.all_eq_true] at h
  exact eq_of_beq (h c (List.mem_range.2 hc))
/-- the class k has the bytes of p -/
structure IsCls (k : Nat) (p : Nat → Bool) : Prop where
  lt : k < 7
  h : ∀ c, c < 256 → clsB k c = p c
theorem cls0 : IsCls 0 isBlank := ⟨by decide, all256 (by kernel_rfl)⟩
theorem cls1 : IsCls 1 isLetter := ⟨by decide, all256 (by kernel_rfl)⟩
theorem cls2 : IsCls 2 isDgt := ⟨by decide, all256 (by kernel_rfl)⟩
theorem cls3 : IsCls 3 isWord := ⟨by decide, all256 (by kernel_rfl)⟩
theorem cls4 : IsCls 4 isMark := ⟨by decide, all256 (by kernel_rfl)⟩
theorem cls5 : IsCls 5 isInner := ⟨by decide, all256 (by kernel_rfl)⟩
theorem cls6 : IsCls 6 isRemark := ⟨by decide, all256 (by kernel_rfl)⟩
theorem in_any {k : Nat} {p : Nat → Bool} (hp : IsCls k p) (c : Nat) (hc : c < 256) (w : World) (hT : Tab w) : Calls Tryd.prog 25 #[.int .i64 k, .int .u8 c] w (Is w (p c)) := by
  have HP := Lib.hid (hp.h c hc)
  have hk := hp.lt
  have h1 : (k : Int) < 7 := by omega
  have hx := hT.2 (k * 4 + c / 64) (by omega)
  obtain ⟨X, hX⟩ : ∃ X, clsT.getD (k * 4 + c / 64) 0 = X := ⟨_, rfl⟩
  rw [hX] at hx
  have HX := Lib.hid hX
  clear hX hT hp
  go_enter Tryd.func25, Tryd.ntmps25
  go_wp2_with fail
  go_ret
  refine ⟨ret_b ?_, rfl⟩
  rw [← HP.out]
  unfold clsB
  rw [HX.out]
theorem byteAt_in {s : ByteArray} {k : Nat} (h : k < s.size) (w : World) : Calls Tryd.prog 38 #[.string s, .int .i64 k] w fun e w' => e = .returned (.int .u8 (s[k].toNat : Int)) ∧ w = w' := by
  have h1 : (k : Int) < s.size := by omega
  go_enter Tryd.func38, Tryd.ntmps38
  go_wp2
  go_ret
  exact ⟨rfl, rfl⟩
theorem byteAt_out {s : ByteArray} {k : Nat} (h : s.size ≤ k) (w : World) : Calls Tryd.prog 38 #[.string s, .int .i64 k] w fun e w' => e = .returned (.int .u8 0) ∧ w = w' := by
  have h1 : ¬ (k : Int) < s.size := by omega
  go_enter Tryd.func38, Tryd.ntmps38
  go_wp2
  go_ret
  exact ⟨rfl, rfl⟩
/-- the bytes of a text -/
abbrev lb (s : ByteArray) : List UInt8 := s.data.toList
theorem lb_get {s : ByteArray} {k : Nat} (h : k < s.size) : (lb s)[k]'(by rw [L_len]; exact h) = s[k] := L_get s k h
theorem u8_lt (c : UInt8) : c.toNat < 256 := UInt8.toNat_lt c
set_option maxHeartbeats 1000000 in
theorem behind_any {k : Nat} {p : Nat → Bool} (hp : IsCls k p) (s : ByteArray) (a : Nat) (w : World) (hT : Tab w) (hs : s.size ≤ 32768) (ha : a ≤ s.size) :
    Calls Tryd.prog 24 #[.string s, .int .i64 a, .int .i64 k] w (IsN w (bhd p (lb s) a)) := by
  have HI := Lib.hid (fun c (hc : c < 256) => in_any hp c hc w hT)
  have hk := hp.lt
  clear hT hp
  go_enter Tryd.func24, Tryd.ntmps24
  go_wp2_with fail
  go_loop [1] (fun i => ∃ j : Nat, j ≤ s.size ∧ i = .int .i64 j ∧ Hid (bhd p (lb s) a = bhd p (lb s) j)) (fun i => s.size - (intOf i).toNat)
  case atStart => exact ⟨a, ha, rfl, rfl⟩
  case round =>
    obtain ⟨j, hj, rfl, HJ⟩ := hrel
    by_cases hlt : j < s.size
    · have C := HI.out (s[j].toNat) (u8_lt _)
      cases hc : p (s[j].toNat) with
      | true =>
        have HR := Lib.hid (HJ.out.trans (bhd_yes p (lb s) j (by rw [L_len]; exact hlt) (by rw [lb_get hlt]; exact hc)))
        rw [hc] at C
        have C := Lib.hid C
        clear hc
        go_wp2_with fail
        refine C.out.mono ?_
        rintro e w1 ⟨rfl, rfl⟩
        go_wp2_with fail
        go_round
        case rel => exact ⟨j + 1, by omega, by go_num, HR⟩
        case measure => simp [intOf]; omega
      | false =>
        have HR := Lib.hid (HJ.out.trans (bhd_no p (lb s) j (by rw [L_len]; exact hlt) (by rw [lb_get hlt]; exact hc)))
        rw [hc] at C
        have C := Lib.hid C
        clear hc
        go_wp2_with fail
        refine C.out.mono ?_
        rintro e w1 ⟨rfl, rfl⟩
        go_wp2_with fail
        go_ret
        exact ⟨ret_nat HR.out.symm, rfl⟩
    · have HR := Lib.hid (HJ.out.trans (bhd_end p (lb s) j (by rw [L_len]; omega)))
      go_wp2_with fail
      go_ret
      exact ⟨ret_nat HR.out.symm, rfl⟩
/-- the place behind blanks and comments -/
def btw (L : List UInt8) (a : Nat) : Nat := L.length - (skip (L.drop a)).length
theorem dropP_cons_yes (p : Nat → Bool) (c : UInt8) (r : List UInt8) (h : p c.toNat = true) : dropP p (c :: r) = dropP p r := by unfold dropP; rw [List.dropWhile_cons, if_pos h]
theorem skc_le : ∀ (f : Nat) (l : List UInt8), (skc f l).length ≤ l.length
  | 0, l => Nat.le_refl _
  | f + 1, [] => Nat.le_refl _
  | f + 1, c :: r => by
    rw [skc]
    split
    · have h1 := skc_le f (dropP isBlank (dropP isRemark (c :: r)))
      have h2 := dropP_le isBlank (dropP isRemark (c :: r))
      have h3 := dropP_le isRemark (c :: r)
      omega
    · exact Nat.le_refl _
theorem skip_le (l : List UInt8) : (skip l).length ≤ l.length := Nat.le_trans (skc_le _ _) (dropP_le _ _)
set_option maxHeartbeats 1000000 in
theorem between_any (s : ByteArray) (a : Nat) (w : World) (hT : Tab w) (hs : s.size ≤ 32768) (ha : a ≤ s.size) :
    Calls Tryd.prog 19 #[.string s, .int .i64 a] w (IsN w (btw (lb s) a)) := by
  have HB := Lib.hid (fun j (hj : j ≤ s.size) => behind_any cls0 s j w hT hs hj)
  have HR := Lib.hid (fun j (hj : j ≤ s.size) => behind_any cls6 s j w hT hs hj)
  have LS : (lb s).length = s.size := L_len s
  have LS' := Lib.hid LS
  have hle := bhd_le isBlank (lb s) a (by omega)
  have H0 : Hid (btw (lb s) a = s.size - (skc ((lb s).length - a) ((lb s).drop (bhd isBlank (lb s) a))).length) := by unfold Hid btw skip; rw [drop_bhd, List.length_drop, LS]
  rw [LS] at hle
  obtain ⟨j0, hj0⟩ : ∃ j, bhd isBlank (lb s) a = j := ⟨_, rfl⟩
  rw [hj0] at hle
  have HJ0 := Lib.hid hj0
  have B0 := HB.out a ha
  rw [hj0] at H0 B0
  have B0 := Lib.hid B0
  have hge := bhd_ge isBlank (lb s) a
  rw [hj0] at hge
  clear hT hj0 LS
  go_enter Tryd.func19, Tryd.ntmps19
  go_wp2_with fail
  refine B0.out.mono ?_
  rintro e w1 ⟨rfl, rfl⟩
  go_wp2_with fail
  go_loop [1] (fun i => ∃ j f : Nat, j ≤ s.size ∧ i = .int .i64 j ∧ s.size - j ≤ f ∧ Hid (btw (lb s) a = s.size - (skc f ((lb s).drop j)).length)) (fun i => s.size - (intOf i).toNat)
  case atStart => exact ⟨j0, _, hle, rfl, by rw [LS'.out]; omega, H0⟩
  case round =>
    obtain ⟨j, f, hj, rfl, hf, HJ⟩ := hrel
    by_cases hlt : j < s.size
    · have hcons := List.drop_eq_getElem_cons (l := lb s) (i := j) (by rw [LS'.out]; exact hlt)
      rw [lb_get hlt] at hcons
      obtain ⟨f', rfl⟩ : ∃ f', f = f' + 1 := ⟨f - 1, by omega⟩
      by_cases hc : (s[j].toNat : Int) = 35
      · have hcc : s[j] = 35 := UInt8.toNat_inj.1 (by have : (35 : UInt8).toNat = 35 := rfl; omega)
        have hb1 : bhd isRemark (lb s) j = bhd isRemark (lb s) (j + 1) := bhd_yes _ _ _ (by rw [LS'.out]; exact hlt) (by rw [lb_get hlt, hcc]; rfl)
        have hg1 := bhd_ge isRemark (lb s) (j + 1)
        have hl1 := bhd_le isRemark (lb s) j (by rw [LS'.out]; omega)
        have hg2 := bhd_ge isBlank (lb s) (bhd isRemark (lb s) j)
        have hl2 := bhd_le isBlank (lb s) (bhd isRemark (lb s) j) hl1
        have HN : Hid (btw (lb s) a = s.size - (skc f' ((lb s).drop (bhd isBlank (lb s) (bhd isRemark (lb s) j)))).length) := by
          unfold Hid
          rw [HJ.out, hcons, skc]
          simp only [hcc, if_true]
          rw [drop_bhd, drop_bhd, hcons, hcc]
        have C1 := HR.out j hj
        rw [LS'.out] at hl1 hl2
        have C2 := HB.out _ hl1
        rw [← hb1] at hg1
        clear hb1 hcons
        generalize bhd isRemark (lb s) j = j1 at *
        generalize bhd isBlank (lb s) j1 = j2 at *
        have t1 : ((s[j].toNat : Int) == 35) = true := by simpa using hc
        clear hc hcc
        have C1 := Lib.hid C1
        have C2 := Lib.hid C2
        go_wp2_with fail
        refine C1.out.mono ?_
        rintro e w1 ⟨rfl, rfl⟩
        go_wp2_with fail
        refine C2.out.mono ?_
        rintro e w1 ⟨rfl, rfl⟩
        go_wp2_with fail
        go_round
        case rel => exact ⟨j2, f', hl2, rfl, by omega, HN⟩
        case measure => simp [intOf]; omega
      · have HN : Hid (btw (lb s) a = j) := by
          unfold Hid
          rw [HJ.out, hcons, skc]
          have : ¬ s[j] = 35 := fun h => hc (by rw [h]; rfl)
          simp only [this, if_false, List.length_cons, List.length_drop]
          rw [LS'.out]; omega
        have t1 : ((s[j].toNat : Int) == 35) = false := by simpa using hc
        clear hc hcons
        go_wp2_with fail
        go_ret
        exact ⟨ret_nat HN.out.symm, rfl⟩
    · have HN : Hid (btw (lb s) a = j) := by
        unfold Hid
        rw [HJ.out, List.drop_eq_nil_of_le (by rw [LS'.out]; omega)]
        cases f <;> simp only [skc, List.length_nil] <;> omega
      go_wp2_with fail
      go_ret
      exact ⟨ret_nat HN.out.symm, rfl⟩
end Go.Proofs.YtejpbebfkogmfaaDoor

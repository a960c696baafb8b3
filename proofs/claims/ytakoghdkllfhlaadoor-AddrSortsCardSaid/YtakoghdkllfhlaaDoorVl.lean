/- AddrSorts: the law's walk. -/
import Derived.Test.YtakoghdkllfhlaaDoorVj
import Derived.Test.YtakoghdkllfhlaaDoorJ
namespace Go.Proofs.YtakoghdkllfhlaaDoor
open Go.RowKit

theorem own_empty (w : World) : (w.alloc (.cells #[] 26)).ownsRow w.heap.size 26 6 (.slice (some ⟨w.heap.size, 0, none⟩) 0 0) ([] : List Obt).length (([] : List Obt).flatMap ke) :=
  World.ownsRow_made w #[] 0 (base := w.heap.size) (e := 26) (size := 6) (Nat.le_refl _) (Nat.zero_le _) rfl
set_option maxRecDepth 100000 in
set_option maxHeartbeats 4000000 in
theorem lsorts_any {p : Option Addr} {cap : Nat} {l : List Obt} {w : World} (hK : Ks w p cap l) (hok : ∀ k, k ∈ l → OkObt k) : Calls Tryd.prog 5 #[.slice p l.length cap] w (Tru w true) := by
  have HK := Lib.hid hK
  have HO := Lib.hid hok
  have l1 := hK.lc
  have l2 := hK.cm
  unfold maxLen at l2
  clear hK hok
  by_cases hl : (60 : Int) < (l.length : Int)
  · go_enter Tryd.func5, Tryd.ntmps5
    go_wp2_with fail
    refine (awake_any _).mono ?_
    rintro e wz ⟨rfl, bz⟩
    have BZ := Lib.hid bz
    clear bz
    go_wp2_with fail
    go_ret
    exact ⟨rfl, BZ.out⟩
  have HL : Hid (l.length ≤ 60) := by unfold Hid; omega
  go_enter Tryd.func5, Tryd.ntmps5
  go_wp2_with fail
  go_loopw [3] (fun i wr => ∃ j : Nat, j ≤ l.length ∧ i = .int .i64 j ∧ Hid (Below w.heap.size w wr)) (fun i _ => l.length - (intOf i).toNat)
  case atStart => exact ⟨0, Nat.zero_le _, rfl, Below.refl _ _⟩
  case round =>
    obtain ⟨j, hj, rfl, HW⟩ := hrel
    by_cases hlt : j < l.length
    · have k1 : (j : Int) < (l.length : Int) := by omega
      obtain ⟨b, o, x, rfl, hb, hx, hc⟩ := HK.out.at hlt
      obtain ⟨y0, y1, y2, y3, y4, y5⟩ := hc.kept HW.out hb
      clear hb hx hc
      go_wp2_with fail
      refine (great_any x.a _).mono ?_
      rintro e w1 ⟨r, rfl, -, b1⟩
      have HW1 := Lib.hid (HW.out.trans (b1.mono HW.out.size))
      clear b1 y0 y1 y2 y3 y4 y5
      cases r with
      | true =>
        go_wp2_with fail
        refine (awake_any _).mono ?_
        rintro e wz ⟨rfl, bz⟩
        have BZ := Lib.hid (HW1.out.trans (bz.mono HW1.out.size))
        clear bz
        go_wp2_with fail
        go_ret
        exact ⟨rfl, BZ.out⟩
      | false =>
        go_wp2_with fail
        go_roundw
        case rel => exact ⟨j + 1, by omega, by go_num, HW1.out⟩
        case measure => simp [intOf]; omega
    · have hjl : j = l.length := by omega
      subst hjl
      have HE := Lib.hid (own_empty wr)
      have HA := Lib.hid (HW.out.alloc HW.out.size (.cells #[] 26))
      have HKA := Lib.hid (HK.out.below HA.out)
      go_wp2_with (first | (at_builtin; go_must (refine app_ks rfl (.tmp 22) (.tmp 23) rfl (base := wr.heap.size) (M := l) (N := []) rfl rfl HE.out HKA.out (by have := HL.out; simp; omega) (by simp) ?_)))
      intro v w1 h1 hb1
      have HR1 : Hid (w1.ownsRow wr.heap.size 26 6 v l.length (l.flatMap ke)) := by unfold Hid; simpa using h1
      have HW1 := Lib.hid (HA.out.trans (hb1.mono HW.out.size))
      clear h1 hb1 HE HA HKA
      obtain ⟨pv, cv, rfl, hkv⟩ := ks_of_own HR1.out
      have HKV := Lib.hid hkv
      clear hkv
      go_wp2_with fail
      refine (sort_any HKV.out HO.out HL.out).mono ?_
      rintro e w2 ⟨p1, c1, s1, rfl, hs1, hk1, b2⟩
      have H2 := Lib.hid (And.intro hs1 (And.intro hk1 b2))
      have HW2 := Lib.hid (HW1.out.trans (b2.mono HW1.out.size))
      clear hs1 hk1 b2
      go_wp2_with fail
      refine (rsort_any (HK.out.below HW2.out) HL.out).mono ?_
      rintro e w3 ⟨p2, c2, s2, rfl, hs2, hk2, b3⟩
      have H3 := Lib.hid (And.intro hs2 (And.intro hk2 b3))
      have HW3 := Lib.hid (HW2.out.trans (b3.mono HW2.out.size))
      clear hs2 hk2 b3
      go_wp2_with fail
      refine (samek_any (H2.out.2.1.below H3.out.2.2) H3.out.2.1).mono ?_
      rintro e w4 ⟨r4, rfl, hr4, b4⟩
      obtain rfl : r4 = true := hr4.2 (srt_uniq H2.out.1 H3.out.1)
      have H4 := Lib.hid b4
      have HW4 := Lib.hid (HW3.out.trans (b4.mono HW3.out.size))
      clear hr4 b4
      go_wp2_with fail
      refine (samek_any ((HKV.out.below H2.out.2.2).below (H3.out.2.2.trans (H4.out.mono H3.out.2.2.size))) (HK.out.below HW4.out)).mono ?_
      rintro e w5 ⟨r5, rfl, hr5, b5⟩
      obtain rfl : r5 = true := hr5.2 rfl
      have HW5 := Lib.hid (HW4.out.trans (b5.mono HW4.out.size))
      clear hr5 b5
      go_wp2_with fail
      refine (awake_any _).mono ?_
      rintro e wz ⟨rfl, bz⟩
      have BZ := Lib.hid (HW5.out.trans (bz.mono HW5.out.size))
      clear bz
      go_wp2_with fail
      go_ret
      exact ⟨rfl, BZ.out⟩
end Go.Proofs.YtakoghdkllfhlaaDoor

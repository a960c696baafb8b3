/- Great: a value that isn't holds little. -/
import Derived.Test.YtncjncacfagldaaDoorVS
namespace Go.Proofs.YtncjncacfagldaaDoor
open Go.RowKit

def GrPost (V : Val) (w : World) (e : Ending) (w' : World) : Prop := ∃ g : Nat, e = .returned (.int .i64 g) ∧ g ≤ 601 ∧ (g ≤ 600 → sz V ≤ g) ∧ Below w.heap.size w w'
/-- at a round's head of the keys: n so far -/
def GrK (V : Val) (g : Nat) : Prop := g ≤ 2300 ∧ 1 + min V.ks.length 700 ≤ g
/-- at a round's head of the elements -/
def GrL (V : Val) (j : Nat) (g : Nat) : Prop := g ≤ 2300 ∧ (g ≤ 600 → 1 + min V.ks.length 700 + szL (V.l.take j) ≤ g)
theorem szL_succ {l : List Val} {j : Nat} {X : Val} (h : l[j]? = some X) : szL (l.take (j + 1)) = szL (l.take j) + sz X := by
  rw [List.take_add_one, h, szL_eq, szL_eq, List.map_append, List.sum_append]; simp
theorem gr_end {V : Val} {g g' : Nat} {j : Nat} (h : GrL V j g) (hx : j = V.l.length ∨ 600 < g) (hg : g' = min g 601) : g' ≤ 601 ∧ (g' ≤ 600 → sz V ≤ g') := by
  refine ⟨by omega, fun h6 => ?_⟩
  have h1 : g ≤ 600 := by omega
  have h2 := h.2 h1
  have h3 : j = V.l.length := by omega
  rw [h3, List.take_length] at h2
  rw [sz_eq]; omega
set_option maxRecDepth 100000 in
set_option maxHeartbeats 4000000 in
theorem great_any (m : Nat) (hm : m ≤ 10) : ∀ (n : Nat) (V : Val) (v : Value) (w : World), Lies n w V v → n ≤ w.heap.size → Calls Tryd.prog 60 #[v, .int .i64 m] w (GrPost V w) := by
  induction m with
  | zero =>
    intro n V v w h hn
    obtain ⟨oL, oK, cL, cK, c, rfl, O⟩ := h.inv
    have l3 := O.K.1
    have l4 := O.K.2.1
    have ws := O.ws
    unfold maxLen at l4 ws
    clear h O
    go_enter Tryd.func60, Tryd.ntmps60
    go_wp2_with fail
    all_goals
      go_ret
      exact ⟨601, rfl, Nat.le_refl _, by omega, (Below.refl _ _).alloc (Nat.le_refl _) _⟩
  | succ m ih =>
    intro n V v w h hn
    obtain ⟨oL, oK, cL, cK, c, rfl, O⟩ := h.inv
    have IH := Lib.hid (ih (by omega))
    have l1 := O.L.1
    have l2 := O.L.2.1
    have l3 := O.K.1
    have l4 := O.K.2.1
    have ws := O.ws
    have HB := Lib.hid (Hd.made w V (.slice oL V.l.length cL) (.slice oK V.ks.length cK))
    have HW := Lib.hid ((Below.refl w.heap.size w).alloc (Nat.le_refl _) (bx V oL oK cL cK))
    have HZ : Hid ((w.alloc (bx V oL oK cL cK)).heap.size = w.heap.size + 1) := by simp [Hid]
    have H := Lib.hid (O.kept (HW.out.mono hn))
    unfold maxLen at l2 l4 ws
    clear h ih O
    go_enter Tryd.func60, Tryd.ntmps60
    go_wp2_with fail
    all_goals
      generalize w.alloc _ = w0 at *
      go_loopw [5, 6] (fun s i wr => ∃ j g : Nat, j ≤ V.ks.length ∧ g ≤ 2300 ∧ i = .int .i64 j ∧ s = .int .i64 g ∧ Hid (GrK V g) ∧ Hid (Below (w.heap.size + 1) w0 wr)) (fun _ i _ => V.ks.length - (intOf i).toNat)
      case atStart => exact ⟨0, 1 + min V.s.size 2000 / 4 + min V.ks.length 700, by omega, by omega, rfl, congrArg _ (by omega), ⟨by omega, by omega⟩, Below.refl _ _⟩
      case round =>
        obtain ⟨j, g, hj, hg, rfl, rfl, hrel, hbr⟩ := hrel
        obtain ⟨x8, x0, x1, x2, x3, x4, x5, x6, x7⟩ := HB.out.kept hbr.out (Nat.lt_succ_self _)
        by_cases hlt : j < V.ks.length
        · by_cases hg6 : g ≤ 600
          · have hO := H.out.kept (hbr.out.mono (by omega))
            obtain ⟨b, off, e1, hb, y0⟩ := hO.K.key hlt
            have hz : (kk V.ks j).size ≤ 9223372036854775807 := by have := hO.wks _ (kk_mem hlt); unfold maxLen at this; omega
            subst e1
            clear hO
            go_wp2_with fail
            all_goals
              go_roundw
              case rel => exact ⟨j + 1, g + min (kk V.ks j).size 4000 / 4, by omega, by omega, by go_num, congrArg _ (by omega), ⟨by omega, by have := hrel.out.2; omega⟩, hbr⟩
              case measure => simp [intOf]; omega
          · go_wp2_with fail
            have HG0 : Hid (GrL V 0 g) := ⟨hrel.out.1, fun _ => by have := hrel.out.2; simp [szL]; omega⟩
            have HB1 := hbr
            clear hrel hbr x8 x0 x1 x2 x3 x4 x5 x6 x7
            go_loopw [5, 7] (fun s i wr => ∃ j g : Nat, j ≤ V.l.length ∧ g ≤ 2300 ∧ i = .int .i64 j ∧ s = .int .i64 g ∧ Hid (GrL V j g) ∧ Hid (Below (w.heap.size + 1) w0 wr)) (fun _ i _ => V.l.length - (intOf i).toNat)
            case atStart => exact ⟨0, g, by omega, by omega, rfl, rfl, HG0, HB1⟩
            case round =>
              obtain ⟨j2, g2, hj2, hg2, rfl, rfl, hrel, hbr⟩ := hrel
              obtain ⟨x8, x0, x1, x2, x3, x4, x5, x6, x7⟩ := HB.out.kept hbr.out (Nat.lt_succ_self _)
              by_cases hlt2 : j2 < V.l.length
              · by_cases hg7 : g2 ≤ 600
                · have hO := H.out.kept (hbr.out.mono (by omega))
                  obtain ⟨X, hX⟩ : ∃ X, V.l[j2]? = some X := ⟨_, List.getElem?_eq_getElem hlt2⟩
                  obtain ⟨b, off, oL3, oK3, cL3, cK3, c3, e1, hb, ⟨y0, y1, y2, y3, y4, y5, y6, y7⟩, OX⟩ := hO.L.elv hlt2 (hO.el j2 X hX)
                  have HX := Lib.hid hX
                  have OX2 := Lib.hid OX
                  subst e1
                  clear hX OX hO
                  go_wp2_with fail
                  with_reducible refine (IH.out _ X _ _ OX2.out.lies (by have := hbr.out.size; have := HZ.out; omega)).mono ?_
                  rintro e w2 ⟨g3, rfl, h601, hsz, b2⟩
                  have B2 := Lib.hid (hbr.out.trans (b2.mono (by have := hbr.out.size; have := HZ.out; omega)))
                  have HR : Hid (GrL V (j2 + 1) (g2 + g3)) := ⟨by omega, fun h6 => by rw [szL_succ HX.out]; have := hrel.out.2 hg7; have := hsz (by omega); omega⟩
                  clear b2 hsz
                  go_wp2_with fail
                  go_roundw
                  case rel => exact ⟨j2 + 1, g2 + g3, by omega, by omega, by go_num, by go_num, HR, B2⟩
                  case measure => simp [intOf]; omega
                · have HE := Lib.hid (gr_end hrel.out (.inr (by omega)) rfl)
                  go_wp2_with fail
                  all_goals
                    go_ret
                    exact ⟨min g2 601, (ret_int (by omega) : Ending.returned (.int .i64 _) = _), HE.out.1, HE.out.2, HW.out.trans (hbr.out.mono (by omega))⟩
              · have HE := Lib.hid (gr_end hrel.out (.inl (by omega)) rfl)
                go_wp2_with fail
                all_goals
                  go_ret
                  exact ⟨min g2 601, (ret_int (by omega) : Ending.returned (.int .i64 _) = _), HE.out.1, HE.out.2, HW.out.trans (hbr.out.mono (by omega))⟩
        · go_wp2_with fail
          have HG0 : Hid (GrL V 0 g) := ⟨hrel.out.1, fun _ => by have := hrel.out.2; simp [szL]; omega⟩
          have HB1 := hbr
          clear hrel hbr x8 x0 x1 x2 x3 x4 x5 x6 x7
          go_loopw [5, 7] (fun s i wr => ∃ j g : Nat, j ≤ V.l.length ∧ g ≤ 2300 ∧ i = .int .i64 j ∧ s = .int .i64 g ∧ Hid (GrL V j g) ∧ Hid (Below (w.heap.size + 1) w0 wr)) (fun _ i _ => V.l.length - (intOf i).toNat)
          case atStart => exact ⟨0, g, by omega, by omega, rfl, rfl, HG0, HB1⟩
          case round =>
            obtain ⟨j2, g2, hj2, hg2, rfl, rfl, hrel, hbr⟩ := hrel
            obtain ⟨x8, x0, x1, x2, x3, x4, x5, x6, x7⟩ := HB.out.kept hbr.out (Nat.lt_succ_self _)
            by_cases hlt2 : j2 < V.l.length
            · by_cases hg7 : g2 ≤ 600
              · have hO := H.out.kept (hbr.out.mono (by omega))
                obtain ⟨X, hX⟩ : ∃ X, V.l[j2]? = some X := ⟨_, List.getElem?_eq_getElem hlt2⟩
                obtain ⟨b, off, oL3, oK3, cL3, cK3, c3, e1, hb, ⟨y0, y1, y2, y3, y4, y5, y6, y7⟩, OX⟩ := hO.L.elv hlt2 (hO.el j2 X hX)
                have HX := Lib.hid hX
                have OX2 := Lib.hid OX
                subst e1
                clear hX OX hO
                go_wp2_with fail
                with_reducible refine (IH.out _ X _ _ OX2.out.lies (by have := hbr.out.size; have := HZ.out; omega)).mono ?_
                rintro e w2 ⟨g3, rfl, h601, hsz, b2⟩
                have B2 := Lib.hid (hbr.out.trans (b2.mono (by have := hbr.out.size; have := HZ.out; omega)))
                have HR : Hid (GrL V (j2 + 1) (g2 + g3)) := ⟨by omega, fun h6 => by rw [szL_succ HX.out]; have := hrel.out.2 hg7; have := hsz (by omega); omega⟩
                clear b2 hsz
                go_wp2_with fail
                go_roundw
                case rel => exact ⟨j2 + 1, g2 + g3, by omega, by omega, by go_num, by go_num, HR, B2⟩
                case measure => simp [intOf]; omega
              · have HE := Lib.hid (gr_end hrel.out (.inr (by omega)) rfl)
                go_wp2_with fail
                all_goals
                  go_ret
                  exact ⟨min g2 601, (ret_int (by omega) : Ending.returned (.int .i64 _) = _), HE.out.1, HE.out.2, HW.out.trans (hbr.out.mono (by omega))⟩
            · have HE := Lib.hid (gr_end hrel.out (.inl (by omega)) rfl)
              go_wp2_with fail
              all_goals
                go_ret
                exact ⟨min g2 601, (ret_int (by omega) : Ending.returned (.int .i64 _) = _), HE.out.1, HE.out.2, HW.out.trans (hbr.out.mono (by omega))⟩
def GtPost (V : Val) (w : World) (e : Ending) (w' : World) : Prop := ∃ b : Bool, e = .returned (.bool b) ∧ (b = false → sz V ≤ 600) ∧ Below w.heap.size w w'
set_option maxHeartbeats 1000000 in
theorem Great_any {n : Nat} {V : Val} {v : Value} {w : World} (h : Lies n w V v) (hn : n ≤ w.heap.size) : Calls Tryd.prog 38 #[v] w (GtPost V w) := by
  obtain ⟨oL, oK, cL, cK, c, rfl, O⟩ := h.inv
  have HW := Lib.hid ((Below.refl w.heap.size w).alloc (Nat.le_refl _) (bx V oL oK cL cK))
  have H := Lib.hid (O.kept (HW.out.mono hn))
  have HG : Hid (∀ (n : Nat) (V : Val) (v : Value) (w : World), Lies n w V v → n ≤ w.heap.size → Calls Tryd.prog 60 #[v, .int .i64 10] w (GrPost V w)) := great_any 10 (Nat.le_refl _)
  clear h O
  go_enter Tryd.func38, Tryd.ntmps38
  go_wp2_with fail
  with_reducible refine (HG.out _ V _ _ H.out.lies (by simp; omega)).mono ?_
  rintro e w1 ⟨g, rfl, h1, h2, b1⟩
  have B := Lib.hid (HW.out.trans (b1.mono (by simp)))
  by_cases hg : 600 < g
  · clear h2 b1
    go_wp2_with fail
    go_ret
    exact ⟨decide (600 < (g : Int)), rfl, fun h => by simp at h; omega, B.out⟩
  · have h3 := h2 (by omega)
    clear h2 b1
    go_wp2_with fail
    go_ret
    exact ⟨decide (600 < (g : Int)), rfl, fun _ => by omega, B.out⟩
end Go.Proofs.YtncjncacfagldaaDoor

/- LexQuotes' walk. -/
import Derived.Test.YtejpbebfkogmfaaDoorQb
namespace Go.Proofs.YtejpbebfkogmfaaDoor
open Go.RowKit

theorem map2 {α β : Type} {l : List (α × β)} {a b : α} (h : l.map (·.1) = [a, b]) : ∃ x y, l = [(a, x), (b, y)] := by
  cases l with
  | nil => cases h
  | cons p l =>
    cases l with
    | nil => cases h
    | cons q l =>
      cases l with
      | cons _ _ => cases h
      | nil =>
        obtain ⟨p1, p2⟩ := p
        obtain ⟨q1, q2⟩ := q
        simp only [List.map_cons, List.map_nil, List.cons.injEq, and_true] at h
        obtain ⟨rfl, rfl⟩ := h
        exact ⟨_, _, rfl⟩
theorem quo_of {w : World} {N : Nat} {vl : Value} {acc : List (Tkn × Value)} {ps : List Prt} {p q : Plc} (h : Toks w N vl acc) (hm : acc.map (·.1) = [⟨3, [], 0, ps, p⟩, ⟨0, [], 0, [], q⟩]) : ∃ g cap v, vl = .slice (some ⟨g, 0, none⟩) 2 cap ∧ w.cell? ⟨g, 0, none⟩ = some (.int .i64 3) ∧ w.cell? ⟨g, 3, none⟩ = some v ∧ g < w.heap.size ∧ w.ownsRow N 39 5 v ps.length (pcs ps) := by
  obtain ⟨v0, v1, rfl⟩ := map2 hm
  have hr := h.row
  have hp : w.ownsRow N 39 5 v0 ps.length (pcs ps) := h.el (⟨3, [], 0, ps, p⟩, v0) (by simp)
  obtain ⟨g, cap, rfl, -, lg⟩ := hr.form (by simp)
  exact ⟨g, cap, v0, rfl, own_cell hr (i := 0) rfl, own_cell hr (i := 3) rfl, lg, hp⟩
set_option maxRecDepth 100000 in
set_option maxHeartbeats 4000000 in
theorem lquotes_any {s : ByteArray} {w : World} (hT : Tab w) (hs : s.size ≤ 9223372036854775807) : Calls Tryd.prog 4 #[.string s] w fun e w' => e = .returned (.bool true) ∧ Below w.heap.size w w' := by
  by_cases hbig : 1000 < s.size
  · have hb : (1000 : Int) < s.size := by omega
    have A := Lib.hid (awake_any hT)
    clear hbig
    go_enter Tryd.func4, Tryd.ntmps4
    go_wp2_with fail
    refine A.out.mono ?_
    rintro e w1 ⟨rfl, hB⟩
    have HB := Lib.hid hB
    clear hB
    go_wp2_with fail
    go_ret
    exact ⟨rfl, HB.out⟩
  · have hb : ¬ (1000 : Int) < s.size := by omega
    have hsz : s.size ≤ 1000 := by omega
    obtain ⟨q, hq⟩ : ∃ q, tx (34 :: (quoI (lb s) ++ [34])) = q := ⟨_, rfl⟩
    obtain ⟨pe1, hlx⟩ := lex_quo (lb s) (by rw [L_len]; exact hsz)
    have hlq : lexL (lb q) = .ok [⟨3, [], 0, flush [] (lb s), plc0⟩, ⟨0, [], 0, [], pe1⟩] := by rw [← hq]; exact hlx
    have hqs : q.size ≤ 32768 := by
      rw [← hq]
      show (34 :: (quoI (lb s) ++ [34])).toArray.size ≤ _
      have := quoI_len (lb s)
      rw [L_len] at this
      simp; omega
    have C1 := quote_any s (by omega) w
    have C3 := rquote_any s (by omega)
    rw [hq] at C1
    simp only [hq] at C3
    have C2 := Lib.hid (fun w1 (hB : Below w.heap.size w w1) => by
      have := all_any (s := q) (hT.below hB hT.1) hqs
      rw [hlq] at this; exact this)
    have HA := Lib.hid (fun w1 (hB : Below w.heap.size w w1) => awake_any (hT.below hB hT.1))
    have C1 := Lib.hid C1
    have C3 := Lib.hid C3
    clear hq hlx hlq hqs hbig hT
    go_enter Tryd.func4, Tryd.ntmps4
    go_wp2_with fail
    refine C1.out.mono ?_
    rintro e w1 ⟨rfl, hB1⟩
    have HB1 := Lib.hid hB1
    clear hB1
    go_wp2_with fail
    refine (C2.out w1 HB1.out).mono ?_
    rintro e w2 ⟨hB2, vl, acc, hm, rfl, hK⟩
    obtain ⟨g, cap, v, rfl, c0, c3, lg, hO⟩ := quo_of hK hm
    have HB2 := Lib.hid (HB1.out.trans (hB2.mono HB1.out.size))
    have HO := Lib.hid hO
    obtain ⟨vo, vn, vc, rfl⟩ := own_slice hO
    clear hm hK hB2
    go_wp2_with fail
    refine (C3.out _).mono ?_
    rintro e w3 ⟨rfl, rfl⟩
    by_cases h0 : s.size = 0
    · obtain rfl := size_zero s h0
      have hv : vn = 0 := by
        rcases HO.out.2 with h | ⟨g, c, _, h, _⟩
        · obtain ⟨h, -⟩ := h; injection h
        · injection h with _ h _
      subst hv
      clear hO
      go_wp2_with fail
      refine (HA.out _ (HB2.out.alloc HB2.out.size _)).mono ?_
      rintro e w4 ⟨rfl, hB4⟩
      have HB4 := Lib.hid hB4
      clear hB4
      go_wp2_with fail
      go_ret
      exact ⟨rfl, (HB2.out.alloc HB2.out.size _).trans (HB4.out.mono (by have := HB2.out.size; simp; omega))⟩
    · have E := empty_iff s (by omega)
      have E1 := E.1
      have E2 := E.2
      have hne : flush [] (lb s) = [⟨false, lb s, noP⟩] := by
        unfold flush
        rw [if_neg]
        · rfl
        · rw [show lb s = s.data.toList from rfl, ← toList_is, E1]; decide
      rw [hne] at HO
      have hO2 := HO.out
      obtain ⟨gp, cp, he, -, lp⟩ := hO2.form (by simp)
      injection he with h1 h2 h3
      subst h1 h2 h3
      have d0 := own_cell hO2 (i := 0) rfl
      have d1 := own_cell hO2 (i := 1) rfl
      have d2 := own_cell hO2 (i := 2) rfl
      have d3 := own_cell hO2 (i := 3) rfl
      have d4 := own_cell hO2 (i := 4) rfl
      rw [tx_lb] at d1
      have HE2 := Lib.hid E2
      clear hO hO2 hne E E2 h0
      go_wp2_with fail
      refine (HA.out _ (HB2.out.alloc HB2.out.size _)).mono ?_
      rintro e w4 ⟨rfl, hB4⟩
      have HB4 := Lib.hid hB4
      clear hB4
      go_wp2_with fail
      go_ret
      exact ⟨rfl, (HB2.out.alloc HB2.out.size _).trans (HB4.out.mono (by have := HB2.out.size; simp; omega))⟩
end Go.Proofs.YtejpbebfkogmfaaDoor

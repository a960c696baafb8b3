/- What the parser's model answers of a text in brackets. No Go in sight. -/
import Derived.Test.YtncjncacfagldaaDoorXN
namespace Go.Proofs.YtncjncacfagldaaDoor
open Go.RowKit Go.Lib

theorem tokL_kind {p : Plc} {l r : List UInt8} {t : Tkn} (h : tokL p l = .ok (t, r)) : t.k ≠ 0 := by
  cases l with
  | nil => cases h
  | cons c x =>
    rw [← tokL_eq] at h
    split at h
    · split at h
      · cases h
      · simp only [Except.ok.injEq, Prod.mk.injEq] at h
        rw [← h.1]; show (1 : Nat) ≠ 0; decide
    · split at h
      · split at h
        · simp only [Except.ok.injEq, Prod.mk.injEq] at h
          rw [← h.1]; show (2 : Nat) ≠ 0; decide
        · cases h
      · split at h
        · cases h1 : strL (x.length + 1) x (p.step c) [] [] 0 with
          | none => rw [h1] at h; cases h
          | some S =>
            obtain ⟨a, m, z⟩ := S
            rw [h1] at h
            unfold strE at h
            simp only at h
            split at h
            · cases h
            · simp only [Except.ok.injEq, Prod.mk.injEq] at h
              rw [← h.1]; show (3 : Nat) ≠ 0; decide
        · split at h
          · cases h
          · simp only [Except.ok.injEq, Prod.mk.injEq] at h
            rw [← h.1]; show (4 : Nat) ≠ 0; decide
/-- all but the last are something -/
theorem allL_kinds : ∀ (f : Nat) (p : Plc) (l : List UInt8) (ts : List Tkn), allL f p l = .ok ts → ∃ xs e, ts = xs ++ [e] ∧ e.k = 0 ∧ ∀ x ∈ xs, x.k ≠ 0
  | 0, _, _, _, h => by cases h
  | f + 1, p, l, ts, h => by
    rw [allL] at h
    cases hs : skip l with
    | nil =>
      rw [hs] at h
      simp only [Except.ok.injEq] at h
      exact ⟨[], _, h.symm, rfl, fun x hx => by cases hx⟩
    | cons c r =>
      rw [hs] at h
      simp only at h
      cases ht : tokL (p.adv (l.take (l.length - (r.length + 1)))) (c :: r) with
      | error e => rw [ht] at h; cases h
      | ok tr =>
        obtain ⟨t, z⟩ := tr
        rw [ht] at h
        simp only at h
        cases hx : allL f (p.adv (l.take (l.length - z.length))) z with
        | error e => rw [hx] at h; cases h
        | ok vs =>
          rw [hx] at h
          simp only [Except.ok.injEq] at h
          obtain ⟨xs, e, rfl, he, hk⟩ := allL_kinds f _ _ _ hx
          refine ⟨t :: xs, e, h.symm, he, fun x hx => ?_⟩
          rcases List.mem_cons.1 hx with rfl | hx
          · exact tokL_kind ht
          · exact hk x hx
theorem lexL_kinds {l : List UInt8} {ts : List Tkn} (h : lexL l = .ok ts) : ∃ xs e, ts = xs ++ [e] ∧ e.k = 0 ∧ ∀ x ∈ xs, x.k ≠ 0 := by
  unfold lexL at h
  split at h
  · cases h
  · exact allL_kinds _ _ _ _ h
theorem tk_in {C : Cx} {xs : List Tkn} {e : Tkn} (h : C.L = xs ++ [e]) (hx : ∀ x ∈ xs, x.k ≠ 0) {i : Nat} (hi : i < xs.length) : (C.tk i).k ≠ 0 := by
  unfold Cx.tk
  rw [h, List.getElem?_append_left hi, List.getElem?_eq_getElem hi]
  exact hx _ (List.getElem_mem hi)
theorem tk_out {C : Cx} {xs : List Tkn} {e : Tkn} (h : C.L = xs ++ [e]) (he : e.k = 0) {i : Nat} (hi : xs.length ≤ i) : (C.tk i).k = 0 := by
  unfold Cx.tk
  rw [h, List.getElem?_append_right hi]
  cases i - xs.length with
  | zero => exact he
  | succ j => rfl
theorem inn_move (l : List UInt8) (h h' : Ps) (h0 : (innM l h).2.1 = 0) : (innM l h').2.1 = 0 ∧ bareX (innM l h).1 = bareX (innM l h').1 := by
  cases hl : lexL l with
  | error ep =>
    obtain ⟨e, p⟩ := ep
    rw [innM_err hl] at h0
    exact absurd h0 (lexL_nz hl).1
  | ok ts =>
    obtain ⟨xs, e, rfl, he, hx⟩ := lexL_kinds hl
    rw [innM_ok hl] at h0 ⊢
    rw [innM_ok hl]
    refine whole_move (n := xs.length) (C := ⟨xs ++ [e], h, noInn⟩) (D := ⟨xs ++ [e], h', noInn⟩) ⟨fun i _ => ⟨rfl, rfl, rfl, rfl⟩, fun i hi => tk_out (C := ⟨xs ++ [e], h, noInn⟩) rfl he hi, fun h4 => absurd h4 (by rw [tk_out (C := ⟨xs ++ [e], h', noInn⟩) (i := xs.length + 0) rfl he (Nat.le_refl _)]; decide), fun _ _ _ _ => ⟨rfl, rfl⟩, by simp, by simp⟩ (by simp) (by simp) (fun i hi => tk_out (C := ⟨xs ++ [e], h', noInn⟩) rfl he hi) h0
theorem tk_map {C : Cx} {i : Nat} {q : Nat × List UInt8 × Int × List (Bool × List UInt8)} (h : (C.L.map tkb)[i]? = some q) : (C.tk i).k = q.1 ∧ (C.tk i).s = q.2.1 ∧ (C.tk i).n = q.2.2.1 ∧ (C.tk i).ps.map pb = q.2.2.2 := by
  rw [List.getElem?_map] at h
  unfold Cx.tk
  cases hc : C.L[i]? with
  | none => rw [hc] at h; cases h
  | some t =>
    rw [hc] at h
    simp only [Option.map_some, Option.some.injEq] at h
    subst h
    exact ⟨rfl, rfl, rfl, rfl⟩
/-- brackets around a text -/
def grp (s : List UInt8) : List UInt8 := 40 :: (s ++ [10, 41])
theorem parse_group {s : List UInt8} (hs : s.length + 3 ≤ 32768) (h0 : (parseM s).2.1 = 0) : (parseM (grp s)).2.1 = 0 ∧ bareX (parseM s).1 = bareX (parseM (grp s)).1 := by
  cases hl : lexL s with
  | error ep =>
    obtain ⟨e, p⟩ := ep
    rw [parseM_err hl] at h0
    exact absurd h0 (lexL_nz hl).1
  | ok ts =>
    obtain ⟨xs, e, rfl, he, hx⟩ := lexL_kinds hl
    obtain ⟨-, us, hu, hm⟩ := lex_group hs hl
    have hu : lexL (grp s) = .ok us := hu
    rw [List.map_append, List.map_cons, List.map_nil, List.dropLast_concat] at hm
    have hlen : us.length = xs.length + 3 := by
      have := congrArg List.length hm
      simpa using this
    have hD : ∀ i, i < xs.length → ((⟨us, ps0, innM⟩ : Cx).L.map tkb)[i + 1]? = some (tkb ((⟨xs ++ [e], ps0, innM⟩ : Cx).tk i)) := fun i hi => by
      show (us.map tkb)[i + 1]? = _
      have e1 : (⟨xs ++ [e], ps0, innM⟩ : Cx).tk i = xs[i] := by
        unfold Cx.tk
        show ((xs ++ [e])[i]?).getD tk0 = _
        rw [List.getElem?_append_left hi, List.getElem?_eq_getElem hi]; rfl
      rw [hm, e1, List.cons_append, List.getElem?_cons_succ, List.getElem?_append_left (by simpa using hi), List.getElem?_map, List.getElem?_eq_getElem hi]; rfl
    have hE : (⟨us, ps0, innM⟩ : Cx).tk (xs.length + 1) |>.k |> (· = 4) := by
      refine (tk_map (q := (4, [41], 0, [])) ?_).1
      show (us.map tkb)[xs.length + 1]? = _
      rw [hm, List.cons_append, List.getElem?_cons_succ, List.getElem?_append_right (by simp)]
      simp
    have hE2 : ((⟨us, ps0, innM⟩ : Cx).tk (xs.length + 1)).s = [41] := by
      refine (tk_map (q := (4, [41], 0, [])) ?_).2.1
      show (us.map tkb)[xs.length + 1]? = _
      rw [hm, List.cons_append, List.getElem?_cons_succ, List.getElem?_append_right (by simp)]
      simp
    have hZ : ((⟨us, ps0, innM⟩ : Cx).tk (xs.length + 2)).k = 0 := by
      refine (tk_map (q := (0, [], 0, [])) ?_).1
      show (us.map tkb)[xs.length + 2]? = _
      rw [hm, List.cons_append, List.getElem?_cons_succ, List.getElem?_append_right (by simp)]
      simp
    have hO : ((⟨us, ps0, innM⟩ : Cx).tk 0).k = 4 ∧ ((⟨us, ps0, innM⟩ : Cx).tk 0).s = [40] := by
      have := tk_map (C := ⟨us, ps0, innM⟩) (i := 0) (q := (4, [40], 0, [])) (by show (us.map tkb)[0]? = _; rw [hm]; rfl)
      exact ⟨this.1, this.2.1⟩
    have hR : Rel 1 xs.length ⟨xs ++ [e], ps0, innM⟩ ⟨us, ps0, innM⟩ := by
      refine ⟨fun i hi => ?_, fun i hi => tk_out (C := ⟨xs ++ [e], ps0, innM⟩) rfl he hi, fun _ => hE2, fun l h h' => inn_move l h h', by simp, by show xs.length ≤ us.length; omega⟩
      have := tk_map (hD i hi)
      exact ⟨this.1, this.2.1, this.2.2.1, this.2.2.2⟩
    rw [parseM_ok hl] at h0 ⊢
    rw [parseM_ok hu]
    generalize (((xs ++ [e])[0]?).getD tk0).p.ps = q1 at *
    generalize ((us[0]?).getD tk0).p.ps = q2 at *
    by_cases hj : (judgeC (wholeM ⟨xs ++ [e], ps0, innM⟩).1 (wholeM ⟨xs ++ [e], ps0, innM⟩).2 q1).1 = 0
    · rw [if_pos hj]
      have hw : (wholeM ⟨xs ++ [e], ps0, innM⟩).2.e = 0 ∧ ¬ 24 < xdp (wholeM ⟨xs ++ [e], ps0, innM⟩).1 := by
        unfold judgeC at hj
        split at hj
        · cases hj
        · rename_i hn
          exact ⟨hj, fun h24 => hn ⟨hj, h24⟩⟩
      obtain ⟨g1, g2⟩ := whole_group hR (by simp) hlen (fun i hi => tk_in (C := ⟨xs ++ [e], ps0, innM⟩) rfl hx hi) hO ⟨hE, hE2⟩ hZ hw.1
      have hj2 : (judgeC (wholeM ⟨us, ps0, innM⟩).1 (wholeM ⟨us, ps0, innM⟩).2 q2).1 = 0 := by
        unfold judgeC
        rw [if_neg (fun h => hw.2 (by rw [xdp_same g2]; exact h.2))]
        exact g1
      rw [if_pos hj2]
      exact ⟨rfl, g2⟩
    · rw [if_neg hj] at h0
      exact absurd h0 hj
/-- so often -/
def grps : Nat → List UInt8 → List UInt8
  | 0, s => s
  | k + 1, s => grp (grps k s)
theorem grps_len (k : Nat) (s : List UInt8) : (grps k s).length = s.length + 3 * k := by
  induction k with
  | zero => rfl
  | succ k ih => show (40 :: (grps k s ++ [10, 41])).length = _; simp [ih]; omega
theorem parse_groups {s : List UInt8} (h0 : (parseM s).2.1 = 0) : ∀ k, s.length + 3 * k ≤ 32768 → (parseM (grps k s)).2.1 = 0 ∧ bareX (parseM s).1 = bareX (parseM (grps k s)).1
  | 0, _ => ⟨h0, rfl⟩
  | k + 1, hk => by
    obtain ⟨g1, g2⟩ := parse_groups h0 k (by omega)
    obtain ⟨e1, e2⟩ := parse_group (s := grps k s) (by rw [grps_len]; omega) g1
    exact ⟨e1, g2.trans e2⟩
theorem parse_groups_same {s : List UInt8} (h0 : (parseM s).2.1 = 0) (k : Nat) (hk : s.length + 3 * k ≤ 32768) : (parseM (grps k s)).2.1 = 0 ∧ sameX false (parseM s).1 (parseM (grps k s)).1 = true :=
  ⟨(parse_groups h0 k hk).1, same_bare (parse_groups h0 k hk).2⟩
end Go.Proofs.YtncjncacfagldaaDoor

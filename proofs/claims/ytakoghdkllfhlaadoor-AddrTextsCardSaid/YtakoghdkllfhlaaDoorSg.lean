/- The reference's way to take a text apart, in plain words. -/
import Derived.Test.YtakoghdkllfhlaaDoorSe
namespace Go.Proofs.YtakoghdkllfhlaaDoor
open Go.RowKit

/-- where c stands first, -1 if nowhere -/
def fi (c : UInt8) (l : List UInt8) : Int := if c ∈ l then ((cutA c l).length : Int) else -1
theorem fi_not {c : UInt8} {l : List UInt8} (h : c ∉ l) : fi c l = -1 := if_neg h
theorem fi_at {c : UInt8} {a b : List UInt8} (h : c ∉ a) : fi c (a ++ c :: b) = a.length := by
  unfold fi
  rw [if_pos (by simp), (cut_at h).1]
theorem cutA_app {c : UInt8} {a : List UInt8} (b : List UInt8) (h : c ∈ a) : cutA c (a ++ b) = cutA c a := by
  induction a with
  | nil => cases h
  | cons x r ih =>
    unfold cutA at *
    rw [List.cons_append, List.takeWhile_cons, List.takeWhile_cons]
    by_cases hx : x = c
    · subst hx; simp
    · have hn : (x != c) = true := by simpa using hx
      rw [hn, if_pos rfl, if_pos rfl, ih ((List.mem_cons.1 h).resolve_left fun e => hx e.symm)]
theorem fi_next (c : UInt8) {l : List UInt8} {k : Nat} (hk : k < l.length) : fi c (l.take (k + 1)) = if l[k] = c ∧ fi c (l.take k) < 0 then (k : Int) else fi c (l.take k) := by
  rw [List.take_succ_eq_append_getElem hk]
  by_cases hm : c ∈ l.take k
  · have h1 : fi c (l.take k ++ [l[k]]) = fi c (l.take k) := by
      unfold fi
      rw [if_pos (List.mem_append_left _ hm), if_pos hm, cutA_app _ hm]
    have h2 : ¬ fi c (l.take k) < 0 := by unfold fi; rw [if_pos hm]; omega
    rw [h1, if_neg fun h => h2 h.2]
  · rw [fi_not hm]
    by_cases hc : l[k] = c
    · rw [if_pos ⟨hc, by omega⟩, hc, fi_at hm, List.length_take]; omega
    · rw [if_neg fun h => hc h.1, fi_not]
      simp only [List.mem_append, List.mem_singleton, not_or]
      exact ⟨hm, fun e => hc e.symm⟩
theorem fi_in (c : UInt8) (l : List UInt8) : -1 ≤ fi c l ∧ fi c l < l.length := by
  unfold fi
  split
  · rename_i h
    have := congrArg List.length (index_in h).2
    rw [List.length_append, List.length_cons] at this
    omega
  · omega
theorem fi_get {c : UInt8} {l : List UInt8} (h : 0 ≤ fi c l) : l[(fi c l).toNat]? = some c := by
  unfold fi at h ⊢
  split at h
  · rename_i hm
    rw [if_pos hm]
    have e := (index_in hm).2
    have : ∀ (a b : List UInt8), l = a ++ c :: b → l[a.length]? = some c := fun a b h => by subst h; simp
    simpa using this _ _ e
  · omega
theorem fi_apart {c d : UInt8} {l : List UInt8} (hcd : c ≠ d) (h : 0 ≤ fi c l) : fi c l ≠ fi d l := fun e => by
  have h1 := fi_get h
  rw [e] at h h1
  rw [fi_get h] at h1
  exact hcd (Option.some.inj h1).symm
abbrev zA : Adr := ⟨⟨#[]⟩, ⟨#[]⟩, 0, 0, ⟨#[]⟩⟩
noncomputable def lastR (t : List UInt8) : Int × Int × List UInt8 :=
  if 3 ≤ t.length ∧ t.head? = some 34 then (2, 0, (t.take (t.length - 2)).drop 1) else if 0 < t.length then (1, numv (t.take (t.length - 1)), []) else (0, 0, [])
noncomputable def gP (l : List UInt8) : Adr :=
  if fi 46 l < 0 ∨ (0 ≤ fi 91 l ∧ fi 91 l < fi 46 l) then zA
  else if 0 ≤ fi 91 l then ⟨tx (l.take (fi 46 l).toNat), tx ((l.take (fi 91 l).toNat).drop ((fi 46 l).toNat + 1)), (lastR (l.drop ((fi 91 l).toNat + 1))).1, (lastR (l.drop ((fi 91 l).toNat + 1))).2.1, tx (lastR (l.drop ((fi 91 l).toNat + 1))).2.2⟩
  else ⟨tx (l.take (fi 46 l).toNat), tx (l.drop ((fi 46 l).toNat + 1)), 0, 0, ⟨#[]⟩⟩
theorem numv_itoa {n : Int} (h0 : 0 ≤ n) (h1 : n ≤ 9223372036854775807) : numv (Lib.itoa n) = n ∧ (Lib.itoa n).head? ≠ some 34 := by
  have e := last_num h0 h1
  unfold lastL at e
  split at e
  · cases e
  · rename_i hh
    split at e
    · injection e with e1 e2
      injection e2 with e2 e3
      exact ⟨e2, hh⟩
    · cases e
theorem lastR_num {n : Int} (h0 : 0 ≤ n) (h1 : n ≤ 9223372036854775807) : lastR (Lib.itoa n ++ [93]) = (1, n, []) := by
  obtain ⟨e1, e2⟩ := numv_itoa h0 h1
  have hh : (Lib.itoa n ++ [93]).head? ≠ some 34 := by
    cases hi : Lib.itoa n with
    | nil => simp
    | cons a r => rw [hi] at e2; simpa using e2
  unfold lastR
  rw [if_neg fun h => hh h.2, if_pos (by simp)]
  have e3 : (Lib.itoa n ++ [93]).take ((Lib.itoa n ++ [93]).length - 1) = Lib.itoa n := by rw [List.length_append]; simp
  rw [e3, e1]
theorem lastR_key (k : List UInt8) : lastR (34 :: (k ++ [34]) ++ [93]) = (2, 0, k) := by
  unfold lastR
  rw [if_pos ⟨by simp, by simp⟩]
  have e : ((34 :: (k ++ [34]) ++ [93]).take ((34 :: (k ++ [34]) ++ [93]).length - 2)) = 34 :: k := by
    have hl : (34 :: (k ++ [34]) ++ [93] : List UInt8).length - 2 = k.length + 1 := by simp
    rw [hl]
    simp
  rw [e]; rfl
theorem gP_pr {a : Adr} (h : checkB a = true) : gP (lb (prA a)) = a := by
  unfold checkB at h
  simp only [Bool.and_eq_true] at h
  obtain ⟨⟨ht, hn⟩, hl⟩ := h
  obtain ⟨t46, t91⟩ := name_no ht
  obtain ⟨-, n91⟩ := name_no hn
  rw [lb_prA]
  have d1 := fi_at (c := 46) (b := lb a.n ++ tailA a) t46
  have k1 : (lb a.t ++ 46 :: (lb a.n ++ tailA a)).take (lb a.t).length = lb a.t := by rw [List.take_left]
  have k2 : (lb a.t ++ 46 :: (lb a.n ++ tailA a)).drop ((lb a.t).length + 1) = lb a.n ++ tailA a := by rw [← List.drop_drop, List.drop_left]; rfl
  have p91 : 91 ∉ lb a.t ++ 46 :: lb a.n := by
    simp only [List.mem_append, List.mem_cons, not_or]
    exact ⟨t91, by decide, n91⟩
  have o1 : ∀ r, tailA a = 91 :: r → fi 91 (lb a.t ++ 46 :: (lb a.n ++ tailA a)) = ((lb a.t).length + 1 + (lb a.n).length : Nat) ∧ (lb a.t ++ 46 :: (lb a.n ++ tailA a)).drop ((lb a.t).length + 1 + (lb a.n).length + 1) = r ∧ ((lb a.t ++ 46 :: (lb a.n ++ tailA a)).take ((lb a.t).length + 1 + (lb a.n).length)).drop ((lb a.t).length + 1) = lb a.n := fun r hr => by
    refine ⟨?_, ?_, ?_⟩
    · have := fi_at (c := 91) (b := r) p91
      rw [hr]
      rw [List.append_assoc, List.cons_append] at this
      rw [this]; simp [Nat.add_comm, Nat.add_left_comm, Nat.add_assoc]
    · rw [show (lb a.t).length + 1 + (lb a.n).length + 1 = (lb a.t).length + 1 + ((lb a.n).length + 1) by omega, ← List.drop_drop, k2, hr, ← List.drop_drop, List.drop_left]; rfl
    · rw [List.drop_take, k2, show (lb a.t).length + 1 + (lb a.n).length - ((lb a.t).length + 1) = (lb a.n).length by omega, List.take_left]
  have o0 : tailA a = [] → fi 91 (lb a.t ++ 46 :: (lb a.n ++ tailA a)) = -1 ∧ lb a.n ++ tailA a = lb a.n := fun hr => by
    rw [hr, List.append_nil]
    exact ⟨fi_not p91, rfl⟩
  unfold gP
  rw [d1]
  generalize fi 91 (lb a.t ++ 46 :: (lb a.n ++ tailA a)) = O at *
  simp only [Int.toNat_natCast]
  rw [k1, k2]
  generalize hL : lb a.t ++ 46 :: (lb a.n ++ tailA a) = L at *
  obtain ⟨t, n, kd, i, k⟩ := a
  unfold lastB at hl
  dsimp only at *
  by_cases k0 : kd = 0
  · subst k0
    rw [if_pos rfl] at hl
    simp only [Bool.and_eq_true, beq_iff_eq, decide_eq_true_eq] at hl
    obtain ⟨rfl, hk⟩ := hl
    have e := size_zero k hk
    subst e
    obtain ⟨rfl, e2⟩ := o0 (by unfold tailA; simp)
    rw [e2, if_neg (by omega), if_neg (by omega)]
  · rw [if_neg k0] at hl
    by_cases k1 : kd = 1
    · subst k1
      rw [if_pos rfl] at hl
      simp only [Bool.and_eq_true, decide_eq_true_eq] at hl
      obtain ⟨⟨i0, i1⟩, hk⟩ := hl
      have e := size_zero k hk
      subst e
      obtain ⟨rfl, e2, e3⟩ := o1 (Lib.itoa i ++ [93]) (by unfold tailA; simp)
      rw [if_neg (by omega), if_pos (by omega), Int.toNat_natCast, e2, e3, lastR_num i0 (by omega)]
    · rw [if_neg k1] at hl
      by_cases k2 : kd = 2
      · subst k2
        rw [if_pos rfl] at hl
        simp only [Bool.and_eq_true, beq_iff_eq] at hl
        obtain ⟨rfl, -⟩ := hl
        obtain ⟨rfl, e2, e3⟩ := o1 (34 :: (lb k ++ [34]) ++ [93]) (by unfold tailA; simp)
        rw [if_neg (by omega), if_pos (by omega), Int.toNat_natCast, e2, e3, lastR_key]
      · rw [if_neg k2] at hl; cases hl
/-- so the reference's way gives the same answers -/
theorem gP_same (s : ByteArray) : (if checkB (gP (lb s)) = true ∧ prA (gP (lb s)) = s then (gP (lb s), (0 : Int)) else (zA, 4)) = parA s :=
  par_same (g := fun s => gP (lb s)) (fun _ h => gP_pr h) s
end Go.Proofs.YtakoghdkllfhlaaDoor

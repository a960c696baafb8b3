/- What is quoted is read as one string of it. -/
import Derived.Test.YtejpbebfkogmfaaDoorQa
namespace Go.Proofs.YtejpbebfkogmfaaDoor
open Go.RowKit

theorem str_quo : ∀ (L : List UInt8) (f : Nat) (p : Plc) (b : List UInt8) (n : Nat), L.length < f → strL f (quoI L ++ [34]) p b [] n = some (flush [] (b ++ L), n + L.length, [])
  | [], 0, _, _, _, h => by omega
  | [], f + 1, p, b, n, _ => by
    show strL (f + 1) (34 :: []) p b [] n = _
    rw [strL_cons, if_neg (by decide), if_pos rfl, List.append_nil]; rfl
  | c :: r, 0, _, _, _, h => by simp at h
  | c :: r, f + 1, p, b, n, h => by
    have hr : r.length < f := by simp only [List.length_cons] at h; omega
    have e0 : quoI (c :: r) ++ [34] = escB c ++ (quoI r ++ [34]) := by simp [quoI]
    have two : ∀ y, escB c = [92, y] → esc y = some c → strL (f + 1) (quoI (c :: r) ++ [34]) p b [] n = some (flush [] (b ++ c :: r), n + (c :: r).length, []) := fun y h1 h2 => by
      rw [e0, h1]
      show strL (f + 1) (92 :: y :: (quoI r ++ [34])) p b [] n = _
      rw [strL_cons, if_neg (by decide), if_neg (by decide), tk_e1, h2]
      show strL f (quoI r ++ [34]) _ (b ++ [c]) [] (n + 1) = _
      rw [str_quo r f _ _ _ hr, List.append_assoc, List.length_cons]
      congr 2
      simp only [Prod.mk.injEq, and_true]; omega
    rcases escB_cases c with ⟨e1, -, e3⟩ | ⟨e1, -, e3⟩ | ⟨e1, -, e3⟩ | ⟨e1, -, e3⟩ | ⟨e1, -, e3⟩ | ⟨h1, h2, h3, h4, h5, -, e3⟩
    · exact two 34 e3 (by rw [e1]; rfl)
    · exact two 92 e3 (by rw [e1]; rfl)
    · exact two 110 e3 (by rw [e1]; rfl)
    · exact two 116 e3 (by rw [e1]; rfl)
    · exact two 36 e3 (by rw [e1]; rfl)
    · rw [e0, e3]
      show strL (f + 1) (c :: (quoI r ++ [34])) p b [] n = _
      rw [strL_cons, if_neg h3, if_neg h1, tk_b c _ h2 (fun h => h5 h.1)]
      show strL f (quoI r ++ [34]) _ (b ++ [c]) [] (n + 1) = _
      rw [str_quo r f _ _ _ hr, List.append_assoc, List.length_cons]
      congr 2
      simp only [Prod.mk.injEq, and_true]; omega
theorem tokL_eq (p : Plc) (c : UInt8) (r : List UInt8) : (if isLetter c.toNat = true then (if 24 < (takeP isWord (c :: r)).length then .error 3 else .ok (⟨1, takeP isWord (c :: r), 0, [], p⟩, dropP isWord (c :: r)))
    else if isDgt c.toNat = true then (if pe (takeP isWord (c :: r)) false = 0 then .ok (⟨2, [], pv (takeP isWord (c :: r)) false, [], p⟩, dropP isWord (c :: r)) else .error (pe (takeP isWord (c :: r)) false).toNat)
    else if c = 34 then strE p (strL (r.length + 1) r (p.step c) [] [] 0)
    else if sgn (c :: r) = 0 then .error 23 else .ok (⟨4, (c :: r).take (sgn (c :: r)), 0, [], p⟩, (c :: r).drop (sgn (c :: r)))) = tokL p (c :: r) := by
  show _ = (if isLetter c.toNat = true then _ else if isDgt c.toNat = true then _ else if c = 34 then _ else _)
  congr
theorem tokL_str (p : Plc) (r : List UInt8) : tokL p (34 :: r) = strE p (strL (r.length + 1) r (p.step 34) [] [] 0) := by
  rw [← tokL_eq, if_neg (by decide), if_neg (by decide), if_pos rfl]
theorem allL_nil (f : Nat) (p : Plc) : allL (f + 1) p [] = .ok [⟨0, [], 0, [], p⟩] := rfl
theorem lex_quo (L : List UInt8) (h : L.length ≤ 1000) : ∃ q, lexL (34 :: (quoI L ++ [34])) = .ok [⟨3, [], 0, flush [] L, plc0⟩, ⟨0, [], 0, [], q⟩] := by
  have hl := quoI_len L
  have hs : ∀ r, skip (34 :: r) = 34 :: r := fun r => by
    have h1 : dropP isBlank (34 :: r) = 34 :: r := by unfold dropP; rw [List.dropWhile_cons, if_neg (by decide)]
    unfold skip
    rw [h1, List.length_cons, skc]
    rw [if_neg (by decide)]
  obtain ⟨r, hr⟩ : ∃ r, quoI L ++ [34] = r := ⟨_, rfl⟩
  have hrl : r.length = (quoI L).length + 1 := by rw [← hr]; simp
  have hlr : L.length < r.length + 1 := by
    have key : ∀ l : List UInt8, l.length ≤ (quoI l).length := fun l => by
      induction l with
      | nil => simp
      | cons c x ih =>
        have := (escB_len c).1
        simp only [quoI, List.flatMap_cons, List.length_append, List.length_cons] at ih ⊢
        omega
    have := key L
    omega
  have ht : tokL plc0 (34 :: r) = .ok (⟨3, [], 0, flush [] L, plc0⟩, []) := by
    rw [tokL_str, ← hr, str_quo L _ _ _ _ (by rw [hr]; exact hlr), List.nil_append, Nat.zero_add, strE_ok (by omega)]
  rw [hr]
  refine ⟨plc0.adv ((34 :: r).take (r.length + 1 - 0)), ?_⟩
  unfold lexL
  rw [if_neg (by simp only [List.length_cons]; omega), allL, hs]
  simp only [List.length_cons]
  rw [Nat.sub_self, List.take_zero, show plc0.adv [] = plc0 from rfl, ht]
  simp only [List.length_nil]
  rw [allL_nil]
end Go.Proofs.YtejpbebfkogmfaaDoor

/- What is laid is read again. -/
import Derived.Test.YtakoghdkllfhlaaDoorRp
import Derived.Test.YtakoghdkllfhlaaDoorRk
namespace Go.Proofs.YtakoghdkllfhlaaDoor
open Go.RowKit Go.Lib

theorem gstr_txt (s : ByteArray) (rest : List Nat) (h : s.size ≤ 24) : gstr (txt s ++ rest) 24 = .ok (s, (txt s).length) := by
  have := gstr_enc s rest h
  unfold txt
  rw [this, List.length_append, sb_len]
theorem gs_at (n : Nat) (h : n < 2 ^ 64) (rest : List Nat) : gs 0 (shrt n ++ rest) = .ok (n, (shrt n).length) := by
  have := gs_shrt rest n 0 (by omega) (by omega) (fun h => by omega)
  simpa using this
theorem drop_app (L R : List Nat) (n : Nat) (h : n = L.length) : (L ++ R).drop n = R := by subst h; simp
theorem getD_app (L R : List Nat) (c n : Nat) (h : n = L.length) : (L ++ c :: R).getD n 0 = c := by subst h; simp
theorem bytes_nil {s : ByteArray} (h : s.size = 0) : s = ⟨#[]⟩ := by
  obtain ⟨d⟩ := s
  have : d = #[] := Array.eq_empty_of_size_eq_zero h
  rw [this]
theorem lastB_of {k : Obt} (hc : checkKB k = true) : lastB k.a = true := by
  unfold checkKB checkB at hc
  simp only [Bool.and_eq_true] at hc
  exact hc.1.2
theorem getR_form {k : Obt} (hk : Okk k) (hc : checkKB k = true) : getR (formK k) = (k, (formK k).length, 0) := by
  have hM := may_of hc
  obtain ⟨⟨t, n, kd, i, s⟩, N⟩ := k
  obtain ⟨m, rfl⟩ : ∃ m : Nat, N = m := ⟨N.toNat, by have := hk.N0; dsimp only at this; omega⟩
  have hm : m < 4294967296 := by have := hk.N1; dsimp only at this; omega
  have ht : t.size ≤ 24 := hM.t
  have hn : n.size ≤ 24 := hM.n
  obtain ⟨c, rfl⟩ : ∃ c : Nat, kd = c := ⟨kd.toNat, by have := hM.kd; dsimp only at this; omega⟩
  have hc3 : c = 0 ∨ c = 1 ∨ c = 2 := by have := hM.kd; dsimp only at this; omega
  obtain ⟨md, hmd⟩ : ∃ md, mid ⟨⟨t, n, (c : Nat), i, s⟩, (m : Nat)⟩ = md := ⟨_, rfl⟩
  have hf : formK ⟨⟨t, n, (c : Nat), i, s⟩, (m : Nat)⟩ = txt t ++ (txt n ++ (c :: (md ++ shrt m))) := by
    unfold formK
    rw [hmd]
    simp
  rw [hf]
  have f1 : gstr (txt t ++ (txt n ++ (c :: (md ++ shrt m)))) 24 = .ok (t, (txt t).length) := gstr_txt _ _ ht
  have f2 : gstr ((txt t ++ (txt n ++ (c :: (md ++ shrt m)))).drop (txt t).length) 24 = .ok (n, (txt n).length) := by rw [drop_app _ _ _ rfl]; exact gstr_txt _ _ hn
  obtain ⟨p, hp⟩ : ∃ p, (txt t).length + (txt n).length = p := ⟨_, rfl⟩
  have e1 : txt t ++ (txt n ++ (c :: (md ++ shrt m))) = (txt t ++ txt n) ++ (c :: (md ++ shrt m)) := (List.append_assoc _ _ _).symm
  have lp : (txt t ++ txt n).length = p := by rw [List.length_append, hp]
  have f3 : (txt t ++ (txt n ++ (c :: (md ++ shrt m)))).getD p 0 = c := by rw [e1]; exact getD_app _ _ _ _ lp.symm
  have f4 : (txt t ++ (txt n ++ (c :: (md ++ shrt m)))).drop (p + 1) = md ++ shrt m := by
    rw [e1, show (txt t ++ txt n) ++ (c :: (md ++ shrt m)) = ((txt t ++ txt n) ++ [c]) ++ (md ++ shrt m) by simp]
    exact drop_app _ _ _ (by rw [List.length_append, lp]; rfl)
  have f5 : (txt t ++ (txt n ++ (c :: (md ++ shrt m)))).length = p + 1 + md.length + (shrt m).length := by
    simp only [List.length_append, List.length_cons]; omega
  have f6 : (txt t ++ (txt n ++ (c :: (md ++ shrt m)))).drop (p + 1 + md.length) = shrt m := by
    rw [← List.drop_drop, f4]; exact drop_app _ _ _ rfl
  have f7 : gs 0 (shrt m) = .ok (m, (shrt m).length) := by have := gs_at m (by omega) []; simpa using this
  unfold getR
  simp only [f1, f2, hp, f3, f5]
  rw [if_neg (by omega)]
  generalize txt t ++ (txt n ++ (c :: (md ++ shrt m))) = M at *
  clear f1 f2 f3 f5 e1 lp hp hf
  unfold refC
  rw [if_neg (by omega)]
  rcases hc3 with rfl | rfl | rfl
  · have h0 : md = [] := by rw [← hmd]; rfl
    subst h0
    rw [if_neg (by omega), if_neg (by omega)]
    have hi : i = 0 ∧ s = ⟨#[]⟩ := by
      have h := lastB_of hc
      unfold lastB at h
      dsimp only at h
      rw [if_pos (show ((0 : Nat) : Int) = 0 from rfl)] at h
      simp only [Bool.and_eq_true, decide_eq_true_eq, beq_iff_eq] at h
      exact ⟨h.1, bytes_nil h.2⟩
    obtain ⟨rfl, rfl⟩ := hi
    unfold refT
    simp only [List.length_nil, Nat.add_zero] at f6 ⊢
    rw [f6, f7]
    dsimp only
    rw [if_neg (by omega)]
    exact if_pos hc
  · have h := lastB_of hc
    unfold lastB at h
    dsimp only at h
    rw [if_neg (by simp), if_pos (show ((1 : Nat) : Int) = 1 from rfl)] at h
    simp only [Bool.and_eq_true, decide_eq_true_eq] at h
    obtain ⟨⟨i0, i1⟩, hs⟩ := h
    obtain rfl := bytes_nil hs
    obtain ⟨j, rfl⟩ : ∃ j : Nat, i = j := ⟨i.toNat, by omega⟩
    have h0 : md = shrt j := by rw [← hmd]; rfl
    subst h0
    rw [if_pos rfl, f4, gs_at j (by omega) (shrt m)]
    dsimp only
    unfold refT
    rw [f6, f7]
    dsimp only
    rw [if_neg (by omega)]
    exact if_pos hc
  · have h := lastB_of hc
    unfold lastB at h
    dsimp only at h
    rw [if_neg (by simp), if_neg (by simp), if_pos (show ((2 : Nat) : Int) = 2 from rfl)] at h
    simp only [Bool.and_eq_true, beq_iff_eq] at h
    obtain ⟨rfl, _⟩ := h
    have hs : s.size ≤ 24 := hM.k2 rfl
    have h0 : md = txt s := by rw [← hmd]; rfl
    subst h0
    rw [if_neg (by omega), if_pos rfl, f4, gstr_txt s (shrt m) hs]
    dsimp only
    unfold refT
    rw [f6, f7]
    dsimp only
    rw [if_neg (by omega)]
    exact if_pos hc
/-- what is laid is read again, by both -/
theorem getK_form {k : Obt} (hk : Okk k) (hc : checkKB k = true) : getK (formK k) = (k, (formK k).length, 0) := by
  rw [getK_eq _ (formK_bytes (may_of hc)), getR_form hk hc]
end Go.Proofs.YtakoghdkllfhlaaDoor

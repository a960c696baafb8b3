/- Reading the same tokens with others behind them: what ends ahead of them is read alike. No Go in sight. -/
import Derived.Test.YtncjncacfagldaaDoorWXM
namespace Go.Proofs.YtncjncacfagldaaDoor
open Go.RowKit Go.Lib

/-- something is wrong, or the reader is at m, or behind it -/
def Ovr (m : Nat) (s : St) : Prop := s.e ≠ 0 ∨ m ≤ s.p
section
variable {m : Nat}
theorem stray_v (C : Cx) (s : St) : Ovr m (C.stray s) := .inl (stray_e C s)
theorem pass_v {s : St} (h : Ovr m s) : Ovr m s.pass := h.imp (fun h => h) fun h => by show m ≤ s.p + 1; omega
theorem wants_v (C : Cx) {s : St} (h : Ovr m s) (k : Nat) (x : List UInt8) : Ovr m (C.wants s k x) := by
  unfold Cx.wants
  split
  · exact pass_v h
  · exact stray_v C s
theorem any_v (C : Cx) {s : St} (h : Ovr m s) : Ovr m (C.anyName s).2 := by
  unfold Cx.anyName
  split
  · exact pass_v h
  · exact stray_v C s
theorem free_v (C : Cx) {s : St} (h : Ovr m s) : Ovr m (C.freeName s).2 := by
  unfold Cx.freeName
  refine any_v C ?_
  split
  · exact stray_v C s
  · exact h
theorem ite_v {α : Type} {c : Prop} [Decidable c] {a b : α × St} (h1 : Ovr m a.2) (h2 : Ovr m b.2) : Ovr m (if c then a else b).2 := by split <;> assumption
theorem ite_sv {c : Prop} [Decidable c] {a b : St} (h1 : Ovr m a) (h2 : Ovr m b) : Ovr m (if c then a else b) := by split <;> assumption
theorem partL_v (C : Cx) (p : Ps) : ∀ (ps : List Prt) (l : List Ex) {s : St}, Ovr m s → Ovr m (partL C p ps l s).2
  | [], _, _, h => h
  | t :: r, l, s, h => by
    rw [partL]
    split
    · refine partL_v C p r _ ?_
      dsimp only
      split
      · exact h
      · rename_i h0; exact .inl (fail_e C (.inr h0))
    · exact partL_v C p r _ h
theorem text_v (C : Cx) {s : St} (h : Ovr m s) : Ovr m (textM C s).2 := by
  unfold textM
  split
  · exact partL_v C _ _ _ (pass_v h)
  · exact pass_v h
theorem key_v (C : Cx) {s : St} (h : Ovr m s) : Ovr m (keyM C s).2 := by
  unfold keyM
  exact ite_v (text_v C h) (any_v C h)
/-- what is wrong stays wrong -/
structure FV (m : Nat) (F : Fs) : Prop where
  ex : ∀ {s : St}, Ovr m s → Ovr m (F.ex s).2
  jo : ∀ {lo : Nat} {s : St}, Ovr m s → Ovr m (F.jo lo s).2
  un : ∀ {s : St}, Ovr m s → Ovr m (F.un s).2
theorem putE_v {F : Fs} (hF : FV m F) (l : List Ex) {s : St} (h : Ovr m s) : Ovr m (putE F l s).2 := hF.ex h
theorem putP_v (C : Cx) {F : Fs} (hF : FV m F) (l : List Ex) {s : St} (h : Ovr m s) : Ovr m (putP C F l s).2 := by
  unfold putP
  dsimp only
  exact putE_v hF _ (ite_sv (pass_v (key_v C h)) (wants_v C (key_v C h) _ _))
theorem putM_v (C : Cx) {F : Fs} (hF : FV m F) (b : Bool) (l : List Ex) {s : St} (h : Ovr m s) : Ovr m (putM C F b l s).2 := by
  unfold putM
  split
  · exact putP_v C hF l h
  · exact putE_v hF l h
theorem rowL_v (C : Cx) {F : Fs} (hF : FV m F) (b : Bool) (x : List UInt8) : ∀ (k : Nat) (l : List Ex) {s : St}, Ovr m s → Ovr m (rowL C F b x k l s).2
  | 0, _, _, h => h
  | k + 1, l, s, h => by
    rw [rowL]
    refine ite_v (pass_v h) ?_
    dsimp only
    exact ite_v (rowL_v C hF b x k _ (pass_v (putM_v C hF b l h))) (wants_v C (putM_v C hF b l h) _ _)
theorem row_v (C : Cx) {F : Fs} (hF : FV m F) (b : Bool) (x : List UInt8) {s : St} (h : Ovr m s) : Ovr m (rowM C F b x s).2 := rowL_v C hF b x _ _ h
theorem loop_v1 (C : Cx) {F : Fs} (hF : FV m F) (op : Nat) (pos : Ps) (x : List UInt8) {s : St} (h : Ovr m (C.freeName s).2) : Ovr m (loopM C F op pos x s).2 := by
  unfold loopM
  dsimp only
  refine wants_v C ?_ _ _
  have h0 : Ovr m (if C.is (C.freeName s).2 4 [44] = true then C.freeName (C.freeName s).2.pass else C.freeName s).2 := ite_v (free_v C (pass_v h)) h
  have h1 := putE_v hF [] (wants_v C h0 1 sIn)
  have h2 := putE_v hF (putE F [] (C.wants (if C.is (C.freeName s).2 4 [44] = true then C.freeName (C.freeName s).2.pass else C.freeName s).2 1 sIn)).1 (wants_v C h1 4 [58])
  have h3 := ite_v (c := op = 25) (putE_v hF (putE F (putE F [] (C.wants (if C.is (C.freeName s).2 4 [44] = true then C.freeName (C.freeName s).2.pass else C.freeName s).2 1 sIn)).1 (C.wants (putE F [] (C.wants (if C.is (C.freeName s).2 4 [44] = true then C.freeName (C.freeName s).2.pass else C.freeName s).2 1 sIn)).2 4 [58])).1 (wants_v C h2 4 [61, 62])) h2
  exact ite_v (putE_v hF _ (pass_v h3)) h3
theorem loop_v (C : Cx) {F : Fs} (hF : FV m F) (op : Nat) (pos : Ps) (x : List UInt8) {s : St} (h : Ovr m s) : Ovr m (loopM C F op pos x s).2 := loop_v1 C hF op pos x (free_v C h)
theorem brackets_v (C : Cx) {F : Fs} (hF : FV m F) {s : St} (h : Ovr m s) : Ovr m (bracketsM C F s).2 := wants_v C (hF.ex (pass_v h)) _ _
theorem list_v (C : Cx) {F : Fs} (hF : FV m F) {s : St} (h : Ovr m s) : Ovr m (listM C F s).2 := by
  unfold listM
  exact ite_v (loop_v C hF _ _ _ (pass_v (pass_v h))) (row_v C hF _ _ (pass_v h))
theorem pairs_v (C : Cx) {F : Fs} (hF : FV m F) {s : St} (h : Ovr m s) : Ovr m (pairsM C F s).2 := by
  unfold pairsM
  dsimp only
  exact ite_v (loop_v C hF _ _ _ (pass_v (pass_v h))) (row_v C hF _ _ (pass_v h))
theorem named_v (C : Cx) {F : Fs} (hF : FV m F) {s : St} (h : Ovr m s) : Ovr m (namedM C F s).2 := by
  unfold namedM
  dsimp only
  refine ite_v (pass_v h) (ite_v (pass_v h) ?_)
  exact ite_v (row_v C hF _ _ (pass_v (free_v C h))) (free_v C h)
theorem first_v (C : Cx) {F : Fs} (hF : FV m F) {s : St} (h : Ovr m s) : Ovr m (firstM C F s).2 := by
  unfold firstM
  exact ite_v (named_v C hF h) (ite_v (pass_v h) (ite_v (text_v C h) (ite_v (brackets_v C hF h) (ite_v (list_v C hF h) (ite_v (pairs_v C hF h) (stray_v C s))))))
theorem postL_v (C : Cx) {F : Fs} (hF : FV m F) : ∀ (k : Nat) (e : Ex) {s : St}, Ovr m s → Ovr m (postL C F k e s).2
  | 0, _, _, h => h
  | k + 1, e, s, h => by
    rw [postL]
    dsimp only
    exact ite_v (postL_v C hF k _ (any_v C (pass_v h))) (ite_v (postL_v C hF k _ (wants_v C (hF.ex (pass_v h)) _ _)) h)
theorem post_v (C : Cx) {F : Fs} (hF : FV m F) {s : St} (h : Ovr m s) : Ovr m (postM C F s).2 := postL_v C hF _ _ (first_v C hF h)
theorem unary_v (C : Cx) {F : Fs} (hF : FV m F) {s : St} (h : Ovr m s) : Ovr m (unaryM C F s).2 := by
  unfold unaryM
  exact ite_v (post_v C hF h) (hF.un (pass_v h))
theorem joinL_v (C : Cx) {F : Fs} (hF : FV m F) (lo : Nat) : ∀ (k ti : Nat) (e : Ex) {s : St}, Ovr m s → Ovr m (joinL C F lo k ti e s).2
  | 0, _, _, _, h => h
  | k + 1, ti, e, s, h => by
    rw [joinL]
    dsimp only
    exact ite_v h (joinL_v C hF lo k _ _ (hF.jo (pass_v h)))
theorem joined_v (C : Cx) {F : Fs} (hF : FV m F) (lo : Nat) {s : St} (h : Ovr m s) : Ovr m (joinedM C F lo s).2 := joinL_v C hF lo _ _ _ (hF.un h)
theorem expr_v (C : Cx) {F : Fs} (hF : FV m F) {s : St} (h : Ovr m s) : Ovr m (exprM C F s).2 := by
  unfold exprM
  dsimp only
  exact ite_v (hF.ex (wants_v C (hF.ex (pass_v (hF.jo h))) _ _)) (hF.jo h)
theorem fs_v (C : Cx) : ∀ f, FV m (fs C f)
  | 0 => ⟨fun h => h, fun h => h, fun h => h⟩
  | f + 1 => ⟨fun h => expr_v C (fs_v C f) h, fun h => joined_v C (fs_v C f) _ h, fun h => unary_v C (fs_v C f) h⟩


end
/-- over, or both the same -/
def Lc (m a : Nat) (P : Prop) (s t : St) : Prop := Ovr m s ∨ (s = t ∧ s.e = 0 ∧ s.p < m ∧ a ≤ s.p ∧ P)
theorem Lc.imp {m a b : Nat} {P Q : Prop} {s t : St} (h : Lc m a P s t) (hb : b ≤ a) (hq : P → Q) : Lc m b Q s t := by
  rcases h with h | ⟨h1, h2, h3, h4, h5⟩
  · exact .inl h
  · exact .inr ⟨h1, h2, h3, Nat.le_trans hb h4, hq h5⟩
/-- the tokens below m are the same -/
structure Ag (m : Nat) (C D : Cx) : Prop where
  tk : ∀ i, i < m → D.tk i = C.tk i
  hh : D.h = C.h
  inn : D.inn = C.inn
  lc : m ≤ C.L.length
  ld : m ≤ D.L.length
theorem lc_mk {m : Nat} {s : St} (he : s.e = 0) {P : Prop} (hP : P) : Lc m s.p P s s := by
  by_cases hp : s.p < m
  · exact .inr ⟨rfl, he, hp, Nat.le_refl _, hP⟩
  · exact .inl (.inr (by omega))
theorem lc_pass {m : Nat} {s : St} (he : s.e = 0) {a : Nat} (ha : a ≤ s.p + 1) {P : Prop} (hP : P) : Lc m a P s.pass s.pass := (lc_mk (s := s.pass) he hP).imp ha fun h => h
section
variable {m : Nat} {C D : Cx}
theorem Ag.is (h : Ag m C D) {s : St} (hp : s.p < m) (k : Nat) (x : List UInt8) : D.is s k x = C.is s k x := by unfold Cx.is; rw [h.tk _ hp]
theorem Ag.pl (h : Ag m C D) {s : St} (hp : s.p < m) : D.pl s = C.pl s := by unfold Cx.pl; rw [h.tk _ hp, h.hh]
theorem Ag.sign (h : Ag m C D) {s : St} (hp : s.p < m) : D.sign s = C.sign s := by unfold Cx.sign; rw [h.tk _ hp]
theorem wants_lc (h : Ag m C D) {a : Nat} {P : Prop} {s t : St} (hs : Lc m a P s t) (k : Nat) (x : List UInt8) : Lc m (a + 1) P (C.wants s k x) (D.wants t k x) := by
  rcases hs with hs | ⟨rfl, he, hp, ha, hP⟩
  · exact .inl (wants_v C hs k x)
  · unfold Cx.wants
    rw [h.is hp]
    cases C.is s k x with
    | false => exact .inl (stray_v C s)
    | true => exact lc_pass he (by omega) hP
theorem any_lc (h : Ag m C D) {a : Nat} {P : Prop} {s t : St} (hs : Lc m a P s t) : Lc m (a + 1) (P ∧ (C.anyName s).1 = (D.anyName t).1) (C.anyName s).2 (D.anyName t).2 := by
  rcases hs with hs | ⟨rfl, he, hp, ha, hP⟩
  · exact .inl (any_v C hs)
  · unfold Cx.anyName
    rw [h.tk _ hp]
    by_cases hc : (C.tk s.p).k = 1
    · rw [if_pos hc, if_pos hc]; exact lc_pass he (by omega) ⟨hP, rfl⟩
    · rw [if_neg hc]; exact .inl (stray_v C s)
theorem free_lc (h : Ag m C D) {a : Nat} {P : Prop} {s t : St} (hs : Lc m a P s t) : Lc m (a + 1) (P ∧ (C.freeName s).1 = (D.freeName t).1) (C.freeName s).2 (D.freeName t).2 := by
  rcases hs with hs | ⟨rfl, he, hp, ha, hP⟩
  · exact .inl (free_v C hs)
  · unfold Cx.freeName
    rw [h.tk _ hp]
    cases hr : reserved (C.tk s.p).s with
    | true => exact .inl (any_v C (stray_v C s))
    | false => exact any_lc h (.inr ⟨rfl, he, hp, ha, hP⟩)
theorem partL_lc (h : Ag m C D) {a : Nat} (p : Ps) : ∀ (ps : List Prt) (l k : List Ex) (s t : St), Lc m a (l = k) s t → Lc m a ((partL C p ps l s).1 = (partL D p ps k t).1) (partL C p ps l s).2 (partL D p ps k t).2
  | [], _, _, _, _, ho => ho
  | x :: r, l, k, s, t, ho => by
    rw [partL, partL, h.inn, h.hh]
    cases hx : x.ex with
    | false => exact partL_lc h p r _ _ _ _ (ho.imp (Nat.le_refl _) fun hl => by rw [hl])
    | true =>
      simp only [if_true]
      refine partL_lc h p r _ _ _ _ ?_
      by_cases h0 : (C.inn x.s ⟨(mv C.h x.p.ps).a, (mv C.h x.p.ps).l - 1, (mv C.h x.p.ps).c - 1⟩).2.1 = 0
      · rw [if_pos h0, if_pos h0]; exact ho.imp (Nat.le_refl _) fun hl => by rw [hl]
      · rw [if_neg h0]; exact .inl (.inl (fail_e C (.inr h0)))
theorem text_lc (h : Ag m C D) {s : St} (he : s.e = 0) (hp : s.p < m) : Lc m (s.p + 1) ((textM C s).1 = (textM D s).1) (textM C s).2 (textM D s).2 := by
  unfold textM
  rw [h.tk _ hp, h.pl hp]
  cases hb : (C.tk s.p).ps.any (·.ex) with
  | true =>
    simp only [if_true]
    exact (partL_lc h (C.pl s) (C.tk s.p).ps [] [] s.pass s.pass (lc_pass he (Nat.le_refl _) rfl)).imp (Nat.le_refl _) fun e => by rw [e]
  | false => exact lc_pass he (Nat.le_refl _) rfl
theorem key_lc (h : Ag m C D) {s : St} (he : s.e = 0) (hp : s.p < m) : Lc m (s.p + 1) ((keyM C s).1 = (keyM D s).1) (keyM C s).2 (keyM D s).2 := by
  unfold keyM
  rw [h.tk _ hp]
  by_cases hk : (C.tk s.p).k = 3
  · rw [if_pos hk, if_pos hk]; exact text_lc h he hp
  · rw [if_neg hk, if_neg hk]
    exact (any_lc h (P := True) (.inr ⟨rfl, he, hp, Nat.le_refl _, trivial⟩)).imp (Nat.le_refl _) fun e => by
      show litX _ _ = litX _ _
      rw [e.2, h.pl hp]
/-- what both answer -/
structure FL (m f : Nat) (F G : Fs) : Prop where
  ex : ∀ {s : St}, s.e = 0 → s.p < m → 3 * (m - s.p) + 3 ≤ f → Lc m s.p ((F.ex s).1 = (G.ex s).1) (F.ex s).2 (G.ex s).2
  jo : ∀ {lo : Nat} {s : St}, 1 ≤ lo → s.e = 0 → s.p < m → 3 * (m - s.p) + 2 ≤ f → Lc m s.p ((F.jo lo s).1 = (G.jo lo s).1) (F.jo lo s).2 (G.jo lo s).2
  un : ∀ {s : St}, s.e = 0 → s.p < m → 3 * (m - s.p) + 1 ≤ f → Lc m s.p ((F.un s).1 = (G.un s).1) (F.un s).2 (G.un s).2
variable {f : Nat} {F G : Fs}
theorem ex_lc (hF : FL m f F G) (hE : FV m F) {a : Nat} {P : Prop} {s t : St} (hs : Lc m a P s t) (ha : 3 * (m - a) + 3 ≤ f) : Lc m a (P ∧ (F.ex s).1 = (G.ex t).1) (F.ex s).2 (G.ex t).2 := by
  rcases hs with hs | ⟨rfl, he, hp, h1, hP⟩
  · exact .inl (hE.ex hs)
  · exact (hF.ex he hp (by omega)).imp h1 fun e => ⟨hP, e⟩
theorem putE_lc (hF : FL m f F G) (hE : FV m F) {a : Nat} {P : Prop} {l k : List Ex} {s t : St} (hs : Lc m a (P ∧ l = k) s t) (ha : 3 * (m - a) + 3 ≤ f) : Lc m a (P ∧ (putE F l s).1 = (putE G k t).1) (putE F l s).2 (putE G k t).2 :=
  (ex_lc hF hE hs ha).imp (Nat.le_refl _) fun e => ⟨e.1.1, by show l ++ [(F.ex s).1] = k ++ [(G.ex t).1]; rw [e.1.2, e.2]⟩
theorem putP_lc (h : Ag m C D) (hF : FL m f F G) (hE : FV m F) {l : List Ex} {s : St} (he : s.e = 0) (hp : s.p < m) (ha : 3 * (m - s.p) + 3 ≤ f) : Lc m (s.p + 1) ((putP C F l s).1 = (putP D G l s).1) (putP C F l s).2 (putP D G l s).2 := by
  unfold putP
  dsimp only
  have key : Lc m (s.p + 1) (True ∧ l ++ [(keyM C s).1] = l ++ [(keyM D s).1]) (if C.is (keyM C s).2 4 [61] = true then (keyM C s).2.pass else C.wants (keyM C s).2 4 [58]) (if D.is (keyM D s).2 4 [61] = true then (keyM D s).2.pass else D.wants (keyM D s).2 4 [58]) := by
    rcases key_lc h he hp with h1 | ⟨h1, h2, h3, h4, h5⟩
    · exact .inl (ite_sv (pass_v h1) (wants_v C h1 _ _))
    · rw [← h1, h.is h3, h5]
      cases hc : C.is (keyM C s).2 4 [61] with
      | true => exact lc_pass h2 (by omega) ⟨trivial, rfl⟩
      | false => exact (wants_lc h (.inr ⟨rfl, h2, h3, h4, trivial, rfl⟩) 4 [58]).imp (by omega) fun e => e
  exact (putE_lc hF hE key (by omega)).imp (Nat.le_refl _) fun e => e.2
theorem putM_lc (h : Ag m C D) (hF : FL m f F G) (hE : FV m F) (b : Bool) {l : List Ex} {s : St} (he : s.e = 0) (hp : s.p < m) (ha : 3 * (m - s.p) + 3 ≤ f) : Lc m s.p ((putM C F b l s).1 = (putM D G b l s).1) (putM C F b l s).2 (putM D G b l s).2 := by
  unfold putM
  cases b with
  | true => exact (putP_lc h hF hE he hp ha).imp (by omega) fun e => e
  | false => exact (putE_lc hF hE (P := True) (.inr ⟨rfl, he, hp, Nat.le_refl _, trivial, rfl⟩) ha).imp (Nat.le_refl _) fun e => e.2
theorem rowL_lc (h : Ag m C D) (hF : FL m f F G) (hE : FV m F) (b : Bool) (x : List UInt8) : ∀ (k j : Nat) (l : List Ex) (s : St), s.e = 0 → s.p < m → 3 * (m - s.p) + 3 ≤ f → m - s.p + 1 ≤ k → m - s.p + 1 ≤ j → Lc m s.p ((rowL C F b x k l s).1 = (rowL D G b x j l s).1) (rowL C F b x k l s).2 (rowL D G b x j l s).2
  | 0, _, _, _, _, _, _, hk, _ => by omega
  | _ + 1, 0, _, _, _, _, _, _, hj => by omega
  | k + 1, j + 1, l, s, he, hp, ha, hk, hj => by
    rw [rowL, rowL, h.is hp]
    cases hc : C.is s 4 x with
    | true => exact lc_pass he (by omega) rfl
    | false =>
      simp only [Bool.false_eq_true, if_false]
      rcases putM_lc h hF hE b (l := l) he hp ha with h1 | ⟨h1, h2, h3, h4, h5⟩
      · exact .inl (ite_v (rowL_v C hE b x k _ (pass_v h1)) (wants_v C h1 _ _))
      · rw [← h1, ← h5, h.is h3]
        cases hc2 : C.is (putM C F b l s).2 4 [44] with
        | true =>
          simp only [if_true]
          by_cases hp2 : (putM C F b l s).2.pass.p < m
          · have e2 : (putM C F b l s).2.pass.p = (putM C F b l s).2.p + 1 := rfl
            exact (rowL_lc h hF hE b x k j _ (putM C F b l s).2.pass h2 hp2 (by omega) (by omega) (by omega)).imp (by omega) fun e => e
          · exact .inl (rowL_v C hE b x k _ (.inr (by omega)))
        | false =>
          simp only [Bool.false_eq_true, if_false]
          exact (wants_lc h (P := True) (.inr ⟨rfl, h2, h3, h4, trivial⟩) 4 x).imp (by omega) fun _ => trivial
theorem row_lc (h : Ag m C D) (hF : FL m f F G) (hE : FV m F) (b : Bool) (x : List UInt8) {a : Nat} {s : St} (hs : Lc m a True s s) (ha : 3 * (m - a) + 3 ≤ f) : Lc m a ((rowM C F b x s).1 = (rowM D G b x s).1) (rowM C F b x s).2 (rowM D G b x s).2 := by
  rcases hs with hs | ⟨-, he, hp, h1, -⟩
  · exact .inl (row_v C hE b x hs)
  · exact (rowL_lc h hF hE b x _ _ _ s he hp (by omega) (by have := h.lc; omega) (by have := h.ld; omega)).imp h1 fun e => e
theorem loop_lc (h : Ag m C D) (hF : FL m f F G) (hE : FV m F) (op : Nat) (p : Ps) {x : List UInt8} {a : Nat} {s : St} (hs : Lc m a True s s) (ha : 3 * (m - a) + 3 ≤ f) : Lc m a ((loopM C F op p x s).1 = (loopM D G op p x s).1) (loopM C F op p x s).2 (loopM D G op p x s).2 := by
  have h1 := free_lc h hs
  rcases h1 with h1 | ⟨h1, h2, h3, h4, -, h5⟩
  · exact .inl (loop_v1 C hE op p x h1)
  · unfold loopM
    dsimp only
    have hNM : C.freeName s = D.freeName s := Prod.ext h5 h1
    rw [← hNM, h.is h3]
    generalize hn : C.freeName s = N at *
    have h2 : Lc m (a + 1) ((if C.is N.2 4 [44] = true then C.freeName N.2.pass else N).1 = (if C.is N.2 4 [44] = true then D.freeName N.2.pass else N).1) (if C.is N.2 4 [44] = true then C.freeName N.2.pass else N).2 (if C.is N.2 4 [44] = true then D.freeName N.2.pass else N).2 := by
      cases hc : C.is N.2 4 [44] with
      | true =>
        simp only [if_true]
        exact (free_lc h (P := True) (lc_pass h2 (a := a + 1) (by omega) trivial)).imp (by omega) fun e => e.2
      | false =>
        simp only [Bool.false_eq_true, if_false]
        exact .inr ⟨rfl, h2, h3, h4, trivial⟩
    generalize (if C.is N.2 4 [44] = true then tx N.1 else (⟨#[]⟩ : ByteArray)) = T1 at *
    generalize (if C.is N.2 4 [44] = true then C.freeName N.2.pass else N) = A at *
    generalize (if C.is N.2 4 [44] = true then D.freeName N.2.pass else N) = B at *
    have h3 := wants_lc h h2 1 sIn
    have h4 := putE_lc hF hE (l := []) (k := []) (h3.imp (b := a + 1 + 1) (Nat.le_refl _) fun e => ⟨e, rfl⟩) (by omega)
    have h5 := putE_lc hF hE (wants_lc h h4 4 [58]) (by omega)
    generalize hY : putE F (putE F [] (C.wants A.2 1 sIn)).1 (C.wants (putE F [] (C.wants A.2 1 sIn)).2 4 [58]) = Y at *
    generalize hZ : putE G (putE G [] (D.wants B.2 1 sIn)).1 (D.wants (putE G [] (D.wants B.2 1 sIn)).2 4 [58]) = Z at *
    have h6 : Lc m (a + 1) (A.1 = B.1 ∧ (if op = 25 then putE F Y.1 (C.wants Y.2 4 [61, 62]) else Y).1 = (if op = 25 then putE G Z.1 (D.wants Z.2 4 [61, 62]) else Z).1) (if op = 25 then putE F Y.1 (C.wants Y.2 4 [61, 62]) else Y).2 (if op = 25 then putE G Z.1 (D.wants Z.2 4 [61, 62]) else Z).2 := by
      by_cases ho : op = 25
      · rw [if_pos ho, if_pos ho]
        exact (putE_lc hF hE (wants_lc h h5 4 [61, 62]) (by omega)).imp (by omega) fun e => e
      · rw [if_neg ho, if_neg ho]
        exact h5.imp (by omega) fun e => e
    generalize (if op = 25 then putE F Y.1 (C.wants Y.2 4 [61, 62]) else Y) = U at *
    generalize (if op = 25 then putE G Z.1 (D.wants Z.2 4 [61, 62]) else Z) = V at *
    rcases h6 with h6 | ⟨h6, b6, c6, d6, e6⟩
    · exact .inl (wants_v C (ite_v (putE_v hE _ (pass_v h6)) h6) _ _)
    · rw [← h6, h.is c6, ← e6.2]
      have h7 : Lc m (a + 1) (A.1 = B.1 ∧ (if C.is U.2 1 sIf = true then putE F U.1 U.2.pass else U).1 = (if C.is U.2 1 sIf = true then putE G U.1 U.2.pass else V).1) (if C.is U.2 1 sIf = true then putE F U.1 U.2.pass else U).2 (if C.is U.2 1 sIf = true then putE G U.1 U.2.pass else V).2 := by
        cases hc : C.is U.2 1 sIf with
        | true =>
          simp only [if_true]
          exact putE_lc hF hE (lc_pass b6 (by omega) ⟨e6.1, rfl⟩) (by omega)
        | false =>
          simp only [Bool.false_eq_true, if_false]
          exact .inr ⟨h6, b6, c6, d6, e6⟩
      refine (wants_lc h h7 4 x).imp (by omega) fun e => ?_
      rw [e.1, e.2]
theorem brackets_lc (h : Ag m C D) (hF : FL m f F G) (hE : FV m F) {s : St} (he : s.e = 0) (hp : s.p < m) (ha : 3 * (m - s.p) ≤ f) : Lc m s.p ((bracketsM C F s).1 = (bracketsM D G s).1) (bracketsM C F s).2 (bracketsM D G s).2 := by
  unfold bracketsM
  exact (wants_lc h (ex_lc hF hE (P := True) (lc_pass he (a := s.p + 1) (Nat.le_refl _) trivial) (by omega)) 4 [41]).imp (by omega) fun e => e.2
theorem list_lc (h : Ag m C D) (hF : FL m f F G) (hE : FV m F) {s : St} (he : s.e = 0) (hp : s.p < m) (ha : 3 * (m - s.p) ≤ f) : Lc m s.p ((listM C F s).1 = (listM D G s).1) (listM C F s).2 (listM D G s).2 := by
  by_cases hp2 : s.pass.p < m
  · have hp3 : s.p + 1 < m := hp2
    unfold listM
    rw [h.is hp2, h.pl hp]
    cases hc : C.is s.pass 1 sFor with
    | true =>
      simp only [if_true]
      exact (loop_lc h hF hE _ _ (lc_pass (s := s.pass) he (a := s.p + 1) (by show s.p + 1 ≤ s.p + 1 + 1; omega) trivial) (by omega)).imp (by omega) fun e => e
    | false =>
      simp only [Bool.false_eq_true, if_false]
      exact (row_lc h hF hE false [93] (lc_pass he (a := s.p + 1) (Nat.le_refl _) trivial) (by omega)).imp (by omega) fun e => by rw [e]
  · refine .inl ?_
    have h0 : Ovr m s.pass := .inr (by omega)
    unfold listM
    exact ite_v (loop_v C hE _ _ _ (pass_v h0)) (row_v C hE _ _ h0)
theorem pairs_lc (h : Ag m C D) (hF : FL m f F G) (hE : FV m F) {s : St} (he : s.e = 0) (hp : s.p < m) (ha : 3 * (m - s.p) ≤ f) : Lc m s.p ((pairsM C F s).1 = (pairsM D G s).1) (pairsM C F s).2 (pairsM D G s).2 := by
  by_cases hp2 : s.p + 1 + 1 < m
  · have hp3 : s.pass.p < m := by show s.p + 1 < m; omega
    unfold pairsM
    dsimp only
    rw [h.is hp3, h.pl hp, h.tk _ hp2]
    generalize (decide ((C.tk (s.p + 1 + 1)).k = 4) && (decide ((C.tk (s.p + 1 + 1)).s = [61]) || decide ((C.tk (s.p + 1 + 1)).s = [58]))) = nm at *
    cases hc : (!nm && C.is s.pass 1 sFor) with
    | true =>
      simp only [if_true]
      exact (loop_lc h hF hE _ _ (lc_pass (s := s.pass) he (a := s.p + 1) (by show s.p + 1 ≤ s.p + 1 + 1; omega) trivial) (by omega)).imp (by omega) fun e => e
    | false =>
      simp only [Bool.false_eq_true, if_false]
      exact (row_lc h hF hE true [125] (lc_pass he (a := s.p + 1) (Nat.le_refl _) trivial) (by omega)).imp (by omega) fun e => by rw [e]
  · refine .inl ?_
    have h0 : Ovr m s.pass.pass := .inr (by show m ≤ s.p + 1 + 1; omega)
    have h1 : Ovr m (rowM C F true [125] s.pass).2 := by
      unfold rowM
      rw [rowL]
      refine ite_v h0 ?_
      have hk : Ovr m (keyM C s.pass).2 := by
        by_cases hp3 : s.pass.p < m
        · rcases key_lc h (s := s.pass) he hp3 with hk | ⟨-, -, h3, h4, -⟩
          · exact hk
          · have h4 : s.p + 1 + 1 ≤ (keyM C s.pass).2.p := h4
            omega
        · exact key_v C (.inr (by omega))
      have hm : Ovr m (putM C F true [] s.pass).2 := putE_v hE _ (ite_sv (pass_v hk) (wants_v C hk _ _))
      exact ite_v (rowL_v C hE true [125] _ _ (pass_v hm)) (wants_v C hm _ _)
    unfold pairsM
    dsimp only
    exact ite_v (loop_v C hE _ _ _ h0) h1
theorem named_lc (h : Ag m C D) (hF : FL m f F G) (hE : FV m F) {s : St} (he : s.e = 0) (hp : s.p < m) (ha : 3 * (m - s.p) ≤ f) : Lc m s.p ((namedM C F s).1 = (namedM D G s).1) (namedM C F s).2 (namedM D G s).2 := by
  unfold namedM
  dsimp only
  rw [h.tk _ hp, h.pl hp]
  by_cases h1 : (C.tk s.p).s = sTrue ∨ (C.tk s.p).s = sFalse
  · rw [if_pos h1, if_pos h1]
    exact lc_pass he (by omega) rfl
  · rw [if_neg h1, if_neg h1]
    by_cases h2 : (C.tk s.p).s = sNull
    · rw [if_pos h2, if_pos h2]
      exact lc_pass he (by omega) rfl
    · rw [if_neg h2, if_neg h2]
      rcases free_lc h (P := True) (lc_mk he trivial) with g | ⟨g1, g2, g3, g4, -, g5⟩
      · exact .inl (ite_v (row_v C hE _ _ (pass_v g)) g)
      · rw [← (Prod.ext g5 g1 : C.freeName s = D.freeName s), h.is g3]
        cases hc : C.is (C.freeName s).2 4 [40] with
        | true =>
          simp only [if_true]
          exact (row_lc h hF hE false [41] (lc_pass g2 (a := s.p + 1) (by omega) trivial) (by omega)).imp (by omega) fun e => by rw [e]
        | false =>
          simp only [Bool.false_eq_true, if_false]
          exact .inr ⟨rfl, g2, g3, by omega, trivial⟩
theorem first_lc (h : Ag m C D) (hF : FL m f F G) (hE : FV m F) {s : St} (he : s.e = 0) (hp : s.p < m) (ha : 3 * (m - s.p) ≤ f) : Lc m s.p ((firstM C F s).1 = (firstM D G s).1) (firstM C F s).2 (firstM D G s).2 := by
  unfold firstM
  rw [h.tk _ hp, h.sign hp, h.pl hp]
  by_cases h1 : (C.tk s.p).k = 1
  · rw [if_pos h1, if_pos h1]; exact named_lc h hF hE he hp ha
  · rw [if_neg h1, if_neg h1]
    by_cases h2 : (C.tk s.p).k = 2
    · rw [if_pos h2, if_pos h2]; exact lc_pass he (by omega) rfl
    · rw [if_neg h2, if_neg h2]
      by_cases h3 : (C.tk s.p).k = 3
      · rw [if_pos h3, if_pos h3]; exact (text_lc h he hp).imp (by omega) fun e => e
      · rw [if_neg h3, if_neg h3]
        by_cases h4 : (C.sign s).op = 1
        · rw [if_pos h4, if_pos h4]; exact brackets_lc h hF hE he hp ha
        · rw [if_neg h4, if_neg h4]
          by_cases h5 : (C.sign s).op = 2
          · rw [if_pos h5, if_pos h5]; exact list_lc h hF hE he hp ha
          · rw [if_neg h5, if_neg h5]
            by_cases h6 : (C.sign s).op = 3
            · rw [if_pos h6, if_pos h6]; exact pairs_lc h hF hE he hp ha
            · rw [if_neg h6]; exact .inl (stray_v C s)
theorem postL_lc (h : Ag m C D) (hF : FL m f F G) (hE : FV m F) : ∀ (k j : Nat) (e : Ex) (s : St), s.e = 0 → s.p < m → 3 * (m - s.p) ≤ f → m - s.p + 1 ≤ k → m - s.p + 1 ≤ j → Lc m s.p ((postL C F k e s).1 = (postL D G j e s).1) (postL C F k e s).2 (postL D G j e s).2
  | 0, _, _, _, _, _, _, hk, _ => by omega
  | _ + 1, 0, _, _, _, _, _, _, hj => by omega
  | k + 1, j + 1, e, s, he, hp, ha, hk, hj => by
    rw [postL, postL]
    dsimp only
    rw [h.is hp, h.is hp, h.pl hp]
    cases hc : C.is s 4 [46] with
    | true =>
      simp only [if_true]
      rcases any_lc h (P := True) (lc_pass he (a := s.p + 1) (Nat.le_refl _) trivial) with g | ⟨g1, g2, g3, g4, -, g5⟩
      · exact .inl (postL_v C hE k _ g)
      · rw [← g1, ← g5]
        exact (postL_lc h hF hE k j _ _ g2 g3 (by omega) (by omega) (by omega)).imp (by omega) fun e => e
    | false =>
      simp only [Bool.false_eq_true, if_false]
      cases hc2 : C.is s 4 [91] with
      | true =>
        simp only [if_true]
        rcases wants_lc h (ex_lc hF hE (P := True) (lc_pass he (a := s.p + 1) (Nat.le_refl _) trivial) (by omega)) 4 [93] with g | ⟨g1, g2, g3, g4, -, g5⟩
        · exact .inl (postL_v C hE k _ g)
        · rw [← g1, ← g5]
          exact (postL_lc h hF hE k j _ _ g2 g3 (by omega) (by omega) (by omega)).imp (by omega) fun e => e
      | false =>
        simp only [Bool.false_eq_true, if_false]
        exact lc_mk he trivial
theorem post_lc (h : Ag m C D) (hF : FL m f F G) (hE : FV m F) {s : St} (he : s.e = 0) (hp : s.p < m) (ha : 3 * (m - s.p) ≤ f) : Lc m s.p ((postM C F s).1 = (postM D G s).1) (postM C F s).2 (postM D G s).2 := by
  unfold postM
  rcases first_lc h hF hE he hp ha with g | ⟨g1, g2, g3, g4, g5⟩
  · exact .inl (postL_v C hE _ _ g)
  · rw [← (Prod.ext g5 g1 : firstM C F s = firstM D G s)]
    exact (postL_lc h hF hE _ _ _ _ g2 g3 (by omega) (by have := h.lc; omega) (by have := h.ld; omega)).imp g4 fun e => e
theorem unary_lc (h : Ag m C D) (hF : FL m f F G) (hE : FV m F) {s : St} (he : s.e = 0) (hp : s.p < m) (ha : 3 * (m - s.p) ≤ f) : Lc m s.p ((unaryM C F s).1 = (unaryM D G s).1) (unaryM C F s).2 (unaryM D G s).2 := by
  unfold unaryM
  rw [h.sign hp, h.pl hp]
  by_cases h0 : (C.sign s).hd = 0
  · rw [if_pos h0, if_pos h0]; exact post_lc h hF hE he hp ha
  · rw [if_neg h0, if_neg h0]
    by_cases hp2 : s.pass.p < m
    · have e2 : s.pass.p = s.p + 1 := rfl
      exact (hF.un (s := s.pass) he hp2 (by omega)).imp (by omega) fun e => by rw [e]
    · exact .inl (hE.un (.inr (by omega)))
theorem joinL_lc (h : Ag m C D) (hF : FL m f F G) (hE : FV m F) {lo : Nat} (hlo : 1 ≤ lo) : ∀ (k j ti : Nat) (e : Ex) (s : St), s.e = 0 → s.p < m → 3 * (m - s.p) ≤ f + 1 → m - s.p + 1 ≤ k → m - s.p + 1 ≤ j → Lc m s.p ((joinL C F lo k ti e s).1 = (joinL D G lo j ti e s).1) (joinL C F lo k ti e s).2 (joinL D G lo j ti e s).2
  | 0, _, _, _, _, _, _, _, hk, _ => by omega
  | _ + 1, 0, _, _, _, _, _, _, _, hj => by omega
  | k + 1, j + 1, ti, e, s, he, hp, ha, hk, hj => by
    rw [joinL, joinL]
    dsimp only
    rw [h.sign hp, h.pl hp]
    by_cases hv : lvl (C.sign s).bt < lo ∨ ti < lvl (C.sign s).bt
    · rw [if_pos hv, if_pos hv]; exact lc_mk he rfl
    · rw [if_neg hv, if_neg hv]
      by_cases hp2 : s.pass.p < m
      · have e2 : s.pass.p = s.p + 1 := rfl
        rcases hF.jo (lo := lvl (C.sign s).bt + 1) (s := s.pass) (by omega) he hp2 (by omega) with g | ⟨g1, g2, g3, g4, g5⟩
        · exact .inl (joinL_v C hE lo k _ _ g)
        · rw [← g1, ← g5]
          exact (joinL_lc h hF hE hlo k j _ _ _ g2 g3 (by omega) (by omega) (by omega)).imp (by omega) fun e => e
      · exact .inl (joinL_v C hE lo k _ _ (hE.jo (.inr (by omega))))
theorem joined_lc (h : Ag m C D) (hF : FL m f F G) (hE : FV m F) {lo : Nat} (hlo : 1 ≤ lo) {s : St} (he : s.e = 0) (hp : s.p < m) (ha : 3 * (m - s.p) + 1 ≤ f) : Lc m s.p ((joinedM C F lo s).1 = (joinedM D G lo s).1) (joinedM C F lo s).2 (joinedM D G lo s).2 := by
  unfold joinedM
  rcases hF.un he hp ha with g | ⟨g1, g2, g3, g4, g5⟩
  · exact .inl (joinL_v C hE _ _ _ _ g)
  · rw [← (Prod.ext g5 g1 : F.un s = G.un s)]
    exact (joinL_lc h hF hE hlo _ _ _ _ _ g2 g3 (by omega) (by have := h.lc; omega) (by have := h.ld; omega)).imp g4 fun e => e
theorem expr_lc (h : Ag m C D) (hF : FL m f F G) (hE : FV m F) {s : St} (he : s.e = 0) (hp : s.p < m) (ha : 3 * (m - s.p) + 2 ≤ f) : Lc m s.p ((exprM C F s).1 = (exprM D G s).1) (exprM C F s).2 (exprM D G s).2 := by
  unfold exprM
  dsimp only
  rcases hF.jo (lo := 1) (Nat.le_refl _) he hp ha with g | ⟨g1, g2, g3, g4, g5⟩
  · exact .inl (ite_v (hE.ex (wants_v C (hE.ex (pass_v g)) _ _)) g)
  · rw [← (Prod.ext g5 g1 : F.jo 1 s = G.jo 1 s), h.is g3, h.pl g3]
    cases hc : C.is (F.jo 1 s).2 4 [63] with
    | true =>
      simp only [if_true]
      have k1 := ex_lc hF hE (P := True) (lc_pass g2 (a := s.p + 1) (by omega) trivial) (by omega)
      have k2 := ex_lc hF hE (wants_lc h k1 4 [58]) (by omega)
      exact k2.imp (by omega) fun e => by rw [e.1.2, e.2]
    | false =>
      simp only [Bool.false_eq_true, if_false]
      exact .inr ⟨rfl, g2, g3, g4, trivial⟩
theorem fs_lc (h : Ag m C D) : ∀ (f g : Nat), FL m (min f g) (fs C f) (fs D g)
  | 0, g => ⟨fun _ _ h => by omega, fun _ _ _ h => by omega, fun _ _ h => by omega⟩
  | f + 1, 0 => ⟨fun _ _ h => by omega, fun _ _ _ h => by omega, fun _ _ h => by omega⟩
  | f + 1, g + 1 => by
    have ih := fs_lc h f g
    have hE := fs_v (m := m) C f
    have e : min (f + 1) (g + 1) = min f g + 1 := by omega
    rw [e]
    exact ⟨fun he hp ha => expr_lc h ih hE he hp (by omega), fun hlo he hp ha => joined_lc h ih hE hlo he hp (by omega), fun he hp ha => unary_lc h ih hE he hp (by omega)⟩
end
end Go.Proofs.YtncjncacfagldaaDoor

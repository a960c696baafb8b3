import Derived.Test.YtncjncacfagldaaGreatDoorYWZg
namespace Go.Proofs.YtncjncacfagldaaGreatDoor
open Go.RowKit Go.Lib

mutual
def bareX : Ex → Ex | .mk op s s2 v l _ _ _ => .mk op s s2 v (bareL l) 0 0 0
def bareL : List Ex → List Ex | [] => [] | a :: r => bareX a :: bareL r
end
theorem bareX_mk (op : Int) (s s2 : ByteArray) (v : Val) (l : List Ex) (a ln c : Int) : bareX (.mk op s s2 v l a ln c) = .mk op s s2 v (bareL l) 0 0 0 := by rw [bareX]
theorem bareL_nil : bareL [] = [] := by rw [bareL]
theorem bareL_cons (a : Ex) (r : List Ex) : bareL (a :: r) = bareX a :: bareL r := by rw [bareL]
theorem bareL_app (x y : List Ex) : bareL (x ++ y) = bareL x ++ bareL y := by
 induction x with
 | nil => rw [bareL_nil]; rfl
 | cons a r ih => rw [List.cons_append, bareL_cons, bareL_cons, ih]; rfl
theorem bare_tree (op : Nat) (p : Ps) (l : List Ex) : bareX (treeX op p l) = .mk op ⟨#[]⟩ ⟨#[]⟩ vNull (bareL l) 0 0 0 := by unfold treeX; rw [bareX_mk]
theorem bare_lit (v : Val) (p : Ps) : bareX (litX v p) = .mk 1 ⟨#[]⟩ ⟨#[]⟩ v [] 0 0 0 := by unfold litX; rw [bareX_mk, bareL_nil]
def pb (p : Prt) : Bool × List UInt8 := (p.ex, p.s)
structure Rel (d n : Nat) (C D : Cx) : Prop where
 tk : ∀ i, i < n → (D.tk (i + d)).k = (C.tk i).k ∧ (D.tk (i + d)).s = (C.tk i).s ∧ (D.tk (i + d)).n = (C.tk i).n ∧ (D.tk (i + d)).ps.map pb = (C.tk i).ps.map pb
 en : ∀ i, n ≤ i → (C.tk i).k = 0
 ed : (D.tk (n + d)).k = 4 → (D.tk (n + d)).s = [41]
 inn : ∀ l h h', (C.inn l h).2.1 = 0 → (D.inn l h').2.1 = 0 ∧ bareX (C.inn l h).1 = bareX (D.inn l h').1
 lc : n ≤ C.L.length
 ld : n ≤ D.L.length
structure SR (d n : Nat) (s t : St) : Prop where
 e : s.e = 0
 f : t.e = 0
 p : t.p = s.p + d
 n : s.p ≤ n
def Oc (d n a : Nat) (P : Prop) (s t : St) : Prop := s.e ≠ 0 ∨ (SR d n s t ∧ a ≤ s.p ∧ P)
theorem Oc.imp {d n a b : Nat} {P Q : Prop} {s t : St} (h : Oc d n a P s t) (hb : b ≤ a) (hq : P → Q) : Oc d n b Q s t := by
 rcases h with h | ⟨h1, h2, h3⟩
 · exact .inl h
 · exact .inr ⟨h1, Nat.le_trans hb h2, hq h3⟩
theorem fail_e (C : Cx) {s : St} {e : Nat} {q : Ps} (h : s.e ≠ 0 ∨ e ≠ 0) : (C.fail s e q).e ≠ 0 := by
 unfold Cx.fail
 by_cases h0 : s.e = 0
 · rw [if_pos h0]; rcases h with h | h
   · exact absurd h0 h
   · exact h
 · rw [if_neg h0]; exact h0
theorem stray_e (C : Cx) (s : St) : (C.stray s).e ≠ 0 := fail_e C (.inr (by decide))
theorem pass_e {s : St} (h : s.e ≠ 0) : s.pass.e ≠ 0 := h
theorem wants_e (C : Cx) {s : St} (h : s.e ≠ 0) (k : Nat) (x : List UInt8) : (C.wants s k x).e ≠ 0 := by
 unfold Cx.wants
 split
 · exact h
 · exact stray_e C s
theorem any_e (C : Cx) {s : St} (h : s.e ≠ 0) : (C.anyName s).2.e ≠ 0 := by
 unfold Cx.anyName
 split
 · exact h
 · exact stray_e C s
theorem free_e (C : Cx) {s : St} (h : s.e ≠ 0) : (C.freeName s).2.e ≠ 0 := by
 unfold Cx.freeName
 refine any_e C ?_
 split
 · exact stray_e C s
 · exact h
theorem ite_e {α : Type} {c : Prop} [Decidable c] {a b : α × St} (h1 : a.2.e ≠ 0) (h2 : b.2.e ≠ 0) : (if c then a else b).2.e ≠ 0 := by split <;> assumption
theorem ite_s {c : Prop} [Decidable c] {a b : St} (h1 : a.e ≠ 0) (h2 : b.e ≠ 0) : (if c then a else b).e ≠ 0 := by split <;> assumption
theorem partL_e (C : Cx) (p : Ps) : ∀ (ps : List Prt) (l : List Ex) {s : St}, s.e ≠ 0 → (partL C p ps l s).2.e ≠ 0
 | [], _, _, h => h
 | t :: r, l, s, h => by
   rw [partL]
   split
   · refine partL_e C p r _ ?_
     dsimp only
     exact ite_s h (fail_e C (.inl h))
   · exact partL_e C p r _ h
theorem text_e (C : Cx) {s : St} (h : s.e ≠ 0) : (textM C s).2.e ≠ 0 := by
 unfold textM
 split
 · exact partL_e C _ _ _ h
 · exact h
theorem key_e (C : Cx) {s : St} (h : s.e ≠ 0) : (keyM C s).2.e ≠ 0 := by
 unfold keyM
 exact ite_e (text_e C h) (any_e C h)
structure FE (F : Fs) : Prop where
 ex : ∀ {s : St}, s.e ≠ 0 → (F.ex s).2.e ≠ 0
 jo : ∀ {lo : Nat} {s : St}, s.e ≠ 0 → (F.jo lo s).2.e ≠ 0
 un : ∀ {s : St}, s.e ≠ 0 → (F.un s).2.e ≠ 0
theorem putE_e {F : Fs} (hF : FE F) (l : List Ex) {s : St} (h : s.e ≠ 0) : (putE F l s).2.e ≠ 0 := hF.ex h
theorem putP_e (C : Cx) {F : Fs} (hF : FE F) (l : List Ex) {s : St} (h : s.e ≠ 0) : (putP C F l s).2.e ≠ 0 := by
 unfold putP
 dsimp only
 exact putE_e hF _ (ite_s (pass_e (key_e C h)) (wants_e C (key_e C h) _ _))
theorem putM_e (C : Cx) {F : Fs} (hF : FE F) (b : Bool) (l : List Ex) {s : St} (h : s.e ≠ 0) : (putM C F b l s).2.e ≠ 0 := by
 unfold putM
 split
 · exact putP_e C hF l h
 · exact putE_e hF l h
theorem rowL_e (C : Cx) {F : Fs} (hF : FE F) (b : Bool) (x : List UInt8) : ∀ (k : Nat) (l : List Ex) {s : St}, s.e ≠ 0 → (rowL C F b x k l s).2.e ≠ 0
 | 0, _, _, h => h
 | k + 1, l, s, h => by
   rw [rowL]
   refine ite_e h ?_
   dsimp only
   exact ite_e (rowL_e C hF b x k _ (pass_e (putM_e C hF b l h))) (wants_e C (putM_e C hF b l h) _ _)
theorem row_e (C : Cx) {F : Fs} (hF : FE F) (b : Bool) (x : List UInt8) {s : St} (h : s.e ≠ 0) : (rowM C F b x s).2.e ≠ 0 := rowL_e C hF b x _ _ h
theorem loop_e1 (C : Cx) {F : Fs} (hF : FE F) (op : Nat) (pos : Ps) (x : List UInt8) {s : St} (h : (C.freeName s).2.e ≠ 0) : (loopM C F op pos x s).2.e ≠ 0 := by
 unfold loopM
 dsimp only
 refine wants_e C ?_ _ _
 have h0 : (if C.is (C.freeName s).2 4 [44] = true then C.freeName (C.freeName s).2.pass else C.freeName s).2.e ≠ 0 := ite_e (free_e C (pass_e h)) h
 have h1 := putE_e hF [] (wants_e C h0 1 sIn)
 have h2 := putE_e hF (putE F [] (C.wants (if C.is (C.freeName s).2 4 [44] = true then C.freeName (C.freeName s).2.pass else C.freeName s).2 1 sIn)).1 (wants_e C h1 4 [58])
 have h3 := ite_e (c := op = 25) (putE_e hF (putE F (putE F [] (C.wants (if C.is (C.freeName s).2 4 [44] = true then C.freeName (C.freeName s).2.pass else C.freeName s).2 1 sIn)).1 (C.wants (putE F [] (C.wants (if C.is (C.freeName s).2 4 [44] = true then C.freeName (C.freeName s).2.pass else C.freeName s).2 1 sIn)).2 4 [58])).1 (wants_e C h2 4 [61, 62])) h2
 exact ite_e (putE_e hF _ (pass_e h3)) h3
theorem loop_e (C : Cx) {F : Fs} (hF : FE F) (op : Nat) (pos : Ps) (x : List UInt8) {s : St} (h : s.e ≠ 0) : (loopM C F op pos x s).2.e ≠ 0 := loop_e1 C hF op pos x (free_e C h)
theorem brackets_e (C : Cx) {F : Fs} (hF : FE F) {s : St} (h : s.e ≠ 0) : (bracketsM C F s).2.e ≠ 0 := wants_e C (hF.ex (pass_e h)) _ _
theorem list_e (C : Cx) {F : Fs} (hF : FE F) {s : St} (h : s.e ≠ 0) : (listM C F s).2.e ≠ 0 := by
 unfold listM
 exact ite_e (loop_e C hF _ _ _ (pass_e (pass_e h))) (row_e C hF _ _ (pass_e h))
theorem pairs_e (C : Cx) {F : Fs} (hF : FE F) {s : St} (h : s.e ≠ 0) : (pairsM C F s).2.e ≠ 0 := by
 unfold pairsM
 dsimp only
 exact ite_e (loop_e C hF _ _ _ (pass_e (pass_e h))) (row_e C hF _ _ (pass_e h))
theorem named_e (C : Cx) {F : Fs} (hF : FE F) {s : St} (h : s.e ≠ 0) : (namedM C F s).2.e ≠ 0 := by
 unfold namedM
 dsimp only
 refine ite_e h (ite_e h ?_)
 exact ite_e (row_e C hF _ _ (pass_e (free_e C h))) (free_e C h)
theorem first_e (C : Cx) {F : Fs} (hF : FE F) {s : St} (h : s.e ≠ 0) : (firstM C F s).2.e ≠ 0 := by
 unfold firstM
 exact ite_e (named_e C hF h) (ite_e h (ite_e (text_e C h) (ite_e (brackets_e C hF h) (ite_e (list_e C hF h) (ite_e (pairs_e C hF h) (stray_e C s))))))
theorem postL_e (C : Cx) {F : Fs} (hF : FE F) : ∀ (k : Nat) (e : Ex) {s : St}, s.e ≠ 0 → (postL C F k e s).2.e ≠ 0
 | 0, _, _, h => h
 | k + 1, e, s, h => by
   rw [postL]
   dsimp only
   exact ite_e (postL_e C hF k _ (any_e C (pass_e h))) (ite_e (postL_e C hF k _ (wants_e C (hF.ex (pass_e h)) _ _)) h)
theorem post_e (C : Cx) {F : Fs} (hF : FE F) {s : St} (h : s.e ≠ 0) : (postM C F s).2.e ≠ 0 := postL_e C hF _ _ (first_e C hF h)
theorem unary_e (C : Cx) {F : Fs} (hF : FE F) {s : St} (h : s.e ≠ 0) : (unaryM C F s).2.e ≠ 0 := by
 unfold unaryM
 exact ite_e (post_e C hF h) (hF.un (pass_e h))
theorem joinL_e (C : Cx) {F : Fs} (hF : FE F) (lo : Nat) : ∀ (k ti : Nat) (e : Ex) {s : St}, s.e ≠ 0 → (joinL C F lo k ti e s).2.e ≠ 0
 | 0, _, _, _, h => h
 | k + 1, ti, e, s, h => by
   rw [joinL]
   dsimp only
   exact ite_e h (joinL_e C hF lo k _ _ (hF.jo (pass_e h)))
theorem joined_e (C : Cx) {F : Fs} (hF : FE F) (lo : Nat) {s : St} (h : s.e ≠ 0) : (joinedM C F lo s).2.e ≠ 0 := joinL_e C hF lo _ _ _ (hF.un h)
theorem expr_e (C : Cx) {F : Fs} (hF : FE F) {s : St} (h : s.e ≠ 0) : (exprM C F s).2.e ≠ 0 := by
 unfold exprM
 dsimp only
 exact ite_e (hF.ex (wants_e C (hF.ex (pass_e (hF.jo h))) _ _)) (hF.jo h)
theorem fs_e (C : Cx) : ∀ f, FE (fs C f)
 | 0 => ⟨fun h => h, fun h => h, fun h => h⟩
 | f + 1 => ⟨fun h => expr_e C (fs_e C f) h, fun h => joined_e C (fs_e C f) _ h, fun h => unary_e C (fs_e C f) h⟩

section
variable {d n : Nat} {C D : Cx}
theorem Rel.lt (h : Rel d n C D) {i : Nat} (hk : (C.tk i).k ≠ 0) : i < n := by
 by_cases hi : i < n
 · exact hi
 · exact absurd (h.en i (by omega)) hk
theorem is_k {C : Cx} {s : St} {k : Nat} {x : List UInt8} (h : C.is s k x = true) : (C.tk s.p).k = k ∧ (C.tk s.p).s = x := by
 unfold Cx.is at h
 simpa using h
theorem Rel.is_lt (h : Rel d n C D) {s : St} {k : Nat} {x : List UInt8} (hk : k ≠ 0) (hi : C.is s k x = true) : s.p < n := h.lt (by rw [(is_k hi).1]; exact hk)
theorem Rel.is_in (h : Rel d n C D) {s t : St} (hs : SR d n s t) (hp : s.p < n) (k : Nat) (x : List UInt8) : D.is t k x = C.is s k x := by
 obtain ⟨h1, h2, -⟩ := h.tk s.p hp
 unfold Cx.is
 rw [hs.p, h1, h2]
theorem Rel.is_eq (h : Rel d n C D) {s t : St} (hs : SR d n s t) {k : Nat} {x : List UInt8} (hk : k = 4) (hx : x ≠ [41]) : D.is t k x = C.is s k x := by
 by_cases hp : s.p < n
 · exact h.is_in hs hp k x
 · have e1 : C.is s k x = false := by
    cases hc : C.is s k x with
    | false => rfl
    | true => exact absurd (h.is_lt (by rw [hk]; decide) hc) hp
   rw [e1]
   cases hc : D.is t k x with
   | false => rfl
   | true =>
     obtain ⟨g1, g2⟩ := is_k hc
     have hn : s.p = n := by have := hs.n; omega
     rw [hs.p, hn] at g1 g2
     exact absurd (g2.symm.trans (h.ed (g1.trans hk))) hx
theorem Rel.no (h : Rel d n C D) {s : St} (hp : ¬ s.p < n) {k : Nat} (hk : k ≠ 0) (x : List UInt8) : C.is s k x = false := by
 cases hc : C.is s k x with
 | false => rfl
 | true => exact absurd (h.is_lt hk hc) hp
theorem Rel.no_wants (h : Rel d n C D) {s : St} (hp : ¬ s.p < n) {k : Nat} (hk : k ≠ 0) (x : List UInt8) : (C.wants s k x).e ≠ 0 := by
 unfold Cx.wants
 rw [h.no hp hk]
 exact stray_e C s
theorem SR.pass {s t : St} (h : SR d n s t) (hp : s.p < n) : SR d n s.pass t.pass := ⟨h.e, h.f, by show t.p + 1 = s.p + 1 + d; rw [h.p]; omega, hp⟩
theorem wants_oc (h : Rel d n C D) {a : Nat} {P : Prop} {s t : St} (hs : Oc d n a P s t) {k : Nat} (hk : k ≠ 0) (x : List UInt8) : Oc d n (a + 1) P (C.wants s k x) (D.wants t k x) := by
 rcases hs with hs | ⟨hs, ha, hP⟩
 · exact .inl (wants_e C hs k x)
 · unfold Cx.wants
   cases hc : C.is s k x with
   | false => exact .inl (stray_e C s)
   | true =>
     have hp := h.is_lt hk hc
     rw [h.is_in hs hp, hc]
     exact .inr ⟨hs.pass hp, by show a + 1 ≤ s.p + 1; omega, hP⟩
theorem any_oc (h : Rel d n C D) {a : Nat} {P : Prop} {s t : St} (hs : Oc d n a P s t) : Oc d n (a + 1) (P ∧ (C.anyName s).1 = (D.anyName t).1) (C.anyName s).2 (D.anyName t).2 := by
 rcases hs with hs | ⟨hs, ha, hP⟩
 · exact .inl (any_e C hs)
 · unfold Cx.anyName
   by_cases hc : (C.tk s.p).k = 1
   · have hp := h.lt (i := s.p) (by rw [hc]; decide)
     obtain ⟨h1, h2, -⟩ := h.tk s.p hp
     rw [if_pos hc, hs.p, if_pos (by rw [h1]; exact hc)]
     exact .inr ⟨hs.pass hp, by show a + 1 ≤ s.p + 1; omega, hP, h2.symm⟩
   · rw [if_neg hc]
     exact .inl (stray_e C s)
theorem free_oc (h : Rel d n C D) {a : Nat} {P : Prop} {s t : St} (hs : Oc d n a P s t) : Oc d n (a + 1) (P ∧ (C.freeName s).1 = (D.freeName t).1) (C.freeName s).2 (D.freeName t).2 := by
 rcases hs with hs | ⟨hs, ha, hP⟩
 · exact .inl (free_e C hs)
 · unfold Cx.freeName
   cases hr : reserved (C.tk s.p).s with
   | true => exact .inl (any_e C (stray_e C s))
   | false =>
     by_cases hp : s.p < n
     · rw [hs.p, (h.tk s.p hp).2.1, hr]
       exact any_oc h (.inr ⟨hs, ha, hP⟩)
     · refine .inl ?_
       show (C.anyName s).2.e ≠ 0
       unfold Cx.anyName
       rw [if_neg (by rw [h.en s.p (by omega)]; decide)]
       exact stray_e C s
theorem partL_oc (h : Rel d n C D) {a : Nat} (p q : Ps) : ∀ (ps qs : List Prt) (l m : List Ex) (s t : St), ps.map pb = qs.map pb → Oc d n a (bareL l = bareL m) s t → Oc d n a (bareL (partL C p ps l s).1 = bareL (partL D q qs m t).1) (partL C p ps l s).2 (partL D q qs m t).2
 | [], [], _, _, _, _, _, ho => ho
 | [], _ :: _, _, _, _, _, hp, _ => by simp at hp
 | _ :: _, [], _, _, _, _, hp, _ => by simp at hp
 | x :: r, y :: u, l, m, s, t, hp, ho => by
   simp only [List.map_cons, List.cons.injEq] at hp
   obtain ⟨h1, h2⟩ := hp
   unfold pb at h1
   simp only [Prod.mk.injEq] at h1
   obtain ⟨e1, e2⟩ := h1
   rw [partL, partL, ← e1, ← e2]
   cases hx : x.ex with
   | false =>
     refine partL_oc h p q r u _ _ _ _ h2 (ho.imp (Nat.le_refl _) fun hl => ?_)
     rw [bareL_app, bareL_app, hl, bareL_cons, bareL_cons, bare_lit, bare_lit]
   | true =>
     simp only [if_true]
     by_cases h0 : (C.inn x.s (let f := mv C.h x.p.ps; ⟨f.a, f.l - 1, f.c - 1⟩)).2.1 = 0
     · obtain ⟨g1, g2⟩ := h.inn x.s _ (let f := mv D.h y.p.ps; ⟨f.a, f.l - 1, f.c - 1⟩) h0
       dsimp only at h0 g1 g2 ⊢
       rw [if_pos h0, if_pos g1]
       refine partL_oc h p q r u _ _ _ _ h2 (ho.imp (Nat.le_refl _) fun hl => ?_)
       rw [bareL_app, bareL_app, hl, bareL_cons, bareL_cons, g2]
     · dsimp only at h0 ⊢
       rw [if_neg h0]
       exact .inl (partL_e C p r _ (fail_e C (.inr h0)))
theorem any_pb (ps : List Prt) : ps.any (·.ex) = (ps.map pb).any (·.1) := by rw [List.any_map]; rfl
theorem flat_pb (ps : List Prt) : ps.flatMap (·.s) = (ps.map pb).flatMap (·.2) := by rw [List.flatMap_map]; rfl
theorem text_oc (h : Rel d n C D) {s t : St} (hs : SR d n s t) (hk : (C.tk s.p).k = 3) : Oc d n (s.p + 1) (bareX (textM C s).1 = bareX (textM D t).1) (textM C s).2 (textM D t).2 := by
 have hp := h.lt (i := s.p) (by rw [hk]; decide)
 obtain ⟨-, -, -, h4⟩ := h.tk s.p hp
 unfold textM
 rw [hs.p, any_pb, any_pb, flat_pb, flat_pb, h4]
 cases hb : ((C.tk s.p).ps.map pb).any (·.1) with
 | true =>
   have := partL_oc h (C.pl s) (D.pl t) (C.tk s.p).ps (D.tk (s.p + d)).ps [] [] s.pass t.pass h4.symm (.inr ⟨hs.pass hp, Nat.le_refl _, rfl⟩)
   refine this.imp (Nat.le_refl _) fun e => ?_
   simp only [if_true]
   rw [bare_tree, bare_tree, e]
 | false => exact .inr ⟨hs.pass hp, Nat.le_refl _, by show bareX (litX _ _) = bareX (litX _ _); rw [bare_lit, bare_lit]⟩
theorem key_oc (h : Rel d n C D) {s t : St} (hs : SR d n s t) : Oc d n (s.p + 1) (bareX (keyM C s).1 = bareX (keyM D t).1) (keyM C s).2 (keyM D t).2 := by
 unfold keyM
 by_cases hk : (C.tk s.p).k = 3
 · have hp := h.lt (i := s.p) (by rw [hk]; decide)
   rw [if_pos hk, if_pos (by rw [hs.p, (h.tk s.p hp).1]; exact hk)]
   exact text_oc h hs hk
 · by_cases hp : s.p < n
   · rw [if_neg hk, if_neg (by rw [hs.p, (h.tk s.p hp).1]; exact hk)]
     refine (any_oc h (.inr ⟨hs, Nat.le_refl _, trivial⟩)).imp (Nat.le_refl _) fun e => ?_
     show bareX (litX _ _) = bareX (litX _ _)
     rw [bare_lit, bare_lit, e.2]
   · rw [if_neg hk]
     refine .inl ?_
     show (C.anyName s).2.e ≠ 0
     unfold Cx.anyName
     rw [if_neg (by rw [h.en s.p (by omega)]; decide)]
     exact stray_e C s
theorem sgOf_41 : sgOf [41] = sg0 := by rfl
theorem Rel.sign_eq (h : Rel d n C D) {s t : St} (hs : SR d n s t) : D.sign t = C.sign s := by
 unfold Cx.sign
 by_cases hp : s.p < n
 · obtain ⟨h1, h2, -⟩ := h.tk s.p hp
   rw [hs.p, h1, h2]
 · have e1 : (if (C.tk s.p).k = 4 then sgOf (C.tk s.p).s else sg0) = sg0 := by rw [h.en s.p (by omega)]; rfl
   have hn : s.p = n := by have := hs.n; omega
   rw [e1, hs.p, hn]
   by_cases h4 : (D.tk (n + d)).k = 4
   · rw [if_pos h4, h.ed h4]; exact sgOf_41
   · rw [if_neg h4]
theorem Rel.sign_lt (h : Rel d n C D) {s : St} (hs : C.sign s ≠ sg0) : s.p < n := by
 refine h.lt fun h0 => hs ?_
 unfold Cx.sign
 rw [if_neg (by rw [h0]; decide)]
structure FR (d n f : Nat) (F G : Fs) : Prop where
 ex : ∀ {s t : St}, SR d n s t → 3 * (n - s.p) + 3 ≤ f → Oc d n s.p (bareX (F.ex s).1 = bareX (G.ex t).1) (F.ex s).2 (G.ex t).2
 jo : ∀ {lo : Nat} {s t : St}, 1 ≤ lo → SR d n s t → 3 * (n - s.p) + 2 ≤ f → Oc d n s.p (bareX (F.jo lo s).1 = bareX (G.jo lo t).1) (F.jo lo s).2 (G.jo lo t).2
 un : ∀ {s t : St}, SR d n s t → 3 * (n - s.p) + 1 ≤ f → Oc d n s.p (bareX (F.un s).1 = bareX (G.un t).1) (F.un s).2 (G.un t).2
variable {f : Nat} {F G : Fs}
theorem ex_oc (hF : FR d n f F G) (hE : FE F) {a : Nat} {P : Prop} {s t : St} (hs : Oc d n a P s t) (ha : 3 * (n - a) + 3 ≤ f) : Oc d n a (P ∧ bareX (F.ex s).1 = bareX (G.ex t).1) (F.ex s).2 (G.ex t).2 := by
 rcases hs with hs | ⟨hs, h1, hP⟩
 · exact .inl (hE.ex hs)
 · exact (hF.ex hs (by omega)).imp h1 fun e => ⟨hP, e⟩
theorem putE_oc (hF : FR d n f F G) (hE : FE F) {a : Nat} {P : Prop} {l m : List Ex} {s t : St} (hs : Oc d n a (P ∧ bareL l = bareL m) s t) (ha : 3 * (n - a) + 3 ≤ f) : Oc d n a (P ∧ bareL (putE F l s).1 = bareL (putE G m t).1) (putE F l s).2 (putE G m t).2 :=
 (ex_oc hF hE hs ha).imp (Nat.le_refl _) fun e => ⟨e.1.1, by
   show bareL (l ++ [(F.ex s).1]) = bareL (m ++ [(G.ex t).1])
   rw [bareL_app, bareL_app, e.1.2, bareL_cons, bareL_cons, e.2]⟩
theorem putP_oc (h : Rel d n C D) (hF : FR d n f F G) (hE : FE F) {l m : List Ex} {s t : St} (hs : SR d n s t) (hl : bareL l = bareL m) (ha : 3 * (n - s.p) + 3 ≤ f) : Oc d n s.p (bareL (putP C F l s).1 = bareL (putP D G m t).1) (putP C F l s).2 (putP D G m t).2 := by
 unfold putP
 dsimp only
 have h1 := key_oc h hs
 have key : Oc d n s.p (True ∧ bareL (l ++ [(keyM C s).1]) = bareL (m ++ [(keyM D t).1])) (if C.is (keyM C s).2 4 [61] = true then (keyM C s).2.pass else C.wants (keyM C s).2 4 [58]) (if D.is (keyM D t).2 4 [61] = true then (keyM D t).2.pass else D.wants (keyM D t).2 4 [58]) := by
  rcases h1 with h1 | ⟨h1, h2, h3⟩
  · exact .inl (ite_s (pass_e h1) (wants_e C h1 _ _))
  · have e : bareL (l ++ [(keyM C s).1]) = bareL (m ++ [(keyM D t).1]) := by rw [bareL_app, bareL_app, hl, bareL_cons, bareL_cons, h3]
    rw [h.is_eq h1 (k := 4) (x := [61]) rfl (by decide)]
    cases hc : C.is (keyM C s).2 4 [61] with
    | true =>
      have hp := h.is_lt (by decide) hc
      exact .inr ⟨h1.pass hp, by show s.p ≤ (keyM C s).2.p + 1; omega, trivial, e⟩
    | false => exact (wants_oc h (.inr ⟨h1, h2, trivial, e⟩) (k := 4) (by decide) [58]).imp (by omega) fun e => e
 exact (putE_oc hF hE key ha).imp (Nat.le_refl _) fun e => e.2
theorem putM_oc (h : Rel d n C D) (hF : FR d n f F G) (hE : FE F) (b : Bool) {l m : List Ex} {s t : St} (hs : SR d n s t) (hl : bareL l = bareL m) (ha : 3 * (n - s.p) + 3 ≤ f) : Oc d n s.p (bareL (putM C F b l s).1 = bareL (putM D G b m t).1) (putM C F b l s).2 (putM D G b m t).2 := by
 unfold putM
 cases b with
 | true => exact putP_oc h hF hE hs hl ha
 | false => exact (putE_oc hF hE (.inr ⟨hs, Nat.le_refl _, trivial, hl⟩) ha).imp (Nat.le_refl _) fun e => e.2
theorem rowL_end (h : Rel d n C D) (hF : FR d n f F G) (hE : FE F) (b : Bool) (x : List UInt8) (k : Nat) (l : List Ex) {s t : St} (hs : SR d n s t) (hp : s.p = n) (ha : 3 ≤ f) : (rowL C F b x (k + 1) l s).2.e ≠ 0 := by
 have hno : ∀ (s : St) (y : List UInt8), s.p = n → C.is s 4 y = false := fun s y hp => by
  cases hc : C.is s 4 y with
  | false => rfl
  | true => have := h.is_lt (s := s) (by decide) hc; omega
 rw [rowL]
 rw [hno s x hp]
 simp only [Bool.false_eq_true, if_false]
 rcases putM_oc h hF hE b (l := l) (m := l) hs rfl (by omega) with h1 | ⟨h1, h2, -⟩
 · exact ite_e (rowL_e C hE b x k _ (pass_e h1)) (wants_e C h1 _ _)
 · have hq : (putM C F b l s).2.p = n := by have := h1.n; omega
   rw [hno _ _ hq]
   simp only [Bool.false_eq_true, if_false]
   unfold Cx.wants
   rw [hno _ _ hq]
   exact stray_e C _
theorem rowL_oc (h : Rel d n C D) (hF : FR d n f F G) (hE : FE F) (b : Bool) (x : List UInt8) : ∀ (k j : Nat) (l m : List Ex) (s t : St), SR d n s t → bareL l = bareL m → 3 * (n - s.p) + 3 ≤ f → n - s.p + 1 ≤ k → n - s.p + 1 ≤ j → Oc d n s.p (bareL (rowL C F b x k l s).1 = bareL (rowL D G b x j m t).1) (rowL C F b x k l s).2 (rowL D G b x j m t).2
 | 0, _, _, _, _, _, _, _, _, hk, _ => by omega
 | _ + 1, 0, _, _, _, _, _, _, _, _, hj => by omega
 | k + 1, j + 1, l, m, s, t, hs, hl, ha, hk, hj => by
   by_cases hp : s.p < n
   · rw [rowL, rowL, h.is_in hs hp]
     cases hc : C.is s 4 x with
     | true => exact .inr ⟨hs.pass hp, Nat.le_succ _, hl⟩
     | false =>
       simp only [Bool.false_eq_true, if_false]
       rcases putM_oc h hF hE b hs hl ha with h1 | ⟨h1, h2, h3⟩
       · exact .inl (ite_e (rowL_e C hE b x k _ (pass_e h1)) (wants_e C h1 _ _))
       · rw [h.is_eq h1 (k := 4) (x := [44]) rfl (by decide)]
         cases hc2 : C.is (putM C F b l s).2 4 [44] with
         | true =>
           have hp2 := h.is_lt (by decide) hc2
           simp only [if_true]
           have := rowL_oc h hF hE b x k j _ _ _ _ (h1.pass hp2) h3 (by show 3 * (n - ((putM C F b l s).2.p + 1)) + 3 ≤ f; omega) (by show n - ((putM C F b l s).2.p + 1) + 1 ≤ k; omega) (by show n - ((putM C F b l s).2.p + 1) + 1 ≤ j; omega)
           exact this.imp (by show s.p ≤ (putM C F b l s).2.p + 1; omega) fun e => e
         | false =>
           simp only [Bool.false_eq_true, if_false]
           exact (wants_oc h (.inr ⟨h1, h2, h3⟩) (k := 4) (by decide) x).imp (by omega) fun e => e
   · exact .inl (rowL_end h hF hE b x k l hs (by have := hs.n; omega) (by omega))
theorem row_oc (h : Rel d n C D) (hF : FR d n f F G) (hE : FE F) (b : Bool) (x : List UInt8) {s t : St} (hs : SR d n s t) (ha : 3 * (n - s.p) + 3 ≤ f) : Oc d n s.p (bareL (rowM C F b x s).1 = bareL (rowM D G b x t).1) (rowM C F b x s).2 (rowM D G b x t).2 :=
 rowL_oc h hF hE b x _ _ _ _ s t hs rfl ha (by have := h.lc; omega) (by have := h.ld; omega)
theorem loop_oc (h : Rel d n C D) (hF : FR d n f F G) (hE : FE F) (op : Nat) (p q : Ps) {x : List UInt8} {s t : St} (hs : SR d n s t) (ha : 3 * (n - s.p) + 3 ≤ f) : Oc d n s.p (bareX (loopM C F op p x s).1 = bareX (loopM D G op q x t).1) (loopM C F op p x s).2 (loopM D G op q x t).2 := by
 have h1 := free_oc h (P := True) (.inr ⟨hs, Nat.le_refl _, trivial⟩)
 rcases h1 with h1 | ⟨h1, a1, -, n1⟩
 · exact .inl (loop_e1 C hE op p x h1)
 · unfold loopM
   dsimp only
   rw [h.is_eq h1 (k := 4) (x := [44]) rfl (by decide)]
   generalize hn : C.freeName s = N at *
   generalize hm : D.freeName t = M at *
   have h2 : Oc d n (s.p + 1) ((if C.is N.2 4 [44] = true then C.freeName N.2.pass else N).1 = (if C.is N.2 4 [44] = true then D.freeName M.2.pass else M).1 ∧ (if C.is N.2 4 [44] = true then tx N.1 else ⟨#[]⟩) = (if C.is N.2 4 [44] = true then tx M.1 else ⟨#[]⟩)) (if C.is N.2 4 [44] = true then C.freeName N.2.pass else N).2 (if C.is N.2 4 [44] = true then D.freeName M.2.pass else M).2 := by
    cases hc : C.is N.2 4 [44] with
    | true =>
      have hp := h.is_lt (by decide) hc
      simp only [if_true]
      refine (free_oc h (P := True) (.inr ⟨h1.pass hp, Nat.le_refl _, trivial⟩)).imp (by show s.p + 1 ≤ N.2.p + 1 + 1; omega) fun e => ⟨e.2, by rw [n1]⟩
    | false =>
      simp only [Bool.false_eq_true, if_false]
      exact .inr ⟨h1, a1, n1, trivial⟩
   generalize (if C.is N.2 4 [44] = true then tx N.1 else (⟨#[]⟩ : ByteArray)) = T1 at *
   generalize (if C.is N.2 4 [44] = true then tx M.1 else (⟨#[]⟩ : ByteArray)) = T2 at *
   generalize (if C.is N.2 4 [44] = true then C.freeName N.2.pass else N) = A at *
   generalize (if C.is N.2 4 [44] = true then D.freeName M.2.pass else M) = B at *
   have h3 := wants_oc h h2 (k := 1) (by decide) sIn
   have h4 := putE_oc hF hE (l := []) (m := []) (h3.imp (b := s.p + 1 + 1) (Nat.le_refl _) fun e => ⟨e, rfl⟩) (by omega)
   have h5 := putE_oc hF hE (wants_oc h h4 (k := 4) (by decide) [58]) (by omega)
   generalize hY : putE F (putE F [] (C.wants A.2 1 sIn)).1 (C.wants (putE F [] (C.wants A.2 1 sIn)).2 4 [58]) = Y at *
   generalize hZ : putE G (putE G [] (D.wants B.2 1 sIn)).1 (D.wants (putE G [] (D.wants B.2 1 sIn)).2 4 [58]) = Z at *
   have h6 : Oc d n (s.p + 1) ((A.1 = B.1 ∧ T1 = T2) ∧ bareL (if op = 25 then putE F Y.1 (C.wants Y.2 4 [61, 62]) else Y).1 = bareL (if op = 25 then putE G Z.1 (D.wants Z.2 4 [61, 62]) else Z).1) (if op = 25 then putE F Y.1 (C.wants Y.2 4 [61, 62]) else Y).2 (if op = 25 then putE G Z.1 (D.wants Z.2 4 [61, 62]) else Z).2 := by
    by_cases ho : op = 25
    · rw [if_pos ho, if_pos ho]
      exact (putE_oc hF hE (wants_oc h h5 (k := 4) (by decide) [61, 62]) (by omega)).imp (by omega) fun e => e
    · rw [if_neg ho, if_neg ho]
      exact h5.imp (by omega) fun e => e
   generalize (if op = 25 then putE F Y.1 (C.wants Y.2 4 [61, 62]) else Y) = U at *
   generalize (if op = 25 then putE G Z.1 (D.wants Z.2 4 [61, 62]) else Z) = V at *
   rcases h6 with h6 | ⟨h6, a6, e6⟩
   · exact .inl (wants_e C (ite_e (putE_e hE _ (pass_e h6)) h6) _ _)
   · by_cases hpn : U.2.p < n
     · rw [h.is_in h6 hpn]
       have h7 : Oc d n (s.p + 1) ((A.1 = B.1 ∧ T1 = T2) ∧ bareL (if C.is U.2 1 sIf = true then putE F U.1 U.2.pass else U).1 = bareL (if C.is U.2 1 sIf = true then putE G V.1 V.2.pass else V).1) (if C.is U.2 1 sIf = true then putE F U.1 U.2.pass else U).2 (if C.is U.2 1 sIf = true then putE G V.1 V.2.pass else V).2 := by
        cases hc : C.is U.2 1 sIf with
        | true =>
          simp only [if_true]
          exact (putE_oc hF hE (.inr ⟨h6.pass hpn, by show s.p + 1 ≤ U.2.p + 1; omega, e6⟩) (by omega)).imp (Nat.le_refl _) fun e => e
        | false =>
          simp only [Bool.false_eq_true, if_false]
          exact .inr ⟨h6, a6, e6⟩
       refine (wants_oc h h7 (k := 4) (by decide) x).imp (by omega) fun e => ?_
       rw [bareX_mk, bareX_mk, e.1.1, e.1.2, e.2]
     · refine .inl ?_
       rw [h.no hpn (k := 1) (by decide)]
       exact h.no_wants hpn (by decide) x
theorem brackets_oc (h : Rel d n C D) (hF : FR d n f F G) (hE : FE F) {s t : St} (hs : SR d n s t) (hp : s.p < n) (ha : 3 * (n - s.p) ≤ f) : Oc d n s.p (bareX (bracketsM C F s).1 = bareX (bracketsM D G t).1) (bracketsM C F s).2 (bracketsM D G t).2 := by
 unfold bracketsM
 exact (wants_oc h (ex_oc hF hE (P := True) (.inr ⟨hs.pass hp, Nat.le_refl _, trivial⟩) (by show 3 * (n - (s.p + 1)) + 3 ≤ f; omega)) (k := 4) (by decide) [41]).imp (by show s.p ≤ s.p + 1 + 1; omega) fun e => e.2
theorem list_oc (h : Rel d n C D) (hF : FR d n f F G) (hE : FE F) {s t : St} (hs : SR d n s t) (hp : s.p < n) (ha : 3 * (n - s.p) ≤ f) : Oc d n s.p (bareX (listM C F s).1 = bareX (listM D G t).1) (listM C F s).2 (listM D G t).2 := by
 unfold listM
 by_cases hp2 : s.pass.p < n
 · have hp3 : s.p + 1 < n := hp2
   rw [h.is_in (hs.pass hp) hp2]
   cases hc : C.is s.pass 1 sFor with
   | true =>
     simp only [if_true]
     exact (loop_oc h hF hE _ _ _ ((hs.pass hp).pass hp2) (by show 3 * (n - (s.p + 1 + 1)) + 3 ≤ f; omega)).imp (by show s.p ≤ s.p + 1 + 1; omega) fun e => e
   | false =>
     simp only [Bool.false_eq_true, if_false]
     refine (row_oc h hF hE false [93] (hs.pass hp) (by show 3 * (n - (s.p + 1)) + 3 ≤ f; omega)).imp (by show s.p ≤ s.p + 1; omega) fun e => ?_
     rw [bare_tree, bare_tree, e]
 · refine .inl ?_
   rw [h.no hp2 (k := 1) (by decide)]
   exact rowL_end h hF hE false [93] _ _ (hs.pass hp) (by have := (hs.pass hp).n; omega) (by omega)
theorem pairs_oc (h : Rel d n C D) (hF : FR d n f F G) (hE : FE F) {s t : St} (hs : SR d n s t) (hp : s.p < n) (ha : 3 * (n - s.p) ≤ f) : Oc d n s.p (bareX (pairsM C F s).1 = bareX (pairsM D G t).1) (pairsM C F s).2 (pairsM D G t).2 := by
 unfold pairsM
 dsimp only
 by_cases hp2 : s.pass.p < n
 · have hp3 : s.p + 1 < n := hp2
   have en : (decide ((D.tk (t.p + 1 + 1)).k = 4) && (decide ((D.tk (t.p + 1 + 1)).s = [61]) || decide ((D.tk (t.p + 1 + 1)).s = [58]))) = (decide ((C.tk (s.p + 1 + 1)).k = 4) && (decide ((C.tk (s.p + 1 + 1)).s = [61]) || decide ((C.tk (s.p + 1 + 1)).s = [58]))) := by
    have e : t.p + 1 + 1 = s.p + 1 + 1 + d := by rw [hs.p]; omega
    rw [e]
    by_cases hi : s.p + 1 + 1 < n
    · obtain ⟨g1, g2, -⟩ := h.tk _ hi
      rw [g1, g2]
    · have hn : s.p + 1 + 1 = n := by omega
      rw [hn, h.en n (Nat.le_refl _)]
      by_cases h4 : (D.tk (n + d)).k = 4
      · rw [h4, h.ed h4]; rfl
      · rw [decide_eq_false h4]; rfl
   rw [en, h.is_in (hs.pass hp) hp2]
   generalize (decide ((C.tk (s.p + 1 + 1)).k = 4) && (decide ((C.tk (s.p + 1 + 1)).s = [61]) || decide ((C.tk (s.p + 1 + 1)).s = [58]))) = nm at *
   cases hc : (!nm && C.is s.pass 1 sFor) with
   | true =>
     simp only [if_true]
     exact (loop_oc h hF hE _ _ _ ((hs.pass hp).pass hp2) (by show 3 * (n - (s.p + 1 + 1)) + 3 ≤ f; omega)).imp (by show s.p ≤ s.p + 1 + 1; omega) fun e => e
   | false =>
     simp only [Bool.false_eq_true, if_false]
     refine (row_oc h hF hE true [125] (hs.pass hp) (by show 3 * (n - (s.p + 1)) + 3 ≤ f; omega)).imp (by show s.p ≤ s.p + 1; omega) fun e => ?_
     rw [bare_tree, bare_tree, e]
 · refine .inl ?_
   rw [h.no hp2 (k := 1) (by decide), Bool.and_false]
   exact rowL_end h hF hE true [125] _ _ (hs.pass hp) (by have := (hs.pass hp).n; omega) (by omega)
theorem named_oc (h : Rel d n C D) (hF : FR d n f F G) (hE : FE F) {s t : St} (hs : SR d n s t) (hp : s.p < n) (ha : 3 * (n - s.p) ≤ f) : Oc d n s.p (bareX (namedM C F s).1 = bareX (namedM D G t).1) (namedM C F s).2 (namedM D G t).2 := by
 unfold namedM
 dsimp only
 rw [show (D.tk t.p).s = (C.tk s.p).s from by rw [hs.p]; exact (h.tk s.p hp).2.1]
 by_cases h1 : (C.tk s.p).s = sTrue ∨ (C.tk s.p).s = sFalse
 · rw [if_pos h1, if_pos h1]
   exact .inr ⟨hs.pass hp, Nat.le_succ _, by rw [bare_lit, bare_lit]⟩
 · rw [if_neg h1, if_neg h1]
   by_cases h2 : (C.tk s.p).s = sNull
   · rw [if_pos h2, if_pos h2]
     exact .inr ⟨hs.pass hp, Nat.le_succ _, by rw [bare_lit, bare_lit]⟩
   · rw [if_neg h2, if_neg h2]
     rcases free_oc h (P := True) (.inr ⟨hs, Nat.le_refl _, trivial⟩) with g | ⟨g, g1, -, g2⟩
     · exact .inl (ite_e (row_e C hE _ _ (pass_e g)) g)
     · rw [h.is_eq g (k := 4) (x := [40]) rfl (by decide)]
       cases hc : C.is (C.freeName s).2 4 [40] with
       | true =>
         have hp2 := h.is_lt (by decide) hc
         simp only [if_true]
         refine (row_oc h hF hE false [41] (g.pass hp2) (by show 3 * (n - ((C.freeName s).2.p + 1)) + 3 ≤ f; omega)).imp (by show s.p ≤ (C.freeName s).2.p + 1; omega) fun e => ?_
         rw [bareX_mk, bareX_mk, e, g2]
       | false =>
         simp only [Bool.false_eq_true, if_false]
         exact .inr ⟨g, by omega, by rw [bareX_mk, bareX_mk, g2]⟩
theorem first_oc (h : Rel d n C D) (hF : FR d n f F G) (hE : FE F) {s t : St} (hs : SR d n s t) (ha : 3 * (n - s.p) ≤ f) : Oc d n s.p (bareX (firstM C F s).1 = bareX (firstM D G t).1) (firstM C F s).2 (firstM D G t).2 := by
 unfold firstM
 by_cases hp : s.p < n
 · obtain ⟨k1, -, k3, -⟩ := h.tk s.p hp
   rw [← hs.p] at k1 k3
   rw [k1, k3, h.sign_eq hs]
   by_cases h1 : (C.tk s.p).k = 1
   · rw [if_pos h1, if_pos h1]; exact named_oc h hF hE hs hp ha
   · rw [if_neg h1, if_neg h1]
     by_cases h2 : (C.tk s.p).k = 2
     · rw [if_pos h2, if_pos h2]; exact .inr ⟨hs.pass hp, Nat.le_succ _, by rw [bare_lit, bare_lit]⟩
     · rw [if_neg h2, if_neg h2]
       by_cases h3 : (C.tk s.p).k = 3
       · rw [if_pos h3, if_pos h3]; exact (text_oc h hs h3).imp (by omega) fun e => e
       · rw [if_neg h3, if_neg h3]
         by_cases h4 : (C.sign s).op = 1
         · rw [if_pos h4, if_pos h4]; exact brackets_oc h hF hE hs hp ha
         · rw [if_neg h4, if_neg h4]
           by_cases h5 : (C.sign s).op = 2
           · rw [if_pos h5, if_pos h5]; exact list_oc h hF hE hs hp ha
           · rw [if_neg h5, if_neg h5]
             by_cases h6 : (C.sign s).op = 3
             · rw [if_pos h6, if_pos h6]; exact pairs_oc h hF hE hs hp ha
             · rw [if_neg h6]; exact .inl (stray_e C s)
 · have h0 := h.en s.p (by omega)
   have hg : C.sign s = sg0 := by unfold Cx.sign; rw [h0]; rfl
   rw [h0, hg]
   exact .inl (stray_e C s)
theorem postL_oc (h : Rel d n C D) (hF : FR d n f F G) (hE : FE F) : ∀ (k j : Nat) (e e' : Ex) (s t : St), SR d n s t → bareX e = bareX e' → 3 * (n - s.p) ≤ f → n - s.p + 1 ≤ k → n - s.p + 1 ≤ j → Oc d n s.p (bareX (postL C F k e s).1 = bareX (postL D G j e' t).1) (postL C F k e s).2 (postL D G j e' t).2
 | 0, _, _, _, _, _, _, _, _, hk, _ => by omega
 | _ + 1, 0, _, _, _, _, _, _, _, _, hj => by omega
 | k + 1, j + 1, e, e', s, t, hs, he, ha, hk, hj => by
   rw [postL, postL]
   dsimp only
   rw [h.is_eq hs (k := 4) (x := [46]) rfl (by decide), h.is_eq hs (k := 4) (x := [91]) rfl (by decide)]
   cases hc : C.is s 4 [46] with
   | true =>
     have hp := h.is_lt (by decide) hc
     simp only [if_true]
     rcases any_oc h (P := True) (.inr ⟨hs.pass hp, Nat.le_refl _, trivial⟩) with g | ⟨g, g1, -, g2⟩
     · exact .inl (postL_e C hE k _ g)
     · have hg1 : s.p + 1 + 1 ≤ (C.anyName s.pass).2.p := g1
       exact (postL_oc h hF hE k j _ _ _ _ g (by rw [bareX_mk, bareX_mk, bareL_cons, bareL_cons, he, g2]) (by omega) (by omega) (by omega)).imp (by omega) fun e => e
   | false =>
     simp only [Bool.false_eq_true, if_false]
     cases hc2 : C.is s 4 [91] with
     | true =>
       have hp := h.is_lt (by decide) hc2
       simp only [if_true]
       rcases wants_oc h (ex_oc hF hE (P := True) (.inr ⟨hs.pass hp, Nat.le_refl _, trivial⟩) (by show 3 * (n - (s.p + 1)) + 3 ≤ f; omega)) (k := 4) (by decide) [93] with g | ⟨g, g1, -, g2⟩
       · exact .inl (postL_e C hE k _ g)
       · have hg1 : s.p + 1 + 1 ≤ (C.wants (F.ex s.pass).2 4 [93]).p := g1
         exact (postL_oc h hF hE k j _ _ _ _ g (by rw [bare_tree, bare_tree, bareL_cons, bareL_cons, bareL_cons, bareL_cons, he, g2]) (by omega) (by omega) (by omega)).imp (by omega) fun e => e
     | false =>
       simp only [Bool.false_eq_true, if_false]
       exact .inr ⟨hs, Nat.le_refl _, he⟩
theorem post_oc (h : Rel d n C D) (hF : FR d n f F G) (hE : FE F) {s t : St} (hs : SR d n s t) (ha : 3 * (n - s.p) ≤ f) : Oc d n s.p (bareX (postM C F s).1 = bareX (postM D G t).1) (postM C F s).2 (postM D G t).2 := by
 unfold postM
 rcases first_oc h hF hE hs ha with g | ⟨g, g1, g2⟩
 · exact .inl (postL_e C hE _ _ g)
 · exact (postL_oc h hF hE _ _ _ _ _ _ g g2 (by omega) (by have := h.lc; omega) (by have := h.ld; omega)).imp g1 fun e => e
theorem unary_oc (h : Rel d n C D) (hF : FR d n f F G) (hE : FE F) {s t : St} (hs : SR d n s t) (ha : 3 * (n - s.p) ≤ f) : Oc d n s.p (bareX (unaryM C F s).1 = bareX (unaryM D G t).1) (unaryM C F s).2 (unaryM D G t).2 := by
 unfold unaryM
 rw [h.sign_eq hs]
 by_cases h0 : (C.sign s).hd = 0
 · rw [if_pos h0, if_pos h0]; exact post_oc h hF hE hs ha
 · rw [if_neg h0, if_neg h0]
   have hp := h.sign_lt (s := s) (fun e => h0 (by rw [e]; rfl))
   refine (hF.un (hs.pass hp) (by show 3 * (n - (s.p + 1)) + 1 ≤ f; omega)).imp (by show s.p ≤ s.p + 1; omega) fun e => ?_
   rw [bare_tree, bare_tree, bareL_cons, bareL_cons, e]
theorem joinL_oc (h : Rel d n C D) (hF : FR d n f F G) (hE : FE F) {lo : Nat} (hlo : 1 ≤ lo) : ∀ (k j ti : Nat) (e e' : Ex) (s t : St), SR d n s t → bareX e = bareX e' → 3 * (n - s.p) ≤ f + 1 → n - s.p + 1 ≤ k → n - s.p + 1 ≤ j → Oc d n s.p (bareX (joinL C F lo k ti e s).1 = bareX (joinL D G lo j ti e' t).1) (joinL C F lo k ti e s).2 (joinL D G lo j ti e' t).2
 | 0, _, _, _, _, _, _, _, _, _, hk, _ => by omega
 | _ + 1, 0, _, _, _, _, _, _, _, _, _, hj => by omega
 | k + 1, j + 1, ti, e, e', s, t, hs, he, ha, hk, hj => by
   rw [joinL, joinL]
   dsimp only
   rw [h.sign_eq hs]
   by_cases hv : lvl (C.sign s).bt < lo ∨ ti < lvl (C.sign s).bt
   · rw [if_pos hv, if_pos hv]; exact .inr ⟨hs, Nat.le_refl _, he⟩
   · rw [if_neg hv, if_neg hv]
     have hp := h.sign_lt (s := s) (fun e => hv (.inl (by rw [e]; have : lvl sg0.bt = 0 := rfl; omega)))
     rcases hF.jo (lo := lvl (C.sign s).bt + 1) (by omega) (hs.pass hp) (by show 3 * (n - (s.p + 1)) + 2 ≤ f; omega) with g | ⟨g, g1, g2⟩
     · exact .inl (joinL_e C hE lo k _ _ g)
     · have hg1 : s.p + 1 ≤ (F.jo (lvl (C.sign s).bt + 1) s.pass).2.p := g1
       exact (joinL_oc h hF hE hlo k j _ _ _ _ _ g (by rw [bare_tree, bare_tree, bareL_cons, bareL_cons, bareL_cons, bareL_cons, he, g2]) (by omega) (by omega) (by omega)).imp (by omega) fun e => e
theorem joined_oc (h : Rel d n C D) (hF : FR d n f F G) (hE : FE F) {lo : Nat} (hlo : 1 ≤ lo) {s t : St} (hs : SR d n s t) (ha : 3 * (n - s.p) + 1 ≤ f) : Oc d n s.p (bareX (joinedM C F lo s).1 = bareX (joinedM D G lo t).1) (joinedM C F lo s).2 (joinedM D G lo t).2 := by
 unfold joinedM
 rcases hF.un hs ha with g | ⟨g, g1, g2⟩
 · exact .inl (joinL_e C hE _ _ _ _ g)
 · exact (joinL_oc h hF hE hlo _ _ _ _ _ _ _ g g2 (by omega) (by have := h.lc; omega) (by have := h.ld; omega)).imp g1 fun e => e
theorem expr_oc (h : Rel d n C D) (hF : FR d n f F G) (hE : FE F) {s t : St} (hs : SR d n s t) (ha : 3 * (n - s.p) + 2 ≤ f) : Oc d n s.p (bareX (exprM C F s).1 = bareX (exprM D G t).1) (exprM C F s).2 (exprM D G t).2 := by
 unfold exprM
 dsimp only
 rcases hF.jo (lo := 1) (Nat.le_refl _) hs ha with g | ⟨g, g1, g2⟩
 · exact .inl (ite_e (hE.ex (wants_e C (hE.ex (pass_e g)) _ _)) g)
 · rw [h.is_eq g (k := 4) (x := [63]) rfl (by decide)]
   cases hc : C.is (F.jo 1 s).2 4 [63] with
   | true =>
     have hp := h.is_lt (by decide) hc
     simp only [if_true]
     have k1 := ex_oc hF hE (P := True) (.inr ⟨g.pass hp, Nat.le_refl _, trivial⟩) (by show 3 * (n - ((F.jo 1 s).2.p + 1)) + 3 ≤ f; omega)
     have k2 := ex_oc hF hE (wants_oc h k1 (k := 4) (by decide) [58]) (by show 3 * (n - ((F.jo 1 s).2.p + 1 + 1)) + 3 ≤ f; omega)
     refine k2.imp (by show s.p ≤ (F.jo 1 s).2.p + 1 + 1; omega) fun e => ?_
     rw [bare_tree, bare_tree, bareL_cons, bareL_cons, bareL_cons, bareL_cons, bareL_cons, bareL_cons, g2, e.1.2, e.2]
   | false =>
     simp only [Bool.false_eq_true, if_false]
     exact .inr ⟨g, g1, g2⟩
theorem fs_oc (h : Rel d n C D) : ∀ (f g : Nat), FR d n (min f g) (fs C f) (fs D g)
 | 0, g => ⟨fun _ h => by simp at h, fun _ _ h => by simp at h, fun _ h => by simp at h⟩
 | f + 1, 0 => ⟨fun _ h => by simp at h, fun _ _ h => by simp at h, fun _ h => by simp at h⟩
 | f + 1, g + 1 => by
   have ih := fs_oc h f g
   have hE := fs_e C f
   have e : min (f + 1) (g + 1) = min f g + 1 := by omega
   rw [e]
   exact ⟨fun hs ha => expr_oc h ih hE hs (by omega), fun hlo hs ha => joined_oc h ih hE hlo hs (by omega), fun hs ha => unary_oc h ih hE hs (by omega)⟩
end
theorem whole_move {n : Nat} {C D : Cx} (h : Rel 0 n C D) (hn : C.L.length = n + 1) (hm : D.L.length = n + 1) (hD : ∀ i, n ≤ i → (D.tk i).k = 0) (h0 : (wholeM C).2.e = 0) : (wholeM D).2.e = 0 ∧ bareX (wholeM C).1 = bareX (wholeM D).1 := by
 unfold wholeM at h0 ⊢
 dsimp only at h0 ⊢
 have hr := (fs_oc h (3 * C.L.length + 3) (3 * D.L.length + 3)).ex (s := ⟨0, 0, ps0⟩) (t := ⟨0, 0, ps0⟩) ⟨rfl, rfl, rfl, Nat.zero_le _⟩ (by rw [hn, hm]; show 3 * (n - 0) + 3 ≤ _; omega)
 have h1 : (C.tk ((fs C (3 * C.L.length + 3)).ex ⟨0, 0, ps0⟩).2.p).k = 0 := by
  by_cases hk : (C.tk ((fs C (3 * C.L.length + 3)).ex ⟨0, 0, ps0⟩).2.p).k = 0
  · exact hk
  · rw [if_neg hk] at h0; exact absurd h0 (stray_e C _)
 rw [if_pos h1] at h0
 rcases hr with hr | ⟨hr, -, he⟩
 · exact absurd h0 hr
 · have h2 : (D.tk ((fs D (3 * D.L.length + 3)).ex ⟨0, 0, ps0⟩).2.p).k = 0 := by
    rw [hr.p]
    by_cases hp : ((fs C (3 * C.L.length + 3)).ex ⟨0, 0, ps0⟩).2.p < n
    · rw [(h.tk _ hp).1]; exact h1
    · exact hD _ (by omega)
   rw [if_pos h2]
   exact ⟨hr.f, he⟩
end Go.Proofs.YtncjncacfagldaaGreatDoor

import Derived.Test.YtncjncacfagldaaGreatDoorYWYb
import Derived.Test.YtncjncacfagldaaGreatDoorYWLJ
namespace Go.Proofs.YtncjncacfagldaaGreatDoor
open Go.RowKit Go.Lib

open Go.RowKit

structure Bd (n : Nat) (p : Plc) (k : Nat) : Prop where
 a : p.a + k ≤ n
 l : p.l + k ≤ n + 1
 c : p.c + k ≤ n + 1
 c1 : 1 ≤ p.c
theorem Bd.le {n : Nat} {p : Plc} {k j : Nat} (h : Bd n p k) (hj : j ≤ k) : Bd n p j := ⟨by have := h.a; omega, by have := h.l; omega, by have := h.c; omega, h.c1⟩
theorem Bd.adv {n : Nat} {p : Plc} {k : Nat} (h : Bd n p k) (x : List UInt8) {j : Nat} (hj : x.length + j ≤ k) : Bd n (p.adv x) j := by
 have h1 := h.a
 have h2 := h.l
 have h3 := h.c
 have e1 := Plc.adv_a p x
 have e2 := Plc.adv_l p x
 have e3 := Plc.adv_c p x h.c1
 exact ⟨by omega, by omega, by omega, Plc.adv_c1 p x h.c1⟩
def InnB (l : List UInt8) : Prop := ∀ c ∈ l, isInner c.toNat = true
structure PrtG (n : Nat) (y : Prt) : Prop where
 a : y.p.a ≤ n
 l : y.p.l ≤ n + 1
 c : y.p.c ≤ n + 1
 i : y.ex = true → InnB y.s
theorem takeP_inn (l : List UInt8) : InnB (takeP isInner l) := fun c hc => by
 unfold takeP at hc
 induction l with
 | nil => cases hc
 | cons d r ih =>
   rw [List.takeWhile_cons] at hc
   split at hc
   · rename_i hd
     rcases List.mem_cons.1 hc with rfl | hc
     · exact hd
     · exact ih hc
   · cases hc
theorem tk_inn {l : List UInt8} {m : Nat} {e : List UInt8} (h : tk l = some (m, .inr e)) : InnB e ∧ 3 + e.length ≤ l.length ∧ m = 3 + e.length := by
 have hl := tk_len h
 cases l with
 | nil => cases h
 | cons c r =>
   by_cases h1 : c = 92
   · subst h1
     cases r with
     | nil => cases h
     | cons d r' =>
       rw [tk_e1] at h
       cases hd : esc d with
       | none => rw [hd] at h; cases h
       | some x => rw [hd] at h; simp at h
   · by_cases h2 : c = 36 ∧ r.head? = some 123
     · obtain ⟨rfl, h2⟩ := h2
       rw [tk_x r h2] at h
       split at h
       · simp only [Option.some.injEq, Prod.mk.injEq, Sum.inr.injEq] at h
         obtain ⟨rfl, rfl⟩ := h
         exact ⟨takeP_inn _, hl.2, rfl⟩
       · cases h
     · rw [tk_b c r h1 h2] at h
       simp at h
theorem flush_flat (ps : List Prt) (b : List UInt8) : ((flush ps b).flatMap (·.s)).length = (ps.flatMap (·.s)).length + b.length := by
 unfold flush
 split
 · rename_i h
   have : b = [] := List.isEmpty_iff.1 h
   subst this; simp
 · simp [List.flatMap_append]
theorem flush_len2 (ps : List Prt) (b : List UInt8) : (flush ps b).length ≤ ps.length + b.length ∧ (flush ps b).length ≤ ps.length + 1 := by
 unfold flush
 split
 · omega
 · rename_i h
   have : b ≠ [] := fun e => h (by rw [e]; rfl)
   have := List.length_pos_iff.2 this
   simp; omega
theorem flush_g {n : Nat} {ps : List Prt} (b : List UInt8) (h : ∀ y ∈ ps, PrtG n y) : ∀ y ∈ flush ps b, PrtG n y := fun y hy => by
 unfold flush at hy
 split at hy
 · exact h y hy
 · rcases List.mem_append.1 hy with hy | hy
   · exact h y hy
   · rw [List.mem_singleton] at hy
     subst hy
     exact ⟨Nat.zero_le _, Nat.zero_le _, Nat.zero_le _, fun e => by cases e⟩
theorem strL_c (f : Nat) (c : UInt8) (r : List UInt8) (p : Plc) (b : List UInt8) (ps : List Prt) (n : Nat) : strL (f + 1) (c :: r) p b ps n = if c = 10 then none else if c = 34 then some (flush ps b, n, r) else match tk (c :: r) with
 | none => none
 | some (m, q) => strL f ((c :: r).drop m) (p.adv ((c :: r).take m)) (tkB b q) (tkP (p.adv ((c :: r).take 2)) ps b q) (tkN n q) := rfl
theorem strL_g {n : Nat} : ∀ (f : Nat) (l : List UInt8) (p : Plc) (b : List UInt8) (ps : List Prt) (k : Nat) (a : List Prt) (m : Nat) (r : List UInt8), strL f l p b ps k = some (a, m, r) → Bd n p l.length → ps.length + b.length + l.length ≤ n → (∀ y ∈ ps, PrtG n y) → (ps.flatMap (·.s)).length + b.length = k →
 a.length ≤ n ∧ (∀ y ∈ a, PrtG n y) ∧ (a.flatMap (·.s)).length = m ∧ r.length < l.length
 | 0, _, _, _, _, _, _, _, _, h, _, _, _, _ => by cases h
 | f + 1, [], _, _, _, _, _, _, _, h, _, _, _, _ => by cases h
 | f + 1, c :: t, p, b, ps, k, a, m, r, h, hb, hn, hp, hk => by
   rw [strL_c] at h
   split at h
   · cases h
   · split at h
     · simp only [Option.some.injEq, Prod.mk.injEq] at h
       obtain ⟨rfl, rfl, rfl⟩ := h
       have h1 := flush_len2 ps b
       simp only [List.length_cons] at hn ⊢
       exact ⟨by omega, flush_g b hp, by rw [flush_flat, hk], by omega⟩
     · cases ht : tk (c :: t) with
       | none => rw [ht] at h; cases h
       | some q =>
         obtain ⟨j, q⟩ := q
         rw [ht] at h
         obtain ⟨j1, j2⟩ := tk_len ht
         have e1 : ((c :: t).take j).length = j := List.length_take_of_le j2
         have e2 : ((c :: t).drop j).length = (c :: t).length - j := List.length_drop
         have hb' : Bd n (p.adv ((c :: t).take j)) ((c :: t).drop j).length := hb.adv _ (by omega)
         have key : (tkP (p.adv ((c :: t).take 2)) ps b q).length + (tkB b q).length ≤ ps.length + b.length + j ∧ (∀ y ∈ tkP (p.adv ((c :: t).take 2)) ps b q, PrtG n y) ∧ ((tkP (p.adv ((c :: t).take 2)) ps b q).flatMap (·.s)).length + (tkB b q).length = tkN k q := by
          cases q with
          | inl x =>
            refine ⟨?_, hp, ?_⟩
            · show ps.length + (b ++ [x]).length ≤ _; simp; omega
            · show (ps.flatMap (·.s)).length + (b ++ [x]).length = k + 1; rw [List.length_append]; show _ + (b.length + 1) = _; omega
          | inr e =>
            obtain ⟨i1, i2, i3⟩ := tk_inn ht
            have f1 := flush_len2 ps b
            refine ⟨?_, ?_, ?_⟩
            · show (flush ps b ++ [(⟨true, e, p.adv ((c :: t).take 2)⟩ : Prt)]).length + 0 ≤ _
              rw [List.length_append]; show (flush ps b).length + 1 + 0 ≤ _; omega
            · intro y hy
              have hy : y ∈ flush ps b ++ [⟨true, e, p.adv ((c :: t).take 2)⟩] := hy
              rcases List.mem_append.1 hy with hy | hy
              · exact flush_g b hp y hy
              · rw [List.mem_singleton] at hy
                subst hy
                have e3 : ((c :: t).take 2).length = 2 := List.length_take_of_le (by omega)
                have g : Bd n (p.adv ((c :: t).take 2)) 0 := hb.adv _ (by omega)
                exact ⟨g.a, g.l, g.c, fun _ => i1⟩
            · show ((flush ps b ++ [(⟨true, e, p.adv ((c :: t).take 2)⟩ : Prt)]).flatMap (·.s)).length + 0 = k + e.length
              rw [List.flatMap_append, List.length_append, flush_flat, hk]
              simp
         obtain ⟨g1, g2, g3, g4⟩ := strL_g f _ _ _ _ _ _ _ _ h hb' (by rw [e2]; omega) key.2.1 key.2.2
         exact ⟨g1, g2, g3, by rw [e2] at g4; omega⟩
structure TknG (n : Nat) (t : Tkn) : Prop where
 s : t.s.length ≤ n
 a : t.p.a ≤ n
 l : t.p.l ≤ n + 1
 c : t.p.c ≤ n + 1
 nw : (Lit.int .i64 t.n).wf = true
 len : t.ps.length ≤ n
 flat : (t.ps.flatMap (·.s)).length ≤ 1024
 el : ∀ y ∈ t.ps, PrtG n y
 k4 : t.k ≤ 4
 ps3 : t.k ≠ 3 → t.ps = []
theorem takeP_le (p : Nat → Bool) (l : List UInt8) : (takeP p l).length ≤ l.length := by have := takeP_len p l; omega
theorem wf_i64 {n : Int} (h1 : -9223372036854775808 ≤ n) (h2 : n ≤ 9223372036854775807) : (Lit.int .i64 n).wf = true := by
 simp [Lit.wf, IntKind.min, IntKind.max, IntKind.signed, IntKind.bits]; omega
theorem pv_bd (l : List UInt8) (m : Bool) : -9223372036854775808 ≤ pv l m ∧ pv l m ≤ 9223372036854775807 := by
 unfold pv
 split
 · exact nv_bd _
 · omega
theorem tkn_mk {n : Nat} {p : Plc} {j : Nat} (h : Bd n p j) {k : Nat} {s : List UInt8} {x : Int} (hs : s.length ≤ n) (hx : (Lit.int .i64 x).wf = true) (hk : k ≤ 4) : TknG n ⟨k, s, x, [], p⟩ := by
 have g := h.le (Nat.zero_le j)
 exact ⟨hs, g.a, g.l, g.c, hx, Nat.zero_le _, Nat.zero_le _, (fun y hy => by cases hy), hk, fun _ => rfl⟩
theorem tokL_c (p : Plc) (c : UInt8) (r : List UInt8) : tokL p (c :: r) = if isLetter c.toNat then (if 24 < (takeP isWord (c :: r)).length then .error 3 else .ok (⟨1, takeP isWord (c :: r), 0, [], p⟩, dropP isWord (c :: r)))
 else if isDgt c.toNat then (if pe (takeP isWord (c :: r)) false = 0 then .ok (⟨2, [], pv (takeP isWord (c :: r)) false, [], p⟩, dropP isWord (c :: r)) else .error (pe (takeP isWord (c :: r)) false).toNat)
 else if c = 34 then strE p (strL (r.length + 1) r (p.step c) [] [] 0)
 else if sgn (c :: r) = 0 then .error 23 else .ok (⟨4, (c :: r).take (sgn (c :: r)), 0, [], p⟩, (c :: r).drop (sgn (c :: r))) := rfl
theorem isWord_of_letter {c : Nat} (h : isLetter c = true) : isWord c = true := by unfold isWord; rw [h]; simp
theorem isWord_of_dgt {c : Nat} (h : isDgt c = true) : isWord c = true := by unfold isWord; rw [h]; simp
theorem dropP_lt {p : Nat → Bool} {c : UInt8} {r : List UInt8} (h : p c.toNat = true) : (dropP p (c :: r)).length < (c :: r).length := by
 have : dropP p (c :: r) = dropP p r := by unfold dropP; rw [List.dropWhile_cons, h]; rfl
 rw [this]
 have := dropP_le p r
 simp only [List.length_cons]; omega
theorem tokL_g {n : Nat} {p : Plc} {c : UInt8} {r r' : List UInt8} {t : Tkn} (h : tokL p (c :: r) = .ok (t, r')) (hb : Bd n p (c :: r).length) : TknG n t ∧ r'.length < (c :: r).length ∧ t.k ≠ 0 ∧ (c ≠ 34 → t.ps = [] ∧ t.k ≠ 3) ∧ t.p = p := by
 have hw0 : (Lit.int .i64 0).wf = true := wf_i64 (by decide) (by decide)
 have hn : (c :: r).length ≤ n := by have := hb.a; omega
 rw [tokL_c] at h
 split at h
 · rename_i hl
   split at h
   · cases h
   · simp only [Except.ok.injEq, Prod.mk.injEq] at h
     obtain ⟨rfl, rfl⟩ := h
     exact ⟨tkn_mk hb (Nat.le_trans (takeP_le _ _) hn) hw0 (by decide), dropP_lt (isWord_of_letter hl), (by decide : (1 : Nat) ≠ 0), fun _ => ⟨rfl, (by decide : (1 : Nat) ≠ 3)⟩, rfl⟩
 · split at h
   · rename_i hd
     split at h
     · simp only [Except.ok.injEq, Prod.mk.injEq] at h
       obtain ⟨rfl, rfl⟩ := h
       have g := pv_bd (takeP isWord (c :: r)) false
       exact ⟨tkn_mk hb (Nat.zero_le _) (wf_i64 g.1 g.2) (by decide), dropP_lt (isWord_of_dgt hd), (by decide : (2 : Nat) ≠ 0), fun _ => ⟨rfl, (by decide : (2 : Nat) ≠ 3)⟩, rfl⟩
     · cases h
   · split at h
     · rename_i hq
       cases hs : strL (r.length + 1) r (p.step c) [] [] 0 with
       | none => rw [hs] at h; cases h
       | some S =>
         obtain ⟨a, m, z⟩ := S
         rw [hs] at h
         unfold strE at h
         simp only at h
         split at h
         · cases h
         · simp only [Except.ok.injEq, Prod.mk.injEq] at h
           obtain ⟨rfl, rfl⟩ := h
           have hb1 : Bd n (p.adv [c]) r.length := hb.adv [c] (by simp; omega)
           obtain ⟨g1, g2, g3, g4⟩ := strL_g (n := n) _ _ _ _ _ _ _ _ _ hs hb1 (by simp only [List.length_nil, List.length_cons] at *; omega) (fun y hy => by cases hy) rfl
           have g := hb.le (Nat.zero_le _)
           exact ⟨⟨Nat.zero_le _, g.a, g.l, g.c, hw0, g1, by show (a.flatMap _).length ≤ _; omega, g2, (by decide : (3 : Nat) ≤ 4), fun e => absurd rfl e⟩, by simp only [List.length_cons]; omega, (by decide : (3 : Nat) ≠ 0), fun e => absurd hq e, rfl⟩
     · split at h
       · cases h
       · rename_i h0
         simp only [Except.ok.injEq, Prod.mk.injEq] at h
         obtain ⟨rfl, rfl⟩ := h
         refine ⟨tkn_mk hb ?_ hw0 (by decide), ?_, (by decide : (4 : Nat) ≠ 0), fun _ => ⟨rfl, (by decide : (4 : Nat) ≠ 3)⟩, rfl⟩
         · rw [List.length_take]; omega
         · rw [List.length_drop]
           have : 0 < sgn (c :: r) := Nat.pos_of_ne_zero h0
           simp only [List.length_cons]; omega
theorem tokL_nq {p : Plc} {c : UInt8} {r r' : List UInt8} {t : Tkn} (h : tokL p (c :: r) = .ok (t, r')) (hq : c ≠ 34) : t.ps = [] ∧ t.k ≠ 3 := by
 rw [tokL_c] at h
 split at h
 · split at h
   · cases h
   · simp only [Except.ok.injEq, Prod.mk.injEq] at h
     obtain ⟨rfl, -⟩ := h
     exact ⟨rfl, (by decide : (1 : Nat) ≠ 3)⟩
 · split at h
   · split at h
     · simp only [Except.ok.injEq, Prod.mk.injEq] at h
       obtain ⟨rfl, -⟩ := h
       exact ⟨rfl, (by decide : (2 : Nat) ≠ 3)⟩
     · cases h
   · (try rw [if_neg hq] at h)
     split at h
     · cases h
     · simp only [Except.ok.injEq, Prod.mk.injEq] at h
       obtain ⟨rfl, -⟩ := h
       exact ⟨rfl, (by decide : (4 : Nat) ≠ 3)⟩
theorem skc_len : ∀ (f : Nat) (l : List UInt8), (skc f l).length ≤ l.length ∧ ∀ c ∈ skc f l, c ∈ l
 | 0, l => ⟨Nat.le_refl _, fun _ h => h⟩
 | f + 1, [] => ⟨Nat.le_refl _, fun _ h => h⟩
 | f + 1, c :: r => by
   have hm : ∀ (p : Nat → Bool) (l : List UInt8), ∀ c ∈ dropP p l, c ∈ l := fun p l c hc => by rw [← take_dropP p l]; exact List.mem_append_right _ hc
   rw [skc]
   split
   · obtain ⟨g1, g2⟩ := skc_len f (dropP isBlank (dropP isRemark (c :: r)))
     have k1 := dropP_le isBlank (dropP isRemark (c :: r))
     have k2 := dropP_le isRemark (c :: r)
     exact ⟨by omega, fun d hd => hm _ _ _ (hm _ _ _ (g2 d hd))⟩
   · exact ⟨Nat.le_refl _, fun _ h => h⟩
theorem skip_len (l : List UInt8) : (skip l).length ≤ l.length ∧ ∀ c ∈ skip l, c ∈ l := by
 unfold skip
 obtain ⟨g1, g2⟩ := skc_len l.length (dropP isBlank l)
 have := dropP_le isBlank l
 exact ⟨by omega, fun c hc => by have := g2 c hc; rw [← take_dropP isBlank l]; exact List.mem_append_right _ this⟩
structure LexG (n : Nat) (ts : List Tkn) : Prop where
 el : ∀ t ∈ ts, TknG n t
 ne : 0 < ts.length
theorem allL_g {n : Nat} : ∀ (f : Nat) (p : Plc) (l : List UInt8) (ts : List Tkn), allL f p l = .ok ts → Bd n p l.length → LexG n ts ∧ ts.length ≤ l.length + 1
 | 0, _, _, _, h, _ => by cases h
 | f + 1, p, l, ts, h, hb => by
   unfold allL at h
   obtain ⟨k1, -⟩ := skip_len l
   cases hs : skip l with
   | nil =>
     rw [hs] at h
     simp only [Except.ok.injEq] at h
     subst h
     have g : Bd n (p.adv l) 0 := hb.adv _ (by omega)
     refine ⟨⟨fun t ht => ?_, by simp⟩, by simp⟩
     rw [List.mem_singleton] at ht
     subst ht
     exact tkn_mk g (Nat.zero_le _) (wf_i64 (by decide) (by decide)) (by decide)
   | cons c r =>
     rw [hs] at h k1
     simp only [List.length_cons] at k1
     simp only at h
     have hb1 : Bd n (p.adv (l.take (l.length - (r.length + 1)))) (c :: r).length := hb.adv _ (by rw [List.length_take]; simp only [List.length_cons]; omega)
     cases ht : tokL (p.adv (l.take (l.length - (r.length + 1)))) (c :: r) with
     | error e => rw [ht] at h; cases h
     | ok tr =>
       obtain ⟨t, l2⟩ := tr
       obtain ⟨g1, g2, -⟩ := tokL_g ht hb1
       simp only [List.length_cons] at g2
       rw [ht] at h
       simp only at h
       have hb2 : Bd n (p.adv (l.take (l.length - l2.length))) l2.length := hb.adv _ (by rw [List.length_take]; omega)
       cases hu : allL f (p.adv (l.take (l.length - l2.length))) l2 with
       | error e => rw [hu] at h; cases h
       | ok us =>
         rw [hu] at h
         simp only [Except.ok.injEq] at h
         subst h
         obtain ⟨q1, q2⟩ := allL_g f _ _ _ hu hb2
         refine ⟨⟨fun x hx => ?_, by simp⟩, by simp only [List.length_cons]; omega⟩
         rcases List.mem_cons.1 hx with rfl | hx
         · exact g1
         · exact q1.el x hx
theorem lexL_g {L : List UInt8} {ts : List Tkn} (h : lexL L = .ok ts) : LexG L.length ts ∧ ts.length ≤ L.length + 1 ∧ L.length ≤ 32768 := by
 unfold lexL at h
 split at h
 · cases h
 · rename_i hl
   obtain ⟨g1, g2⟩ := allL_g (n := L.length) _ _ _ _ h ⟨by show 0 + _ ≤ _; omega, by show 1 + _ ≤ _; omega, by show 1 + _ ≤ _; omega, Nat.le_refl _⟩
   exact ⟨g1, g2, by omega⟩
theorem tokL_mem {p : Plc} {c : UInt8} {r r' : List UInt8} {t : Tkn} (h : tokL p (c :: r) = .ok (t, r')) (hq : c ≠ 34) : ∀ d ∈ r', d ∈ c :: r := by
 have hm : ∀ (p : Nat → Bool) (l : List UInt8), ∀ c ∈ dropP p l, c ∈ l := fun p l c hc => by rw [← take_dropP p l]; exact List.mem_append_right _ hc
 rw [tokL_c] at h
 split at h
 · split at h
   · cases h
   · simp only [Except.ok.injEq, Prod.mk.injEq] at h
     obtain ⟨-, rfl⟩ := h
     exact hm _ _
 · split at h
   · split at h
     · simp only [Except.ok.injEq, Prod.mk.injEq] at h
       obtain ⟨-, rfl⟩ := h
       exact hm _ _
     · cases h
   · (try rw [if_neg hq] at h)
     split at h
     · cases h
     · simp only [Except.ok.injEq, Prod.mk.injEq] at h
       obtain ⟨-, rfl⟩ := h
       exact fun d hd => List.mem_of_mem_drop hd
theorem allL_nq : ∀ (f : Nat) (p : Plc) (l : List UInt8) (ts : List Tkn), allL f p l = .ok ts → (∀ c ∈ l, c ≠ 34) → ∀ t ∈ ts, t.ps = [] ∧ t.k ≠ 3
 | 0, _, _, _, h, _ => by cases h
 | f + 1, p, l, ts, h, hq => by
   unfold allL at h
   obtain ⟨k1, k2⟩ := skip_len l
   cases hs : skip l with
   | nil =>
     rw [hs] at h
     simp only [Except.ok.injEq] at h
     subst h
     intro t ht
     rw [List.mem_singleton] at ht
     subst ht
     exact ⟨rfl, (by decide : (0 : Nat) ≠ 3)⟩
   | cons c r =>
     rw [hs] at h k1 k2
     simp only at h
     have hc : c ≠ 34 := hq c (k2 c (by simp))
     cases ht : tokL (p.adv (l.take (l.length - (r.length + 1)))) (c :: r) with
     | error e => rw [ht] at h; cases h
     | ok tr =>
       obtain ⟨t, l2⟩ := tr
       rw [ht] at h
       simp only at h
       have hk : t.ps = [] ∧ t.k ≠ 3 := tokL_nq ht hc
       cases hu : allL f (p.adv (l.take (l.length - l2.length))) l2 with
       | error e => rw [hu] at h; cases h
       | ok us =>
         rw [hu] at h
         simp only [Except.ok.injEq] at h
         subst h
         intro x hx
         rcases List.mem_cons.1 hx with rfl | hx
         · exact hk
         · exact allL_nq f _ _ _ hu (fun d hd => hq d (k2 d (tokL_mem ht hc d hd))) x hx
open Go.RowKit Go.Lib

theorem flat_at {α : Type} (f : α → List Value) (z : Nat) (hf : ∀ x, (f x).length = z) : ∀ (l : List α) (j m : Nat) (hj : j < l.length), m < z → (l.flatMap f)[j * z + m]? = (f l[j])[m]?
 | [], _, _, hj, _ => absurd hj (Nat.not_lt_zero _)
 | a :: r, 0, m, _, hm => by
   rw [List.flatMap_cons, Nat.zero_mul, Nat.zero_add, List.getElem?_append_left (by rw [hf]; exact hm)]; rfl
 | a :: r, j + 1, m, hj, hm => by
   have e : (j + 1) * z + m = z + (j * z + m) := by rw [Nat.add_mul]; omega
   rw [List.flatMap_cons, e, List.getElem?_append_right (by rw [hf]; omega), hf, Nat.add_sub_cancel_left]
   exact flat_at f z hf r j m (by simpa using hj) hm
theorem rowP_own {α : Type} {w : World} {B e z : Nat} {v : Value} (f : α → List Value) (L : List α) (hf : ∀ x, (f x).length = z) (h : w.ownsRow B e z v L.length (L.flatMap f)) (c : Nat → Nat → Value) (hc : ∀ j (hj : j < L.length) m, m < z → (f L[j])[m]? = some (c j m)) :
 ∃ o cap, v = .slice o L.length cap ∧ RowP (fun k => B ≤ k ∧ k < w.heap.size) w o cap L.length z c := by
 have hcells := fun {g : Nat} (hg : v.ownBlock = some g) => h.cells hg
 rcases h.2 with ⟨rfl, h0⟩ | ⟨g, cap, cur, rfl, hb, hg, hn, hm, hs, ht⟩
 · rw [h0]; exact ⟨none, 0, rfl, Nat.le_refl _, Nat.zero_le _, fun _ => rfl, fun hl => absurd hl (Nat.lt_irrefl _)⟩
 · refine ⟨_, cap, rfl, hn, hm, (fun e => by cases e), fun hl => ⟨g, 0, rfl, ⟨hb, (Array.getElem?_eq_some_iff.1 hg).1⟩, fun j hj m hmz => ?_⟩⟩
   have := hcells (g := g) rfl (j * z + m) (c j m) (by rw [flat_at f z hf L j m hj hmz]; exact hc j hj m hmz)
   have ea : (⟨g, 0, none⟩ : Addr).add (j * z + m) = ⟨g, 0 + j * z + m, none⟩ := by unfold Addr.add; split <;> simp_all
   rw [ea] at this
   exact this
theorem pcs_row {w : World} {B : Nat} {v : Value} {ps : List Prt} (h : w.ownsRow B 130 5 v ps.length (pcs ps)) : ∃ o cap, v = .slice o ps.length cap ∧ RowP (fun k => B ≤ k ∧ k < w.heap.size) w o cap ps.length 5 (fun j m => pc5 ((ps[j]?).getD prt0) m) := by
 refine rowP_own (fun p => lpc5 p) ps (fun _ => rfl) h _ fun j hj m hm => ?_
 rw [List.getElem?_eq_getElem hj, Option.getD_some]
 match m, hm with
 | 0, _ => rfl
 | 1, _ => rfl
 | 2, _ => rfl
 | 3, _ => rfl
 | 4, _ => rfl
theorem acc_toks {w : World} {B : Nat} : ∀ (acc : List (Tkn × Value)), (∀ x ∈ acc, w.ownsRow B 130 5 x.2 x.1.ps.length (pcs x.1.ps)) → ∃ a : List (Tkn × Option Addr × Nat), a.map (fun x => (x.1, psv x)) = acc ∧ ∀ x ∈ a, RowP (fun k => B ≤ k ∧ k < w.heap.size) w x.2.1 x.2.2 x.1.ps.length 5 (fun j m => pc5 ((x.1.ps[j]?).getD prt0) m)
 | [], _ => ⟨[], rfl, fun x h => by cases h⟩
 | (t, v) :: r, h => by
   obtain ⟨a, h1, h2⟩ := acc_toks r fun x hx => h x (List.mem_cons_of_mem _ hx)
   obtain ⟨o, cap, e, hr⟩ := pcs_row (h (t, v) (List.mem_cons_self ..))
   have e : v = .slice o t.ps.length cap := e
   refine ⟨(t, o, cap) :: a, by rw [List.map_cons, h1, e], fun x hx => ?_⟩
   rcases List.mem_cons.1 hx with rfl | hx
   · exact hr
   · exact h2 x hx
theorem toks_row {w : World} {B : Nat} {vl : Value} {acc : List (Tkn × Value)} (h : Toks w B vl acc) : ∃ a : List (Tkn × Option Addr × Nat), a.map (·.1) = acc.map (·.1) ∧ (∃ o cap, vl = .slice o a.length cap ∧ RowP (fun k => B ≤ k ∧ k < w.heap.size) w o cap a.length 7 (fun j m => tc7 ((a[j]?).getD (tk0, none, 0)) m)) ∧
 ∀ x ∈ a, RowP (fun k => B ≤ k ∧ k < w.heap.size) w x.2.1 x.2.2 x.1.ps.length 5 (fun j m => pc5 ((x.1.ps[j]?).getD prt0) m) := by
 obtain ⟨a, h1, h2⟩ := acc_toks acc h.el
 subst h1
 refine ⟨a, by rw [List.map_map]; rfl, ?_, h2⟩
 have hr := h.row
 rw [List.length_map, show tcs (a.map fun x => (x.1, psv x)) = a.flatMap (fun x => ltc7 (x.1, psv x)) by unfold tcs; rw [List.flatMap_map]] at hr
 refine rowP_own (fun x => ltc7 (x.1, psv x)) a (fun _ => rfl) hr _ fun j hj m hm => ?_
 rw [List.getElem?_eq_getElem hj, Option.getD_some]
 match m, hm with
 | 0, _ => rfl
 | 1, _ => rfl
 | 2, _ => rfl
 | 3, _ => rfl
 | 4, _ => rfl
 | 5, _ => rfl
 | 6, _ => rfl
theorem zt_mk {w w' : World} {B R sg : Nat} {vl : Value} {hh : Ps} {a : List (Tkn × Option Addr × Nat)} (h1 : ∃ o cap, vl = .slice o a.length cap ∧ RowP (fun k => B ≤ k ∧ k < w.heap.size) w o cap a.length 7 (fun j m => tc7 ((a[j]?).getD (tk0, none, 0)) m))
 (h2 : ∀ x ∈ a, RowP (fun k => B ≤ k ∧ k < w.heap.size) w x.2.1 x.2.2 x.1.ps.length 5 (fun j m => pc5 ((x.1.ps[j]?).getD prt0) m))
 (n : Nat) (hn : w.heap.size ≤ n) (hb : Below w.heap.size w w') (hR : n ≤ R) (hs : w'.heap[sg]? = some (.map sgEs 17)) (hsn : sg < n) (tb : Tab w) (lv : Lev w) (h2n : 4 ≤ w.heap.size) : Zt w' R ⟨a, vl, sg, hh, n⟩ := by
 have key : ∀ k, (B ≤ k ∧ k < w.heap.size) → Ok n R k ∧ w'.heap[k]? = w.heap[k]? := fun k hk => ⟨⟨by omega, by omega⟩, hb.block k hk.2⟩
 obtain ⟨o, cap, e, r⟩ := h1
 exact ⟨⟨o, cap, e, r.keptP key⟩, fun x hx => (h2 x hx).keptP key, hs, (by show sg ≠ R; omega), hsn, tb.at (hb.block 2 (by omega)), lv.at (hb.block 3 (by omega)), by omega, by show 4 ≤ n; omega⟩
theorem sz_mk {n : Nat} {a : List (Tkn × Option Addr × Nat)} {ts : List Tkn} (e : a.map (·.1) = ts) (g : LexG n ts) (hl : ts.length ≤ n + 1) (hn : n ≤ 32768) (vl : Value) (sg n0 : Nat) {h : Ps} (ha : -1000000000000 ≤ h.a ∧ h.a ≤ 1000000000000) (hb : -1000000000000 ≤ h.l ∧ h.l ≤ 1000000000000) (hc : -1000000000000 ≤ h.c ∧ h.c ≤ 1000000000000) : Sz ⟨a, vl, sg, h, n0⟩ := by
 have hm : ∀ x ∈ a, TknG n x.1 := fun x hx => g.el _ (by rw [← e]; exact List.mem_map_of_mem hx)
 have h0 : a.length = ts.length := by rw [← e, List.length_map]
 refine ⟨by show a.length ≤ _; omega, fun x hx => ?_, ha, hb, hc, fun x hx => (hm x hx).nw, fun x hx => ⟨?_, ?_, fun y hy => ?_⟩⟩
 · have k := hm x hx
   have := k.s; have := k.a; have := k.l; have := k.c
   exact ⟨by omega, by omega, by omega, by omega⟩
 · have := (hm x hx).len; omega
 · have := (hm x hx).flat; omega
 · have k := (hm x hx).el y hy
   have := k.a; have := k.l; have := k.c
   exact ⟨by omega, by omega, by omega⟩
theorem tz_nil {Z : Cz} (h : ∀ x ∈ Z.acc, x.1.k ≠ 3) (i : Nat) : (Z.tz i).1.k ≠ 3 := by
 unfold Cz.tz
 cases e : Z.acc[i]? with
 | none => decide
 | some x => exact h x (List.mem_of_getElem? e)
def noInn : List UInt8 → Ps → Ex × Nat × Ps := fun _ _ => (zeroX, 0, ps0)
theorem text_none {R : Nat} {Z : Cz} (h : ∀ x ∈ Z.acc, x.1.k ≠ 3) (inn : List UInt8 → Ps → Ex × Nat × Ps) : TextOk R Z inn := fun _ _ _ hk => absurd hk (tz_nil h _)
noncomputable def innM (l : List UInt8) (h : Ps) : Ex × Nat × Ps :=
 match lexL l with
 | .error (e, p) => (zeroX, e, mv h p.ps)
 | .ok ts => ((wholeM ⟨ts, h, noInn⟩).1, (wholeM ⟨ts, h, noInn⟩).2.e, (wholeM ⟨ts, h, noInn⟩).2.q)
theorem innM_err {l : List UInt8} {e : Nat} {p : Plc} (h : lexL l = .error (e, p)) (hh : Ps) : innM l hh = (zeroX, e, mv hh p.ps) := by unfold innM; rw [h]
theorem innM_ok {l : List UInt8} {ts : List Tkn} (h : lexL l = .ok ts) (hh : Ps) : innM l hh = ((wholeM ⟨ts, hh, noInn⟩).1, (wholeM ⟨ts, hh, noInn⟩).2.e, (wholeM ⟨ts, hh, noInn⟩).2.q) := by unfold innM; rw [h]
theorem lexL_nz {l : List UInt8} {e : Nat} {p : Plc} (h : lexL l = .error (e, p)) : e ≠ 0 ∧ p.a ≤ 40000 ∧ p.l ≤ 40001 ∧ p.c ≤ 40001 := by
 have key : ∀ (f : Nat) (p : Plc) (l : List UInt8) (e : Nat) (q : Plc) (n : Nat), n ≤ 32768 → allL f p l = .error (e, q) → Bd n p l.length → e ≠ 0 ∧ q.a ≤ 40000 ∧ q.l ≤ 40001 ∧ q.c ≤ 40001 := by
  intro f
  induction f with
  | zero =>
    intro p l e q n hn h hb
    have h : (Except.error (99, p) : Except (Nat × Plc) (List Tkn)) = .error (e, q) := h
    simp only [Except.error.injEq, Prod.mk.injEq] at h
    obtain ⟨rfl, rfl⟩ := h
    have := hb.a; have := hb.l; have := hb.c
    exact ⟨by decide, by omega, by omega, by omega⟩
  | succ f ih =>
    intro p l e q n hn h hb
    unfold allL at h
    obtain ⟨k1, -⟩ := skip_len l
    cases hs : skip l with
    | nil => rw [hs] at h; cases h
    | cons c r =>
      rw [hs] at h k1
      simp only [List.length_cons] at k1
      simp only at h
      have hb1 : Bd n (p.adv (l.take (l.length - (r.length + 1)))) (c :: r).length := hb.adv _ (by rw [List.length_take]; simp only [List.length_cons]; omega)
      cases ht : tokL (p.adv (l.take (l.length - (r.length + 1)))) (c :: r) with
      | error x =>
        rw [ht] at h
        simp only [Except.error.injEq, Prod.mk.injEq] at h
        obtain ⟨rfl, rfl⟩ := h
        have := hb1.a; have := hb1.l; have := hb1.c
        exact ⟨tokL_nz ht (by simp), by omega, by omega, by omega⟩
      | ok tr =>
        obtain ⟨t, l2⟩ := tr
        obtain ⟨-, g2, -⟩ := tokL_g ht hb1
        simp only [List.length_cons] at g2
        rw [ht] at h
        simp only at h
        have hb2 : Bd n (p.adv (l.take (l.length - l2.length))) l2.length := hb.adv _ (by rw [List.length_take]; omega)
        cases hu : allL f (p.adv (l.take (l.length - l2.length))) l2 with
        | error x =>
          rw [hu] at h
          simp only [Except.error.injEq] at h
          subst h
          exact ih _ _ _ _ n hn hu hb2
        | ok us => rw [hu] at h; cases h
 unfold lexL at h
 split at h
 · simp only [Except.error.injEq, Prod.mk.injEq] at h
   obtain ⟨rfl, rfl⟩ := h
   exact ⟨by decide, by decide, by decide, by decide⟩
 · rename_i hl
   exact key _ _ _ _ _ l.length (by omega) h ⟨by show 0 + _ ≤ _; omega, by show 1 + _ ≤ _; omega, by show 1 + _ ≤ _; omega, Nat.le_refl _⟩
theorem Below.fm {W w1 w2 : World} {R : Nat} (b : Below W.heap.size W w1) (hR : W.heap.size ≤ R) (f : Fm R w1 w2) : Below W.heap.size W w2 :=
 ⟨f.os.trans b.os, f.tape.trans b.tape, f.output.trans b.output, Nat.le_trans b.size f.size, fun k hk => (f.block k (Nat.lt_of_lt_of_le hk b.size) (fun e => by have := Option.some.inj e; omega)).trans (b.block k hk)⟩
theorem Xb.re {n m R R' b : Nat} {w : World} {X : Ex} (h : Xb n w R' b X) (hm : m ≤ n) (hR : R < n) : Xb m w R b X := by
 obtain ⟨oV, cV, oK, cK, o, cap, h1, h2, h3, h4⟩ := h
 exact ⟨oV, cV, oK, cK, o, cap, h1, h2.mono fun k hk => ⟨Nat.le_trans hm hk.1, hk.2.1, by have := hk.1; omega⟩, by omega, Nat.le_trans hm h4⟩
open Go.RowKit Go.Lib

theorem set15_0 {w : World} {b : Nat} {c0 c1 c2 c3 c4 c5 c6 c7 c8 c9 c10 c11 c12 c13 c14 : Value} {t : TypeId} (h : w.heap[b]? = some (.cells #[c0, c1, c2, c3, c4, c5, c6, c7, c8, c9, c10, c11, c12, c13, c14] t (0, 0))) (v : Value) : (w.setCell ⟨b, 0, none⟩ v).heap[b]? = some (.cells #[v, c1, c2, c3, c4, c5, c6, c7, c8, c9, c10, c11, c12, c13, c14] t (0, 0)) := by
 rw [heap_setCell_same _ b 0 _ _ _ h]; rfl
theorem set15_1 {w : World} {b : Nat} {c0 c1 c2 c3 c4 c5 c6 c7 c8 c9 c10 c11 c12 c13 c14 : Value} {t : TypeId} (h : w.heap[b]? = some (.cells #[c0, c1, c2, c3, c4, c5, c6, c7, c8, c9, c10, c11, c12, c13, c14] t (0, 0))) (v : Value) : (w.setCell ⟨b, 1, none⟩ v).heap[b]? = some (.cells #[c0, v, c2, c3, c4, c5, c6, c7, c8, c9, c10, c11, c12, c13, c14] t (0, 0)) := by
 rw [heap_setCell_same _ b 1 _ _ _ h]; rfl
theorem set15_2 {w : World} {b : Nat} {c0 c1 c2 c3 c4 c5 c6 c7 c8 c9 c10 c11 c12 c13 c14 : Value} {t : TypeId} (h : w.heap[b]? = some (.cells #[c0, c1, c2, c3, c4, c5, c6, c7, c8, c9, c10, c11, c12, c13, c14] t (0, 0))) (v : Value) : (w.setCell ⟨b, 2, none⟩ v).heap[b]? = some (.cells #[c0, c1, v, c3, c4, c5, c6, c7, c8, c9, c10, c11, c12, c13, c14] t (0, 0)) := by
 rw [heap_setCell_same _ b 2 _ _ _ h]; rfl
theorem set15_3 {w : World} {b : Nat} {c0 c1 c2 c3 c4 c5 c6 c7 c8 c9 c10 c11 c12 c13 c14 : Value} {t : TypeId} (h : w.heap[b]? = some (.cells #[c0, c1, c2, c3, c4, c5, c6, c7, c8, c9, c10, c11, c12, c13, c14] t (0, 0))) (v : Value) : (w.setCell ⟨b, 3, none⟩ v).heap[b]? = some (.cells #[c0, c1, c2, v, c4, c5, c6, c7, c8, c9, c10, c11, c12, c13, c14] t (0, 0)) := by
 rw [heap_setCell_same _ b 3 _ _ _ h]; rfl
theorem set15_4 {w : World} {b : Nat} {c0 c1 c2 c3 c4 c5 c6 c7 c8 c9 c10 c11 c12 c13 c14 : Value} {t : TypeId} (h : w.heap[b]? = some (.cells #[c0, c1, c2, c3, c4, c5, c6, c7, c8, c9, c10, c11, c12, c13, c14] t (0, 0))) (v : Value) : (w.setCell ⟨b, 4, none⟩ v).heap[b]? = some (.cells #[c0, c1, c2, c3, v, c5, c6, c7, c8, c9, c10, c11, c12, c13, c14] t (0, 0)) := by
 rw [heap_setCell_same _ b 4 _ _ _ h]; rfl
theorem set15_5 {w : World} {b : Nat} {c0 c1 c2 c3 c4 c5 c6 c7 c8 c9 c10 c11 c12 c13 c14 : Value} {t : TypeId} (h : w.heap[b]? = some (.cells #[c0, c1, c2, c3, c4, c5, c6, c7, c8, c9, c10, c11, c12, c13, c14] t (0, 0))) (v : Value) : (w.setCell ⟨b, 5, none⟩ v).heap[b]? = some (.cells #[c0, c1, c2, c3, c4, v, c6, c7, c8, c9, c10, c11, c12, c13, c14] t (0, 0)) := by
 rw [heap_setCell_same _ b 5 _ _ _ h]; rfl
theorem set15_6 {w : World} {b : Nat} {c0 c1 c2 c3 c4 c5 c6 c7 c8 c9 c10 c11 c12 c13 c14 : Value} {t : TypeId} (h : w.heap[b]? = some (.cells #[c0, c1, c2, c3, c4, c5, c6, c7, c8, c9, c10, c11, c12, c13, c14] t (0, 0))) (v : Value) : (w.setCell ⟨b, 6, none⟩ v).heap[b]? = some (.cells #[c0, c1, c2, c3, c4, c5, v, c7, c8, c9, c10, c11, c12, c13, c14] t (0, 0)) := by
 rw [heap_setCell_same _ b 6 _ _ _ h]; rfl
theorem set15_7 {w : World} {b : Nat} {c0 c1 c2 c3 c4 c5 c6 c7 c8 c9 c10 c11 c12 c13 c14 : Value} {t : TypeId} (h : w.heap[b]? = some (.cells #[c0, c1, c2, c3, c4, c5, c6, c7, c8, c9, c10, c11, c12, c13, c14] t (0, 0))) (v : Value) : (w.setCell ⟨b, 7, none⟩ v).heap[b]? = some (.cells #[c0, c1, c2, c3, c4, c5, c6, v, c8, c9, c10, c11, c12, c13, c14] t (0, 0)) := by
 rw [heap_setCell_same _ b 7 _ _ _ h]; rfl
theorem set15_8 {w : World} {b : Nat} {c0 c1 c2 c3 c4 c5 c6 c7 c8 c9 c10 c11 c12 c13 c14 : Value} {t : TypeId} (h : w.heap[b]? = some (.cells #[c0, c1, c2, c3, c4, c5, c6, c7, c8, c9, c10, c11, c12, c13, c14] t (0, 0))) (v : Value) : (w.setCell ⟨b, 8, none⟩ v).heap[b]? = some (.cells #[c0, c1, c2, c3, c4, c5, c6, c7, v, c9, c10, c11, c12, c13, c14] t (0, 0)) := by
 rw [heap_setCell_same _ b 8 _ _ _ h]; rfl
theorem set15_9 {w : World} {b : Nat} {c0 c1 c2 c3 c4 c5 c6 c7 c8 c9 c10 c11 c12 c13 c14 : Value} {t : TypeId} (h : w.heap[b]? = some (.cells #[c0, c1, c2, c3, c4, c5, c6, c7, c8, c9, c10, c11, c12, c13, c14] t (0, 0))) (v : Value) : (w.setCell ⟨b, 9, none⟩ v).heap[b]? = some (.cells #[c0, c1, c2, c3, c4, c5, c6, c7, c8, v, c10, c11, c12, c13, c14] t (0, 0)) := by
 rw [heap_setCell_same _ b 9 _ _ _ h]; rfl
theorem set15_10 {w : World} {b : Nat} {c0 c1 c2 c3 c4 c5 c6 c7 c8 c9 c10 c11 c12 c13 c14 : Value} {t : TypeId} (h : w.heap[b]? = some (.cells #[c0, c1, c2, c3, c4, c5, c6, c7, c8, c9, c10, c11, c12, c13, c14] t (0, 0))) (v : Value) : (w.setCell ⟨b, 10, none⟩ v).heap[b]? = some (.cells #[c0, c1, c2, c3, c4, c5, c6, c7, c8, c9, v, c11, c12, c13, c14] t (0, 0)) := by
 rw [heap_setCell_same _ b 10 _ _ _ h]; rfl
theorem set15_11 {w : World} {b : Nat} {c0 c1 c2 c3 c4 c5 c6 c7 c8 c9 c10 c11 c12 c13 c14 : Value} {t : TypeId} (h : w.heap[b]? = some (.cells #[c0, c1, c2, c3, c4, c5, c6, c7, c8, c9, c10, c11, c12, c13, c14] t (0, 0))) (v : Value) : (w.setCell ⟨b, 11, none⟩ v).heap[b]? = some (.cells #[c0, c1, c2, c3, c4, c5, c6, c7, c8, c9, c10, v, c12, c13, c14] t (0, 0)) := by
 rw [heap_setCell_same _ b 11 _ _ _ h]; rfl
theorem set15_12 {w : World} {b : Nat} {c0 c1 c2 c3 c4 c5 c6 c7 c8 c9 c10 c11 c12 c13 c14 : Value} {t : TypeId} (h : w.heap[b]? = some (.cells #[c0, c1, c2, c3, c4, c5, c6, c7, c8, c9, c10, c11, c12, c13, c14] t (0, 0))) (v : Value) : (w.setCell ⟨b, 12, none⟩ v).heap[b]? = some (.cells #[c0, c1, c2, c3, c4, c5, c6, c7, c8, c9, c10, c11, v, c13, c14] t (0, 0)) := by
 rw [heap_setCell_same _ b 12 _ _ _ h]; rfl
theorem set15_13 {w : World} {b : Nat} {c0 c1 c2 c3 c4 c5 c6 c7 c8 c9 c10 c11 c12 c13 c14 : Value} {t : TypeId} (h : w.heap[b]? = some (.cells #[c0, c1, c2, c3, c4, c5, c6, c7, c8, c9, c10, c11, c12, c13, c14] t (0, 0))) (v : Value) : (w.setCell ⟨b, 13, none⟩ v).heap[b]? = some (.cells #[c0, c1, c2, c3, c4, c5, c6, c7, c8, c9, c10, c11, c12, v, c14] t (0, 0)) := by
 rw [heap_setCell_same _ b 13 _ _ _ h]; rfl
theorem set15_14 {w : World} {b : Nat} {c0 c1 c2 c3 c4 c5 c6 c7 c8 c9 c10 c11 c12 c13 c14 : Value} {t : TypeId} (h : w.heap[b]? = some (.cells #[c0, c1, c2, c3, c4, c5, c6, c7, c8, c9, c10, c11, c12, c13, c14] t (0, 0))) (v : Value) : (w.setCell ⟨b, 14, none⟩ v).heap[b]? = some (.cells #[c0, c1, c2, c3, c4, c5, c6, c7, c8, c9, c10, c11, c12, c13, v] t (0, 0)) := by
 rw [heap_setCell_same _ b 14 _ _ _ h]; rfl
theorem set5_0 {w : World} {b : Nat} {c0 c1 c2 c3 c4 : Value} {t : TypeId} (h : w.heap[b]? = some (.cells #[c0, c1, c2, c3, c4] t (0, 0))) (v : Value) : (w.setCell ⟨b, 0, none⟩ v).heap[b]? = some (.cells #[v, c1, c2, c3, c4] t (0, 0)) := by
 rw [heap_setCell_same _ b 0 _ _ _ h]; rfl
theorem set5_1 {w : World} {b : Nat} {c0 c1 c2 c3 c4 : Value} {t : TypeId} (h : w.heap[b]? = some (.cells #[c0, c1, c2, c3, c4] t (0, 0))) (v : Value) : (w.setCell ⟨b, 1, none⟩ v).heap[b]? = some (.cells #[c0, v, c2, c3, c4] t (0, 0)) := by
 rw [heap_setCell_same _ b 1 _ _ _ h]; rfl
theorem set5_2 {w : World} {b : Nat} {c0 c1 c2 c3 c4 : Value} {t : TypeId} (h : w.heap[b]? = some (.cells #[c0, c1, c2, c3, c4] t (0, 0))) (v : Value) : (w.setCell ⟨b, 2, none⟩ v).heap[b]? = some (.cells #[c0, c1, v, c3, c4] t (0, 0)) := by
 rw [heap_setCell_same _ b 2 _ _ _ h]; rfl
theorem set5_3 {w : World} {b : Nat} {c0 c1 c2 c3 c4 : Value} {t : TypeId} (h : w.heap[b]? = some (.cells #[c0, c1, c2, c3, c4] t (0, 0))) (v : Value) : (w.setCell ⟨b, 3, none⟩ v).heap[b]? = some (.cells #[c0, c1, c2, v, c4] t (0, 0)) := by
 rw [heap_setCell_same _ b 3 _ _ _ h]; rfl
theorem set5_4 {w : World} {b : Nat} {c0 c1 c2 c3 c4 : Value} {t : TypeId} (h : w.heap[b]? = some (.cells #[c0, c1, c2, c3, c4] t (0, 0))) (v : Value) : (w.setCell ⟨b, 4, none⟩ v).heap[b]? = some (.cells #[c0, c1, c2, c3, v] t (0, 0)) := by
 rw [heap_setCell_same _ b 4 _ _ _ h]; rfl
theorem set15 {w : World} {b : Nat} {c0 c1 c2 c3 c4 c5 c6 c7 c8 c9 c10 c11 c12 c13 c14 : Value} {t : TypeId} (h : w.heap[b]? = some (.cells #[c0, c1, c2, c3, c4, c5, c6, c7, c8, c9, c10, c11, c12, c13, c14] t (0, 0))) (v0 v1 v2 v3 v4 v5 v6 v7 v8 v9 v10 v11 v12 v13 v14 : Value) : (((((((((((((((w.setCell ⟨b, 0, none⟩ v0).setCell ⟨b, 1, none⟩ v1).setCell ⟨b, 2, none⟩ v2).setCell ⟨b, 3, none⟩ v3).setCell ⟨b, 4, none⟩ v4).setCell ⟨b, 5, none⟩ v5).setCell ⟨b, 6, none⟩ v6).setCell ⟨b, 7, none⟩ v7).setCell ⟨b, 8, none⟩ v8).setCell ⟨b, 9, none⟩ v9).setCell ⟨b, 10, none⟩ v10).setCell ⟨b, 11, none⟩ v11).setCell ⟨b, 12, none⟩ v12).setCell ⟨b, 13, none⟩ v13).setCell ⟨b, 14, none⟩ v14).heap[b]? = some (.cells #[v0, v1, v2, v3, v4, v5, v6, v7, v8, v9, v10, v11, v12, v13, v14] t (0, 0)) :=
 (set15_14 (set15_13 (set15_12 (set15_11 (set15_10 (set15_9 (set15_8 (set15_7 (set15_6 (set15_5 (set15_4 (set15_3 (set15_2 (set15_1 (set15_0 h v0) v1) v2) v3) v4) v5) v6) v7) v8) v9) v10) v11) v12) v13) v14)
theorem set15_o {w : World} {b k : Nat} (h : k ≠ b) (v0 v1 v2 v3 v4 v5 v6 v7 v8 v9 v10 v11 v12 v13 v14 : Value) : (((((((((((((((w.setCell ⟨b, 0, none⟩ v0).setCell ⟨b, 1, none⟩ v1).setCell ⟨b, 2, none⟩ v2).setCell ⟨b, 3, none⟩ v3).setCell ⟨b, 4, none⟩ v4).setCell ⟨b, 5, none⟩ v5).setCell ⟨b, 6, none⟩ v6).setCell ⟨b, 7, none⟩ v7).setCell ⟨b, 8, none⟩ v8).setCell ⟨b, 9, none⟩ v9).setCell ⟨b, 10, none⟩ v10).setCell ⟨b, 11, none⟩ v11).setCell ⟨b, 12, none⟩ v12).setCell ⟨b, 13, none⟩ v13).setCell ⟨b, 14, none⟩ v14).heap[k]? = w.heap[k]? := by
 rw [heap_setCell_other _ _ _ _ h, heap_setCell_other _ _ _ _ h, heap_setCell_other _ _ _ _ h, heap_setCell_other _ _ _ _ h, heap_setCell_other _ _ _ _ h, heap_setCell_other _ _ _ _ h, heap_setCell_other _ _ _ _ h, heap_setCell_other _ _ _ _ h, heap_setCell_other _ _ _ _ h, heap_setCell_other _ _ _ _ h, heap_setCell_other _ _ _ _ h, heap_setCell_other _ _ _ _ h, heap_setCell_other _ _ _ _ h, heap_setCell_other _ _ _ _ h, heap_setCell_other _ _ _ _ h]
theorem set15_b {w0 w : World} {b n : Nat} (h : Below n w0 w) (hb : n ≤ b) (v0 v1 v2 v3 v4 v5 v6 v7 v8 v9 v10 v11 v12 v13 v14 : Value) : Below n w0 (((((((((((((((w.setCell ⟨b, 0, none⟩ v0).setCell ⟨b, 1, none⟩ v1).setCell ⟨b, 2, none⟩ v2).setCell ⟨b, 3, none⟩ v3).setCell ⟨b, 4, none⟩ v4).setCell ⟨b, 5, none⟩ v5).setCell ⟨b, 6, none⟩ v6).setCell ⟨b, 7, none⟩ v7).setCell ⟨b, 8, none⟩ v8).setCell ⟨b, 9, none⟩ v9).setCell ⟨b, 10, none⟩ v10).setCell ⟨b, 11, none⟩ v11).setCell ⟨b, 12, none⟩ v12).setCell ⟨b, 13, none⟩ v13).setCell ⟨b, 14, none⟩ v14) := (((((((((((((((h.setCell (p := ⟨b, 0, none⟩) hb _).setCell (p := ⟨b, 1, none⟩) hb _).setCell (p := ⟨b, 2, none⟩) hb _).setCell (p := ⟨b, 3, none⟩) hb _).setCell (p := ⟨b, 4, none⟩) hb _).setCell (p := ⟨b, 5, none⟩) hb _).setCell (p := ⟨b, 6, none⟩) hb _).setCell (p := ⟨b, 7, none⟩) hb _).setCell (p := ⟨b, 8, none⟩) hb _).setCell (p := ⟨b, 9, none⟩) hb _).setCell (p := ⟨b, 10, none⟩) hb _).setCell (p := ⟨b, 11, none⟩) hb _).setCell (p := ⟨b, 12, none⟩) hb _).setCell (p := ⟨b, 13, none⟩) hb _).setCell (p := ⟨b, 14, none⟩) hb _)
theorem set5 {w : World} {b : Nat} {c0 c1 c2 c3 c4 : Value} {t : TypeId} (h : w.heap[b]? = some (.cells #[c0, c1, c2, c3, c4] t (0, 0))) (v0 v1 v2 v3 v4 : Value) : (((((w.setCell ⟨b, 0, none⟩ v0).setCell ⟨b, 1, none⟩ v1).setCell ⟨b, 2, none⟩ v2).setCell ⟨b, 3, none⟩ v3).setCell ⟨b, 4, none⟩ v4).heap[b]? = some (.cells #[v0, v1, v2, v3, v4] t (0, 0)) :=
 (set5_4 (set5_3 (set5_2 (set5_1 (set5_0 h v0) v1) v2) v3) v4)
theorem set5_o {w : World} {b k : Nat} (h : k ≠ b) (v0 v1 v2 v3 v4 : Value) : (((((w.setCell ⟨b, 0, none⟩ v0).setCell ⟨b, 1, none⟩ v1).setCell ⟨b, 2, none⟩ v2).setCell ⟨b, 3, none⟩ v3).setCell ⟨b, 4, none⟩ v4).heap[k]? = w.heap[k]? := by
 rw [heap_setCell_other _ _ _ _ h, heap_setCell_other _ _ _ _ h, heap_setCell_other _ _ _ _ h, heap_setCell_other _ _ _ _ h, heap_setCell_other _ _ _ _ h]
theorem set5_b {w0 w : World} {b n : Nat} (h : Below n w0 w) (hb : n ≤ b) (v0 v1 v2 v3 v4 : Value) : Below n w0 (((((w.setCell ⟨b, 0, none⟩ v0).setCell ⟨b, 1, none⟩ v1).setCell ⟨b, 2, none⟩ v2).setCell ⟨b, 3, none⟩ v3).setCell ⟨b, 4, none⟩ v4) := (((((h.setCell (p := ⟨b, 0, none⟩) hb _).setCell (p := ⟨b, 1, none⟩) hb _).setCell (p := ⟨b, 2, none⟩) hb _).setCell (p := ⟨b, 3, none⟩) hb _).setCell (p := ⟨b, 4, none⟩) hb _)
end Go.Proofs.YtncjncacfagldaaGreatDoor

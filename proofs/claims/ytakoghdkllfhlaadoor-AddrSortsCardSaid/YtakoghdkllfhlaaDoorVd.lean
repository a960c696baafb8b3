/- Objects as the keys of a map. -/
import Derived.Test.YtakoghdkllfhlaaDoorVc
import Derived.Test.YtakoghdkllfhlaaDoorO
namespace Go.Proofs.YtakoghdkllfhlaaDoor
open Go.ChangeShapes Go.WideShapes Go.MapKept Go.RowKit
open Go.Maps (Keyed)

theorem row26 : (26 : TypeId) < Tryd.prog.types.size := of_decide_eq_true (by kernel_rfl)
theorem wide26 : (match Tryd.prog.underlying 26 with | some (.array _ _) | some (.struct _) => true | _ => false) = true := by rw [Tryd.underlying26]
set_option maxRecDepth 100000 in
theorem law26 : Keyed Tryd.prog 26 := Keyed.of_law (deep_law_laid laidOut (m := 3) (by omega) row26 (by kernel_rfl) wide26)
theorem kt26 : Tryd.prog.keyType 26 = true := by kernel_rfl
/-- an object's cells -/
abbrev ke (k : Obt) : List Value := [.string k.a.t, .string k.a.n, .int .i64 k.a.kd, .int .i64 k.a.i, .string k.a.k, .int .u32 k.N]
set_option maxRecDepth 100000 in
theorem lits_str (d : Nat) (s : ByteArray) (h : s.size ≤ maxLen) : Tryd.prog.keyLits (d + 1) 9 [.string s] = some [.string s.data.toList] := by
  simp [Program.keyLits, Tryd.underlying9, h]
set_option maxRecDepth 100000 in
theorem lits_str_inv {d : Nat} {c : Value} {l : List Lit} (h : Tryd.prog.keyLits (d + 1) 9 [c] = some l) : ∃ s : ByteArray, c = .string s ∧ s.size ≤ maxLen := by
  unfold Program.keyLits at h
  rw [Tryd.underlying9] at h
  cases c <;> simp at h
  exact ⟨_, rfl, h.1⟩
set_option maxRecDepth 100000 in
theorem lits_int (d : Nat) (t : TypeId) (q : IntKind) (ht : Tryd.prog.underlying t = some (.int q)) (i : Int) (h : (Lit.int q i).wf = true) : Tryd.prog.keyLits (d + 1) t [.int q i] = some [.int q i] := by
  simp [Program.keyLits, ht, h]
set_option maxRecDepth 100000 in
theorem lits_int_inv {d : Nat} {t : TypeId} {q : IntKind} (ht : Tryd.prog.underlying t = some (.int q)) {c : Value} {l : List Lit} (h : Tryd.prog.keyLits (d + 1) t [c] = some l) : ∃ i : Int, c = .int q i ∧ (Lit.int q i).wf = true := by
  unfold Program.keyLits at h
  rw [ht] at h
  cases c <;> simp at h
  obtain ⟨⟨rfl, hw⟩, _⟩ := h
  exact ⟨_, rfl, hw⟩
set_option maxRecDepth 100000 in
theorem lits_23 (d : Nat) (k : Adr) (h1 : k.t.size ≤ maxLen) (h2 : k.n.size ≤ maxLen) (h3 : (Lit.int .i64 k.kd).wf = true) (h4 : (Lit.int .i64 k.i).wf = true) (h5 : k.k.size ≤ maxLen) :
    ∃ l, Tryd.prog.keyLits (d + 2) 23 [.string k.t, .string k.n, .int .i64 k.kd, .int .i64 k.i, .string k.k] = some l := by
  unfold Program.keyLits
  rw [Tryd.underlying23]
  simp [co23, co9, co3, co2, lits_str d _ h1, lits_str d _ h2, lits_str d _ h5, lits_int d 3 .i64 Tryd.underlying3 _ h3, lits_int d 2 .i64 Tryd.underlying2 _ h4, List.mapM_cons]
set_option maxRecDepth 100000 in
theorem lits_26 (d : Nat) (k : Obt) (h : OkObt k) : ∃ l, Tryd.prog.keyLits (d + 3) 26 (ke k) = some l := by
  obtain ⟨l, e⟩ := lits_23 d k.a h.t h.n h.kd h.i h.k
  have e2 := lits_int (d + 1) 24 .u32 Tryd.underlying24 _ h.N
  unfold Program.keyLits
  rw [Tryd.underlying26]
  simp [co26, co23, co24, e, e2, List.mapM_cons]
theorem key_some (k : Obt) (h : OkObt k) : ∃ l, keyOf Tryd.prog 26 (kv k) = some l := by
  obtain ⟨l, hl⟩ := lits_26 177 k h
  unfold keyOf
  rw [Tryd.underlying26]
  simp [kt26, Value.formed, Tryd.underlying26, co26, Value.cells]
  exact ⟨_, l, hl, rfl⟩
theorem same_self {l : Lit} (h : WideAt.IsKeyLit l) : l.sameKey l = true := by
  cases l <;> simp [Lit.sameKey, WideAt.IsKeyLit] at *
/-- the map's keys and its datum -/
theorem Has.owns {H : Type} {P : Program} {k e : TypeId} {z : Value} {w : World} {b n : Nat} {f : Value → Value} {G : Value → Prop} (h : Has G n z w b f) (hn : n ≤ maxLen) (hG : ∀ v, G v → ∃ l, keyOf P k v = some l) (K : Keyed P k) (he : P.underlying e = some (.int .i64))
    (hv : ∀ v, G v → ∃ c, f v = .int .i64 c ∧ (Lit.int .i64 c).wf = true) :
    ∃ D0 : DataW H, w.ownsMap P k (plainElem P e) b n D0 ∧ (∀ v kl, keyOf P k v = some kl → Go.Maps.has D0 kl = true → G v) ∧ (∀ v kl, keyOf P k v = some kl → f v ≠ z → Go.Maps.has D0 kl = true) ∧ Go.Maps.size D0 ≤ n := by
  obtain ⟨es, clock, hb, hst, hks, hvs, hns, hsz⟩ := h
  have hrd : ∀ x ∈ es.toList, ∃ y, Go.WideElems.rd (H := H) P k (plainElem P e) x = some y := fun x hx => by
    obtain ⟨kl, hk⟩ := hG _ (hks x hx)
    obtain ⟨c, hc, hw⟩ := hv _ (hks x hx)
    have : plainElem (H := H) P e x.val = some (.lit (.int .i64 c), []) := by rw [hvs x hx, hc]; exact plainElem_int he hw
    exact ⟨_, by unfold Go.WideElems.rd; rw [hk, this]; rfl⟩
  refine ⟨_, ⟨es, clock, hb, ⟨Nat.le_trans hsz hn, hst, hrd⟩, hsz, rfl⟩, fun v kl hk hh => ?_, fun v kl hk hf => ?_, ?_⟩
  · rw [Go.Maps.has_eq, List.any_eq_true] at hh
    obtain ⟨p, hp, hs⟩ := hh
    obtain ⟨x, hx, rfl⟩ := List.mem_map.1 (Go.mem_sorted.1 hp)
    obtain ⟨y, hy⟩ := hrd x hx
    rw [Go.WideElems.rg_of hy] at hs
    have hky := Go.WideElems.rd_key hy
    have e1 : y.1 = kl := by
      refine Classical.byContradiction fun hne => ?_
      rw [Go.Maps.sameKey_ne hne] at hs; cases hs
    rw [e1] at hky
    rw [← K.inj hky hk]
    exact hks x hx
  · refine Classical.byContradiction fun hh => hf (hns v fun x hx hxv => hh ?_)
    rw [Go.Maps.has_eq, List.any_eq_true]
    obtain ⟨y, hy⟩ := hrd x hx
    refine ⟨_, Go.mem_sorted.2 (List.mem_map.2 ⟨x, hx, rfl⟩), ?_⟩
    rw [Go.WideElems.rg_of hy]
    have hky := Go.WideElems.rd_key hy
    rw [hxv, hk] at hky
    obtain rfl := Option.some.inj hky
    exact same_self (K.key hk)
  · rw [Go.Maps.size_eq, Go.length_sorted, List.length_map, Array.length_toList]; exact hsz

/-- no object twice; an object is on the list just where the map has it and it is no longer to come -/
def Coll {H : Type} (D0 : DataW H) (left : Lit → Bool) (ss : List Obt) : Prop := ss.Nodup ∧ ∀ x, x ∈ ss ↔ ∃ kl, keyOf Tryd.prog 26 (kv x) = some kl ∧ Go.Maps.has D0 kl = true ∧ left kl = false
theorem kv_inj {x y : Obt} (h : kv x = kv y) : x = y := by
  obtain ⟨⟨a1, a2, a3, a4, a5⟩, n⟩ := x
  obtain ⟨⟨b1, b2, b3, b4, b5⟩, m⟩ := y
  simp at h
  obtain ⟨rfl, rfl, rfl, rfl, rfl, rfl⟩ := h
  rfl
section
variable {H : Type} {D0 : DataW H} {left : Lit → Bool} {ss : List Obt}
theorem Coll.start (D0 : DataW H) : Coll D0 (Go.Maps.has D0) [] := ⟨List.nodup_nil, fun x => by
  constructor
  · intro h; cases h
  · rintro ⟨kl, _, h1, h2⟩; rw [h1] at h2; cases h2⟩
theorem Coll.step (h : Coll D0 left ss) {x : Obt} {kl : Lit} {y : DataW H} (hk : keyOf Tryd.prog 26 (kv x) = some kl) (hlk : left kl = true) (hat : ∀ zd, D0.atKey kl zd = y) : Coll D0 (fun z => left z && !z.sameKey kl) (ss ++ [x]) := by
  have hhas : Go.Maps.has D0 kl = true := Go.Maps.has_true_of_atKey hat
  have hnew : x ∉ ss := fun hx => by
    obtain ⟨kl', e, _, h2⟩ := (h.2 x).1 hx
    rw [hk] at e; cases e; rw [hlk] at h2; cases h2
  have hself : kl.sameKey kl = true := same_self (law26.key hk)
  refine ⟨List.nodup_append.2 ⟨h.1, by simp, fun a ha b hb => by simp at hb; subst hb; exact fun e => hnew (e ▸ ha)⟩, fun y => ?_⟩
  rw [List.mem_append, List.mem_singleton]
  constructor
  · rintro (hy | rfl)
    · obtain ⟨kl', e, h1, h2⟩ := (h.2 y).1 hy
      exact ⟨kl', e, h1, by show (left kl' && !kl'.sameKey kl) = false; rw [h2]; rfl⟩
    · exact ⟨kl, hk, hhas, by show (left kl && !kl.sameKey kl) = false; rw [hself]; simp⟩
  · rintro ⟨kl', e, h1, h2⟩
    by_cases hxy : y = x
    · exact .inr hxy
    · have hne : kl' ≠ kl := fun e' => hxy (kv_inj (law26.inj e (e' ▸ hk)))
      have h2' : (left kl' && !kl'.sameKey kl) = false := h2
      rw [Go.Maps.sameKey_ne hne] at h2'
      exact .inl ((h.2 y).2 ⟨kl', e, h1, by simpa using h2'⟩)
theorem Coll.all (h : Coll D0 left ss) (hl : ∀ kl, left kl = false) : ∀ x, x ∈ ss ↔ ∃ kl, keyOf Tryd.prog 26 (kv x) = some kl ∧ Go.Maps.has D0 kl = true := fun x => by
  rw [h.2 x]
  constructor
  · rintro ⟨kl, e, h1, _⟩; exact ⟨kl, e, h1⟩
  · rintro ⟨kl, e, h1⟩; exact ⟨kl, e, h1, hl kl⟩
end
end Go.Proofs.YtakoghdkllfhlaaDoor

/- AddrSorts: the mathematics: objects in their order, each once. -/
import Derived.Test.YtakoghdkllfhlaaDoorE
import Derived.Sort.Statements
namespace Go.Proofs.YtakoghdkllfhlaaDoor
open Go.RowKit

/-- the objects of l, each once, in their order -/
def Srt (acc l : List Obt) : Prop := acc.Pairwise (fun a b => ordK a b < 0) ∧ ∀ x, x ∈ acc ↔ x ∈ l
theorem ordK_irr (a : Obt) : ¬ ordK a a < 0 := by rw [(cK.zero (a := a) (b := a)).2 rfl]; omega
theorem ordK_asym {a b : Obt} (h : ordK a b < 0) : ¬ ordK b a < 0 := by rw [cK.neg (a := a) (b := b)]; omega
theorem ordK_tri {a b : Obt} (h : ¬ ordK a b < 0) (hne : a ≠ b) : ordK b a < 0 := by
  have h0 : ordK a b ≠ 0 := fun e => hne (cK.zero.1 e)
  rw [cK.neg (a := a) (b := b)]; omega
theorem Srt.nil : Srt [] [] := ⟨List.Pairwise.nil, fun _ => Iff.rfl⟩
theorem srt_uniq {a b l : List Obt} (ha : Srt a l) (hb : Srt b l) : a = b := by
  have nd : ∀ {c : List Obt}, c.Pairwise (fun a b => ordK a b < 0) → c.Nodup := fun h => h.imp fun {x y} hxy e => by subst e; exact ordK_irr _ hxy
  refine List.Perm.eq_of_pairwise (le := fun a b => ordK a b < 0) (fun x y _ _ h1 h2 => absurd h2 (ordK_asym h1)) ha.1 hb.1 ?_
  exact (List.perm_ext_iff_of_nodup (nd ha.1) (nd hb.1)).2 fun x => by rw [ha.2, hb.2]
theorem Srt.skip {acc l : List Obt} (h : Srt acc l) {x : Obt} (hx : x ∈ acc) : Srt acc (l ++ [x]) :=
  ⟨h.1, fun y => by
    rw [List.mem_append, List.mem_singleton, h.2 y]
    constructor
    · exact Or.inl
    · rintro (hy | rfl)
      · exact hy
      · exact (h.2 _).1 hx⟩
theorem Srt.put {acc l : List Obt} (h : Srt acc l) {x : Obt} (hx : x ∉ acc) (k : Nat) (hk : k ≤ acc.length) (h1 : ∀ j, j < k → ∀ y, acc[j]? = some y → ordK y x < 0) (h2 : ∀ y, acc[k]? = some y → ¬ ordK y x < 0) :
    Srt (acc.take k ++ x :: acc.drop k) (l ++ [x]) := by
  have hs : (acc.take k ++ acc.drop k).Pairwise (fun a b => ordK a b < 0) := by rw [List.take_append_drop]; exact h.1
  obtain ⟨p1, p2, p3⟩ := List.pairwise_append.1 hs
  have q1 : ∀ y ∈ acc.take k, ordK y x < 0 := fun y hy => by
    obtain ⟨j, hj, e⟩ := List.getElem_of_mem hy
    have hj' : j < k := by simp at hj; omega
    refine h1 j hj' y ?_
    rw [← e, List.getElem_take]
    exact List.getElem?_eq_getElem (by simp at hj; omega)
  have q2 : ∀ y ∈ acc.drop k, ordK x y < 0 := by
    cases e : acc.drop k with
    | nil => simp
    | cons y r =>
      have hy : acc[k]? = some y := by
        have := congrArg (fun l => l[0]?) e
        simpa using this
      have hyx : ordK x y < 0 := by
        refine ordK_tri (h2 y hy) fun e' => hx ?_
        subst e'
        exact List.mem_of_getElem? hy
      intro z hz
      rw [e] at p2
      rcases List.mem_cons.1 hz with rfl | hz
      · exact hyx
      · exact cK.trans hyx ((List.pairwise_cons.1 p2).1 z hz)
  refine ⟨List.pairwise_append.2 ⟨p1, List.pairwise_cons.2 ⟨q2, p2⟩, fun a ha b hb => ?_⟩, fun y => ?_⟩
  · rcases List.mem_cons.1 hb with rfl | hb
    · exact q1 a ha
    · exact p3 a ha b hb
  · have e : y ∈ acc ↔ y ∈ acc.take k ∨ y ∈ acc.drop k := by rw [← List.mem_append, List.take_append_drop]
    rw [List.mem_append, List.mem_cons, List.mem_append, List.mem_singleton, ← h.2 y, e]
    constructor
    · rintro (a | a | a)
      · exact .inl (.inl a)
      · exact .inr a
      · exact .inl (.inr a)
    · rintro ((a | a) | a)
      · exact .inl a
      · exact .inr (.inr a)
      · exact .inr (.inl a)
/-- what a sort leaves -/
theorem srt_of_sort {α : Type} [Inhabited α] (f : α → Obt) (lt : α → α → Bool) (hlt : ∀ x y, lt x y = decide (ordK (f x) (f y) < 0)) {d d' : Array α} {l : List Obt} (hp : Go.Sort.PermIn 0 d.size d d') (hs : Go.Sort.SortedIn lt 0 d.size d') (hn : (d.toList.map f).Nodup) (hm : ∀ x, x ∈ d.toList.map f ↔ x ∈ l) :
    Srt (d'.toList.map f) l := by
  obtain ⟨hsz, -, hpe⟩ := hp
  have e1 : d'.extract 0 d.size = d' := by rw [← hsz]; simp
  have e2 : d.extract 0 d.size = d := by simp
  rw [e1, e2] at hpe
  have hpm := hpe.map f
  have hn' : (d'.toList.map f).Nodup := hpm.nodup_iff.2 hn
  refine ⟨?_, fun x => by rw [hpm.mem_iff, hm]⟩
  rw [List.pairwise_iff_getElem]
  intro i j hi hj hij
  simp only [List.length_map, Array.length_toList] at hi hj
  have h := hs i j (Nat.zero_le _) hij (by omega)
  rw [hlt, decide_eq_false_iff_not] at h
  rw [getElem!_pos d' i hi, getElem!_pos d' j hj] at h
  simp only [List.getElem_map, Array.getElem_toList]
  refine ordK_tri h fun e => ?_
  have := (List.pairwise_iff_getElem.1 hn') i j (by simpa using hi) (by simpa using hj) hij
  simp only [List.getElem_map, Array.getElem_toList] at this
  exact this e.symm
end Go.Proofs.YtakoghdkllfhlaaDoor

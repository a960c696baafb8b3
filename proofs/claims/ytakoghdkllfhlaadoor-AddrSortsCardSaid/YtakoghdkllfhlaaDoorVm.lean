/- Objects that came in, opened. -/
import Derived.Test.YtakoghdkllfhlaaDoorO
import Derived.Test.YtakoghdkllfhlaaDoorVh
namespace Go.Proofs.YtakoghdkllfhlaaDoor
open Go.ChangeShapes Go.WideShapes Go.ChangeAt Go.RowKit Go.Joins Go.Deep

theorem choose_below {α : Type} [Inhabited α] {n : Nat} {p : Nat → α → Prop} (h : ∀ i, i < n → ∃ x, p i x) : ∃ f : Nat → α, ∀ i, i < n → p i (f i) := by
  have : ∀ i, ∃ x, i < n → p i x := fun i => by
    by_cases hi : i < n
    · obtain ⟨x, hx⟩ := h i hi; exact ⟨x, fun _ => hx⟩
    · exact ⟨default, fun h => absurd h hi⟩
  obtain ⟨f, hf⟩ := Classical.axiomOfChoice this
  exact ⟨f, hf⟩
section
variable {H : Type} {enc : TypeId × Value → H} {w : World} {base : Nat} {spare : Nat → Bool} {held : Bool}
set_option maxRecDepth 100000 in
theorem keys_trod {fuel : Nat} {v : Value} {x : DataW H × List MemPlace} (h : DataW.trod enc Tryd.prog w base spare held fuel 38 [v] = some x) : ∃ (o : Option Addr) (l : List Obt) (cap : Nat), v = .slice o l.length cap ∧ Ks w o cap l ∧ ∀ k, k ∈ l → OkObt k := by
  rcases DataW.trod_slice Tryd.underlying38 h with ⟨hcs, _⟩ | ⟨a, len, cap, elems, rest, n, _, hcs, _, _, hl, hm, hlen, hel, _, _⟩
  · injection hcs with e _
    subst e
    exact ⟨none, [], 0, rfl, Ks.nil w, fun k h => by cases h⟩
  · injection hcs with e _
    subst e
    have each : ∀ i, i < len → ∃ k : Obt, (∀ m v, (ke k)[m]? = some v → w.cell? ((a.add (i * 6)).add m) = some v) ∧ OkObt k := fun i hi => by
      have h1 := hel i hi
      rw [co26, List.getElem?_eq_getElem (by omega)] at h1
      obtain ⟨cs', h2, h3⟩ := Option.bind_eq_some_iff.1 h1
      obtain ⟨_, h4, h5⟩ := World.cells?_some h2
      obtain ⟨k, hk, ok⟩ := key_trod h3
      subst hk
      refine ⟨k, fun m v hv => ?_, ok⟩
      have hm5 : m < 6 := (List.getElem?_eq_some_iff.1 hv).1
      rw [h5 m hm5]; exact hv
    obtain ⟨f, hf⟩ := choose_below each
    have hlr : ((List.range len).map f).length = len := by simp
    refine ⟨some a, (List.range len).map f, cap, by rw [hlr], ⟨by rw [hlr]; exact hl, hm, (fun h => by cases h), fun h0 => ?_⟩, fun k hk => ?_⟩
    · rw [hlr] at h0
      have hsp : a.spot = none := by
        have c0 := (hf 0 (by omega)).1 0 _ rfl
        have : (a.add (0 * 6)).add 0 = a := by unfold Addr.add; simp
        rw [this] at c0
        exact World.cell?_spot c0
      obtain ⟨b, o, spot⟩ := a
      simp only at hsp
      subst hsp
      have ea : ∀ i, (⟨b, o, none⟩ : Addr).add i = ⟨b, o + i, none⟩ := fun i => by unfold Addr.add; split <;> simp_all
      have ea2 : ∀ j m, ((⟨b, o, none⟩ : Addr).add j).add m = ⟨b, o + j + m, none⟩ := fun j m => by rw [ea]; unfold Addr.add; split <;> simp_all
      have hb : b < w.heap.size := by
        have c0 := (hf 0 (by omega)).1 0 _ rfl
        rw [ea2] at c0
        exact World.block_lt_of_cell? _ _ c0
      refine ⟨b, o, rfl, hb, fun i x hx => ?_⟩
      have hi : i < len := by have := (List.getElem?_eq_some_iff.1 hx).1; rwa [hlr] at this
      rw [List.getElem?_map, List.getElem?_range hi] at hx
      simp only [Option.map_some, Option.some.injEq] at hx
      subst hx
      have g := fun m v hv => ((hf i hi).1 m v hv)
      have c0 := g 0 _ rfl
      have c1 := g 1 _ rfl
      have c2 := g 2 _ rfl
      have c3 := g 3 _ rfl
      have c4 := g 4 _ rfl
      have c5 := g 5 _ rfl
      rw [ea2] at c0 c1 c2 c3 c4 c5
      exact ⟨c0, c1, c2, c3, c4, c5⟩
    · obtain ⟨i, hi, rfl⟩ := List.mem_map.1 hk
      exact (hf i (List.mem_range.1 hi)).2
set_option maxRecDepth 100000 in
theorem open_keys {r : Reach} {b0 : Nat} {v : Value} {d : DataW H} {p : List MemPlace} (hv : Value.okWide Tryd.prog w r b0 38 v) (h : DataW.Trod enc Tryd.prog w base spare held 38 v d p) :
    ∃ sp l cap, v = .slice sp (List.length l) cap ∧ Ks w sp cap l ∧ ∀ k, k ∈ l → OkObt k := by
  obtain ⟨sp, len, cap, rfl⟩ := okWide_slice Tryd.underlying38 hv
  obtain ⟨fuel, hf⟩ := h
  exact keys_trod hf
end
end Go.Proofs.YtakoghdkllfhlaaDoor

/- Contracts as ValueMakes meets them; a slice of values that came in. -/
import Derived.Test.YtfgkkccgecnchaaNc
import Derived.Test.YtfgkkccgecnchaaPo
namespace Go.Proofs.Ytfgkkccgecnchaa
open Go.ChangeShapes Go.WideShapes Go.ChangeAt Go.RowKit Go.Joins Go.Deep

/-- the map that the law made -/
abbrev mpv (xs : List Val) (rs : List ByteArray) (y : Bool) : Val := .mk 5 0 ⟨#[]⟩ xs rs 0 0 y
theorem get_map {n : Nat} {w : World} {xs : List Val} {rs : List ByteArray} {y : Bool} {v : Value} (key : ByteArray) (hs : szL xs ≤ 24000) (hr : rs.length ≤ 40) (hl : rs.length = xs.length) (h : Lies n w (mpv xs rs y) v) (hn : n ≤ w.heap.size) :
    Calls Try.prog 33 #[v, .string key] w fun e w' => (At rs rs.length key (-1) ∧ e = .returned (.tuple #[zv, .int .i64 11]) ∧ Below w.heap.size w w') ∨ ∃ (j : Nat) (X Y : Val), At rs rs.length key j ∧ xs[j]? = some X ∧ Y = X.sx (X.x || y) ∧ OkPost Y w e w' := by
  refine (get_any (V := mpv xs rs y) key (by rw [sz_eq]; show 1 + rs.length + szL xs ≤ 60000; omega) (fun _ => hl) h hn).mono fun e w' h => ?_
  rcases h with ⟨h, _⟩ | ⟨_, h⟩ | ⟨j, X, _, h1, h2, h3⟩
  · exact absurd rfl h
  · exact .inl h
  · exact .inr ⟨j, X, _, h1, h2, rfl, h3⟩
theorem get_list {n : Nat} {w : World} {l : List Val} {y : Bool} {v : Value} (key : ByteArray) (hs : szL l ≤ 24000) (h : Lies n w ((lst l).sx y) v) (hn : n ≤ w.heap.size) :
    Calls Try.prog 33 #[v, .string key] w fun e w' => e = .returned (.tuple #[zv, .int .i64 8]) ∧ Below w.heap.size w w' := by
  refine (get_any key (by rw [sz_eq]; show 1 + 0 + szL l ≤ 60000; omega) (fun h => absurd h (by show (4 : Int) ≠ 5; omega)) h hn).mono fun e w' h => ?_
  rcases h with ⟨_, h⟩ | ⟨h, _⟩ | ⟨j, X, h, _⟩
  · exact h
  · exact absurd h (by show (4 : Int) ≠ 5; omega)
  · exact absurd h (by show (4 : Int) ≠ 5; omega)
theorem at_map {n : Nat} {w : World} {xs : List Val} {rs : List ByteArray} {y : Bool} {v : Value} (i : Int) (hs : szL xs ≤ 24000) (hr : rs.length ≤ 40) (h : Lies n w (mpv xs rs y) v) (hn : n ≤ w.heap.size) :
    Calls Try.prog 35 #[v, .int .i64 i] w fun e w' => e = .returned (.tuple #[zv, .int .i64 8]) ∧ Below w.heap.size w w' := by
  refine (at_any i (by rw [sz_eq]; show 1 + rs.length + szL xs ≤ 60000; omega) h hn).mono fun e w' h => ?_
  rcases h with ⟨_, h⟩ | ⟨h, _⟩ | ⟨j, X, h, _⟩
  · exact h
  · exact absurd h (by show (5 : Int) ≠ 4; omega)
  · exact absurd h (by show (5 : Int) ≠ 4; omega)
theorem at_list {n : Nat} {w : World} {l : List Val} {y : Bool} {v : Value} (i : Int) (hs : szL l ≤ 24000) (h : Lies n w ((lst l).sx y) v) (hn : n ≤ w.heap.size) :
    Calls Try.prog 35 #[v, .int .i64 i] w fun e w' => ((i < 0 ∨ (l.length : Int) ≤ i) ∧ e = .returned (.tuple #[zv, .int .i64 11]) ∧ Below w.heap.size w w') ∨ ∃ (j : Nat) (X Y : Val), i = j ∧ l[j]? = some X ∧ Y = X.sx (X.x || y) ∧ OkPost Y w e w' := by
  refine (at_any i (by rw [sz_eq]; show 1 + 0 + szL l ≤ 60000; omega) h hn).mono fun e w' h => ?_
  rcases h with ⟨h, _⟩ | ⟨_, h⟩ | ⟨j, X, _, h1, h2, h3⟩
  · exact absurd rfl h
  · exact .inl h
  · exact .inr ⟨j, X, _, h1, h2, rfl, h3⟩
section
variable {H : Type} {enc : TypeId × Value → H} {w : World} {base : Nat} {spare : Nat → Bool} {held : Bool}
/-- the values of a slice -/
theorem vals_trod {fuel : Nat} {v : Value} {x : DataW H × List MemPlace} (h : DataW.trod enc Try.prog w base spare held fuel 22 [v] = some x) :
    ∃ (o : Option Addr) (cap : Nat) (l : List Val) (c : Nat → Nat → Value), v = .slice o l.length cap ∧ Row w.heap.size w o cap l.length 8 c ∧ ∀ j x, l[j]? = some x → Lies w.heap.size w x (.agg #[c j 0, c j 1, c j 2, c j 3, c j 4, c j 5, c j 6, c j 7]) := by
  rcases DataW.trod_slice Try.underlying22 h with ⟨hcs, _⟩ | ⟨a, len, cap, elems, rest, n', hn', hcs, _, _, hl, hm, hle, hel, _, _⟩
  · injection hcs with e _
    subst e
    exact ⟨none, 0, [], fun _ _ => undef, rfl, ⟨Nat.le_refl _, Nat.zero_le _, fun _ => rfl, fun h => absurd h (Nat.lt_irrefl _)⟩, fun j x h => by simp at h⟩
  · injection hcs with e _
    subst e
    have each : ∀ i, i < len → ∃ V : Val, (∀ m, m < 8 → ∃ v, w.cell? ((a.add (i * 8)).add m) = some v) ∧ Lies w.heap.size w V (.agg #[(w.cell? ((a.add (i * 8)).add 0)).getD undef, (w.cell? ((a.add (i * 8)).add 1)).getD undef, (w.cell? ((a.add (i * 8)).add 2)).getD undef, (w.cell? ((a.add (i * 8)).add 3)).getD undef, (w.cell? ((a.add (i * 8)).add 4)).getD undef, (w.cell? ((a.add (i * 8)).add 5)).getD undef, (w.cell? ((a.add (i * 8)).add 6)).getD undef, (w.cell? ((a.add (i * 8)).add 7)).getD undef]) := fun i hi => by
      have u1 := hel i hi
      rw [co27, List.getElem?_eq_getElem (by omega)] at u1
      obtain ⟨cs', u2, u3⟩ := Option.bind_eq_some_iff.1 u1
      obtain ⟨_, u4, u5⟩ := World.cells?_some u2
      obtain ⟨V, d0, d1, d2, d3, d4, d5, d6, d7, u6, u7⟩ := lies_trod n' cs' _ u3
      subst u6
      have w0 := u5 0 (by omega)
      have w1 := u5 1 (by omega)
      have w2 := u5 2 (by omega)
      have w3 := u5 3 (by omega)
      have w4 := u5 4 (by omega)
      have w5 := u5 5 (by omega)
      have w6 := u5 6 (by omega)
      have w7 := u5 7 (by omega)
      refine ⟨V, fun m hm => ⟨_, (u5 m hm).trans (List.getElem?_eq_getElem (by simpa using hm))⟩, ?_⟩
      rw [w0, w1, w2, w3, w4, w5, w6, w7]
      exact u7
    obtain ⟨f, hf2⟩ := choose_lt' each
    have hlr : ((List.range len).map f).length = len := by simp
    refine ⟨some a, cap, (List.range len).map f, fun j m => (w.cell? ((a.add (j * 8)).add m)).getD undef, by rw [hlr], ⟨by rw [hlr]; exact hl, hm, (fun h => by cases h), fun h0 => ?_⟩, fun j x hx => ?_⟩
    · rw [hlr] at h0
      have hsp : a.spot = none := by
        obtain ⟨v, c0⟩ := (hf2 0 h0).1 0 (by omega)
        have : (a.add (0 * 8)).add 0 = a := by unfold Addr.add; simp
        rw [this] at c0
        exact World.cell?_spot c0
      obtain ⟨b, o, spot⟩ := a
      simp only at hsp
      subst hsp
      have ea1 : ∀ (o i : Nat), (⟨b, o, none⟩ : Addr).add i = ⟨b, o + i, none⟩ := fun o i => by unfold Addr.add; split <;> simp_all
      have ea : ∀ i m, ((⟨b, o, none⟩ : Addr).add (i * 8)).add m = ⟨b, o + i * 8 + m, none⟩ := fun i m => by rw [ea1, ea1]
      refine ⟨b, o, rfl, ?_, fun j hj m hm => ?_⟩
      · obtain ⟨v, c0⟩ := (hf2 0 h0).1 0 (by omega)
        rw [ea] at c0; exact World.block_lt_of_cell? _ _ c0
      · rw [hlr] at hj
        obtain ⟨v, c0⟩ := (hf2 j hj).1 m hm
        show w.cell? _ = some ((w.cell? _).getD undef)
        rw [c0, ← ea, c0]; rfl
    · rw [List.getElem?_map] at hx
      obtain ⟨j', hj', rfl⟩ := Option.map_eq_some_iff.1 hx
      have hjl : j < len := by have := (List.getElem?_eq_some_iff.1 hj').1; simpa using this
      rw [List.getElem?_range hjl] at hj'
      injection hj' with hj'
      subst hj'
      exact (hf2 j hjl).2
end
end Go.Proofs.Ytfgkkccgecnchaa

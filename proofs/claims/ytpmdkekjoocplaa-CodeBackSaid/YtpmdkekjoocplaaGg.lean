/- The reader: what is held while elements are read. -/
import Derived.Test.YtpmdkekjoocplaaGf
namespace Go.Proofs.Ytpmdkekjoocplaa
open Go.RowKit Typ

/-- which types may be -/
def tok (a b : Nat) : Bool := okB (a : Int) (b : Int)
/-- cell m of element i -/
abbrev ce (cs : List Value) (i m : Nat) : Value := cs.getD (i * 8 + m) undef
abbrev agg8 (c : Nat → Nat → Value) (i : Nat) : Value := .agg #[c i 0, c i 1, c i 2, c i 3, c i 4, c i 5, c i 6, c i 7]
/-- memory while elements are read: keys and elements in rows of the call's own -/
structure Els (w0 : World) (rb : Nat) (o : Option Addr) (cap : Nat) (M : List Nat) (ks : List ByteArray) (l : List Val) (vk vl : Value) (cs : List Value) (x wt : Nat) (wr : World) : Prop where
  r : Rdr wr rb o cap M x wt
  rlt : rb < w0.heap.size
  ex : Exc (some rb) w0 wr
  ok : wr.ownsRow w0.heap.size 9 1 vk ks.length (kcs ks)
  ol : wr.ownsRow w0.heap.size 30 8 vl l.length cs
  el : ∀ i X, l[i]? = some X → LiesP (fun b => w0.heap.size ≤ b ∧ b < wr.heap.size ∧ some b ≠ vk.ownBlock ∧ some b ≠ vl.ownBlock) wr X (agg8 (ce cs) i)
  kz : ∀ s, s ∈ ks → s.size ≤ 1024
/-- rows of different element types lie in different blocks -/
theorem own_ne {w : World} {B B' e e' size size' n n' : Nat} {v v' : Value} {xs xs' : List Value} (h : w.ownsRow B e size v n xs) (h' : w.ownsRow B' e' size' v' n' xs') (hne : e ≠ e') : ∀ g, v.ownBlock = some g → v'.ownBlock ≠ some g := by
  intro g hg hg'
  rcases h.2 with ⟨rfl, _⟩ | ⟨g1, cap, cur, rfl, _, hgg, _⟩
  · cases hg
  · rcases h'.2 with ⟨rfl, _⟩ | ⟨g2, cap', cur', rfl, _, hgg', _⟩
    · cases hg'
    · simp only [Value.ownBlock, Option.some.injEq] at hg hg'
      subst hg hg'
      rw [hgg] at hgg'
      simp only [Option.some.injEq, Obj.cells.injEq] at hgg'
      exact hne hgg'.2.1
theorem Els.nil {w0 wr : World} {rb : Nat} {o : Option Addr} {cap : Nat} {M : List Nat} {x wt : Nat} (h : Rd w0 rb o cap M x wt wr) (hrb : rb < w0.heap.size) : Els w0 rb o cap M [] [] (.slice none 0 0) (.slice none 0 0) [] x wt wr :=
  ⟨h.r, hrb, h.x, World.ownsRow_nil _ _ _ _, World.ownsRow_nil _ _ _ _, fun i X h => by simp at h, fun s h => by cases h⟩
/-- behind a call that keeps all but the reader's block -/
theorem Els.val {w0 wr w1 : World} {rb : Nat} {o : Option Addr} {cap : Nat} {M : List Nat} {ks : List ByteArray} {l : List Val} {vk vl : Value} {cs : List Value} {x wt x' wt' : Nat} (h : Els w0 rb o cap M ks l vk vl cs x wt wr) (hr : Rdr w1 rb o cap M x' wt') (hx : Exc (some rb) wr w1) :
    Els w0 rb o cap M ks l vk vl cs x' wt' w1 := by
  have hlt := h.rlt
  refine ⟨hr, h.rlt, h.ex.trans hx, ownsRow_kept h.ok fun g hg => hx.block g (h.ok.lt g hg).2 (fun e => by injection e with e; have := (h.ok.lt g hg).1; omega), ownsRow_kept h.ol fun g hg => hx.block g (h.ol.lt g hg).2 (fun e => by injection e with e; have := (h.ol.lt g hg).1; omega), fun i X hX => ?_, h.kz⟩
  refine (h.el i X hX).keptP fun b ⟨h1, h2, h3, h4⟩ => ⟨⟨h1, Nat.lt_of_lt_of_le h2 hx.size, h3, h4⟩, hx.block b h2 (fun e => by injection e with e; omega)⟩
/-- behind new blocks alone -/
theorem Els.more {w0 wr w1 : World} {rb : Nat} {o : Option Addr} {cap : Nat} {M : List Nat} {ks : List ByteArray} {l : List Val} {vk vl : Value} {cs : List Value} {x wt : Nat} (h : Els w0 rb o cap M ks l vk vl cs x wt wr) (hb : Below wr.heap.size wr w1) :
    Els w0 rb o cap M ks l vk vl cs x wt w1 := h.val (h.r.kept hb h.r.lt) (Exc.of_below hb)
/-- behind the next key -/
theorem Els.key {w0 wr w1 : World} {rb : Nat} {o : Option Addr} {cap : Nat} {M : List Nat} {ks : List ByteArray} {l : List Val} {vk vl : Value} {cs : List Value} {x wt x' g c : Nat} {s : ByteArray} (h : Els w0 rb o cap M ks l vk vl cs x wt wr)
    (hr : Rdr w1 rb o cap M x' wt) (hx : Exq rb vk.ownBlock wr w1) (ho : w1.ownsRow w0.heap.size 9 1 (.slice (some ⟨g, 0, none⟩) (ks.length + 1) c) (ks.length + 1) (kcs (ks ++ [s]))) (hat : vk.ownBlock = some g ∨ wr.heap.size ≤ g) (hs : s.size ≤ 1024) :
    Els w0 rb o cap M (ks ++ [s]) l (.slice (some ⟨g, 0, none⟩) (ks.length + 1) c) vl cs x' wt w1 := by
  have hlt := h.rlt
  have hkl := own_ne h.ok h.ol (by decide)
  refine ⟨hr, h.rlt, ⟨hx.os.trans h.ex.os, hx.tape.trans h.ex.tape, hx.output.trans h.ex.output, Nat.le_trans h.ex.size hx.size, fun k hk hc => ?_⟩, by rw [List.length_append]; exact ho, ownsRow_kept h.ol fun g' hg' => hx.block g' (h.ol.lt g' hg').2 (by have := (h.ol.lt g' hg').1; omega) (fun e => hkl g' e.symm hg'), fun i X hX => ?_, fun s' hs' => ?_⟩
  · have hz := h.ex.size
    refine (hx.block k (by omega) (fun e => hc (by rw [e])) (fun e => ?_)).trans (h.ex.block k hk hc)
    have := (h.ok.lt k e.symm).1; omega
  · refine (h.el i X hX).keptP fun b ⟨h1, h2, h3, h4⟩ => ⟨⟨h1, Nat.lt_of_lt_of_le h2 hx.size, fun e => ?_, h4⟩, hx.block b h2 (by omega) h3⟩
    have e' : b = g := by simpa [Value.ownBlock] using e
    rcases hat with h5 | h5
    · exact h3 (by rw [h5, e'])
    · omega
  · rcases List.mem_append.1 hs' with h5 | h5
    · exact h.kz s' h5
    · rw [List.mem_singleton.1 h5]; exact hs
/-- behind the next element -/
theorem Els.app {w0 wr w1 : World} {rb : Nat} {o : Option Addr} {cap : Nat} {M : List Nat} {ks : List ByteArray} {l : List Val} {vk vl : Value} {cs : List Value} {x wt g c N0 : Nat} {X : Val} {c0 c1 c2 c3 c4 c5 c6 c7 : Value} (h : Els w0 rb o cap M ks l vk vl cs x wt wr)
    (hg : wr.grownBy w1 vl.ownBlock) (ho : w1.ownsRow w0.heap.size 30 8 (.slice (some ⟨g, 0, none⟩) (l.length + 1) c) (l.length + 1) (cs ++ [c0, c1, c2, c3, c4, c5, c6, c7])) (hat : vl.ownBlock = some g ∨ g = wr.heap.size)
    (hX : LiesP (fun b => N0 ≤ b ∧ b < wr.heap.size) wr X (.agg #[c0, c1, c2, c3, c4, c5, c6, c7])) (h0 : w0.heap.size ≤ N0) (hk0 : ∀ g, vk.ownBlock = some g → g < N0) (hl0 : ∀ g, vl.ownBlock = some g → g < N0) :
    Els w0 rb o cap M ks (l ++ [X]) vk (.slice (some ⟨g, 0, none⟩) (l.length + 1) c) (cs ++ [c0, c1, c2, c3, c4, c5, c6, c7]) x wt w1 := by
  have hlt := h.rlt
  have hkl := own_ne h.ok h.ol (by decide)
  have hcl : cs.length = l.length * 8 := h.ol.1
  have hz := h.ex.size
  refine ⟨h.r.grown hg (fun g' hg' => by have := (h.ol.lt g' hg').1; omega), h.rlt, ⟨hg.os.trans h.ex.os, hg.tape.trans h.ex.tape, hg.output.trans h.ex.output, Nat.le_trans h.ex.size hg.size, fun k hk hc => ?_⟩,
    ownsRow_kept h.ok fun g' hg' => hg.block g' (h.ok.lt g' hg').2 (fun e => hkl g' hg' e.symm), by rw [List.length_append]; exact ho, fun i Y hY => ?_, h.kz⟩
  · refine (hg.block k (by omega) (fun e => ?_)).trans (h.ex.block k hk hc)
    have := (h.ol.lt k e.symm).1; omega
  · have hfar : ∀ b, b < wr.heap.size → some b ≠ vl.ownBlock → some b ≠ (Value.slice (some ⟨g, 0, none⟩) (l.length + 1) c).ownBlock := fun b hb hne e => by
      have e' : b = g := by simpa [Value.ownBlock] using e
      rcases hat with h5 | h5
      · exact hne (by rw [h5, e'])
      · omega
    by_cases hi : i < l.length
    · rw [List.getElem?_append_left hi] at hY
      have hel := (h.el i Y hY).keptP (P' := fun b => w0.heap.size ≤ b ∧ b < w1.heap.size ∧ some b ≠ vk.ownBlock ∧ some b ≠ (Value.slice (some ⟨g, 0, none⟩) (l.length + 1) c).ownBlock) (w' := w1) fun b ⟨h1, h2, h3, h4⟩ => ⟨⟨h1, Nat.lt_of_lt_of_le h2 hg.size, h3, hfar b h2 h4⟩, hg.block b h2 h4⟩
      have hce : ∀ m, m < 8 → ce (cs ++ [c0, c1, c2, c3, c4, c5, c6, c7]) i m = ce cs i m := fun m hm => by
        unfold ce
        rw [List.getD_eq_getElem?_getD, List.getD_eq_getElem?_getD, List.getElem?_append_left (by rw [hcl]; omega)]
      unfold agg8
      rw [hce 0 (by omega), hce 1 (by omega), hce 2 (by omega), hce 3 (by omega), hce 4 (by omega), hce 5 (by omega), hce 6 (by omega), hce 7 (by omega)]
      exact hel
    · rw [List.getElem?_append_right (by omega)] at hY
      have hi2 : i = l.length := by
        rcases Nat.lt_or_ge (i - l.length) 1 with h5 | h5
        · omega
        · rw [List.getElem?_eq_none (by simpa using h5)] at hY; cases hY
      subst hi2
      rw [Nat.sub_self] at hY
      simp only [List.getElem?_cons_zero, Option.some.injEq] at hY
      subst hY
      have hel := hX.keptP (P' := fun b => w0.heap.size ≤ b ∧ b < w1.heap.size ∧ some b ≠ vk.ownBlock ∧ some b ≠ (Value.slice (some ⟨g, 0, none⟩) (l.length + 1) c).ownBlock) (w' := w1) fun b ⟨h1, h2⟩ => by
        have h3 : some b ≠ vl.ownBlock := fun e => by have := hl0 b e.symm; omega
        exact ⟨⟨by omega, Nat.lt_of_lt_of_le h2 hg.size, fun e => by have := hk0 b e.symm; omega, hfar b h2 h3⟩, hg.block b h2 h3⟩
      have hce : ∀ m, m < 8 → ce (cs ++ [c0, c1, c2, c3, c4, c5, c6, c7]) l.length m = [c0, c1, c2, c3, c4, c5, c6, c7].getD m undef := fun m hm => by
        unfold ce
        rw [List.getD_eq_getElem?_getD, List.getD_eq_getElem?_getD, List.getElem?_append_right (by rw [hcl]; omega), hcl, Nat.add_sub_cancel_left]
      unfold agg8
      rw [hce 0 (by omega), hce 1 (by omega), hce 2 (by omega), hce 3 (by omega), hce 4 (by omega), hce 5 (by omega), hce 6 (by omega), hce 7 (by omega)]
      exact hel
/-- the rows that a call of its own leaves -/
theorem row_of_own {w : World} {base e size n : Nat} {v : Value} {xs : List Value} (h : w.ownsRow base e size v n xs) : ∃ o cap, v = .slice o n cap ∧ RowP (fun b => base ≤ b ∧ b < w.heap.size) w o cap n size (fun i m => xs.getD (i * size + m) undef) := by
  rcases h.2 with ⟨rfl, rfl⟩ | ⟨g, cap, cur, rfl, hb, hg, hn, hm, hc, ht⟩
  · exact ⟨none, 0, rfl, RowP.nil _ _ _ _⟩
  · have hgl : g < w.heap.size := (Array.getElem?_eq_some_iff.1 hg).1
    refine ⟨some ⟨g, 0, none⟩, cap, rfl, hn, hm, (fun h => by cases h), fun _ => ⟨g, 0, rfl, ⟨hb, hgl⟩, fun j hj m hm2 => ?_⟩⟩
    have hle : j * size + m < n * size := by
      have : (j + 1) * size ≤ n * size := Nat.mul_le_mul_right _ hj
      rw [Nat.add_mul, Nat.one_mul] at this; omega
    rw [cell_of_row w g _ cur e (0, 0) hg, Nat.zero_add]
    have hx : xs.length = n * size := h.1
    show cur[j * size + m]? = some (xs.getD (j * size + m) undef)
    rw [List.getD_eq_getElem?_getD, List.getElem?_eq_getElem (by omega)]
    have h5 : xs[j * size + m]? = cur.toList[j * size + m]? := by rw [← ht, List.getElem?_take_of_lt hle]
    rw [List.getElem?_eq_getElem (by omega)] at h5
    rw [Array.getElem?_toList] at h5
    exact h5.symm
end Go.Proofs.Ytpmdkekjoocplaa

/- The reference's get: what is held while elements are read. -/
import Derived.Test.YtpmdkekjoocplaaGi
import Derived.Test.YtpmdkekjoocplaaGk
namespace Go.Proofs.Ytpmdkekjoocplaa
open Go.RowKit Typ

/-- a value's box in block rb -/
abbrev boxA (K : Int) (S : Bool) (vk vl : Value) : Array Value := #[.int .i64 K, .int .i64 0, .string ⟨#[]⟩, vl, vk, .int .i64 0, .int .i64 0, .bool S]
structure Elr (w0 : World) (rb : Nat) (K : Int) (S : Bool) (ks : List ByteArray) (l : List Val) (vk vl : Value) (cs : List Value) (wr : World) : Prop where
  bx : wr.heap[rb]? = some (.cells (boxA K S vk vl) 30 (0, 0))
  rlt : rb < w0.heap.size
  ex : Exc (some rb) w0 wr
  ok : wr.ownsRow w0.heap.size 9 1 vk ks.length (kcs ks)
  ol : wr.ownsRow w0.heap.size 30 8 vl l.length cs
  el : ∀ i X, l[i]? = some X → LiesP (fun b => w0.heap.size ≤ b ∧ b < wr.heap.size ∧ some b ≠ vk.ownBlock ∧ some b ≠ vl.ownBlock) wr X (agg8 (ce cs) i)
  kz : ∀ s, s ∈ ks → s.size ≤ 1024
theorem Elr.nil {w0 : World} {rb : Nat} {K : Int} {S : Bool} (h : w0.heap[rb]? = some (.cells (boxA K S (.slice none 0 0) (.slice none 0 0)) 30 (0, 0))) : Elr w0 rb K S [] [] (.slice none 0 0) (.slice none 0 0) [] w0 :=
  ⟨h, (Array.getElem?_eq_some_iff.1 h).1, Exc.refl _ _, World.ownsRow_nil _ _ _ _, World.ownsRow_nil _ _ _ _, fun i X h => by simp at h, fun s h => by cases h⟩
theorem Elr.val {w0 wr w1 : World} {rb : Nat} {K : Int} {S : Bool} {ks : List ByteArray} {l : List Val} {vk vl : Value} {cs : List Value} (h : Elr w0 rb K S ks l vk vl cs wr) (hx : Below wr.heap.size wr w1) :
    Elr w0 rb K S ks l vk vl cs w1 := by
  have hlt := h.rlt
  have hz := h.ex.size
  refine ⟨(hx.block rb (by omega)).trans h.bx, h.rlt, h.ex.trans (Exc.of_below hx), ownsRow_kept h.ok fun g hg => hx.block g (h.ok.lt g hg).2, ownsRow_kept h.ol fun g hg => hx.block g (h.ol.lt g hg).2, fun i X hX => ?_, h.kz⟩
  refine (h.el i X hX).keptP fun b ⟨h1, h2, h3, h4⟩ => ⟨⟨h1, Nat.lt_of_lt_of_le h2 hx.size, h3, h4⟩, hx.block b h2⟩
theorem Elr.key {w0 wr w1 : World} {rb : Nat} {K : Int} {S : Bool} {ks : List ByteArray} {l : List Val} {vk vl : Value} {cs : List Value} {g c : Nat} {s : ByteArray} (h : Elr w0 rb K S ks l vk vl cs wr)
    (hx : wr.grownBy w1 vk.ownBlock) (ho : w1.ownsRow w0.heap.size 9 1 (.slice (some ⟨g, 0, none⟩) (ks.length + 1) c) (ks.length + 1) (kcs ks ++ [.string s])) (hat : vk.ownBlock = some g ∨ g = wr.heap.size) (hs : s.size ≤ 1024) :
    Elr w0 rb K S (ks ++ [s]) l (.slice (some ⟨g, 0, none⟩) (ks.length + 1) c) vl cs (w1.setCell ⟨rb, 4, none⟩ (.slice (some ⟨g, 0, none⟩) (ks.length + 1) c)) := by
  have hlt := h.rlt
  have hz := h.ex.size
  have hkl := own_ne h.ok h.ol (by decide)
  have hob : ∀ b, b ≠ rb → (w1.setCell ⟨rb, 4, none⟩ (.slice (some ⟨g, 0, none⟩) (ks.length + 1) c)).heap[b]? = w1.heap[b]? := fun b hb => heap_setCell_other _ _ _ _ hb
  have hbx : w1.heap[rb]? = some (.cells (boxA K S vk vl) 30 (0, 0)) := (hx.block rb (by omega) (fun e => by have := (h.ok.lt rb e.symm).1; omega)).trans h.bx
  refine ⟨(heap_setCell_same w1 rb 4 _ _ _ hbx).trans rfl, h.rlt, ⟨hx.os.trans h.ex.os, hx.tape.trans h.ex.tape, hx.output.trans h.ex.output, by simp; exact Nat.le_trans hz hx.size, fun k hk hc => ?_⟩, ?_, ?_, fun i X hX => ?_, fun s' hs' => ?_⟩
  · refine (hob k (fun e => hc (by rw [e]))).trans ((hx.block k (by omega) (fun e => ?_)).trans (h.ex.block k hk hc))
    have := (h.ok.lt k e.symm).1; omega
  · rw [List.length_append, show kcs (ks ++ [s]) = kcs ks ++ [.string s] by simp [kcs]]
    exact ownsRow_kept ho fun g' hg' => hob g' (by have := (ho.lt g' hg').1; omega)
  · exact ownsRow_kept h.ol fun g' hg' => (hob g' (by have := (h.ol.lt g' hg').1; omega)).trans (hx.block g' (h.ol.lt g' hg').2 (fun e => hkl g' e.symm hg'))
  · refine (h.el i X hX).keptP fun b ⟨h1, h2, h3, h4⟩ => ⟨⟨h1, by simp; exact Nat.lt_of_lt_of_le h2 hx.size, fun e => ?_, h4⟩, (hob b (by omega)).trans (hx.block b h2 h3)⟩
    have e' : b = g := by simpa [Value.ownBlock] using e
    rcases hat with h5 | h5
    · exact h3 (by rw [h5, e'])
    · omega
  · rcases List.mem_append.1 hs' with h5 | h5
    · exact h.kz s' h5
    · rw [List.mem_singleton.1 h5]; exact hs
theorem Elr.app {w0 wr w1 : World} {rb : Nat} {K : Int} {S : Bool} {ks : List ByteArray} {l : List Val} {vk vl : Value} {cs : List Value} {g c N0 : Nat} {X : Val} {c0 c1 c2 c3 c4 c5 c6 c7 : Value} (h : Elr w0 rb K S ks l vk vl cs wr)
    (hg : wr.grownBy w1 vl.ownBlock) (ho : w1.ownsRow w0.heap.size 30 8 (.slice (some ⟨g, 0, none⟩) (l.length + 1) c) (l.length + 1) (cs ++ [c0, c1, c2, c3, c4, c5, c6, c7])) (hat : vl.ownBlock = some g ∨ g = wr.heap.size)
    (hX : LiesP (fun b => N0 ≤ b ∧ b < wr.heap.size) wr X (.agg #[c0, c1, c2, c3, c4, c5, c6, c7])) (h0 : w0.heap.size ≤ N0) (hk0 : ∀ g, vk.ownBlock = some g → g < N0) (hl0 : ∀ g, vl.ownBlock = some g → g < N0) :
    Elr w0 rb K S ks (l ++ [X]) vk (.slice (some ⟨g, 0, none⟩) (l.length + 1) c) (cs ++ [c0, c1, c2, c3, c4, c5, c6, c7]) (w1.setCell ⟨rb, 3, none⟩ (.slice (some ⟨g, 0, none⟩) (l.length + 1) c)) := by
  have hlt := h.rlt
  have hkl := own_ne h.ok h.ol (by decide)
  have hcl : cs.length = l.length * 8 := h.ol.1
  have hz := h.ex.size
  have hob : ∀ b, b ≠ rb → (w1.setCell ⟨rb, 3, none⟩ (.slice (some ⟨g, 0, none⟩) (l.length + 1) c)).heap[b]? = w1.heap[b]? := fun b hb => heap_setCell_other _ _ _ _ hb
  have hsz : (w1.setCell ⟨rb, 3, none⟩ (.slice (some ⟨g, 0, none⟩) (l.length + 1) c)).heap.size = w1.heap.size := by simp
  have hbx : w1.heap[rb]? = some (.cells (boxA K S vk vl) 30 (0, 0)) := (hg.block rb (by omega) (fun e => by have := (h.ol.lt rb e.symm).1; omega)).trans h.bx
  refine ⟨(heap_setCell_same w1 rb 3 _ _ _ hbx).trans rfl, h.rlt, ⟨hg.os.trans h.ex.os, hg.tape.trans h.ex.tape, hg.output.trans h.ex.output, by rw [hsz]; exact Nat.le_trans hz hg.size, fun k hk hc => ?_⟩, ?_, ?_, fun i Y hY => ?_, h.kz⟩
  · refine (hob k (fun e => hc (by rw [e]))).trans ((hg.block k (by omega) (fun e => ?_)).trans (h.ex.block k hk hc))
    have := (h.ol.lt k e.symm).1; omega
  · exact ownsRow_kept h.ok fun g' hg' => (hob g' (by have := (h.ok.lt g' hg').1; omega)).trans (hg.block g' (h.ok.lt g' hg').2 (fun e => hkl g' hg' e.symm))
  · rw [List.length_append]
    exact ownsRow_kept ho fun g' hg' => hob g' (by have := (ho.lt g' hg').1; omega)
  · have hfar : ∀ b, b < wr.heap.size → some b ≠ vl.ownBlock → some b ≠ (Value.slice (some ⟨g, 0, none⟩) (l.length + 1) c).ownBlock := fun b hb hne e => by
      have e' : b = g := by simpa [Value.ownBlock] using e
      rcases hat with h5 | h5
      · exact hne (by rw [h5, e'])
      · omega
    by_cases hi : i < l.length
    · rw [List.getElem?_append_left hi] at hY
      have hel := (h.el i Y hY).keptP (P' := fun b => w0.heap.size ≤ b ∧ b < (w1.setCell ⟨rb, 3, none⟩ (.slice (some ⟨g, 0, none⟩) (l.length + 1) c)).heap.size ∧ some b ≠ vk.ownBlock ∧ some b ≠ (Value.slice (some ⟨g, 0, none⟩) (l.length + 1) c).ownBlock) (w' := w1.setCell ⟨rb, 3, none⟩ (.slice (some ⟨g, 0, none⟩) (l.length + 1) c)) fun b ⟨h1, h2, h3, h4⟩ => ⟨⟨h1, by rw [hsz]; exact Nat.lt_of_lt_of_le h2 hg.size, h3, hfar b h2 h4⟩, (hob b (by omega)).trans (hg.block b h2 h4)⟩
      have hce : ∀ m, m < 8 → ce (cs ++ [c0, c1, c2, c3, c4, c5, c6, c7]) i m = ce cs i m := fun m hm => by
        unfold ce
        rw [List.getD_eq_getElem?_getD, List.getD_eq_getElem?_getD, List.getElem?_append_left (by rw [hcl]; omega)]
      unfold agg8
      rw [hce 0 (by omega), hce 1 (by omega), hce 2 (by omega), hce 3 (by omega), hce 4 (by omega), hce 5 (by omega), hce 6 (by omega), hce 7 (by omega)]
      exact hel
    · rw [List.getElem?_append_right (by omega)] at hY
      have hi2 : i = l.length := by
        rcases Nat.lt_or_ge (i - l.length) 1 with h5 | h5
        · omega
        · rw [List.getElem?_eq_none (by simpa using h5)] at hY; cases hY
      subst hi2
      rw [Nat.sub_self] at hY
      simp only [List.getElem?_cons_zero, Option.some.injEq] at hY
      subst hY
      have hel := hX.keptP (P' := fun b => w0.heap.size ≤ b ∧ b < (w1.setCell ⟨rb, 3, none⟩ (.slice (some ⟨g, 0, none⟩) (l.length + 1) c)).heap.size ∧ some b ≠ vk.ownBlock ∧ some b ≠ (Value.slice (some ⟨g, 0, none⟩) (l.length + 1) c).ownBlock) (w' := w1.setCell ⟨rb, 3, none⟩ (.slice (some ⟨g, 0, none⟩) (l.length + 1) c)) fun b ⟨h1, h2⟩ => by
        have h3 : some b ≠ vl.ownBlock := fun e => by have := hl0 b e.symm; omega
        exact ⟨⟨by omega, by rw [hsz]; exact Nat.lt_of_lt_of_le h2 hg.size, fun e => by have := hk0 b e.symm; omega, hfar b h2 h3⟩, (hob b (by omega)).trans (hg.block b h2 h3)⟩
      have hce : ∀ m, m < 8 → ce (cs ++ [c0, c1, c2, c3, c4, c5, c6, c7]) l.length m = [c0, c1, c2, c3, c4, c5, c6, c7].getD m undef := fun m hm => by
        unfold ce
        rw [List.getD_eq_getElem?_getD, List.getD_eq_getElem?_getD, List.getElem?_append_right (by rw [hcl]; omega), hcl, Nat.add_sub_cancel_left]
      unfold agg8
      rw [hce 0 (by omega), hce 1 (by omega), hce 2 (by omega), hce 3 (by omega), hce 4 (by omega), hce 5 (by omega), hce 6 (by omega), hce 7 (by omega)]
      exact hel
theorem Elr.lies {w0 wr : World} {rb : Nat} {K : Int} {S : Bool} {ks : List ByteArray} {l : List Val} {vk vl : Value} {cs : List Value} (h : Elr w0 rb K S ks l vk vl cs wr) (wk : (Lit.int .i64 K).wf = true) :
    ∃ oL cL oK cK, vl = .slice oL l.length cL ∧ vk = .slice oK ks.length cK ∧ ∀ (P : Nat → Prop) (w' : World), (∀ b, w0.heap.size ≤ b → b < wr.heap.size → P b ∧ w'.heap[b]? = wr.heap[b]?) → LiesP P w' (.mk K 0 ⟨#[]⟩ l ks 0 0 S) (vv K 0 ⟨#[]⟩ (.slice oL l.length cL) (.slice oK ks.length cK) 0 0 S) := by
  obtain ⟨oL, cL, hl, rL⟩ := row_of_own h.ol
  obtain ⟨oK, cK, hk, rK⟩ := row_of_own h.ok
  refine ⟨oL, cL, oK, cK, hl, hk, fun P w' hb => ?_⟩
  refine .mk (.mk K 0 ⟨#[]⟩ l ks 0 0 S) oL oK cL cK (ce cs) wk rfl rfl rfl (show (0 : Nat) ≤ maxLen from Nat.zero_le _) (fun s hs => by have := h.kz s hs; unfold maxLen; omega) (rL.keptP fun b ⟨h1, h2⟩ => hb b h1 h2) ((rK.keptP fun b ⟨h1, h2⟩ => hb b h1 h2).congr fun j hj m hm => ?_) fun j X hX => (h.el j X hX).keptP fun b ⟨h1, h2, _, _⟩ => hb b h1 h2
  obtain rfl : m = 0 := by omega
  show (kcs ks).getD (j * 1 + 0) undef = .string (ks.getD j default)
  unfold kcs
  rw [Nat.mul_one, Nat.add_zero, List.getD_eq_getElem?_getD, List.getD_eq_getElem?_getD, List.getElem?_map, List.getElem?_eq_getElem hj]
  rfl
/-- a round's numbers -/
structure ElS (f : List Nat → Except Nat (Val × Nat)) (m : Bool) (n : Nat) (M : List Nat) (at0 : Nat) (j : Nat) (ks : List ByteArray) (l : List Val) (x : Nat) : Prop where
  kn : ks.length = if m then j else 0
  ln : l.length = j
  ge : at0 ≤ x
  le : x ≤ M.length
  eq : decE f m n [] [] 0 (M.drop at0) = decE f m (n - j) ks l (x - at0) (M.drop x)
section
variable {f : List Nat → Except Nat (Val × Nat)} {n : Nat} {M : List Nat} {at0 j : Nat} {ks : List ByteArray} {l : List Val} {x : Nat}
theorem ElS.err {z : Nat} (h : ElS f false n M at0 j ks l x) (hj : j < n) (hf : f (M.drop x) = .error z) : decE f false n [] [] 0 (M.drop at0) = .error z := by
  rw [h.eq, show n - j = n - j - 1 + 1 by omega, decE_no, hf]
theorem ElS.next {V : Val} {u : Nat} (h : ElS f false n M at0 j ks l x) (hj : j < n) (hf : f (M.drop x) = .ok (V, u)) (hle : x + u ≤ M.length) : ElS f false n M at0 (j + 1) ks (l ++ [V]) (x + u) := by
  have hg := h.ge
  refine ⟨by rw [h.kn]; rfl, by rw [List.length_append, h.ln]; rfl, by omega, hle, ?_⟩
  rw [h.eq, show n - j = n - (j + 1) + 1 by omega, decE_no, hf]
  simp only
  rw [show x + u - at0 = x - at0 + u by omega, List.drop_drop]
theorem ElS.kerr {z : Nat} (h : ElS f true n M at0 j ks l x) (hj : j < n) (hk : keyR ks (M.drop x) = .error z) : decE f true n [] [] 0 (M.drop at0) = .error z := by
  rw [h.eq, show n - j = n - j - 1 + 1 by omega, decE_key, hk]
theorem ElS.kverr {z k : Nat} {s : ByteArray} (h : ElS f true n M at0 j ks l x) (hj : j < n) (hk : keyR ks (M.drop x) = .ok (s, k)) (hf : f (M.drop (x + k)) = .error z) : decE f true n [] [] 0 (M.drop at0) = .error z := by
  rw [h.eq, show n - j = n - j - 1 + 1 by omega, decE_key, hk]
  simp only
  rw [List.drop_drop, hf]
theorem ElS.knext {V : Val} {u k : Nat} {s : ByteArray} (h : ElS f true n M at0 j ks l x) (hj : j < n) (hk : keyR ks (M.drop x) = .ok (s, k)) (hf : f (M.drop (x + k)) = .ok (V, u)) (hle : x + k + u ≤ M.length) :
    ElS f true n M at0 (j + 1) (ks ++ [s]) (l ++ [V]) (x + k + u) := by
  have hg := h.ge
  refine ⟨by rw [List.length_append, h.kn]; rfl, by rw [List.length_append, h.ln]; rfl, by omega, hle, ?_⟩
  rw [h.eq, show n - j = n - (j + 1) + 1 by omega, decE_key, hk]
  simp only
  rw [List.drop_drop, hf]
  simp only
  rw [show x + k + u - at0 = x - at0 + k + u by omega, List.drop_drop]
end
end Go.Proofs.Ytpmdkekjoocplaa

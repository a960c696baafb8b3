/- Plain mathematics: values as trees; how much they hold, their weight and depth; when two are the same. -/
namespace Go.Proofs.YtfmgbhaldakpfaaDoor

/-- a value: kind, number, text, elements, keys, type (kind, of), mark -/
inductive Val where
  | mk (k i : Int) (s : ByteArray) (l : List Val) (ks : List ByteArray) (tk to : Int) (x : Bool)
namespace Val
def k : Val → Int | .mk a _ _ _ _ _ _ _ => a
def i : Val → Int | .mk _ a _ _ _ _ _ _ => a
def s : Val → ByteArray | .mk _ _ a _ _ _ _ _ => a
def l : Val → List Val | .mk _ _ _ a _ _ _ _ => a
def ks : Val → List ByteArray | .mk _ _ _ _ a _ _ _ => a
def tk : Val → Int | .mk _ _ _ _ _ a _ _ => a
def to : Val → Int | .mk _ _ _ _ _ _ a _ => a
def x : Val → Bool | .mk _ _ _ _ _ _ _ a => a
end Val
/-- how many elements count -/
def cnt (V : Val) : Nat := if V.k = 4 then V.l.length else if V.k = 5 then min V.l.length V.ks.length else 0
theorem cnt_le (V : Val) : cnt V ≤ V.l.length := by unfold cnt; split <;> (try split) <;> omega
/-- the elements that count -/
def els (V : Val) : List Val := V.l.take (cnt V)
theorem els_len (V : Val) : (els V).length = cnt V := by unfold els; rw [List.length_take]; have := cnt_le V; omega
theorem els_mem {V x : Val} (h : x ∈ els V) : x ∈ V.l := List.mem_of_mem_take h
theorem els_get {V : Val} {j : Nat} (h : j < cnt V) : ∃ (h1 : j < (els V).length) (h2 : j < V.l.length), (els V)[j] = V.l[j] := by
  have h1 : j < (els V).length := by rw [els_len]; exact h
  have h2 : j < V.l.length := Nat.lt_of_lt_of_le h (cnt_le V)
  exact ⟨h1, h2, by unfold els; exact List.getElem_take⟩

mutual
/-- all that it holds -/
def sz : Val → Nat | .mk _ _ _ l ks _ _ _ => 1 + ks.length + szL l
def szL : List Val → Nat | [] => 0 | a :: r => sz a + szL r
end
theorem sz_pos (V : Val) : 1 ≤ sz V := by cases V; unfold sz; omega
theorem szL_eq (l : List Val) : szL l = (l.map sz).sum := by
  induction l with
  | nil => rfl
  | cons a r ih => rw [szL, ih]; rfl
theorem szL_mem {l : List Val} {x : Val} (h : x ∈ l) : sz x ≤ szL l := by
  induction l with
  | nil => cases h
  | cons a r ih =>
    rw [szL]
    rcases List.mem_cons.1 h with rfl | h
    · omega
    · have := ih h; omega
theorem szL_len (l : List Val) : l.length ≤ szL l := by
  induction l with
  | nil => simp [szL]
  | cons a r ih => rw [szL]; have := sz_pos a; simp; omega
theorem sz_eq (V : Val) : sz V = 1 + V.ks.length + szL V.l := by cases V; rw [sz]; rfl
theorem sz_mem {V x : Val} (h : x ∈ V.l) : sz x < sz V := by rw [sz_eq V]; have := szL_mem h; omega
theorem sz_l (V : Val) : V.l.length < sz V := by rw [sz_eq]; have := szL_len V.l; omega
theorem sz_ks (V : Val) : V.ks.length < sz V := by rw [sz_eq]; omega
/-- induction on what a value holds -/
theorem val_ind {P : Val → Prop} (h : ∀ V, (∀ x, x ∈ V.l → P x) → P V) (V : Val) : P V := by
  have : ∀ n V, sz V ≤ n → P V := by
    intro n
    induction n with
    | zero => intro V hV; have := sz_pos V; omega
    | succ n ih => intro V hV; exact h V fun x hx => ih x (by have := sz_mem hx; omega)
  exact this _ V (Nat.le_refl _)
theorem sizeOf_mem_l {V x : Val} (h : x ∈ V.l) : sizeOf x < sizeOf V := by
  cases V
  have := List.sizeOf_lt_of_mem h
  simp [Val.l] at *
  omega

/-- the weight -/
def weight (V : Val) : Nat := 1 + ((els V).attach.map fun x => weight x.1).sum
termination_by sizeOf V
decreasing_by exact sizeOf_mem_l (els_mem x.2)
/-- the greatest of these -/
def most : List Nat → Nat | [] => 0 | a :: r => max a (most r)
theorem most_snoc (l : List Nat) (a : Nat) : most (l ++ [a]) = max (most l) a := by
  induction l with
  | nil => simp [most]
  | cons b l ih => rw [List.cons_append, most, most, ih]; omega
def depth (V : Val) : Nat := most ((els V).attach.map fun x => depth x.1) + 1
termination_by sizeOf V
decreasing_by exact sizeOf_mem_l (els_mem x.2)
theorem weight_eq (V : Val) : weight V = 1 + ((els V).map weight).sum := by rw [weight]; simp
theorem depth_eq (V : Val) : depth V = most ((els V).map depth) + 1 := by rw [depth]; simp
/-- of the first j that count -/
def weightN (V : Val) (j : Nat) : Nat := (((els V).take j).map weight).sum
def depthN (V : Val) (j : Nat) : Nat := most (((els V).take j).map depth)
theorem take_get (l : List Val) (j : Nat) (h : j < l.length) : l.take (j + 1) = l.take j ++ [l[j]] := by
  rw [List.take_succ_eq_append_getElem h]
theorem els_take {V : Val} {j : Nat} (h : j < cnt V) (h2 : j < V.l.length) : (els V).take (j + 1) = (els V).take j ++ [V.l[j]] := by
  obtain ⟨h1, _, e⟩ := els_get h
  rw [take_get _ _ h1, e]
theorem weightN_succ {V : Val} {j : Nat} (h : j < cnt V) (h2 : j < V.l.length) : weightN V (j + 1) = weightN V j + weight V.l[j] := by
  unfold weightN; rw [els_take h h2]; simp
theorem depthN_succ {V : Val} {j : Nat} (h : j < cnt V) (h2 : j < V.l.length) : depthN V (j + 1) = max (depthN V j) (depth V.l[j]) := by
  unfold depthN; rw [els_take h h2, List.map_append]; exact most_snoc _ _
theorem weightN_all (V : Val) : weight V = 1 + weightN V (cnt V) := by
  rw [weight_eq]; unfold weightN; rw [List.take_of_length_le (by rw [els_len]; exact Nat.le_refl _)]
theorem depthN_all (V : Val) : depth V = depthN V (cnt V) + 1 := by
  rw [depth_eq]; unfold depthN; rw [List.take_of_length_le (by rw [els_len]; exact Nat.le_refl _)]
theorem szL_take (l : List Val) (j : Nat) : szL (l.take j) ≤ szL l := by
  rw [szL_eq, szL_eq]
  conv => rhs; rw [← List.take_append_drop j l]
  rw [List.map_append, List.sum_append]; omega
theorem weight_sz (V : Val) : weight V ≤ sz V := by
  induction V using val_ind with
  | h V ih =>
    have e : ((els V).map weight).sum ≤ szL (els V) := by
      have : ∀ l : List Val, (∀ x, x ∈ l → weight x ≤ sz x) → (l.map weight).sum ≤ szL l := by
        intro l hl
        induction l with
        | nil => simp [szL]
        | cons a r ihr => rw [szL, List.map_cons, List.sum_cons]; have := hl a (by simp); have := ihr (fun x hx => hl x (by simp [hx])); omega
      exact this _ fun x hx => ih x (els_mem hx)
    have := szL_take V.l (cnt V)
    rw [weight_eq, sz_eq]; unfold els at *; omega
theorem weightN_le (V : Val) (j : Nat) : weightN V j ≤ weight V := by
  rw [weight_eq]; unfold weightN
  conv => rhs; rw [← List.take_append_drop j (els V)]
  rw [List.map_append, List.sum_append]; omega
theorem most_le {l : List Nat} {n : Nat} (h : ∀ x, x ∈ l → x ≤ n) : most l ≤ n := by
  induction l with
  | nil => exact Nat.zero_le _
  | cons a r ih => rw [most]; have := h a (by simp); have := ih (fun x hx => h x (by simp [hx])); omega
theorem depth_sz (V : Val) : depth V ≤ sz V := by
  induction V using val_ind with
  | h V ih =>
    rw [depth_eq]
    have : most ((els V).map depth) ≤ sz V - 1 := most_le fun n hn => by
      obtain ⟨x, hx, rfl⟩ := List.mem_map.1 hn
      have := ih x (els_mem hx); have := sz_mem (els_mem hx); omega
    have := sz_pos V; omega
theorem depthN_le (V : Val) (j : Nat) : depthN V j ≤ sz V := by
  unfold depthN
  exact most_le fun n hn => by
    obtain ⟨x, hx, rfl⟩ := List.mem_map.1 hn
    have := els_mem (List.mem_of_mem_take hx)
    have := depth_sz x; have := sz_mem (els_mem (List.mem_of_mem_take hx)); omega
/-- is nothing in it unknown? -/
def known (V : Val) : Bool := (V.k != 6) && (els V).attach.all fun x => known x.1
termination_by sizeOf V
decreasing_by exact sizeOf_mem_l (els_mem x.2)
theorem known_eq (V : Val) : known V = ((V.k != 6) && (els V).all known) := by
  rw [known]; congr 1; rw [Bool.eq_iff_iff]; simp
end Go.Proofs.YtfmgbhaldakpfaaDoor

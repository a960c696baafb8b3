/- The forms of values, plain: what is laid is read. -/
import Derived.Test.YtpmdkekjoocplaaFa
import Derived.Test.YtpmdkekjoocplaaB
namespace Go.Proofs.Ytpmdkekjoocplaa


/-- a text is ahead of another one -/
def blt (a b : ByteArray) : Bool := Op.bytesLess a.toList b.toList
/-- a text's bytes, and back -/
def sb (s : ByteArray) : List Nat := s.data.toList.map UInt8.toNat
def bs (l : List Nat) : ByteArray := ⟨(l.map UInt8.ofNat).toArray⟩
theorem bs_sb (s : ByteArray) : bs (sb s) = s := by
  unfold bs sb
  rw [List.map_map]
  have : (UInt8.ofNat ∘ UInt8.toNat) = id := by funext x; exact UInt8.ofNat_toNat
  rw [this, List.map_id]
theorem sb_len (s : ByteArray) : (sb s).length = s.size := by
  show (s.data.toList.map UInt8.toNat).length = s.data.size
  rw [List.length_map, Array.length_toList]
/-- the elements' forms, one behind the other, from place j on -/
def encE (m : Bool) (ks : List ByteArray) : List (List Nat) → Nat → List Nat
  | [], _ => []
  | f :: r, j => (if m then shrt (kk ks j).size ++ sb (kk ks j) else []) ++ f ++ encE m ks r (j + 1)
/-- a value's form -/
def enc (V : Val) : List Nat :=
  (V.k.toNat + if V.x then 128 else 0) :: (if V.k = 1 then [V.i.toNat] else if V.k = 2 then shrt (zg V.i) else if V.k = 3 then shrt V.s.size ++ sb V.s else
    if V.k = 6 then [(8 * V.tk + V.to).toNat] else if V.k = 4 ∨ V.k = 5 then shrt V.l.length ++ encE (decide (V.k = 5)) V.ks (V.l.attach.map fun x => enc x.1) 0 else [])
termination_by SizeOf.sizeOf V
decreasing_by exact sizeOf_mem_l x.2
theorem enc_eq (V : Val) : enc V = (V.k.toNat + if V.x then 128 else 0) :: (if V.k = 1 then [V.i.toNat] else if V.k = 2 then shrt (zg V.i) else if V.k = 3 then shrt V.s.size ++ sb V.s else
    if V.k = 6 then [(8 * V.tk + V.to).toNat] else if V.k = 4 ∨ V.k = 5 then shrt V.l.length ++ encE (decide (V.k = 5)) V.ks (V.l.map enc) 0 else []) := by
  rw [enc, List.attach_map_val (f := enc)]
/-- the text that some bytes begin with -/
def gstr (b : List Nat) (most : Nat) : Except Nat (ByteArray × Nat) :=
  match gs 0 b with
  | .error e => .error e
  | .ok (n, k) => if most < n then .error 3 else if b.length - k < n then .error 2 else .ok (bs ((b.drop k).take n), k + n)
/-- n more elements -/
def decE (f : List Nat → Except Nat (Val × Nat)) (m : Bool) : Nat → List ByteArray → List Val → Nat → List Nat → Except Nat (List ByteArray × List Val × Nat)
  | 0, ks, l, u, _ => .ok (ks, l, u)
  | n + 1, ks, l, u, b =>
    if m then
      match gstr b 1024 with
      | .error e => .error e
      | .ok (s, k) =>
        if 0 < ks.length ∧ blt (kk ks (ks.length - 1)) s = false then .error 4
        else match f (b.drop k) with
          | .error e => .error e
          | .ok (x, k2) => decE f m n (ks ++ [s]) (l ++ [x]) (u + k + k2) ((b.drop k).drop k2)
    else match f b with
      | .error e => .error e
      | .ok (x, k2) => decE f m n ks (l ++ [x]) (u + k2) (b.drop k2)
/-- the value whose first byte is b; f: its elements, a level deeper -/
def decB (tok : Nat → Nat → Bool) (f : List Nat → Except Nat (Val × Nat)) (b : Nat) (r : List Nat) : Except Nat (Val × Nat) :=
  if b % 128 = 0 then .ok (.mk 0 0 ⟨#[]⟩ [] [] 0 0 (decide (128 ≤ b)), 1)
  else if b % 128 = 1 then (match r with
    | [] => .error 2
    | c :: _ => if 1 < c then .error 4 else .ok (.mk 1 c ⟨#[]⟩ [] [] 0 0 (decide (128 ≤ b)), 2))
  else if b % 128 = 2 then (match gs 0 r with
    | .error e => .error e
    | .ok (n, u) => .ok (.mk 2 (zag n) ⟨#[]⟩ [] [] 0 0 (decide (128 ≤ b)), 1 + u))
  else if b % 128 = 3 then (match gstr r 1024 with
    | .error e => .error e
    | .ok (s, u) => .ok (.mk 3 0 s [] [] 0 0 (decide (128 ≤ b)), 1 + u))
  else if b % 128 = 6 then (match r with
    | [] => .error 2
    | c :: _ => if tok (c / 8) (c % 8) then .ok (.mk 6 0 ⟨#[]⟩ [] [] (c / 8 : Nat) (c % 8 : Nat) (decide (128 ≤ b)), 2) else .error 4)
  else if b % 128 = 4 ∨ b % 128 = 5 then (match gs 0 r with
    | .error e => .error e
    | .ok (n, u) => if 128 < n then .error 3 else
      match decE f (decide (b % 128 = 5)) n [] [] 0 (r.drop u) with
      | .error e => .error e
      | .ok (ks, l, w) => .ok (.mk (b % 128 : Nat) 0 ⟨#[]⟩ l ks 0 0 (decide (128 ≤ b)), 1 + u + w))
  else .error 4
/-- the value that some bytes begin with, d levels deep at most (tok: which types may be) -/
def dec (tok : Nat → Nat → Bool) : Nat → List Nat → Except Nat (Val × Nat)
  | 0, _ => .error 12
  | d + 1, b => match b with
    | [] => .error 2
    | c :: r => decB tok (dec tok d) c r
theorem dec_cons (tok : Nat → Nat → Bool) (d b : Nat) (r : List Nat) : dec tok (d + 1) (b :: r) = decB tok (dec tok d) b r := rfl
/-- what may be, d levels deep -/
inductive Fine (tok : Nat → Nat → Bool) : Nat → Val → Prop
  | null (d : Nat) (x : Bool) : Fine tok (d + 1) (.mk 0 0 ⟨#[]⟩ [] [] 0 0 x)
  | bool (d : Nat) (i : Int) (x : Bool) (h : i = 0 ∨ i = 1) : Fine tok (d + 1) (.mk 1 i ⟨#[]⟩ [] [] 0 0 x)
  | int (d : Nat) (i : Int) (x : Bool) (h : -9223372036854775808 ≤ i ∧ i ≤ 9223372036854775807) : Fine tok (d + 1) (.mk 2 i ⟨#[]⟩ [] [] 0 0 x)
  | str (d : Nat) (s : ByteArray) (x : Bool) (h : s.size ≤ 1024) : Fine tok (d + 1) (.mk 3 0 s [] [] 0 0 x)
  | unk (d : Nat) (a b : Nat) (x : Bool) (h : tok a b = true) (hb : b < 8) : Fine tok (d + 1) (.mk 6 0 ⟨#[]⟩ [] [] a b x)
  | list (d : Nat) (l : List Val) (x : Bool) (h : l.length ≤ 128) (he : ∀ y, y ∈ l → Fine tok d y) : Fine tok (d + 1) (.mk 4 0 ⟨#[]⟩ l [] 0 0 x)
  | map (d : Nat) (l : List Val) (ks : List ByteArray) (x : Bool) (hk : ks.length = l.length) (h : l.length ≤ 128) (hs : ∀ j, j < ks.length → (kk ks j).size ≤ 1024) (hr : ∀ j, j + 1 < ks.length → blt (kk ks j) (kk ks (j + 1)) = true) (he : ∀ y, y ∈ l → Fine tok d y) : Fine tok (d + 1) (.mk 5 0 ⟨#[]⟩ l ks 0 0 x)
theorem gstr_enc (s : ByteArray) (rest : List Nat) (h : s.size ≤ 1024) : gstr (shrt s.size ++ sb s ++ rest) 1024 = .ok (s, (shrt s.size).length + s.size) := by
  unfold gstr
  rw [List.append_assoc, gs_shrt (sb s ++ rest) s.size 0 (by omega) (by omega) (fun h => by omega)]
  simp only
  rw [if_neg (by omega), if_neg (by simp [sb_len])]
  rw [List.drop_left, List.take_left' (by rw [sb_len]), bs_sb]
theorem decE_list (f : List Nat → Except Nat (Val × Nat)) : ∀ (l : List Val) (l0 : List Val) (u j : Nat) (rest : List Nat), (∀ y, y ∈ l → ∀ r, f (enc y ++ r) = .ok (y, (enc y).length)) →
    decE f false l.length [] l0 u (encE false [] (l.map enc) j ++ rest) = .ok ([], l0 ++ l, u + (encE false [] (l.map enc) j).length)
  | [], l0, u, j, rest, _ => by simp [decE, encE]
  | y :: r, l0, u, j, rest, h => by
    have h1 := h y (by simp)
    have h2 := decE_list f r (l0 ++ [y]) (u + (enc y).length) (j + 1) rest (fun z hz => h z (by simp [hz]))
    simp only [List.length_cons, List.map_cons, encE, decE, Bool.false_eq_true, if_false, List.nil_append, List.append_assoc]
    rw [h1]
    simp only [List.drop_left]
    rw [h2]
    simp [List.length_append, Nat.add_assoc]
theorem kk_take {K : List ByteArray} {j i : Nat} (h : i < j) : kk (K.take j) i = kk K i := by
  unfold kk; rw [List.getD_eq_getElem?_getD, List.getD_eq_getElem?_getD, List.getElem?_take_of_lt h]
theorem take_succ {K : List ByteArray} {j : Nat} (h : j < K.length) : K.take j ++ [kk K j] = K.take (j + 1) := by
  rw [List.take_add_one, List.getElem?_eq_getElem h]
  unfold kk; rw [List.getD_eq_getElem?_getD, List.getElem?_eq_getElem h]; rfl
theorem decE_map (f : List Nat → Except Nat (Val × Nat)) (K : List ByteArray) (hs : ∀ j, j < K.length → (kk K j).size ≤ 1024) (hr : ∀ j, j + 1 < K.length → blt (kk K j) (kk K (j + 1)) = true) : ∀ (l : List Val) (l0 : List Val) (u j : Nat) (rest : List Nat), j + l.length = K.length →
    (∀ y, y ∈ l → ∀ r, f (enc y ++ r) = .ok (y, (enc y).length)) → decE f true l.length (K.take j) l0 u (encE true K (l.map enc) j ++ rest) = .ok (K, l0 ++ l, u + (encE true K (l.map enc) j).length)
  | [], l0, u, j, rest, hj, _ => by
    have : K.take j = K := List.take_of_length_le (by simp at hj; omega)
    simp [decE, encE, this]
  | y :: r, l0, u, j, rest, hj, h => by
    have hjl : j < K.length := by simp at hj; omega
    have h1 := h y (by simp)
    have h2 := decE_map f K hs hr r (l0 ++ [y]) (u + ((shrt (kk K j).size).length + (kk K j).size) + (enc y).length) (j + 1) rest (by simp at hj ⊢; omega) (fun z hz => h z (by simp [hz]))
    have h3 := gstr_enc (kk K j) (enc y ++ (encE true K (r.map enc) (j + 1) ++ rest)) (hs j hjl)
    have hl : ((shrt (kk K j).size ++ sb (kk K j)) : List Nat).length = (shrt (kk K j).size).length + (kk K j).size := by rw [List.length_append, sb_len]
    have hc : ¬ (0 < (K.take j).length ∧ blt (kk (K.take j) ((K.take j).length - 1)) (kk K j) = false) := fun ⟨h4, h5⟩ => by
      rw [List.length_take] at h4 h5
      have e : min j K.length = j := by omega
      rw [e] at h4 h5
      rw [kk_take (by omega)] at h5
      have := hr (j - 1) (by omega)
      rw [show j - 1 + 1 = j by omega, h5] at this
      cases this
    simp only [List.length_cons, List.map_cons, encE, decE, if_true]
    have e1 : shrt (kk K j).size ++ sb (kk K j) ++ enc y ++ encE true K (r.map enc) (j + 1) ++ rest = shrt (kk K j).size ++ sb (kk K j) ++ (enc y ++ (encE true K (r.map enc) (j + 1) ++ rest)) := by simp [List.append_assoc]
    rw [e1, h3]
    simp only
    rw [if_neg hc]
    rw [← hl, List.drop_left, h1]
    simp only
    rw [List.drop_left, take_succ hjl]
    rw [← hl] at h2
    rw [h2]
    simp [List.length_append, Nat.add_assoc, sb_len]
theorem head_mod {k : Nat} (hk : k < 128) (x : Bool) : (k + if x then 128 else 0) % 128 = k := by cases x <;> simp <;> omega
theorem head_mark {k : Nat} (hk : k < 128) (x : Bool) : decide (128 ≤ k + if x then 128 else 0) = x := by cases x <;> simp; omega
/-- what is laid is read as it was, whatever stands behind it -/
theorem dec_enc (tok : Nat → Nat → Bool) : ∀ (d : Nat) (V : Val), Fine tok d V → ∀ rest, dec tok d (enc V ++ rest) = .ok (V, (enc V).length) := by
  intro d
  induction d with
  | zero => intro V h; cases h
  | succ d ih =>
    intro V h rest
    rw [enc_eq]
    cases h with
    | null _ x =>
      show dec tok (d + 1) ((0 + if x then 128 else 0) :: rest) = _
      rw [dec_cons]; unfold decB; rw [head_mod (by omega), if_pos rfl, head_mark (by omega)]; rfl
    | bool _ i x h =>
      show dec tok (d + 1) ((1 + if x then 128 else 0) :: i.toNat :: rest) = _
      have hi : ((i.toNat : Nat) : Int) = i := by omega
      rw [dec_cons]; unfold decB; rw [head_mod (by omega), if_neg (by omega), if_pos rfl, head_mark (by omega)]
      try dsimp only
      rw [if_neg (by omega), hi]; rfl
    | int _ i x h =>
      show dec tok (d + 1) ((2 + if x then 128 else 0) :: (shrt (zg i) ++ rest)) = _
      rw [dec_cons]; unfold decB; rw [head_mod (by omega), if_neg (by omega), if_neg (by omega), if_pos rfl, head_mark (by omega), gs_shrt rest (zg i) 0 (by omega) (by have := zg_lt h.1 h.2; omega) (fun h => by omega)]
      try dsimp only
      rw [zag_zg]
      show _ = Except.ok (_, (shrt (zg i)).length + 1)
      rw [Nat.add_comm]
    | str _ s x h =>
      show dec tok (d + 1) ((3 + if x then 128 else 0) :: (shrt s.size ++ sb s ++ rest)) = _
      rw [dec_cons]; unfold decB; rw [head_mod (by omega), if_neg (by omega), if_neg (by omega), if_neg (by omega), if_pos rfl, head_mark (by omega), gstr_enc s rest h]
      try dsimp only
      show _ = Except.ok (_, (shrt s.size ++ sb s).length + 1)
      rw [List.length_append, sb_len, Nat.add_comm]
    | unk _ a b x h hb =>
      show dec tok (d + 1) ((6 + if x then 128 else 0) :: (8 * (a : Int) + (b : Int)).toNat :: rest) = _
      have e : (8 * (a : Int) + (b : Int)).toNat = 8 * a + b := by omega
      rw [e, dec_cons]; unfold decB; rw [head_mod (by omega), if_neg (by omega), if_neg (by omega), if_neg (by omega), if_neg (by omega), if_pos rfl, head_mark (by omega)]
      try dsimp only
      rw [show (8 * a + b) / 8 = a by omega, show (8 * a + b) % 8 = b by omega, if_pos h]; rfl
    | list _ l x h he =>
      show dec tok (d + 1) ((4 + if x then 128 else 0) :: (shrt l.length ++ encE false [] (l.map enc) 0 ++ rest)) = _
      rw [dec_cons]; unfold decB; rw [head_mod (by omega), if_neg (by omega), if_neg (by omega), if_neg (by omega), if_neg (by omega), if_neg (by omega), if_pos (.inl rfl), head_mark (by omega), List.append_assoc, gs_shrt _ l.length 0 (by omega) (by omega) (fun h => by omega)]
      try dsimp only
      rw [if_neg (by omega), List.drop_left, show (decide ((4 : Nat) = 5)) = false from rfl, decE_list (dec tok d) l [] 0 0 rest (fun y hy r => ih y (he y hy) r)]
      simp only [List.nil_append, Nat.zero_add]
      show _ = Except.ok (_, (shrt l.length ++ encE false [] (l.map enc) 0).length + 1)
      rw [List.length_append]
      congr 2; omega
    | map _ l ks x hk h hs hr he =>
      show dec tok (d + 1) ((5 + if x then 128 else 0) :: (shrt l.length ++ encE true ks (l.map enc) 0 ++ rest)) = _
      have hm := decE_map (dec tok d) ks hs hr l [] 0 0 rest (by omega) (fun y hy r => ih y (he y hy) r)
      rw [List.take_zero] at hm
      rw [dec_cons]; unfold decB; rw [head_mod (by omega), if_neg (by omega), if_neg (by omega), if_neg (by omega), if_neg (by omega), if_neg (by omega), if_pos (.inr rfl), head_mark (by omega), List.append_assoc, gs_shrt _ l.length 0 (by omega) (by omega) (fun h => by omega)]
      try dsimp only
      rw [if_neg (by omega), List.drop_left, show (decide ((5 : Nat) = 5)) = true from rfl, hm]
      simp only [List.nil_append, Nat.zero_add]
      show _ = Except.ok (_, (shrt l.length ++ encE true ks (l.map enc) 0).length + 1)
      rw [List.length_append]
      congr 2; omega
/-- none is the beginning of another one's -/
theorem enc_apart {tok : Nat → Nat → Bool} {d d' : Nat} {V W : Val} (hV : Fine tok d V) (hW : Fine tok d W) {r : List Nat} (_ : d' = d) (h : enc W = enc V ++ r) : V = W := by
  have h1 := dec_enc tok d V hV (r ++ [])
  have h2 := dec_enc tok d W hW []
  rw [h, List.append_assoc] at h2
  rw [h1] at h2
  simp only [Except.ok.injEq, Prod.mk.injEq] at h2
  exact h2.1
end Go.Proofs.Ytpmdkekjoocplaa

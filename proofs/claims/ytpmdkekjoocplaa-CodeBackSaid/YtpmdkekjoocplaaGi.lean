/- The reader: value, by induction on how deep it may be. -/
import Derived.Test.YtpmdkekjoocplaaGh
import Derived.Deep.Cut
namespace Go.Proofs.Ytpmdkekjoocplaa
open Go.RowKit Typ

theorem wf64 {x : Int} (h1 : -9223372036854775808 ≤ x) (h2 : x ≤ 9223372036854775807) : (Lit.int .i64 x).wf = true := by
  simp [Lit.wf, IntKind.min, IntKind.max, IntKind.signed, IntKind.bits]; omega
theorem flat_lies (P : Nat → Prop) (w : World) {k i t1 t2 : Int} {s : ByteArray} (hk : (Lit.int .i64 k).wf = true) (hi : (Lit.int .i64 i).wf = true) (h1 : (Lit.int .i64 t1).wf = true) (h2 : (Lit.int .i64 t2).wf = true) (hs : s.size ≤ maxLen) (x : Bool) :
    LiesP P w (.mk k i s [] [] t1 t2 x) (vv k i s (.slice none 0 0) (.slice none 0 0) t1 t2 x) :=
  .mk (.mk k i s [] [] t1 t2 x) none none 0 0 (fun _ _ => undef) hk hi h1 h2 hs (fun s h => by cases h) (RowP.nil _ _ _ _) (RowP.nil _ _ _ _) fun j x h => by simp [Val.l] at h
section
variable {f : List Nat → Except Nat (Val × Nat)} {rb : Nat} {o : Option Addr} {cap : Nat} {M : List Nat} {at' wt : Nat} {w w' : World} {e : Ending}
theorem val_err {x wt2 z : Nat} {k i : Int} {s : ByteArray} {oL oK : Option Addr} {nL nK cL cK : Nat} {tk to : Int} {m : Bool} (h : f (M.drop at') = .error z) (hz : 0 < z) (hr : Rd w rb o cap M x wt2 w') (he : e = .returned (.tuple #[vv k i s (.slice oL nL cL) (.slice oK nK cK) tk to m, .int .i64 z])) : ValPost f rb o cap M at' wt w e w' := by
  refine ⟨x, wt2, hr.r, hr.x, k, i, s, oL, nL, cL, oK, nK, cK, tk, to, m, z, he, ?_⟩
  rw [h]; exact ⟨rfl, hz⟩
theorem val_ok {x wt2 u : Nat} {V V' : Val} {k i : Int} {s : ByteArray} {oL oK : Option Addr} {nL nK cL cK : Nat} {tk to : Int} {m : Bool} (h : f (M.drop at') = .ok (V, u)) (hx : x = at' + u) (hw : wt2 = wt + weight V) (hr : Rd w rb o cap M x wt2 w') (hl : LiesP (fun b => w.heap.size ≤ b ∧ b < w'.heap.size) w' V' (vv k i s (.slice oL nL cL) (.slice oK nK cK) tk to m)) (hs : wt2 ≤ 512 → V' = V)
    (he : e = .returned (.tuple #[vv k i s (.slice oL nL cL) (.slice oK nK cK) tk to m, .int .i64 0])) : ValPost f rb o cap M at' wt w e w' := by
  refine ⟨x, wt2, hr.r, hr.x, k, i, s, oL, nL, cL, oK, nK, cK, tk, to, m, 0, he, ?_⟩
  rw [h]; exact ⟨rfl, hx, hw, V', hl, hs⟩
end
/-- the first byte's kind and mark -/
theorem kind_eq (c : Nat) : (c : Int) * 2 % 256 / 2 = ((c % 128 : Nat) : Int) := by omega
theorem mark_eq (c : Nat) (h : c < 256) : (((c : Int) / 128) != 0) = decide (128 ≤ c) := by
  by_cases h2 : 128 ≤ c
  · rw [decide_eq_true h2, bne_iff_ne]; omega
  · rw [decide_eq_false h2, bne_eq_false_iff_eq]; omega
abbrev zero8 : Array Value := #[.int .i64 0, .int .i64 0, .string ⟨#[]⟩, .slice none 0 0, .slice none 0 0, .int .i64 0, .int .i64 0, .bool false]
abbrev head8 (K : Int) (S : Bool) : Array Value := #[.int .i64 K, .int .i64 0, .string ⟨#[]⟩, .slice none 0 0, .slice none 0 0, .int .i64 0, .int .i64 0, .bool S]
/-- a block of eight cells -/
structure B8 (w : World) (b : Nat) (a0 a1 a2 a3 a4 a5 a6 a7 : Value) : Prop where
  c0 : w.cell? ⟨b, 0, none⟩ = some a0
  c1 : w.cell? ⟨b, 1, none⟩ = some a1
  c2 : w.cell? ⟨b, 2, none⟩ = some a2
  c3 : w.cell? ⟨b, 3, none⟩ = some a3
  c4 : w.cell? ⟨b, 4, none⟩ = some a4
  c5 : w.cell? ⟨b, 5, none⟩ = some a5
  c6 : w.cell? ⟨b, 6, none⟩ = some a6
  c7 : w.cell? ⟨b, 7, none⟩ = some a7
  f0 : w.frozen? ⟨b, 0, none⟩ = false
  f1 : w.frozen? ⟨b, 1, none⟩ = false
  f2 : w.frozen? ⟨b, 2, none⟩ = false
  f3 : w.frozen? ⟨b, 3, none⟩ = false
  f4 : w.frozen? ⟨b, 4, none⟩ = false
  f5 : w.frozen? ⟨b, 5, none⟩ = false
  f6 : w.frozen? ⟨b, 6, none⟩ = false
  f7 : w.frozen? ⟨b, 7, none⟩ = false
  lt : b < w.heap.size
theorem b8_of {w : World} {b : Nat} {a0 a1 a2 a3 a4 a5 a6 a7 : Value} (h : w.heap[b]? = some (.cells #[a0, a1, a2, a3, a4, a5, a6, a7] 30 (0, 0))) : B8 w b a0 a1 a2 a3 a4 a5 a6 a7 :=
  ⟨cell_of_row w b 0 _ _ _ h, cell_of_row w b 1 _ _ _ h, cell_of_row w b 2 _ _ _ h, cell_of_row w b 3 _ _ _ h, cell_of_row w b 4 _ _ _ h, cell_of_row w b 5 _ _ _ h, cell_of_row w b 6 _ _ _ h, cell_of_row w b 7 _ _ _ h,
   frozen_of_row w b 0 _ _ h, frozen_of_row w b 1 _ _ h, frozen_of_row w b 2 _ _ h, frozen_of_row w b 3 _ _ h, frozen_of_row w b 4 _ _ h, frozen_of_row w b 5 _ _ h, frozen_of_row w b 6 _ _ h, frozen_of_row w b 7 _ _ h, (Array.getElem?_eq_some_iff.1 h).1⟩
theorem below_set1 {B k : Nat} {a w : World} (h : Below B a w) (hk : B ≤ k) (j : Nat) (v : Value) : Below B a (w.setCell ⟨k, j, none⟩ v) := Below.setCell h (p := ⟨k, j, none⟩) hk v
theorem below_set8 {B k : Nat} {a w : World} (h : Below B a w) (hk : B ≤ k) (v0 v1 v2 v3 v4 v5 v6 v7 : Value) :
    Below B a ((((((((w.setCell ⟨k, 0, none⟩ v0).setCell ⟨k, 1, none⟩ v1).setCell ⟨k, 2, none⟩ v2).setCell ⟨k, 3, none⟩ v3).setCell ⟨k, 4, none⟩ v4).setCell ⟨k, 5, none⟩ v5).setCell ⟨k, 6, none⟩ v6).setCell ⟨k, 7, none⟩ v7) := by
  have h0 := below_set1 h hk 0 v0
  have h1 := below_set1 h0 hk 1 v1
  have h2 := below_set1 h1 hk 2 v2
  have h3 := below_set1 h2 hk 3 v3
  have h4 := below_set1 h3 hk 4 v4
  have h5 := below_set1 h4 hk 5 v5
  have h6 := below_set1 h5 hk 6 v6
  exact below_set1 h6 hk 7 v7
set_option maxHeartbeats 2000000 in
theorem value_deep : ValHolds 9 (dec tok 0) := by
  intro rb o cap M at' wt w R
  have hrb := R.lt
  have HR : Hid (Rd w rb o cap M at' wt w) := ⟨R, Exc.refl _ _⟩
  have HB0 := Lib.hid ((Below.refl w.heap.size w).alloc (Nat.le_refl _) (.cells zero8 30))
  clear R
  go_enter Try.func15, Try.ntmps15
  go_wp2_with fail
  exact bodyPost_ret (v := .tuple #[vv 0 0 ⟨#[]⟩ (.slice none 0 0) (.slice none 0 0) 0 0 false, .int .i64 12]) (by simp [results, Try.results15, go_sem]) rfl (val_err (z := 12) rfl (by omega) (HR.out.also hrb HB0.out) rfl)
theorem weight_flat (k i : Int) (s : ByteArray) (ks : List ByteArray) (a b : Int) (x : Bool) : weight (.mk k i s [] ks a b x) = 1 := by rw [weight_eq]; simp [els, Val.l]
theorem weight_el4 {l : List Val} {ks : List ByteArray} {x : Bool} : weight (.mk 4 0 ⟨#[]⟩ l ks 0 0 x) = 1 + (l.map weight).sum := by
  rw [weight_eq]
  have : els (.mk 4 0 ⟨#[]⟩ l ks 0 0 x) = l := by unfold els cnt; simp [Val.l, Val.k]
  rw [this]
theorem weight_el5 {l : List Val} {ks : List ByteArray} {x : Bool} (h : ks.length = l.length) : weight (.mk 5 0 ⟨#[]⟩ l ks 0 0 x) = 1 + (l.map weight).sum := by
  rw [weight_eq]
  have : els (.mk 5 0 ⟨#[]⟩ l ks 0 0 x) = l := by unfold els cnt; simp [Val.l, Val.k, Val.ks, h]
  rw [this]
theorem decB_el4 {f : List Nat → Except Nat (Val × Nat)} {c : Nat} {r : List Nat} (h : c % 128 = 4) : decB tok f c r = match elR f false r with
    | .error e => .error e
    | .ok (ks, l, u) => .ok (.mk 4 0 ⟨#[]⟩ l ks 0 0 (decide (128 ≤ c)), 1 + u) := by
  unfold decB elR
  rw [h, if_neg (by decide), if_neg (by decide), if_neg (by decide), if_neg (by decide), if_neg (by decide), if_pos (.inl rfl)]
  cases gs 0 r with
  | error e => rfl
  | ok q =>
    obtain ⟨n, u⟩ := q
    simp only
    split
    · rfl
    · rw [show decide ((4 : Nat) = 5) = false from rfl]
      cases decE f false n [] [] 0 (r.drop u) with
      | error e => rfl
      | ok q => obtain ⟨ks, l, w⟩ := q; simp only [Nat.add_assoc]; rfl
theorem decB_el5 {f : List Nat → Except Nat (Val × Nat)} {c : Nat} {r : List Nat} (h : c % 128 = 5) : decB tok f c r = match elR f true r with
    | .error e => .error e
    | .ok (ks, l, u) => .ok (.mk 5 0 ⟨#[]⟩ l ks 0 0 (decide (128 ≤ c)), 1 + u) := by
  unfold decB elR
  rw [h, if_neg (by decide), if_neg (by decide), if_neg (by decide), if_neg (by decide), if_neg (by decide), if_pos (.inr rfl)]
  cases gs 0 r with
  | error e => rfl
  | ok q =>
    obtain ⟨n, u⟩ := q
    simp only
    split
    · rfl
    · rw [show decide (True) = true from rfl]
      cases decE f true n [] [] 0 (r.drop u) with
      | error e => rfl
      | ok q => obtain ⟨ks, l, w⟩ := q; simp only [Nat.add_assoc]; rfl
theorem unkV_ok {c : Nat} {r : List Nat} (h : tok (c / 8) (c % 8) = true) : unkV (c :: r) = .returned (.tuple #[ty ((c / 8 : Nat) : Int) ((c % 8 : Nat) : Int), .int .i64 0]) := by
  unfold tok at h; show (if okB ((c / 8 : Nat) : Int) ((c % 8 : Nat) : Int) then _ else _) = _; rw [if_pos h]
theorem unkV_bad {c : Nat} {r : List Nat} (h : ¬ tok (c / 8) (c % 8) = true) : unkV (c :: r) = .returned (.tuple #[ty 0 0, .int .i64 4]) := by
  unfold tok at h; show (if okB ((c / 8 : Nat) : Int) ((c % 8 : Nat) : Int) then _ else _) = _; rw [if_neg h]
theorem RowP.congr {P : Nat → Prop} {w : World} {o : Option Addr} {cap len z : Nat} {c c' : Nat → Nat → Value} (h : RowP P w o cap len z c) (e : ∀ j, j < len → ∀ m, m < z → c j m = c' j m) : RowP P w o cap len z c' := by
  obtain ⟨h1, h2, h3, h4⟩ := h
  refine ⟨h1, h2, h3, fun h0 => ?_⟩
  obtain ⟨b, off, e1, hb, hc⟩ := h4 h0
  exact ⟨b, off, e1, hb, fun j hj m hm => by rw [hc j hj m hm, e j hj m hm]⟩
theorem Els.lies {w0 wr : World} {rb : Nat} {o : Option Addr} {cap : Nat} {M : List Nat} {ks : List ByteArray} {l : List Val} {vk vl : Value} {cs : List Value} {x wt : Nat} (h : Els w0 rb o cap M ks l vk vl cs x wt wr) (k : Int) (S : Bool) (wk : (Lit.int .i64 k).wf = true) :
    ∃ oL cL oK cK, vl = .slice oL l.length cL ∧ vk = .slice oK ks.length cK ∧ ∀ (P : Nat → Prop) (w' : World), (∀ b, w0.heap.size ≤ b → b < wr.heap.size → P b ∧ w'.heap[b]? = wr.heap[b]?) → LiesP P w' (.mk k 0 ⟨#[]⟩ l ks 0 0 S) (vv k 0 ⟨#[]⟩ (.slice oL l.length cL) (.slice oK ks.length cK) 0 0 S) := by
  obtain ⟨oL, cL, hl, rL⟩ := row_of_own h.ol
  obtain ⟨oK, cK, hk, rK⟩ := row_of_own h.ok
  refine ⟨oL, cL, oK, cK, hl, hk, fun P w' hb => ?_⟩
  refine .mk (.mk k 0 ⟨#[]⟩ l ks 0 0 S) oL oK cL cK (ce cs) wk rfl rfl rfl (show (0 : Nat) ≤ maxLen from Nat.zero_le _) (fun s hs => by have := h.kz s hs; unfold maxLen; omega) (rL.keptP fun b ⟨h1, h2⟩ => hb b h1 h2) ((rK.keptP fun b ⟨h1, h2⟩ => hb b h1 h2).congr fun j hj m hm => ?_) fun j X hX => (h.el j X hX).keptP fun b ⟨h1, h2, _, _⟩ => hb b h1 h2
  obtain rfl : m = 0 := by omega
  show (kcs ks).getD (j * 1 + 0) undef = .string (ks.getD j default)
  unfold kcs
  rw [Nat.mul_one, Nat.add_zero, List.getD_eq_getElem?_getD, List.getD_eq_getElem?_getD, List.getElem?_map, List.getElem?_eq_getElem hj]
  rfl
theorem heap_set8 {w : World} {k b : Nat} (h : b ≠ k) {v0 v1 v2 v3 v4 v5 v6 v7 : Value} : ((((((((w.setCell ⟨k, 0, none⟩ v0).setCell ⟨k, 1, none⟩ v1).setCell ⟨k, 2, none⟩ v2).setCell ⟨k, 3, none⟩ v3).setCell ⟨k, 4, none⟩ v4).setCell ⟨k, 5, none⟩ v5).setCell ⟨k, 6, none⟩ v6).setCell ⟨k, 7, none⟩ v7).heap[b]? = w.heap[b]? := by
  rw [heap_setCell_other _ _ _ _ h, heap_setCell_other _ _ _ _ h, heap_setCell_other _ _ _ _ h, heap_setCell_other _ _ _ _ h, heap_setCell_other _ _ _ _ h, heap_setCell_other _ _ _ _ h, heap_setCell_other _ _ _ _ h, heap_setCell_other _ _ _ _ h]
set_option maxHeartbeats 2000000 in
theorem value_next {d : Nat} (hd : d ≤ 7) (HV : ValHolds ((9 - d : Nat) : Int) (dec tok d)) : ValHolds ((8 - d : Nat) : Int) (dec tok (d + 1)) := by
  intro rb o cap M at' wt w R
  have hrb := R.lt
  have hlen : (M.drop at').length = M.length - at' := List.length_drop
  have hM : ∀ c, c ∈ M.drop at' → c < 256 := fun c hc => R.B.b c (List.mem_of_mem_drop hc)
  have S : ∀ w0, Below w.heap.size w w0 → Calls Try.prog 23 #[.pointer (some ⟨rb, 0, none⟩)] w0 fun e w' => e = octV (M.drop at') ∧ Rd w0 rb o cap M (min M.length (at' + 1)) wt w' := fun w0 b => octet_any (R.kept b hrb)
  have HB0 := Lib.hid ((Below.refl w.heap.size w).alloc (Nat.le_refl _) (.cells zero8 30))
  have C0 : Hid ((w.alloc (.cells zero8 30)).heap[w.heap.size]? = some (.cells zero8 30 (0, 0))) := heap_alloc_new _ _
  have HZ : Hid ((w.alloc (.cells zero8 30)).heap.size = w.heap.size + 1) := by simp [Hid]
  have hwl := R.wle
  have hdep : ¬ (8 : Int) < ((8 - d : Nat) : Int) := by omega
  obtain ⟨D, hD⟩ : ∃ D : Int, ((8 - d : Nat) : Int) = D := ⟨_, rfl⟩
  have hD1 : ((9 - d : Nat) : Int) = D + 1 := by omega
  rw [hD1] at HV
  rw [hD] at hdep ⊢
  have hDb : 0 ≤ D ∧ D ≤ 8 := by omega
  obtain ⟨hDb1, hDb2⟩ := hDb
  have HVV := Lib.hid HV
  have HS := Lib.hid S
  have HM := Lib.hid (And.intro hlen hM)
  clear HV S R hlen hM hD hD1
  cases hd : M.drop at' with
  | nil =>
    have HQ : Hid (dec tok (d + 1) (M.drop at') = .error 2) := by unfold Hid; rw [hd]; rfl
    rw [hd] at HS
    clear hd
    go_enter Try.func15, Try.ntmps15
    go_wp2_with fail
    generalize w.alloc _ = w0 at *
    refine (HS.out w0 HB0.out).mono ?_
    rintro e w1 ⟨rfl, hR⟩
    have HR := Lib.hid (Rd.ahead HB0.out hR)
    have C1 : Hid (w1.heap[w.heap.size]? = some (.cells zero8 30 (0, 0))) := (hR.x.block _ (by have := HZ.out; omega) (by intro e; injection e with e; omega)).trans C0.out
    clear hR
    obtain ⟨y0, y1, y2, y3, y4, y5, y6, y7, z0, z1, z2, z3, z4, z5, z6, z7, zl⟩ := b8_of C1.out
    unfold octV
    go_wp2_with fail
    refine bodyPost_ret (v := .tuple #[vv 0 0 ⟨#[]⟩ (.slice none 0 0) (.slice none 0 0) 0 0 false, .int .i64 2]) (by simp [results, Try.results15, go_sem, y0, y1, y2, y3, y4, y5, y6, y7]) rfl ?_
    exact val_err HQ.out (by omega) (HR.out.also hrb (below_set8 (Below.refl _ _) (Nat.le_refl _) _ _ _ _ _ _ _ _)) rfl
  | cons c r =>
    have hdr : M.drop (at' + 1) = r := by rw [← List.drop_drop, hd]; rfl
    have hlt : at' < M.length := by have := HM.out.1; rw [hd] at this; simp at this; omega
    have hc : c < 256 := HM.out.2 c (by rw [hd]; simp)
    have HD : Hid (dec tok (d + 1) (M.drop at') = decB tok (dec tok d) c (M.drop (at' + 1))) := by unfold Hid; rw [hd, hdr]; rfl
    rw [hd, show min M.length (at' + 1) = at' + 1 by omega] at HS
    clear hd hdr
    obtain ⟨K, hK⟩ : ∃ K : Nat, c % 128 = K := ⟨_, rfl⟩
    obtain ⟨S, hS⟩ : ∃ S : Bool, decide (128 ≤ c) = S := ⟨_, rfl⟩
    have hk1 : (c : Int) * 2 % 256 / 2 = (K : Int) := by rw [kind_eq, hK]
    have hs1 : (((c : Int) / 128) != 0) = S := by rw [mark_eq c hc, hS]
    have HKS := Lib.hid (And.intro hK hS)
    have hK8 : K < 128 := by omega
    clear hK hS
    go_enter Try.func15, Try.ntmps15
    go_wp2_with fail
    generalize w.alloc _ = w0 at *
    refine (HS.out w0 HB0.out).mono ?_
    rintro e w1 ⟨rfl, hR⟩
    have HR := Lib.hid (Rd.ahead HB0.out hR)
    have C1 : Hid (w1.heap[w.heap.size]? = some (.cells zero8 30 (0, 0))) := (hR.x.block _ (by have := HZ.out; omega) (by intro e; injection e with e; omega)).trans C0.out
    obtain ⟨q0, q1, q2, q3, q4, q5⟩ := hR.r.rc
    have wle := hR.r.wle
    have l1 := hR.r.B.row.1
    have l2 := hR.r.B.row.2.1
    unfold maxLen at l2
    clear hR HS
    unfold octV
    have hl3 : M.length ≤ 9223372036854775807 := by omega
    have RW : Hid (Rdr ((w1.setCell ⟨rb, 2, none⟩ (.int .i64 ((wt : Int) + 1))).alloc (.cells (head8 K S) 30)) rb o cap M (at' + 1) (wt + 1)) :=
      (HR.out.r.set2 (x := wt + 1) (by omega) (congrArg _ (by omega))).kept ((Below.refl _ _).alloc (Nat.le_refl _) _) (by simp; exact q5)
    have XW : Hid (Exc (some rb) w ((w1.setCell ⟨rb, 2, none⟩ (.int .i64 ((wt : Int) + 1))).alloc (.cells (head8 K S) 30))) :=
      (HR.out.x.trans exc_set).trans (Exc.of_below ((Below.refl _ _).alloc (Nat.le_refl _) _))
    have hsz1 := (Array.getElem?_eq_some_iff.1 C1.out).1
    have CW : Hid (((w1.setCell ⟨rb, 2, none⟩ (.int .i64 ((wt : Int) + 1))).alloc (.cells (head8 K S) 30)).heap[w.heap.size]? = some (.cells zero8 30 (0, 0))) :=
      ((Below.heap_alloc _ _ _ (by simp; exact hsz1)).trans (heap_setCell_other _ _ _ _ (show w.heap.size ≠ rb by omega))).trans C1.out
    have DW : Hid (((w1.setCell ⟨rb, 2, none⟩ (.int .i64 ((wt : Int) + 1))).alloc (.cells (head8 K S) 30)).heap[w1.heap.size]? = some (.cells (head8 K S) 30 (0, 0))) := by
      have := heap_alloc_new (w1.setCell ⟨rb, 2, none⟩ (.int .i64 ((wt : Int) + 1))) (.cells (head8 K S) 30)
      simpa [Hid] using this
    have hz2 : w1.heap.size < ((w1.setCell ⟨rb, 2, none⟩ (.int .i64 ((wt : Int) + 1))).alloc (.cells (head8 K S) 30)).heap.size := by simp
    have hb8 : w.heap.size ≤ w1.heap.size := by omega
    go_upto_region 8 with fail
    clear q0 q1 q2 q3 q4 q5 C1 HR
    generalize World.alloc _ _ = W at *
    have hrb8 : rb < w1.heap.size := by omega
    generalize w1.heap.size = b8 at *
    have hz1 : w.heap.size < W.heap.size := by omega
    have hK7 : K = 0 ∨ K = 1 ∨ K = 2 ∨ K = 3 ∨ K = 4 ∨ K = 5 ∨ K = 6 ∨ 7 ≤ K := by omega
    clear hk1 hs1
    rcases hK7 with h0 | h1 | h2 | h3 | h4 | h5 | h6 | h7
    · subst h0
      obtain ⟨p0, p1, p2, p3, p4, p5, p6, p7, t0, t1, t2, t3, t4, t5, t6, t7, tl⟩ := b8_of DW.out
      have HQ : Hid (dec tok (d + 1) (M.drop at') = .ok (.mk 0 0 ⟨#[]⟩ [] [] 0 0 S, 1)) := by unfold Hid; rw [HD.out]; unfold decB; rw [HKS.out.1, if_pos rfl, HKS.out.2]; try rfl
      obtain ⟨y0, y1, y2, y3, y4, y5, y6, y7, z0, z1, z2, z3, z4, z5, z6, z7, zl⟩ := b8_of CW.out
      go_wp2_with fail
      refine bodyPost_ret (v := .tuple #[vv 0 0 ⟨#[]⟩ (.slice none 0 0) (.slice none 0 0) 0 0 S, .int .i64 0]) (by simp [results, Try.results15, go_sem, y0, y1, y2, y3, y4, y5, y6, y7]) rfl ?_
      exact val_ok HQ.out rfl (by rw [weight_flat]) (Rd.also ⟨RW.out, XW.out⟩ hrb (below_set8 (Below.refl _ _) (Nat.le_refl _) _ _ _ _ _ _ _ _)) (flat_lies _ _ rfl rfl rfl rfl (by unfold maxLen; decide) S) (fun _ => rfl) rfl
    · subst h1
      obtain ⟨p0, p1, p2, p3, p4, p5, p6, p7, t0, t1, t2, t3, t4, t5, t6, t7, tl⟩ := b8_of DW.out
      have hM1 : ∀ c, c ∈ M.drop (at' + 1) → c < 256 := fun c hc => RW.out.B.b c (List.mem_of_mem_drop hc)
      have TR := truth_any RW.out
      cases hr : M.drop (at' + 1) with
      | nil =>
        have HQ : Hid (dec tok (d + 1) (M.drop at') = .error 2) := by unfold Hid; rw [HD.out]; unfold decB; rw [HKS.out.1, if_neg (by decide), if_pos rfl, hr]; try rfl
        rw [hr] at TR
        have HT := Lib.hid TR
        clear TR hr hM1
        go_wp2_with fail
        refine (HT.out).mono ?_
        rintro e w4 ⟨rfl, hR⟩
        have R4 : Hid (Rd w rb o cap M _ (wt + 1) w4) := ⟨hR.r, XW.out.trans hR.x⟩
        have C4 : Hid (w4.heap[w.heap.size]? = some (.cells zero8 30 (0, 0))) := (hR.x.block _ hz1 (by intro e; injection e with e; omega)).trans CW.out
        have C8 : Hid (w4.heap[b8]? = some (.cells (head8 1 S) 30 (0, 0))) := (hR.x.block _ hz2 (by intro e; injection e with e; omega)).trans DW.out
        clear hR p0 p1 p2 p3 p4 p5 p6 p7 t0 t1 t2 t3 t4 t5 t6 t7 tl
        obtain ⟨y0, y1, y2, y3, y4, y5, y6, y7, z0, z1, z2, z3, z4, z5, z6, z7, zl⟩ := b8_of C4.out
        obtain ⟨p0, p1, p2, p3, p4, p5, p6, p7, t0, t1, t2, t3, t4, t5, t6, t7, tl⟩ := b8_of C8.out
        unfold truV
        go_wp2_with fail
        refine bodyPost_ret (v := .tuple #[vv 1 0 ⟨#[]⟩ (.slice none 0 0) (.slice none 0 0) 0 0 S, .int .i64 2]) (by simp [results, Try.results15, go_sem, y0, y1, y2, y3, y4, y5, y6, y7]) rfl ?_
        exact val_err HQ.out (by omega) (R4.out.also hrb (below_set8 (below_set1 (Below.refl _ _) hb8 1 _) (Nat.le_refl _) _ _ _ _ _ _ _ _)) rfl
      | cons c2 r2 =>
        have hc2 := hM1 c2 (by rw [hr]; simp)
        have hlen1 : at' + 1 < M.length := by
          have h5 : (M.drop (at' + 1)).length = M.length - (at' + 1) := List.length_drop
          rw [hr] at h5; simp at h5; omega
        by_cases h1 : 1 < c2
        · have HQ : Hid (dec tok (d + 1) (M.drop at') = .error 4) := by unfold Hid; rw [HD.out]; unfold decB; rw [HKS.out.1, if_neg (by decide), if_pos rfl, hr]; simp only; rw [if_pos h1]
          rw [hr, truV_bad h1] at TR
          have HT := Lib.hid TR
          clear TR hr hM1
          go_wp2_with fail
          refine (HT.out).mono ?_
          rintro e w4 ⟨rfl, hR⟩
          have R4 : Hid (Rd w rb o cap M _ (wt + 1) w4) := ⟨hR.r, XW.out.trans hR.x⟩
          have C4 : Hid (w4.heap[w.heap.size]? = some (.cells zero8 30 (0, 0))) := (hR.x.block _ hz1 (by intro e; injection e with e; omega)).trans CW.out
          have C8 : Hid (w4.heap[b8]? = some (.cells (head8 1 S) 30 (0, 0))) := (hR.x.block _ hz2 (by intro e; injection e with e; omega)).trans DW.out
          clear hR p0 p1 p2 p3 p4 p5 p6 p7 t0 t1 t2 t3 t4 t5 t6 t7 tl
          obtain ⟨y0, y1, y2, y3, y4, y5, y6, y7, z0, z1, z2, z3, z4, z5, z6, z7, zl⟩ := b8_of C4.out
          obtain ⟨p0, p1, p2, p3, p4, p5, p6, p7, t0, t1, t2, t3, t4, t5, t6, t7, tl⟩ := b8_of C8.out
          go_wp2_with fail
          refine bodyPost_ret (v := .tuple #[vv 1 c2 ⟨#[]⟩ (.slice none 0 0) (.slice none 0 0) 0 0 S, .int .i64 4]) (by simp [results, Try.results15, go_sem, y0, y1, y2, y3, y4, y5, y6, y7]) rfl ?_
          exact val_err HQ.out (by omega) (R4.out.also hrb (below_set8 (below_set1 (Below.refl _ _) hb8 1 _) (Nat.le_refl _) _ _ _ _ _ _ _ _)) rfl
        · have HQ : Hid (dec tok (d + 1) (M.drop at') = .ok (.mk 1 c2 ⟨#[]⟩ [] [] 0 0 S, 2)) := by unfold Hid; rw [HD.out]; unfold decB; rw [HKS.out.1, if_neg (by decide), if_pos rfl, hr]; simp only; rw [if_neg h1, HKS.out.2]
          rw [hr, truV_ok h1] at TR
          have HT := Lib.hid TR
          clear TR hr hM1
          go_wp2_with fail
          refine (HT.out).mono ?_
          rintro e w4 ⟨rfl, hR⟩
          have R4 : Hid (Rd w rb o cap M _ (wt + 1) w4) := ⟨hR.r, XW.out.trans hR.x⟩
          have C4 : Hid (w4.heap[w.heap.size]? = some (.cells zero8 30 (0, 0))) := (hR.x.block _ hz1 (by intro e; injection e with e; omega)).trans CW.out
          have C8 : Hid (w4.heap[b8]? = some (.cells (head8 1 S) 30 (0, 0))) := (hR.x.block _ hz2 (by intro e; injection e with e; omega)).trans DW.out
          clear hR p0 p1 p2 p3 p4 p5 p6 p7 t0 t1 t2 t3 t4 t5 t6 t7 tl
          obtain ⟨y0, y1, y2, y3, y4, y5, y6, y7, z0, z1, z2, z3, z4, z5, z6, z7, zl⟩ := b8_of C4.out
          obtain ⟨p0, p1, p2, p3, p4, p5, p6, p7, t0, t1, t2, t3, t4, t5, t6, t7, tl⟩ := b8_of C8.out
          go_wp2_with fail
          refine bodyPost_ret (v := .tuple #[vv 1 c2 ⟨#[]⟩ (.slice none 0 0) (.slice none 0 0) 0 0 S, .int .i64 0]) (by simp [results, Try.results15, go_sem, y0, y1, y2, y3, y4, y5, y6, y7]) rfl ?_
          exact val_ok HQ.out (by omega) (by rw [weight_flat]) (R4.out.also hrb (below_set8 (below_set1 (Below.refl _ _) hb8 1 _) (Nat.le_refl _) _ _ _ _ _ _ _ _)) (flat_lies _ _ rfl (wf64 (by omega) (by omega)) rfl rfl (by unfold maxLen; decide) S) (fun _ => rfl) rfl
    · subst h2
      obtain ⟨p0, p1, p2, p3, p4, p5, p6, p7, t0, t1, t2, t3, t4, t5, t6, t7, tl⟩ := b8_of DW.out
      have hM1 : ∀ c, c ∈ M.drop (at' + 1) → c < 256 := fun c hc => RW.out.B.b c (List.mem_of_mem_drop hc)
      have TR := number_any RW.out
      cases hr : gs 0 (M.drop (at' + 1)) with
      | error z =>
        have hz0 : 0 < z := by have := gs_err _ _ _ hr; omega
        have HQ : Hid (dec tok (d + 1) (M.drop at') = .error z) := by unfold Hid; rw [HD.out]; unfold decB; rw [HKS.out.1, if_neg (by decide), if_neg (by decide), if_pos rfl, hr]; try rfl
        rw [hr] at TR
        have HT := Lib.hid TR
        clear TR hr hM1
        go_wp2_with fail
        refine (HT.out).mono ?_
        rintro e w4 ⟨rfl, hR⟩
        have R4 : Hid (Rd w rb o cap M _ (wt + 1) w4) := ⟨hR.r, XW.out.trans hR.x⟩
        have C4 : Hid (w4.heap[w.heap.size]? = some (.cells zero8 30 (0, 0))) := (hR.x.block _ hz1 (by intro e; injection e with e; omega)).trans CW.out
        have C8 : Hid (w4.heap[b8]? = some (.cells (head8 2 S) 30 (0, 0))) := (hR.x.block _ hz2 (by intro e; injection e with e; omega)).trans DW.out
        clear hR p0 p1 p2 p3 p4 p5 p6 p7 t0 t1 t2 t3 t4 t5 t6 t7 tl
        obtain ⟨y0, y1, y2, y3, y4, y5, y6, y7, z0, z1, z2, z3, z4, z5, z6, z7, zl⟩ := b8_of C4.out
        obtain ⟨p0, p1, p2, p3, p4, p5, p6, p7, t0, t1, t2, t3, t4, t5, t6, t7, tl⟩ := b8_of C8.out
        unfold numV
        go_wp2_with fail
        refine bodyPost_ret (v := .tuple #[vv 2 0 ⟨#[]⟩ (.slice none 0 0) (.slice none 0 0) 0 0 S, .int .i64 z]) (by simp [results, Try.results15, go_sem, y0, y1, y2, y3, y4, y5, y6, y7]) rfl ?_
        exact val_err HQ.out (by omega) (R4.out.also hrb (below_set8 (below_set1 (Below.refl _ _) hb8 1 _) (Nat.le_refl _) _ _ _ _ _ _ _ _)) rfl
      | ok q =>
        obtain ⟨n, u⟩ := q
        have hb := gs_bd hM1 0 n u (by omega) hr
        have hzb : -9223372036854775808 ≤ zag n ∧ zag n ≤ 9223372036854775807 := by unfold zag; split <;> omega
        have HQ : Hid (dec tok (d + 1) (M.drop at') = .ok (.mk 2 (zag n) ⟨#[]⟩ [] [] 0 0 S, 1 + u)) := by unfold Hid; rw [HD.out]; unfold decB; rw [HKS.out.1, if_neg (by decide), if_neg (by decide), if_pos rfl, hr, HKS.out.2]; try rfl
        rw [hr] at TR
        have HT := Lib.hid TR
        have HZB := Lib.hid hzb
        clear TR hr hM1 hb hzb
        go_wp2_with fail
        refine (HT.out).mono ?_
        rintro e w4 ⟨rfl, hR⟩
        have R4 : Hid (Rd w rb o cap M _ (wt + 1) w4) := ⟨hR.r, XW.out.trans hR.x⟩
        have C4 : Hid (w4.heap[w.heap.size]? = some (.cells zero8 30 (0, 0))) := (hR.x.block _ hz1 (by intro e; injection e with e; omega)).trans CW.out
        have C8 : Hid (w4.heap[b8]? = some (.cells (head8 2 S) 30 (0, 0))) := (hR.x.block _ hz2 (by intro e; injection e with e; omega)).trans DW.out
        clear hR p0 p1 p2 p3 p4 p5 p6 p7 t0 t1 t2 t3 t4 t5 t6 t7 tl
        obtain ⟨y0, y1, y2, y3, y4, y5, y6, y7, z0, z1, z2, z3, z4, z5, z6, z7, zl⟩ := b8_of C4.out
        obtain ⟨p0, p1, p2, p3, p4, p5, p6, p7, t0, t1, t2, t3, t4, t5, t6, t7, tl⟩ := b8_of C8.out
        unfold numV
        go_wp2_with fail
        refine bodyPost_ret (v := .tuple #[vv 2 (zag n) ⟨#[]⟩ (.slice none 0 0) (.slice none 0 0) 0 0 S, .int .i64 0]) (by simp [results, Try.results15, go_sem, y0, y1, y2, y3, y4, y5, y6, y7]) rfl ?_
        exact val_ok HQ.out (by show at' + 1 + u = at' + (1 + u); omega) (by rw [weight_flat]) (R4.out.also hrb (below_set8 (below_set1 (Below.refl _ _) hb8 1 _) (Nat.le_refl _) _ _ _ _ _ _ _ _)) (flat_lies _ _ rfl (wf64 HZB.out.1 HZB.out.2) rfl rfl (by unfold maxLen; decide) S) (fun _ => rfl) rfl
    · subst h3
      obtain ⟨p0, p1, p2, p3, p4, p5, p6, p7, t0, t1, t2, t3, t4, t5, t6, t7, tl⟩ := b8_of DW.out
      have TR := text_any RW.out
      cases hr : gstr (M.drop (at' + 1)) 1024 with
      | error z =>
        have hz0 : 0 < z := by have := gstr_err hr; omega
        have HQ : Hid (dec tok (d + 1) (M.drop at') = .error z) := by unfold Hid; rw [HD.out]; unfold decB; rw [HKS.out.1, if_neg (by decide), if_neg (by decide), if_neg (by decide), if_pos rfl, hr]; try rfl
        rw [hr] at TR
        have HT := Lib.hid TR
        clear TR hr
        go_wp2_with fail
        refine (HT.out).mono ?_
        rintro e w4 ⟨x4, rfl, -, hR⟩
        have R4 : Hid (Rd w rb o cap M x4 (wt + 1) w4) := ⟨hR.r, XW.out.trans hR.x⟩
        have C4 : Hid (w4.heap[w.heap.size]? = some (.cells zero8 30 (0, 0))) := (hR.x.block _ hz1 (by intro e; injection e with e; omega)).trans CW.out
        have C8 : Hid (w4.heap[b8]? = some (.cells (head8 3 S) 30 (0, 0))) := (hR.x.block _ hz2 (by intro e; injection e with e; omega)).trans DW.out
        clear hR p0 p1 p2 p3 p4 p5 p6 p7 t0 t1 t2 t3 t4 t5 t6 t7 tl
        obtain ⟨y0, y1, y2, y3, y4, y5, y6, y7, z0, z1, z2, z3, z4, z5, z6, z7, zl⟩ := b8_of C4.out
        obtain ⟨p0, p1, p2, p3, p4, p5, p6, p7, t0, t1, t2, t3, t4, t5, t6, t7, tl⟩ := b8_of C8.out
        unfold strV
        go_wp2_with fail
        refine bodyPost_ret (v := .tuple #[vv 3 0 ⟨#[]⟩ (.slice none 0 0) (.slice none 0 0) 0 0 S, .int .i64 z]) (by simp [results, Try.results15, go_sem, y0, y1, y2, y3, y4, y5, y6, y7]) rfl ?_
        exact val_err HQ.out (by omega) (R4.out.also hrb (below_set8 (below_set1 (Below.refl _ _) hb8 2 _) (Nat.le_refl _) _ _ _ _ _ _ _ _)) rfl
      | ok q =>
        obtain ⟨s, u⟩ := q
        have hss := gstr_ok hr
        have HQ : Hid (dec tok (d + 1) (M.drop at') = .ok (.mk 3 0 s [] [] 0 0 S, 1 + u)) := by unfold Hid; rw [HD.out]; unfold decB; rw [HKS.out.1, if_neg (by decide), if_neg (by decide), if_neg (by decide), if_pos rfl, hr, HKS.out.2]; try rfl
        rw [hr] at TR
        have HT := Lib.hid TR
        clear TR hr
        go_wp2_with fail
        refine (HT.out).mono ?_
        rintro e w4 ⟨x4, rfl, hx4, hR⟩
        have HX4 : Hid (x4 = at' + 1 + u) := hx4
        clear hx4
        have R4 : Hid (Rd w rb o cap M x4 (wt + 1) w4) := ⟨hR.r, XW.out.trans hR.x⟩
        have C4 : Hid (w4.heap[w.heap.size]? = some (.cells zero8 30 (0, 0))) := (hR.x.block _ hz1 (by intro e; injection e with e; omega)).trans CW.out
        have C8 : Hid (w4.heap[b8]? = some (.cells (head8 3 S) 30 (0, 0))) := (hR.x.block _ hz2 (by intro e; injection e with e; omega)).trans DW.out
        clear hR p0 p1 p2 p3 p4 p5 p6 p7 t0 t1 t2 t3 t4 t5 t6 t7 tl
        obtain ⟨y0, y1, y2, y3, y4, y5, y6, y7, z0, z1, z2, z3, z4, z5, z6, z7, zl⟩ := b8_of C4.out
        obtain ⟨p0, p1, p2, p3, p4, p5, p6, p7, t0, t1, t2, t3, t4, t5, t6, t7, tl⟩ := b8_of C8.out
        unfold strV
        go_wp2_with fail
        refine bodyPost_ret (v := .tuple #[vv 3 0 s (.slice none 0 0) (.slice none 0 0) 0 0 S, .int .i64 0]) (by simp [results, Try.results15, go_sem, y0, y1, y2, y3, y4, y5, y6, y7]) rfl ?_
        exact val_ok HQ.out (by rw [HX4.out]; omega) (by rw [weight_flat]) (R4.out.also hrb (below_set8 (below_set1 (Below.refl _ _) hb8 2 _) (Nat.le_refl _) _ _ _ _ _ _ _ _)) (flat_lies _ _ rfl rfl rfl rfl (by unfold maxLen; omega) S) (fun _ => rfl) rfl
    · subst h4
      obtain ⟨p0, p1, p2, p3, p4, p5, p6, p7, t0, t1, t2, t3, t4, t5, t6, t7, tl⟩ := b8_of DW.out
      have TR := elements_any HVV.out false RW.out
      have HDE : Hid (dec tok (d + 1) (M.drop at') = match elR (dec tok d) false (M.drop (at' + 1)) with
          | .error e => .error e
          | .ok (ks, l, u) => .ok (.mk 4 0 ⟨#[]⟩ l ks 0 0 S, 1 + u)) := by unfold Hid; rw [HD.out, decB_el4 HKS.out.1, HKS.out.2]; try rfl
      have HT := Lib.hid TR
      clear TR
      go_wp2_with fail
      refine HT.out.mono ?_
      rintro e w4 hE
      unfold ElPost at hE
      cases hr : elR (dec tok d) false (M.drop (at' + 1)) with
      | error z =>
        have HQ : Hid (dec tok (d + 1) (M.drop at') = .error z) := by unfold Hid; rw [HDE.out, hr]
        rw [hr] at hE
        obtain ⟨x4, wt4, hR1, hR2, hz0, rfl⟩ := hE
        have hR : Rd W rb o cap M x4 wt4 w4 := ⟨hR1, hR2⟩
        clear hr hR1 hR2
        have R4 : Hid (Rd w rb o cap M x4 wt4 w4) := ⟨hR.r, XW.out.trans hR.x⟩
        have C4 : Hid (w4.heap[w.heap.size]? = some (.cells zero8 30 (0, 0))) := (hR.x.block _ hz1 (by intro e; injection e with e; omega)).trans CW.out
        have C8 : Hid (w4.heap[b8]? = some (.cells (head8 4 S) 30 (0, 0))) := (hR.x.block _ hz2 (by intro e; injection e with e; omega)).trans DW.out
        clear hR p0 p1 p2 p3 p4 p5 p6 p7 t0 t1 t2 t3 t4 t5 t6 t7 tl
        obtain ⟨y0, y1, y2, y3, y4, y5, y6, y7, z0, z1, z2, z3, z4, z5, z6, z7, zl⟩ := b8_of C4.out
        obtain ⟨p0, p1, p2, p3, p4, p5, p6, p7, t0, t1, t2, t3, t4, t5, t6, t7, tl⟩ := b8_of C8.out
        go_wp2_with fail
        refine bodyPost_ret (v := .tuple #[vv 4 0 ⟨#[]⟩ (.slice none 0 0) (.slice none 0 0) 0 0 S, .int .i64 z]) (by simp [results, Try.results15, go_sem, y0, y1, y2, y3, y4, y5, y6, y7]) rfl ?_
        exact val_err HQ.out (by omega) (R4.out.also hrb (below_set8 (below_set1 (below_set1 (Below.refl _ _) hb8 4 _) hb8 3 _) (Nat.le_refl _) _ _ _ _ _ _ _ _)) rfl
      | ok q =>
        obtain ⟨ks, l, u⟩ := q
        have HQ : Hid (dec tok (d + 1) (M.drop at') = .ok (.mk 4 0 ⟨#[]⟩ l ks 0 0 S, 1 + u)) := by unfold Hid; rw [HDE.out, hr]
        rw [hr] at hE
        obtain ⟨x4, wt4, vk, vl, l', cs, hEl, rfl, hx4, hw4, hs4, hl4, hl5, hk4⟩ := hE
        obtain ⟨oL, cL, oK, cK, rfl, rfl, hlies⟩ := hEl.lies 4 S rfl
        have hR : Rd W rb o cap M x4 wt4 w4 := ⟨hEl.r, hEl.ex⟩
        have HE := Lib.hid (And.intro hx4 (And.intro hw4 (And.intro hs4 (And.intro hlies hk4))))
        have hz4 := hEl.ex.size
        clear hr hEl hx4 hw4 hs4 hlies hk4
        have R4 : Hid (Rd w rb o cap M x4 wt4 w4) := ⟨hR.r, XW.out.trans hR.x⟩
        have C4 : Hid (w4.heap[w.heap.size]? = some (.cells zero8 30 (0, 0))) := (hR.x.block _ hz1 (by intro e; injection e with e; omega)).trans CW.out
        have C8 : Hid (w4.heap[b8]? = some (.cells (head8 4 S) 30 (0, 0))) := (hR.x.block _ hz2 (by intro e; injection e with e; omega)).trans DW.out
        clear hR p0 p1 p2 p3 p4 p5 p6 p7 t0 t1 t2 t3 t4 t5 t6 t7 tl
        obtain ⟨y0, y1, y2, y3, y4, y5, y6, y7, z0, z1, z2, z3, z4, z5, z6, z7, zl⟩ := b8_of C4.out
        obtain ⟨p0, p1, p2, p3, p4, p5, p6, p7, t0, t1, t2, t3, t4, t5, t6, t7, tl⟩ := b8_of C8.out
        go_wp2_with fail
        refine bodyPost_ret (v := .tuple #[vv 4 0 ⟨#[]⟩ (.slice oL l'.length cL) (.slice oK ks.length cK) 0 0 S, .int .i64 0]) (by simp [results, Try.results15, go_sem, y0, y1, y2, y3, y4, y5, y6, y7]) rfl ?_
        refine val_ok (V' := .mk 4 0 ⟨#[]⟩ l' ks 0 0 S) HQ.out (by rw [HE.out.1]; omega) (by rw [HE.out.2.1, weight_el4]; omega) (R4.out.also hrb (below_set8 (below_set1 (below_set1 (Below.refl _ _) hb8 4 _) hb8 3 _) (Nat.le_refl _) _ _ _ _ _ _ _ _)) (HE.out.2.2.2.1 _ _ fun b hb1 hb2 => ⟨⟨by omega, by simp; omega⟩, ?_⟩) (fun h => by rw [HE.out.2.2.1 h]) rfl
        rw [heap_set8 (by omega), heap_setCell_other _ _ _ _ (show b ≠ b8 by omega), heap_setCell_other _ _ _ _ (show b ≠ b8 by omega)]
    · subst h5
      obtain ⟨p0, p1, p2, p3, p4, p5, p6, p7, t0, t1, t2, t3, t4, t5, t6, t7, tl⟩ := b8_of DW.out
      have TR := elements_any HVV.out true RW.out
      have HDE : Hid (dec tok (d + 1) (M.drop at') = match elR (dec tok d) true (M.drop (at' + 1)) with
          | .error e => .error e
          | .ok (ks, l, u) => .ok (.mk 5 0 ⟨#[]⟩ l ks 0 0 S, 1 + u)) := by unfold Hid; rw [HD.out, decB_el5 HKS.out.1, HKS.out.2]; try rfl
      have HT := Lib.hid TR
      clear TR
      go_wp2_with fail
      refine HT.out.mono ?_
      rintro e w4 hE
      unfold ElPost at hE
      cases hr : elR (dec tok d) true (M.drop (at' + 1)) with
      | error z =>
        have HQ : Hid (dec tok (d + 1) (M.drop at') = .error z) := by unfold Hid; rw [HDE.out, hr]
        rw [hr] at hE
        obtain ⟨x4, wt4, hR1, hR2, hz0, rfl⟩ := hE
        have hR : Rd W rb o cap M x4 wt4 w4 := ⟨hR1, hR2⟩
        clear hr hR1 hR2
        have R4 : Hid (Rd w rb o cap M x4 wt4 w4) := ⟨hR.r, XW.out.trans hR.x⟩
        have C4 : Hid (w4.heap[w.heap.size]? = some (.cells zero8 30 (0, 0))) := (hR.x.block _ hz1 (by intro e; injection e with e; omega)).trans CW.out
        have C8 : Hid (w4.heap[b8]? = some (.cells (head8 5 S) 30 (0, 0))) := (hR.x.block _ hz2 (by intro e; injection e with e; omega)).trans DW.out
        clear hR p0 p1 p2 p3 p4 p5 p6 p7 t0 t1 t2 t3 t4 t5 t6 t7 tl
        obtain ⟨y0, y1, y2, y3, y4, y5, y6, y7, z0, z1, z2, z3, z4, z5, z6, z7, zl⟩ := b8_of C4.out
        obtain ⟨p0, p1, p2, p3, p4, p5, p6, p7, t0, t1, t2, t3, t4, t5, t6, t7, tl⟩ := b8_of C8.out
        go_wp2_with fail
        refine bodyPost_ret (v := .tuple #[vv 5 0 ⟨#[]⟩ (.slice none 0 0) (.slice none 0 0) 0 0 S, .int .i64 z]) (by simp [results, Try.results15, go_sem, y0, y1, y2, y3, y4, y5, y6, y7]) rfl ?_
        exact val_err HQ.out (by omega) (R4.out.also hrb (below_set8 (below_set1 (below_set1 (Below.refl _ _) hb8 4 _) hb8 3 _) (Nat.le_refl _) _ _ _ _ _ _ _ _)) rfl
      | ok q =>
        obtain ⟨ks, l, u⟩ := q
        have HQ : Hid (dec tok (d + 1) (M.drop at') = .ok (.mk 5 0 ⟨#[]⟩ l ks 0 0 S, 1 + u)) := by unfold Hid; rw [HDE.out, hr]
        rw [hr] at hE
        obtain ⟨x4, wt4, vk, vl, l', cs, hEl, rfl, hx4, hw4, hs4, hl4, hl5, hk4⟩ := hE
        obtain ⟨oL, cL, oK, cK, rfl, rfl, hlies⟩ := hEl.lies 5 S rfl
        have hR : Rd W rb o cap M x4 wt4 w4 := ⟨hEl.r, hEl.ex⟩
        have HE := Lib.hid (And.intro hx4 (And.intro hw4 (And.intro hs4 (And.intro hlies hk4))))
        have hz4 := hEl.ex.size
        clear hr hEl hx4 hw4 hs4 hlies hk4
        have R4 : Hid (Rd w rb o cap M x4 wt4 w4) := ⟨hR.r, XW.out.trans hR.x⟩
        have C4 : Hid (w4.heap[w.heap.size]? = some (.cells zero8 30 (0, 0))) := (hR.x.block _ hz1 (by intro e; injection e with e; omega)).trans CW.out
        have C8 : Hid (w4.heap[b8]? = some (.cells (head8 5 S) 30 (0, 0))) := (hR.x.block _ hz2 (by intro e; injection e with e; omega)).trans DW.out
        clear hR p0 p1 p2 p3 p4 p5 p6 p7 t0 t1 t2 t3 t4 t5 t6 t7 tl
        obtain ⟨y0, y1, y2, y3, y4, y5, y6, y7, z0, z1, z2, z3, z4, z5, z6, z7, zl⟩ := b8_of C4.out
        obtain ⟨p0, p1, p2, p3, p4, p5, p6, p7, t0, t1, t2, t3, t4, t5, t6, t7, tl⟩ := b8_of C8.out
        go_wp2_with fail
        refine bodyPost_ret (v := .tuple #[vv 5 0 ⟨#[]⟩ (.slice oL l'.length cL) (.slice oK ks.length cK) 0 0 S, .int .i64 0]) (by simp [results, Try.results15, go_sem, y0, y1, y2, y3, y4, y5, y6, y7]) rfl ?_
        refine val_ok (V' := .mk 5 0 ⟨#[]⟩ l' ks 0 0 S) HQ.out (by rw [HE.out.1]; omega) (by rw [HE.out.2.1, weight_el5 (by have := HE.out.2.2.2.2; simpa using this)]; omega) (R4.out.also hrb (below_set8 (below_set1 (below_set1 (Below.refl _ _) hb8 4 _) hb8 3 _) (Nat.le_refl _) _ _ _ _ _ _ _ _)) (HE.out.2.2.2.1 _ _ fun b hb1 hb2 => ⟨⟨by omega, by simp; omega⟩, ?_⟩) (fun h => by rw [HE.out.2.2.1 h]) rfl
        rw [heap_set8 (by omega), heap_setCell_other _ _ _ _ (show b ≠ b8 by omega), heap_setCell_other _ _ _ _ (show b ≠ b8 by omega)]
    · subst h6
      obtain ⟨p0, p1, p2, p3, p4, p5, p6, p7, t0, t1, t2, t3, t4, t5, t6, t7, tl⟩ := b8_of DW.out
      have hM1 : ∀ c, c ∈ M.drop (at' + 1) → c < 256 := fun c hc => RW.out.B.b c (List.mem_of_mem_drop hc)
      have TR := unknown_any RW.out
      cases hr : M.drop (at' + 1) with
      | nil =>
        have HQ : Hid (dec tok (d + 1) (M.drop at') = .error 2) := by unfold Hid; rw [HD.out]; unfold decB; rw [HKS.out.1, if_neg (by decide), if_neg (by decide), if_neg (by decide), if_neg (by decide), if_pos rfl, hr]; try rfl
        rw [hr] at TR
        have HT := Lib.hid TR
        clear TR hr hM1
        go_wp2_with fail
        refine (HT.out).mono ?_
        rintro e w4 ⟨rfl, hR⟩
        have R4 : Hid (Rd w rb o cap M _ (wt + 1) w4) := ⟨hR.r, XW.out.trans hR.x⟩
        have C4 : Hid (w4.heap[w.heap.size]? = some (.cells zero8 30 (0, 0))) := (hR.x.block _ hz1 (by intro e; injection e with e; omega)).trans CW.out
        have C8 : Hid (w4.heap[b8]? = some (.cells (head8 6 S) 30 (0, 0))) := (hR.x.block _ hz2 (by intro e; injection e with e; omega)).trans DW.out
        clear hR p0 p1 p2 p3 p4 p5 p6 p7 t0 t1 t2 t3 t4 t5 t6 t7 tl
        obtain ⟨y0, y1, y2, y3, y4, y5, y6, y7, z0, z1, z2, z3, z4, z5, z6, z7, zl⟩ := b8_of C4.out
        obtain ⟨p0, p1, p2, p3, p4, p5, p6, p7, t0, t1, t2, t3, t4, t5, t6, t7, tl⟩ := b8_of C8.out
        unfold unkV
        go_wp2_with fail
        refine bodyPost_ret (v := .tuple #[vv 6 0 ⟨#[]⟩ (.slice none 0 0) (.slice none 0 0) 0 0 S, .int .i64 2]) (by simp [results, Try.results15, go_sem, y0, y1, y2, y3, y4, y5, y6, y7]) rfl ?_
        exact val_err HQ.out (by omega) (R4.out.also hrb (below_set8 (below_set1 (below_set1 (Below.refl _ _) hb8 5 _) hb8 6 _) (Nat.le_refl _) _ _ _ _ _ _ _ _)) rfl
      | cons c2 r2 =>
        have hc2 := hM1 c2 (by rw [hr]; simp)
        have hlen1 : at' + 1 < M.length := by
          have h5 : (M.drop (at' + 1)).length = M.length - (at' + 1) := List.length_drop
          rw [hr] at h5; simp at h5; omega
        by_cases h1 : tok (c2 / 8) (c2 % 8) = true
        · have HQ : Hid (dec tok (d + 1) (M.drop at') = .ok (.mk 6 0 ⟨#[]⟩ [] [] (c2 / 8 : Nat) (c2 % 8 : Nat) S, 2)) := by unfold Hid; rw [HD.out]; unfold decB; rw [HKS.out.1, if_neg (by decide), if_neg (by decide), if_neg (by decide), if_neg (by decide), if_pos rfl, hr]; simp only; rw [if_pos h1, HKS.out.2]
          rw [hr, unkV_ok h1] at TR
          have HT := Lib.hid TR
          clear TR hr hM1 h1
          go_wp2_with fail
          refine (HT.out).mono ?_
          rintro e w4 ⟨rfl, hR⟩
          have R4 : Hid (Rd w rb o cap M _ (wt + 1) w4) := ⟨hR.r, XW.out.trans hR.x⟩
          have C4 : Hid (w4.heap[w.heap.size]? = some (.cells zero8 30 (0, 0))) := (hR.x.block _ hz1 (by intro e; injection e with e; omega)).trans CW.out
          have C8 : Hid (w4.heap[b8]? = some (.cells (head8 6 S) 30 (0, 0))) := (hR.x.block _ hz2 (by intro e; injection e with e; omega)).trans DW.out
          clear hR p0 p1 p2 p3 p4 p5 p6 p7 t0 t1 t2 t3 t4 t5 t6 t7 tl
          obtain ⟨y0, y1, y2, y3, y4, y5, y6, y7, z0, z1, z2, z3, z4, z5, z6, z7, zl⟩ := b8_of C4.out
          obtain ⟨p0, p1, p2, p3, p4, p5, p6, p7, t0, t1, t2, t3, t4, t5, t6, t7, tl⟩ := b8_of C8.out
          go_wp2_with fail
          refine bodyPost_ret (v := .tuple #[vv 6 0 ⟨#[]⟩ (.slice none 0 0) (.slice none 0 0) ((c2 / 8 : Nat) : Int) ((c2 % 8 : Nat) : Int) S, .int .i64 0]) (by simp [results, Try.results15, go_sem, y0, y1, y2, y3, y4, y5, y6, y7]) rfl ?_
          exact val_ok HQ.out (by omega) (by rw [weight_flat]) (R4.out.also hrb (below_set8 (below_set1 (below_set1 (Below.refl _ _) hb8 5 _) hb8 6 _) (Nat.le_refl _) _ _ _ _ _ _ _ _)) (flat_lies _ _ rfl rfl (wf64 (by omega) (by omega)) (wf64 (by omega) (by omega)) (by unfold maxLen; decide) S) (fun _ => rfl) rfl
        · have HQ : Hid (dec tok (d + 1) (M.drop at') = .error 4) := by unfold Hid; rw [HD.out]; unfold decB; rw [HKS.out.1, if_neg (by decide), if_neg (by decide), if_neg (by decide), if_neg (by decide), if_pos rfl, hr]; simp only; rw [if_neg h1]
          rw [hr, unkV_bad h1] at TR
          have HT := Lib.hid TR
          clear TR hr hM1 h1
          go_wp2_with fail
          refine (HT.out).mono ?_
          rintro e w4 ⟨rfl, hR⟩
          have R4 : Hid (Rd w rb o cap M _ (wt + 1) w4) := ⟨hR.r, XW.out.trans hR.x⟩
          have C4 : Hid (w4.heap[w.heap.size]? = some (.cells zero8 30 (0, 0))) := (hR.x.block _ hz1 (by intro e; injection e with e; omega)).trans CW.out
          have C8 : Hid (w4.heap[b8]? = some (.cells (head8 6 S) 30 (0, 0))) := (hR.x.block _ hz2 (by intro e; injection e with e; omega)).trans DW.out
          clear hR p0 p1 p2 p3 p4 p5 p6 p7 t0 t1 t2 t3 t4 t5 t6 t7 tl
          obtain ⟨y0, y1, y2, y3, y4, y5, y6, y7, z0, z1, z2, z3, z4, z5, z6, z7, zl⟩ := b8_of C4.out
          obtain ⟨p0, p1, p2, p3, p4, p5, p6, p7, t0, t1, t2, t3, t4, t5, t6, t7, tl⟩ := b8_of C8.out
          go_wp2_with fail
          refine bodyPost_ret (v := .tuple #[vv 6 0 ⟨#[]⟩ (.slice none 0 0) (.slice none 0 0) 0 0 S, .int .i64 4]) (by simp [results, Try.results15, go_sem, y0, y1, y2, y3, y4, y5, y6, y7]) rfl ?_
          exact val_err HQ.out (by omega) (R4.out.also hrb (below_set8 (below_set1 (below_set1 (Below.refl _ _) hb8 5 _) hb8 6 _) (Nat.le_refl _) _ _ _ _ _ _ _ _)) rfl
    · skip
      obtain ⟨p0, p1, p2, p3, p4, p5, p6, p7, t0, t1, t2, t3, t4, t5, t6, t7, tl⟩ := b8_of DW.out
      have HQ : Hid (dec tok (d + 1) (M.drop at') = .error 4) := by
        unfold Hid; rw [HD.out]; unfold decB
        rw [HKS.out.1, if_neg (by omega), if_neg (by omega), if_neg (by omega), if_neg (by omega), if_neg (by omega), if_neg (by omega)]
      have n0 : ((K : Int) == 0) = false := by rw [beq_eq_false_iff_ne]; omega
      have n1 : ((K : Int) == 1) = false := by rw [beq_eq_false_iff_ne]; omega
      have n2 : ((K : Int) == 2) = false := by rw [beq_eq_false_iff_ne]; omega
      have n3 : ((K : Int) == 3) = false := by rw [beq_eq_false_iff_ne]; omega
      have n4 : ((K : Int) == 4) = false := by rw [beq_eq_false_iff_ne]; omega
      have n5 : ((K : Int) == 5) = false := by rw [beq_eq_false_iff_ne]; omega
      have n6 : ((K : Int) == 6) = false := by rw [beq_eq_false_iff_ne]; omega
      obtain ⟨y0, y1, y2, y3, y4, y5, y6, y7, z0, z1, z2, z3, z4, z5, z6, z7, zl⟩ := b8_of CW.out
      go_wp2_with fail
      refine bodyPost_ret (v := .tuple #[vv (K : Int) 0 ⟨#[]⟩ (.slice none 0 0) (.slice none 0 0) 0 0 S, .int .i64 4]) (by simp [results, Try.results15, go_sem, y0, y1, y2, y3, y4, y5, y6, y7]) rfl ?_
      exact val_err HQ.out (by omega) (Rd.also ⟨RW.out, XW.out⟩ hrb (below_set8 (Below.refl _ _) (Nat.le_refl _) _ _ _ _ _ _ _ _)) rfl
end Go.Proofs.Ytpmdkekjoocplaa

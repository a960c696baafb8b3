/- Own bytes: PutShort, laidShort, laidText. -/
import Derived.Test.YtakoghdkllfhlaaDoorRb
import Derived.Deep.AppendLies
import Derived.OwnWalk
import Derived.Laws.CopyOwn
import Derived.Lib.AppendStr
import Derived.Laws.AppendOwnNone
namespace Go.Proofs.YtakoghdkllfhlaaDoor
open Go.RowKit Go.Lib

theorem ownsRow_kept {w w' : World} {base e size n : Nat} {v : Value} {xs : List Value} (h : w.ownsRow base e size v n xs) (hb : ∀ g, v.ownBlock = some g → w'.heap[g]? = w.heap[g]?) : w'.ownsRow base e size v n xs := by
  refine ⟨h.1, ?_⟩
  rcases h.2 with hn | ⟨g, cap, cur, rfl, hg, hgg, rest⟩
  · exact .inl hn
  · exact .inr ⟨g, cap, cur, rfl, hg, by rw [hb g rfl]; exact hgg, rest⟩
def bcs (M : List Nat) : List Value := M.map fun c => Value.int .u8 ((c : Nat) : Int)
theorem bcs_app (M N : List Nat) : bcs (M ++ N) = bcs M ++ bcs N := by simp [bcs]
theorem bcs_len (M : List Nat) : (bcs M).length = M.length := by simp [bcs]
set_option maxRecDepth 100000 in
theorem info5 : (Tryd.prog.info? 5).map (fun i => (i.zero, i.size, i.bytes)) = some (some (.int .u8 0), 1, 1) := by kernel_rfl
set_option maxRecDepth 100000 in
theorem or128 : ∀ x : Fin 256, x.val ||| 128 = x.val % 128 + 128 := by decide
theorem u8_or128' (n : Nat) : bits .or .u8 ((n : Int) % 256) 128 = ((n % 128 + 128 : Nat) : Int) := by
  have h := (bits_nat .u8 8 (by decide) wraps_u8 (n % 256) 128 (by omega) (by omega)).2
  have h2 := or128 ⟨n % 256, by omega⟩
  simp only at h2
  rw [h2] at h
  rw [Int.natCast_emod] at h
  refine (show bits .or .u8 ((n : Int) % 256) 128 = _ from h).trans ?_
  omega
/-- a row of bytes of the call's own, so much longer -/
def Longer (base : Nat) (v : Value) (N : List Nat) (F : List Nat) (w : World) (e : Ending) (w' : World) : Prop :=
  ∃ g c, e = .returned (.slice (some ⟨g, 0, none⟩) (N.length + F.length) c) ∧ w'.ownsRow base 5 1 (.slice (some ⟨g, 0, none⟩) (N.length + F.length) c) (N.length + F.length) (bcs (N ++ F)) ∧ w.grownBy w' v.ownBlock ∧ (v.ownBlock = some g ∨ w.heap.size ≤ g)
theorem grown_below {w w' : World} {row : Option Nat} {B : Nat} (h : w.grownBy w' row) (hB : B ≤ w.heap.size) (hr : ∀ k, row = some k → B ≤ k) : Below B w w' := (Below.refl B w).grown h hB hr
theorem grown_trans {a b c : World} {row row2 : Option Nat} (h : a.grownBy b row) (k : b.grownBy c row2) (hr : ∀ g, row2 = some g → row = some g ∨ a.heap.size ≤ g) : a.grownBy c row :=
  ⟨k.os.trans h.os, k.tape.trans h.tape, k.output.trans h.output, Nat.le_trans h.size k.size, fun i hi hne => (k.block i (Nat.lt_of_lt_of_le hi h.size) (fun e => by
    rcases hr i e.symm with h5 | h5
    · exact hne h5.symm
    · omega)).trans (h.block i hi hne)⟩
theorem grown_of_below {a b : World} {row : Option Nat} (h : Below a.heap.size a b) : a.grownBy b row := ⟨h.os, h.tape, h.output, h.size, fun k hk _ => h.block k hk⟩
def PutPost (n : Nat) (w : World) (e : Ending) (w' : World) : Prop :=
  ∃ g c, e = .returned (.slice (some ⟨g, 0, none⟩) (shrt n).length c) ∧ w'.ownsRow w.heap.size 5 1 (.slice (some ⟨g, 0, none⟩) (shrt n).length c) (shrt n).length (bcs (shrt n)) ∧ Below w.heap.size w w'
set_option maxHeartbeats 1000000 in
theorem nfresh_any (w : World) : Calls Tryd.prog 97 #[.slice none 0 0, .int .i64 10] w fun e w' => e = .returned (.slice (some ⟨w.heap.size, 0, none⟩) 0 10) ∧ w'.ownsRow w.heap.size 5 1 (.slice (some ⟨w.heap.size, 0, none⟩) 0 10) 0 [] ∧ Below w.heap.size w w' := by
  obtain ⟨i, hi, hz, hs, hb⟩ := info_parts info5
  go_enter Tryd.func97, Tryd.ntmps97
  go_wp2_with (at_make; go_must (refine wpList_make_own _ rfl (.tmp 7) (.tmp 11) 49 rfl w.heap.size 5 i (.int .u8 0) 1 Tryd.underlying49 hi hz hs .i64 .i64 10 10 rfl rfl rfl (by rw [hb]; omega) (by unfold maxLen; omega) (Nat.le_refl _) ?_))
  intro w1 hown hgrow
  have H := Lib.hid (And.intro hown hgrow)
  clear hown hgrow
  have hs1 : (Tryd.prog.info? 5).map (·.size) = some 1 := by rw [hi]; simp [hs]
  go_wp2_with (refine wpList_copy_nothing rfl (.tmp 13) (.tmp 14) 49 49 rfl 5 Tryd.underlying49 hs1 (some ⟨w.heap.size, 0, none⟩) none 0 10 0 0 rfl rfl rfl ?_)
  go_ret
  exact ⟨rfl, H.out.1, grown_below H.out.2 (Nat.le_refl _) (fun k hk => by cases hk)⟩
/-- a row that was begun behind w, with so many bytes -/
structure Begun (w : World) (v : Value) (N : List Nat) (wr : World) : Prop where
  own : wr.ownsRow w.heap.size 5 1 v N.length (bcs N)
  bel : Below w.heap.size w wr
theorem Begun.app {w wr w1 : World} {v : Value} {N : List Nat} {c g cp : Nat} (h : Begun w v N wr) (ho : w1.ownsRow w.heap.size 5 1 (.slice (some ⟨g, 0, none⟩) (N.length + 1) cp) (N.length + 1) (bcs N ++ [.int .u8 ((c : Nat) : Int)])) (hg : (wr.alloc (.cells #[.int .u8 ((c : Nat) : Int)] 5)).grownBy w1 v.ownBlock) :
    Begun w (.slice (some ⟨g, 0, none⟩) (N.length + 1) cp) (N ++ [c]) w1 := by
  refine ⟨by rw [List.length_append]; rw [bcs_app]; exact ho, (h.bel.alloc h.bel.size _).grown hg (by simp; have := h.bel.size; omega) (fun k hk => (h.own.lt k hk).1)⟩
set_option maxHeartbeats 1000000 in
theorem putShort_any (n : Nat) (w : World) (h64 : n < 18446744073709551616) : Calls Tryd.prog 79 #[.slice none 0 0, .int .u64 n] w (PutPost n w) := by
  obtain ⟨i, hi, hz, hs, hb⟩ := info_parts info5
  generalize n = n0 at *
  go_enter Tryd.func79, Tryd.ntmps79
  go_wp2_with fail
  refine (nfresh_any w).mono ?_
  rintro e w1 ⟨rfl, ho, hbl⟩
  have H := Lib.hid (Begun.mk (N := []) ho hbl)
  clear ho hbl
  go_wp2_with fail
  go_loopw [1, 5] (fun x v wr => ∃ (m : Nat) (N : List Nat), m ≤ n0 ∧ x = .int .u64 m ∧ Hid (Begun w v N wr) ∧ Hid (shrt n0 = N ++ shrt m) ∧ N.length ≤ 100 ∧ m * 128 ^ N.length ≤ n0) (fun x _ _ => (intOf x).toNat)
  case atStart => exact ⟨n0, [], Nat.le_refl _, rfl, H.out, rfl, by simp, by simp⟩
  case round =>
    obtain ⟨m, N, hm, rfl, HB, HS, hl, hp⟩ := hrel
    have e1 := u8_or128' m
    have hms : m < 18446744073709551616 := by omega
    by_cases h128 : m < 128
    · have hz0 : ((m : Int) / 128 != 0) = false := by rw [bne_eq_false_iff_eq]; omega
      have hmod : (m : Int) % 256 = (m : Int) := by omega
      have HO : Hid ((wr.alloc (.cells #[.int .u8 ((m : Nat) : Int)] 5)).ownsRow w.heap.size 5 1 _ N.length (bcs N)) := HB.out.own.alloc _
      clear e1
      go_wp2_with (at_builtin; go_must (refine wpList_append_lies _ rfl (.tmp 19) (.tmp 22) 49 rfl w.heap.size 5 i _ 1 1 Tryd.underlying49 hi hz hs hb rfl (by omega) _ N.length (bcs N) rfl HO.out ⟨wr.heap.size, 0, none⟩ 1 1 [.int .u8 ((m : Nat) : Int)] rfl rfl (World.news_of_block (heap_alloc_new _ _)) (fun u hu => by simp at hu; subst hu; rfl) (by omega) (by unfold maxLen; omega) (by omega) (by have := HB.out.bel.size; simp; omega) (wr.heap.size + 1) (by simp) ?_))
      intro g cp w8 hown hgrow hat hlt8
      have HE := Lib.hid (HB.out.app hown hgrow)
      have HF : Hid (shrt n0 = N ++ [m]) := by unfold Hid; rw [HS.out, shrt_small h128]
      clear hown hgrow hat
      go_wp2_with fail
      go_ret
      have h9 : (shrt n0).length = N.length + 1 := by rw [HF.out, List.length_append]; rfl
      refine ⟨g, cp, by rw [h9]; rfl, ?_, HE.out.bel⟩
      have := HE.out.own
      rw [List.length_append] at this
      rw [h9, HF.out]; exact this
    · have hz0 : ((m : Int) / 128 != 0) = true := by rw [bne_iff_ne]; omega
      have HO : Hid ((wr.alloc (.cells #[.int .u8 ((m % 128 + 128 : Nat) : Int)] 5)).ownsRow w.heap.size 5 1 _ N.length (bcs N)) := HB.out.own.alloc _
      go_wp2_with (at_builtin; go_must (refine wpList_append_lies _ rfl (.tmp 13) (.tmp 17) 49 rfl w.heap.size 5 i _ 1 1 Tryd.underlying49 hi hz hs hb rfl (by omega) _ N.length (bcs N) rfl HO.out ⟨wr.heap.size, 0, none⟩ 1 1 [.int .u8 ((m % 128 + 128 : Nat) : Int)] rfl rfl (World.news_of_block (heap_alloc_new _ _)) (fun u hu => by simp at hu; subst hu; rfl) (by omega) (by unfold maxLen; omega) (by omega) (by have := HB.out.bel.size; simp; omega) (wr.heap.size + 1) (by simp) ?_))
      intro g cp w8 hown hgrow hat hlt8
      have HE := Lib.hid (HB.out.app hown hgrow)
      have hp2 : m / 128 * 128 ^ (N ++ [m % 128 + 128]).length ≤ n0 := by
        rw [List.length_append, List.length_singleton, Nat.pow_succ, Nat.mul_comm (128 ^ N.length) 128, ← Nat.mul_assoc]
        exact Nat.le_trans (Nat.mul_le_mul_right _ (Nat.div_mul_le_self m 128)) hp
      have hl2 : (N ++ [m % 128 + 128]).length ≤ 100 := by
        rw [List.length_append, List.length_singleton]
        refine Decidable.byContradiction fun hh => ?_
        have h5 : N.length = 100 := by omega
        rw [h5] at hp
        have h6 : 1 * 128 ^ 100 ≤ m * 128 ^ 100 := Nat.mul_le_mul_right _ (by omega)
        have h7 : (18446744073709551616 : Nat) ≤ 1 * 128 ^ 100 := by decide
        omega
      have HS2 : Hid (shrt n0 = (N ++ [m % 128 + 128]) ++ shrt (m / 128)) := by unfold Hid; rw [HS.out, shrt_big h128, List.append_assoc]; rfl
      have HP2 := Lib.hid (And.intro hl2 hp2)
      clear hown hgrow hat hp hp2 hl2
      go_wp2_with fail
      go_roundw
      case rel => exact ⟨m / 128, N ++ [m % 128 + 128], by omega, by go_num, HE, HS2, HP2.out.1, HP2.out.2⟩
      case measure => simp [intOf]; omega
/-- a row that was there, with a short form behind it -/
theorem longer_end {base : Nat} {v : Value} {N F : List Nat} {g c g2 c2 : Nat} {w w1 w2 : World} {e : Ending} (hb1 : Below w.heap.size w w1) (_ : w1.ownsRow w.heap.size 5 1 (.slice (some ⟨g2, 0, none⟩) F.length c2) F.length (bcs F))
    (hown : w2.ownsRow base 5 1 (.slice (some ⟨g, 0, none⟩) (N.length + F.length) c) (N.length + F.length) (bcs N ++ bcs F)) (hgrow : w1.grownBy w2 v.ownBlock) (hat : v.ownBlock = some g ∨ g = w1.heap.size) (he : e = .returned (.slice (some ⟨g, 0, none⟩) (N.length + F.length) c)) : Longer base v N F w e w2 := by
  have h1 := hb1.size
  refine ⟨g, c, he, by rw [bcs_app]; exact hown, grown_trans (grown_of_below hb1) hgrow (fun g' h => .inl h), ?_⟩
  rcases hat with h | h
  · exact .inl h
  · exact .inr (by omega)
theorem own_at {w : World} {base n g c : Nat} {xs : List Value} (h : w.ownsRow base 5 1 (.slice (some ⟨g, 0, none⟩) n c) n xs) : ∀ j u, xs[j]? = some u → w.cell? ((⟨g, 0, none⟩ : Addr).add j) = some u := h.cells rfl
theorem shrt_len (n : Nat) (h : n < 18446744073709551616) : (shrt n).length ≤ 10 ∧ 0 < (shrt n).length := by
  have hk : ∀ k m : Nat, m < 128 ^ k → 0 < k → (shrt m).length ≤ k := by
    intro k
    induction k with
    | zero => intro m _ h; omega
    | succ k ih =>
      intro m hm _
      by_cases h1 : m < 128
      · rw [shrt_small h1]; simp
      · rw [shrt_big h1, List.length_cons]
        have hk0 : 0 < k := by
          refine Nat.pos_of_ne_zero fun e => ?_
          subst e
          simp at hm; omega
        have := ih (m / 128) (by rw [Nat.pow_succ] at hm; omega) hk0
        omega
  refine ⟨hk 10 n (Nat.lt_of_lt_of_le h (by decide)) (by omega), ?_⟩
  by_cases h1 : n < 128
  · rw [shrt_small h1]; simp
  · rw [shrt_big h1]; simp
set_option maxHeartbeats 1000000 in
theorem laidShort_any {base : Nat} {v : Value} {N : List Nat} {w : World} (n : Nat) (h64 : n < 18446744073709551616) (hO : w.ownsRow base 5 1 v N.length (bcs N)) (hbase : base ≤ w.heap.size) (hN : N.length ≤ 4000000000) :
    Calls Tryd.prog 118 #[v, .int .u64 n] w (Longer base v N (shrt n) w) := by
  obtain ⟨i, hi, hz, hs, hb⟩ := info_parts info5
  have HO := Lib.hid hO
  have hsl := shrt_len n h64
  clear hO
  go_enter Tryd.func118, Tryd.ntmps118
  go_wp2_with fail
  refine (putShort_any n w h64).mono ?_
  rintro e w1 ⟨g2, c2, rfl, ho2, hb2⟩
  have H := Lib.hid (And.intro ho2 hb2)
  have HO1 : Hid (w1.ownsRow base 5 1 v N.length (bcs N)) := ownsRow_kept HO.out fun g hg => hb2.block g (HO.out.lt g hg).2
  clear ho2 hb2
  go_wp2_with (at_builtin; go_must (refine wpList_append_lies _ rfl (.tmp 5) (.tmp 7) 49 rfl base 5 i _ 1 1 Tryd.underlying49 hi hz hs hb rfl (by omega) _ N.length (bcs N) rfl HO1.out ⟨g2, 0, none⟩ (shrt n).length c2 (bcs (shrt n)) rfl (by rw [bcs_len]; omega) (own_at H.out.1) (fun u hu => by unfold bcs at hu; obtain ⟨x, _, rfl⟩ := List.mem_map.1 hu; rfl) (by omega) (by unfold maxLen; omega) (by omega) (by have := H.out.2.size; omega) w1.heap.size rfl ?_))
  intro g cp w8 hown hgrow hat hlt8
  have HE := Lib.hid (And.intro hown (And.intro hgrow hat))
  clear hown hgrow hat
  go_wp2_with fail
  go_ret
  exact longer_end H.out.2 H.out.1 HE.out.1 HE.out.2.1 HE.out.2.2 rfl
structure LB (base : Nat) (w w' : World) : Prop where
  os : w'.os = w.os
  tape : w'.tape = w.tape
  output : w'.output = w.output
  size : w.heap.size ≤ w'.heap.size
  block : ∀ k, k < w.heap.size → (k < base ∨ ∀ cur fz, w.heap[k]? ≠ some (.cells cur 5 fz)) → w'.heap[k]? = w.heap[k]?
theorem LB.trans {base : Nat} {a b c : World} (h : LB base a b) (k : LB base b c) : LB base a c :=
  ⟨k.os.trans h.os, k.tape.trans h.tape, k.output.trans h.output, Nat.le_trans h.size k.size, fun i hi hc => (k.block i (Nat.lt_of_lt_of_le hi h.size) (hc.imp id fun h2 cur fz => by rw [h.block i hi hc]; exact h2 cur fz)).trans (h.block i hi hc)⟩
theorem LB.of_below {base : Nat} {a b : World} (h : Below a.heap.size a b) : LB base a b := ⟨h.os, h.tape, h.output, h.size, fun k hk _ => h.block k hk⟩
theorem LB.of_grown {base n : Nat} {v : Value} {xs : List Value} {a b : World} (h : a.grownBy b v.ownBlock) (hO : a.ownsRow base 5 1 v n xs) : LB base a b :=
  ⟨h.os, h.tape, h.output, h.size, fun k hk hc => h.block k hk fun e => by
    rcases hO.2 with ⟨rfl, _⟩ | ⟨g, cap, cur, rfl, hb, hg, _⟩
    · cases e
    · have e' : k = g := by simpa [Value.ownBlock] using e
      subst e'
      rcases hc with h5 | h5
      · omega
      · exact h5 cur _ hg⟩
theorem LB.bel {base : Nat} {a b : World} (h : LB base a b) (hb : base ≤ a.heap.size) : Below base a b := ⟨h.os, h.tape, h.output, h.size, fun k hk => h.block k (by omega) (.inl hk)⟩
/-- a row behind base, so much longer -/
def LongB (base : Nat) (N F : List Nat) (w : World) (e : Ending) (w' : World) : Prop :=
  ∃ v', e = .returned v' ∧ w'.ownsRow base 5 1 v' (N.length + F.length) (bcs (N ++ F)) ∧ LB base w w'
theorem Longer.b {base : Nat} {v : Value} {N F : List Nat} {w : World} {e : Ending} {w' : World} (h : Longer base v N F w e w') (hO : w.ownsRow base 5 1 v N.length (bcs N)) : LongB base N F w e w' := by
  obtain ⟨g, c, he, ho, hg, _⟩ := h
  exact ⟨_, he, ho, .of_grown hg hO⟩
theorem strCells_sb (s : ByteArray) : strCells s = bcs (sb s) := by unfold strCells bcs sb; rw [List.map_map]; rfl
set_option maxHeartbeats 1000000 in
theorem laidText_any {base : Nat} {v : Value} {N : List Nat} {w : World} (s : ByteArray) (hs : s.size ≤ 4000000000) (hO : w.ownsRow base 5 1 v N.length (bcs N)) (hbase : base ≤ w.heap.size) (hN : N.length ≤ 4000000000) :
    Calls Tryd.prog 95 #[v, .string s] w (LongB base N (shrt s.size ++ sb s) w) := by
  obtain ⟨i, hi, hz, hs1, hb⟩ := info_parts info5
  have HO := Lib.hid hO
  have hsl := shrt_len s.size (by omega)
  clear hO
  go_enter Tryd.func95, Tryd.ntmps95
  go_wp2_with fail
  refine (laidShort_any s.size (by omega) HO.out hbase hN).mono ?_
  rintro e w1 ⟨g, c, rfl, ho, hg, _⟩
  have H := Lib.hid (And.intro ho (LB.of_grown hg HO.out))
  clear ho hg
  go_wp2_with (at_builtin; go_must (refine wpList_append_own_string _ rfl (.tmp 9) (.tmp 10) 49 9 rfl base 5 i Tryd.underlying49 Tryd.underlying9 hi hz hs1 hb _ (N.length + (shrt s.size).length) (bcs (N ++ shrt s.size)) rfl H.out.1 s rfl (by unfold maxLen; omega) (by omega) (by have := H.out.2.size; omega) ?_))
  intro v' w2 hown hgrow hnil
  have HE : Hid (w2.ownsRow base 5 1 v' (N.length + (shrt s.size ++ sb s).length) (bcs (N ++ (shrt s.size ++ sb s))) ∧ LB base w w2) := by
    refine ⟨?_, H.out.2.trans (.of_grown hgrow H.out.1)⟩
    rw [strCells_sb, ← bcs_app, List.append_assoc] at hown
    rw [List.length_append, sb_len, ← Nat.add_assoc]; exact hown
  clear hown hgrow hnil
  go_wp2_with fail
  go_ret
  exact ⟨_, rfl, HE.out.1, HE.out.2⟩
end Go.Proofs.YtakoghdkllfhlaaDoor

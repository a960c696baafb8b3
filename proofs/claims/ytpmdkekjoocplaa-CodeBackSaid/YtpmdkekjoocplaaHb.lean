/- Laying: laidText, mark, head. -/
import Derived.Test.YtpmdkekjoocplaaHa
import Derived.Lib.AppendStr
import Derived.Deep.RegionHeld3
namespace Go.Proofs.Ytpmdkekjoocplaa
open Go.RowKit Go.Lib

/-- all blocks below base, and all that hold no bytes, are as they were -/
structure LB (base : Nat) (w w' : World) : Prop where
  os : w'.os = w.os
  tape : w'.tape = w.tape
  output : w'.output = w.output
  size : w.heap.size ≤ w'.heap.size
  block : ∀ k, k < w.heap.size → (k < base ∨ ∀ cur fz, w.heap[k]? ≠ some (.cells cur 5 fz)) → w'.heap[k]? = w.heap[k]?
theorem LB.trans {base : Nat} {a b c : World} (h : LB base a b) (k : LB base b c) : LB base a c :=
  ⟨k.os.trans h.os, k.tape.trans h.tape, k.output.trans h.output, Nat.le_trans h.size k.size, fun i hi hc => (k.block i (Nat.lt_of_lt_of_le hi h.size) (hc.imp id fun h2 cur fz => by rw [h.block i hi hc]; exact h2 cur fz)).trans (h.block i hi hc)⟩
theorem LB.of_below {base : Nat} {a b : World} (h : Below a.heap.size a b) : LB base a b := ⟨h.os, h.tape, h.output, h.size, fun k hk _ => h.block k hk⟩
theorem LB.of_grown {base n : Nat} {v : Value} {xs : List Value} {a b : World} (h : a.grownBy b v.ownBlock) (hO : a.ownsRow base 5 1 v n xs) : LB base a b :=
  ⟨h.os, h.tape, h.output, h.size, fun k hk hc => h.block k hk fun e => by
    rcases hO.2 with ⟨rfl, _⟩ | ⟨g, cap, cur, rfl, hb, hg, _⟩
    · cases e
    · have e' : k = g := by simpa [Value.ownBlock] using e
      subst e'
      rcases hc with h5 | h5
      · omega
      · exact h5 cur _ hg⟩
theorem LB.bel {base : Nat} {a b : World} (h : LB base a b) (hb : base ≤ a.heap.size) : Below base a b := ⟨h.os, h.tape, h.output, h.size, fun k hk => h.block k (by omega) (.inl hk)⟩
/-- a row behind base, so much longer -/
def LongB (base : Nat) (N F : List Nat) (w : World) (e : Ending) (w' : World) : Prop :=
  ∃ v', e = .returned v' ∧ w'.ownsRow base 5 1 v' (N.length + F.length) (bcs (N ++ F)) ∧ LB base w w'
theorem Longer.b {base : Nat} {v : Value} {N F : List Nat} {w : World} {e : Ending} {w' : World} (h : Longer base v N F w e w') (hO : w.ownsRow base 5 1 v N.length (bcs N)) : LongB base N F w e w' := by
  obtain ⟨g, c, he, ho, hg, _⟩ := h
  exact ⟨_, he, ho, .of_grown hg hO⟩
theorem strCells_sb (s : ByteArray) : strCells s = bcs (sb s) := by unfold strCells bcs sb; rw [List.map_map]; rfl
set_option maxHeartbeats 1000000 in
theorem laidText_any {base : Nat} {v : Value} {N : List Nat} {w : World} (s : ByteArray) (hs : s.size ≤ 4000000000) (hO : w.ownsRow base 5 1 v N.length (bcs N)) (hbase : base ≤ w.heap.size) (hN : N.length ≤ 4000000000) :
    Calls Try.prog 40 #[v, .string s] w (LongB base N (shrt s.size ++ sb s) w) := by
  obtain ⟨i, hi, hz, hs1, hb⟩ := info_parts info5
  have HO := Lib.hid hO
  have hsl := shrt_len s.size (by omega)
  clear hO
  go_enter Try.func40, Try.ntmps40
  go_wp2_with fail
  refine (laidShort_any s.size (by omega) HO.out hbase hN).mono ?_
  rintro e w1 ⟨g, c, rfl, ho, hg, _⟩
  have H := Lib.hid (And.intro ho (LB.of_grown hg HO.out))
  clear ho hg
  go_wp2_with (at_builtin; go_must (refine wpList_append_own_string _ rfl (.tmp 9) (.tmp 10) 22 9 rfl base 5 i Try.underlying22 Try.underlying9 hi hz hs1 hb _ (N.length + (shrt s.size).length) (bcs (N ++ shrt s.size)) rfl H.out.1 s rfl (by unfold maxLen; omega) (by omega) (by have := H.out.2.size; omega) ?_))
  intro v' w2 hown hgrow hnil
  have HE : Hid (w2.ownsRow base 5 1 v' (N.length + (shrt s.size ++ sb s).length) (bcs (N ++ (shrt s.size ++ sb s))) ∧ LB base w w2) := by
    refine ⟨?_, H.out.2.trans (.of_grown hgrow H.out.1)⟩
    rw [strCells_sb, ← bcs_app, List.append_assoc] at hown
    rw [List.length_append, sb_len, ← Nat.add_assoc]; exact hown
  clear hown hgrow hnil
  go_wp2_with fail
  go_ret
  exact ⟨_, rfl, HE.out.1, HE.out.2⟩
theorem mark_any {k i : Int} {s : ByteArray} {L K : Value} {t1 t2 : Int} {x : Bool} {oL oK : Option Addr} {nL nK cL cK : Nat} (hL : L = .slice oL nL cL) (hK : K = .slice oK nK cK) (w : World) :
    Calls Try.prog 51 #[vv k i s L K t1 t2 x] w fun e w' => e = .returned (.int .u8 (if x then 1 else 0)) ∧ Below w.heap.size w w' := by
  subst hL hK
  cases x
  all_goals
    go_enter Try.func51, Try.ntmps51
    go_wp2
    go_ret
    exact ⟨rfl, (Below.refl _ _).alloc (Nat.le_refl _) _⟩
/-- a value's first byte -/
def headN (V : Val) : Nat := V.k.toNat + if V.x then 128 else 0
theorem head_eq {k : Int} {x : Bool} (h0 : 0 ≤ k) (h1 : k < 128) : bits .or .u8 (IntKind.u8.wrap ((if x then 1 else 0) * 128)) (IntKind.u8.wrap k) = ((k.toNat + if x then 128 else 0 : Nat) : Int) := by
  obtain ⟨a, rfl⟩ := Int.eq_ofNat_of_zero_le h0
  have h2 : IntKind.u8.wrap (a : Int) = (a : Int) := wraps_u8 _ (by omega) (by omega)
  rw [h2]
  cases x
  · simp only [Bool.false_eq_true, if_false]
    have e : IntKind.u8.wrap (0 * 128) = ((0 : Nat) : Int) := by decide
    rw [e, (bits_nat .u8 8 (by decide) wraps_u8 0 a (by omega) (by omega)).2]; simp
  · simp only [if_true]
    have e : IntKind.u8.wrap (1 * 128) = (128 : Int) := by decide
    rw [e, bits_join .u8 8 (by decide) wraps_u8 7 128 (a : Int) (by decide) (by decide) (by decide) (by omega) (by omega) (by omega)]; simp; omega
/-- what holds of all worlds in the middle of a drawn region: nothing below N has turned -/
theorem held_at {N : Nat} {W0 : World} (h : N = W0.heap.size) : (∀ b o, b < N → W0.drew.cell? ⟨b, o, none⟩ = W0.cell? ⟨b, o, none⟩) ∧ Hid (Below N W0 W0.drew) ∧ Hid (N ≤ W0.drew.heap.size) :=
  ⟨fun _ _ _ => rfl, (Below.refl _ _).drew, Nat.le_of_eq h⟩
theorem held_next {N : Nat} {W0 W W' : World} (b : Below W.heap.size W W') (h : (∀ b o, b < N → W.cell? ⟨b, o, none⟩ = W0.cell? ⟨b, o, none⟩) ∧ Hid (Below N W0 W) ∧ Hid (N ≤ W.heap.size)) : (∀ b o, b < N → W'.cell? ⟨b, o, none⟩ = W0.cell? ⟨b, o, none⟩) ∧ Hid (Below N W0 W') ∧ Hid (N ≤ W'.heap.size) := by
  have hb := h.2.1.out.trans (b.mono h.2.2.out)
  exact ⟨fun k o hk => hb.cell (p := ⟨k, o, none⟩) hk, hb, Nat.le_trans h.2.2.out b.size⟩
set_option maxHeartbeats 2000000 in
theorem head_any {n : Nat} {V : Val} {v : Value} {w : World} (h : Lies n w V v) (hk : 0 ≤ V.k ∧ V.k < 128) :
    Calls Try.prog 37 #[v] w fun e w' => e = .returned (.int .u8 (headN V)) ∧ Below w.heap.size w w' := by
  obtain ⟨oL, oK, cL, cK, c, rfl, O⟩ := h.inv
  have HB := Lib.hid (Hd.made w V (.slice oL V.l.length cL) (.slice oK V.ks.length cK))
  have HW := Lib.hid ((Below.refl w.heap.size w).alloc (Nat.le_refl _) (bx V oL oK cL cK))
  have HZ : Hid ((w.alloc (bx V oL oK cL cK)).heap.size = w.heap.size + 1) := by simp [Hid]
  obtain ⟨q, hq⟩ : ∃ q : Int, (if V.x then 1 else 0) = q := ⟨_, rfl⟩
  have he := head_eq (x := V.x) hk.1 hk.2
  rw [hq] at he
  have HE := Lib.hid he
  have HM : Hid (∀ w, Calls Try.prog 51 #[vv V.k V.i V.s (.slice oL V.l.length cL) (.slice oK V.ks.length cK) V.tk V.to V.x] w fun e w' => e = .returned (.int .u8 q) ∧ Below w.heap.size w w') := fun w => by rw [← hq]; exact mark_any rfl rfl w
  clear O he hq
  go_enter Try.func37, Try.ntmps37
  go_wp2_with fail
  generalize w.alloc _ = w0 at *
  obtain ⟨x8, x0, x1, x2, x3, x4, x5, x6, x7⟩ := HB.out
  obtain ⟨N, hN⟩ : ∃ N, N = w0.heap.size := ⟨_, rfl⟩
  have S0 := held_at hN
  have hlt : w.heap.size < N := by have := HZ.out; omega
  have HN := Lib.hid hN
  clear hN h
  go_region_held3 (fun W => (∀ b o, b < N → W.cell? ⟨b, o, none⟩ = w0.cell? ⟨b, o, none⟩) ∧ Hid (Below N w0 W) ∧ Hid (N ≤ W.heap.size))
    (first | assumption | with_reducible exact held_next (by assumption) (by assumption))
    (first
      | (go_at_call 51; (with_reducible refine (HM.out _).mono ?_); rintro e W ⟨rfl, b⟩))
  go_wp2
  go_ret
  rename_i hH
  exact ⟨ret_int HE.out, HW.out.trans (hH.2.1.out.mono (by have := HN.out; have := HZ.out; omega))⟩
end Go.Proofs.Ytpmdkekjoocplaa

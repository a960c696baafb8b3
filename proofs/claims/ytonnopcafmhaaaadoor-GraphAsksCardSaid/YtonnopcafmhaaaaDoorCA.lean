/- Contracts: reach, Under, Over. -/
import Derived.Test.YtonnopcafmhaaaaDoorR1
import Derived.Test.YtonnopcafmhaaaaDoorC9
namespace Go.Proofs.YtonnopcafmhaaaaDoor
open Go.RowKit

/-- is it asked for? -/
def inL (l : List Int) : Nat → Bool := fun k => decide ((k : Int) ∈ l)
/-- what is opened of the first j -/
def opn (n : Nat) (l : List Int) (j : Nat) : Nat → Bool := fun k => decide (k < n ∧ (k : Int) ∈ l.take j)
theorem opn_yes {n : Nat} {l : List Int} {j x : Nat} (hj : j < l.length) (hx : l.getD j 0 = (x : Int)) (hn : x < n) : opn n l (j + 1) = upd (opn n l j) x := by
  funext k; unfold opn upd
  by_cases e : k = x
  · subst e
    rw [if_pos rfl]
    exact decide_eq_true ⟨hn, (take_mem hj _).2 (.inr hx.symm)⟩
  · rw [if_neg e]
    refine decide_eq_decide.2 ?_
    rw [take_mem hj, hx]
    constructor
    · rintro ⟨h1, h | h⟩
      · exact ⟨h1, h⟩
      · omega
    · rintro ⟨h1, h⟩
      exact ⟨h1, .inl h⟩
theorem opn_no {n : Nat} {l : List Int} {j : Nat} (hj : j < l.length) (hx : ¬ (0 ≤ l.getD j 0 ∧ l.getD j 0 < n)) : opn n l (j + 1) = opn n l j := by
  funext k; unfold opn
  refine decide_eq_decide.2 ?_
  rw [take_mem hj]
  constructor
  · rintro ⟨h1, h | h⟩
    · exact ⟨h1, h⟩
    · rw [← h] at hx; omega
  · rintro ⟨h1, h⟩
    exact ⟨h1, .inl h⟩
/-- where the search stands -/
structure Ri (R : Nat → Nat → Bool) (n : Nat) (S O D : Nat → Bool) : Prop where
  o : ∀ k, O k = true → Rch R n S k
  d : ∀ k, D k = true → Rch R n S k
  s : ∀ k, k < n → S k = true → O k = true ∨ D k = true
  c : ∀ i k, D i = true → k < n → R i k = true → O k = true ∨ D k = true
theorem Ri.start (R : Nat → Nat → Bool) (n : Nat) (l : List Int) : Ri R n (inL l) (opn n l l.length) (fun _ => false) :=
  ⟨fun k h => by
    unfold opn at h
    have := of_decide_eq_true h
    rw [List.take_length] at this
    exact .start this.1 (decide_eq_true this.2), fun k h => (by cases h), fun k hk h => .inl (by
      unfold opn
      rw [List.take_length]
      exact decide_eq_true ⟨hk, of_decide_eq_true h⟩), fun i k h => (by cases h)⟩
theorem Ri.step {R : Nat → Nat → Bool} {n : Nat} {S O D : Nat → Bool} (h : Ri R n S O D) {x : Nat} (hx : Rch R n S x) (hf : ∀ i k, R i k = true → k < n) : Ri R n S (uni O (R x)) (upd D x) := by
  refine ⟨fun k hk => ?_, fun k hk => ?_, fun k hk hs => ?_, fun i k hi hk hr => ?_⟩
  · unfold uni at hk
    rw [Bool.or_eq_true] at hk
    rcases hk with hk | hk
    · exact h.o k hk
    · exact .step hx (hf x k hk) hk
  · unfold upd at hk
    by_cases e : k = x
    · subst e; exact hx
    · rw [if_neg e] at hk; exact h.d k hk
  · unfold uni upd
    rcases h.s k hk hs with h1 | h1
    · exact .inl (by rw [h1]; rfl)
    · refine .inr ?_
      by_cases e : k = x
      · rw [if_pos e]
      · rw [if_neg e]; exact h1
  · unfold upd at hi
    by_cases e : i = x
    · subst e
      exact .inl (by unfold uni; rw [hr, Bool.or_true])
    · rw [if_neg e] at hi
      unfold uni upd
      rcases h.c i k hi hk hr with h1 | h1
      · exact .inl (by rw [h1]; rfl)
      · refine .inr ?_
        by_cases e : k = x
        · rw [if_pos e]
        · rw [if_neg e]; exact h1
theorem Ri.less {R : Nat → Nat → Bool} {n : Nat} {S O D : Nat → Bool} (h : Ri R n S O D) : Ri R n S (dif O D) D := by
  refine ⟨fun k hk => ?_, h.d, fun k hk hs => ?_, fun i k hi hk hr => ?_⟩
  · unfold dif at hk
    simp only [Bool.and_eq_true] at hk
    exact h.o k hk.1
  · unfold dif
    cases hd : D k with
    | true => exact .inr rfl
    | false => rcases h.s k hk hs with h1 | h1
               · exact .inl (by rw [h1]; rfl)
               · rw [hd] at h1; cases h1
  · unfold dif
    cases hd : D k with
    | true => exact .inr rfl
    | false => rcases h.c i k hi hk hr with h1 | h1
               · exact .inl (by rw [h1]; rfl)
               · rw [hd] at h1; cases h1
theorem Ri.done {R : Nat → Nat → Bool} {n : Nat} {S O D : Nat → Bool} (h : Ri R n S O D) (ho : ∀ k, k < n → O k = false) : ∀ k, D k = true ↔ Rch R n S k := fun k => by
  refine ⟨h.d k, fun hr => ?_⟩
  induction hr with
  | start hk hs => rcases h.s _ hk hs with h1 | h1
                   · rw [ho _ hk] at h1; cases h1
                   · exact h1
  | step hi hk ha ih => rcases h.c _ _ ih hk ha with h1 | h1
                        · rw [ho _ hk] at h1; cases h1
                        · exact h1
theorem cnt_lt {s t : Nat → Bool} {n x : Nat} (h : ∀ k, s k = true → t k = true) (hx : x < n) (h1 : s x = false) (h2 : t x = true) : cnt s n < cnt t n := by
  apply Classical.byContradiction
  intro hn
  have := cnt_same h (n := n) (by omega) x hx
  rw [h1, h2] at this; cases this
/-- the list that is told -/
theorem lst_under {R : Nat → Nat → Bool} {n : Nat} {S D : Nat → Bool} (hn : n ≤ 128) (h : ∀ k, D k = true ↔ Rch R n S k) : lst D 128 = nl (underM R n S) := by
  have h1 := lst_skip (S := D) (n := n) (128 - n) fun j hj => by
    cases hd : D (n + j) with
    | false => rfl
    | true => have := ((h _).1 hd).lt; omega
  rw [show n + (128 - n) = 128 by omega] at h1
  rw [h1, ← under_eq (f := D) fun k _ => h k]
  rfl
theorem Rd.exc {w w' : World} {sp : Option Addr} {M : List Int} {d : Nat} (h : Rd w sp M) (x : Exc (some d) w w') (hd : ∀ k o, sp = some ⟨k, o, none⟩ → k ≠ d) : Rd w' sp M := fun i hi => by
  obtain ⟨k, o, e, h1, h2⟩ := h i hi
  exact ⟨k, o, e, Nat.lt_of_lt_of_le h1 x.size, (World.cell?_of_block (w := w) (a := ⟨k, o + i, none⟩) (x.block k h1 fun e2 => hd k o e (Option.some.inj e2).symm)).trans h2⟩
theorem nl_get' {L : List Nat} {j : Nat} (h : j < L.length) : ∃ k, L[j]? = some k ∧ (nl L).getD j 0 = (k : Int) := by
  refine ⟨L[j], List.getElem?_eq_getElem h, ?_⟩
  unfold nl
  rw [List.getD_eq_getElem?_getD, List.getElem?_map, List.getElem?_eq_getElem h]; rfl
/-- what the search holds of memory -/
def RS (B g n : Nat) (A : Nat → Nat → Bool) (w0 : World) (O D : Nat → Bool) (W : World) : Prop := St W B O ∧ St W (B + 1) D ∧ GB W g n A (turnA A) ∧ Below B w0 W
theorem RS.keep {B g n : Nat} {A : Nat → Nat → Bool} {w0 W W' : World} {O D : Nat → Bool} (h : RS B g n A w0 O D W) (b : Below W.heap.size W W') : RS B g n A w0 O D W' :=
  ⟨below_row b h.1 (World.rowIs.lt h.1), below_row b h.2.1 (World.rowIs.lt h.2.1), below_row b h.2.2.1 (World.rowIs.lt h.2.2.1), h.2.2.2.trans (b.mono (Nat.le_of_lt (World.rowIs.lt h.1)))⟩
theorem wpList_neq49b {ops : Array Oper} {rest : List Oper} {o : Oper} {a : Act} {w : World} {Q : Exit → Act → World → Prop} (hw : Region.wanted o (yielded ops a.tmps) = true) (s t : Operand) (ho : o.op = .binOp .neq 49 s t 49)
    (x y : Int) (b : Bool) (hx : a.eval s = .agg #[.int .u64 x, .int .u64 y]) (hy : a.eval t = .agg #[.int .u64 0, .int .u64 0]) (hb : (decide (x = 0) && decide (y = 0)) = b) (h : wpList Tryd.prog ops Q rest (a.put o.dst (.bool (!b))) w) : wpList Tryd.prog ops Q (o :: rest) a w :=
  wpList_neq49 hw s t ho x y hx hy (by rw [hb]; exact h)
theorem st_dif {w : World} {g : Nat} {S : Nat → Bool} (h : St w g S) (T : Nat → Bool) : St ((w.setCell ⟨g, 0, none⟩ (.int .u64 (wd T 0 : Int))).setCell ⟨g, 1, none⟩ (.int .u64 (wd T 1 : Int))) g T :=
  ((h.set 0 _).set 1 _).congr fun i hi => by
    have : i = 0 ∨ i = 1 := by omega
    rcases this with rfl | rfl <;> rfl
theorem exc_dif (w : World) (g : Nat) (u v : Value) : Exc (some g) w ((w.setCell ⟨g, 0, none⟩ u).setCell ⟨g, 1, none⟩ v) :=
  (show Exc (some g) w (w.setCell ⟨g, 0, none⟩ u) from exc_set w g 0 u 0).trans (exc_set _ g 1 v 0)
set_option maxHeartbeats 8000000 in
theorem reach_any {w : World} {g n : Nat} {A R : Nat → Nat → Bool} (o : Nat) (sp : Option Addr) (cap : Nat) (l : List Int) (h : GR w g n A) (hT : Tab w) (hr : Rd w sp l) (hl : l.length ≤ maxLen)
    (hR : ∀ W, GB W g n A (turnA A) → ∀ i, i < 128 → W.cell? ⟨g, o + i * 2, none⟩ = some (.int .u64 (wd (R i) 0 : Int)) ∧ W.cell? ⟨g, o + i * 2 + 1, none⟩ = some (.int .u64 (wd (R i) 1 : Int)))
    (hf : ∀ i k, R i k = true → k < n) :
    Calls Tryd.prog 30 #[.pointer (some ⟨g, 0, none⟩), .pointer (some ⟨g, o, none⟩), .slice sp l.length cap] w fun e w' => ∃ v, e = .returned v ∧ Is w' w.heap.size v (nl (underM R n (inL l))) ∧ Below w.heap.size w w' := by
  have HT := Lib.hid hT
  have hT0 := hT.1
  have hn := h.le
  have hg := h.lt
  have HR := Lib.hid hR
  have HF := Lib.hid hf
  have HL := Lib.hid hr
  have E1 := Lib.hid ((st_nil w).alloc (.cells #[.int .u64 0, .int .u64 0] 49))
  have E2 := Lib.hid (st_nil (w.alloc (.cells #[.int .u64 0, .int .u64 0] 49)))
  have E3 := Lib.hid ((h.blk.alloc (.cells #[.int .u64 0, .int .u64 0] 49)).alloc (.cells #[.int .u64 0, .int .u64 0] 49))
  have E4 : Hid (Below w.heap.size w ((w.alloc (.cells #[.int .u64 0, .int .u64 0] 49)).alloc (.cells #[.int .u64 0, .int .u64 0] 49))) := ((Below.refl _ w).alloc (Nat.le_refl _) _).alloc (by simp) _
  rw [Go.Deep.nblk_alloc] at E2
  obtain ⟨B, hB⟩ : ∃ B, w.heap.size = B := ⟨_, rfl⟩
  rw [hB] at E1 E2 E4 hg hT0
  have HB := Lib.hid hB
  obtain ⟨ll, hll⟩ : ∃ k, l.length = k := ⟨_, rfl⟩
  have HLL := Lib.hid hll
  have HRS := Lib.hid (Ri.start R n l)
  rw [hll] at hl HRS ⊢
  unfold maxLen at hl
  clear h hT hr hR hf hll
  go_enter Tryd.func30, Tryd.ntmps30
  go_wp2
  clear hB
  go_loopg [15] ll (fun k c wr => ∃ j : Nat, j ≤ ll ∧ k = ll - j ∧ c = .int .i64 j ∧ Hid (RS B g n A w (opn n l j) (fun _ => false) wr))
  case atStart => exact ⟨0, by omega, by omega, rfl, by
    have : opn n l 0 = fun _ => false := by funext k; simp [opn]
    unfold Hid RS; rw [this]; exact ⟨E1.out, E2.out, E3.out, E4.out⟩⟩
  case round =>
    clear E1 E2 E3 E4
    obtain ⟨j, hj, rfl, rfl, HS⟩ := hrel
    by_cases hjl : j < ll
    · obtain ⟨b1, o1, rfl, q1, c1⟩ := HL.out j (by rw [HLL.out]; exact hjl)
      have c1 : wr.cell? ⟨b1, o1 + j, none⟩ = _ := (HS.out.2.2.2.cell (p := ⟨b1, o1 + j, none⟩) (by show b1 < B; have := HB.out; omega)).trans c1
      have j0 : (0 : Int) ≤ j := by omega
      have jl : (j : Int) < ll := by omega
      by_cases hx : 0 ≤ l.getD j 0 ∧ l.getD j 0 < n
      · obtain ⟨x, hxe⟩ : ∃ x : Nat, l.getD j 0 = x := ⟨(l.getD j 0).toNat, by omega⟩
        have hxn : x < n := by omega
        have EN := opn_yes (n := n) (l := l) (j := j) (by rw [HLL.out]; exact hjl) hxe hxn
        rw [hxe] at c1
        clear hx hxe
        have HO := holds_yes HS.out.2.2.1 hxn
        have HA := add_st B x (opn n l j) wr (by omega) HS.out.1
        rw [← EN] at HA
        clear EN
        go_wp2_with fail
        refine HO.mono ?_
        rintro e w2 ⟨rfl, rfl⟩
        clear HO
        go_wp2_with fail
        refine HA.mono ?_
        rintro e w2 ⟨rfl, s2, x2⟩
        have hb := World.rowIs.lt HS.out.1
        have HS2 : Hid (RS B g n A w (opn n l (j + 1)) (fun _ => false) w2) := ⟨s2, Exc.row x2 HS.out.2.1 (by omega), Exc.row x2 HS.out.2.2.1 (by omega), HS.out.2.2.2.trans (x2.below1 (by omega) (Nat.le_refl _))⟩
        clear HA s2 x2 HS hb c1
        go_wp2_with fail
        go_roundg (ll - (j + 1))
        case rel => exact ⟨j + 1, by omega, rfl, by go_num, HS2.out⟩
        case measure => omega
      · have EN := opn_no (n := n) (l := l) (j := j) (by rw [HLL.out]; exact hjl) hx
        have HO := holds_no HS.out.2.2.1 hx
        rw [← EN] at HS
        clear hx EN
        generalize l.getD j 0 = x at *
        go_wp2_with fail
        refine HO.mono ?_
        rintro e w2 ⟨rfl, rfl⟩
        clear HO c1
        go_wp2_with fail
        go_roundg (ll - (j + 1))
        case rel => exact ⟨j + 1, by omega, rfl, by go_num, HS.out⟩
        case measure => omega
    · have hjl : j = ll := by omega
      subst hjl
      go_wp2
      go_loopg [] n (fun k wr => ∃ O D : Nat → Bool, k = n - cnt D n ∧ Hid (Ri R n (inL l) O D) ∧ Hid (∀ k, O k = true → D k = false) ∧ Hid (RS B g n A w O D wr))
      case atStart => exact ⟨_, _, by rw [cnt_none]; omega, HRS.out, fun _ _ => rfl, HS.out⟩
      case round =>
        clear HS HRS
        obtain ⟨O, D, rfl, HI, HX, HS⟩ := hrel
        obtain ⟨a0, a1⟩ := st_two HS.out.1
        obtain ⟨bz, hbz⟩ : ∃ b, (decide ((wd O 0 : Int) = 0) && decide ((wd O 1 : Int) = 0)) = b := ⟨_, rfl⟩
        cases bz with
        | true =>
          have HZ := Lib.hid (set_zero O ▸ hbz)
          have HBZ := Lib.hid hbz
          have LI := Lib.hid (list_any D wr (HT.out.below HS.out.2.2.2 hT0))
          obtain ⟨d0, d1⟩ := st_two HS.out.2.1
          clear hbz
          go_wp2_with (refine wpList_neq49b rfl (.tmp 25) (.tmp 26) rfl (wd O 0 : Int) (wd O 1 : Int) true rfl rfl HBZ.out ?_)
          refine LI.out.mono ?_
          rintro e w3 ⟨v, rfl, hv, b3⟩
          have HV : Hid (Is w3 w.heap.size v (nl (underM R n (inL l))) ∧ Below w.heap.size w w3) := by
            have hs : w.heap.size ≤ wr.heap.size := HS.out.2.2.2.size
            refine ⟨?_, ?_⟩
            · rw [← lst_under hn (HI.out.done fun k hk => by
                have := List.all_eq_true.1 HZ.out k (List.mem_range.2 (by omega))
                simpa using this)]
              exact hv.mono hs
            · have h3 := HS.out.2.2.2
              rw [← HB.out] at h3
              exact h3.trans (b3.mono hs)
          clear hv b3 LI HS a0 a1 d0 d1 HBZ
          go_wp2_with fail
          go_ret
          exact ⟨v, rfl, HV.out.1, HV.out.2⟩
        | false =>
          have HNE : Hid (∃ x, x < n ∧ O x = true) := by
            rw [set_zero] at hbz
            have : ¬ ∀ k, k ∈ List.range 128 → (!O k) = true := fun hall => by
              rw [List.all_eq_true.2 hall] at hbz; cases hbz
            apply Classical.byContradiction
            intro hno
            refine this fun k _ => ?_
            cases ho : O k with
            | false => rfl
            | true => exact absurd ⟨k, (HI.out.o k ho).lt, ho⟩ hno
          have HBZ := Lib.hid hbz
          have LI := Lib.hid (list_any O wr (HT.out.below HS.out.2.2.2 hT0))
          clear hbz
          go_wp2_with (refine wpList_neq49b rfl (.tmp 25) (.tmp 26) rfl (wd O 0 : Int) (wd O 1 : Int) false rfl rfl HBZ.out ?_)
          refine LI.out.mono ?_
          rintro e w3 ⟨v, rfl, ⟨p4, c4, rfl, -, -, rd4, -, q4⟩, b3⟩
          have HS3 := Lib.hid (HS.out.keep b3)
          have hb2 := World.rowIs.lt HS.out.2.1
          rw [lst_nl, nl_len] at q4
          rw [lst_nl] at rd4
          have HR4 := Lib.hid rd4
          have HML : Hid (∀ x, x ∈ lstN O 128 ↔ x < 128 ∧ O x = true) := fun x => mem_lstN
          have hl128 : (lstN O 128).length ≤ 128 := by
            have := lst_len O 128
            rw [lst_nl, nl_len] at this; exact this
          rw [lst_nl, nl_len]
          generalize lstN O 128 = L at *
          have HQ4 : Hid (∀ k o, 0 < L.length → p4 = some ⟨k, o, none⟩ → B + 2 ≤ k) := fun k o hl e => by
            obtain ⟨g4, e4, h4⟩ := q4 hl
            rw [e4] at e
            injection e with e; injection e with e _; omega
          clear q4 rd4 b3 LI HS a0 a1 hb2 HBZ
          obtain ⟨lk, hlk⟩ : ∃ k, L.length = k := ⟨_, rfl⟩
          have HLK := Lib.hid hlk
          rw [hlk] at hl128 HQ4 ⊢
          clear hlk
          go_wp2
          go_loopg [31] lk (fun k c wr => ∃ (z : Nat) (O2 D2 : Nat → Bool), z ≤ lk ∧ k = lk - z ∧ c = .int .i64 z ∧ Hid (Ri R n (inL l) O2 D2) ∧ Hid (∀ k, D k = true → D2 k = true) ∧ Hid (∀ q x, q < z → L[q]? = some x → D2 x = true) ∧ Hid (RS B g n A w O2 D2 wr) ∧ Hid (Rd wr p4 (nl L)))
          case atStart => exact ⟨0, O, D, by omega, by omega, rfl, HI.out, fun _ h => h, fun q x h => absurd h (Nat.not_lt_zero _), HS3.out, HR4.out⟩
          case round =>
            clear HS3 HR4
            obtain ⟨z, O2, D2, hz, rfl, rfl, HI2, HD2, HP2, HS, HR4⟩ := hrel
            by_cases hzl : z < lk
            · obtain ⟨x, hx, hxv⟩ := nl_get' (L := L) (j := z) (by rw [HLK.out]; exact hzl)
              obtain ⟨b1, o1, rfl, q1, c1⟩ := HR4.out z (by rw [nl_len, HLK.out]; exact hzl)
              rw [hxv] at c1
              have hxm := (HML.out x).1 (List.mem_of_getElem? hx)
              have hxr := HI.out.o x hxm.2
              have hxn := hxr.lt
              have hbk := HQ4.out b1 o1 (by omega) rfl
              have z0 : (0 : Int) ≤ z := by omega
              have zl : (z : Int) < lk := by omega
              have x0 : (0 : Int) ≤ x := by omega
              have x8 : (x : Int) < 128 := by omega
              have HI3 := Lib.hid (HI2.out.step hxr HF.out)
              have HD3 : Hid (∀ k, D k = true → upd D2 x k = true) := fun k hk => by
                unfold upd
                by_cases e : k = x
                · rw [if_pos e]
                · rw [if_neg e]; exact HD2.out k hk
              have HP3 : Hid (∀ q y, q < z + 1 → L[q]? = some y → upd D2 x y = true) := fun q y hq hy => by
                unfold upd
                by_cases e : y = x
                · rw [if_pos e]
                · rw [if_neg e]
                  have : q ≠ z := fun e2 => e (by rw [e2, hx] at hy; injection hy with hy; exact hy.symm)
                  exact HP2.out q y (by omega) hy
              have HA := add_st (B + 1) x D2 wr (by omega) HS.out.2.1
              clear hxv hx hxm hxr HI2 HD2 HP2
              go_wp2_with fail
              refine HA.mono ?_
              rintro e w5 ⟨rfl, s5, x5⟩
              have hb := World.rowIs.lt HS.out.2.1
              have HS5 : Hid (RS B g n A w O2 (upd D2 x) w5) := ⟨Exc.row x5 HS.out.1 (by omega), s5, Exc.row x5 HS.out.2.2.1 (by omega), HS.out.2.2.2.trans (x5.below1 (by omega) (by omega))⟩
              have HR5 : Hid (Rd w5 (some ⟨b1, o1, none⟩) (nl L)) := HR4.out.exc x5 fun k o e => by injection e with e; injection e with e _; omega
              obtain ⟨r0, r1⟩ := HR.out w5 HS5.out.2.2.1 x (by omega)
              have TA := take_st B O2 (R x) w5 HS5.out.1
              clear HA s5 x5 HS HR4 c1 hb
              go_wp2_with fail
              refine TA.mono ?_
              rintro e w6 ⟨rfl, s6, x6⟩
              have hb := World.rowIs.lt HS5.out.2.1
              have HS6 : Hid (RS B g n A w (uni O2 (R x)) (upd D2 x) w6) := ⟨s6, Exc.row x6 HS5.out.2.1 (by omega), Exc.row x6 HS5.out.2.2.1 (by omega), HS5.out.2.2.2.trans (x6.below1 (by omega) (Nat.le_refl _))⟩
              have HR6 : Hid (Rd w6 (some ⟨b1, o1, none⟩) (nl L)) := HR5.out.exc x6 fun k o e => by injection e with e; injection e with e _; omega
              clear TA s6 x6 HS5 HR5 r0 r1 hb
              go_wp2_with fail
              go_roundg (lk - (z + 1))
              case rel => exact ⟨z + 1, _, _, by omega, rfl, by go_num, HI3.out, HD3.out, HP3.out, HS6.out, HR6.out⟩
              case measure => omega
            · have hzl : z = lk := by omega
              subst hzl
              have HI3 := Lib.hid HI2.out.less
              have HC : Hid (cnt D n < cnt D2 n ∧ cnt D2 n ≤ n) := by
                obtain ⟨x, hxn, hxo⟩ := HNE.out
                obtain ⟨q, hq⟩ := List.mem_iff_getElem?.1 ((HML.out x).2 ⟨by omega, hxo⟩)
                have hqz : q < z := by rw [← HLK.out]; exact (List.getElem?_eq_some_iff.1 hq).1
                exact ⟨cnt_lt HD2.out hxn (HX.out x hxo) (HP2.out q x hqz hq), cnt_le _ _⟩
              have HX3 : Hid (∀ k, dif O2 D2 k = true → D2 k = false) := fun k hk => by
                unfold dif at hk
                simp only [Bool.and_eq_true, Bool.not_eq_true'] at hk
                exact hk.2
              have LS := Lib.hid (less_any O2 D2 wr)
              obtain ⟨a0, a1⟩ := st_two HS.out.1
              obtain ⟨d0, d1⟩ := st_two HS.out.2.1
              clear HI2 HD2 HP2 HR4
              go_wp2_with fail
              refine LS.out.mono ?_
              rintro e w5 ⟨rfl, b5⟩
              have HS5 := Lib.hid (HS.out.keep b5)
              have f0 := HS5.out.1.frozen 0
              have f1 := HS5.out.1.frozen 1
              obtain ⟨e0, e1⟩ := st_two HS5.out.1
              have hb := World.rowIs.lt HS5.out.2.1
              have HS6 : Hid (RS B g n A w (dif O2 D2) D2 ((w5.setCell ⟨B, 0, none⟩ (.int .u64 (wd (dif O2 D2) 0 : Int))).setCell ⟨B, 1, none⟩ (.int .u64 (wd (dif O2 D2) 1 : Int)))) := by
                have x6 := exc_dif w5 B (.int .u64 (wd (dif O2 D2) 0 : Int)) (.int .u64 (wd (dif O2 D2) 1 : Int))
                exact ⟨st_dif HS5.out.1 _, Exc.row x6 HS5.out.2.1 (by omega), Exc.row x6 HS5.out.2.2.1 (by omega), HS5.out.2.2.2.trans (x6.below1 (by omega) (Nat.le_refl _))⟩
              clear LS b5 HS a0 a1 d0 d1 hb
              unfold sv
              go_wp2_with fail
              go_roundg (n - cnt D2 n)
              case rel => exact ⟨_, _, rfl, HI3.out, HX3.out, HS6.out⟩
              case measure => have := HC.out; omega
end Go.Proofs.YtonnopcafmhaaaaDoor

/- put: elements of the call's own row, laid anew. -/
import Derived.Test.YtfmgbhaldakpfaaDoorCa
import Derived.Test.YtfmgbhaldakpfaaDoorSq
import Derived.Test.YtfmgbhaldakpfaaDoorCc
namespace Go.Proofs.YtfmgbhaldakpfaaDoor
open Go.RowKit

abbrev blk (o : Option Addr) : Option Nat := o.map (·.block)
/-- len elements F in the call's own row, which lie elsewhere -/
def Pst (lo : Nat) (w : World) (o : Option Addr) (len : Nat) (F : Nat → Val) : Prop :=
  len = 0 ∨ ∃ g C, o = some ⟨g, 0, none⟩ ∧ lo ≤ g ∧ Out w g 42 len 8 len C ∧ ∀ m, m < len → LiesP (fun b => lo ≤ b ∧ b < w.heap.size ∧ b ≠ g) w (F m) (agg8 C m)
theorem Pst.keep {lo len : Nat} {w w' : World} {o : Option Addr} {F : Nat → Val} (h : Pst lo w o len F) (b : Below w.heap.size w w') : Pst lo w' o len F := by
  rcases h with h | ⟨g, C, e, hg, hO, hE⟩
  · exact .inl h
  · exact .inr ⟨g, C, e, hg, hO.keep b hO.lt, fun m hm => (hE m hm).keptP fun q hq => ⟨⟨hq.1, Nat.lt_of_lt_of_le hq.2.1 b.size, hq.2.2⟩, b.block q hq.2.1⟩⟩
theorem Pst.ext {lo len : Nat} {w : World} {o : Option Addr} {F G : Nat → Val} (h : Pst lo w o len F) (e : ∀ m, m < len → F m = G m) : Pst lo w o len G := by
  rcases h with h | ⟨g, C, e1, hg, hO, hE⟩
  · exact .inl h
  · exact .inr ⟨g, C, e1, hg, hO, fun m hm => by rw [← e m hm]; exact hE m hm⟩
theorem Out.over {w : World} {g : Nat} {T : TypeId} {len z p : Nat} {C : Nat → Nat → Value} {cs : Array Value} {part : Array Value} (h1 : w.heap[g]? = some (.cells cs T (0, 0))) (h2 : cs.size = len * z)
    (h3 : ∀ i, i < len → ∀ m, m < z → cs[i * z + m]? = some (C i m)) (hj : p < len) (hp : part.size = z) (D : Nat → Value) (hD : ∀ m, m < z → part[m]? = some (D m)) :
    Out (w.setRow g (cs.toList.take (p * z) ++ part.toList ++ cs.toList.drop (p * z + part.size)).toArray) g T len z len (fun i m => if i = p then D m else C i m) := by
  have hjz : p * z + z ≤ len * z := by rw [← Nat.succ_mul]; exact Nat.mul_le_mul_right z hj
  refine ⟨_, setRow_heap w g _ _ T _ h1, ?_, fun i hi m hm => ?_⟩
  · simp only [List.size_toArray, List.length_append, List.length_take, List.length_drop, Array.length_toList]; omega
  · have hs := splice_get cs.toList part.toList (p * z) (i * z + m) (by simp only [Array.length_toList]; omega)
    simp only [Array.length_toList] at hs
    rw [List.getElem?_toArray, hs]
    show _ = some (if i = p then D m else C i m)
    by_cases e : i = p
    · subst e
      rw [if_neg (by omega), if_pos (by omega), if_pos rfl, Nat.add_sub_cancel_left, Array.getElem?_toList]
      exact hD m hm
    · rw [if_neg e]
      by_cases h : i < p
      · have h4 : i * z + z ≤ p * z := by rw [← Nat.succ_mul]; exact Nat.mul_le_mul_right z h
        rw [if_pos (by omega), Array.getElem?_toList]
        exact h3 i hi m hm
      · have h4 : p * z + z ≤ i * z := by rw [← Nat.succ_mul]; exact Nat.mul_le_mul_right z (by omega)
        rw [if_neg (by omega), if_neg (by omega), Array.getElem?_toList]
        exact h3 i hi m hm
theorem Pst.put {lo len p g : Nat} {w : World} {F : Nat → Val} {cs : Array Value} {Y : Val} {oL oK : Option Addr} {cL cK : Nat} {c : Nat → Nat → Value} (h : Pst lo w (some ⟨g, 0, none⟩) len F) (hp : p < len) (hcs : w.heap[g]? = some (.cells cs 42 (0, 0)))
    (hO : OpnP (fun b => lo ≤ b ∧ b < w.heap.size ∧ b ≠ g) w Y oL oK cL cK c) (part : Array Value) (hpt : part = c8 Y (.slice oL Y.l.length cL) (.slice oK Y.ks.length cK)) :
    Pst lo (w.setRow g (cs.toList.take (p * 8) ++ part.toList ++ cs.toList.drop (p * 8 + part.size)).toArray) (some ⟨g, 0, none⟩) len (fun i => if i = p then Y else F i) := by
  rcases h with h | ⟨g', C, e, hg, ⟨cs', e1, e2, e3⟩, hE⟩
  · omega
  injection e with e; injection e with e _; subst e
  rw [hcs] at e1
  simp only [Option.some.injEq, Obj.cells.injEq, and_true] at e1
  subst e1
  refine .inr ⟨g, _, rfl, hg, Out.over hcs e2 e3 hp (by rw [hpt]; rfl) (fun m => part[m]?.getD undef) (fun m hm => ?_), fun m hm => ?_⟩
  · have : m < part.size := by rw [hpt]; exact hm
    simp [this]
  · by_cases e : m = p
    · subst e
      simp only [if_true, agg8]
      rw [hpt]
      exact hO.lies.keptP fun q hq => ⟨⟨hq.1, by rw [size_setRow]; exact hq.2.1, hq.2.2⟩, setRow_other _ _ _ _ hq.2.2⟩
    · simp only [if_neg e, agg8]
      exact (hE m hm).keptP fun q hq => ⟨⟨hq.1, by rw [size_setRow]; exact hq.2.1, hq.2.2⟩, setRow_other _ _ _ _ hq.2.2⟩
theorem Exc.setRow {g : Nat} {a w : World} (h : Exc (some g) a w) (cs : Array Value) : Exc (some g) a (w.setRow g cs) :=
  ⟨h.os, h.tape, h.output, by rw [size_setRow]; exact h.size, fun k hk hc => (setRow_other _ _ _ _ (fun e => hc (by rw [e]))).trans (h.block k hk hc)⟩
/-- the elements, with X where the key among the first j is nm -/
def putF (ks : List ByteArray) (nm : ByteArray) (X : Val) (F : Nat → Val) (j : Nat) : Nat → Val := fun i => if i < j ∧ kk ks i = nm then X else F i
theorem putF_zero (ks : List ByteArray) (nm : ByteArray) (X : Val) (F : Nat → Val) : putF ks nm X F 0 = F := by funext i; unfold putF; rw [if_neg (by omega)]
theorem putF_no {ks : List ByteArray} {nm : ByteArray} {X : Val} {F : Nat → Val} {j : Nat} (h : kk ks j ≠ nm) : putF ks nm X F (j + 1) = putF ks nm X F j := by
  funext i
  unfold putF
  by_cases e : i = j
  · subst e; rw [if_neg (fun h2 => h h2.2), if_neg (fun h2 => h h2.2)]
  · by_cases h2 : i < j ∧ kk ks i = nm
    · rw [if_pos h2, if_pos ⟨by omega, h2.2⟩]
    · rw [if_neg h2, if_neg (fun h3 => h2 ⟨by omega, h3.2⟩)]
theorem putF_yes {ks : List ByteArray} {nm : ByteArray} {X : Val} {F : Nat → Val} {j : Nat} (h : kk ks j = nm) : putF ks nm X F (j + 1) = fun i => if i = j then X else putF ks nm X F j i := by
  funext i
  unfold putF
  by_cases e : i = j
  · subst e; rw [if_pos ⟨by omega, h⟩, if_pos rfl]
  · rw [if_neg e]
    by_cases h2 : i < j ∧ kk ks i = nm
    · rw [if_pos h2, if_pos ⟨by omega, h2.2⟩]
    · rw [if_neg h2, if_neg (fun h3 => h2 ⟨by omega, h3.2⟩)]
set_option maxHeartbeats 8000000 in
set_option maxRecDepth 100000 in
theorem put_any {lo : Nat} {V X : Val} {F : Nat → Val} {vx : Value} {w : World} {oL oK : Option Addr} {cL cK : Nat} (nm : ByteArray) (hcL : V.l.length ≤ cL ∧ cL ≤ maxLen) (hK : RowP (fun b => b < w.heap.size ∧ blk oL ≠ some b) w oK cK V.ks.length 1 fun j _ => .string (V.ks.getD j default))
    (hP : Pst lo w oL V.l.length F) (hs : sz X ≤ 60000) (hX : LiesP (fun b => b < w.heap.size ∧ blk oL ≠ some b) w X vx) (hlo : lo ≤ w.heap.size) :
    Calls Tryd.prog 48 #[vv V.k V.i V.s (.slice oL V.l.length cL) (.slice oK V.ks.length cK) V.tk V.to V.x, .string nm, vx] w fun e w' => e = .returned (.tuple #[]) ∧ Exc (blk oL) w w' ∧ Pst lo w' oL V.l.length (putF V.ks nm X F V.ks.length) := by
  obtain ⟨p1, p3, d1, d3, dd, rfl, OX⟩ := hX.inv
  have b0 : Below w.heap.size w ((w.alloc (bx V oL oK cL cK)).alloc (bx X p1 p3 d1 d3)) := bal (bal (Below.refl _ _) _) _
  have HB0 := Lib.hid b0
  have XA := Lib.hid ((Hd.made w V (.slice oL V.l.length cL) (.slice oK V.ks.length cK)).kept ((Below.refl (w.heap.size + 1) _).alloc (by simp) (bx X p1 p3 d1 d3)) (Nat.lt_succ_self _))
  have XB : Hid (Hd ((w.alloc (bx V oL oK cL cK)).alloc (bx X p1 p3 d1 d3)) (w.heap.size + 1) X (.slice p1 X.l.length d1) (.slice p3 X.ks.length d3)) := by have := Hd.made (w.alloc (bx V oL oK cL cK)) X (.slice p1 X.l.length d1) (.slice p3 X.ks.length d3); rw [World.size_alloc] at this; exact this
  have HS : Hid (((w.alloc (bx V oL oK cL cK)).alloc (bx X p1 p3 d1 d3)).heap.size = w.heap.size + 2) := by simp [Hid]
  have HP0 := Lib.hid (hP.keep b0)
  have HK0 := Lib.hid (hK.keptP (w' := (w.alloc (bx V oL oK cL cK)).alloc (bx X p1 p3 d1 d3)) fun q hq => ⟨hq, b0.block q hq.1⟩)
  have HX0 := Lib.hid (OX.keptP (w' := (w.alloc (bx V oL oK cL cK)).alloc (bx X p1 p3 d1 d3)) fun q hq => ⟨hq, b0.block q hq.1⟩)
  have HG : Hid (∀ g, oL = some ⟨g, 0, none⟩ → 0 < V.l.length → g < w.heap.size) := fun g e hl => by
    rcases hP with h | ⟨g', C, e', _, hO, _⟩
    · omega
    · rw [e] at e'; injection e' with e'; injection e' with e' _; subst e'; exact hO.lt
  have l1 := hK.1
  have l2 := hK.2.1
  obtain ⟨l3, l4⟩ := hcL
  unfold maxLen at l2 l4
  clear hX OX hP hK b0
  go_enter Tryd.func48, Tryd.ntmps48
  go_upto_region 1 with (fail)
  generalize (w.alloc _).alloc _ = w0 at *
  have hw2 : w0.heap.size = w.heap.size + 2 := HS.out
  obtain ⟨x8, x0, x1, x2, x3, x4, x5, x6, x7⟩ := XA.out
  by_cases hmm : V.l.length < V.ks.length
  all_goals
    go_wp2_with fail
    clear x8 x0 x1 x2 x3 x4 x5 x6 x7
    obtain ⟨M, hM1, hM2, hMM⟩ : ∃ M : Nat, M ≤ V.ks.length ∧ M ≤ V.l.length ∧ (M = V.ks.length ∨ M = V.l.length) := ⟨min V.ks.length V.l.length, by omega, by omega, by omega⟩
    go_loopw [14] (fun i wr => ∃ j : Nat, j ≤ M ∧ i = .int .i64 j ∧ Hid (Exc (blk oL) w0 wr) ∧ Hid (Pst lo wr oL V.l.length (putF V.ks nm X F j))) (fun i _ => M - (intOf i).toNat)
    case atStart => exact ⟨0, Nat.zero_le _, rfl, Exc.refl _ _, by unfold Hid; rw [putF_zero]; exact HP0.out⟩
    case round =>
      obtain ⟨j, hj, rfl, EX, HP⟩ := hrel
      by_cases hlt : j < M
      · have hlt1 : j < V.ks.length := by omega
        have hlt2 : j < V.l.length := by omega
        have hk1 : (j : Int) < (V.ks.length : Int) := by omega
        have hk2 : (j : Int) < (V.l.length : Int) := by omega
        obtain ⟨g, C, eL, hg, ⟨cs, e1, e2, e3⟩, hE⟩ := HP.out.resolve_left (by omega)
        have hgw := HG.out g eL (by omega)
        subst eL
        have HCS := Lib.hid (And.intro e1 e2)
        clear e1 e2 e3 hE
        have hsw := EX.out.size
        have nA : w.heap.size ≠ g := by omega
        have nB : w.heap.size + 1 ≠ g := by omega
        have hgb : blk (some ⟨g, 0, none⟩) = some g := rfl
        obtain ⟨x8, x0, x1, x2, x3, x4, x5, x6, x7⟩ := XA.out.exc EX.out (fun e => by rw [hgb] at e; injection e with e; omega)
        obtain ⟨z8, z0, z1, z2, z3, z4, z5, z6, z7⟩ := XB.out.exc EX.out (fun e => by rw [hgb] at e; injection e with e; omega)
        have HKr := HK0.out.keptP (w' := wr) (P' := fun b => b < w.heap.size ∧ blk (some ⟨g, 0, none⟩) ≠ some b) fun q hq => ⟨hq, EX.out.block q (by omega) hq.2⟩
        have HXr := Lib.hid (HX0.out.keptP (w' := wr) (P' := fun b => b < wr.heap.size) fun q hq => ⟨by have := hq.1; omega, EX.out.block q (by omega) hq.2⟩)
        obtain ⟨bk, ok, rfl, hbk, y0⟩ := HKr.key hlt1
        clear HKr
        have hloW : lo ≤ wr.heap.size := by omega
        by_cases he : kk V.ks j = nm
        · have HY := Lib.hid (putF_yes (X := X) (F := F) he)
          obtain ⟨s1, s2⟩ := str_eq he
          clear he
          go_upto_region 5 with (fail)
          obtain ⟨N, hN⟩ : ∃ N, N = wr.heap.size := ⟨_, rfl⟩
          have S0 : (∀ b o, b < N → b ≠ g → wr.drew.cell? ⟨b, o, none⟩ = wr.cell? ⟨b, o, none⟩) ∧ Hid (N ≤ wr.drew.heap.size) ∧ Hid (∀ b, b < N → b ≠ g → wr.drew.heap[b]? = wr.heap[b]?) := ⟨fun _ _ _ _ => rfl, Nat.le_of_eq hN, fun _ _ _ => rfl⟩
          have lA : w.heap.size < N := by rw [hN]; omega
          have lB : w.heap.size + 1 < N := by rw [hN]; omega
          have lG : g < N := by rw [hN]; omega
          have HN := Lib.hid hN
          have CE2 : Hid (Calls Tryd.prog 46 #[vv X.k X.i X.s (.slice p1 X.l.length d1) (.slice p3 X.ks.length d3) X.tk X.to X.x] wr.drew (CpPostD X wr.drew)) := copyD_any hs (n := wr.heap.size) ((HXr.out.keptP (w' := wr.drew) fun q hq => ⟨hq, rfl⟩).lies) (Nat.le_refl _)
          clear hN y0 s1 s2
          refine wp_region_noPanic ?_
          refine wp_region_held_drew (S := (fun W => (∀ b o, b < N → b ≠ g → W.cell? ⟨b, o, none⟩ = wr.cell? ⟨b, o, none⟩) ∧ Hid (N ≤ W.heap.size) ∧ Hid (∀ b, b < N → b ≠ g → W.heap[b]? = wr.heap[b]?))) (by kernel_rfl) ?_ (fun hH => ?_)
          · exact S0
          refine wpAnyH_take (i := 0) (oi := { dst := some 24, op := Op.fieldAddr 42 (Operand.tmp 3) 3, type := 0, pos := "change.go:57", after := #[], guard := none }) (v := ?_) rfl (by kernel_rfl) (by kernel_rfl) (by kernel_rfl) (fun _ _ _ h => h) (Or.inl ⟨by rfl, ?_⟩) (by assumption) ?_
          rotate_left
          · (intro w hSw; (try dsimp only at hSw); go_simp; try with_reducible rfl)
          try simp only [Act.put, List.setIfInBounds_toArray, List.set_cons_zero, List.set_cons_succ]
          refine wpAnyH_take (i := 1) (oi := { dst := some 25, op := Op.load 40 (Operand.tmp 24), type := 40, pos := "change.go:57", after := #[{ on := 0, ground := Ground.data }], guard := none }) (v := ?_) rfl (by kernel_rfl) (by kernel_rfl) (by kernel_rfl) (fun _ _ _ h => h) (Or.inl ⟨by rfl, ?_⟩) (by assumption) ?_
          rotate_left
          · (intro w hSw; (try dsimp only at hSw); go_simp; try with_reducible rfl)
          try simp only [Act.put, List.setIfInBounds_toArray, List.set_cons_zero, List.set_cons_succ]
          refine wpAnyH_take (i := 2) (oi := { dst := some 26, op := Op.move (Operand.tmp 6), type := 3, pos := "change.go:57", after := #[], guard := none }) (v := ?_) rfl (by kernel_rfl) (by kernel_rfl) (by kernel_rfl) (fun _ _ _ h => h) (Or.inl ⟨by rfl, ?_⟩) (by assumption) ?_
          rotate_left
          · (intro w hSw; (try dsimp only at hSw); go_simp; try with_reducible rfl)
          try simp only [Act.put, List.setIfInBounds_toArray, List.set_cons_zero, List.set_cons_succ]
          refine wpAnyH_take (i := 3) (oi := { dst := some 27, op := Op.load 42 (Operand.tmp 5), type := 42, pos := "change.go:57", after := #[], guard := none }) (v := ?_) rfl (by kernel_rfl) (by kernel_rfl) (by kernel_rfl) (fun _ _ _ h => h) (Or.inl ⟨by rfl, ?_⟩) (by assumption) ?_
          rotate_left
          · (intro w hSw; (try dsimp only at hSw); go_simp; try with_reducible rfl)
          try simp only [Act.put, List.setIfInBounds_toArray, List.set_cons_zero, List.set_cons_succ]
          refine wpAnyH_ready (rs := [4]) (by kernel_rfl) (by simp) ?_
          refine AllReadyH.cons (o := { dst := some 28, op := Op.call { callee := Callee.value (Operand.func 46), args := #[Operand.tmp 27], argTypes := #[42] }, type := 42, pos := "change.go:57", after := #[{ on := 3, ground := Ground.data }], guard := none }) rfl (fun K hK => ?_) AllReadyH.nil
          go_simp
          refine (CE2.out).mono ?_
          rintro e W_0 ⟨o1, o3, c1, c3, cc, rfl, OY, m1, m3, b, d1⟩
          refine hK.out _ _ ?_ (fun hH' => ?_)
          · exact ⟨fun b o hb hne => ((by assumption : Below wr.drew.heap.size wr.drew _).cell (p := ⟨b, o, none⟩) (by show b < wr.heap.size; rw [← HN.out]; exact hb)).trans (hH.1 b o hb hne), Nat.le_trans hH.2.1.out (by assumption : Below wr.drew.heap.size wr.drew _).size, fun b hb hne => ((by assumption : Below wr.drew.heap.size wr.drew _).block b (by show b < wr.heap.size; rw [← HN.out]; exact hb))⟩
          clear hK K hH
          have hH := hH'
          clear hH'
          try simp only [Act.put, List.setIfInBounds_toArray, List.set_cons_zero, List.set_cons_succ]
          refine wpAnyH_take (i := 5) (oi := { dst := some 29, op := Op.indexAddr 40 (Operand.tmp 25) (Operand.tmp 26), type := 0, pos := "change.go:57", after := #[{ on := 1, ground := Ground.data }, { on := 2, ground := Ground.data }, { on := 0, ground := Ground.phase }, { on := 1, ground := Ground.phase }, { on := 2, ground := Ground.phase }, { on := 3, ground := Ground.phase }, { on := 4, ground := Ground.phase }], guard := none }) (v := ?_) rfl (by kernel_rfl) (by kernel_rfl) (by kernel_rfl) (fun _ _ _ h => h) (Or.inl ⟨by rfl, ?_⟩) (by assumption) ?_
          rotate_left
          · (intro w hSw; (try dsimp only at hSw); go_simp; try with_reducible rfl)
          try simp only [Act.put, List.setIfInBounds_toArray, List.set_cons_zero, List.set_cons_succ]
          refine wpAnyH_ready (rs := [6]) (by kernel_rfl) (by simp) ?_
          refine AllReadyH.cons (o := { dst := none, op := Op.store 42 (Operand.tmp 29) (Operand.tmp 28), type := 0, pos := "change.go:57", after := #[{ on := 5, ground := Ground.data }, { on := 4, ground := Ground.data }, { on := 4, ground := Ground.chain }, { on := 0, ground := Ground.phase }, { on := 1, ground := Ground.phase }, { on := 2, ground := Ground.phase }, { on := 3, ground := Ground.phase }, { on := 4, ground := Ground.phase }], guard := none }) rfl (fun K hK => ?_) AllReadyH.nil
          have hcs7 : W_0.heap[g]? = some (.cells cs 42 (0, 0)) := (b.block g (by show g < wr.heap.size; rw [← HN.out]; exact lG)).trans HCS.out.1
          have FIN := Lib.hid (And.intro (((EX.out.trans (Exc.of_below (cb := some g) (Below.refl wr.heap.size wr).drew)).trans (Exc.of_below b)).setRow (cs.toList.take (j * 8) ++ (c8 X (.slice o1 X.l.length c1) (.slice o3 X.ks.length c3)).toList ++ cs.toList.drop (j * 8 + (c8 X (.slice o1 X.l.length c1) (.slice o3 X.ks.length c3)).size)).toArray) (Pst.put ((HP.out.keep (Below.refl wr.heap.size wr).drew).keep b) hlt2 hcs7 (OY.mono fun q hq => ⟨Nat.le_trans hloW hq.1, hq.2, by have h1 : wr.heap.size ≤ q := hq.1; omega⟩) _ rfl))
          refine step_store_at rfl 42 (.tmp 29) (.tmp 28) rfl g (j * 8) rfl (c8 X (.slice o1 X.l.length c1) (.slice o3 X.ks.length c3)) rfl 42 cs hcs7 ?_ ?_ ?_ ?_
          · have := HCS.out.2; have : (j + 1) * 8 ≤ V.l.length * 8 := Nat.mul_le_mul_right 8 hlt2; simp; omega
          · kernel_rfl
          · exact oneCell8 _ _ _ _ _ _ _
          refine hK.out _ _ ?_ (fun hH' => ?_)
          · exact ⟨fun b o hb hne => (World.cell?_of_block (setRow_other _ _ _ _ hne)).trans (hH.1 b o hb hne), by unfold Hid; rw [size_setRow]; exact hH.2.1.out, fun b hb hne => (setRow_other _ _ _ _ hne).trans (hH.2.2.out b hb hne)⟩
          clear hK K hH
          have hH := hH'
          clear hH'
          try simp only [Act.put, List.setIfInBounds_toArray, List.set_cons_zero, List.set_cons_succ]
          refine wpAnyH_done (by kernel_rfl) ?_ _
          refine NoPanic.normal ?_
          clear S0 hH x0 x1 x2 x3 x4 x5 x6 x7 z0 z1 z2 z3 z4 z5 z6 z7
          generalize World.setRow _ _ _ = wf at *
          go_wp2_with fail
          go_roundw
          case rel => exact ⟨j + 1, by omega, by go_num, FIN.out.1, by unfold Hid; rw [HY.out]; exact FIN.out.2⟩
          case measure => simp [intOf]; omega
        · have HY := Lib.hid (putF_no (X := X) (F := F) he)
          obtain ⟨s1, s2⟩ := str_ne he
          clear he
          go_wp2_with fail
          go_roundw
          case rel => exact ⟨j + 1, by omega, by go_num, EX, by unfold Hid; rw [HY.out]; exact HP.out⟩
          case measure => simp [intOf]; omega
      · have hjM : j = M := by omega
        first
          | have hneg : ¬ j < V.ks.length := by omega
          | have hneg : ¬ j < V.l.length := by omega
        have FE := Lib.hid (HP.out.ext (G := putF V.ks nm X F V.ks.length) fun m hm => by
          unfold putF
          rcases hMM with h | h
          · rw [hjM, h]
          · have e1 : (m < j ∧ kk V.ks m = nm) = (m < V.ks.length ∧ kk V.ks m = nm) := by rw [eq_iff_iff]; constructor <;> rintro ⟨a, b⟩ <;> exact ⟨by omega, b⟩
            simp only [e1])
        go_wp2_with fail
        first
          | exact bodyPost_ret (results_none rfl _ _ _) rfl ⟨rfl, (Exc.of_below HB0.out).trans EX.out, FE.out⟩
          | exact bodyPost_end (results_none rfl _ _ _) rfl ⟨rfl, (Exc.of_below HB0.out).trans EX.out, FE.out⟩
end Go.Proofs.YtfmgbhaldakpfaaDoor

/- Computed: what it answers, in plain words. -/
namespace Go.Proofs.YtfmgbhaldakpfaaDoor
open Go.RowKit

theorem tab_apart : (tab.all fun r => tab.all fun s => !(decide (r.1 = s.1) && decide (r.2.nm = s.2.nm)) || decide (r.2 = s.2)) = true := by kernel_rfl
theorem attrs_apart {t : ByteArray} {a b : Atr} (ha : a ∈ attrs t) (hb : b ∈ attrs t) (h : a.nm = b.nm) : a = b := by
  unfold attrs at ha hb
  obtain ⟨r, hr, rfl⟩ := List.mem_map.1 ha
  obtain ⟨s, hs, rfl⟩ := List.mem_map.1 hb
  obtain ⟨r1, r2⟩ := List.mem_filter.1 hr
  obtain ⟨s1, s2⟩ := List.mem_filter.1 hs
  have := List.all_eq_true.1 (List.all_eq_true.1 tab_apart r r1) s s1
  have e1 : r.1 = s.1 := (of_decide_eq_true r2).trans (of_decide_eq_true s2).symm
  simpa [e1, h] using this
theorem find_atr {t : ByteArray} {a : Atr} (h : a ∈ attrs t) : find t a.nm = some a := by
  cases e : find t a.nm with
  | none => unfold find at e; rw [List.find?_eq_none] at e; exact absurd (decide_eq_true rfl) (e a h)
  | some b =>
    have h1 : b ∈ attrs t := by unfold find at e; exact List.mem_of_find?_eq_some e
    have h2 : b.nm = a.nm := by unfold find at e; have := List.find?_some e; simpa using this
    rw [attrs_apart h1 h h2]
/-- element i -/
def vl (V : Val) (i : Nat) : Val := V.l.getD i nul
theorem vl_get {V : Val} {i : Nat} (h : i < V.l.length) : V.l[i]? = some (vl V i) := by
  unfold vl; rw [List.getD_eq_getElem?_getD, List.getElem?_eq_getElem h]; rfl
/-- is the attribute taken from B? -/
def cpT (B : Val) (a : Atr) : Bool := a.cm && decide (eltE B a.nm = 0)
def cpS (A B : Val) (F : Nat → Val) (a : Atr) : Nat → Val := if cpT B a = true then putF A.ks a.nm (elt B a.nm) F A.ks.length else F
/-- the elements after the attributes l -/
def cpF (A B : Val) (l : List Atr) : Nat → Val := l.foldl (cpS A B) (vl A)
theorem cpF_step {A B : Val} {l : List Atr} {j : Nat} (hj : j < l.length) : cpF A B (l.take (j + 1)) = cpS A B (cpF A B (l.take j)) (aa l j) := by
  have : l[j] = aa l j := by have := aa_get hj; rw [List.getElem?_eq_getElem hj] at this; injection this
  unfold cpF
  rw [List.take_succ_eq_append_getElem hj, List.foldl_append, this]
  rfl
def cpQ (A B : Val) (l : List Atr) (i : Nat) : Bool := l.any fun a => cpT B a && decide (i < A.ks.length) && decide (kk A.ks i = a.nm)
theorem fold_cp (A B : Val) (l : List Atr) (i : Nat) : ∀ F : Nat → Val, l.foldl (cpS A B) F i = if cpQ A B l i = true then elt B (kk A.ks i) else F i := by
  induction l with
  | nil => intro F; rfl
  | cons a l ih =>
    intro F
    rw [List.foldl_cons, ih]
    have hq : cpQ A B (a :: l) i = (cpT B a && decide (i < A.ks.length) && decide (kk A.ks i = a.nm) || cpQ A B l i) := by unfold cpQ; rw [List.any_cons]
    rw [hq]
    by_cases h : cpQ A B l i = true
    · rw [if_pos h, h, Bool.or_true, if_pos rfl]
    · rw [if_neg h, Bool.eq_false_iff.2 h, Bool.or_false]
      unfold cpS
      cases hc : cpT B a with
      | false => simp
      | true =>
        rw [if_pos rfl]
        unfold putF
        by_cases h2 : i < A.ks.length ∧ kk A.ks i = a.nm
        · rw [if_pos h2, h2.2]; simp [h2.1]
        · rw [if_neg h2]
          have : (true && decide (i < A.ks.length) && decide (kk A.ks i = a.nm)) = false := by
            rw [Bool.true_and]
            by_cases h3 : i < A.ks.length
            · have : ¬ kk A.ks i = a.nm := fun e => h2 ⟨h3, e⟩
              simp [this]
            · simp [h3]
          rw [this, if_neg (by simp)]
theorem cpF_eq (A B : Val) (l : List Atr) (i : Nat) : cpF A B l i = if cpQ A B l i = true then elt B (kk A.ks i) else vl A i := fold_cp A B l i _
/-- what Computed answers -/
def cpV (t : ByteArray) (A B : Val) : Val := if A.k = 5 then A.sl ((List.range A.l.length).map (cpF A B (attrs t))) else A
/-- what the reference asks of a place -/
theorem cpQ_find (t : ByteArray) (A B : Val) {i : Nat} (hi : i < A.ks.length) : cpQ A B (attrs t) i = (match find t (kk A.ks i) with | none => false | some a => a.cm && decide (eltE B (kk A.ks i) = 0)) := by
  cases e : find t (kk A.ks i) with
  | none =>
    unfold cpQ
    rw [List.any_eq_false]
    intro a ha h
    have h2 : kk A.ks i = a.nm := by simp at h; exact h.2
    rw [h2, find_atr ha] at e
    cases e
  | some a =>
    have ha : a ∈ attrs t := by unfold find at e; exact List.mem_of_find?_eq_some e
    have hn : a.nm = kk A.ks i := by unfold find at e; have := List.find?_some e; simpa using this
    show cpQ A B (attrs t) i = (a.cm && decide (eltE B (kk A.ks i) = 0))
    cases hc : (a.cm && decide (eltE B (kk A.ks i) = 0)) with
    | true =>
      unfold cpQ
      rw [List.any_eq_true]
      exact ⟨a, ha, by unfold cpT; rw [hn, hc]; simp [hi]⟩
    | false =>
      unfold cpQ
      rw [List.any_eq_false]
      intro b hb h
      have h2 : kk A.ks i = b.nm := by simp at h; exact h.2
      have e2 : b = a := attrs_apart hb ha (by rw [← h2, hn])
      subst e2
      unfold cpT at h
      rw [hn, hc] at h
      simp at h
theorem sl_l (A : Val) (l : List Val) : (A.sl l).l = l := rfl
theorem sl_ks (A : Val) (l : List Val) : (A.sl l).ks = A.ks := rfl
theorem sl_k (A : Val) (l : List Val) : (A.sl l).k = A.k := rfl
theorem sl_x (A : Val) (l : List Val) : (A.sl l).x = A.x := rfl
theorem eqLF_refl : ∀ l : List Val, (∀ x, x ∈ l → likeV x x = true) → eqL likeV l l = true := fun l h => eqL_yes rfl fun m X Y h1 h2 => by
  rw [h1] at h2; injection h2 with h2; subst h2; exact h X (List.mem_of_getElem? h1)
theorem like_refl : ∀ (N : Nat) (V : Val), sz V ≤ N → likeV V V = true := by
  intro N
  induction N with
  | zero => intro V h; have := sz_pos V; omega
  | succ N ih =>
    intro V h
    rw [likeV_eq, own_yes rfl rfl rfl rfl rfl rfl, Bool.true_and]
    exact eqLF_refl _ fun x hx => ih x (by have := sz_mem hx; omega)
theorem likeV_refl (V : Val) : likeV V V = true := like_refl _ V (Nat.le_refl _)
theorem chB_self (A : Val) (a : Atr) : chB A A a = false := by unfold chB; rw [likeV_refl]; simp
theorem ch_self (t : ByteArray) (A : Val) : (attrs t).filter (chB A A) = [] := List.filter_eq_nil_iff.2 fun a _ => by rw [chB_self]; simp
theorem elt_cp {t : ByteArray} {A B : Val} {a : Atr} (hk : A.k = 5 → A.ks.length = A.l.length) (ha : a ∈ attrs t) (hc : a.cm = false) : elt (cpV t A B) a.nm = elt A a.nm := by
  unfold cpV
  by_cases h5 : A.k = 5
  · rw [if_pos h5]
    unfold elt
    rw [sl_k, sl_ks, sl_l, sl_x, if_pos h5, if_pos h5]
    cases e : ixK A.ks a.nm with
    | none => rfl
    | some j =>
      have hj : j < A.ks.length ∧ A.ks[j]? = some a.nm := by
        unfold ixK at e
        rw [List.findIdx?_eq_some_iff_getElem] at e
        obtain ⟨h1, h2, _⟩ := e
        exact ⟨h1, by rw [List.getElem?_eq_getElem h1]; congr 1; simpa using h2⟩
      have hjl : j < A.l.length := by rw [← hk h5]; exact hj.1
      have hkj : kk A.ks j = a.nm := by unfold kk; rw [List.getD_eq_getElem?_getD, hj.2]; rfl
      have hq : cpQ A B (attrs t) j = false := by rw [cpQ_find t A B hj.1, hkj, find_atr ha]; simp [hc]
      have e1 : ((List.range A.l.length).map (cpF A B (attrs t)))[j]? = some (vl A j) := by
        rw [List.getElem?_map, List.getElem?_range hjl]
        show some (cpF A B (attrs t) j) = _
        rw [cpF_eq, hq]; rfl
      simp only [e1, vl_get hjl]
  · rw [if_neg h5]
theorem chB_cp {t : ByteArray} {A B : Val} (hk : A.k = 5 → A.ks.length = A.l.length) : (attrs t).filter (chB A (cpV t A B)) = [] := List.filter_eq_nil_iff.2 fun a ha => by
  unfold chB
  cases hc : a.cm with
  | true => simp
  | false => rw [elt_cp hk ha hc, likeV_refl]; simp
end Go.Proofs.YtfmgbhaldakpfaaDoor

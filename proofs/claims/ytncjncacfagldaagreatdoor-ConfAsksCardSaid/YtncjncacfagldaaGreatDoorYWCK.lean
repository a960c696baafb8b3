import Derived.Test.YtncjncacfagldaaGreatDoorYWCJ
import Derived.Great.BuildSlice
import Derived.Carry
namespace Go.Proofs.YtncjncacfagldaaGreatDoor
open Go.RowKit Go.Lib

theorem fill_cl (c0 c1 c2 c3 c4 c5 c6 c7 c8 c9 c10 c11 c12 c13 c14 c15 c16 c17 c18 c19 c20 c21 : Value) : Instr.fill (fun k => some (k * 22, 22)) ((Array.range (1 * 22)).map ((Value.agg z22).cells[· % (Value.agg z22).cells.size]!)) [(0, .agg #[c0, c1, c2, c3, c4, c5, c6, c7, c8, c9, c10, c11, c12, c13, c14, c15, c16, c17, c18, c19, c20, c21])] = some #[c0, c1, c2, c3, c4, c5, c6, c7, c8, c9, c10, c11, c12, c13, c14, c15, c16, c17, c18, c19, c20, c21] := by kernel_rfl
theorem fill_it (cs : Array Value) (h : cs.size = 22) {i : TypeInfo} (hs : i.size = 22) : Instr.fill (fun k => some (k * i.size, i.size)) ((Array.range (1 * i.size)).map ((Value.agg z22).cells[· % (Value.agg z22).cells.size]!)) [(0, .agg cs)] = some cs := by
 rw [hs]
 obtain ⟨l⟩ := cs
 match l, h with
 | [c0, c1, c2, c3, c4, c5, c6, c7, c8, c9, c10, c11, c12, c13, c14, c15, c16, c17, c18, c19, c20, c21], _ => exact fill_cl c0 c1 c2 c3 c4 c5 c6 c7 c8 c9 c10 c11 c12 c13 c14 c15 c16 c17 c18 c19 c20 c21
theorem build_it {ops : Array Oper} {rest : List Oper} {o : Oper} {a : Act} {w : World} {Q : Exit → Act → World → Prop} (hg : o.guard = none) (x : Operand) (ho : o.op = .buildSlice 22 1 #[(0, x)]) (cs : Array Value) (hx : a.eval x = .agg cs) (h22 : cs.size = 22)
 (h : wpList Tryz.prog ops Q rest (a.put o.dst (.slice (some ⟨w.heap.size, 0, none⟩) 1 1)) (w.alloc (.cells cs 40))) : wpList Tryz.prog ops Q (o :: rest) a w := by
 obtain ⟨i, hi, hz, hs, hb⟩ := info_parts info52
 refine wpList_buildSlice hg 22 40 1 #[(0, x)] ho cs i _ Tryz.underlying22 hi hz (by rw [hs]; decide) (by rw [hs]; decide) ?_ h
 have := fill_it cs h22 hs
 rw [← hx] at this
 rw [show (#[(0, x)].map fun (y : Nat × Operand) => (y.1, a.eval y.2)).toList = [(0, a.eval x)] from by simp]
 exact this
def IsPost (w : World) (R : Nat) (K : Kz) (k : Nat) : Res (List It) → Ending → World → Prop
 | .ok (l, q), e, w' => (∃ v, e = .returned (.tuple #[v, dgv 0 ps0]) ∧ PayI l (fun b => w.heap.size ≤ b ∧ b < w'.heap.size) w' v) ∧ Kd w' R K q ∧ (k ≠ 0 → q < K.acc.length) ∧ Fm R w w'
 | .error (c, q), e, w' => e = .returned (.tuple #[.slice none 0 0, dgv c q]) ∧ Fm R w w' ∧ c ≠ 0
theorem IsPost.rd {w : World} {R : Nat} {K : Kz} {k : Nat} (hk : k ≠ 0) {m : Res (List It)} {e : Ending} {w' : World} (h : IsPost w R K k m e w') : RdP PayI w R K m e w' := by
 cases m with
 | error x => obtain ⟨rfl, h1, h2⟩ := h; exact ⟨_, _, _, rfl, ⟨Nat.le_refl _, rfl, rfl, rfl, h2⟩, h1⟩
 | ok x => obtain ⟨⟨v, rfl, hp⟩, h1, h2, h3⟩ := h; exact ⟨_, _, _, rfl, ⟨Nat.le_refl _, rfl, rfl, hp, h1, h2 hk⟩, h3⟩
theorem labelsM_up {C : Cx} {p q : Nat} {lb : List (List UInt8)} (h : labelsM C (C.L.length + 1) p [] = .ok (lb, q)) : p ≤ q := labelsM_ge C _ _ _ _ _ h
theorem itemsL_succ (C : Cx) (f k : Nat) (x : List UInt8) (acc : List It) (p : Nat) : itemsL C (f + 1) k x acc p = if C.has p k x then .ok (acc, p + 1) else match itemM C (itemsL C f 4 [125] []) acc p with
 | .error e => .error e
 | .ok (i, q) => itemsL C f k x (acc ++ [i]) q := by
 rw [itemsL]
 cases itemM C (itemsL C f 4 [125] []) acc p <;> rfl
theorem itemM_gt {C : Cx} (hr : ∀ p, (readM C p).2.2.1 = 0 → p ≤ (readM C p).2.1) {rec : Nat → Res (List It)} (hrec : ∀ p l q, rec p = .ok (l, q) → p ≤ q) {acc : List It} {p : Nat} {x : It} {q : Nat} (h : itemM C rec acc p = .ok (x, q)) : p < q := by
 unfold itemM at h
 split at h
 · cases h
 · split at h
   · cases h
   · split at h
     · unfold attributeM at h
       split at h
       · cases h
       · split at h
         · rename_i h0
           injection h with h; injection h with _ h2
           have := hr (p + 1 + 1) h0; omega
         · cases h
     · rw [blockM_eq] at h
       cases hl : labelsM C (C.L.length + 1) (p + 1) [] with
       | error e => rw [hl] at h; cases h
       | ok y =>
         obtain ⟨lb, q1⟩ := y
         rw [hl] at h
         have h1 := labelsM_up hl
         unfold bkM at h
         simp only [] at h
         split at h
         · cases hc : rec (q1 + 1) with
           | error e => rw [hc] at h; cases h
           | ok z =>
             obtain ⟨l, q2⟩ := z
             rw [hc] at h
             have h2 := hrec _ _ _ hc
             injection h with h; injection h with _ h3
             omega
         · cases h
theorem itemsL_ge {C : Cx} (hr : ∀ p, (readM C p).2.2.1 = 0 → p ≤ (readM C p).2.1) : ∀ (f k : Nat) (x : List UInt8) (acc : List It) (p : Nat) (l : List It) (q : Nat), itemsL C f k x acc p = .ok (l, q) → p ≤ q := by
 intro f
 induction f with
 | zero => intro k x acc p l q h; rw [itemsL] at h; cases h
 | succ f ih =>
   intro k x acc p l q h
   rw [itemsL_succ] at h
   split at h
   · injection h with h; injection h with _ h2; omega
   · cases hi : itemM C (itemsL C f 4 [125] []) acc p with
     | error e => rw [hi] at h; cases h
     | ok y =>
       obtain ⟨i, q1⟩ := y
       rw [hi] at h
       have h1 := itemM_gt hr (fun p l q hc => ih _ _ _ _ _ _ hc) hi
       have h2 := ih _ _ _ _ _ _ h
       omega
open Go.RowKit Go.Lib

theorem OI.ft {n mb : Nat} {w w' : World} {R : Nat} {v : Value} {l : List It} (h : OI n w R v l) (f : Ft R mb w w') (hm : mb < n) : OI n w' R v l := by
 obtain ⟨cs, h1, h2, h3, h4, h5⟩ := h
 refine ⟨cs, h1, fun j X c hX hc => (h2 j X c hX hc).keptP fun k hk => ⟨⟨⟨hk.1.1, Nat.lt_of_lt_of_le hk.1.2.1 f.size, hk.1.2.2⟩, hk.2⟩, f.block k hk.1.2.1 hk.1.2.2 (by have := hk.1.1; omega)⟩, h3, ?_, h5⟩
 refine ⟨h4.1, ?_⟩
 rcases h4.2 with hn | ⟨g, cap, cur, hv, hbg, hgb, r⟩
 · exact .inl hn
 · exact .inr ⟨g, cap, cur, hv, hbg, (f.block g (Array.getElem?_eq_some_iff.1 hgb).1 (fun e => h5 (by rw [hv, ← e]; rfl)) (by omega)).trans hgb, r⟩
theorem OI.len {n : Nat} {w : World} {R : Nat} {v : Value} {l : List It} (h : OI n w R v l) : ∃ o c, v = .slice o l.length c := by
 obtain ⟨cs, -, -, -, h4, -⟩ := h; exact own_sl h4
theorem OI.own_lt {n : Nat} {w : World} {R : Nat} {v : Value} {l : List It} (h : OI n w R v l) : ∀ g, v.ownBlock = some g → g < w.heap.size ∧ n ≤ g := fun g hg => by
 obtain ⟨cs, -, -, -, h4, -⟩ := h
 have := h4.lt g hg
 omega
def ItU (w : World) (R mb : Nat) (K : Kz) (acc : List It) (M : Except (Nat × Ps) (It × Nat)) (W : World) (cs : Array Value) (c : Nat) (q : Ps) : Prop := Ft R mb w W ∧ cs.size = 22 ∧ cs.all (·.oneCell') = true ∧ match M with
 | .ok (x, p) => c = 0 ∧ IP (fun k => w.heap.size ≤ k ∧ k < W.heap.size) W x (.agg cs) ∧ Kd W R K p ∧ p < K.acc.length ∧ ∃ f', Mo Tryz.prog 9 W mb f' ∧ Ms f' (attrs (acc ++ [x]))
 | .error (c', q') => c = c' ∧ q = q' ∧ c' ≠ 0
theorem ItPost.u {w : World} {R mb : Nat} {K : Kz} {acc : List It} {m : Except (Nat × Ps) (It × Nat)} {e : Ending} {W : World} (h : ItPost w R mb K acc m e W) : ∃ cs c q, e = .returned (.tuple #[.agg cs, dgv c q]) ∧ ItU w R mb K acc m W cs c q := by
 cases m with
 | error x => obtain ⟨rfl, h2, h3⟩ := h; exact ⟨_, _, _, rfl, h2, rfl, by kernel_rfl, rfl, rfl, h3⟩
 | ok x =>
   obtain ⟨⟨oL, cL, oV, cV, oK, cK, o, cap, oI, cI, rfl, hip, hk, hl⟩, hf, hm⟩ := h
   exact ⟨_, 0, ps0, rfl, hf, (ic_one hip).1, (ic_one hip).2, rfl, hip, hk, hl, hm⟩
theorem grow_below {n : Nat} {w w' : World} {o : Obj} {v : Value} (g : (w.alloc o).grownBy w' v.ownBlock) (hn : n ≤ w.heap.size) (hv : ∀ b, v.ownBlock = some b → n ≤ b) : Below n w w' :=
 ⟨g.os, g.tape, g.output, Nat.le_trans (by simp) g.size, fun k hk => (g.block k (by simp; omega) (fun e => by have := hv k e.symm; omega)).trans (heap_alloc_old w o (by omega))⟩
theorem fm_ft {R mb : Nat} {w w0 w2 : World} (h : Fm R w w0) (f : Ft R mb w0 w2) (hm : w.heap.size ≤ mb) : Fm R w w2 :=
 ⟨f.os.trans h.os, f.tape.trans h.tape, f.output.trans h.output, Nat.le_trans h.size f.size, fun j hj hr => (f.block j (Nat.lt_of_lt_of_le hj h.size) (fun e => hr (by rw [e])) (by omega)).trans (h.block j hj hr)⟩
theorem itemM_len {C : Cx} {rec : Nat → Res (List It)} {acc : List It} {p : Nat} {y : It × Nat} (h : itemM C rec acc p = .ok y) : acc.length ≠ 128 := by
 unfold itemM at h
 split at h
 · cases h
 · split at h
   · cases h
   · assumption
set_option maxRecDepth 100000 in
set_option maxHeartbeats 8000000 in
theorem items_any {R : Nat} {KZ : Kz} (hE : Ends KZ) (hread : ∀ p, (readM KZ.cx p).2.2.1 = 0 → p ≤ (readM KZ.cx p).2.1 ∧ (readM KZ.cx p).2.1 < KZ.acc.length) : ∀ (n : Nat) (w : World) (p f k : Nat) (x : List UInt8), KZ.acc.length - p ≤ n → Kd w R KZ p → p < KZ.acc.length → KZ.acc.length < f + p →
 Calls Tryz.prog 43 #[.pointer (some ⟨R, 0, none⟩), .int .i64 k, .string (tx x)] w (IsPost w R KZ k (itemsL KZ.cx f k x [] p)) := by
 intro n
 induction n with
 | zero => intro w p f k x h1 h2 h3 h4; omega
 | succ n ih =>
   intro w p f k x hn h hlt hf
   have HI : Hid (∀ (W : World) (q f : Nat), p < q → KZ.acc.length < f + q → Kd W R KZ q → q < KZ.acc.length → Calls Tryz.prog 43 #[.pointer (some ⟨R, 0, none⟩), .int .i64 4, .string ⟨#[125]⟩] W (RdP PayI W R KZ (itemsL KZ.cx f 4 [125] [] q))) := fun W q f hq hf hk hl => (ih W q f 4 [125] (by omega) hk hl hf).mono fun e w' h => h.rd (by decide)
   have HE := qh hE
   have HRD := qh hread
   obtain ⟨M, hM⟩ : ∃ M, itemsL KZ.cx f k x [] p = M := ⟨_, rfl⟩
   rw [hM]
   have HQ0 := qh hM
   have B0 : Below w.heap.size w ((w.alloc (.cells #[.int .i64 0, .int .i64 0, .int .i64 0, .int .i64 0, .string ⟨#[]⟩] 53)).alloc (.map #[] 0)) := ((Below.refl _ _).alloc (Nat.le_refl _) _).alloc (by simp) _
   have HK0 := qh (h.below B0)
   have HF0 := qh (Fm.of (R := R) B0)
   have hm0 := Mo.made (w.alloc (.cells #[.int .i64 0, .int .i64 0, .int .i64 0, .int .i64 0, .string ⟨#[]⟩] 53)) Tryz.prog 9
   rw [show (w.alloc (.cells #[.int .i64 0, .int .i64 0, .int .i64 0, .int .i64 0, .string ⟨#[]⟩] 53)).heap.size = w.heap.size + 1 by simp] at hm0
   have HM0 : Hid (∃ fm, Mo Tryz.prog 9 ((w.alloc (.cells #[.int .i64 0, .int .i64 0, .int .i64 0, .int .i64 0, .string ⟨#[]⟩] 53)).alloc (.map #[] 0)) (w.heap.size + 1) fm ∧ Ms fm (attrs [])) := ⟨_, hm0, fun s => by simp [attrs], fun k v h => by cases h⟩
   have q36 : Hid (((w.alloc (.cells #[.int .i64 0, .int .i64 0, .int .i64 0, .int .i64 0, .string ⟨#[]⟩] 53)).alloc (.map #[] 0)).heap[w.heap.size]? = some (.cells #[.int .i64 0, .int .i64 0, .int .i64 0, .int .i64 0, .string ⟨#[]⟩] 53 (0, 0))) := (heap_alloc_old _ _ (by simp)).trans (heap_alloc_new w _)
   have HW0 : Hid (((w.alloc (.cells #[.int .i64 0, .int .i64 0, .int .i64 0, .int .i64 0, .string ⟨#[]⟩] 53)).alloc (.map #[] 0)).heap.size = w.heap.size + 2) := by unfold Hid; simp
   have HRL := qh h.lt
   have HNN := qh h.nn
   have HLT := qh hlt
   have HFF := qh hf
   clear h hlt hf hM hm0 B0 ih hn hE hread
   have hmm := @run_makeMap Tryz.prog
   go_enter Tryz.func43, Tryz.ntmps43
   go_wp2_with fail
   clear hmm
   generalize ((w.alloc (Obj.cells #[.int .i64 0, .int .i64 0, .int .i64 0, .int .i64 0, .string ⟨#[]⟩] 53)).alloc (Obj.map #[] 0)) = w0 at *
   have GF0 : Hid (Ft R (w.heap.size + 1) w0 w0) := Ft.fm (Fm.rf R w0)
   go_loopw [8] (fun v8 wr => ∃ (q f' : Nat) (acc : List It), p ≤ q ∧ q < KZ.acc.length ∧ KZ.acc.length < f' + q ∧ acc.length ≤ 128 ∧ Hid (itemsL KZ.cx f' k x acc q = M) ∧ Hid (OI (w.heap.size + 2) wr R v8 acc) ∧ Hid (Kd wr R KZ q) ∧ Hid (Ft R (w.heap.size + 1) w0 wr) ∧ Hid (∃ fm, Mo Tryz.prog 9 wr (w.heap.size + 1) fm ∧ Ms fm (attrs acc))) (fun _ wr => KZ.acc.length - pAt R wr)
   case atStart => exact ⟨p, f, [], Nat.le_refl _, HLT.out, HFF.out, Nat.zero_le _, HQ0.out, OI.nil _ _ _, HK0.out, GF0.out, HM0.out⟩
   case round =>
    obtain ⟨q, f', acc, hpq, hql, hf, hac, HQ, HO, HK, HF, HM⟩ := hrel
    clear HQ0 HK0 HM0 HLT HFF
    obtain ⟨f2, rfl⟩ : ∃ k, f' = k + 1 := ⟨f' - 1, by omega⟩
    have HQ1 := HQ.out
    rw [itemsL_succ] at HQ1
    have HQ2 := qh HQ1
    clear HQ1 HQ
    have HPA := qh (kAt_eq HK.out)
    go_wp2_with fail
    refine (ktakes_any HK.out hql k x).mono ?_
    rintro e w1 ⟨rfl, hk1, hf1⟩
    have HF1 := qh (HF.out.tr (Ft.fm hf1))
    have HO1 := qh (HO.out.fr hf1)
    have HM1 : Hid (∃ fm, Mo Tryz.prog 9 w1 (w.heap.size + 1) fm ∧ Ms fm (attrs acc)) := by
     obtain ⟨fm, h1, h2⟩ := HM.out
     exact ⟨fm, h1.kept (hf1.block _ h1.lt (fun e => by have := Option.some.inj e; have := HRL.out; omega)), h2⟩
    have HHS : Hid (KZ.cx.has q k x = true → (KZ.tz q).1.k = k) := fun h => by rw [Kz.has_eq] at h; simp at h; exact h.1
    obtain ⟨bb, hbb⟩ : ∃ b, KZ.cx.has q k x = b := ⟨_, rfl⟩
    rw [hbb] at hk1 HQ2 HHS ⊢
    clear hbb hf1 HF HO HM
    cases bb with
    | true =>
      have HK1 : Hid (Kd w1 R KZ (q + 1)) := hk1
      have HQE : Hid (M = .ok (acc, q + 1)) := HQ2.out.symm
      have HKE : Hid (k ≠ 0 → q + 1 < KZ.acc.length) := fun hk => HE.out q hql (by rw [HHS.out rfl]; exact hk)
      clear hk1 HQ2 HHS HI HRD
      have r36 := qh ((HF1.out.block _ (Array.getElem?_eq_some_iff.1 q36.out).1 (by have := HRL.out; omega) (by omega)).trans q36.out)
      obtain ⟨oo, cc, rfl⟩ := HO1.out.len
      go_wp2_with (refine wpList_store_row rfl 53 (.tmp 7) (.tmp 35) rfl w.heap.size #[.int .i64 0, .int .i64 0, .int .i64 0, .int .i64 0, .string ⟨#[]⟩] rfl (by kernel_rfl) 53 _ r36.out (info36 rfl) rfl (by kernel_rfl) ?_
                   have s36 : Hid ((w1.setRow w.heap.size #[.int .i64 0, .int .i64 0, .int .i64 0, .int .i64 0, .string ⟨#[]⟩]).heap[w.heap.size]? = some (.cells #[.int .i64 0, .int .i64 0, .int .i64 0, .int .i64 0, .string ⟨#[]⟩] 53 (0, 0))) := setRow_heap _ _ _ _ _ _ r36.out
                   have sO := qh (fun j (hj : j ≠ w.heap.size) => setRow_other w1 w.heap.size j #[.int .i64 0, .int .i64 0, .int .i64 0, .int .i64 0, .string ⟨#[]⟩] hj)
                   have sB := qh (Below.row (b := w.heap.size) (Below.refl w.heap.size w1) (Nat.le_refl _) #[.int .i64 0, .int .i64 0, .int .i64 0, .int .i64 0, .string ⟨#[]⟩])
                   generalize w1.setRow w.heap.size #[.int .i64 0, .int .i64 0, .int .i64 0, .int .i64 0, .string ⟨#[]⟩] = w2 at *)
      obtain ⟨⟨q0, q1, q2, q3, q4⟩, -, hzz⟩ := rc5 s36.out
      refine bodyPost_ret (v := .tuple #[.slice oo acc.length cc, dgv 0 ps0]) (by simp [results, Tryz.results43, go_sem, q0, q1, q2, q3, q4, ps0]) rfl ?_
      rw [HQE.out]
      obtain ⟨o', cap', d, he, hr, hx⟩ := oi_row HO1.out
      have fin : Fm R w w2 := (Fm.low (w := w) (W := w1) ⟨HF1.out.os.trans HF0.out.os, HF1.out.tape.trans HF0.out.tape, HF1.out.output.trans HF0.out.output, Nat.le_trans HF0.out.size HF1.out.size, fun j hj hr => (HF1.out.block j (by have := HW0.out; omega) (fun e => hr (by rw [e])) (by omega)).trans (HF0.out.block j hj hr)⟩ sB.out)
      have kp : ∀ j, Nu (w.heap.size + 2) w1 R j → (w.heap.size ≤ j ∧ j < w2.heap.size) ∧ w2.heap[j]? = w1.heap[j]? := fun j hj => ⟨⟨by have := hj.1; omega, Nat.lt_of_lt_of_le hj.2.1 sB.out.size⟩, sO.out j (by have := hj.1; omega)⟩
      exact ⟨⟨_, rfl, o', cap', d, he, hr.keptP kp, fun j y hy => (hx j y hy).keptP kp⟩, HK1.out.low sB.out HRL.out HNN.out, HKE.out, fin⟩
    | false =>
      have HK1 : Hid (Kd w1 R KZ q) := hk1
      have HQ3 : Hid ((match itemM KZ.cx (itemsL KZ.cx f2 4 [125] []) acc q with | .error e => .error e | .ok (i, q') => itemsL KZ.cx f2 k x (acc ++ [i]) q') = M) := HQ2.out
      clear hk1 HQ2 HHS
      obtain ⟨oo, cc, hvv⟩ := HO1.out.len
      obtain ⟨fm, hm1, hs1⟩ := HM1.out
      have HMA := qh hm1
      have HSA := qh hs1
      clear hm1 hs1 HM1
      subst hvv
      go_wp2_with fail
      refine (item_any HK1.out hql HE.out HMA.out HSA.out (by have := HNN.out; omega) (by have := HRL.out; omega) (by omega) (fun p m hm h0 => by subst hm; exact (HRD.out p h0).2) (fun W q' hq' hk' hl' => HI.out W q' f2 (by omega) (by omega) hk' hl')).mono ?_
      rintro e w2 hIt
      obtain ⟨cs, c, qq, rfl, hu⟩ := hIt.u
      clear hIt
      have HLN : Hid (∀ y, itemM KZ.cx (itemsL KZ.cx f2 4 [125] []) acc q = .ok y → acc.length ≠ 128) := fun y h => itemM_len h
      have HN1 : Hid (w.heap.size + 2 ≤ w1.heap.size) := by rw [← HW0.out]; exact HF1.out.size
      have HOL : Hid (∀ b, (Value.slice oo acc.length cc).ownBlock = some b → b < w1.heap.size ∧ w.heap.size + 2 ≤ b) := HO1.out.own_lt
      have HGT : Hid (∀ i q', itemM KZ.cx (itemsL KZ.cx f2 4 [125] []) acc q = .ok (i, q') → q < q') := fun i q' h => itemM_gt (fun p h0 => (HRD.out p h0).1) (fun p l q h => itemsL_ge (fun p h0 => (HRD.out p h0).1) _ _ _ _ _ _ _ h) h
      generalize itemM KZ.cx (itemsL KZ.cx f2 4 [125] []) acc q = IM at *
      have HFU := qh hu.1
      have HC22 := qh hu.2.1
      have HC1 := qh hu.2.2.1
      have HUU := qh hu.2.2.2
      clear hu
      have HF2 := qh (HF1.out.tr HFU.out)
      have HO2 := qh (HO1.out.ft HFU.out (by omega))
      have N52 : Hid (((w2.alloc (.cells z22 40)).alloc (.cells #[.int .i64 0, .int .i64 0, .int .i64 0, .int .i64 0, .string ⟨#[]⟩] 53)).heap[w2.heap.size]? = some (.cells z22 40 (0, 0))) := (heap_alloc_old _ _ (by simp)).trans (heap_alloc_new w2 _)
      have N36 : Hid (((w2.alloc (.cells z22 40)).alloc (.cells #[.int .i64 0, .int .i64 0, .int .i64 0, .int .i64 0, .string ⟨#[]⟩] 53)).heap[w2.heap.size + 1]? = some (.cells #[.int .i64 0, .int .i64 0, .int .i64 0, .int .i64 0, .string ⟨#[]⟩] 53 (0, 0))) := by rw [show w2.heap.size + 1 = (w2.alloc (.cells z22 40)).heap.size by simp]; exact heap_alloc_new _ _
      have HB2 : Hid (Below w2.heap.size w2 ((w2.alloc (.cells z22 40)).alloc (.cells #[.int .i64 0, .int .i64 0, .int .i64 0, .int .i64 0, .string ⟨#[]⟩] 53))) := ((Below.refl _ _).alloc (Nat.le_refl _) _).alloc (by simp) _
      clear HF1 HO1 HMA HSA HK1
      cases IM with
      | error z =>
        obtain ⟨c', q'⟩ := z
        obtain ⟨rfl, rfl, hne⟩ := HUU.out
        have HQE : Hid (M = .error (c, qq)) := HQ3.out.symm
        have HNE := qh hne
        have en : ((c : Int) != 0) = true := by rw [bne_iff_ne]; omega
        have hn2 : w.heap.size + 2 ≤ w2.heap.size := Nat.le_trans HN1.out HFU.out.size
        have HFW := qh (fm_ft HF0.out HF2.out (Nat.le_succ _))
        have r36 := qh ((HF2.out.block _ (Array.getElem?_eq_some_iff.1 q36.out).1 (by have := HRL.out; omega) (by omega)).trans q36.out)
        clear hne HUU HQ3 HGT HLN HO2 HI HRD HOL HF2 HFU q36
        go_upto_region 6 with (first
         | (refine wpList_store_row rfl 40 (.tmp 10) (.tmp 24) rfl w2.heap.size cs rfl rfl 40 _ N52.out (info22 HC22.out) (by rw [HC22.out]; rfl) HC1.out ?_
            have s52 : Hid ((((w2.alloc (Obj.cells z22 40)).alloc (Obj.cells #[.int .i64 0, .int .i64 0, .int .i64 0, .int .i64 0, .string ⟨#[]⟩] 53)).setRow w2.heap.size cs).heap[w2.heap.size]? = some (.cells cs 40 (0, 0))) := setRow_heap _ _ _ _ _ _ N52.out
            have s36 := qh ((setRow_other ((w2.alloc (Obj.cells z22 40)).alloc (Obj.cells #[.int .i64 0, .int .i64 0, .int .i64 0, .int .i64 0, .string ⟨#[]⟩] 53)) w2.heap.size (w2.heap.size + 1) cs (by omega)).trans N36.out)
            have sB := qh (HB2.out.trans (Below.row (b := w2.heap.size) (Below.refl w2.heap.size ((w2.alloc (Obj.cells z22 40)).alloc (Obj.cells #[.int .i64 0, .int .i64 0, .int .i64 0, .int .i64 0, .string ⟨#[]⟩] 53))) (Nat.le_refl _) cs))
            clear N52 N36 HB2
            generalize ((w2.alloc (Obj.cells z22 40)).alloc (Obj.cells #[.int .i64 0, .int .i64 0, .int .i64 0, .int .i64 0, .string ⟨#[]⟩] 53)).setRow w2.heap.size cs = w3 at *)
         | (refine wpList_store_row rfl 53 (.tmp 11) (.tmp 25) rfl (w2.heap.size + 1) #[.int .i64 (c : Int), .int .i64 qq.a, .int .i64 qq.l, .int .i64 qq.c, .string ⟨#[]⟩] rfl (by kernel_rfl) 53 _ s36.out (info36 rfl) rfl (by kernel_rfl) ?_
            have t36 : Hid ((w3.setRow (w2.heap.size + 1) #[.int .i64 (c : Int), .int .i64 qq.a, .int .i64 qq.l, .int .i64 qq.c, .string ⟨#[]⟩]).heap[w2.heap.size + 1]? = some (.cells #[.int .i64 (c : Int), .int .i64 qq.a, .int .i64 qq.l, .int .i64 qq.c, .string ⟨#[]⟩] 53 (0, 0))) := setRow_heap _ _ _ _ _ _ s36.out
            have t52 := qh ((setRow_other w3 (w2.heap.size + 1) w2.heap.size #[.int .i64 (c : Int), .int .i64 qq.a, .int .i64 qq.l, .int .i64 qq.c, .string ⟨#[]⟩] (by omega)).trans s52.out)
            have tB := qh (sB.out.trans (Below.row (b := w2.heap.size + 1) (Below.refl w2.heap.size w3) (by omega) #[.int .i64 (c : Int), .int .i64 qq.a, .int .i64 qq.l, .int .i64 qq.c, .string ⟨#[]⟩]))
            clear s52 s36 sB
            obtain ⟨⟨d0, d1, d2, d3, d4⟩, -, hbd⟩ := rc5 t36.out
            generalize w3.setRow (w2.heap.size + 1) #[.int .i64 (c : Int), .int .i64 qq.a, .int .i64 qq.l, .int .i64 qq.c, .string ⟨#[]⟩] = w4 at *
            have u36 := qh ((tB.out.block w.heap.size (by omega)).trans r36.out)))
        refine wp_region_noPanic ?_
        refine wp_region_held_drew (S := (fun W => ∀ o, W.cell? ⟨w2.heap.size + 1, o, none⟩ = w4.cell? ⟨w2.heap.size + 1, o, none⟩)) (by kernel_rfl) ?_ (fun hH => ?_)
        · exact fun _ => rfl
        have d36 : Hid (w4.drew.heap[w.heap.size]? = _) := u36.out
        have dB : Hid (Below w.heap.size w4 w4.drew) := (Below.refl _ _).drew
        generalize w4.drew = Ws at *
        refine wpAnyH_take (i := 0) (oi := { dst := some 29, op := Op.load 53 (Operand.tmp 11), type := 53, pos := _, after := _, guard := none }) (v := ?_) rfl (by kernel_rfl) (by kernel_rfl) (by kernel_rfl) (fun _ _ _ h => h) (Or.inl ⟨by rfl, ?_⟩) (by assumption) ?_
        rotate_left
        · (intro w hSw; (try dsimp only at hSw); go_simp; try with_reducible rfl)
        try simp only [Act.put, sqa, sqb, sqc]
        refine wpAnyH_take (i := 1) (oi := { dst := some 6, op := Op.assign (Operand.const (Value.slice none 0 0)), type := 22, pos := _, after := _, guard := none }) (v := ?_) rfl (by kernel_rfl) (by kernel_rfl) (by kernel_rfl) (fun _ _ _ h => h) (Or.inl ⟨by rfl, ?_⟩) (by assumption) ?_
        rotate_left
        · (intro w hSw; (try dsimp only at hSw); go_simp; try with_reducible rfl)
        try simp only [Act.put, sqa, sqb, sqc]
        refine wpAnyH_ready (rs := [2]) (by kernel_rfl) (by simp) ?_
        refine AllReadyH.cons (o := { dst := none, op := Op.store 53 (Operand.tmp 7) (Operand.tmp 29), type := 0, pos := _, after := _, guard := none }) rfl (fun K hK => ?_) AllReadyH.nil
        refine step_store_row rfl 53 (.tmp 7) (.tmp 29) rfl w.heap.size rfl #[.int .i64 (c : Int), .int .i64 qq.a, .int .i64 qq.l, .int .i64 qq.c, .string ⟨#[]⟩] rfl 53 _ d36.out (info36 rfl) rfl (by kernel_rfl) ?_
        try simp only [Act.put]
        have v36 : Hid ((Ws.setRow w.heap.size #[.int .i64 (c : Int), .int .i64 qq.a, .int .i64 qq.l, .int .i64 qq.c, .string ⟨#[]⟩]).heap[w.heap.size]? = some (.cells #[.int .i64 (c : Int), .int .i64 qq.a, .int .i64 qq.l, .int .i64 qq.c, .string ⟨#[]⟩] 53 (0, 0))) := setRow_heap _ _ _ _ _ _ d36.out
        have sL := setRow_other Ws w.heap.size (w2.heap.size + 1) #[.int .i64 (c : Int), .int .i64 qq.a, .int .i64 qq.l, .int .i64 qq.c, .string ⟨#[]⟩] (by omega)
        have rB := qh (Below.row (b := w.heap.size) dB.out (Nat.le_refl _) #[.int .i64 (c : Int), .int .i64 qq.a, .int .i64 qq.l, .int .i64 qq.c, .string ⟨#[]⟩])
        clear d36 dB
        generalize Ws.setRow w.heap.size #[.int .i64 (c : Int), .int .i64 qq.a, .int .i64 qq.l, .int .i64 qq.c, .string ⟨#[]⟩] = Wp at *
        refine hK.out _ _ ?_ (fun hH' => ?_)
        · exact fun o => (World.cell?_of_block (w := Ws) (w' := Wp) sL).trans (hH o)
        clear sL
        clear hK K hH
        have hH := hH'
        clear hH'
        try simp only [Act.put, sqa, sqb, sqc]
        refine wpAnyH_done (by kernel_rfl) ?_ _
        refine NoPanic.normal ?_
        go_wp2_with fail
        obtain ⟨⟨q0, q1, q2, q3, q4⟩, -, hzz⟩ := rc5 v36.out
        refine bodyPost_ret (v := .tuple #[.slice none 0 0, dgv c qq]) (by simp [results, Tryz.results43, go_sem, q0, q1, q2, q3, q4]) rfl ?_
        rw [HQE.out]
        exact ⟨rfl, (HFW.out.bl tB.out).low rB.out, HNE.out⟩
      | ok z =>
        obtain ⟨i, q'⟩ := z
        obtain ⟨hc, hip, hk2, hl2, f9, hm9, hs9⟩ := HUU.out
        have en : ((c : Int) != 0) = false := by simp [hc]
        have HQE : Hid (itemsL KZ.cx f2 k x (acc ++ [i]) q' = M) := HQ3.out
        have hqq : q < q' := HGT.out i q' rfl
        have hln : acc.length ≠ 128 := HLN.out _ rfl
        have hn2 : w.heap.size + 2 ≤ w2.heap.size := Nat.le_trans HN1.out HFU.out.size
        have HIP := qh hip
        have HK2 := qh hk2
        have HMM := qh hm9
        have HMS := qh hs9
        have HQF := qh (And.intro hqq (And.intro hln hl2))
        have HN2 := qh hn2
        clear hc hip hk2 hm9 hs9 HUU HQ3 HGT HLN HI HRD HFU hqq hln hl2
        go_wp2_with (first
         | (refine wpList_store_row rfl 40 (.tmp 10) (.tmp 24) rfl w2.heap.size cs rfl rfl 40 _ N52.out (info22 HC22.out) (by rw [HC22.out]; rfl) HC1.out ?_
            have s52 : Hid ((((w2.alloc (Obj.cells z22 40)).alloc (Obj.cells #[.int .i64 0, .int .i64 0, .int .i64 0, .int .i64 0, .string ⟨#[]⟩] 53)).setRow w2.heap.size cs).heap[w2.heap.size]? = some (.cells cs 40 (0, 0))) := setRow_heap _ _ _ _ _ _ N52.out
            have s36 := qh ((setRow_other ((w2.alloc (Obj.cells z22 40)).alloc (Obj.cells #[.int .i64 0, .int .i64 0, .int .i64 0, .int .i64 0, .string ⟨#[]⟩] 53)) w2.heap.size (w2.heap.size + 1) cs (by omega)).trans N36.out)
            have sB := qh (HB2.out.trans (Below.row (b := w2.heap.size) (Below.refl w2.heap.size ((w2.alloc (Obj.cells z22 40)).alloc (Obj.cells #[.int .i64 0, .int .i64 0, .int .i64 0, .int .i64 0, .string ⟨#[]⟩] 53))) (Nat.le_refl _) cs))
            clear N52 N36 HB2
            generalize ((w2.alloc (Obj.cells z22 40)).alloc (Obj.cells #[.int .i64 0, .int .i64 0, .int .i64 0, .int .i64 0, .string ⟨#[]⟩] 53)).setRow w2.heap.size cs = w3 at *)
         | (refine wpList_store_row rfl 53 (.tmp 11) (.tmp 25) rfl (w2.heap.size + 1) #[.int .i64 (c : Int), .int .i64 qq.a, .int .i64 qq.l, .int .i64 qq.c, .string ⟨#[]⟩] rfl (by kernel_rfl) 53 _ s36.out (info36 rfl) rfl (by kernel_rfl) ?_
            have t36 : Hid ((w3.setRow (w2.heap.size + 1) #[.int .i64 (c : Int), .int .i64 qq.a, .int .i64 qq.l, .int .i64 qq.c, .string ⟨#[]⟩]).heap[w2.heap.size + 1]? = some (.cells #[.int .i64 (c : Int), .int .i64 qq.a, .int .i64 qq.l, .int .i64 qq.c, .string ⟨#[]⟩] 53 (0, 0))) := setRow_heap _ _ _ _ _ _ s36.out
            have t52 := qh ((setRow_other w3 (w2.heap.size + 1) w2.heap.size #[.int .i64 (c : Int), .int .i64 qq.a, .int .i64 qq.l, .int .i64 qq.c, .string ⟨#[]⟩] (by omega)).trans s52.out)
            have tB := qh (sB.out.trans (Below.row (b := w2.heap.size + 1) (Below.refl w2.heap.size w3) (by omega) #[.int .i64 (c : Int), .int .i64 qq.a, .int .i64 qq.l, .int .i64 qq.c, .string ⟨#[]⟩]))
            clear s52 s36 sB
            obtain ⟨⟨d0, d1, d2, d3, d4⟩, -, hbd⟩ := rc5 t36.out
            generalize w3.setRow (w2.heap.size + 1) #[.int .i64 (c : Int), .int .i64 qq.a, .int .i64 qq.l, .int .i64 qq.c, .string ⟨#[]⟩] = w4 at *
            have HO4 := qh (HO2.out.fr (Fm.of tB.out))
            have HX4 : Hid (IP (Nu w1.heap.size w4 R) w4 i (.agg cs)) := HIP.out.keptP fun j hj => ⟨⟨hj.1, Nat.lt_of_lt_of_le hj.2 tB.out.size, by have := HRL.out; have := HN1.out; have := hj.1; omega⟩, tB.out.block j hj.2⟩)
         | refine wpList_load_row rfl 40 (.tmp 10) rfl w2.heap.size rfl 40 cs _ _ t52.out Tryz.underlying40 rfl (info22 HC22.out) ?_
         | refine build_it rfl (.tmp 31) rfl cs rfl HC22.out ?_
         | (at_builtin; go_must (refine app_oi rfl (.tmp 30) (.tmp 32) rfl (n := w.heap.size + 2) (R := R) (l := acc) (X := i) (m := w1.heap.size) rfl rfl HO4.out HX4.out (fun g hg => (HOL.out g hg).1) HN1.out (Nat.le_trans HN2.out tB.out.size) (by have := HRL.out; have := tB.out.size; have := HN2.out; omega) (by omega) ?_)))
        intro v5 w5 ho5 hg5
        have gb : Below (w.heap.size + 2) w4 w5 := grow_below hg5 (Nat.le_trans HN2.out tB.out.size) (fun b hb => (HOL.out b hb).2)
        have HO5 := qh ho5
        have HK5 := qh ((HK2.out.below tB.out).low gb (by have := HRL.out; omega) (by have := HNN.out; omega))
        have HF5 : Hid (Ft R (w.heap.size + 1) w0 w5) := (HF2.out.tr (Ft.of tB.out)).bel (by rw [HW0.out]; exact gb)
        have HM5 : Hid (∃ fm, Mo Tryz.prog 9 w5 (w.heap.size + 1) fm ∧ Ms fm (attrs (acc ++ [i]))) := ⟨f9, (HMM.out.keep tB.out).kept (gb.block _ (by omega)), HMS.out⟩
        clear ho5 hg5 gb HO4 HX4 HK2 HMM HF2 HO2 HIP t52 t36 d0 d1 d2 d3 d4 hbd
        go_wp2_with fail
        go_roundw
        case rel => exact ⟨q', f2, acc ++ [i], by have := HQF.out.1; omega, HQF.out.2.2, by have := HQF.out.1; omega, by have := HQF.out.2.1; rw [List.length_append]; simp; omega, HQE.out, HO5.out, HK5.out, HF5.out, HM5.out⟩
        case measure => rw [kAt_eq HK5.out, HPA.out]; have := HQF.out; omega
end Go.Proofs.YtncjncacfagldaaGreatDoor

import Derived.Test.YtncjncacfagldaaGreatDoorYWCF
import Derived.Test.YtncjncacfagldaaGreatDoorYWXN
import Derived.Test.YtncjncacfagldaaGreatDoorYWZg
import Derived.Test.YtncjncacfagldaaGreatDoorYWC0
import Derived.Deep.DeepCutAuto
namespace Go.Proofs.YtncjncacfagldaaGreatDoor
open Go.RowKit Go.Lib
attribute [local go_sem] field66_0 field66_1 field66_2 field66_3 field66_4

structure Ft (R mb : Nat) (w w' : World) : Prop where
 os : w'.os = w.os
 tape : w'.tape = w.tape
 output : w'.output = w.output
 size : w.heap.size ≤ w'.heap.size
 block : ∀ k, k < w.heap.size → k ≠ R → k ≠ mb → w'.heap[k]? = w.heap[k]?
theorem Ft.fm {R mb : Nat} {w w' : World} (h : Fm R w w') : Ft R mb w w' := ⟨h.os, h.tape, h.output, h.size, fun k hk hn _ => h.block k hk (fun e => hn (Option.some.inj e))⟩
theorem Ft.of {R mb : Nat} {w w' : World} (h : Below w.heap.size w w') : Ft R mb w w' := Ft.fm (Fm.of h)
theorem Ft.tr {R mb : Nat} {a b c : World} (h : Ft R mb a b) (k : Ft R mb b c) : Ft R mb a c := ⟨k.os.trans h.os, k.tape.trans h.tape, k.output.trans h.output, Nat.le_trans h.size k.size, fun i hi h1 h2 => (k.block i (Nat.lt_of_lt_of_le hi h.size) h1 h2).trans (h.block i hi h1 h2)⟩
theorem Ft.bel {R mb : Nat} {w w1 w2 : World} (h : Ft R mb w w1) (b : Below w.heap.size w1 w2) : Ft R mb w w2 := ⟨b.os.trans h.os, b.tape.trans h.tape, b.output.trans h.output, Nat.le_trans h.size b.size, fun k hk h1 h2 => (b.block k hk).trans (h.block k hk h1 h2)⟩
def Ms (f : Value → Option Value) (l : List (List UInt8)) : Prop := (∀ s : List UInt8, (f (.string (tx s))).isSome = decide (s ∈ l)) ∧ ∀ k v, f k = some v → v = .agg #[]
theorem tx_inj2 {a b : List UInt8} (h : Value.string (tx a) = .string (tx b)) : a = b := by
 have h1 : tx a = tx b := by injection h
 have := congrArg (fun s : ByteArray => s.data.toList) h1
 simpa [tx] using this
theorem Ms.ins {f : Value → Option Value} {l : List (List UInt8)} (h : Ms f l) (s : List UInt8) : Ms (ins f (.string (tx s)) (.agg #[])) (l ++ [s]) := by
 refine ⟨fun t => ?_, fun k v hk => ?_⟩
 · by_cases he : t = s
   · rw [he, ins_same]; simp
   · rw [ins_other f _ (fun e => he (tx_inj2 e)), h.1 t]; simp [he]
 · by_cases he : k = .string (tx s)
   · rw [he, ins_same] at hk; exact (Option.some.inj hk).symm
   · rw [ins_other f _ he] at hk; exact h.2 k v hk
theorem zero134 (u : World) : (zeroValue 196).run Tryz.prog u = .ok (.agg #[]) u := by kernel_rfl
abbrev zi : Value := .agg z22
def ItOk (w : World) (R : Nat) (K : Kz) (x : It) (q : Nat) (e : Ending) (w' : World) : Prop := ∃ oL cL oV cV oK cK o cap oI cI, e = .returned (.tuple #[.agg (ic x oL cL oV cV oK cK o cap oI cI), dgv 0 ps0]) ∧ IP (fun k => w.heap.size ≤ k ∧ k < w'.heap.size) w' x (.agg (ic x oL cL oV cV oK cK o cap oI cI)) ∧ Kd w' R K q ∧ q < K.acc.length
def ItErr (c : Nat) (q : Ps) (e : Ending) : Prop := e = .returned (.tuple #[zi, dgv c q])
def AtPost (w : World) (R mb : Nat) (K : Kz) (met : List (List UInt8)) : Except (Nat × Ps) (It × Nat) → Ending → World → Prop
 | .ok (x, q), e, w' => ItOk w R K x q e w' ∧ Ft R mb w w' ∧ x.b = false ∧ ∃ f', Mo Tryz.prog 9 w' mb f' ∧ Ms f' (met ++ [x.nm])
 | .error (c, q), e, w' => ItErr c q e ∧ Ft R mb w w'
def PR (N : Nat) (W0 w : World) (g1 g2 : Nat) (X : Ex) (c : Nat) (q : Ps) : Prop := ∃ oV cV oK cK o cap, w.heap[g1]? = some (.cells (xc X oV cV oK cK o cap) 38 (0, 0)) ∧ w.heap[g2]? = some (.cells #[.int .i64 (c : Int), .int .i64 q.a, .int .i64 q.l, .int .i64 q.c, .string ⟨#[]⟩] 53 (0, 0)) ∧ XP (fun k => N ≤ k ∧ k < w.heap.size) w X (.agg (xc X oV cV oK cK o cap)) ∧ Below N W0 w ∧ N ≤ g1 ∧ N ≤ g2
theorem AtPost.err {w : World} {R mb : Nat} {K : Kz} {met : List (List UInt8)} {m : Except (Nat × Ps) (It × Nat)} {c : Nat} {q : Ps} (hm : m = .error (c, q)) {w' : World} (h : Ft R mb w w') : AtPost w R mb K met m (.returned (.tuple #[zi, dgv c q])) w' := by
 subst hm; exact ⟨rfl, h⟩
theorem Kd.grown {w w2 : World} {R mb : Nat} {K : Kz} {p : Nat} (h : Kd w R K p) (g : w.grownBy w2 (some mb)) (h1 : K.n0 ≤ mb) (h2 : mb ≠ R) : Kd w2 R K p :=
 ⟨(g.block R h.lt (fun e => h2 (Option.some.inj e).symm)).trans h.blk, h.kt.kept fun k hk _ => g.block k (Nat.lt_of_lt_of_le hk h.nn) (fun e => by have := Option.some.inj e; omega), h.sz, h.iq, h.le, Nat.le_trans h.nn g.size⟩
theorem Ft.grown {R mb : Nat} {w w2 : World} (g : w.grownBy w2 (some mb)) : Ft R mb w w2 := ⟨g.os, g.tape, g.output, g.size, fun k hk _ h2 => g.block k hk (fun e => h2 (Option.some.inj e))⟩
set_option maxRecDepth 100000 in
set_option maxHeartbeats 8000000 in
theorem attribute_any {w : World} {R mb : Nat} {KZ : Kz} {p : Nat} {f : Value → Option Value} {met : List (List UInt8)} (h : Kd w R KZ p) (hm : Mo Tryz.prog 9 w mb f) (hs : Ms f met) (hmb : KZ.n0 ≤ mb) (hmR : mb ≠ R) (X : Tkn × Option Addr × Nat) (hX : X.1.s.length ≤ 40000) (hread : ∀ m, readM KZ.cx p = m → m.2.2.1 = 0 → m.2.1 < KZ.acc.length) :
 Calls Tryz.prog 127 #[.pointer (some ⟨R, 0, none⟩), tv X, .map (some mb)] w (AtPost w R mb KZ met (attributeM KZ.cx X.1 met p)) := by
 have B0 : Below w.heap.size w (((w.alloc (.cells #[.int .i64 X.1.k, .string (tx X.1.s), .int .i64 X.1.n, psv X, .int .i64 X.1.p.a, .int .i64 X.1.p.l, .int .i64 X.1.p.c] 89)).alloc (.cells z22 40)).alloc (.cells #[.int .i64 0, .int .i64 0, .int .i64 0, .int .i64 0, .string ⟨#[]⟩] 53)) := (((Below.refl _ _).alloc (Nat.le_refl _) _).alloc (by simp) _).alloc (by simp; omega) _
 have HB0 := qh B0
 have HK0 := qh (h.below B0)
 have HM0 := qh (hm.keep B0)
 have k7 : Hid ((((w.alloc (.cells #[.int .i64 X.1.k, .string (tx X.1.s), .int .i64 X.1.n, psv X, .int .i64 X.1.p.a, .int .i64 X.1.p.l, .int .i64 X.1.p.c] 89)).alloc (.cells z22 40)).alloc (.cells #[.int .i64 0, .int .i64 0, .int .i64 0, .int .i64 0, .string ⟨#[]⟩] 53)).heap[w.heap.size]? = some (.cells #[.int .i64 X.1.k, .string (tx X.1.s), .int .i64 X.1.n, psv X, .int .i64 X.1.p.a, .int .i64 X.1.p.l, .int .i64 X.1.p.c] 89 (0, 0))) := (heap_alloc_old _ _ (by simp; omega)).trans ((heap_alloc_old _ _ (by simp)).trans (heap_alloc_new w _))
 have k22 : Hid ((((w.alloc (.cells #[.int .i64 X.1.k, .string (tx X.1.s), .int .i64 X.1.n, psv X, .int .i64 X.1.p.a, .int .i64 X.1.p.l, .int .i64 X.1.p.c] 89)).alloc (.cells z22 40)).alloc (.cells #[.int .i64 0, .int .i64 0, .int .i64 0, .int .i64 0, .string ⟨#[]⟩] 53)).heap[w.heap.size + 1]? = some (.cells z22 40 (0, 0))) := (heap_alloc_old _ _ (by simp)).trans (by rw [show w.heap.size + 1 = (w.alloc (.cells #[.int .i64 X.1.k, .string (tx X.1.s), .int .i64 X.1.n, psv X, .int .i64 X.1.p.a, .int .i64 X.1.p.l, .int .i64 X.1.p.c] 89)).heap.size by simp]; exact heap_alloc_new _ _)
 have k36 : Hid ((((w.alloc (.cells #[.int .i64 X.1.k, .string (tx X.1.s), .int .i64 X.1.n, psv X, .int .i64 X.1.p.a, .int .i64 X.1.p.l, .int .i64 X.1.p.c] 89)).alloc (.cells z22 40)).alloc (.cells #[.int .i64 0, .int .i64 0, .int .i64 0, .int .i64 0, .string ⟨#[]⟩] 53)).heap[w.heap.size + 1 + 1]? = some (.cells #[.int .i64 0, .int .i64 0, .int .i64 0, .int .i64 0, .string ⟨#[]⟩] 53 (0, 0))) := by rw [show w.heap.size + 1 + 1 = ((w.alloc (.cells #[.int .i64 X.1.k, .string (tx X.1.s), .int .i64 X.1.n, psv X, .int .i64 X.1.p.a, .int .i64 X.1.p.l, .int .i64 X.1.p.c] 89)).alloc (.cells z22 40)).heap.size by simp]; exact heap_alloc_new _ _
 have HRL := qh h.lt
 have HML := qh hm.lt
 have HMB := qh (And.intro hmb hmR)
 have HS := qh hs
 have HRD := qh hread
 obtain ⟨kl, hkl⟩ : ∃ kl, keyOf Tryz.prog 9 (.string (tx X.1.s)) = some kl := ⟨_, str_key (by rw [tx_sz]; unfold maxLen; omega)⟩
 have HKL := qh hkl
 have HA : Hid (attributeM KZ.cx X.1 met p = if X.1.s ∈ met then .error (10, X.1.p.ps) else if (readM KZ.cx p).2.2.1 = 0 then .ok (.mk false X.1.s [] (readM KZ.cx p).1 [] X.1.p.ps, (readM KZ.cx p).2.1) else .error (readM KZ.cx p).2.2) := rfl
 generalize attributeM KZ.cx X.1 met p = M at *
 have HW0 : Hid ((((w.alloc (.cells #[.int .i64 X.1.k, .string (tx X.1.s), .int .i64 X.1.n, psv X, .int .i64 X.1.p.a, .int .i64 X.1.p.l, .int .i64 X.1.p.c] 89)).alloc (.cells z22 40)).alloc (.cells #[.int .i64 0, .int .i64 0, .int .i64 0, .int .i64 0, .string ⟨#[]⟩] 53)).heap.size = w.heap.size + 3) := by unfold Hid; simp
 clear h hm hs hmb hmR hread B0 hX hkl
 go_enter Tryz.func127, Tryz.ntmps127
 go_upto_region 1 with fail
 generalize (((w.alloc (Obj.cells #[.int .i64 X.1.k, .string (tx X.1.s), .int .i64 X.1.n, psv X, .int .i64 X.1.p.a, .int .i64 X.1.p.l, .int .i64 X.1.p.c] 89)).alloc (Obj.cells z22 40)).alloc (Obj.cells #[.int .i64 0, .int .i64 0, .int .i64 0, .int .i64 0, .string ⟨#[]⟩] 53)) = w0 at *
 have look := HM0.out.look law9 Tryz.underlying134 zero134 HKL.out
 have HFE : Hid ((f (.string (tx X.1.s))).getD (.agg #[]) = .agg #[]) := by cases hf : f (.string (tx X.1.s)) with | none => rfl | some v => exact HS.out.2 _ v hf
 rw [HFE.out, HS.out.1] at look
 obtain ⟨⟨t0, t1, t2, t3, t4, t5, t6⟩, -, hbt⟩ := rc7 k7.out
 go_upto_region 2 with fail
 clear look t0 t1 t2 t3 t4 t5 t6 hbt
 have B1 : Below w0.heap.size w0 (w0.alloc (.cells #[] 196)) := (Below.refl _ _).alloc (Nat.le_refl _) _
 have HB1 := qh (HB0.out.trans (B1.mono HB0.out.size))
 have HK1 := qh (HK0.out.below B1)
 have HM1 := qh (HM0.out.keep B1)
 replace k7 := qh ((B1.block _ (Array.getElem?_eq_some_iff.1 k7.out).1).trans k7.out)
 replace k22 := qh ((B1.block _ (Array.getElem?_eq_some_iff.1 k22.out).1).trans k22.out)
 replace k36 := qh ((B1.block _ (Array.getElem?_eq_some_iff.1 k36.out).1).trans k36.out)
 have HW1 : Hid (w.heap.size + 3 ≤ (w0.alloc (.cells #[] 196)).heap.size) := by rw [← HW0.out]; exact B1.size
 clear B1 HB0 HK0 HM0 HFE HW0
 generalize w0.alloc (Obj.cells #[] 196) = w1 at *
 generalize w0.heap.size = b8 at *
 have hgi : Hid (w.heap.size ≤ w.heap.size + 1 ∧ w.heap.size ≤ w.heap.size + 1 + 1) := ⟨by omega, by omega⟩
 by_cases hin : X.1.s ∈ met
 · have HME : Hid (M = .error (10, X.1.p.ps)) := by unfold Hid; rw [HA.out, if_pos hin]
   rw [decide_eq_true hin]
   clear hin HA
   obtain ⟨⟨t0, t1, t2, t3, t4, t5, t6⟩, -, hbt⟩ := rc7 k7.out
   clear t0 t1 t2 t3
   have n1 : w.heap.size < w1.heap.size := by have := HW1.out; omega
   have q22 := k22
   have q36 := k36
   go_upto_region 3 with fail
   refine wp_region_noPanic ?_
   refine wp_region_held_drew (S := (fun W => ∀ o, W.cell? ⟨w.heap.size, o, none⟩ = w1.cell? ⟨w.heap.size, o, none⟩)) (by kernel_rfl) ?_ (fun hH => ?_)
   · exact fun _ => rfl
   have d22 : Hid (w1.drew.heap[(w.heap.size + 1)]? = _) := q22.out
   have d36 : Hid (w1.drew.heap[(w.heap.size + 1 + 1)]? = _) := q36.out
   have dB : Hid (Below w.heap.size w1 w1.drew) := (Below.refl _ _).drew
   have dO : Hid (∀ k : Nat, w1.drew.heap[k]? = w1.heap[k]?) := fun _ => rfl
   generalize w1.drew = Ws at *
   refine wpAnyH_take (i := 0) (oi := { dst := some 21, op := Op.build 40 #[], type := 40, pos := _, after := _, guard := none }) (v := ?_) rfl (by kernel_rfl) (by kernel_rfl) (by kernel_rfl) (fun _ _ _ h => h) (Or.inl ⟨by rfl, ?_⟩) (by assumption) ?_
   rotate_left
   · (intro w hSw; (try dsimp only at hSw); go_simp; try with_reducible rfl)
   try simp only [Act.put, sqa, sqb, sqc]
   refine wpAnyH_take (i := 1) (oi := { dst := some 22, op := Op.fieldAddr 89 (Operand.tmp 4) 4, type := 0, pos := _, after := _, guard := none }) (v := ?_) rfl (by kernel_rfl) (by kernel_rfl) (by kernel_rfl) (fun _ _ _ h => h) (Or.inl ⟨by rfl, ?_⟩) (by assumption) ?_
   rotate_left
   · (intro w hSw; (try dsimp only at hSw); go_simp; try with_reducible rfl)
   try simp only [Act.put, sqa, sqb, sqc]
   refine wpAnyH_take (i := 2) (oi := { dst := some 23, op := Op.load 36 (Operand.tmp 22), type := 36, pos := _, after := _, guard := none }) (v := ?_) rfl (by kernel_rfl) (by kernel_rfl) (by kernel_rfl) (fun _ _ _ h => h) (Or.inl ⟨by rfl, ?_⟩) (by assumption) ?_
   rotate_left
   · (intro w hSw; (try dsimp only at hSw); go_simp; try with_reducible rfl)
   try simp only [Act.put, sqa, sqb, sqc]
   refine wpAnyH_take (i := 3) (oi := { dst := some 24, op := Op.build 53 #[(0, Operand.const (Value.int IntKind.i64 10)), (1, Operand.tmp 23)], type := 53, pos := _, after := _, guard := none }) (v := ?_) rfl (by kernel_rfl) (by kernel_rfl) (by kernel_rfl) (fun _ _ _ h => h) (Or.inl ⟨by rfl, ?_⟩) (by assumption) ?_
   rotate_left
   · (intro w hSw; (try dsimp only at hSw); go_simp; try with_reducible rfl)
   try simp only [Act.put, sqa, sqb, sqc]
   refine wpAnyH_ready (rs := [4]) (by kernel_rfl) (by simp) ?_
   refine AllReadyH.cons (o := { dst := none, op := Op.store 40 (Operand.tmp 6) (Operand.tmp 21), type := 0, pos := _, after := _, guard := none }) rfl (fun K hK => ?_) AllReadyH.nil
   refine step_store_row rfl 40 (.tmp 6) (.tmp 21) rfl (w.heap.size + 1) rfl z22 rfl 40 _ d22.out (info22 rfl) rfl (by kernel_rfl) ?_
   try simp only [Act.put]
   have s22 : Hid ((Ws.setRow (w.heap.size + 1) z22).heap[(w.heap.size + 1)]? = some (.cells z22 40 (0, 0))) := setRow_heap _ _ _ _ _ _ d22.out
   have s36 := qh ((setRow_other Ws (w.heap.size + 1) (w.heap.size + 1 + 1) z22 (by omega)).trans d36.out)
   have sL := setRow_other Ws (w.heap.size + 1) w.heap.size z22 (by omega)
   have sO : Hid (∀ k, k ≠ (w.heap.size + 1) → (Ws.setRow (w.heap.size + 1) z22).heap[k]? = Ws.heap[k]?) := fun k hk => setRow_other Ws (w.heap.size + 1) k z22 hk
   have sB := qh (Below.row dB.out hgi.out.1 z22)
   clear d22 d36 dB
   generalize (Ws.setRow (w.heap.size + 1) z22) = Wp at *
   refine hK.out _ _ ?_ (fun hH' => ?_)
   · exact fun o => (World.cell?_of_block (w := Ws) (w' := Wp) sL).trans (hH o)
   clear sL
   clear hK K hH
   have hH := hH'
   clear hH'
   try simp only [Act.put, sqa, sqb, sqc]
   refine wpAnyH_ready (rs := [5]) (by kernel_rfl) (by simp) ?_
   refine AllReadyH.cons (o := { dst := none, op := Op.store 53 (Operand.tmp 7) (Operand.tmp 24), type := 0, pos := _, after := _, guard := none }) rfl (fun K hK => ?_) AllReadyH.nil
   refine step_store_row rfl 53 (.tmp 7) (.tmp 24) rfl (w.heap.size + 1 + 1) rfl #[.int .i64 10, .int .i64 X.1.p.a, .int .i64 X.1.p.l, .int .i64 X.1.p.c, .string ⟨#[]⟩] rfl 53 _ s36.out (info36 rfl) rfl (by kernel_rfl) ?_
   try simp only [Act.put]
   have r36 : Hid ((Wp.setRow (w.heap.size + 1 + 1) #[.int .i64 10, .int .i64 X.1.p.a, .int .i64 X.1.p.l, .int .i64 X.1.p.c, .string ⟨#[]⟩]).heap[(w.heap.size + 1 + 1)]? = some (.cells #[.int .i64 10, .int .i64 X.1.p.a, .int .i64 X.1.p.l, .int .i64 X.1.p.c, .string ⟨#[]⟩] 53 (0, 0))) := setRow_heap _ _ _ _ _ _ s36.out
   have r22 := qh ((setRow_other Wp (w.heap.size + 1 + 1) (w.heap.size + 1) #[.int .i64 10, .int .i64 X.1.p.a, .int .i64 X.1.p.l, .int .i64 X.1.p.c, .string ⟨#[]⟩] (fun e => (show (w.heap.size + 1 + 1) ≠ (w.heap.size + 1) from (by omega)) e.symm)).trans s22.out)
   have sL := setRow_other Wp (w.heap.size + 1 + 1) w.heap.size #[.int .i64 10, .int .i64 X.1.p.a, .int .i64 X.1.p.l, .int .i64 X.1.p.c, .string ⟨#[]⟩] (by omega)
   have rO : Hid (∀ k, k ≠ (w.heap.size + 1) → k ≠ (w.heap.size + 1 + 1) → (Wp.setRow (w.heap.size + 1 + 1) #[.int .i64 10, .int .i64 X.1.p.a, .int .i64 X.1.p.l, .int .i64 X.1.p.c, .string ⟨#[]⟩]).heap[k]? = w1.heap[k]?) := fun k h1 h2 => (setRow_other Wp (w.heap.size + 1 + 1) k #[.int .i64 10, .int .i64 X.1.p.a, .int .i64 X.1.p.l, .int .i64 X.1.p.c, .string ⟨#[]⟩] h2).trans ((sO.out k h1).trans (dO.out k))
   have rB := qh (Below.row sB.out hgi.out.2 #[.int .i64 10, .int .i64 X.1.p.a, .int .i64 X.1.p.l, .int .i64 X.1.p.c, .string ⟨#[]⟩])
   clear s22 s36 sO sB dO
   generalize (Wp.setRow (w.heap.size + 1 + 1) #[.int .i64 10, .int .i64 X.1.p.a, .int .i64 X.1.p.l, .int .i64 X.1.p.c, .string ⟨#[]⟩]) = Wq at *
   refine hK.out _ _ ?_ (fun hH' => ?_)
   · exact fun o => (World.cell?_of_block (w := Wp) (w' := Wq) sL).trans (hH o)
   clear sL
   clear hK K hH
   have hH := hH'
   clear hH'
   try simp only [Act.put, sqa, sqb, sqc]
   refine wpAnyH_done (by kernel_rfl) ?_ _
   refine NoPanic.normal ?_
   go_wp2_with fail
   refine bodyPost_ret (v := .tuple #[.agg z22, .agg #[.int .i64 10, .int .i64 X.1.p.a, .int .i64 X.1.p.l, .int .i64 X.1.p.c, .string ⟨#[]⟩]]) (results_rows (p := 6) (q := 7) rfl _ _ _ _ _ _ rfl rfl r22.out r36.out rfl rfl) rfl ?_
   exact AtPost.err HME.out (Ft.of (HB1.out.trans rB.out))
 · rw [decide_eq_false hin]
   obtain ⟨⟨t0, t1, t2, t3, t4, t5, t6⟩, -, hbt⟩ := rc7 k7.out
   clear t0 t2 t3 t4 t5 t6
   have HME : Hid (M = if (readM KZ.cx p).2.2.1 = 0 then .ok (.mk false X.1.s [] (readM KZ.cx p).1 [] X.1.p.ps, (readM KZ.cx p).2.1) else .error (readM KZ.cx p).2.2) := by unfold Hid; rw [HA.out, if_neg hin]
   clear hin HA
   obtain ⟨w2, e2, m2, g2⟩ := HM1.out.put law9 Tryz.underlying134 HKL.out (.agg #[])
   have HM2 := qh m2
   have HMS := qh (HS.out.ins X.1.s)
   have HK2 := qh (HK1.out.grown g2 HMB.out.1 HMB.out.2)
   have HF2 := qh ((Ft.of HB1.out : Ft R mb w w1).tr (Ft.grown g2))
   replace k7 := qh ((g2.block _ (Array.getElem?_eq_some_iff.1 k7.out).1 (fun e => by have := Option.some.inj e; have := HML.out; omega)).trans k7.out)
   replace k22 := qh ((g2.block _ (Array.getElem?_eq_some_iff.1 k22.out).1 (fun e => by have := Option.some.inj e; have := HML.out; omega)).trans k22.out)
   replace k36 := qh ((g2.block _ (Array.getElem?_eq_some_iff.1 k36.out).1 (fun e => by have := Option.some.inj e; have := HML.out; omega)).trans k36.out)
   have HW2 : Hid (w.heap.size + 3 ≤ w2.heap.size) := Nat.le_trans HW1.out g2.size
   clear m2 g2 HM1 HK1 HB1 HS
   clear hgi
   skip
   go_upto_region 5 with fail
   clear t1 hbt e2
   obtain ⟨m, hm⟩ : ∃ m, readM KZ.cx p = m := ⟨_, rfl⟩
   rw [hm] at HME
   have HRM := qh (HRD.out m hm)
   have HHM := qh hm
   clear hm HRD
   obtain ⟨N, hN⟩ : ∃ N, N = w2.heap.size := ⟨_, rfl⟩
   have S0 := held_at hN
   have HN := qh hN
   obtain ⟨⟨r0, r1⟩, -, hR⟩ := rc2 HK2.out.blk
   have lbR : R < N := by rw [hN]; exact hR
   have CC : Hid (∀ W, Below N w2 W → Calls Tryz.prog 157 #[KZ.vl, .int .i64 p] W (RdPost W m)) := fun W hW => by
    have := read_any (HK2.out.below (by rw [← HN.out]; exact hW))
    rw [HHM.out] at this; exact this
   obtain ⟨vl, hvl⟩ : ∃ vl, KZ.vl = vl := ⟨_, rfl⟩
   rw [hvl] at CC r0
   clear hvl hN hR
   go_cut [10, 11, 12] (fun p1 p2 p3 wx => ∃ g1 g2 : Nat, p1 = .pointer (some ⟨g1, 0, none⟩) ∧ p2 = .int .i64 m.2.1 ∧ p3 = .pointer (some ⟨g2, 0, none⟩) ∧ PR N w2 wx g1 g2 m.1 m.2.2.1 m.2.2.2)
   case first =>
    refine wp_region_noPanic ?_
    refine wp_region_held_drew (S := (fun W => (∀ b o, b < N → W.cell? ⟨b, o, none⟩ = w2.cell? ⟨b, o, none⟩) ∧ Hid (Below N w2 W) ∧ Hid (N ≤ W.heap.size))) (by kernel_rfl) ?_ (fun hH => ?_)
    · exact S0
    generalize w2.drew = Ws at *
    refine wpAnyH_take (i := 0) (oi := { dst := some 30, op := Op.move (Operand.tmp 0), type := 132, pos := _, after := _, guard := none }) (v := ?_) rfl (by kernel_rfl) (by kernel_rfl) (by kernel_rfl) (fun _ _ _ h => h) (Or.inl ⟨by rfl, ?_⟩) (by assumption) ?_
    rotate_left
    · (intro w hSw; (try dsimp only at hSw); go_simp; try with_reducible rfl)
    try simp only [Act.put, sqa, sqb, sqc]
    refine wpAnyH_take (i := 1) (oi := { dst := some 31, op := Op.nilCheck (Operand.tmp 30), type := 0, pos := _, after := _, guard := none }) (v := ?_) rfl (by kernel_rfl) (by kernel_rfl) (by kernel_rfl) (fun _ _ _ h => h) (Or.inl ⟨by rfl, ?_⟩) (by assumption) ?_
    rotate_left
    · (intro w hSw; (try dsimp only at hSw); go_simp; try with_reducible rfl)
    try simp only [Act.put, sqa, sqb, sqc]
    refine wpAnyH_take (i := 2) (oi := { dst := some 32, op := Op.fieldAddr 95 (Operand.tmp 31) 0, type := 0, pos := _, after := _, guard := none }) (v := ?_) rfl (by kernel_rfl) (by kernel_rfl) (by kernel_rfl) (fun _ _ _ h => h) (Or.inl ⟨by rfl, ?_⟩) (by assumption) ?_
    rotate_left
    · (intro w hSw; (try dsimp only at hSw); go_simp; try with_reducible rfl)
    try simp only [Act.put, sqa, sqb, sqc]
    refine wpAnyH_take (i := 3) (oi := { dst := some 33, op := Op.load 92 (Operand.tmp 32), type := 92, pos := _, after := _, guard := none }) (v := ?_) rfl (by kernel_rfl) (by kernel_rfl) (by kernel_rfl) (fun _ _ _ h => h) (Or.inl ⟨by rfl, ?_⟩) (by assumption) ?_
    rotate_left
    · (intro w hSw; (try dsimp only at hSw); go_simp; try with_reducible rfl)
    try simp only [Act.put, sqa, sqb, sqc]
    refine wpAnyH_take (i := 4) (oi := { dst := some 34, op := Op.move (Operand.tmp 0), type := 132, pos := _, after := _, guard := none }) (v := ?_) rfl (by kernel_rfl) (by kernel_rfl) (by kernel_rfl) (fun _ _ _ h => h) (Or.inl ⟨by rfl, ?_⟩) (by assumption) ?_
    rotate_left
    · (intro w hSw; (try dsimp only at hSw); go_simp; try with_reducible rfl)
    try simp only [Act.put, sqa, sqb, sqc]
    refine wpAnyH_take (i := 5) (oi := { dst := some 35, op := Op.nilCheck (Operand.tmp 34), type := 0, pos := _, after := _, guard := none }) (v := ?_) rfl (by kernel_rfl) (by kernel_rfl) (by kernel_rfl) (fun _ _ _ h => h) (Or.inl ⟨by rfl, ?_⟩) (by assumption) ?_
    rotate_left
    · (intro w hSw; (try dsimp only at hSw); go_simp; try with_reducible rfl)
    try simp only [Act.put, sqa, sqb, sqc]
    refine wpAnyH_take (i := 6) (oi := { dst := some 36, op := Op.fieldAddr 95 (Operand.tmp 35) 1, type := 0, pos := _, after := _, guard := none }) (v := ?_) rfl (by kernel_rfl) (by kernel_rfl) (by kernel_rfl) (fun _ _ _ h => h) (Or.inl ⟨by rfl, ?_⟩) (by assumption) ?_
    rotate_left
    · (intro w hSw; (try dsimp only at hSw); go_simp; try with_reducible rfl)
    try simp only [Act.put, sqa, sqb, sqc]
    refine wpAnyH_take (i := 7) (oi := { dst := some 37, op := Op.load 93 (Operand.tmp 36), type := 93, pos := _, after := _, guard := none }) (v := ?_) rfl (by kernel_rfl) (by kernel_rfl) (by kernel_rfl) (fun _ _ _ h => h) (Or.inl ⟨by rfl, ?_⟩) (by assumption) ?_
    rotate_left
    · (intro w hSw; (try dsimp only at hSw); go_simp; try with_reducible rfl)
    try simp only [Act.put, sqa, sqb, sqc]
    refine wpAnyH_ready (rs := [8, 13, 14]) (by kernel_rfl) (by simp) ?_
    refine (AllReadyH.cons (o := { dst := some 38, op := Op.call { callee := Callee.value (Operand.func 157), args := #[Operand.tmp 33, Operand.tmp 37], argTypes := #[79, 3] }, type := 198, pos := _, after := _, guard := none }) rfl (fun K hK => ?_) (AllReadyH.cons (o := { dst := some 10, op := Op.alloc 38, type := 0, pos := _, after := _, guard := none }) rfl (fun K hK => ?_) (AllReadyH.cons (o := { dst := some 12, op := Op.alloc 53, type := 0, pos := _, after := _, guard := none }) rfl (fun K hK => ?_) AllReadyH.nil)))
    · go_simp
      refine (CC.out _ hH.2.1.out).mono ?_
      rintro e0 Wc ⟨oV, cV, oK, cK, o, cap, rfl, hx, hb⟩
      refine hK.out _ _ ?_ (fun hH' => ?_)
      · exact held_next hb hH
      have HX : Hid (XP (fun k => Ws.heap.size ≤ k ∧ k < Wc.heap.size) Wc m.1 (.agg (xc m.1 oV cV oK cK o cap))) := hx
      have HHI : Hid (Wc.heap.size ≤ Wc.heap.size) := Nat.le_refl _
      have HLO := hH.2.2
      clear hx hb
      clear hK K hH
      have hH := hH'
      clear hH'
      try simp only [Act.put, sqa, sqb, sqc]
      obtain ⟨lo, hlo⟩ : ∃ b, Ws.heap.size = b := ⟨_, rfl⟩
      rw [hlo] at HX HLO
      obtain ⟨hi, hhi⟩ : ∃ b, Wc.heap.size = b := ⟨_, rfl⟩
      replace HHI : Hid (hi ≤ Wc.heap.size) := Nat.le_of_eq hhi.symm
      rw [hhi] at HX
      clear hlo hhi
      refine wpAnyH_take (i := 9) (oi := { dst := some 29, op := Op.move (Operand.tmp 38), type := 198, pos := _, after := _, guard := none }) (v := ?_) rfl (by kernel_rfl) (by kernel_rfl) (by kernel_rfl) (fun _ _ _ h => h) (Or.inl ⟨by rfl, ?_⟩) (by assumption) ?_
      rotate_left
      · (intro w hSw; (try dsimp only at hSw); go_simp; try with_reducible rfl)
      try simp only [Act.put, sqa, sqb, sqc]
      refine wpAnyH_take (i := 10) (oi := { dst := some 39, op := Op.extract (Operand.tmp 29) 0, type := 38, pos := _, after := _, guard := none }) (v := ?_) rfl (by kernel_rfl) (by kernel_rfl) (by kernel_rfl) (fun _ _ _ h => h) (Or.inl ⟨by rfl, ?_⟩) (by assumption) ?_
      rotate_left
      · (intro w hSw; (try dsimp only at hSw); go_simp; try with_reducible rfl)
      try simp only [Act.put, sqa, sqb, sqc]
      refine wpAnyH_take (i := 11) (oi := { dst := some 40, op := Op.extract (Operand.tmp 29) 1, type := 3, pos := _, after := _, guard := none }) (v := ?_) rfl (by kernel_rfl) (by kernel_rfl) (by kernel_rfl) (fun _ _ _ h => h) (Or.inl ⟨by rfl, ?_⟩) (by assumption) ?_
      rotate_left
      · (intro w hSw; (try dsimp only at hSw); go_simp; try with_reducible rfl)
      try simp only [Act.put, sqa, sqb, sqc]
      refine wpAnyH_take (i := 12) (oi := { dst := some 41, op := Op.extract (Operand.tmp 29) 2, type := 53, pos := _, after := _, guard := none }) (v := ?_) rfl (by kernel_rfl) (by kernel_rfl) (by kernel_rfl) (fun _ _ _ h => h) (Or.inl ⟨by rfl, ?_⟩) (by assumption) ?_
      rotate_left
      · (intro w hSw; (try dsimp only at hSw); go_simp; try with_reducible rfl)
      try simp only [Act.put, sqa, sqb, sqc]
      refine wpAnyH_ready (rs := [13, 14]) (by kernel_rfl) (by simp) ?_
      refine (AllReadyH.cons (o := { dst := some 10, op := Op.alloc 38, type := 0, pos := _, after := _, guard := none }) rfl (fun K hK => ?_) (AllReadyH.cons (o := { dst := some 12, op := Op.alloc 53, type := 0, pos := _, after := _, guard := none }) rfl (fun K hK => ?_) AllReadyH.nil))
      · go_simp
        have HG1 := hH.2.2
        have BB : Below Wc.heap.size Wc (Wc.alloc (.cells #[.int .i64 0, .string ⟨#[]⟩, .string ⟨#[]⟩, .int .i64 0, .int .i64 0, .string ⟨#[]⟩, .slice none 0 0, .slice none 0 0, .int .i64 0, .int .i64 0, .bool false, .slice none 0 0, .int .i64 0, .int .i64 0, .int .i64 0] 38)) := (Below.refl _ _).alloc (Nat.le_refl _) _
        refine hK.out _ _ ?_ (fun hH' => ?_)
        · exact held_next BB hH
        have R1 := qh (heap_alloc_new Wc (.cells #[.int .i64 0, .string ⟨#[]⟩, .string ⟨#[]⟩, .int .i64 0, .int .i64 0, .string ⟨#[]⟩, .slice none 0 0, .slice none 0 0, .int .i64 0, .int .i64 0, .bool false, .slice none 0 0, .int .i64 0, .int .i64 0, .int .i64 0] 38))
        have D1 : Hid (Wc.heap.size < lo ∨ hi ≤ Wc.heap.size) := .inr HHI.out
        replace HX := qh (HX.out.keptP (P' := fun k => lo ≤ k ∧ k < hi) fun k hk => ⟨hk, BB.block k (Nat.lt_of_lt_of_le hk.2 HHI.out)⟩)
        replace HHI : Hid (hi ≤ (Wc.alloc (.cells #[.int .i64 0, .string ⟨#[]⟩, .string ⟨#[]⟩, .int .i64 0, .int .i64 0, .string ⟨#[]⟩, .slice none 0 0, .slice none 0 0, .int .i64 0, .int .i64 0, .bool false, .slice none 0 0, .int .i64 0, .int .i64 0, .int .i64 0] 38)).heap.size) := Nat.le_trans HHI.out BB.size
        clear BB
        clear hK K hH
        have hH := hH'
        clear hH'
        try simp only [Act.put, sqa, sqb, sqc]
        generalize Wc.alloc (.cells #[.int .i64 0, .string ⟨#[]⟩, .string ⟨#[]⟩, .int .i64 0, .int .i64 0, .string ⟨#[]⟩, .slice none 0 0, .slice none 0 0, .int .i64 0, .int .i64 0, .bool false, .slice none 0 0, .int .i64 0, .int .i64 0, .int .i64 0] 38) = Wa at *
        generalize Wc.heap.size = g1 at *
        refine wpAnyH_ready (rs := [14]) (by kernel_rfl) (by simp) ?_
        refine AllReadyH.cons (o := { dst := some 12, op := Op.alloc 53, type := 0, pos := _, after := _, guard := none }) rfl (fun K hK => ?_) AllReadyH.nil
        go_simp
        have HG2 := hH.2.2
        have BB : Below Wa.heap.size Wa (Wa.alloc (.cells #[.int .i64 0, .int .i64 0, .int .i64 0, .int .i64 0, .string ⟨#[]⟩] 53)) := (Below.refl _ _).alloc (Nat.le_refl _) _
        refine hK.out _ _ ?_ (fun hH' => ?_)
        · exact held_next BB hH
        have HNE : Hid (Wa.heap.size ≠ g1) := Nat.ne_of_gt (Array.getElem?_eq_some_iff.1 R1.out).1
        have R2 := qh (heap_alloc_new Wa (.cells #[.int .i64 0, .int .i64 0, .int .i64 0, .int .i64 0, .string ⟨#[]⟩] 53))
        replace R1 := qh ((heap_alloc_old Wa (.cells #[.int .i64 0, .int .i64 0, .int .i64 0, .int .i64 0, .string ⟨#[]⟩] 53) (Array.getElem?_eq_some_iff.1 R1.out).1).trans R1.out)
        have D2 : Hid (Wa.heap.size < lo ∨ hi ≤ Wa.heap.size) := .inr HHI.out
        replace HX := qh (HX.out.keptP (P' := fun k => lo ≤ k ∧ k < hi) fun k hk => ⟨hk, BB.block k (Nat.lt_of_lt_of_le hk.2 HHI.out)⟩)
        replace HHI : Hid (hi ≤ (Wa.alloc (.cells #[.int .i64 0, .int .i64 0, .int .i64 0, .int .i64 0, .string ⟨#[]⟩] 53)).heap.size) := Nat.le_trans HHI.out BB.size
        clear BB
        clear hK K hH
        have hH := hH'
        clear hH'
        try simp only [Act.put, sqa, sqb, sqc]
        generalize Wa.alloc (.cells #[.int .i64 0, .int .i64 0, .int .i64 0, .int .i64 0, .string ⟨#[]⟩] 53) = Wb at *
        generalize Wa.heap.size = g2 at *
        refine wpAnyH_ready (rs := [15]) (by kernel_rfl) (by simp) ?_
        refine AllReadyH.cons (o := { dst := none, op := Op.store 38 (Operand.tmp 10) (Operand.tmp 39), type := 0, pos := _, after := _, guard := none }) rfl (fun K hK => ?_) AllReadyH.nil
        obtain ⟨⟨x0, x1, x2, x3, x4, x5, x6, x7, x8, x9, x10, x11, x12, x13, x14⟩, gx, hbx⟩ := rc15 R1.out
        have gx0 := gx 0
        have gx1 := gx 1
        have gx2 := gx 2
        have gx3 := gx 3
        have gx4 := gx 4
        have gx5 := gx 5
        have gx6 := gx 6
        have gx7 := gx 7
        have gx8 := gx 8
        have gx9 := gx 9
        have gx10 := gx 10
        have gx11 := gx 11
        have gx12 := gx 12
        have gx13 := gx 13
        have gx14 := gx 14
        clear gx
        go_simp
        have SB : Below N w2 (((((((((((((((Wb.setCell ⟨g1, 0, none⟩ (.int .i64 m.1.op)).setCell ⟨g1, 1, none⟩ (.string m.1.s)).setCell ⟨g1, 2, none⟩ (.string m.1.s2)).setCell ⟨g1, 3, none⟩ (.int .i64 m.1.v.k)).setCell ⟨g1, 4, none⟩ (.int .i64 m.1.v.i)).setCell ⟨g1, 5, none⟩ (.string m.1.v.s)).setCell ⟨g1, 6, none⟩ (.slice oV m.1.v.l.length cV)).setCell ⟨g1, 7, none⟩ (.slice oK m.1.v.ks.length cK)).setCell ⟨g1, 8, none⟩ (.int .i64 m.1.v.tk)).setCell ⟨g1, 9, none⟩ (.int .i64 m.1.v.to)).setCell ⟨g1, 10, none⟩ (.bool m.1.v.x)).setCell ⟨g1, 11, none⟩ (.slice o m.1.l.length cap)).setCell ⟨g1, 12, none⟩ (.int .i64 m.1.a)).setCell ⟨g1, 13, none⟩ (.int .i64 m.1.ln)).setCell ⟨g1, 14, none⟩ (.int .i64 m.1.c)) := set15_b hH.2.1.out HG1.out (.int .i64 m.1.op) (.string m.1.s) (.string m.1.s2) (.int .i64 m.1.v.k) (.int .i64 m.1.v.i) (.string m.1.v.s) (.slice oV m.1.v.l.length cV) (.slice oK m.1.v.ks.length cK) (.int .i64 m.1.v.tk) (.int .i64 m.1.v.to) (.bool m.1.v.x) (.slice o m.1.l.length cap) (.int .i64 m.1.a) (.int .i64 m.1.ln) (.int .i64 m.1.c)
        have SS := (set15_b (b := g1) (Below.refl 0 Wb) (Nat.zero_le _) (.int .i64 m.1.op) (.string m.1.s) (.string m.1.s2) (.int .i64 m.1.v.k) (.int .i64 m.1.v.i) (.string m.1.v.s) (.slice oV m.1.v.l.length cV) (.slice oK m.1.v.ks.length cK) (.int .i64 m.1.v.tk) (.int .i64 m.1.v.to) (.bool m.1.v.x) (.slice o m.1.l.length cap) (.int .i64 m.1.a) (.int .i64 m.1.ln) (.int .i64 m.1.c)).size
        refine hK.out _ _ ?_ (fun hH' => ?_)
        · exact ⟨fun b o hb => SB.cell (p := ⟨b, o, none⟩) hb, SB, Nat.le_trans hH.2.2.out SS⟩
        replace R2 := qh ((set15_o (show g2 ≠ g1 from HNE.out) (.int .i64 m.1.op) (.string m.1.s) (.string m.1.s2) (.int .i64 m.1.v.k) (.int .i64 m.1.v.i) (.string m.1.v.s) (.slice oV m.1.v.l.length cV) (.slice oK m.1.v.ks.length cK) (.int .i64 m.1.v.tk) (.int .i64 m.1.v.to) (.bool m.1.v.x) (.slice o m.1.l.length cap) (.int .i64 m.1.a) (.int .i64 m.1.ln) (.int .i64 m.1.c)).trans R2.out)
        replace HX := qh (HX.out.keptP (P' := fun k => lo ≤ k ∧ k < hi) fun k hk => ⟨hk, set15_o (show k ≠ g1 by have := D1.out; have := hk.1; have := hk.2; omega) (.int .i64 m.1.op) (.string m.1.s) (.string m.1.s2) (.int .i64 m.1.v.k) (.int .i64 m.1.v.i) (.string m.1.v.s) (.slice oV m.1.v.l.length cV) (.slice oK m.1.v.ks.length cK) (.int .i64 m.1.v.tk) (.int .i64 m.1.v.to) (.bool m.1.v.x) (.slice o m.1.l.length cap) (.int .i64 m.1.a) (.int .i64 m.1.ln) (.int .i64 m.1.c)⟩)
        replace R1 := qh (set15 R1.out (.int .i64 m.1.op) (.string m.1.s) (.string m.1.s2) (.int .i64 m.1.v.k) (.int .i64 m.1.v.i) (.string m.1.v.s) (.slice oV m.1.v.l.length cV) (.slice oK m.1.v.ks.length cK) (.int .i64 m.1.v.tk) (.int .i64 m.1.v.to) (.bool m.1.v.x) (.slice o m.1.l.length cap) (.int .i64 m.1.a) (.int .i64 m.1.ln) (.int .i64 m.1.c))
        replace HHI := qh (Nat.le_trans HHI.out SS)
        clear SB SS x0 x1 x2 x3 x4 x5 x6 x7 x8 x9 x10 x11 x12 x13 x14 hbx gx0 gx1 gx2 gx3 gx4 gx5 gx6 gx7 gx8 gx9 gx10 gx11 gx12 gx13 gx14
        clear hK K hH
        have hH := hH'
        clear hH'
        try simp only [Act.put, sqa, sqb, sqc]
        generalize (((((((((((((((Wb.setCell ⟨g1, 0, none⟩ (.int .i64 m.1.op)).setCell ⟨g1, 1, none⟩ (.string m.1.s)).setCell ⟨g1, 2, none⟩ (.string m.1.s2)).setCell ⟨g1, 3, none⟩ (.int .i64 m.1.v.k)).setCell ⟨g1, 4, none⟩ (.int .i64 m.1.v.i)).setCell ⟨g1, 5, none⟩ (.string m.1.v.s)).setCell ⟨g1, 6, none⟩ (.slice oV m.1.v.l.length cV)).setCell ⟨g1, 7, none⟩ (.slice oK m.1.v.ks.length cK)).setCell ⟨g1, 8, none⟩ (.int .i64 m.1.v.tk)).setCell ⟨g1, 9, none⟩ (.int .i64 m.1.v.to)).setCell ⟨g1, 10, none⟩ (.bool m.1.v.x)).setCell ⟨g1, 11, none⟩ (.slice o m.1.l.length cap)).setCell ⟨g1, 12, none⟩ (.int .i64 m.1.a)).setCell ⟨g1, 13, none⟩ (.int .i64 m.1.ln)).setCell ⟨g1, 14, none⟩ (.int .i64 m.1.c)) = Wd at *
        refine wpAnyH_take (i := 16) (oi := { dst := some 11, op := Op.assign (Operand.tmp 40), type := 3, pos := _, after := _, guard := none }) (v := ?_) rfl (by kernel_rfl) (by kernel_rfl) (by kernel_rfl) (fun _ _ _ h => h) (Or.inl ⟨by rfl, ?_⟩) (by assumption) ?_
        rotate_left
        · (intro w hSw; (try dsimp only at hSw); go_simp; try with_reducible rfl)
        try simp only [Act.put, sqa, sqb, sqc]
        refine wpAnyH_ready (rs := [17]) (by kernel_rfl) (by simp) ?_
        refine AllReadyH.cons (o := { dst := none, op := Op.store 53 (Operand.tmp 12) (Operand.tmp 41), type := 0, pos := _, after := _, guard := none }) rfl (fun K hK => ?_) AllReadyH.nil
        obtain ⟨⟨y0, y1, y2, y3, y4⟩, ⟨gy0, gy1, gy2, gy3, gy4⟩, hby⟩ := rc5 R2.out
        go_simp
        have SB : Below N w2 (((((Wd.setCell ⟨g2, 0, none⟩ (.int .i64 (m.2.2.1 : Int))).setCell ⟨g2, 1, none⟩ (.int .i64 m.2.2.2.a)).setCell ⟨g2, 2, none⟩ (.int .i64 m.2.2.2.l)).setCell ⟨g2, 3, none⟩ (.int .i64 m.2.2.2.c)).setCell ⟨g2, 4, none⟩ (.string ⟨#[]⟩)) := set5_b hH.2.1.out HG2.out (.int .i64 (m.2.2.1 : Int)) (.int .i64 m.2.2.2.a) (.int .i64 m.2.2.2.l) (.int .i64 m.2.2.2.c) (.string ⟨#[]⟩)
        have SS := (set5_b (b := g2) (Below.refl 0 Wd) (Nat.zero_le _) (.int .i64 (m.2.2.1 : Int)) (.int .i64 m.2.2.2.a) (.int .i64 m.2.2.2.l) (.int .i64 m.2.2.2.c) (.string ⟨#[]⟩)).size
        refine hK.out _ _ ?_ (fun hH' => ?_)
        · exact ⟨fun b o hb => SB.cell (p := ⟨b, o, none⟩) hb, SB, Nat.le_trans hH.2.2.out SS⟩
        replace R1 := qh ((set5_o (show g1 ≠ g2 from fun e => HNE.out e.symm) (.int .i64 (m.2.2.1 : Int)) (.int .i64 m.2.2.2.a) (.int .i64 m.2.2.2.l) (.int .i64 m.2.2.2.c) (.string ⟨#[]⟩)).trans R1.out)
        replace HX := qh (HX.out.keptP (P' := fun k => lo ≤ k ∧ k < hi) fun k hk => ⟨hk, set5_o (show k ≠ g2 by have := D2.out; have := hk.1; have := hk.2; omega) (.int .i64 (m.2.2.1 : Int)) (.int .i64 m.2.2.2.a) (.int .i64 m.2.2.2.l) (.int .i64 m.2.2.2.c) (.string ⟨#[]⟩)⟩)
        replace R2 := qh (set5 R2.out (.int .i64 (m.2.2.1 : Int)) (.int .i64 m.2.2.2.a) (.int .i64 m.2.2.2.l) (.int .i64 m.2.2.2.c) (.string ⟨#[]⟩))
        replace HHI := qh (Nat.le_trans HHI.out SS)
        clear SB SS y0 y1 y2 y3 y4 gy0 gy1 gy2 gy3 gy4 hby
        clear hK K hH
        have hH := hH'
        clear hH'
        try simp only [Act.put, sqa, sqb, sqc]
        generalize (((((Wd.setCell ⟨g2, 0, none⟩ (.int .i64 (m.2.2.1 : Int))).setCell ⟨g2, 1, none⟩ (.int .i64 m.2.2.2.a)).setCell ⟨g2, 2, none⟩ (.int .i64 m.2.2.2.l)).setCell ⟨g2, 3, none⟩ (.int .i64 m.2.2.2.c)).setCell ⟨g2, 4, none⟩ (.string ⟨#[]⟩)) = We at *
        refine wpAnyH_done (by kernel_rfl) ?_ _
        refine NoPanic.normal ?_
        go_wp2_with fail
        go_meet
        exact ⟨g1, g2, rfl, rfl, rfl, ⟨oV, cV, oK, cK, o, cap, R1.out, R2.out, HX.out.mono fun k hk => ⟨Nat.le_trans HLO.out hk.1, Nat.lt_of_lt_of_le hk.2 HHI.out⟩, hH.2.1.out, HG1.out, HG2.out⟩⟩
      · go_simp
        have HG2 := hH.2.2
        have BB : Below Wc.heap.size Wc (Wc.alloc (.cells #[.int .i64 0, .int .i64 0, .int .i64 0, .int .i64 0, .string ⟨#[]⟩] 53)) := (Below.refl _ _).alloc (Nat.le_refl _) _
        refine hK.out _ _ ?_ (fun hH' => ?_)
        · exact held_next BB hH
        have R2 := qh (heap_alloc_new Wc (.cells #[.int .i64 0, .int .i64 0, .int .i64 0, .int .i64 0, .string ⟨#[]⟩] 53))
        have D2 : Hid (Wc.heap.size < lo ∨ hi ≤ Wc.heap.size) := .inr HHI.out
        replace HX := qh (HX.out.keptP (P' := fun k => lo ≤ k ∧ k < hi) fun k hk => ⟨hk, BB.block k (Nat.lt_of_lt_of_le hk.2 HHI.out)⟩)
        replace HHI : Hid (hi ≤ (Wc.alloc (.cells #[.int .i64 0, .int .i64 0, .int .i64 0, .int .i64 0, .string ⟨#[]⟩] 53)).heap.size) := Nat.le_trans HHI.out BB.size
        clear BB
        clear hK K hH
        have hH := hH'
        clear hH'
        try simp only [Act.put, sqa, sqb, sqc]
        generalize Wc.alloc (.cells #[.int .i64 0, .int .i64 0, .int .i64 0, .int .i64 0, .string ⟨#[]⟩] 53) = Wb at *
        generalize Wc.heap.size = g2 at *
        refine wpAnyH_ready (rs := [13]) (by kernel_rfl) (by simp) ?_
        refine AllReadyH.cons (o := { dst := some 10, op := Op.alloc 38, type := 0, pos := _, after := _, guard := none }) rfl (fun K hK => ?_) AllReadyH.nil
        go_simp
        have HG1 := hH.2.2
        have BB : Below Wb.heap.size Wb (Wb.alloc (.cells #[.int .i64 0, .string ⟨#[]⟩, .string ⟨#[]⟩, .int .i64 0, .int .i64 0, .string ⟨#[]⟩, .slice none 0 0, .slice none 0 0, .int .i64 0, .int .i64 0, .bool false, .slice none 0 0, .int .i64 0, .int .i64 0, .int .i64 0] 38)) := (Below.refl _ _).alloc (Nat.le_refl _) _
        refine hK.out _ _ ?_ (fun hH' => ?_)
        · exact held_next BB hH
        have HNE : Hid (g2 ≠ Wb.heap.size) := Nat.ne_of_lt (Array.getElem?_eq_some_iff.1 R2.out).1
        have R1 := qh (heap_alloc_new Wb (.cells #[.int .i64 0, .string ⟨#[]⟩, .string ⟨#[]⟩, .int .i64 0, .int .i64 0, .string ⟨#[]⟩, .slice none 0 0, .slice none 0 0, .int .i64 0, .int .i64 0, .bool false, .slice none 0 0, .int .i64 0, .int .i64 0, .int .i64 0] 38))
        replace R2 := qh ((heap_alloc_old Wb (.cells #[.int .i64 0, .string ⟨#[]⟩, .string ⟨#[]⟩, .int .i64 0, .int .i64 0, .string ⟨#[]⟩, .slice none 0 0, .slice none 0 0, .int .i64 0, .int .i64 0, .bool false, .slice none 0 0, .int .i64 0, .int .i64 0, .int .i64 0] 38) (Array.getElem?_eq_some_iff.1 R2.out).1).trans R2.out)
        have D1 : Hid (Wb.heap.size < lo ∨ hi ≤ Wb.heap.size) := .inr HHI.out
        replace HX := qh (HX.out.keptP (P' := fun k => lo ≤ k ∧ k < hi) fun k hk => ⟨hk, BB.block k (Nat.lt_of_lt_of_le hk.2 HHI.out)⟩)
        replace HHI : Hid (hi ≤ (Wb.alloc (.cells #[.int .i64 0, .string ⟨#[]⟩, .string ⟨#[]⟩, .int .i64 0, .int .i64 0, .string ⟨#[]⟩, .slice none 0 0, .slice none 0 0, .int .i64 0, .int .i64 0, .bool false, .slice none 0 0, .int .i64 0, .int .i64 0, .int .i64 0] 38)).heap.size) := Nat.le_trans HHI.out BB.size
        clear BB
        clear hK K hH
        have hH := hH'
        clear hH'
        try simp only [Act.put, sqa, sqb, sqc]
        generalize Wb.alloc (.cells #[.int .i64 0, .string ⟨#[]⟩, .string ⟨#[]⟩, .int .i64 0, .int .i64 0, .string ⟨#[]⟩, .slice none 0 0, .slice none 0 0, .int .i64 0, .int .i64 0, .bool false, .slice none 0 0, .int .i64 0, .int .i64 0, .int .i64 0] 38) = Wa at *
        generalize Wb.heap.size = g1 at *
        refine wpAnyH_ready (rs := [15]) (by kernel_rfl) (by simp) ?_
        refine AllReadyH.cons (o := { dst := none, op := Op.store 38 (Operand.tmp 10) (Operand.tmp 39), type := 0, pos := _, after := _, guard := none }) rfl (fun K hK => ?_) AllReadyH.nil
        obtain ⟨⟨x0, x1, x2, x3, x4, x5, x6, x7, x8, x9, x10, x11, x12, x13, x14⟩, gx, hbx⟩ := rc15 R1.out
        have gx0 := gx 0
        have gx1 := gx 1
        have gx2 := gx 2
        have gx3 := gx 3
        have gx4 := gx 4
        have gx5 := gx 5
        have gx6 := gx 6
        have gx7 := gx 7
        have gx8 := gx 8
        have gx9 := gx 9
        have gx10 := gx 10
        have gx11 := gx 11
        have gx12 := gx 12
        have gx13 := gx 13
        have gx14 := gx 14
        clear gx
        go_simp
        have SB : Below N w2 (((((((((((((((Wa.setCell ⟨g1, 0, none⟩ (.int .i64 m.1.op)).setCell ⟨g1, 1, none⟩ (.string m.1.s)).setCell ⟨g1, 2, none⟩ (.string m.1.s2)).setCell ⟨g1, 3, none⟩ (.int .i64 m.1.v.k)).setCell ⟨g1, 4, none⟩ (.int .i64 m.1.v.i)).setCell ⟨g1, 5, none⟩ (.string m.1.v.s)).setCell ⟨g1, 6, none⟩ (.slice oV m.1.v.l.length cV)).setCell ⟨g1, 7, none⟩ (.slice oK m.1.v.ks.length cK)).setCell ⟨g1, 8, none⟩ (.int .i64 m.1.v.tk)).setCell ⟨g1, 9, none⟩ (.int .i64 m.1.v.to)).setCell ⟨g1, 10, none⟩ (.bool m.1.v.x)).setCell ⟨g1, 11, none⟩ (.slice o m.1.l.length cap)).setCell ⟨g1, 12, none⟩ (.int .i64 m.1.a)).setCell ⟨g1, 13, none⟩ (.int .i64 m.1.ln)).setCell ⟨g1, 14, none⟩ (.int .i64 m.1.c)) := set15_b hH.2.1.out HG1.out (.int .i64 m.1.op) (.string m.1.s) (.string m.1.s2) (.int .i64 m.1.v.k) (.int .i64 m.1.v.i) (.string m.1.v.s) (.slice oV m.1.v.l.length cV) (.slice oK m.1.v.ks.length cK) (.int .i64 m.1.v.tk) (.int .i64 m.1.v.to) (.bool m.1.v.x) (.slice o m.1.l.length cap) (.int .i64 m.1.a) (.int .i64 m.1.ln) (.int .i64 m.1.c)
        have SS := (set15_b (b := g1) (Below.refl 0 Wa) (Nat.zero_le _) (.int .i64 m.1.op) (.string m.1.s) (.string m.1.s2) (.int .i64 m.1.v.k) (.int .i64 m.1.v.i) (.string m.1.v.s) (.slice oV m.1.v.l.length cV) (.slice oK m.1.v.ks.length cK) (.int .i64 m.1.v.tk) (.int .i64 m.1.v.to) (.bool m.1.v.x) (.slice o m.1.l.length cap) (.int .i64 m.1.a) (.int .i64 m.1.ln) (.int .i64 m.1.c)).size
        refine hK.out _ _ ?_ (fun hH' => ?_)
        · exact ⟨fun b o hb => SB.cell (p := ⟨b, o, none⟩) hb, SB, Nat.le_trans hH.2.2.out SS⟩
        replace R2 := qh ((set15_o (show g2 ≠ g1 from HNE.out) (.int .i64 m.1.op) (.string m.1.s) (.string m.1.s2) (.int .i64 m.1.v.k) (.int .i64 m.1.v.i) (.string m.1.v.s) (.slice oV m.1.v.l.length cV) (.slice oK m.1.v.ks.length cK) (.int .i64 m.1.v.tk) (.int .i64 m.1.v.to) (.bool m.1.v.x) (.slice o m.1.l.length cap) (.int .i64 m.1.a) (.int .i64 m.1.ln) (.int .i64 m.1.c)).trans R2.out)
        replace HX := qh (HX.out.keptP (P' := fun k => lo ≤ k ∧ k < hi) fun k hk => ⟨hk, set15_o (show k ≠ g1 by have := D1.out; have := hk.1; have := hk.2; omega) (.int .i64 m.1.op) (.string m.1.s) (.string m.1.s2) (.int .i64 m.1.v.k) (.int .i64 m.1.v.i) (.string m.1.v.s) (.slice oV m.1.v.l.length cV) (.slice oK m.1.v.ks.length cK) (.int .i64 m.1.v.tk) (.int .i64 m.1.v.to) (.bool m.1.v.x) (.slice o m.1.l.length cap) (.int .i64 m.1.a) (.int .i64 m.1.ln) (.int .i64 m.1.c)⟩)
        replace R1 := qh (set15 R1.out (.int .i64 m.1.op) (.string m.1.s) (.string m.1.s2) (.int .i64 m.1.v.k) (.int .i64 m.1.v.i) (.string m.1.v.s) (.slice oV m.1.v.l.length cV) (.slice oK m.1.v.ks.length cK) (.int .i64 m.1.v.tk) (.int .i64 m.1.v.to) (.bool m.1.v.x) (.slice o m.1.l.length cap) (.int .i64 m.1.a) (.int .i64 m.1.ln) (.int .i64 m.1.c))
        replace HHI := qh (Nat.le_trans HHI.out SS)
        clear SB SS x0 x1 x2 x3 x4 x5 x6 x7 x8 x9 x10 x11 x12 x13 x14 hbx gx0 gx1 gx2 gx3 gx4 gx5 gx6 gx7 gx8 gx9 gx10 gx11 gx12 gx13 gx14
        clear hK K hH
        have hH := hH'
        clear hH'
        try simp only [Act.put, sqa, sqb, sqc]
        generalize (((((((((((((((Wa.setCell ⟨g1, 0, none⟩ (.int .i64 m.1.op)).setCell ⟨g1, 1, none⟩ (.string m.1.s)).setCell ⟨g1, 2, none⟩ (.string m.1.s2)).setCell ⟨g1, 3, none⟩ (.int .i64 m.1.v.k)).setCell ⟨g1, 4, none⟩ (.int .i64 m.1.v.i)).setCell ⟨g1, 5, none⟩ (.string m.1.v.s)).setCell ⟨g1, 6, none⟩ (.slice oV m.1.v.l.length cV)).setCell ⟨g1, 7, none⟩ (.slice oK m.1.v.ks.length cK)).setCell ⟨g1, 8, none⟩ (.int .i64 m.1.v.tk)).setCell ⟨g1, 9, none⟩ (.int .i64 m.1.v.to)).setCell ⟨g1, 10, none⟩ (.bool m.1.v.x)).setCell ⟨g1, 11, none⟩ (.slice o m.1.l.length cap)).setCell ⟨g1, 12, none⟩ (.int .i64 m.1.a)).setCell ⟨g1, 13, none⟩ (.int .i64 m.1.ln)).setCell ⟨g1, 14, none⟩ (.int .i64 m.1.c)) = Wd at *
        refine wpAnyH_take (i := 16) (oi := { dst := some 11, op := Op.assign (Operand.tmp 40), type := 3, pos := _, after := _, guard := none }) (v := ?_) rfl (by kernel_rfl) (by kernel_rfl) (by kernel_rfl) (fun _ _ _ h => h) (Or.inl ⟨by rfl, ?_⟩) (by assumption) ?_
        rotate_left
        · (intro w hSw; (try dsimp only at hSw); go_simp; try with_reducible rfl)
        try simp only [Act.put, sqa, sqb, sqc]
        refine wpAnyH_ready (rs := [17]) (by kernel_rfl) (by simp) ?_
        refine AllReadyH.cons (o := { dst := none, op := Op.store 53 (Operand.tmp 12) (Operand.tmp 41), type := 0, pos := _, after := _, guard := none }) rfl (fun K hK => ?_) AllReadyH.nil
        obtain ⟨⟨y0, y1, y2, y3, y4⟩, ⟨gy0, gy1, gy2, gy3, gy4⟩, hby⟩ := rc5 R2.out
        go_simp
        have SB : Below N w2 (((((Wd.setCell ⟨g2, 0, none⟩ (.int .i64 (m.2.2.1 : Int))).setCell ⟨g2, 1, none⟩ (.int .i64 m.2.2.2.a)).setCell ⟨g2, 2, none⟩ (.int .i64 m.2.2.2.l)).setCell ⟨g2, 3, none⟩ (.int .i64 m.2.2.2.c)).setCell ⟨g2, 4, none⟩ (.string ⟨#[]⟩)) := set5_b hH.2.1.out HG2.out (.int .i64 (m.2.2.1 : Int)) (.int .i64 m.2.2.2.a) (.int .i64 m.2.2.2.l) (.int .i64 m.2.2.2.c) (.string ⟨#[]⟩)
        have SS := (set5_b (b := g2) (Below.refl 0 Wd) (Nat.zero_le _) (.int .i64 (m.2.2.1 : Int)) (.int .i64 m.2.2.2.a) (.int .i64 m.2.2.2.l) (.int .i64 m.2.2.2.c) (.string ⟨#[]⟩)).size
        refine hK.out _ _ ?_ (fun hH' => ?_)
        · exact ⟨fun b o hb => SB.cell (p := ⟨b, o, none⟩) hb, SB, Nat.le_trans hH.2.2.out SS⟩
        replace R1 := qh ((set5_o (show g1 ≠ g2 from fun e => HNE.out e.symm) (.int .i64 (m.2.2.1 : Int)) (.int .i64 m.2.2.2.a) (.int .i64 m.2.2.2.l) (.int .i64 m.2.2.2.c) (.string ⟨#[]⟩)).trans R1.out)
        replace HX := qh (HX.out.keptP (P' := fun k => lo ≤ k ∧ k < hi) fun k hk => ⟨hk, set5_o (show k ≠ g2 by have := D2.out; have := hk.1; have := hk.2; omega) (.int .i64 (m.2.2.1 : Int)) (.int .i64 m.2.2.2.a) (.int .i64 m.2.2.2.l) (.int .i64 m.2.2.2.c) (.string ⟨#[]⟩)⟩)
        replace R2 := qh (set5 R2.out (.int .i64 (m.2.2.1 : Int)) (.int .i64 m.2.2.2.a) (.int .i64 m.2.2.2.l) (.int .i64 m.2.2.2.c) (.string ⟨#[]⟩))
        replace HHI := qh (Nat.le_trans HHI.out SS)
        clear SB SS y0 y1 y2 y3 y4 gy0 gy1 gy2 gy3 gy4 hby
        clear hK K hH
        have hH := hH'
        clear hH'
        try simp only [Act.put, sqa, sqb, sqc]
        generalize (((((Wd.setCell ⟨g2, 0, none⟩ (.int .i64 (m.2.2.1 : Int))).setCell ⟨g2, 1, none⟩ (.int .i64 m.2.2.2.a)).setCell ⟨g2, 2, none⟩ (.int .i64 m.2.2.2.l)).setCell ⟨g2, 3, none⟩ (.int .i64 m.2.2.2.c)).setCell ⟨g2, 4, none⟩ (.string ⟨#[]⟩)) = We at *
        refine wpAnyH_done (by kernel_rfl) ?_ _
        refine NoPanic.normal ?_
        go_wp2_with fail
        go_meet
        exact ⟨g1, g2, rfl, rfl, rfl, ⟨oV, cV, oK, cK, o, cap, R1.out, R2.out, HX.out.mono fun k hk => ⟨Nat.le_trans HLO.out hk.1, Nat.lt_of_lt_of_le hk.2 HHI.out⟩, hH.2.1.out, HG1.out, HG2.out⟩⟩
    · go_simp
      have HG1 := hH.2.2
      have BB : Below Ws.heap.size Ws (Ws.alloc (.cells #[.int .i64 0, .string ⟨#[]⟩, .string ⟨#[]⟩, .int .i64 0, .int .i64 0, .string ⟨#[]⟩, .slice none 0 0, .slice none 0 0, .int .i64 0, .int .i64 0, .bool false, .slice none 0 0, .int .i64 0, .int .i64 0, .int .i64 0] 38)) := (Below.refl _ _).alloc (Nat.le_refl _) _
      refine hK.out _ _ ?_ (fun hH' => ?_)
      · exact held_next BB hH
      have R1 := qh (heap_alloc_new Ws (.cells #[.int .i64 0, .string ⟨#[]⟩, .string ⟨#[]⟩, .int .i64 0, .int .i64 0, .string ⟨#[]⟩, .slice none 0 0, .slice none 0 0, .int .i64 0, .int .i64 0, .bool false, .slice none 0 0, .int .i64 0, .int .i64 0, .int .i64 0] 38))
      clear BB
      clear hK K hH
      have hH := hH'
      clear hH'
      try simp only [Act.put, sqa, sqb, sqc]
      generalize Ws.alloc (.cells #[.int .i64 0, .string ⟨#[]⟩, .string ⟨#[]⟩, .int .i64 0, .int .i64 0, .string ⟨#[]⟩, .slice none 0 0, .slice none 0 0, .int .i64 0, .int .i64 0, .bool false, .slice none 0 0, .int .i64 0, .int .i64 0, .int .i64 0] 38) = Wa at *
      generalize Ws.heap.size = g1 at *
      refine wpAnyH_ready (rs := [8, 14]) (by kernel_rfl) (by simp) ?_
      refine (AllReadyH.cons (o := { dst := some 38, op := Op.call { callee := Callee.value (Operand.func 157), args := #[Operand.tmp 33, Operand.tmp 37], argTypes := #[79, 3] }, type := 198, pos := _, after := _, guard := none }) rfl (fun K hK => ?_) (AllReadyH.cons (o := { dst := some 12, op := Op.alloc 53, type := 0, pos := _, after := _, guard := none }) rfl (fun K hK => ?_) AllReadyH.nil))
      · go_simp
        refine (CC.out _ hH.2.1.out).mono ?_
        rintro e0 Wc ⟨oV, cV, oK, cK, o, cap, rfl, hx, hb⟩
        refine hK.out _ _ ?_ (fun hH' => ?_)
        · exact held_next hb hH
        have D1 : Hid (g1 < Wa.heap.size ∨ Wc.heap.size ≤ g1) := .inl (Array.getElem?_eq_some_iff.1 R1.out).1
        replace R1 := qh ((hb.block _ (Array.getElem?_eq_some_iff.1 R1.out).1).trans R1.out)
        have HX : Hid (XP (fun k => Wa.heap.size ≤ k ∧ k < Wc.heap.size) Wc m.1 (.agg (xc m.1 oV cV oK cK o cap))) := hx
        have HHI : Hid (Wc.heap.size ≤ Wc.heap.size) := Nat.le_refl _
        have HLO := hH.2.2
        clear hx hb
        clear hK K hH
        have hH := hH'
        clear hH'
        try simp only [Act.put, sqa, sqb, sqc]
        obtain ⟨lo, hlo⟩ : ∃ b, Wa.heap.size = b := ⟨_, rfl⟩
        rw [hlo] at HX HLO
        rw [hlo] at D1
        obtain ⟨hi, hhi⟩ : ∃ b, Wc.heap.size = b := ⟨_, rfl⟩
        replace HHI : Hid (hi ≤ Wc.heap.size) := Nat.le_of_eq hhi.symm
        rw [hhi] at HX
        rw [hhi] at D1
        clear hlo hhi
        refine wpAnyH_take (i := 9) (oi := { dst := some 29, op := Op.move (Operand.tmp 38), type := 198, pos := _, after := _, guard := none }) (v := ?_) rfl (by kernel_rfl) (by kernel_rfl) (by kernel_rfl) (fun _ _ _ h => h) (Or.inl ⟨by rfl, ?_⟩) (by assumption) ?_
        rotate_left
        · (intro w hSw; (try dsimp only at hSw); go_simp; try with_reducible rfl)
        try simp only [Act.put, sqa, sqb, sqc]
        refine wpAnyH_take (i := 10) (oi := { dst := some 39, op := Op.extract (Operand.tmp 29) 0, type := 38, pos := _, after := _, guard := none }) (v := ?_) rfl (by kernel_rfl) (by kernel_rfl) (by kernel_rfl) (fun _ _ _ h => h) (Or.inl ⟨by rfl, ?_⟩) (by assumption) ?_
        rotate_left
        · (intro w hSw; (try dsimp only at hSw); go_simp; try with_reducible rfl)
        try simp only [Act.put, sqa, sqb, sqc]
        refine wpAnyH_take (i := 11) (oi := { dst := some 40, op := Op.extract (Operand.tmp 29) 1, type := 3, pos := _, after := _, guard := none }) (v := ?_) rfl (by kernel_rfl) (by kernel_rfl) (by kernel_rfl) (fun _ _ _ h => h) (Or.inl ⟨by rfl, ?_⟩) (by assumption) ?_
        rotate_left
        · (intro w hSw; (try dsimp only at hSw); go_simp; try with_reducible rfl)
        try simp only [Act.put, sqa, sqb, sqc]
        refine wpAnyH_take (i := 12) (oi := { dst := some 41, op := Op.extract (Operand.tmp 29) 2, type := 53, pos := _, after := _, guard := none }) (v := ?_) rfl (by kernel_rfl) (by kernel_rfl) (by kernel_rfl) (fun _ _ _ h => h) (Or.inl ⟨by rfl, ?_⟩) (by assumption) ?_
        rotate_left
        · (intro w hSw; (try dsimp only at hSw); go_simp; try with_reducible rfl)
        try simp only [Act.put, sqa, sqb, sqc]
        refine wpAnyH_ready (rs := [14]) (by kernel_rfl) (by simp) ?_
        refine AllReadyH.cons (o := { dst := some 12, op := Op.alloc 53, type := 0, pos := _, after := _, guard := none }) rfl (fun K hK => ?_) AllReadyH.nil
        go_simp
        have HG2 := hH.2.2
        have BB : Below Wc.heap.size Wc (Wc.alloc (.cells #[.int .i64 0, .int .i64 0, .int .i64 0, .int .i64 0, .string ⟨#[]⟩] 53)) := (Below.refl _ _).alloc (Nat.le_refl _) _
        refine hK.out _ _ ?_ (fun hH' => ?_)
        · exact held_next BB hH
        have HNE : Hid (Wc.heap.size ≠ g1) := Nat.ne_of_gt (Array.getElem?_eq_some_iff.1 R1.out).1
        have R2 := qh (heap_alloc_new Wc (.cells #[.int .i64 0, .int .i64 0, .int .i64 0, .int .i64 0, .string ⟨#[]⟩] 53))
        replace R1 := qh ((heap_alloc_old Wc (.cells #[.int .i64 0, .int .i64 0, .int .i64 0, .int .i64 0, .string ⟨#[]⟩] 53) (Array.getElem?_eq_some_iff.1 R1.out).1).trans R1.out)
        have D2 : Hid (Wc.heap.size < lo ∨ hi ≤ Wc.heap.size) := .inr HHI.out
        replace HX := qh (HX.out.keptP (P' := fun k => lo ≤ k ∧ k < hi) fun k hk => ⟨hk, BB.block k (Nat.lt_of_lt_of_le hk.2 HHI.out)⟩)
        replace HHI : Hid (hi ≤ (Wc.alloc (.cells #[.int .i64 0, .int .i64 0, .int .i64 0, .int .i64 0, .string ⟨#[]⟩] 53)).heap.size) := Nat.le_trans HHI.out BB.size
        clear BB
        clear hK K hH
        have hH := hH'
        clear hH'
        try simp only [Act.put, sqa, sqb, sqc]
        generalize Wc.alloc (.cells #[.int .i64 0, .int .i64 0, .int .i64 0, .int .i64 0, .string ⟨#[]⟩] 53) = Wb at *
        generalize Wc.heap.size = g2 at *
        refine wpAnyH_ready (rs := [15]) (by kernel_rfl) (by simp) ?_
        refine AllReadyH.cons (o := { dst := none, op := Op.store 38 (Operand.tmp 10) (Operand.tmp 39), type := 0, pos := _, after := _, guard := none }) rfl (fun K hK => ?_) AllReadyH.nil
        obtain ⟨⟨x0, x1, x2, x3, x4, x5, x6, x7, x8, x9, x10, x11, x12, x13, x14⟩, gx, hbx⟩ := rc15 R1.out
        have gx0 := gx 0
        have gx1 := gx 1
        have gx2 := gx 2
        have gx3 := gx 3
        have gx4 := gx 4
        have gx5 := gx 5
        have gx6 := gx 6
        have gx7 := gx 7
        have gx8 := gx 8
        have gx9 := gx 9
        have gx10 := gx 10
        have gx11 := gx 11
        have gx12 := gx 12
        have gx13 := gx 13
        have gx14 := gx 14
        clear gx
        go_simp
        have SB : Below N w2 (((((((((((((((Wb.setCell ⟨g1, 0, none⟩ (.int .i64 m.1.op)).setCell ⟨g1, 1, none⟩ (.string m.1.s)).setCell ⟨g1, 2, none⟩ (.string m.1.s2)).setCell ⟨g1, 3, none⟩ (.int .i64 m.1.v.k)).setCell ⟨g1, 4, none⟩ (.int .i64 m.1.v.i)).setCell ⟨g1, 5, none⟩ (.string m.1.v.s)).setCell ⟨g1, 6, none⟩ (.slice oV m.1.v.l.length cV)).setCell ⟨g1, 7, none⟩ (.slice oK m.1.v.ks.length cK)).setCell ⟨g1, 8, none⟩ (.int .i64 m.1.v.tk)).setCell ⟨g1, 9, none⟩ (.int .i64 m.1.v.to)).setCell ⟨g1, 10, none⟩ (.bool m.1.v.x)).setCell ⟨g1, 11, none⟩ (.slice o m.1.l.length cap)).setCell ⟨g1, 12, none⟩ (.int .i64 m.1.a)).setCell ⟨g1, 13, none⟩ (.int .i64 m.1.ln)).setCell ⟨g1, 14, none⟩ (.int .i64 m.1.c)) := set15_b hH.2.1.out HG1.out (.int .i64 m.1.op) (.string m.1.s) (.string m.1.s2) (.int .i64 m.1.v.k) (.int .i64 m.1.v.i) (.string m.1.v.s) (.slice oV m.1.v.l.length cV) (.slice oK m.1.v.ks.length cK) (.int .i64 m.1.v.tk) (.int .i64 m.1.v.to) (.bool m.1.v.x) (.slice o m.1.l.length cap) (.int .i64 m.1.a) (.int .i64 m.1.ln) (.int .i64 m.1.c)
        have SS := (set15_b (b := g1) (Below.refl 0 Wb) (Nat.zero_le _) (.int .i64 m.1.op) (.string m.1.s) (.string m.1.s2) (.int .i64 m.1.v.k) (.int .i64 m.1.v.i) (.string m.1.v.s) (.slice oV m.1.v.l.length cV) (.slice oK m.1.v.ks.length cK) (.int .i64 m.1.v.tk) (.int .i64 m.1.v.to) (.bool m.1.v.x) (.slice o m.1.l.length cap) (.int .i64 m.1.a) (.int .i64 m.1.ln) (.int .i64 m.1.c)).size
        refine hK.out _ _ ?_ (fun hH' => ?_)
        · exact ⟨fun b o hb => SB.cell (p := ⟨b, o, none⟩) hb, SB, Nat.le_trans hH.2.2.out SS⟩
        replace R2 := qh ((set15_o (show g2 ≠ g1 from HNE.out) (.int .i64 m.1.op) (.string m.1.s) (.string m.1.s2) (.int .i64 m.1.v.k) (.int .i64 m.1.v.i) (.string m.1.v.s) (.slice oV m.1.v.l.length cV) (.slice oK m.1.v.ks.length cK) (.int .i64 m.1.v.tk) (.int .i64 m.1.v.to) (.bool m.1.v.x) (.slice o m.1.l.length cap) (.int .i64 m.1.a) (.int .i64 m.1.ln) (.int .i64 m.1.c)).trans R2.out)
        replace HX := qh (HX.out.keptP (P' := fun k => lo ≤ k ∧ k < hi) fun k hk => ⟨hk, set15_o (show k ≠ g1 by have := D1.out; have := hk.1; have := hk.2; omega) (.int .i64 m.1.op) (.string m.1.s) (.string m.1.s2) (.int .i64 m.1.v.k) (.int .i64 m.1.v.i) (.string m.1.v.s) (.slice oV m.1.v.l.length cV) (.slice oK m.1.v.ks.length cK) (.int .i64 m.1.v.tk) (.int .i64 m.1.v.to) (.bool m.1.v.x) (.slice o m.1.l.length cap) (.int .i64 m.1.a) (.int .i64 m.1.ln) (.int .i64 m.1.c)⟩)
        replace R1 := qh (set15 R1.out (.int .i64 m.1.op) (.string m.1.s) (.string m.1.s2) (.int .i64 m.1.v.k) (.int .i64 m.1.v.i) (.string m.1.v.s) (.slice oV m.1.v.l.length cV) (.slice oK m.1.v.ks.length cK) (.int .i64 m.1.v.tk) (.int .i64 m.1.v.to) (.bool m.1.v.x) (.slice o m.1.l.length cap) (.int .i64 m.1.a) (.int .i64 m.1.ln) (.int .i64 m.1.c))
        replace HHI := qh (Nat.le_trans HHI.out SS)
        clear SB SS x0 x1 x2 x3 x4 x5 x6 x7 x8 x9 x10 x11 x12 x13 x14 hbx gx0 gx1 gx2 gx3 gx4 gx5 gx6 gx7 gx8 gx9 gx10 gx11 gx12 gx13 gx14
        clear hK K hH
        have hH := hH'
        clear hH'
        try simp only [Act.put, sqa, sqb, sqc]
        generalize (((((((((((((((Wb.setCell ⟨g1, 0, none⟩ (.int .i64 m.1.op)).setCell ⟨g1, 1, none⟩ (.string m.1.s)).setCell ⟨g1, 2, none⟩ (.string m.1.s2)).setCell ⟨g1, 3, none⟩ (.int .i64 m.1.v.k)).setCell ⟨g1, 4, none⟩ (.int .i64 m.1.v.i)).setCell ⟨g1, 5, none⟩ (.string m.1.v.s)).setCell ⟨g1, 6, none⟩ (.slice oV m.1.v.l.length cV)).setCell ⟨g1, 7, none⟩ (.slice oK m.1.v.ks.length cK)).setCell ⟨g1, 8, none⟩ (.int .i64 m.1.v.tk)).setCell ⟨g1, 9, none⟩ (.int .i64 m.1.v.to)).setCell ⟨g1, 10, none⟩ (.bool m.1.v.x)).setCell ⟨g1, 11, none⟩ (.slice o m.1.l.length cap)).setCell ⟨g1, 12, none⟩ (.int .i64 m.1.a)).setCell ⟨g1, 13, none⟩ (.int .i64 m.1.ln)).setCell ⟨g1, 14, none⟩ (.int .i64 m.1.c)) = Wd at *
        refine wpAnyH_take (i := 16) (oi := { dst := some 11, op := Op.assign (Operand.tmp 40), type := 3, pos := _, after := _, guard := none }) (v := ?_) rfl (by kernel_rfl) (by kernel_rfl) (by kernel_rfl) (fun _ _ _ h => h) (Or.inl ⟨by rfl, ?_⟩) (by assumption) ?_
        rotate_left
        · (intro w hSw; (try dsimp only at hSw); go_simp; try with_reducible rfl)
        try simp only [Act.put, sqa, sqb, sqc]
        refine wpAnyH_ready (rs := [17]) (by kernel_rfl) (by simp) ?_
        refine AllReadyH.cons (o := { dst := none, op := Op.store 53 (Operand.tmp 12) (Operand.tmp 41), type := 0, pos := _, after := _, guard := none }) rfl (fun K hK => ?_) AllReadyH.nil
        obtain ⟨⟨y0, y1, y2, y3, y4⟩, ⟨gy0, gy1, gy2, gy3, gy4⟩, hby⟩ := rc5 R2.out
        go_simp
        have SB : Below N w2 (((((Wd.setCell ⟨g2, 0, none⟩ (.int .i64 (m.2.2.1 : Int))).setCell ⟨g2, 1, none⟩ (.int .i64 m.2.2.2.a)).setCell ⟨g2, 2, none⟩ (.int .i64 m.2.2.2.l)).setCell ⟨g2, 3, none⟩ (.int .i64 m.2.2.2.c)).setCell ⟨g2, 4, none⟩ (.string ⟨#[]⟩)) := set5_b hH.2.1.out HG2.out (.int .i64 (m.2.2.1 : Int)) (.int .i64 m.2.2.2.a) (.int .i64 m.2.2.2.l) (.int .i64 m.2.2.2.c) (.string ⟨#[]⟩)
        have SS := (set5_b (b := g2) (Below.refl 0 Wd) (Nat.zero_le _) (.int .i64 (m.2.2.1 : Int)) (.int .i64 m.2.2.2.a) (.int .i64 m.2.2.2.l) (.int .i64 m.2.2.2.c) (.string ⟨#[]⟩)).size
        refine hK.out _ _ ?_ (fun hH' => ?_)
        · exact ⟨fun b o hb => SB.cell (p := ⟨b, o, none⟩) hb, SB, Nat.le_trans hH.2.2.out SS⟩
        replace R1 := qh ((set5_o (show g1 ≠ g2 from fun e => HNE.out e.symm) (.int .i64 (m.2.2.1 : Int)) (.int .i64 m.2.2.2.a) (.int .i64 m.2.2.2.l) (.int .i64 m.2.2.2.c) (.string ⟨#[]⟩)).trans R1.out)
        replace HX := qh (HX.out.keptP (P' := fun k => lo ≤ k ∧ k < hi) fun k hk => ⟨hk, set5_o (show k ≠ g2 by have := D2.out; have := hk.1; have := hk.2; omega) (.int .i64 (m.2.2.1 : Int)) (.int .i64 m.2.2.2.a) (.int .i64 m.2.2.2.l) (.int .i64 m.2.2.2.c) (.string ⟨#[]⟩)⟩)
        replace R2 := qh (set5 R2.out (.int .i64 (m.2.2.1 : Int)) (.int .i64 m.2.2.2.a) (.int .i64 m.2.2.2.l) (.int .i64 m.2.2.2.c) (.string ⟨#[]⟩))
        replace HHI := qh (Nat.le_trans HHI.out SS)
        clear SB SS y0 y1 y2 y3 y4 gy0 gy1 gy2 gy3 gy4 hby
        clear hK K hH
        have hH := hH'
        clear hH'
        try simp only [Act.put, sqa, sqb, sqc]
        generalize (((((Wd.setCell ⟨g2, 0, none⟩ (.int .i64 (m.2.2.1 : Int))).setCell ⟨g2, 1, none⟩ (.int .i64 m.2.2.2.a)).setCell ⟨g2, 2, none⟩ (.int .i64 m.2.2.2.l)).setCell ⟨g2, 3, none⟩ (.int .i64 m.2.2.2.c)).setCell ⟨g2, 4, none⟩ (.string ⟨#[]⟩)) = We at *
        refine wpAnyH_done (by kernel_rfl) ?_ _
        refine NoPanic.normal ?_
        go_wp2_with fail
        go_meet
        exact ⟨g1, g2, rfl, rfl, rfl, ⟨oV, cV, oK, cK, o, cap, R1.out, R2.out, HX.out.mono fun k hk => ⟨Nat.le_trans HLO.out hk.1, Nat.lt_of_lt_of_le hk.2 HHI.out⟩, hH.2.1.out, HG1.out, HG2.out⟩⟩
      · go_simp
        have HG2 := hH.2.2
        have BB : Below Wa.heap.size Wa (Wa.alloc (.cells #[.int .i64 0, .int .i64 0, .int .i64 0, .int .i64 0, .string ⟨#[]⟩] 53)) := (Below.refl _ _).alloc (Nat.le_refl _) _
        refine hK.out _ _ ?_ (fun hH' => ?_)
        · exact held_next BB hH
        have HNE : Hid (Wa.heap.size ≠ g1) := Nat.ne_of_gt (Array.getElem?_eq_some_iff.1 R1.out).1
        have R2 := qh (heap_alloc_new Wa (.cells #[.int .i64 0, .int .i64 0, .int .i64 0, .int .i64 0, .string ⟨#[]⟩] 53))
        replace R1 := qh ((heap_alloc_old Wa (.cells #[.int .i64 0, .int .i64 0, .int .i64 0, .int .i64 0, .string ⟨#[]⟩] 53) (Array.getElem?_eq_some_iff.1 R1.out).1).trans R1.out)
        clear BB
        clear hK K hH
        have hH := hH'
        clear hH'
        try simp only [Act.put, sqa, sqb, sqc]
        generalize Wa.alloc (.cells #[.int .i64 0, .int .i64 0, .int .i64 0, .int .i64 0, .string ⟨#[]⟩] 53) = Wb at *
        generalize Wa.heap.size = g2 at *
        refine wpAnyH_ready (rs := [8]) (by kernel_rfl) (by simp) ?_
        refine AllReadyH.cons (o := { dst := some 38, op := Op.call { callee := Callee.value (Operand.func 157), args := #[Operand.tmp 33, Operand.tmp 37], argTypes := #[79, 3] }, type := 198, pos := _, after := _, guard := none }) rfl (fun K hK => ?_) AllReadyH.nil
        go_simp
        refine (CC.out _ hH.2.1.out).mono ?_
        rintro e0 Wc ⟨oV, cV, oK, cK, o, cap, rfl, hx, hb⟩
        refine hK.out _ _ ?_ (fun hH' => ?_)
        · exact held_next hb hH
        have D1 : Hid (g1 < Wb.heap.size ∨ Wc.heap.size ≤ g1) := .inl (Array.getElem?_eq_some_iff.1 R1.out).1
        replace R1 := qh ((hb.block _ (Array.getElem?_eq_some_iff.1 R1.out).1).trans R1.out)
        have D2 : Hid (g2 < Wb.heap.size ∨ Wc.heap.size ≤ g2) := .inl (Array.getElem?_eq_some_iff.1 R2.out).1
        replace R2 := qh ((hb.block _ (Array.getElem?_eq_some_iff.1 R2.out).1).trans R2.out)
        have HX : Hid (XP (fun k => Wb.heap.size ≤ k ∧ k < Wc.heap.size) Wc m.1 (.agg (xc m.1 oV cV oK cK o cap))) := hx
        have HHI : Hid (Wc.heap.size ≤ Wc.heap.size) := Nat.le_refl _
        have HLO := hH.2.2
        clear hx hb
        clear hK K hH
        have hH := hH'
        clear hH'
        try simp only [Act.put, sqa, sqb, sqc]
        obtain ⟨lo, hlo⟩ : ∃ b, Wb.heap.size = b := ⟨_, rfl⟩
        rw [hlo] at HX HLO
        rw [hlo] at D1
        rw [hlo] at D2
        obtain ⟨hi, hhi⟩ : ∃ b, Wc.heap.size = b := ⟨_, rfl⟩
        replace HHI : Hid (hi ≤ Wc.heap.size) := Nat.le_of_eq hhi.symm
        rw [hhi] at HX
        rw [hhi] at D1
        rw [hhi] at D2
        clear hlo hhi
        refine wpAnyH_take (i := 9) (oi := { dst := some 29, op := Op.move (Operand.tmp 38), type := 198, pos := _, after := _, guard := none }) (v := ?_) rfl (by kernel_rfl) (by kernel_rfl) (by kernel_rfl) (fun _ _ _ h => h) (Or.inl ⟨by rfl, ?_⟩) (by assumption) ?_
        rotate_left
        · (intro w hSw; (try dsimp only at hSw); go_simp; try with_reducible rfl)
        try simp only [Act.put, sqa, sqb, sqc]
        refine wpAnyH_take (i := 10) (oi := { dst := some 39, op := Op.extract (Operand.tmp 29) 0, type := 38, pos := _, after := _, guard := none }) (v := ?_) rfl (by kernel_rfl) (by kernel_rfl) (by kernel_rfl) (fun _ _ _ h => h) (Or.inl ⟨by rfl, ?_⟩) (by assumption) ?_
        rotate_left
        · (intro w hSw; (try dsimp only at hSw); go_simp; try with_reducible rfl)
        try simp only [Act.put, sqa, sqb, sqc]
        refine wpAnyH_take (i := 11) (oi := { dst := some 40, op := Op.extract (Operand.tmp 29) 1, type := 3, pos := _, after := _, guard := none }) (v := ?_) rfl (by kernel_rfl) (by kernel_rfl) (by kernel_rfl) (fun _ _ _ h => h) (Or.inl ⟨by rfl, ?_⟩) (by assumption) ?_
        rotate_left
        · (intro w hSw; (try dsimp only at hSw); go_simp; try with_reducible rfl)
        try simp only [Act.put, sqa, sqb, sqc]
        refine wpAnyH_take (i := 12) (oi := { dst := some 41, op := Op.extract (Operand.tmp 29) 2, type := 53, pos := _, after := _, guard := none }) (v := ?_) rfl (by kernel_rfl) (by kernel_rfl) (by kernel_rfl) (fun _ _ _ h => h) (Or.inl ⟨by rfl, ?_⟩) (by assumption) ?_
        rotate_left
        · (intro w hSw; (try dsimp only at hSw); go_simp; try with_reducible rfl)
        try simp only [Act.put, sqa, sqb, sqc]
        refine wpAnyH_ready (rs := [15]) (by kernel_rfl) (by simp) ?_
        refine AllReadyH.cons (o := { dst := none, op := Op.store 38 (Operand.tmp 10) (Operand.tmp 39), type := 0, pos := _, after := _, guard := none }) rfl (fun K hK => ?_) AllReadyH.nil
        obtain ⟨⟨x0, x1, x2, x3, x4, x5, x6, x7, x8, x9, x10, x11, x12, x13, x14⟩, gx, hbx⟩ := rc15 R1.out
        have gx0 := gx 0
        have gx1 := gx 1
        have gx2 := gx 2
        have gx3 := gx 3
        have gx4 := gx 4
        have gx5 := gx 5
        have gx6 := gx 6
        have gx7 := gx 7
        have gx8 := gx 8
        have gx9 := gx 9
        have gx10 := gx 10
        have gx11 := gx 11
        have gx12 := gx 12
        have gx13 := gx 13
        have gx14 := gx 14
        clear gx
        go_simp
        have SB : Below N w2 (((((((((((((((Wc.setCell ⟨g1, 0, none⟩ (.int .i64 m.1.op)).setCell ⟨g1, 1, none⟩ (.string m.1.s)).setCell ⟨g1, 2, none⟩ (.string m.1.s2)).setCell ⟨g1, 3, none⟩ (.int .i64 m.1.v.k)).setCell ⟨g1, 4, none⟩ (.int .i64 m.1.v.i)).setCell ⟨g1, 5, none⟩ (.string m.1.v.s)).setCell ⟨g1, 6, none⟩ (.slice oV m.1.v.l.length cV)).setCell ⟨g1, 7, none⟩ (.slice oK m.1.v.ks.length cK)).setCell ⟨g1, 8, none⟩ (.int .i64 m.1.v.tk)).setCell ⟨g1, 9, none⟩ (.int .i64 m.1.v.to)).setCell ⟨g1, 10, none⟩ (.bool m.1.v.x)).setCell ⟨g1, 11, none⟩ (.slice o m.1.l.length cap)).setCell ⟨g1, 12, none⟩ (.int .i64 m.1.a)).setCell ⟨g1, 13, none⟩ (.int .i64 m.1.ln)).setCell ⟨g1, 14, none⟩ (.int .i64 m.1.c)) := set15_b hH.2.1.out HG1.out (.int .i64 m.1.op) (.string m.1.s) (.string m.1.s2) (.int .i64 m.1.v.k) (.int .i64 m.1.v.i) (.string m.1.v.s) (.slice oV m.1.v.l.length cV) (.slice oK m.1.v.ks.length cK) (.int .i64 m.1.v.tk) (.int .i64 m.1.v.to) (.bool m.1.v.x) (.slice o m.1.l.length cap) (.int .i64 m.1.a) (.int .i64 m.1.ln) (.int .i64 m.1.c)
        have SS := (set15_b (b := g1) (Below.refl 0 Wc) (Nat.zero_le _) (.int .i64 m.1.op) (.string m.1.s) (.string m.1.s2) (.int .i64 m.1.v.k) (.int .i64 m.1.v.i) (.string m.1.v.s) (.slice oV m.1.v.l.length cV) (.slice oK m.1.v.ks.length cK) (.int .i64 m.1.v.tk) (.int .i64 m.1.v.to) (.bool m.1.v.x) (.slice o m.1.l.length cap) (.int .i64 m.1.a) (.int .i64 m.1.ln) (.int .i64 m.1.c)).size
        refine hK.out _ _ ?_ (fun hH' => ?_)
        · exact ⟨fun b o hb => SB.cell (p := ⟨b, o, none⟩) hb, SB, Nat.le_trans hH.2.2.out SS⟩
        replace R2 := qh ((set15_o (show g2 ≠ g1 from HNE.out) (.int .i64 m.1.op) (.string m.1.s) (.string m.1.s2) (.int .i64 m.1.v.k) (.int .i64 m.1.v.i) (.string m.1.v.s) (.slice oV m.1.v.l.length cV) (.slice oK m.1.v.ks.length cK) (.int .i64 m.1.v.tk) (.int .i64 m.1.v.to) (.bool m.1.v.x) (.slice o m.1.l.length cap) (.int .i64 m.1.a) (.int .i64 m.1.ln) (.int .i64 m.1.c)).trans R2.out)
        replace HX := qh (HX.out.keptP (P' := fun k => lo ≤ k ∧ k < hi) fun k hk => ⟨hk, set15_o (show k ≠ g1 by have := D1.out; have := hk.1; have := hk.2; omega) (.int .i64 m.1.op) (.string m.1.s) (.string m.1.s2) (.int .i64 m.1.v.k) (.int .i64 m.1.v.i) (.string m.1.v.s) (.slice oV m.1.v.l.length cV) (.slice oK m.1.v.ks.length cK) (.int .i64 m.1.v.tk) (.int .i64 m.1.v.to) (.bool m.1.v.x) (.slice o m.1.l.length cap) (.int .i64 m.1.a) (.int .i64 m.1.ln) (.int .i64 m.1.c)⟩)
        replace R1 := qh (set15 R1.out (.int .i64 m.1.op) (.string m.1.s) (.string m.1.s2) (.int .i64 m.1.v.k) (.int .i64 m.1.v.i) (.string m.1.v.s) (.slice oV m.1.v.l.length cV) (.slice oK m.1.v.ks.length cK) (.int .i64 m.1.v.tk) (.int .i64 m.1.v.to) (.bool m.1.v.x) (.slice o m.1.l.length cap) (.int .i64 m.1.a) (.int .i64 m.1.ln) (.int .i64 m.1.c))
        replace HHI := qh (Nat.le_trans HHI.out SS)
        clear SB SS x0 x1 x2 x3 x4 x5 x6 x7 x8 x9 x10 x11 x12 x13 x14 hbx gx0 gx1 gx2 gx3 gx4 gx5 gx6 gx7 gx8 gx9 gx10 gx11 gx12 gx13 gx14
        clear hK K hH
        have hH := hH'
        clear hH'
        try simp only [Act.put, sqa, sqb, sqc]
        generalize (((((((((((((((Wc.setCell ⟨g1, 0, none⟩ (.int .i64 m.1.op)).setCell ⟨g1, 1, none⟩ (.string m.1.s)).setCell ⟨g1, 2, none⟩ (.string m.1.s2)).setCell ⟨g1, 3, none⟩ (.int .i64 m.1.v.k)).setCell ⟨g1, 4, none⟩ (.int .i64 m.1.v.i)).setCell ⟨g1, 5, none⟩ (.string m.1.v.s)).setCell ⟨g1, 6, none⟩ (.slice oV m.1.v.l.length cV)).setCell ⟨g1, 7, none⟩ (.slice oK m.1.v.ks.length cK)).setCell ⟨g1, 8, none⟩ (.int .i64 m.1.v.tk)).setCell ⟨g1, 9, none⟩ (.int .i64 m.1.v.to)).setCell ⟨g1, 10, none⟩ (.bool m.1.v.x)).setCell ⟨g1, 11, none⟩ (.slice o m.1.l.length cap)).setCell ⟨g1, 12, none⟩ (.int .i64 m.1.a)).setCell ⟨g1, 13, none⟩ (.int .i64 m.1.ln)).setCell ⟨g1, 14, none⟩ (.int .i64 m.1.c)) = Wd at *
        refine wpAnyH_take (i := 16) (oi := { dst := some 11, op := Op.assign (Operand.tmp 40), type := 3, pos := _, after := _, guard := none }) (v := ?_) rfl (by kernel_rfl) (by kernel_rfl) (by kernel_rfl) (fun _ _ _ h => h) (Or.inl ⟨by rfl, ?_⟩) (by assumption) ?_
        rotate_left
        · (intro w hSw; (try dsimp only at hSw); go_simp; try with_reducible rfl)
        try simp only [Act.put, sqa, sqb, sqc]
        refine wpAnyH_ready (rs := [17]) (by kernel_rfl) (by simp) ?_
        refine AllReadyH.cons (o := { dst := none, op := Op.store 53 (Operand.tmp 12) (Operand.tmp 41), type := 0, pos := _, after := _, guard := none }) rfl (fun K hK => ?_) AllReadyH.nil
        obtain ⟨⟨y0, y1, y2, y3, y4⟩, ⟨gy0, gy1, gy2, gy3, gy4⟩, hby⟩ := rc5 R2.out
        go_simp
        have SB : Below N w2 (((((Wd.setCell ⟨g2, 0, none⟩ (.int .i64 (m.2.2.1 : Int))).setCell ⟨g2, 1, none⟩ (.int .i64 m.2.2.2.a)).setCell ⟨g2, 2, none⟩ (.int .i64 m.2.2.2.l)).setCell ⟨g2, 3, none⟩ (.int .i64 m.2.2.2.c)).setCell ⟨g2, 4, none⟩ (.string ⟨#[]⟩)) := set5_b hH.2.1.out HG2.out (.int .i64 (m.2.2.1 : Int)) (.int .i64 m.2.2.2.a) (.int .i64 m.2.2.2.l) (.int .i64 m.2.2.2.c) (.string ⟨#[]⟩)
        have SS := (set5_b (b := g2) (Below.refl 0 Wd) (Nat.zero_le _) (.int .i64 (m.2.2.1 : Int)) (.int .i64 m.2.2.2.a) (.int .i64 m.2.2.2.l) (.int .i64 m.2.2.2.c) (.string ⟨#[]⟩)).size
        refine hK.out _ _ ?_ (fun hH' => ?_)
        · exact ⟨fun b o hb => SB.cell (p := ⟨b, o, none⟩) hb, SB, Nat.le_trans hH.2.2.out SS⟩
        replace R1 := qh ((set5_o (show g1 ≠ g2 from fun e => HNE.out e.symm) (.int .i64 (m.2.2.1 : Int)) (.int .i64 m.2.2.2.a) (.int .i64 m.2.2.2.l) (.int .i64 m.2.2.2.c) (.string ⟨#[]⟩)).trans R1.out)
        replace HX := qh (HX.out.keptP (P' := fun k => lo ≤ k ∧ k < hi) fun k hk => ⟨hk, set5_o (show k ≠ g2 by have := D2.out; have := hk.1; have := hk.2; omega) (.int .i64 (m.2.2.1 : Int)) (.int .i64 m.2.2.2.a) (.int .i64 m.2.2.2.l) (.int .i64 m.2.2.2.c) (.string ⟨#[]⟩)⟩)
        replace R2 := qh (set5 R2.out (.int .i64 (m.2.2.1 : Int)) (.int .i64 m.2.2.2.a) (.int .i64 m.2.2.2.l) (.int .i64 m.2.2.2.c) (.string ⟨#[]⟩))
        replace HHI := qh (Nat.le_trans HHI.out SS)
        clear SB SS y0 y1 y2 y3 y4 gy0 gy1 gy2 gy3 gy4 hby
        clear hK K hH
        have hH := hH'
        clear hH'
        try simp only [Act.put, sqa, sqb, sqc]
        generalize (((((Wd.setCell ⟨g2, 0, none⟩ (.int .i64 (m.2.2.1 : Int))).setCell ⟨g2, 1, none⟩ (.int .i64 m.2.2.2.a)).setCell ⟨g2, 2, none⟩ (.int .i64 m.2.2.2.l)).setCell ⟨g2, 3, none⟩ (.int .i64 m.2.2.2.c)).setCell ⟨g2, 4, none⟩ (.string ⟨#[]⟩)) = We at *
        refine wpAnyH_done (by kernel_rfl) ?_ _
        refine NoPanic.normal ?_
        go_wp2_with fail
        go_meet
        exact ⟨g1, g2, rfl, rfl, rfl, ⟨oV, cV, oK, cK, o, cap, R1.out, R2.out, HX.out.mono fun k hk => ⟨Nat.le_trans HLO.out hk.1, Nat.lt_of_lt_of_le hk.2 HHI.out⟩, hH.2.1.out, HG1.out, HG2.out⟩⟩
    · go_simp
      have HG2 := hH.2.2
      have BB : Below Ws.heap.size Ws (Ws.alloc (.cells #[.int .i64 0, .int .i64 0, .int .i64 0, .int .i64 0, .string ⟨#[]⟩] 53)) := (Below.refl _ _).alloc (Nat.le_refl _) _
      refine hK.out _ _ ?_ (fun hH' => ?_)
      · exact held_next BB hH
      have R2 := qh (heap_alloc_new Ws (.cells #[.int .i64 0, .int .i64 0, .int .i64 0, .int .i64 0, .string ⟨#[]⟩] 53))
      clear BB
      clear hK K hH
      have hH := hH'
      clear hH'
      try simp only [Act.put, sqa, sqb, sqc]
      generalize Ws.alloc (.cells #[.int .i64 0, .int .i64 0, .int .i64 0, .int .i64 0, .string ⟨#[]⟩] 53) = Wb at *
      generalize Ws.heap.size = g2 at *
      refine wpAnyH_ready (rs := [8, 13]) (by kernel_rfl) (by simp) ?_
      refine (AllReadyH.cons (o := { dst := some 38, op := Op.call { callee := Callee.value (Operand.func 157), args := #[Operand.tmp 33, Operand.tmp 37], argTypes := #[79, 3] }, type := 198, pos := _, after := _, guard := none }) rfl (fun K hK => ?_) (AllReadyH.cons (o := { dst := some 10, op := Op.alloc 38, type := 0, pos := _, after := _, guard := none }) rfl (fun K hK => ?_) AllReadyH.nil))
      · go_simp
        refine (CC.out _ hH.2.1.out).mono ?_
        rintro e0 Wc ⟨oV, cV, oK, cK, o, cap, rfl, hx, hb⟩
        refine hK.out _ _ ?_ (fun hH' => ?_)
        · exact held_next hb hH
        have D2 : Hid (g2 < Wb.heap.size ∨ Wc.heap.size ≤ g2) := .inl (Array.getElem?_eq_some_iff.1 R2.out).1
        replace R2 := qh ((hb.block _ (Array.getElem?_eq_some_iff.1 R2.out).1).trans R2.out)
        have HX : Hid (XP (fun k => Wb.heap.size ≤ k ∧ k < Wc.heap.size) Wc m.1 (.agg (xc m.1 oV cV oK cK o cap))) := hx
        have HHI : Hid (Wc.heap.size ≤ Wc.heap.size) := Nat.le_refl _
        have HLO := hH.2.2
        clear hx hb
        clear hK K hH
        have hH := hH'
        clear hH'
        try simp only [Act.put, sqa, sqb, sqc]
        obtain ⟨lo, hlo⟩ : ∃ b, Wb.heap.size = b := ⟨_, rfl⟩
        rw [hlo] at HX HLO
        rw [hlo] at D2
        obtain ⟨hi, hhi⟩ : ∃ b, Wc.heap.size = b := ⟨_, rfl⟩
        replace HHI : Hid (hi ≤ Wc.heap.size) := Nat.le_of_eq hhi.symm
        rw [hhi] at HX
        rw [hhi] at D2
        clear hlo hhi
        refine wpAnyH_take (i := 9) (oi := { dst := some 29, op := Op.move (Operand.tmp 38), type := 198, pos := _, after := _, guard := none }) (v := ?_) rfl (by kernel_rfl) (by kernel_rfl) (by kernel_rfl) (fun _ _ _ h => h) (Or.inl ⟨by rfl, ?_⟩) (by assumption) ?_
        rotate_left
        · (intro w hSw; (try dsimp only at hSw); go_simp; try with_reducible rfl)
        try simp only [Act.put, sqa, sqb, sqc]
        refine wpAnyH_take (i := 10) (oi := { dst := some 39, op := Op.extract (Operand.tmp 29) 0, type := 38, pos := _, after := _, guard := none }) (v := ?_) rfl (by kernel_rfl) (by kernel_rfl) (by kernel_rfl) (fun _ _ _ h => h) (Or.inl ⟨by rfl, ?_⟩) (by assumption) ?_
        rotate_left
        · (intro w hSw; (try dsimp only at hSw); go_simp; try with_reducible rfl)
        try simp only [Act.put, sqa, sqb, sqc]
        refine wpAnyH_take (i := 11) (oi := { dst := some 40, op := Op.extract (Operand.tmp 29) 1, type := 3, pos := _, after := _, guard := none }) (v := ?_) rfl (by kernel_rfl) (by kernel_rfl) (by kernel_rfl) (fun _ _ _ h => h) (Or.inl ⟨by rfl, ?_⟩) (by assumption) ?_
        rotate_left
        · (intro w hSw; (try dsimp only at hSw); go_simp; try with_reducible rfl)
        try simp only [Act.put, sqa, sqb, sqc]
        refine wpAnyH_take (i := 12) (oi := { dst := some 41, op := Op.extract (Operand.tmp 29) 2, type := 53, pos := _, after := _, guard := none }) (v := ?_) rfl (by kernel_rfl) (by kernel_rfl) (by kernel_rfl) (fun _ _ _ h => h) (Or.inl ⟨by rfl, ?_⟩) (by assumption) ?_
        rotate_left
        · (intro w hSw; (try dsimp only at hSw); go_simp; try with_reducible rfl)
        try simp only [Act.put, sqa, sqb, sqc]
        refine wpAnyH_ready (rs := [13]) (by kernel_rfl) (by simp) ?_
        refine AllReadyH.cons (o := { dst := some 10, op := Op.alloc 38, type := 0, pos := _, after := _, guard := none }) rfl (fun K hK => ?_) AllReadyH.nil
        go_simp
        have HG1 := hH.2.2
        have BB : Below Wc.heap.size Wc (Wc.alloc (.cells #[.int .i64 0, .string ⟨#[]⟩, .string ⟨#[]⟩, .int .i64 0, .int .i64 0, .string ⟨#[]⟩, .slice none 0 0, .slice none 0 0, .int .i64 0, .int .i64 0, .bool false, .slice none 0 0, .int .i64 0, .int .i64 0, .int .i64 0] 38)) := (Below.refl _ _).alloc (Nat.le_refl _) _
        refine hK.out _ _ ?_ (fun hH' => ?_)
        · exact held_next BB hH
        have HNE : Hid (g2 ≠ Wc.heap.size) := Nat.ne_of_lt (Array.getElem?_eq_some_iff.1 R2.out).1
        have R1 := qh (heap_alloc_new Wc (.cells #[.int .i64 0, .string ⟨#[]⟩, .string ⟨#[]⟩, .int .i64 0, .int .i64 0, .string ⟨#[]⟩, .slice none 0 0, .slice none 0 0, .int .i64 0, .int .i64 0, .bool false, .slice none 0 0, .int .i64 0, .int .i64 0, .int .i64 0] 38))
        replace R2 := qh ((heap_alloc_old Wc (.cells #[.int .i64 0, .string ⟨#[]⟩, .string ⟨#[]⟩, .int .i64 0, .int .i64 0, .string ⟨#[]⟩, .slice none 0 0, .slice none 0 0, .int .i64 0, .int .i64 0, .bool false, .slice none 0 0, .int .i64 0, .int .i64 0, .int .i64 0] 38) (Array.getElem?_eq_some_iff.1 R2.out).1).trans R2.out)
        have D1 : Hid (Wc.heap.size < lo ∨ hi ≤ Wc.heap.size) := .inr HHI.out
        replace HX := qh (HX.out.keptP (P' := fun k => lo ≤ k ∧ k < hi) fun k hk => ⟨hk, BB.block k (Nat.lt_of_lt_of_le hk.2 HHI.out)⟩)
        replace HHI : Hid (hi ≤ (Wc.alloc (.cells #[.int .i64 0, .string ⟨#[]⟩, .string ⟨#[]⟩, .int .i64 0, .int .i64 0, .string ⟨#[]⟩, .slice none 0 0, .slice none 0 0, .int .i64 0, .int .i64 0, .bool false, .slice none 0 0, .int .i64 0, .int .i64 0, .int .i64 0] 38)).heap.size) := Nat.le_trans HHI.out BB.size
        clear BB
        clear hK K hH
        have hH := hH'
        clear hH'
        try simp only [Act.put, sqa, sqb, sqc]
        generalize Wc.alloc (.cells #[.int .i64 0, .string ⟨#[]⟩, .string ⟨#[]⟩, .int .i64 0, .int .i64 0, .string ⟨#[]⟩, .slice none 0 0, .slice none 0 0, .int .i64 0, .int .i64 0, .bool false, .slice none 0 0, .int .i64 0, .int .i64 0, .int .i64 0] 38) = Wa at *
        generalize Wc.heap.size = g1 at *
        refine wpAnyH_ready (rs := [15]) (by kernel_rfl) (by simp) ?_
        refine AllReadyH.cons (o := { dst := none, op := Op.store 38 (Operand.tmp 10) (Operand.tmp 39), type := 0, pos := _, after := _, guard := none }) rfl (fun K hK => ?_) AllReadyH.nil
        obtain ⟨⟨x0, x1, x2, x3, x4, x5, x6, x7, x8, x9, x10, x11, x12, x13, x14⟩, gx, hbx⟩ := rc15 R1.out
        have gx0 := gx 0
        have gx1 := gx 1
        have gx2 := gx 2
        have gx3 := gx 3
        have gx4 := gx 4
        have gx5 := gx 5
        have gx6 := gx 6
        have gx7 := gx 7
        have gx8 := gx 8
        have gx9 := gx 9
        have gx10 := gx 10
        have gx11 := gx 11
        have gx12 := gx 12
        have gx13 := gx 13
        have gx14 := gx 14
        clear gx
        go_simp
        have SB : Below N w2 (((((((((((((((Wa.setCell ⟨g1, 0, none⟩ (.int .i64 m.1.op)).setCell ⟨g1, 1, none⟩ (.string m.1.s)).setCell ⟨g1, 2, none⟩ (.string m.1.s2)).setCell ⟨g1, 3, none⟩ (.int .i64 m.1.v.k)).setCell ⟨g1, 4, none⟩ (.int .i64 m.1.v.i)).setCell ⟨g1, 5, none⟩ (.string m.1.v.s)).setCell ⟨g1, 6, none⟩ (.slice oV m.1.v.l.length cV)).setCell ⟨g1, 7, none⟩ (.slice oK m.1.v.ks.length cK)).setCell ⟨g1, 8, none⟩ (.int .i64 m.1.v.tk)).setCell ⟨g1, 9, none⟩ (.int .i64 m.1.v.to)).setCell ⟨g1, 10, none⟩ (.bool m.1.v.x)).setCell ⟨g1, 11, none⟩ (.slice o m.1.l.length cap)).setCell ⟨g1, 12, none⟩ (.int .i64 m.1.a)).setCell ⟨g1, 13, none⟩ (.int .i64 m.1.ln)).setCell ⟨g1, 14, none⟩ (.int .i64 m.1.c)) := set15_b hH.2.1.out HG1.out (.int .i64 m.1.op) (.string m.1.s) (.string m.1.s2) (.int .i64 m.1.v.k) (.int .i64 m.1.v.i) (.string m.1.v.s) (.slice oV m.1.v.l.length cV) (.slice oK m.1.v.ks.length cK) (.int .i64 m.1.v.tk) (.int .i64 m.1.v.to) (.bool m.1.v.x) (.slice o m.1.l.length cap) (.int .i64 m.1.a) (.int .i64 m.1.ln) (.int .i64 m.1.c)
        have SS := (set15_b (b := g1) (Below.refl 0 Wa) (Nat.zero_le _) (.int .i64 m.1.op) (.string m.1.s) (.string m.1.s2) (.int .i64 m.1.v.k) (.int .i64 m.1.v.i) (.string m.1.v.s) (.slice oV m.1.v.l.length cV) (.slice oK m.1.v.ks.length cK) (.int .i64 m.1.v.tk) (.int .i64 m.1.v.to) (.bool m.1.v.x) (.slice o m.1.l.length cap) (.int .i64 m.1.a) (.int .i64 m.1.ln) (.int .i64 m.1.c)).size
        refine hK.out _ _ ?_ (fun hH' => ?_)
        · exact ⟨fun b o hb => SB.cell (p := ⟨b, o, none⟩) hb, SB, Nat.le_trans hH.2.2.out SS⟩
        replace R2 := qh ((set15_o (show g2 ≠ g1 from HNE.out) (.int .i64 m.1.op) (.string m.1.s) (.string m.1.s2) (.int .i64 m.1.v.k) (.int .i64 m.1.v.i) (.string m.1.v.s) (.slice oV m.1.v.l.length cV) (.slice oK m.1.v.ks.length cK) (.int .i64 m.1.v.tk) (.int .i64 m.1.v.to) (.bool m.1.v.x) (.slice o m.1.l.length cap) (.int .i64 m.1.a) (.int .i64 m.1.ln) (.int .i64 m.1.c)).trans R2.out)
        replace HX := qh (HX.out.keptP (P' := fun k => lo ≤ k ∧ k < hi) fun k hk => ⟨hk, set15_o (show k ≠ g1 by have := D1.out; have := hk.1; have := hk.2; omega) (.int .i64 m.1.op) (.string m.1.s) (.string m.1.s2) (.int .i64 m.1.v.k) (.int .i64 m.1.v.i) (.string m.1.v.s) (.slice oV m.1.v.l.length cV) (.slice oK m.1.v.ks.length cK) (.int .i64 m.1.v.tk) (.int .i64 m.1.v.to) (.bool m.1.v.x) (.slice o m.1.l.length cap) (.int .i64 m.1.a) (.int .i64 m.1.ln) (.int .i64 m.1.c)⟩)
        replace R1 := qh (set15 R1.out (.int .i64 m.1.op) (.string m.1.s) (.string m.1.s2) (.int .i64 m.1.v.k) (.int .i64 m.1.v.i) (.string m.1.v.s) (.slice oV m.1.v.l.length cV) (.slice oK m.1.v.ks.length cK) (.int .i64 m.1.v.tk) (.int .i64 m.1.v.to) (.bool m.1.v.x) (.slice o m.1.l.length cap) (.int .i64 m.1.a) (.int .i64 m.1.ln) (.int .i64 m.1.c))
        replace HHI := qh (Nat.le_trans HHI.out SS)
        clear SB SS x0 x1 x2 x3 x4 x5 x6 x7 x8 x9 x10 x11 x12 x13 x14 hbx gx0 gx1 gx2 gx3 gx4 gx5 gx6 gx7 gx8 gx9 gx10 gx11 gx12 gx13 gx14
        clear hK K hH
        have hH := hH'
        clear hH'
        try simp only [Act.put, sqa, sqb, sqc]
        generalize (((((((((((((((Wa.setCell ⟨g1, 0, none⟩ (.int .i64 m.1.op)).setCell ⟨g1, 1, none⟩ (.string m.1.s)).setCell ⟨g1, 2, none⟩ (.string m.1.s2)).setCell ⟨g1, 3, none⟩ (.int .i64 m.1.v.k)).setCell ⟨g1, 4, none⟩ (.int .i64 m.1.v.i)).setCell ⟨g1, 5, none⟩ (.string m.1.v.s)).setCell ⟨g1, 6, none⟩ (.slice oV m.1.v.l.length cV)).setCell ⟨g1, 7, none⟩ (.slice oK m.1.v.ks.length cK)).setCell ⟨g1, 8, none⟩ (.int .i64 m.1.v.tk)).setCell ⟨g1, 9, none⟩ (.int .i64 m.1.v.to)).setCell ⟨g1, 10, none⟩ (.bool m.1.v.x)).setCell ⟨g1, 11, none⟩ (.slice o m.1.l.length cap)).setCell ⟨g1, 12, none⟩ (.int .i64 m.1.a)).setCell ⟨g1, 13, none⟩ (.int .i64 m.1.ln)).setCell ⟨g1, 14, none⟩ (.int .i64 m.1.c)) = Wd at *
        refine wpAnyH_take (i := 16) (oi := { dst := some 11, op := Op.assign (Operand.tmp 40), type := 3, pos := _, after := _, guard := none }) (v := ?_) rfl (by kernel_rfl) (by kernel_rfl) (by kernel_rfl) (fun _ _ _ h => h) (Or.inl ⟨by rfl, ?_⟩) (by assumption) ?_
        rotate_left
        · (intro w hSw; (try dsimp only at hSw); go_simp; try with_reducible rfl)
        try simp only [Act.put, sqa, sqb, sqc]
        refine wpAnyH_ready (rs := [17]) (by kernel_rfl) (by simp) ?_
        refine AllReadyH.cons (o := { dst := none, op := Op.store 53 (Operand.tmp 12) (Operand.tmp 41), type := 0, pos := _, after := _, guard := none }) rfl (fun K hK => ?_) AllReadyH.nil
        obtain ⟨⟨y0, y1, y2, y3, y4⟩, ⟨gy0, gy1, gy2, gy3, gy4⟩, hby⟩ := rc5 R2.out
        go_simp
        have SB : Below N w2 (((((Wd.setCell ⟨g2, 0, none⟩ (.int .i64 (m.2.2.1 : Int))).setCell ⟨g2, 1, none⟩ (.int .i64 m.2.2.2.a)).setCell ⟨g2, 2, none⟩ (.int .i64 m.2.2.2.l)).setCell ⟨g2, 3, none⟩ (.int .i64 m.2.2.2.c)).setCell ⟨g2, 4, none⟩ (.string ⟨#[]⟩)) := set5_b hH.2.1.out HG2.out (.int .i64 (m.2.2.1 : Int)) (.int .i64 m.2.2.2.a) (.int .i64 m.2.2.2.l) (.int .i64 m.2.2.2.c) (.string ⟨#[]⟩)
        have SS := (set5_b (b := g2) (Below.refl 0 Wd) (Nat.zero_le _) (.int .i64 (m.2.2.1 : Int)) (.int .i64 m.2.2.2.a) (.int .i64 m.2.2.2.l) (.int .i64 m.2.2.2.c) (.string ⟨#[]⟩)).size
        refine hK.out _ _ ?_ (fun hH' => ?_)
        · exact ⟨fun b o hb => SB.cell (p := ⟨b, o, none⟩) hb, SB, Nat.le_trans hH.2.2.out SS⟩
        replace R1 := qh ((set5_o (show g1 ≠ g2 from fun e => HNE.out e.symm) (.int .i64 (m.2.2.1 : Int)) (.int .i64 m.2.2.2.a) (.int .i64 m.2.2.2.l) (.int .i64 m.2.2.2.c) (.string ⟨#[]⟩)).trans R1.out)
        replace HX := qh (HX.out.keptP (P' := fun k => lo ≤ k ∧ k < hi) fun k hk => ⟨hk, set5_o (show k ≠ g2 by have := D2.out; have := hk.1; have := hk.2; omega) (.int .i64 (m.2.2.1 : Int)) (.int .i64 m.2.2.2.a) (.int .i64 m.2.2.2.l) (.int .i64 m.2.2.2.c) (.string ⟨#[]⟩)⟩)
        replace R2 := qh (set5 R2.out (.int .i64 (m.2.2.1 : Int)) (.int .i64 m.2.2.2.a) (.int .i64 m.2.2.2.l) (.int .i64 m.2.2.2.c) (.string ⟨#[]⟩))
        replace HHI := qh (Nat.le_trans HHI.out SS)
        clear SB SS y0 y1 y2 y3 y4 gy0 gy1 gy2 gy3 gy4 hby
        clear hK K hH
        have hH := hH'
        clear hH'
        try simp only [Act.put, sqa, sqb, sqc]
        generalize (((((Wd.setCell ⟨g2, 0, none⟩ (.int .i64 (m.2.2.1 : Int))).setCell ⟨g2, 1, none⟩ (.int .i64 m.2.2.2.a)).setCell ⟨g2, 2, none⟩ (.int .i64 m.2.2.2.l)).setCell ⟨g2, 3, none⟩ (.int .i64 m.2.2.2.c)).setCell ⟨g2, 4, none⟩ (.string ⟨#[]⟩)) = We at *
        refine wpAnyH_done (by kernel_rfl) ?_ _
        refine NoPanic.normal ?_
        go_wp2_with fail
        go_meet
        exact ⟨g1, g2, rfl, rfl, rfl, ⟨oV, cV, oK, cK, o, cap, R1.out, R2.out, HX.out.mono fun k hk => ⟨Nat.le_trans HLO.out hk.1, Nat.lt_of_lt_of_le hk.2 HHI.out⟩, hH.2.1.out, HG1.out, HG2.out⟩⟩
      · go_simp
        have HG1 := hH.2.2
        have BB : Below Wb.heap.size Wb (Wb.alloc (.cells #[.int .i64 0, .string ⟨#[]⟩, .string ⟨#[]⟩, .int .i64 0, .int .i64 0, .string ⟨#[]⟩, .slice none 0 0, .slice none 0 0, .int .i64 0, .int .i64 0, .bool false, .slice none 0 0, .int .i64 0, .int .i64 0, .int .i64 0] 38)) := (Below.refl _ _).alloc (Nat.le_refl _) _
        refine hK.out _ _ ?_ (fun hH' => ?_)
        · exact held_next BB hH
        have HNE : Hid (g2 ≠ Wb.heap.size) := Nat.ne_of_lt (Array.getElem?_eq_some_iff.1 R2.out).1
        have R1 := qh (heap_alloc_new Wb (.cells #[.int .i64 0, .string ⟨#[]⟩, .string ⟨#[]⟩, .int .i64 0, .int .i64 0, .string ⟨#[]⟩, .slice none 0 0, .slice none 0 0, .int .i64 0, .int .i64 0, .bool false, .slice none 0 0, .int .i64 0, .int .i64 0, .int .i64 0] 38))
        replace R2 := qh ((heap_alloc_old Wb (.cells #[.int .i64 0, .string ⟨#[]⟩, .string ⟨#[]⟩, .int .i64 0, .int .i64 0, .string ⟨#[]⟩, .slice none 0 0, .slice none 0 0, .int .i64 0, .int .i64 0, .bool false, .slice none 0 0, .int .i64 0, .int .i64 0, .int .i64 0] 38) (Array.getElem?_eq_some_iff.1 R2.out).1).trans R2.out)
        clear BB
        clear hK K hH
        have hH := hH'
        clear hH'
        try simp only [Act.put, sqa, sqb, sqc]
        generalize Wb.alloc (.cells #[.int .i64 0, .string ⟨#[]⟩, .string ⟨#[]⟩, .int .i64 0, .int .i64 0, .string ⟨#[]⟩, .slice none 0 0, .slice none 0 0, .int .i64 0, .int .i64 0, .bool false, .slice none 0 0, .int .i64 0, .int .i64 0, .int .i64 0] 38) = Wa at *
        generalize Wb.heap.size = g1 at *
        refine wpAnyH_ready (rs := [8]) (by kernel_rfl) (by simp) ?_
        refine AllReadyH.cons (o := { dst := some 38, op := Op.call { callee := Callee.value (Operand.func 157), args := #[Operand.tmp 33, Operand.tmp 37], argTypes := #[79, 3] }, type := 198, pos := _, after := _, guard := none }) rfl (fun K hK => ?_) AllReadyH.nil
        go_simp
        refine (CC.out _ hH.2.1.out).mono ?_
        rintro e0 Wc ⟨oV, cV, oK, cK, o, cap, rfl, hx, hb⟩
        refine hK.out _ _ ?_ (fun hH' => ?_)
        · exact held_next hb hH
        have D1 : Hid (g1 < Wa.heap.size ∨ Wc.heap.size ≤ g1) := .inl (Array.getElem?_eq_some_iff.1 R1.out).1
        replace R1 := qh ((hb.block _ (Array.getElem?_eq_some_iff.1 R1.out).1).trans R1.out)
        have D2 : Hid (g2 < Wa.heap.size ∨ Wc.heap.size ≤ g2) := .inl (Array.getElem?_eq_some_iff.1 R2.out).1
        replace R2 := qh ((hb.block _ (Array.getElem?_eq_some_iff.1 R2.out).1).trans R2.out)
        have HX : Hid (XP (fun k => Wa.heap.size ≤ k ∧ k < Wc.heap.size) Wc m.1 (.agg (xc m.1 oV cV oK cK o cap))) := hx
        have HHI : Hid (Wc.heap.size ≤ Wc.heap.size) := Nat.le_refl _
        have HLO := hH.2.2
        clear hx hb
        clear hK K hH
        have hH := hH'
        clear hH'
        try simp only [Act.put, sqa, sqb, sqc]
        obtain ⟨lo, hlo⟩ : ∃ b, Wa.heap.size = b := ⟨_, rfl⟩
        rw [hlo] at HX HLO
        rw [hlo] at D1
        rw [hlo] at D2
        obtain ⟨hi, hhi⟩ : ∃ b, Wc.heap.size = b := ⟨_, rfl⟩
        replace HHI : Hid (hi ≤ Wc.heap.size) := Nat.le_of_eq hhi.symm
        rw [hhi] at HX
        rw [hhi] at D1
        rw [hhi] at D2
        clear hlo hhi
        refine wpAnyH_take (i := 9) (oi := { dst := some 29, op := Op.move (Operand.tmp 38), type := 198, pos := _, after := _, guard := none }) (v := ?_) rfl (by kernel_rfl) (by kernel_rfl) (by kernel_rfl) (fun _ _ _ h => h) (Or.inl ⟨by rfl, ?_⟩) (by assumption) ?_
        rotate_left
        · (intro w hSw; (try dsimp only at hSw); go_simp; try with_reducible rfl)
        try simp only [Act.put, sqa, sqb, sqc]
        refine wpAnyH_take (i := 10) (oi := { dst := some 39, op := Op.extract (Operand.tmp 29) 0, type := 38, pos := _, after := _, guard := none }) (v := ?_) rfl (by kernel_rfl) (by kernel_rfl) (by kernel_rfl) (fun _ _ _ h => h) (Or.inl ⟨by rfl, ?_⟩) (by assumption) ?_
        rotate_left
        · (intro w hSw; (try dsimp only at hSw); go_simp; try with_reducible rfl)
        try simp only [Act.put, sqa, sqb, sqc]
        refine wpAnyH_take (i := 11) (oi := { dst := some 40, op := Op.extract (Operand.tmp 29) 1, type := 3, pos := _, after := _, guard := none }) (v := ?_) rfl (by kernel_rfl) (by kernel_rfl) (by kernel_rfl) (fun _ _ _ h => h) (Or.inl ⟨by rfl, ?_⟩) (by assumption) ?_
        rotate_left
        · (intro w hSw; (try dsimp only at hSw); go_simp; try with_reducible rfl)
        try simp only [Act.put, sqa, sqb, sqc]
        refine wpAnyH_take (i := 12) (oi := { dst := some 41, op := Op.extract (Operand.tmp 29) 2, type := 53, pos := _, after := _, guard := none }) (v := ?_) rfl (by kernel_rfl) (by kernel_rfl) (by kernel_rfl) (fun _ _ _ h => h) (Or.inl ⟨by rfl, ?_⟩) (by assumption) ?_
        rotate_left
        · (intro w hSw; (try dsimp only at hSw); go_simp; try with_reducible rfl)
        try simp only [Act.put, sqa, sqb, sqc]
        refine wpAnyH_ready (rs := [15]) (by kernel_rfl) (by simp) ?_
        refine AllReadyH.cons (o := { dst := none, op := Op.store 38 (Operand.tmp 10) (Operand.tmp 39), type := 0, pos := _, after := _, guard := none }) rfl (fun K hK => ?_) AllReadyH.nil
        obtain ⟨⟨x0, x1, x2, x3, x4, x5, x6, x7, x8, x9, x10, x11, x12, x13, x14⟩, gx, hbx⟩ := rc15 R1.out
        have gx0 := gx 0
        have gx1 := gx 1
        have gx2 := gx 2
        have gx3 := gx 3
        have gx4 := gx 4
        have gx5 := gx 5
        have gx6 := gx 6
        have gx7 := gx 7
        have gx8 := gx 8
        have gx9 := gx 9
        have gx10 := gx 10
        have gx11 := gx 11
        have gx12 := gx 12
        have gx13 := gx 13
        have gx14 := gx 14
        clear gx
        go_simp
        have SB : Below N w2 (((((((((((((((Wc.setCell ⟨g1, 0, none⟩ (.int .i64 m.1.op)).setCell ⟨g1, 1, none⟩ (.string m.1.s)).setCell ⟨g1, 2, none⟩ (.string m.1.s2)).setCell ⟨g1, 3, none⟩ (.int .i64 m.1.v.k)).setCell ⟨g1, 4, none⟩ (.int .i64 m.1.v.i)).setCell ⟨g1, 5, none⟩ (.string m.1.v.s)).setCell ⟨g1, 6, none⟩ (.slice oV m.1.v.l.length cV)).setCell ⟨g1, 7, none⟩ (.slice oK m.1.v.ks.length cK)).setCell ⟨g1, 8, none⟩ (.int .i64 m.1.v.tk)).setCell ⟨g1, 9, none⟩ (.int .i64 m.1.v.to)).setCell ⟨g1, 10, none⟩ (.bool m.1.v.x)).setCell ⟨g1, 11, none⟩ (.slice o m.1.l.length cap)).setCell ⟨g1, 12, none⟩ (.int .i64 m.1.a)).setCell ⟨g1, 13, none⟩ (.int .i64 m.1.ln)).setCell ⟨g1, 14, none⟩ (.int .i64 m.1.c)) := set15_b hH.2.1.out HG1.out (.int .i64 m.1.op) (.string m.1.s) (.string m.1.s2) (.int .i64 m.1.v.k) (.int .i64 m.1.v.i) (.string m.1.v.s) (.slice oV m.1.v.l.length cV) (.slice oK m.1.v.ks.length cK) (.int .i64 m.1.v.tk) (.int .i64 m.1.v.to) (.bool m.1.v.x) (.slice o m.1.l.length cap) (.int .i64 m.1.a) (.int .i64 m.1.ln) (.int .i64 m.1.c)
        have SS := (set15_b (b := g1) (Below.refl 0 Wc) (Nat.zero_le _) (.int .i64 m.1.op) (.string m.1.s) (.string m.1.s2) (.int .i64 m.1.v.k) (.int .i64 m.1.v.i) (.string m.1.v.s) (.slice oV m.1.v.l.length cV) (.slice oK m.1.v.ks.length cK) (.int .i64 m.1.v.tk) (.int .i64 m.1.v.to) (.bool m.1.v.x) (.slice o m.1.l.length cap) (.int .i64 m.1.a) (.int .i64 m.1.ln) (.int .i64 m.1.c)).size
        refine hK.out _ _ ?_ (fun hH' => ?_)
        · exact ⟨fun b o hb => SB.cell (p := ⟨b, o, none⟩) hb, SB, Nat.le_trans hH.2.2.out SS⟩
        replace R2 := qh ((set15_o (show g2 ≠ g1 from HNE.out) (.int .i64 m.1.op) (.string m.1.s) (.string m.1.s2) (.int .i64 m.1.v.k) (.int .i64 m.1.v.i) (.string m.1.v.s) (.slice oV m.1.v.l.length cV) (.slice oK m.1.v.ks.length cK) (.int .i64 m.1.v.tk) (.int .i64 m.1.v.to) (.bool m.1.v.x) (.slice o m.1.l.length cap) (.int .i64 m.1.a) (.int .i64 m.1.ln) (.int .i64 m.1.c)).trans R2.out)
        replace HX := qh (HX.out.keptP (P' := fun k => lo ≤ k ∧ k < hi) fun k hk => ⟨hk, set15_o (show k ≠ g1 by have := D1.out; have := hk.1; have := hk.2; omega) (.int .i64 m.1.op) (.string m.1.s) (.string m.1.s2) (.int .i64 m.1.v.k) (.int .i64 m.1.v.i) (.string m.1.v.s) (.slice oV m.1.v.l.length cV) (.slice oK m.1.v.ks.length cK) (.int .i64 m.1.v.tk) (.int .i64 m.1.v.to) (.bool m.1.v.x) (.slice o m.1.l.length cap) (.int .i64 m.1.a) (.int .i64 m.1.ln) (.int .i64 m.1.c)⟩)
        replace R1 := qh (set15 R1.out (.int .i64 m.1.op) (.string m.1.s) (.string m.1.s2) (.int .i64 m.1.v.k) (.int .i64 m.1.v.i) (.string m.1.v.s) (.slice oV m.1.v.l.length cV) (.slice oK m.1.v.ks.length cK) (.int .i64 m.1.v.tk) (.int .i64 m.1.v.to) (.bool m.1.v.x) (.slice o m.1.l.length cap) (.int .i64 m.1.a) (.int .i64 m.1.ln) (.int .i64 m.1.c))
        replace HHI := qh (Nat.le_trans HHI.out SS)
        clear SB SS x0 x1 x2 x3 x4 x5 x6 x7 x8 x9 x10 x11 x12 x13 x14 hbx gx0 gx1 gx2 gx3 gx4 gx5 gx6 gx7 gx8 gx9 gx10 gx11 gx12 gx13 gx14
        clear hK K hH
        have hH := hH'
        clear hH'
        try simp only [Act.put, sqa, sqb, sqc]
        generalize (((((((((((((((Wc.setCell ⟨g1, 0, none⟩ (.int .i64 m.1.op)).setCell ⟨g1, 1, none⟩ (.string m.1.s)).setCell ⟨g1, 2, none⟩ (.string m.1.s2)).setCell ⟨g1, 3, none⟩ (.int .i64 m.1.v.k)).setCell ⟨g1, 4, none⟩ (.int .i64 m.1.v.i)).setCell ⟨g1, 5, none⟩ (.string m.1.v.s)).setCell ⟨g1, 6, none⟩ (.slice oV m.1.v.l.length cV)).setCell ⟨g1, 7, none⟩ (.slice oK m.1.v.ks.length cK)).setCell ⟨g1, 8, none⟩ (.int .i64 m.1.v.tk)).setCell ⟨g1, 9, none⟩ (.int .i64 m.1.v.to)).setCell ⟨g1, 10, none⟩ (.bool m.1.v.x)).setCell ⟨g1, 11, none⟩ (.slice o m.1.l.length cap)).setCell ⟨g1, 12, none⟩ (.int .i64 m.1.a)).setCell ⟨g1, 13, none⟩ (.int .i64 m.1.ln)).setCell ⟨g1, 14, none⟩ (.int .i64 m.1.c)) = Wd at *
        refine wpAnyH_take (i := 16) (oi := { dst := some 11, op := Op.assign (Operand.tmp 40), type := 3, pos := _, after := _, guard := none }) (v := ?_) rfl (by kernel_rfl) (by kernel_rfl) (by kernel_rfl) (fun _ _ _ h => h) (Or.inl ⟨by rfl, ?_⟩) (by assumption) ?_
        rotate_left
        · (intro w hSw; (try dsimp only at hSw); go_simp; try with_reducible rfl)
        try simp only [Act.put, sqa, sqb, sqc]
        refine wpAnyH_ready (rs := [17]) (by kernel_rfl) (by simp) ?_
        refine AllReadyH.cons (o := { dst := none, op := Op.store 53 (Operand.tmp 12) (Operand.tmp 41), type := 0, pos := _, after := _, guard := none }) rfl (fun K hK => ?_) AllReadyH.nil
        obtain ⟨⟨y0, y1, y2, y3, y4⟩, ⟨gy0, gy1, gy2, gy3, gy4⟩, hby⟩ := rc5 R2.out
        go_simp
        have SB : Below N w2 (((((Wd.setCell ⟨g2, 0, none⟩ (.int .i64 (m.2.2.1 : Int))).setCell ⟨g2, 1, none⟩ (.int .i64 m.2.2.2.a)).setCell ⟨g2, 2, none⟩ (.int .i64 m.2.2.2.l)).setCell ⟨g2, 3, none⟩ (.int .i64 m.2.2.2.c)).setCell ⟨g2, 4, none⟩ (.string ⟨#[]⟩)) := set5_b hH.2.1.out HG2.out (.int .i64 (m.2.2.1 : Int)) (.int .i64 m.2.2.2.a) (.int .i64 m.2.2.2.l) (.int .i64 m.2.2.2.c) (.string ⟨#[]⟩)
        have SS := (set5_b (b := g2) (Below.refl 0 Wd) (Nat.zero_le _) (.int .i64 (m.2.2.1 : Int)) (.int .i64 m.2.2.2.a) (.int .i64 m.2.2.2.l) (.int .i64 m.2.2.2.c) (.string ⟨#[]⟩)).size
        refine hK.out _ _ ?_ (fun hH' => ?_)
        · exact ⟨fun b o hb => SB.cell (p := ⟨b, o, none⟩) hb, SB, Nat.le_trans hH.2.2.out SS⟩
        replace R1 := qh ((set5_o (show g1 ≠ g2 from fun e => HNE.out e.symm) (.int .i64 (m.2.2.1 : Int)) (.int .i64 m.2.2.2.a) (.int .i64 m.2.2.2.l) (.int .i64 m.2.2.2.c) (.string ⟨#[]⟩)).trans R1.out)
        replace HX := qh (HX.out.keptP (P' := fun k => lo ≤ k ∧ k < hi) fun k hk => ⟨hk, set5_o (show k ≠ g2 by have := D2.out; have := hk.1; have := hk.2; omega) (.int .i64 (m.2.2.1 : Int)) (.int .i64 m.2.2.2.a) (.int .i64 m.2.2.2.l) (.int .i64 m.2.2.2.c) (.string ⟨#[]⟩)⟩)
        replace R2 := qh (set5 R2.out (.int .i64 (m.2.2.1 : Int)) (.int .i64 m.2.2.2.a) (.int .i64 m.2.2.2.l) (.int .i64 m.2.2.2.c) (.string ⟨#[]⟩))
        replace HHI := qh (Nat.le_trans HHI.out SS)
        clear SB SS y0 y1 y2 y3 y4 gy0 gy1 gy2 gy3 gy4 hby
        clear hK K hH
        have hH := hH'
        clear hH'
        try simp only [Act.put, sqa, sqb, sqc]
        generalize (((((Wd.setCell ⟨g2, 0, none⟩ (.int .i64 (m.2.2.1 : Int))).setCell ⟨g2, 1, none⟩ (.int .i64 m.2.2.2.a)).setCell ⟨g2, 2, none⟩ (.int .i64 m.2.2.2.l)).setCell ⟨g2, 3, none⟩ (.int .i64 m.2.2.2.c)).setCell ⟨g2, 4, none⟩ (.string ⟨#[]⟩)) = We at *
        refine wpAnyH_done (by kernel_rfl) ?_ _
        refine NoPanic.normal ?_
        go_wp2_with fail
        go_meet
        exact ⟨g1, g2, rfl, rfl, rfl, ⟨oV, cV, oK, cK, o, cap, R1.out, R2.out, HX.out.mono fun k hk => ⟨Nat.le_trans HLO.out hk.1, Nat.lt_of_lt_of_le hk.2 HHI.out⟩, hH.2.1.out, HG1.out, HG2.out⟩⟩
   case rest =>
   obtain ⟨g1, g2, rfl, rfl, rfl, hpr⟩ := hcut
   generalize wc = w3 at *
   obtain ⟨oV, cV, oK, cK, o, cap, e33, e36, hX, hB, hg1, hg2⟩ := hpr
   rw [HN.out] at hX hB hg1 hg2
   have HB3 := qh hB
   have HX3 := qh hX
   have E33 := qh e33
   have E36 := qh e36
   have HK3 := qh (HK2.out.below hB)
   have HF3 := qh (HF2.out.tr (Ft.of hB))
   have HM3 := qh (HM2.out.keep hB)
   replace k7 := qh ((hB.block _ (Array.getElem?_eq_some_iff.1 k7.out).1).trans k7.out)
   replace k22 := qh ((hB.block _ (Array.getElem?_eq_some_iff.1 k22.out).1).trans k22.out)
   replace k36 := qh ((hB.block _ (Array.getElem?_eq_some_iff.1 k36.out).1).trans k36.out)
   have HGN : Hid (w.heap.size + 3 ≤ g1 ∧ w.heap.size + 3 ≤ g2 ∧ w.heap.size + 3 ≤ w2.heap.size) := ⟨Nat.le_trans HW2.out hg1, Nat.le_trans HW2.out hg2, HW2.out⟩
   clear hX hB hg1 hg2 e33 e36 HK2 HF2 HM2 S0 lbR r0 r1 CC HN HHM HW1 HW2
   clear N
   have hgi : Hid (w.heap.size ≤ w.heap.size + 1 ∧ w.heap.size ≤ w.heap.size + 1 + 1) := ⟨by omega, by omega⟩
   obtain ⟨⟨d0, d1, d2, d3, d4⟩, -, hbd⟩ := rc5 E36.out
   by_cases hc : m.2.2.1 = 0
   · have en : ((m.2.2.1 : Int) != 0) = false := by simp [hc]
     have HQE : Hid (M = .ok (.mk false X.1.s [] m.1 [] X.1.p.ps, m.2.1) ∧ m.2.1 < KZ.acc.length) := ⟨by rw [HME.out, if_pos hc], HRM.out hc⟩
     clear hc HME HRM d1 d2 d3 d4
     obtain ⟨⟨r0, r1⟩, ⟨fr0, fr1⟩, hR⟩ := rc2 HK3.out.blk
     clear r0 fr0
     go_upto_region 9 with fail
     have HFS : Hid (Fm R w3 (w3.setCell ⟨R, 1, none⟩ (.int .i64 m.2.1))) := (Fm.of (Below.refl _ _)).st 1 _
     have HK4 : Hid (Kd (w3.setCell ⟨R, 1, none⟩ (.int .i64 m.2.1)) R KZ m.2.1) := HK3.out.fr HFS.out (by rw [heap_setCell_same _ R 1 _ _ _ HK3.out.blk]; rfl) (Nat.le_of_lt HQE.out.2)
     have HM4 : Hid (Mo Tryz.prog 9 (w3.setCell ⟨R, 1, none⟩ (.int .i64 m.2.1)) mb (ins f (.string (tx X.1.s)) (.agg #[]))) := HM3.out.kept (heap_setCell_other _ _ _ _ HMB.out.2)
     replace k7 := qh ((heap_setCell_other w3 ⟨R, 1, none⟩ w.heap.size (.int .i64 m.2.1) (by have := HRL.out; have := HGN.out; show w.heap.size ≠ R; omega)).trans k7.out)
     replace k22 := qh ((heap_setCell_other w3 ⟨R, 1, none⟩ (w.heap.size + 1) (.int .i64 m.2.1) (by have := HRL.out; have := HGN.out; show (w.heap.size + 1) ≠ R; omega)).trans k22.out)
     replace k36 := qh ((heap_setCell_other w3 ⟨R, 1, none⟩ (w.heap.size + 1 + 1) (.int .i64 m.2.1) (by have := HRL.out; have := HGN.out; show (w.heap.size + 1 + 1) ≠ R; omega)).trans k36.out)
     replace E33 := qh ((heap_setCell_other w3 ⟨R, 1, none⟩ g1 (.int .i64 m.2.1) (by have := HRL.out; have := HGN.out; show g1 ≠ R; omega)).trans E33.out)
     have HX4 : Hid (XP (fun k => w2.heap.size ≤ k ∧ k < w3.heap.size) (w3.setCell ⟨R, 1, none⟩ (.int .i64 m.2.1)) m.1 (.agg (xc m.1 oV cV oK cK o cap))) := HX3.out.keptP fun k hk => ⟨hk, heap_setCell_other w3 ⟨R, 1, none⟩ k _ (by have := HRL.out; have := HGN.out; have := hk.1; show k ≠ R; omega)⟩
     clear r1 fr1 hR HK3 HM3 HX3 d0 hbd
     generalize w3.setCell ⟨R, 1, none⟩ (.int .i64 m.2.1) = w4 at *
     have HF4 := qh (HF3.out.tr (Ft.fm HFS.out))
     have HS4 : Hid (w3.heap.size ≤ w4.heap.size) := HFS.out.size
     obtain ⟨⟨t0, t1, t2, t3, t4, t5, t6⟩, -, hbt⟩ := rc7 k7.out
     clear t0 t2 t3
     obtain ⟨⟨x0, x1, x2, x3, x4, x5, x6, x7, x8, x9, x10, x11, x12, x13, x14⟩, -, hb2⟩ := rc15 E33.out
     go_wp2_with (first
      | (refine wpList_store_row rfl 40 (.tmp 6) (.tmp 56) rfl (w.heap.size + 1) #[.bool false, .string (tx X.1.s), .slice none 0 0, .int .i64 m.1.op, .string m.1.s, .string m.1.s2, .int .i64 m.1.v.k, .int .i64 m.1.v.i, .string m.1.v.s, .slice oV m.1.v.l.length cV, .slice oK m.1.v.ks.length cK, .int .i64 m.1.v.tk, .int .i64 m.1.v.to, .bool m.1.v.x, .slice o m.1.l.length cap, .int .i64 m.1.a, .int .i64 m.1.ln, .int .i64 m.1.c, .slice none 0 0, .int .i64 X.1.p.a, .int .i64 X.1.p.l, .int .i64 X.1.p.c] rfl (by kernel_rfl) 40 _ k22.out (info22 rfl) rfl (by kernel_rfl) ?_
         have s22 : Hid ((w4.setRow (w.heap.size + 1) #[.bool false, .string (tx X.1.s), .slice none 0 0, .int .i64 m.1.op, .string m.1.s, .string m.1.s2, .int .i64 m.1.v.k, .int .i64 m.1.v.i, .string m.1.v.s, .slice oV m.1.v.l.length cV, .slice oK m.1.v.ks.length cK, .int .i64 m.1.v.tk, .int .i64 m.1.v.to, .bool m.1.v.x, .slice o m.1.l.length cap, .int .i64 m.1.a, .int .i64 m.1.ln, .int .i64 m.1.c, .slice none 0 0, .int .i64 X.1.p.a, .int .i64 X.1.p.l, .int .i64 X.1.p.c]).heap[w.heap.size + 1]? = some (.cells #[.bool false, .string (tx X.1.s), .slice none 0 0, .int .i64 m.1.op, .string m.1.s, .string m.1.s2, .int .i64 m.1.v.k, .int .i64 m.1.v.i, .string m.1.v.s, .slice oV m.1.v.l.length cV, .slice oK m.1.v.ks.length cK, .int .i64 m.1.v.tk, .int .i64 m.1.v.to, .bool m.1.v.x, .slice o m.1.l.length cap, .int .i64 m.1.a, .int .i64 m.1.ln, .int .i64 m.1.c, .slice none 0 0, .int .i64 X.1.p.a, .int .i64 X.1.p.l, .int .i64 X.1.p.c] 40 (0, 0))) := setRow_heap _ _ _ _ _ _ k22.out
         have s36 := qh ((setRow_other w4 (w.heap.size + 1) (w.heap.size + 1 + 1) #[.bool false, .string (tx X.1.s), .slice none 0 0, .int .i64 m.1.op, .string m.1.s, .string m.1.s2, .int .i64 m.1.v.k, .int .i64 m.1.v.i, .string m.1.v.s, .slice oV m.1.v.l.length cV, .slice oK m.1.v.ks.length cK, .int .i64 m.1.v.tk, .int .i64 m.1.v.to, .bool m.1.v.x, .slice o m.1.l.length cap, .int .i64 m.1.a, .int .i64 m.1.ln, .int .i64 m.1.c, .slice none 0 0, .int .i64 X.1.p.a, .int .i64 X.1.p.l, .int .i64 X.1.p.c] (by omega)).trans k36.out)
         have sO : Hid (∀ k, k ≠ w.heap.size + 1 → (w4.setRow (w.heap.size + 1) #[.bool false, .string (tx X.1.s), .slice none 0 0, .int .i64 m.1.op, .string m.1.s, .string m.1.s2, .int .i64 m.1.v.k, .int .i64 m.1.v.i, .string m.1.v.s, .slice oV m.1.v.l.length cV, .slice oK m.1.v.ks.length cK, .int .i64 m.1.v.tk, .int .i64 m.1.v.to, .bool m.1.v.x, .slice o m.1.l.length cap, .int .i64 m.1.a, .int .i64 m.1.ln, .int .i64 m.1.c, .slice none 0 0, .int .i64 X.1.p.a, .int .i64 X.1.p.l, .int .i64 X.1.p.c]).heap[k]? = w4.heap[k]?) := fun k hk => setRow_other w4 (w.heap.size + 1) k #[.bool false, .string (tx X.1.s), .slice none 0 0, .int .i64 m.1.op, .string m.1.s, .string m.1.s2, .int .i64 m.1.v.k, .int .i64 m.1.v.i, .string m.1.v.s, .slice oV m.1.v.l.length cV, .slice oK m.1.v.ks.length cK, .int .i64 m.1.v.tk, .int .i64 m.1.v.to, .bool m.1.v.x, .slice o m.1.l.length cap, .int .i64 m.1.a, .int .i64 m.1.ln, .int .i64 m.1.c, .slice none 0 0, .int .i64 X.1.p.a, .int .i64 X.1.p.l, .int .i64 X.1.p.c] hk
         have sB := qh (Below.row (Below.refl w.heap.size w4) hgi.out.1 #[.bool false, .string (tx X.1.s), .slice none 0 0, .int .i64 m.1.op, .string m.1.s, .string m.1.s2, .int .i64 m.1.v.k, .int .i64 m.1.v.i, .string m.1.v.s, .slice oV m.1.v.l.length cV, .slice oK m.1.v.ks.length cK, .int .i64 m.1.v.tk, .int .i64 m.1.v.to, .bool m.1.v.x, .slice o m.1.l.length cap, .int .i64 m.1.a, .int .i64 m.1.ln, .int .i64 m.1.c, .slice none 0 0, .int .i64 X.1.p.a, .int .i64 X.1.p.l, .int .i64 X.1.p.c])
         clear t1 t4 t5 t6 hbt x0 x1 x2 x3 x4 x5 x6 x7 x8 x9 x10 x11 x12 x13 x14 hb2
         generalize w4.setRow (w.heap.size + 1) #[.bool false, .string (tx X.1.s), .slice none 0 0, .int .i64 m.1.op, .string m.1.s, .string m.1.s2, .int .i64 m.1.v.k, .int .i64 m.1.v.i, .string m.1.v.s, .slice oV m.1.v.l.length cV, .slice oK m.1.v.ks.length cK, .int .i64 m.1.v.tk, .int .i64 m.1.v.to, .bool m.1.v.x, .slice o m.1.l.length cap, .int .i64 m.1.a, .int .i64 m.1.ln, .int .i64 m.1.c, .slice none 0 0, .int .i64 X.1.p.a, .int .i64 X.1.p.l, .int .i64 X.1.p.c] = w5 at *)
      | (refine wpList_store_row rfl 53 (.tmp 7) (.tmp 57) rfl (w.heap.size + 1 + 1) #[.int .i64 0, .int .i64 0, .int .i64 0, .int .i64 0, .string ⟨#[]⟩] rfl (by kernel_rfl) 53 _ s36.out (info36 rfl) rfl (by kernel_rfl) ?_
         have r36 : Hid ((w5.setRow (w.heap.size + 1 + 1) #[.int .i64 0, .int .i64 0, .int .i64 0, .int .i64 0, .string ⟨#[]⟩]).heap[w.heap.size + 1 + 1]? = some (.cells #[.int .i64 0, .int .i64 0, .int .i64 0, .int .i64 0, .string ⟨#[]⟩] 53 (0, 0))) := setRow_heap _ _ _ _ _ _ s36.out
         have r22 := qh ((setRow_other w5 (w.heap.size + 1 + 1) (w.heap.size + 1) #[.int .i64 0, .int .i64 0, .int .i64 0, .int .i64 0, .string ⟨#[]⟩] (by omega)).trans s22.out)
         have rO : Hid (∀ k, k ≠ w.heap.size + 1 → k ≠ w.heap.size + 1 + 1 → (w5.setRow (w.heap.size + 1 + 1) #[.int .i64 0, .int .i64 0, .int .i64 0, .int .i64 0, .string ⟨#[]⟩]).heap[k]? = w4.heap[k]?) := fun k h1 h2 => (setRow_other w5 (w.heap.size + 1 + 1) k #[.int .i64 0, .int .i64 0, .int .i64 0, .int .i64 0, .string ⟨#[]⟩] h2).trans (sO.out k h1)
         have rB := qh (Below.row sB.out hgi.out.2 #[.int .i64 0, .int .i64 0, .int .i64 0, .int .i64 0, .string ⟨#[]⟩])
         clear s22 s36 sO sB
         generalize w5.setRow (w.heap.size + 1 + 1) #[.int .i64 0, .int .i64 0, .int .i64 0, .int .i64 0, .string ⟨#[]⟩] = w6 at *))
     refine bodyPost_ret (v := .tuple #[.agg #[.bool false, .string (tx X.1.s), .slice none 0 0, .int .i64 m.1.op, .string m.1.s, .string m.1.s2, .int .i64 m.1.v.k, .int .i64 m.1.v.i, .string m.1.v.s, .slice oV m.1.v.l.length cV, .slice oK m.1.v.ks.length cK, .int .i64 m.1.v.tk, .int .i64 m.1.v.to, .bool m.1.v.x, .slice o m.1.l.length cap, .int .i64 m.1.a, .int .i64 m.1.ln, .int .i64 m.1.c, .slice none 0 0, .int .i64 X.1.p.a, .int .i64 X.1.p.l, .int .i64 X.1.p.c], .agg #[.int .i64 0, .int .i64 0, .int .i64 0, .int .i64 0, .string ⟨#[]⟩]]) (results_rows (p := 6) (q := 7) rfl _ _ _ _ _ _ rfl rfl r22.out r36.out rfl rfl) rfl ?_
     rw [HQE.out.1]
     have hR0 := HRL.out
     have hmb0 := HML.out
     have hg := HGN.out
     have hn0 := HMB.out.1
     have h64 : w4.heap.size ≤ w6.heap.size := rB.out.size
     have h43 := HS4.out
     have h32 := HB3.out.size
     exact ⟨⟨none, 0, oV, cV, oK, cK, o, cap, none, 0, rfl, IP.mk (.mk false X.1.s [] m.1 [] X.1.p.ps) none oV oK o none 0 cV cK cap 0 (fun _ _ => undef) (rowP_nil _ _ _ _) (HX4.out.keptP fun k hk => ⟨⟨by omega, by omega⟩, rO.out k (by omega) (by omega)⟩) (rowP_nil _ _ _ _) (fun j x h => by cases h), ⟨(rO.out R (by omega) (by omega)).trans HK4.out.blk, HK4.out.kt.kept fun k hk _ => rO.out k (by omega) (by omega), HK4.out.sz, HK4.out.iq, HK4.out.le, Nat.le_trans HK4.out.nn h64⟩, HQE.out.2⟩, HF4.out.bel rB.out, rfl, _, HM4.out.kept (rO.out mb (by omega) (by omega)), HMS.out⟩
   · have en : ((m.2.2.1 : Int) != 0) = true := by rw [bne_iff_ne]; omega
     have HQE : Hid (M = .error (m.2.2.1, m.2.2.2)) := by unfold Hid; rw [HME.out, if_neg hc]
     clear hc HME HRM
     have q22 := k22
     have q36 := k36
     have hn3 : w.heap.size + 3 ≤ g2 := HGN.out.2.1
     go_upto_region 7 with fail
     refine wp_region_noPanic ?_
     refine wp_region_held_drew (S := (fun W => ∀ o, W.cell? ⟨g2, o, none⟩ = w3.cell? ⟨g2, o, none⟩)) (by kernel_rfl) ?_ (fun hH => ?_)
     · exact fun _ => rfl
     have d22 : Hid (w3.drew.heap[(w.heap.size + 1)]? = _) := q22.out
     have d36 : Hid (w3.drew.heap[(w.heap.size + 1 + 1)]? = _) := q36.out
     have dB : Hid (Below w.heap.size w3 w3.drew) := (Below.refl _ _).drew
     have dO : Hid (∀ k : Nat, w3.drew.heap[k]? = w3.heap[k]?) := fun _ => rfl
     generalize w3.drew = Ws at *
     refine wpAnyH_take (i := 0) (oi := { dst := some 45, op := Op.build 40 #[], type := 40, pos := _, after := _, guard := none }) (v := ?_) rfl (by kernel_rfl) (by kernel_rfl) (by kernel_rfl) (fun _ _ _ h => h) (Or.inl ⟨by rfl, ?_⟩) (by assumption) ?_
     rotate_left
     · (intro w hSw; (try dsimp only at hSw); go_simp; try with_reducible rfl)
     try simp only [Act.put, sqa, sqb, sqc]
     refine wpAnyH_take (i := 1) (oi := { dst := some 46, op := Op.load 53 (Operand.tmp 12), type := 53, pos := _, after := _, guard := none }) (v := ?_) rfl (by kernel_rfl) (by kernel_rfl) (by kernel_rfl) (fun _ _ _ h => h) (Or.inl ⟨by rfl, ?_⟩) (by assumption) ?_
     rotate_left
     · (intro w hSw; (try dsimp only at hSw); go_simp; try with_reducible rfl)
     try simp only [Act.put, sqa, sqb, sqc]
     refine wpAnyH_ready (rs := [2]) (by kernel_rfl) (by simp) ?_
     refine AllReadyH.cons (o := { dst := none, op := Op.store 40 (Operand.tmp 6) (Operand.tmp 45), type := 0, pos := _, after := _, guard := none }) rfl (fun K hK => ?_) AllReadyH.nil
     refine step_store_row rfl 40 (.tmp 6) (.tmp 45) rfl (w.heap.size + 1) rfl z22 rfl 40 _ d22.out (info22 rfl) rfl (by kernel_rfl) ?_
     try simp only [Act.put]
     have s22 : Hid ((Ws.setRow (w.heap.size + 1) z22).heap[(w.heap.size + 1)]? = some (.cells z22 40 (0, 0))) := setRow_heap _ _ _ _ _ _ d22.out
     have s36 := qh ((setRow_other Ws (w.heap.size + 1) (w.heap.size + 1 + 1) z22 (by omega)).trans d36.out)
     have sL := setRow_other Ws (w.heap.size + 1) g2 z22 (by omega)
     have sO : Hid (∀ k, k ≠ (w.heap.size + 1) → (Ws.setRow (w.heap.size + 1) z22).heap[k]? = Ws.heap[k]?) := fun k hk => setRow_other Ws (w.heap.size + 1) k z22 hk
     have sB := qh (Below.row dB.out hgi.out.1 z22)
     clear d22 d36 dB
     generalize (Ws.setRow (w.heap.size + 1) z22) = Wp at *
     refine hK.out _ _ ?_ (fun hH' => ?_)
     · exact fun o => (World.cell?_of_block (w := Ws) (w' := Wp) sL).trans (hH o)
     clear sL
     clear hK K hH
     have hH := hH'
     clear hH'
     try simp only [Act.put, sqa, sqb, sqc]
     refine wpAnyH_ready (rs := [3]) (by kernel_rfl) (by simp) ?_
     refine AllReadyH.cons (o := { dst := none, op := Op.store 53 (Operand.tmp 7) (Operand.tmp 46), type := 0, pos := _, after := _, guard := none }) rfl (fun K hK => ?_) AllReadyH.nil
     refine step_store_row rfl 53 (.tmp 7) (.tmp 46) rfl (w.heap.size + 1 + 1) rfl #[.int .i64 (m.2.2.1 : Int), .int .i64 m.2.2.2.a, .int .i64 m.2.2.2.l, .int .i64 m.2.2.2.c, .string ⟨#[]⟩] rfl 53 _ s36.out (info36 rfl) rfl (by kernel_rfl) ?_
     try simp only [Act.put]
     have r36 : Hid ((Wp.setRow (w.heap.size + 1 + 1) #[.int .i64 (m.2.2.1 : Int), .int .i64 m.2.2.2.a, .int .i64 m.2.2.2.l, .int .i64 m.2.2.2.c, .string ⟨#[]⟩]).heap[(w.heap.size + 1 + 1)]? = some (.cells #[.int .i64 (m.2.2.1 : Int), .int .i64 m.2.2.2.a, .int .i64 m.2.2.2.l, .int .i64 m.2.2.2.c, .string ⟨#[]⟩] 53 (0, 0))) := setRow_heap _ _ _ _ _ _ s36.out
     have r22 := qh ((setRow_other Wp (w.heap.size + 1 + 1) (w.heap.size + 1) #[.int .i64 (m.2.2.1 : Int), .int .i64 m.2.2.2.a, .int .i64 m.2.2.2.l, .int .i64 m.2.2.2.c, .string ⟨#[]⟩] (fun e => (show (w.heap.size + 1 + 1) ≠ (w.heap.size + 1) from (by omega)) e.symm)).trans s22.out)
     have sL := setRow_other Wp (w.heap.size + 1 + 1) g2 #[.int .i64 (m.2.2.1 : Int), .int .i64 m.2.2.2.a, .int .i64 m.2.2.2.l, .int .i64 m.2.2.2.c, .string ⟨#[]⟩] (by omega)
     have rO : Hid (∀ k, k ≠ (w.heap.size + 1) → k ≠ (w.heap.size + 1 + 1) → (Wp.setRow (w.heap.size + 1 + 1) #[.int .i64 (m.2.2.1 : Int), .int .i64 m.2.2.2.a, .int .i64 m.2.2.2.l, .int .i64 m.2.2.2.c, .string ⟨#[]⟩]).heap[k]? = w3.heap[k]?) := fun k h1 h2 => (setRow_other Wp (w.heap.size + 1 + 1) k #[.int .i64 (m.2.2.1 : Int), .int .i64 m.2.2.2.a, .int .i64 m.2.2.2.l, .int .i64 m.2.2.2.c, .string ⟨#[]⟩] h2).trans ((sO.out k h1).trans (dO.out k))
     have rB := qh (Below.row sB.out hgi.out.2 #[.int .i64 (m.2.2.1 : Int), .int .i64 m.2.2.2.a, .int .i64 m.2.2.2.l, .int .i64 m.2.2.2.c, .string ⟨#[]⟩])
     clear s22 s36 sO sB dO
     generalize (Wp.setRow (w.heap.size + 1 + 1) #[.int .i64 (m.2.2.1 : Int), .int .i64 m.2.2.2.a, .int .i64 m.2.2.2.l, .int .i64 m.2.2.2.c, .string ⟨#[]⟩]) = Wq at *
     refine hK.out _ _ ?_ (fun hH' => ?_)
     · exact fun o => (World.cell?_of_block (w := Wp) (w' := Wq) sL).trans (hH o)
     clear sL
     clear hK K hH
     have hH := hH'
     clear hH'
     try simp only [Act.put, sqa, sqb, sqc]
     refine wpAnyH_done (by kernel_rfl) ?_ _
     refine NoPanic.normal ?_
     go_wp2_with fail
     refine bodyPost_ret (v := .tuple #[.agg z22, .agg #[.int .i64 (m.2.2.1 : Int), .int .i64 m.2.2.2.a, .int .i64 m.2.2.2.l, .int .i64 m.2.2.2.c, .string ⟨#[]⟩]]) (results_rows (p := 6) (q := 7) rfl _ _ _ _ _ _ rfl rfl r22.out r36.out rfl rfl) rfl ?_
     exact AtPost.err HQE.out (HF3.out.bel rB.out)
end Go.Proofs.YtncjncacfagldaaGreatDoor

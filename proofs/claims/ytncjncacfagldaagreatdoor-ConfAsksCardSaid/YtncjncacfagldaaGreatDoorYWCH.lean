import Derived.Test.YtncjncacfagldaaGreatDoorYWCU
namespace Go.Proofs.YtncjncacfagldaaGreatDoor
open Go.RowKit Go.Lib
attribute [local go_sem] field66_0 field66_1 field66_2 field66_3 field66_4

def BkPost (w : World) (R : Nat) (K : Kz) : Except (Nat × Ps) (It × Nat) → Ending → World → Prop
 | .ok (x, q), e, w' => ItOk w R K x q e w' ∧ Fm R w w' ∧ x.b = true
 | .error (c, q), e, w' => ItErr c q e ∧ Fm R w w' ∧ c ≠ 0
theorem BkPost.err {w : World} {R : Nat} {K : Kz} {m : Except (Nat × Ps) (It × Nat)} {c : Nat} {q : Ps} (hm : m = .error (c, q)) (hc : c ≠ 0) {w' : World} (h : Fm R w w') : BkPost w R K m (.returned (.tuple #[zi, dgv c q])) w' := by
 subst hm; exact ⟨rfl, h, hc⟩
def bkM (C : Cx) (rec : Nat → Res (List It)) (t : Tkn) : Res (List (List UInt8)) → Except (Nat × Ps) (It × Nat)
 | .error e => .error e
 | .ok (lb, q) => if C.has q 4 [123] then (match rec (q + 1) with | .error e => .error e | .ok (l, q2) => .ok (.mk true t.s lb zeroX l t.p.ps, q2)) else .error (4, C.at q)
theorem blockM_eq (C : Cx) (rec : Nat → Res (List It)) (t : Tkn) (p : Nat) : blockM C rec t p = bkM C rec t (labelsM C (C.L.length + 1) p []) := by
 unfold blockM
 cases labelsM C (C.L.length + 1) p [] with
 | error e => rfl
 | ok x => rfl
set_option maxRecDepth 100000 in
set_option maxHeartbeats 8000000 in
theorem block_any {w : World} {R : Nat} {KZ : Kz} {p : Nat} {rec : Nat → Res (List It)} (h : Kd w R KZ p) (hlt : p < KZ.acc.length) (hE : Ends KZ) (X : Tkn × Option Addr × Nat)
 (hrec : ∀ (W : World) (q : Nat), p < q → Kd W R KZ q → q < KZ.acc.length → Calls Tryz.prog 43 #[.pointer (some ⟨R, 0, none⟩), .int .i64 4, .string ⟨#[125]⟩] W (RdP PayI W R KZ (rec q))) (hge : ∀ lb q, labelsM KZ.cx (KZ.acc.length + 1) p [] = .ok (lb, q) → p ≤ q) :
 Calls Tryz.prog 128 #[.pointer (some ⟨R, 0, none⟩), tv X] w (BkPost w R KZ (blockM KZ.cx rec X.1 p)) := by
 have B0 : Below w.heap.size w (((w.alloc (.cells #[.int .i64 X.1.k, .string (tx X.1.s), .int .i64 X.1.n, psv X, .int .i64 X.1.p.a, .int .i64 X.1.p.l, .int .i64 X.1.p.c] 89)).alloc (.cells z22 40)).alloc (.cells #[.int .i64 0, .int .i64 0, .int .i64 0, .int .i64 0, .string ⟨#[]⟩] 53)) := (((Below.refl _ _).alloc (Nat.le_refl _) _).alloc (by simp) _).alloc (by simp; omega) _
 have HB0 := qh B0
 have HK0 := qh (h.below B0)
 have HF0 := qh (Fm.of (R := R) B0)
 have k7 : Hid ((((w.alloc (.cells #[.int .i64 X.1.k, .string (tx X.1.s), .int .i64 X.1.n, psv X, .int .i64 X.1.p.a, .int .i64 X.1.p.l, .int .i64 X.1.p.c] 89)).alloc (.cells z22 40)).alloc (.cells #[.int .i64 0, .int .i64 0, .int .i64 0, .int .i64 0, .string ⟨#[]⟩] 53)).heap[w.heap.size]? = some (.cells #[.int .i64 X.1.k, .string (tx X.1.s), .int .i64 X.1.n, psv X, .int .i64 X.1.p.a, .int .i64 X.1.p.l, .int .i64 X.1.p.c] 89 (0, 0))) := (heap_alloc_old _ _ (by simp; omega)).trans ((heap_alloc_old _ _ (by simp)).trans (heap_alloc_new w _))
 have k22 : Hid ((((w.alloc (.cells #[.int .i64 X.1.k, .string (tx X.1.s), .int .i64 X.1.n, psv X, .int .i64 X.1.p.a, .int .i64 X.1.p.l, .int .i64 X.1.p.c] 89)).alloc (.cells z22 40)).alloc (.cells #[.int .i64 0, .int .i64 0, .int .i64 0, .int .i64 0, .string ⟨#[]⟩] 53)).heap[w.heap.size + 1]? = some (.cells z22 40 (0, 0))) := (heap_alloc_old _ _ (by simp)).trans (by rw [show w.heap.size + 1 = (w.alloc (.cells #[.int .i64 X.1.k, .string (tx X.1.s), .int .i64 X.1.n, psv X, .int .i64 X.1.p.a, .int .i64 X.1.p.l, .int .i64 X.1.p.c] 89)).heap.size by simp]; exact heap_alloc_new _ _)
 have k36 : Hid ((((w.alloc (.cells #[.int .i64 X.1.k, .string (tx X.1.s), .int .i64 X.1.n, psv X, .int .i64 X.1.p.a, .int .i64 X.1.p.l, .int .i64 X.1.p.c] 89)).alloc (.cells z22 40)).alloc (.cells #[.int .i64 0, .int .i64 0, .int .i64 0, .int .i64 0, .string ⟨#[]⟩] 53)).heap[w.heap.size + 1 + 1]? = some (.cells #[.int .i64 0, .int .i64 0, .int .i64 0, .int .i64 0, .string ⟨#[]⟩] 53 (0, 0))) := by rw [show w.heap.size + 1 + 1 = ((w.alloc (.cells #[.int .i64 X.1.k, .string (tx X.1.s), .int .i64 X.1.n, psv X, .int .i64 X.1.p.a, .int .i64 X.1.p.l, .int .i64 X.1.p.c] 89)).alloc (.cells z22 40)).heap.size by simp]; exact heap_alloc_new _ _
 have HRL := qh h.lt
 have HNN := qh h.nn
 have HLT := qh hlt
 have HE := qh hE
 have HRC := qh hrec
 have HGE := qh hge
 obtain ⟨M, hM⟩ : ∃ M, labelsM KZ.cx (KZ.acc.length + 1) p [] = M := ⟨_, rfl⟩
 obtain ⟨BM, hBM⟩ : ∃ BM, blockM KZ.cx rec X.1 p = BM := ⟨_, rfl⟩
 rw [hBM]
 have HBM : Hid (BM = bkM KZ.cx rec X.1 M) := by unfold Hid; rw [← hBM, ← hM, blockM_eq, Kz.len_eq]
 have HL82 : Hid (∀ W, Kd W R KZ p → Calls Tryz.prog 158 #[.pointer (some ⟨R, 0, none⟩)] W (RdP PayL W R KZ M)) := fun W hW => by rw [← hM]; exact labels_u hW HLT.out HE.out
 rw [hM] at HGE
 have HW0 : Hid ((((w.alloc (.cells #[.int .i64 X.1.k, .string (tx X.1.s), .int .i64 X.1.n, psv X, .int .i64 X.1.p.a, .int .i64 X.1.p.l, .int .i64 X.1.p.c] 89)).alloc (.cells z22 40)).alloc (.cells #[.int .i64 0, .int .i64 0, .int .i64 0, .int .i64 0, .string ⟨#[]⟩] 53)).heap.size = w.heap.size + 3) := by unfold Hid; simp
 clear h hlt hE hrec hge B0 hM hBM
 go_enter Tryz.func128, Tryz.ntmps128
 go_upto_region 1 with fail
 generalize (((w.alloc (Obj.cells #[.int .i64 X.1.k, .string (tx X.1.s), .int .i64 X.1.n, psv X, .int .i64 X.1.p.a, .int .i64 X.1.p.l, .int .i64 X.1.p.c] 89)).alloc (Obj.cells z22 40)).alloc (Obj.cells #[.int .i64 0, .int .i64 0, .int .i64 0, .int .i64 0, .string ⟨#[]⟩] 53)) = w0 at *
 have hgi : Hid (w.heap.size ≤ w.heap.size + 1 ∧ w.heap.size ≤ w.heap.size + 1 + 1) := ⟨by omega, by omega⟩
 go_wp2_with fail
 refine (HL82.out _ HK0.out).mono ?_
 rintro e w1 ⟨v, c, q, rfl, hu, hf⟩
 have FM1 := qh (HF0.out.tr hf)
 replace k7 := qh ((hf.block _ (Array.getElem?_eq_some_iff.1 k7.out).1 (fun e => by have := Option.some.inj e; have := HRL.out; omega)).trans k7.out)
 replace k22 := qh ((hf.block _ (Array.getElem?_eq_some_iff.1 k22.out).1 (fun e => by have := Option.some.inj e; have := HRL.out; omega)).trans k22.out)
 replace k36 := qh ((hf.block _ (Array.getElem?_eq_some_iff.1 k36.out).1 (fun e => by have := Option.some.inj e; have := HRL.out; omega)).trans k36.out)
 have HW1 : Hid (w.heap.size + 3 ≤ w1.heap.size) := by rw [← HW0.out]; exact hf.size
 have HS0 : Hid (w0.heap.size = w.heap.size + 3) := HW0.out
 clear HB0 HK0 HF0 HW0 HL82 hf
 cases M with
 | error x =>
   obtain ⟨c', q'⟩ := x
   obtain ⟨-, rfl, rfl, rfl, hne⟩ := hu
   have HQE : Hid (BM = .error (c, q)) := HBM.out
   have HNE := qh hne
   have en : ((c : Int) != 0) = true := by rw [bne_iff_ne]; omega
   clear hne HBM HRC HGE
   go_upto_region 3 with fail
   have B3 : Below w1.heap.size w1 (w1.alloc (.cells #[.int .i64 (c : Int), .int .i64 q.a, .int .i64 q.l, .int .i64 q.c, .string ⟨#[]⟩] 53)) := (Below.refl _ _).alloc (Nat.le_refl _) _
   have e36 := qh (heap_alloc_new w1 (.cells #[.int .i64 (c : Int), .int .i64 q.a, .int .i64 q.l, .int .i64 q.c, .string ⟨#[]⟩] 53))
   have FM3 := qh (FM1.out.bl B3)
   have q7 := qh ((B3.block _ (Array.getElem?_eq_some_iff.1 k7.out).1).trans k7.out)
   have q22 := qh ((B3.block _ (Array.getElem?_eq_some_iff.1 k22.out).1).trans k22.out)
   have q36 := qh ((B3.block _ (Array.getElem?_eq_some_iff.1 k36.out).1).trans k36.out)
   have hn3 : w.heap.size + 3 ≤ w1.heap.size := HW1.out
   clear B3 k7 k22 k36 FM1 HW1
   generalize (w1.alloc (Obj.cells #[.int .i64 (c : Int), .int .i64 q.a, .int .i64 q.l, .int .i64 q.c, .string ⟨#[]⟩] 53)) = w3 at *
   obtain ⟨g, hg⟩ : ∃ g, w1.heap.size = g := ⟨_, rfl⟩
   rw [hg] at hn3 e36 ⊢
   clear hg
   obtain ⟨⟨d0, d1, d2, d3, d4⟩, -, hbd⟩ := rc5 e36.out
   refine wp_region_noPanic ?_
   refine wp_region_held_drew (S := (fun W => ∀ o, W.cell? ⟨g, o, none⟩ = w3.cell? ⟨g, o, none⟩)) (by kernel_rfl) ?_ (fun hH => ?_)
   · exact fun _ => rfl
   have d22 : Hid (w3.drew.heap[(w.heap.size + 1)]? = _) := q22.out
   have d36 : Hid (w3.drew.heap[(w.heap.size + 1 + 1)]? = _) := q36.out
   have dB : Hid (Below w.heap.size w3 w3.drew) := (Below.refl _ _).drew
   have dO : Hid (∀ k : Nat, w3.drew.heap[k]? = w3.heap[k]?) := fun _ => rfl
   generalize w3.drew = Ws at *
   refine wpAnyH_take (i := 0) (oi := { dst := some 17, op := Op.build 40 #[], type := 40, pos := _, after := _, guard := none }) (v := ?_) rfl (by kernel_rfl) (by kernel_rfl) (by kernel_rfl) (fun _ _ _ h => h) (Or.inl ⟨by rfl, ?_⟩) (by assumption) ?_
   rotate_left
   · (intro w hSw; (try dsimp only at hSw); go_simp; try with_reducible rfl)
   try simp only [Act.put, sqa, sqb, sqc]
   refine wpAnyH_take (i := 1) (oi := { dst := some 18, op := Op.load 53 (Operand.tmp 7), type := 53, pos := _, after := _, guard := none }) (v := ?_) rfl (by kernel_rfl) (by kernel_rfl) (by kernel_rfl) (fun _ _ _ h => h) (Or.inl ⟨by rfl, ?_⟩) (by assumption) ?_
   rotate_left
   · (intro w hSw; (try dsimp only at hSw); go_simp; try with_reducible rfl)
   try simp only [Act.put, sqa, sqb, sqc]
   refine wpAnyH_ready (rs := [2]) (by kernel_rfl) (by simp) ?_
   refine AllReadyH.cons (o := { dst := none, op := Op.store 40 (Operand.tmp 4) (Operand.tmp 17), type := 0, pos := _, after := _, guard := none }) rfl (fun K hK => ?_) AllReadyH.nil
   refine step_store_row rfl 40 (.tmp 4) (.tmp 17) rfl (w.heap.size + 1) rfl z22 rfl 40 _ d22.out (info22 rfl) rfl (by kernel_rfl) ?_
   try simp only [Act.put]
   have s22 : Hid ((Ws.setRow (w.heap.size + 1) z22).heap[(w.heap.size + 1)]? = some (.cells z22 40 (0, 0))) := setRow_heap _ _ _ _ _ _ d22.out
   have s36 := qh ((setRow_other Ws (w.heap.size + 1) (w.heap.size + 1 + 1) z22 (by omega)).trans d36.out)
   have sL := setRow_other Ws (w.heap.size + 1) g z22 (by omega)
   have sO : Hid (∀ k, k ≠ (w.heap.size + 1) → (Ws.setRow (w.heap.size + 1) z22).heap[k]? = Ws.heap[k]?) := fun k hk => setRow_other Ws (w.heap.size + 1) k z22 hk
   have sB := qh (Below.row dB.out hgi.out.1 z22)
   clear d22 d36 dB
   generalize (Ws.setRow (w.heap.size + 1) z22) = Wp at *
   refine hK.out _ _ ?_ (fun hH' => ?_)
   · exact fun o => (World.cell?_of_block (w := Ws) (w' := Wp) sL).trans (hH o)
   clear sL
   clear hK K hH
   have hH := hH'
   clear hH'
   try simp only [Act.put, sqa, sqb, sqc]
   refine wpAnyH_ready (rs := [3]) (by kernel_rfl) (by simp) ?_
   refine AllReadyH.cons (o := { dst := none, op := Op.store 53 (Operand.tmp 5) (Operand.tmp 18), type := 0, pos := _, after := _, guard := none }) rfl (fun K hK => ?_) AllReadyH.nil
   refine step_store_row rfl 53 (.tmp 5) (.tmp 18) rfl (w.heap.size + 1 + 1) rfl #[.int .i64 (c : Int), .int .i64 q.a, .int .i64 q.l, .int .i64 q.c, .string ⟨#[]⟩] rfl 53 _ s36.out (info36 rfl) rfl (by kernel_rfl) ?_
   try simp only [Act.put]
   have r36 : Hid ((Wp.setRow (w.heap.size + 1 + 1) #[.int .i64 (c : Int), .int .i64 q.a, .int .i64 q.l, .int .i64 q.c, .string ⟨#[]⟩]).heap[(w.heap.size + 1 + 1)]? = some (.cells #[.int .i64 (c : Int), .int .i64 q.a, .int .i64 q.l, .int .i64 q.c, .string ⟨#[]⟩] 53 (0, 0))) := setRow_heap _ _ _ _ _ _ s36.out
   have r22 := qh ((setRow_other Wp (w.heap.size + 1 + 1) (w.heap.size + 1) #[.int .i64 (c : Int), .int .i64 q.a, .int .i64 q.l, .int .i64 q.c, .string ⟨#[]⟩] (fun e => (show (w.heap.size + 1 + 1) ≠ (w.heap.size + 1) from (by omega)) e.symm)).trans s22.out)
   have sL := setRow_other Wp (w.heap.size + 1 + 1) g #[.int .i64 (c : Int), .int .i64 q.a, .int .i64 q.l, .int .i64 q.c, .string ⟨#[]⟩] (by omega)
   have rO : Hid (∀ k, k ≠ (w.heap.size + 1) → k ≠ (w.heap.size + 1 + 1) → (Wp.setRow (w.heap.size + 1 + 1) #[.int .i64 (c : Int), .int .i64 q.a, .int .i64 q.l, .int .i64 q.c, .string ⟨#[]⟩]).heap[k]? = w3.heap[k]?) := fun k h1 h2 => (setRow_other Wp (w.heap.size + 1 + 1) k #[.int .i64 (c : Int), .int .i64 q.a, .int .i64 q.l, .int .i64 q.c, .string ⟨#[]⟩] h2).trans ((sO.out k h1).trans (dO.out k))
   have rB := qh (Below.row sB.out hgi.out.2 #[.int .i64 (c : Int), .int .i64 q.a, .int .i64 q.l, .int .i64 q.c, .string ⟨#[]⟩])
   clear s22 s36 sO sB dO
   generalize (Wp.setRow (w.heap.size + 1 + 1) #[.int .i64 (c : Int), .int .i64 q.a, .int .i64 q.l, .int .i64 q.c, .string ⟨#[]⟩]) = Wq at *
   refine hK.out _ _ ?_ (fun hH' => ?_)
   · exact fun o => (World.cell?_of_block (w := Wp) (w' := Wq) sL).trans (hH o)
   clear sL
   clear hK K hH
   have hH := hH'
   clear hH'
   try simp only [Act.put, sqa, sqb, sqc]
   refine wpAnyH_done (by kernel_rfl) ?_ _
   refine NoPanic.normal ?_
   go_wp2_with fail
   refine bodyPost_ret (v := .tuple #[.agg z22, .agg #[.int .i64 (c : Int), .int .i64 q.a, .int .i64 q.l, .int .i64 q.c, .string ⟨#[]⟩]]) (results_rows (p := 4) (q := 5) rfl _ _ _ _ _ _ rfl rfl r22.out r36.out rfl rfl) rfl ?_
   exact BkPost.err HQE.out HNE.out (FM3.out.low rB.out)
 | ok x =>
   obtain ⟨lb, p2⟩ := x
   obtain ⟨-, hc, -, ⟨oL, cL, rfl, hrow⟩, hk, hl⟩ := hu
   have en : ((c : Int) != 0) = false := by simp [hc]
   have HQ0 : Hid (BM = if KZ.cx.has p2 4 [123] then (match rec (p2 + 1) with | .error e => .error e | .ok (l, q2) => .ok (.mk true X.1.s lb zeroX l X.1.p.ps, q2)) else .error (4, KZ.cx.at p2)) := HBM.out
   have HPQ : Hid (p ≤ p2) := HGE.out lb p2 rfl
   have HL2 := qh hl
   have HK1 := qh hk
   have HP1 := qh (hrow.keptP (P' := fun k => w.heap.size + 3 ≤ k ∧ k < w1.heap.size) (w' := w1) fun k hk => ⟨⟨by have := HS0.out; have := hk.1; omega, hk.2⟩, rfl⟩)
   clear hc hrow hk hl HBM HGE HS0
   go_wp2_with fail
   have B3 : Below w1.heap.size w1 (w1.alloc (.cells #[.int .i64 (c : Int), .int .i64 q.a, .int .i64 q.l, .int .i64 q.c, .string ⟨#[]⟩] 53)) := (Below.refl _ _).alloc (Nat.le_refl _) _
   have e36 := qh (heap_alloc_new w1 (.cells #[.int .i64 (c : Int), .int .i64 q.a, .int .i64 q.l, .int .i64 q.c, .string ⟨#[]⟩] 53))
   have FM3 := qh (FM1.out.bl B3)
   have q7 := qh ((B3.block _ (Array.getElem?_eq_some_iff.1 k7.out).1).trans k7.out)
   have q22 := qh ((B3.block _ (Array.getElem?_eq_some_iff.1 k22.out).1).trans k22.out)
   have q36 := qh ((B3.block _ (Array.getElem?_eq_some_iff.1 k36.out).1).trans k36.out)
   have hn3 : w.heap.size + 3 ≤ w1.heap.size := HW1.out
   have HK3 := qh (HK1.out.below B3)
   have HP3 := qh (HP1.out.keptP fun k hk => ⟨hk, B3.block k hk.2⟩)
   have hgw : w1.heap.size < (w1.alloc (.cells #[.int .i64 (c : Int), .int .i64 q.a, .int .i64 q.l, .int .i64 q.c, .string ⟨#[]⟩] 53)).heap.size := by simp
   clear B3 k7 k22 k36 FM1 HW1 HK1 HP1
   generalize (w1.alloc (Obj.cells #[.int .i64 (c : Int), .int .i64 q.a, .int .i64 q.l, .int .i64 q.c, .string ⟨#[]⟩] 53)) = w3 at *
   obtain ⟨g, hg⟩ : ∃ g, w1.heap.size = g := ⟨_, rfl⟩
   rw [hg] at hn3 e36 HP3 hgw ⊢
   clear hg
   have HN3 := qh (And.intro hn3 hgw)
   clear hn3 hgw
   refine (ktakes_any HK3.out HL2.out 4 [123]).mono ?_
   rintro e w4 ⟨rfl, hk4, hf4⟩
   replace q7 := qh ((hf4.block _ (Array.getElem?_eq_some_iff.1 q7.out).1 (fun e => by have := Option.some.inj e; have := HRL.out; have := HN3.out; omega)).trans q7.out)
   replace q22 := qh ((hf4.block _ (Array.getElem?_eq_some_iff.1 q22.out).1 (fun e => by have := Option.some.inj e; have := HRL.out; have := HN3.out; omega)).trans q22.out)
   replace q36 := qh ((hf4.block _ (Array.getElem?_eq_some_iff.1 q36.out).1 (fun e => by have := Option.some.inj e; have := HRL.out; have := HN3.out; omega)).trans q36.out)
   replace e36 := qh ((hf4.block _ (Array.getElem?_eq_some_iff.1 e36.out).1 (fun e => by have := Option.some.inj e; have := HRL.out; have := HN3.out; omega)).trans e36.out)
   have HP4 := qh (HP3.out.keptP fun k hk => ⟨hk, hf4.block k (by have := HN3.out; have := hk.2; omega) (fun e => by have := Option.some.inj e; have := HRL.out; have := hk.1; omega)⟩)
   have FM4 := qh (FM3.out.tr hf4)
   have HN4 : Hid (w.heap.size + 3 ≤ g ∧ g < w4.heap.size) := ⟨HN3.out.1, Nat.lt_of_lt_of_le HN3.out.2 hf4.size⟩
   clear hf4 HP3 FM3 HN3 HK3
   obtain ⟨bb, hbb⟩ : ∃ b, KZ.cx.has p2 4 [123] = b := ⟨_, rfl⟩
   have HBB := qh hbb
   rw [hbb] at hk4 HQ0 ⊢
   clear hbb
   cases bb with
   | false =>
     have HK4 : Hid (Kd w4 R KZ p2) := hk4
     have HQE : Hid (BM = .error (4, KZ.cx.at p2)) := HQ0.out
     clear hk4 HQ0 HBB HRC
     go_wp2_with fail
     refine (wrong_any HK4.out HL2.out 4).mono ?_
     rintro e w5 ⟨rfl, b5⟩
     generalize KZ.cx.at p2 = qa at *
     have FM5 := qh (FM4.out.bl b5)
     replace q22 := qh ((b5.block _ (Array.getElem?_eq_some_iff.1 q22.out).1).trans q22.out)
     replace q36 := qh ((b5.block _ (Array.getElem?_eq_some_iff.1 q36.out).1).trans q36.out)
     clear b5 FM4 HP4 HK4 q7 e36
     go_wp2_with (first
      | (refine wpList_store_row rfl 40 (.tmp 4) (.tmp 22) rfl (w.heap.size + 1) z22 rfl (by kernel_rfl) 40 _ q22.out (info22 rfl) rfl (by kernel_rfl) ?_
         have s22 : Hid ((w5.setRow (w.heap.size + 1) z22).heap[(w.heap.size + 1)]? = some (.cells z22 40 (0, 0))) := setRow_heap _ _ _ _ _ _ q22.out
         have s36 := qh ((setRow_other w5 (w.heap.size + 1) (w.heap.size + 1 + 1) z22 (by omega)).trans q36.out)
         have sO : Hid (∀ k, k ≠ (w.heap.size + 1) → (w5.setRow (w.heap.size + 1) z22).heap[k]? = w5.heap[k]?) := fun k hk => setRow_other w5 (w.heap.size + 1) k z22 hk
         have sB := qh (Below.row (Below.refl w.heap.size w5) hgi.out.1 z22)
         generalize w5.setRow (w.heap.size + 1) z22 = wy at *)
      | (refine wpList_store_row rfl 53 (.tmp 5) (.tmp 24) rfl (w.heap.size + 1 + 1) #[.int .i64 ((4 : Nat) : Int), .int .i64 qa.a, .int .i64 qa.l, .int .i64 qa.c, .string ⟨#[]⟩] rfl (by kernel_rfl) 53 _ s36.out (info36 rfl) rfl (by kernel_rfl) ?_
         have r36 : Hid ((wy.setRow (w.heap.size + 1 + 1) #[.int .i64 ((4 : Nat) : Int), .int .i64 qa.a, .int .i64 qa.l, .int .i64 qa.c, .string ⟨#[]⟩]).heap[(w.heap.size + 1 + 1)]? = some (.cells #[.int .i64 ((4 : Nat) : Int), .int .i64 qa.a, .int .i64 qa.l, .int .i64 qa.c, .string ⟨#[]⟩] 53 (0, 0))) := setRow_heap _ _ _ _ _ _ s36.out
         have r22 := qh ((setRow_other wy (w.heap.size + 1 + 1) (w.heap.size + 1) #[.int .i64 ((4 : Nat) : Int), .int .i64 qa.a, .int .i64 qa.l, .int .i64 qa.c, .string ⟨#[]⟩] (by omega)).trans s22.out)
         have rO : Hid (∀ k, k ≠ (w.heap.size + 1) → k ≠ (w.heap.size + 1 + 1) → (wy.setRow (w.heap.size + 1 + 1) #[.int .i64 ((4 : Nat) : Int), .int .i64 qa.a, .int .i64 qa.l, .int .i64 qa.c, .string ⟨#[]⟩]).heap[k]? = w5.heap[k]?) := fun k h1 h2 => (setRow_other wy (w.heap.size + 1 + 1) k #[.int .i64 ((4 : Nat) : Int), .int .i64 qa.a, .int .i64 qa.l, .int .i64 qa.c, .string ⟨#[]⟩] h2).trans (sO.out k h1)
         have rB := qh (Below.row sB.out hgi.out.2 #[.int .i64 ((4 : Nat) : Int), .int .i64 qa.a, .int .i64 qa.l, .int .i64 qa.c, .string ⟨#[]⟩])
         clear s22 s36 sO sB
         generalize wy.setRow (w.heap.size + 1 + 1) #[.int .i64 ((4 : Nat) : Int), .int .i64 qa.a, .int .i64 qa.l, .int .i64 qa.c, .string ⟨#[]⟩] = wz at *))
     refine bodyPost_ret (v := .tuple #[.agg z22, .agg #[.int .i64 ((4 : Nat) : Int), .int .i64 qa.a, .int .i64 qa.l, .int .i64 qa.c, .string ⟨#[]⟩]]) (results_rows (p := 4) (q := 5) rfl _ _ _ _ _ _ rfl rfl r22.out r36.out rfl rfl) rfl ?_
     exact BkPost.err HQE.out (by decide) (FM5.out.low rB.out)
   | true =>
     have HK4 : Hid (Kd w4 R KZ (p2 + 1)) := hk4
     have HL4 : Hid (p2 + 1 < KZ.acc.length) := HE.out p2 HL2.out (by have := HBB.out; rw [Kz.has_eq] at this; simp at this; omega)
     have HQ1 : Hid (BM = match rec (p2 + 1) with | .error e => .error e | .ok (l, q2) => .ok (.mk true X.1.s lb zeroX l X.1.p.ps, q2)) := HQ0.out
     clear hk4 HQ0 HBB
     go_wp2_with fail
     refine (HRC.out w4 (p2 + 1) (by have := HPQ.out; omega) HK4.out HL4.out).mono ?_
     rintro e w5 ⟨v2, c2, q2, rfl, hu2, hf2⟩
     replace q7 := qh ((hf2.block _ (Array.getElem?_eq_some_iff.1 q7.out).1 (fun e => by have := Option.some.inj e; have := HRL.out; have := HN4.out; omega)).trans q7.out)
     replace q22 := qh ((hf2.block _ (Array.getElem?_eq_some_iff.1 q22.out).1 (fun e => by have := Option.some.inj e; have := HRL.out; have := HN4.out; omega)).trans q22.out)
     replace q36 := qh ((hf2.block _ (Array.getElem?_eq_some_iff.1 q36.out).1 (fun e => by have := Option.some.inj e; have := HRL.out; have := HN4.out; omega)).trans q36.out)
     replace e36 := qh ((hf2.block _ (Array.getElem?_eq_some_iff.1 e36.out).1 (fun e => by have := Option.some.inj e; have := HRL.out; have := HN4.out; omega)).trans e36.out)
     have HP5 := qh (HP4.out.keptP fun k hk => ⟨hk, hf2.block k (by have := HN4.out; have := hk.2; omega) (fun e => by have := Option.some.inj e; have := HRL.out; have := hk.1; omega)⟩)
     have FM5 := qh (FM4.out.tr hf2)
     clear hf2 HP4 FM4 HK4
     generalize rec (p2 + 1) = RM at *
     have hn4 := HN4.out
     cases RM with
     | error x =>
       obtain ⟨c', q'⟩ := x
       obtain ⟨-, rfl, rfl, rfl, hne⟩ := hu2
       have HQE : Hid (BM = .error (c2, q2)) := HQ1.out
       have HNE := qh hne
       have en2 : ((c2 : Int) != 0) = true := by rw [bne_iff_ne]; omega
       clear hne HQ1 HRC HP5
       go_upto_region 8 with (first
        | (refine wpList_store_row rfl 53 (.tmp 7) (.tmp 29) rfl g #[.int .i64 (c2 : Int), .int .i64 q2.a, .int .i64 q2.l, .int .i64 q2.c, .string ⟨#[]⟩] rfl (by kernel_rfl) 53 _ e36.out (info36 rfl) rfl (by kernel_rfl) ?_
           have e36 : Hid ((w5.setRow g #[.int .i64 (c2 : Int), .int .i64 q2.a, .int .i64 q2.l, .int .i64 q2.c, .string ⟨#[]⟩]).heap[g]? = some (.cells #[.int .i64 (c2 : Int), .int .i64 q2.a, .int .i64 q2.l, .int .i64 q2.c, .string ⟨#[]⟩] 53 (0, 0))) := setRow_heap _ _ _ _ _ _ e36.out
           have FM6 := qh (FM5.out.low (Below.row (b := g) (Below.refl w.heap.size w5) (by have := HN4.out; omega) #[.int .i64 (c2 : Int), .int .i64 q2.a, .int .i64 q2.l, .int .i64 q2.c, .string ⟨#[]⟩]))
           replace q7 := qh ((setRow_other w5 g w.heap.size #[.int .i64 (c2 : Int), .int .i64 q2.a, .int .i64 q2.l, .int .i64 q2.c, .string ⟨#[]⟩] (by have := HN4.out; omega)).trans q7.out)
           replace q22 := qh ((setRow_other w5 g (w.heap.size + 1) #[.int .i64 (c2 : Int), .int .i64 q2.a, .int .i64 q2.l, .int .i64 q2.c, .string ⟨#[]⟩] (by have := HN4.out; omega)).trans q22.out)
           replace q36 := qh ((setRow_other w5 g (w.heap.size + 1 + 1) #[.int .i64 (c2 : Int), .int .i64 q2.a, .int .i64 q2.l, .int .i64 q2.c, .string ⟨#[]⟩] (by have := HN4.out; omega)).trans q36.out)
           obtain ⟨⟨d0, d1, d2, d3, d4⟩, -, hbd⟩ := rc5 e36.out
           generalize w5.setRow g #[.int .i64 (c2 : Int), .int .i64 q2.a, .int .i64 q2.l, .int .i64 q2.c, .string ⟨#[]⟩] = w6 at *))
       refine wp_region_noPanic ?_
       refine wp_region_held_drew (S := (fun W => ∀ o, W.cell? ⟨g, o, none⟩ = w6.cell? ⟨g, o, none⟩)) (by kernel_rfl) ?_ (fun hH => ?_)
       · exact fun _ => rfl
       have d22 : Hid (w6.drew.heap[(w.heap.size + 1)]? = _) := q22.out
       have d36 : Hid (w6.drew.heap[(w.heap.size + 1 + 1)]? = _) := q36.out
       have dB : Hid (Below w.heap.size w6 w6.drew) := (Below.refl _ _).drew
       have dO : Hid (∀ k : Nat, w6.drew.heap[k]? = w6.heap[k]?) := fun _ => rfl
       generalize w6.drew = Ws at *
       refine wpAnyH_take (i := 0) (oi := { dst := some 33, op := Op.build 40 #[], type := 40, pos := _, after := _, guard := none }) (v := ?_) rfl (by kernel_rfl) (by kernel_rfl) (by kernel_rfl) (fun _ _ _ h => h) (Or.inl ⟨by rfl, ?_⟩) (by assumption) ?_
       rotate_left
       · (intro w hSw; (try dsimp only at hSw); go_simp; try with_reducible rfl)
       try simp only [Act.put, sqa, sqb, sqc]
       refine wpAnyH_take (i := 1) (oi := { dst := some 34, op := Op.load 53 (Operand.tmp 7), type := 53, pos := _, after := _, guard := none }) (v := ?_) rfl (by kernel_rfl) (by kernel_rfl) (by kernel_rfl) (fun _ _ _ h => h) (Or.inl ⟨by rfl, ?_⟩) (by assumption) ?_
       rotate_left
       · (intro w hSw; (try dsimp only at hSw); go_simp; try with_reducible rfl)
       try simp only [Act.put, sqa, sqb, sqc]
       refine wpAnyH_ready (rs := [2]) (by kernel_rfl) (by simp) ?_
       refine AllReadyH.cons (o := { dst := none, op := Op.store 40 (Operand.tmp 4) (Operand.tmp 33), type := 0, pos := _, after := _, guard := none }) rfl (fun K hK => ?_) AllReadyH.nil
       refine step_store_row rfl 40 (.tmp 4) (.tmp 33) rfl (w.heap.size + 1) rfl z22 rfl 40 _ d22.out (info22 rfl) rfl (by kernel_rfl) ?_
       try simp only [Act.put]
       have s22 : Hid ((Ws.setRow (w.heap.size + 1) z22).heap[(w.heap.size + 1)]? = some (.cells z22 40 (0, 0))) := setRow_heap _ _ _ _ _ _ d22.out
       have s36 := qh ((setRow_other Ws (w.heap.size + 1) (w.heap.size + 1 + 1) z22 (by omega)).trans d36.out)
       have sL := setRow_other Ws (w.heap.size + 1) g z22 (by omega)
       have sO : Hid (∀ k, k ≠ (w.heap.size + 1) → (Ws.setRow (w.heap.size + 1) z22).heap[k]? = Ws.heap[k]?) := fun k hk => setRow_other Ws (w.heap.size + 1) k z22 hk
       have sB := qh (Below.row dB.out hgi.out.1 z22)
       clear d22 d36 dB
       generalize (Ws.setRow (w.heap.size + 1) z22) = Wp at *
       refine hK.out _ _ ?_ (fun hH' => ?_)
       · exact fun o => (World.cell?_of_block (w := Ws) (w' := Wp) sL).trans (hH o)
       clear sL
       clear hK K hH
       have hH := hH'
       clear hH'
       try simp only [Act.put, sqa, sqb, sqc]
       refine wpAnyH_ready (rs := [3]) (by kernel_rfl) (by simp) ?_
       refine AllReadyH.cons (o := { dst := none, op := Op.store 53 (Operand.tmp 5) (Operand.tmp 34), type := 0, pos := _, after := _, guard := none }) rfl (fun K hK => ?_) AllReadyH.nil
       refine step_store_row rfl 53 (.tmp 5) (.tmp 34) rfl (w.heap.size + 1 + 1) rfl #[.int .i64 (c2 : Int), .int .i64 q2.a, .int .i64 q2.l, .int .i64 q2.c, .string ⟨#[]⟩] rfl 53 _ s36.out (info36 rfl) rfl (by kernel_rfl) ?_
       try simp only [Act.put]
       have r36 : Hid ((Wp.setRow (w.heap.size + 1 + 1) #[.int .i64 (c2 : Int), .int .i64 q2.a, .int .i64 q2.l, .int .i64 q2.c, .string ⟨#[]⟩]).heap[(w.heap.size + 1 + 1)]? = some (.cells #[.int .i64 (c2 : Int), .int .i64 q2.a, .int .i64 q2.l, .int .i64 q2.c, .string ⟨#[]⟩] 53 (0, 0))) := setRow_heap _ _ _ _ _ _ s36.out
       have r22 := qh ((setRow_other Wp (w.heap.size + 1 + 1) (w.heap.size + 1) #[.int .i64 (c2 : Int), .int .i64 q2.a, .int .i64 q2.l, .int .i64 q2.c, .string ⟨#[]⟩] (fun e => (show (w.heap.size + 1 + 1) ≠ (w.heap.size + 1) from (by omega)) e.symm)).trans s22.out)
       have sL := setRow_other Wp (w.heap.size + 1 + 1) g #[.int .i64 (c2 : Int), .int .i64 q2.a, .int .i64 q2.l, .int .i64 q2.c, .string ⟨#[]⟩] (by omega)
       have rO : Hid (∀ k, k ≠ (w.heap.size + 1) → k ≠ (w.heap.size + 1 + 1) → (Wp.setRow (w.heap.size + 1 + 1) #[.int .i64 (c2 : Int), .int .i64 q2.a, .int .i64 q2.l, .int .i64 q2.c, .string ⟨#[]⟩]).heap[k]? = w6.heap[k]?) := fun k h1 h2 => (setRow_other Wp (w.heap.size + 1 + 1) k #[.int .i64 (c2 : Int), .int .i64 q2.a, .int .i64 q2.l, .int .i64 q2.c, .string ⟨#[]⟩] h2).trans ((sO.out k h1).trans (dO.out k))
       have rB := qh (Below.row sB.out hgi.out.2 #[.int .i64 (c2 : Int), .int .i64 q2.a, .int .i64 q2.l, .int .i64 q2.c, .string ⟨#[]⟩])
       clear s22 s36 sO sB dO
       generalize (Wp.setRow (w.heap.size + 1 + 1) #[.int .i64 (c2 : Int), .int .i64 q2.a, .int .i64 q2.l, .int .i64 q2.c, .string ⟨#[]⟩]) = Wq at *
       refine hK.out _ _ ?_ (fun hH' => ?_)
       · exact fun o => (World.cell?_of_block (w := Wp) (w' := Wq) sL).trans (hH o)
       clear sL
       clear hK K hH
       have hH := hH'
       clear hH'
       try simp only [Act.put, sqa, sqb, sqc]
       refine wpAnyH_done (by kernel_rfl) ?_ _
       refine NoPanic.normal ?_
       go_wp2_with fail
       refine bodyPost_ret (v := .tuple #[.agg z22, .agg #[.int .i64 (c2 : Int), .int .i64 q2.a, .int .i64 q2.l, .int .i64 q2.c, .string ⟨#[]⟩]]) (results_rows (p := 4) (q := 5) rfl _ _ _ _ _ _ rfl rfl r22.out r36.out rfl rfl) rfl ?_
       exact BkPost.err HQE.out HNE.out (FM6.out.low rB.out)
     | ok x =>
       obtain ⟨l, q3⟩ := x
       obtain ⟨-, hc2, -, ⟨oI, cI, d, rfl, hrI, hxI⟩, hk5, hl5⟩ := hu2
       have HQE : Hid (BM = .ok (.mk true X.1.s lb zeroX l X.1.p.ps, q3)) := HQ1.out
       have HS5 : Hid (g < w5.heap.size) := (Array.getElem?_eq_some_iff.1 e36.out).1
       have en2 : ((c2 : Int) != 0) = false := by simp [hc2]
       have HK5 := qh hk5
       have HL5 := qh hl5
       have HRI := qh hrI
       have HXI := qh hxI
       clear hc2 hk5 hl5 hrI hxI HQ1 HRC
       go_wp2_with (first
        | (refine wpList_store_row rfl 53 (.tmp 7) (.tmp 29) rfl g #[.int .i64 (c2 : Int), .int .i64 q2.a, .int .i64 q2.l, .int .i64 q2.c, .string ⟨#[]⟩] rfl (by kernel_rfl) 53 _ e36.out (info36 rfl) rfl (by kernel_rfl) ?_
           have e36 : Hid ((w5.setRow g #[.int .i64 (c2 : Int), .int .i64 q2.a, .int .i64 q2.l, .int .i64 q2.c, .string ⟨#[]⟩]).heap[g]? = some (.cells #[.int .i64 (c2 : Int), .int .i64 q2.a, .int .i64 q2.l, .int .i64 q2.c, .string ⟨#[]⟩] 53 (0, 0))) := setRow_heap _ _ _ _ _ _ e36.out
           have FM6 := qh (FM5.out.low (Below.row (b := g) (Below.refl w.heap.size w5) (by have := HN4.out; omega) #[.int .i64 (c2 : Int), .int .i64 q2.a, .int .i64 q2.l, .int .i64 q2.c, .string ⟨#[]⟩]))
           replace q7 := qh ((setRow_other w5 g w.heap.size #[.int .i64 (c2 : Int), .int .i64 q2.a, .int .i64 q2.l, .int .i64 q2.c, .string ⟨#[]⟩] (by have := HN4.out; omega)).trans q7.out)
           replace q22 := qh ((setRow_other w5 g (w.heap.size + 1) #[.int .i64 (c2 : Int), .int .i64 q2.a, .int .i64 q2.l, .int .i64 q2.c, .string ⟨#[]⟩] (by have := HN4.out; omega)).trans q22.out)
           replace q36 := qh ((setRow_other w5 g (w.heap.size + 1 + 1) #[.int .i64 (c2 : Int), .int .i64 q2.a, .int .i64 q2.l, .int .i64 q2.c, .string ⟨#[]⟩] (by have := HN4.out; omega)).trans q36.out)
           have HK6 := qh (HK5.out.low (Below.row (b := g) (Below.refl w.heap.size w5) (by have := HN4.out; omega) #[.int .i64 (c2 : Int), .int .i64 q2.a, .int .i64 q2.l, .int .i64 q2.c, .string ⟨#[]⟩]) HRL.out HNN.out)
           have kp : ∀ k, k ≠ g → (w5.setRow g #[.int .i64 (c2 : Int), .int .i64 q2.a, .int .i64 q2.l, .int .i64 q2.c, .string ⟨#[]⟩]).heap[k]? = w5.heap[k]? := fun k hk => setRow_other w5 g k #[.int .i64 (c2 : Int), .int .i64 q2.a, .int .i64 q2.l, .int .i64 q2.c, .string ⟨#[]⟩] hk
           have s65 : w5.heap.size ≤ (w5.setRow g #[.int .i64 (c2 : Int), .int .i64 q2.a, .int .i64 q2.l, .int .i64 q2.c, .string ⟨#[]⟩]).heap.size := by rw [size_setRow]; exact Nat.le_refl _
           have KP := qh kp
           have S65 := qh s65
           clear kp s65
           obtain ⟨⟨t0, t1, t2, t3, t4, t5, t6⟩, -, hbt⟩ := rc7 q7.out
           clear t0 t2 t3
           obtain ⟨⟨d0, d1, d2, d3, d4⟩, -, hbd⟩ := rc5 e36.out
           generalize w5.setRow g #[.int .i64 (c2 : Int), .int .i64 q2.a, .int .i64 q2.l, .int .i64 q2.c, .string ⟨#[]⟩] = w6 at *)
        | (refine wpList_store_row rfl 40 (.tmp 4) (.tmp 41) rfl (w.heap.size + 1) #[.bool true, .string (tx X.1.s), .slice oL lb.length cL, .int .i64 0, .string ⟨#[]⟩, .string ⟨#[]⟩, .int .i64 0, .int .i64 0, .string ⟨#[]⟩, .slice none 0 0, .slice none 0 0, .int .i64 0, .int .i64 0, .bool false, .slice none 0 0, .int .i64 0, .int .i64 0, .int .i64 0, .slice oI l.length cI, .int .i64 X.1.p.a, .int .i64 X.1.p.l, .int .i64 X.1.p.c] rfl (by kernel_rfl) 40 _ q22.out (info22 rfl) rfl (by kernel_rfl) ?_
           have s22 : Hid ((w6.setRow (w.heap.size + 1) #[.bool true, .string (tx X.1.s), .slice oL lb.length cL, .int .i64 0, .string ⟨#[]⟩, .string ⟨#[]⟩, .int .i64 0, .int .i64 0, .string ⟨#[]⟩, .slice none 0 0, .slice none 0 0, .int .i64 0, .int .i64 0, .bool false, .slice none 0 0, .int .i64 0, .int .i64 0, .int .i64 0, .slice oI l.length cI, .int .i64 X.1.p.a, .int .i64 X.1.p.l, .int .i64 X.1.p.c]).heap[(w.heap.size + 1)]? = some (.cells #[.bool true, .string (tx X.1.s), .slice oL lb.length cL, .int .i64 0, .string ⟨#[]⟩, .string ⟨#[]⟩, .int .i64 0, .int .i64 0, .string ⟨#[]⟩, .slice none 0 0, .slice none 0 0, .int .i64 0, .int .i64 0, .bool false, .slice none 0 0, .int .i64 0, .int .i64 0, .int .i64 0, .slice oI l.length cI, .int .i64 X.1.p.a, .int .i64 X.1.p.l, .int .i64 X.1.p.c] 40 (0, 0))) := setRow_heap _ _ _ _ _ _ q22.out
           have s36 := qh ((setRow_other w6 (w.heap.size + 1) (w.heap.size + 1 + 1) #[.bool true, .string (tx X.1.s), .slice oL lb.length cL, .int .i64 0, .string ⟨#[]⟩, .string ⟨#[]⟩, .int .i64 0, .int .i64 0, .string ⟨#[]⟩, .slice none 0 0, .slice none 0 0, .int .i64 0, .int .i64 0, .bool false, .slice none 0 0, .int .i64 0, .int .i64 0, .int .i64 0, .slice oI l.length cI, .int .i64 X.1.p.a, .int .i64 X.1.p.l, .int .i64 X.1.p.c] (by omega)).trans q36.out)
           have sO : Hid (∀ k, k ≠ (w.heap.size + 1) → (w6.setRow (w.heap.size + 1) #[.bool true, .string (tx X.1.s), .slice oL lb.length cL, .int .i64 0, .string ⟨#[]⟩, .string ⟨#[]⟩, .int .i64 0, .int .i64 0, .string ⟨#[]⟩, .slice none 0 0, .slice none 0 0, .int .i64 0, .int .i64 0, .bool false, .slice none 0 0, .int .i64 0, .int .i64 0, .int .i64 0, .slice oI l.length cI, .int .i64 X.1.p.a, .int .i64 X.1.p.l, .int .i64 X.1.p.c]).heap[k]? = w6.heap[k]?) := fun k hk => setRow_other w6 (w.heap.size + 1) k #[.bool true, .string (tx X.1.s), .slice oL lb.length cL, .int .i64 0, .string ⟨#[]⟩, .string ⟨#[]⟩, .int .i64 0, .int .i64 0, .string ⟨#[]⟩, .slice none 0 0, .slice none 0 0, .int .i64 0, .int .i64 0, .bool false, .slice none 0 0, .int .i64 0, .int .i64 0, .int .i64 0, .slice oI l.length cI, .int .i64 X.1.p.a, .int .i64 X.1.p.l, .int .i64 X.1.p.c] hk
           have sB := qh (Below.row (Below.refl w.heap.size w6) hgi.out.1 #[.bool true, .string (tx X.1.s), .slice oL lb.length cL, .int .i64 0, .string ⟨#[]⟩, .string ⟨#[]⟩, .int .i64 0, .int .i64 0, .string ⟨#[]⟩, .slice none 0 0, .slice none 0 0, .int .i64 0, .int .i64 0, .bool false, .slice none 0 0, .int .i64 0, .int .i64 0, .int .i64 0, .slice oI l.length cI, .int .i64 X.1.p.a, .int .i64 X.1.p.l, .int .i64 X.1.p.c])
           clear t1 t4 t5 t6 hbt d0 d1 d2 d3 d4 hbd
           generalize w6.setRow (w.heap.size + 1) #[.bool true, .string (tx X.1.s), .slice oL lb.length cL, .int .i64 0, .string ⟨#[]⟩, .string ⟨#[]⟩, .int .i64 0, .int .i64 0, .string ⟨#[]⟩, .slice none 0 0, .slice none 0 0, .int .i64 0, .int .i64 0, .bool false, .slice none 0 0, .int .i64 0, .int .i64 0, .int .i64 0, .slice oI l.length cI, .int .i64 X.1.p.a, .int .i64 X.1.p.l, .int .i64 X.1.p.c] = wy at *)
        | (refine wpList_store_row rfl 53 (.tmp 5) (.tmp 42) rfl (w.heap.size + 1 + 1) #[.int .i64 0, .int .i64 0, .int .i64 0, .int .i64 0, .string ⟨#[]⟩] rfl (by kernel_rfl) 53 _ s36.out (info36 rfl) rfl (by kernel_rfl) ?_
           have r36 : Hid ((wy.setRow (w.heap.size + 1 + 1) #[.int .i64 0, .int .i64 0, .int .i64 0, .int .i64 0, .string ⟨#[]⟩]).heap[(w.heap.size + 1 + 1)]? = some (.cells #[.int .i64 0, .int .i64 0, .int .i64 0, .int .i64 0, .string ⟨#[]⟩] 53 (0, 0))) := setRow_heap _ _ _ _ _ _ s36.out
           have r22 := qh ((setRow_other wy (w.heap.size + 1 + 1) (w.heap.size + 1) #[.int .i64 0, .int .i64 0, .int .i64 0, .int .i64 0, .string ⟨#[]⟩] (by omega)).trans s22.out)
           have rO : Hid (∀ k, k ≠ (w.heap.size + 1) → k ≠ (w.heap.size + 1 + 1) → (wy.setRow (w.heap.size + 1 + 1) #[.int .i64 0, .int .i64 0, .int .i64 0, .int .i64 0, .string ⟨#[]⟩]).heap[k]? = w6.heap[k]?) := fun k h1 h2 => (setRow_other wy (w.heap.size + 1 + 1) k #[.int .i64 0, .int .i64 0, .int .i64 0, .int .i64 0, .string ⟨#[]⟩] h2).trans (sO.out k h1)
           have rB := qh (Below.row sB.out hgi.out.2 #[.int .i64 0, .int .i64 0, .int .i64 0, .int .i64 0, .string ⟨#[]⟩])
           clear s22 s36 sO sB
           generalize wy.setRow (w.heap.size + 1 + 1) #[.int .i64 0, .int .i64 0, .int .i64 0, .int .i64 0, .string ⟨#[]⟩] = wz at *))
       refine bodyPost_ret (v := .tuple #[.agg #[.bool true, .string (tx X.1.s), .slice oL lb.length cL, .int .i64 0, .string ⟨#[]⟩, .string ⟨#[]⟩, .int .i64 0, .int .i64 0, .string ⟨#[]⟩, .slice none 0 0, .slice none 0 0, .int .i64 0, .int .i64 0, .bool false, .slice none 0 0, .int .i64 0, .int .i64 0, .int .i64 0, .slice oI l.length cI, .int .i64 X.1.p.a, .int .i64 X.1.p.l, .int .i64 X.1.p.c], .agg #[.int .i64 0, .int .i64 0, .int .i64 0, .int .i64 0, .string ⟨#[]⟩]]) (results_rows (p := 4) (q := 5) rfl _ _ _ _ _ _ rfl rfl r22.out r36.out rfl rfl) rfl ?_
       rw [HQE.out]
       have h1 := HRL.out
       have h2 := HNN.out
       have h3 : w6.heap.size ≤ wz.heap.size := rB.out.size
       have h4 := S65.out
       have T : ∀ k, w.heap.size + 3 ≤ k → k ≠ g → wz.heap[k]? = w5.heap[k]? := fun k a b => (rO.out k (by omega) (by omega)).trans (KP.out k b)
       exact ⟨⟨oL, cL, none, 0, none, 0, none, 0, oI, cI, rfl, IP.mk (.mk true X.1.s lb zeroX l X.1.p.ps) oL none none none oI cL 0 0 0 cI d (HP5.out.keptP fun k hk => ⟨⟨by have := hk.1; omega, by have := hk.2; have := HS5.out; omega⟩, T k hk.1 (by have := hk.2; omega)⟩) (xp_zero _ _) (HRI.out.keptP fun k hk => ⟨⟨by have := hk.1; omega, by have := hk.2; omega⟩, T k (by have := hk.1; omega) (by have := hk.1; omega)⟩) (fun j x hx => (HXI.out j x hx).keptP fun k hk => ⟨⟨by have := hk.1; omega, by have := hk.2; omega⟩, T k (by have := hk.1; omega) (by have := hk.1; omega)⟩), HK6.out.low rB.out HRL.out HNN.out, HL5.out⟩, FM6.out.low rB.out, rfl⟩
end Go.Proofs.YtncjncacfagldaaGreatDoor

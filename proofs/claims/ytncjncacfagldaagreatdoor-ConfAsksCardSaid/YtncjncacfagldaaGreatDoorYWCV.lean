import Derived.Test.YtncjncacfagldaaGreatDoorYWCK
import Derived.Test.YtncjncacfagldaaGreatDoorYWXN
namespace Go.Proofs.YtncjncacfagldaaGreatDoor
open Go.RowKit Go.Lib

theorem fs_none {C : Cx} {p : Nat} (hk : (C.tk p).k = 0) (m : Nat) : ((fs C (m + 3)).ex ⟨p, 0, ps0⟩).2.e ≠ 0 := by
 have hs : C.sign ⟨p, 0, ps0⟩ = sg0 := by unfold Cx.sign; rw [if_neg (by show ¬ (C.tk p).k = 4; omega)]
 have hf : (firstM C (fs C m) ⟨p, 0, ps0⟩).2.e ≠ 0 := by
  unfold firstM
  rw [hs, if_neg (by show ¬ (C.tk p).k = 1; omega), if_neg (by show ¬ (C.tk p).k = 2; omega), if_neg (by show ¬ (C.tk p).k = 3; omega), if_neg (by decide), if_neg (by decide), if_neg (by decide)]
  exact stray_e C _
 have hu : ((fs C (m + 1)).un ⟨p, 0, ps0⟩).2.e ≠ 0 := by
  show (unaryM C (fs C m) ⟨p, 0, ps0⟩).2.e ≠ 0
  unfold unaryM
  rw [hs, if_pos (by decide)]
  exact postL_e C (fs_e C m) _ _ hf
 have hj : ((fs C (m + 2)).jo 1 ⟨p, 0, ps0⟩).2.e ≠ 0 := joinL_e C (fs_e C (m + 1)) 1 _ _ _ hu
 show (exprM C (fs C (m + 2)) ⟨p, 0, ps0⟩).2.e ≠ 0
 unfold exprM
 dsimp only
 split
 · exact (fs_e C (m + 2)).ex (wants_e C ((fs_e C (m + 2)).ex (pass_e hj)) _ _)
 · exact hj
theorem read_at {C : Cx} {n : Nat} (hL : C.L.length = n + 1) (hz : ∀ i, n ≤ i → (C.tk i).k = 0) (hinn : ∀ l h h', (C.inn l h).2.1 = 0 → (C.inn l h').2.1 = 0 ∧ bareX (C.inn l h).1 = bareX (C.inn l h').1) (p : Nat) (h : (readM C p).2.2.1 = 0) : p ≤ (readM C p).2.1 ∧ (readM C p).2.1 < C.L.length := by
 have he : ((fs C (3 * C.L.length + 3)).ex ⟨p, 0, ps0⟩).2.e = 0 ∧ (readM C p).2.1 = ((fs C (3 * C.L.length + 3)).ex ⟨p, 0, ps0⟩).2.p := by
  unfold readM at h ⊢
  dsimp only at h ⊢
  generalize (fs C (3 * C.L.length + 3)).ex ⟨p, 0, ps0⟩ = E at h ⊢
  generalize C.pl ⟨p, 0, ps0⟩ = f at h ⊢
  by_cases hd : E.2.e = 0 ∧ 24 < xdp E.1
  · rw [show judgeC E.1 E.2 f = (12, f) from if_pos hd] at h
    simp at h
  · rw [show judgeC E.1 E.2 f = (E.2.e, E.2.q) from if_neg hd] at h ⊢
    by_cases h0 : E.2.e = 0
    · simp [h0]
    · simp [h0] at h
 rw [he.2]
 by_cases hp : n ≤ p
 · exact absurd he.1 (fs_none (hz p hp) _)
 · have hr : Rel 0 n C C := ⟨fun i _ => ⟨rfl, rfl, rfl, rfl⟩, hz, fun h4 => by have := hz n (Nat.le_refl _); rw [Nat.add_zero] at h4; omega, hinn, by omega, by omega⟩
   have := (fs_oc hr (3 * C.L.length + 3) (3 * C.L.length + 3)).ex (s := ⟨p, 0, ps0⟩) (t := ⟨p, 0, ps0⟩) ⟨rfl, rfl, rfl, by show p ≤ n; omega⟩ (by rw [hL]; show 3 * (n - p) + 3 ≤ _; omega)
   rcases this with h1 | ⟨h1, h2, -⟩
   · exact absurd he.1 h1
   · exact ⟨h2, by have := h1.n; omega⟩
open Go.RowKit Go.Lib

theorem idpL_app (l : List It) (x : It) : idpL (l ++ [x]) = max (idpL l) (idp x) := by
 induction l with
 | nil => show max (idp x) 0 = max 0 (idp x); omega
 | cons c r ih => show max (idp c) (idpL (r ++ [x])) = max (max (idp c) (idpL r)) (idp x); rw [ih]; omega
theorem itemM_d {C : Cx} {rec : Nat → Res (List It)} {m : Nat} (hrec : ∀ p l q, rec p = .ok (l, q) → idpL l ≤ m) {acc : List It} {p : Nat} {x : It} {q : Nat} (h : itemM C rec acc p = .ok (x, q)) : idp x ≤ 1 + m := by
 unfold itemM at h
 split at h
 · cases h
 · split at h
   · cases h
   · split at h
     · unfold attributeM at h
       split at h
       · cases h
       · split at h
         · injection h with h; injection h with h1 _
           subst h1
           show (if false = true then 1 + idpL [] else 0) ≤ 1 + m
           simp
         · cases h
     · rw [blockM_eq] at h
       cases hl : labelsM C (C.L.length + 1) (p + 1) [] with
       | error e => rw [hl] at h; cases h
       | ok y =>
         obtain ⟨lb, q1⟩ := y
         rw [hl] at h
         unfold bkM at h
         simp only [] at h
         split at h
         · cases hc : rec (q1 + 1) with
           | error e => rw [hc] at h; cases h
           | ok z =>
             obtain ⟨l, q2⟩ := z
             rw [hc] at h
             have h2 := hrec _ _ _ hc
             injection h with h; injection h with h3 _
             subst h3
             show (if true = true then 1 + idpL l else 0) ≤ 1 + m
             simp; omega
         · cases h
theorem itemsL_d {C : Cx} : ∀ (f k : Nat) (x : List UInt8) (acc : List It) (p : Nat) (l : List It) (q : Nat), itemsL C f k x acc p = .ok (l, q) → idpL l ≤ max (idpL acc) f := by
 intro f
 induction f with
 | zero => intro k x acc p l q h; rw [itemsL] at h; cases h
 | succ f ih =>
   intro k x acc p l q h
   rw [itemsL_succ] at h
   split at h
   · injection h with h; injection h with h1 _; subst h1; omega
   · cases hi : itemM C (itemsL C f 4 [125] []) acc p with
     | error e => rw [hi] at h; cases h
     | ok y =>
       obtain ⟨i, q1⟩ := y
       rw [hi] at h
       have h1 : idp i ≤ 1 + f := itemM_d (fun p l q hc => by have := ih _ _ _ _ _ _ hc; rw [show idpL [] = 0 from rfl] at this; omega) hi
       have h2 := ih _ _ _ _ _ _ h
       rw [idpL_app] at h2
       omega
open Go.RowKit Go.Lib

theorem kd_new {w3 w5 : World} {B R n : Nat} {vl : Value} {a : List (Tkn × Option Addr × Nat)} {L : List UInt8} {ts : List Tkn} (hat : a.map (·.1) = ts) (hl : lexL L = .ok ts)
 (h1 : ∃ o cap, vl = .slice o a.length cap ∧ RowP (fun k => B ≤ k ∧ k < w3.heap.size) w3 o cap a.length 7 (fun j m => tc7 ((a[j]?).getD (tk0, none, 0)) m))
 (h2 : ∀ x ∈ a, RowP (fun k => B ≤ k ∧ k < w3.heap.size) w3 x.2.1 x.2.2 x.1.ps.length 5 (fun j m => pc5 ((x.1.ps[j]?).getD prt0) m))
 (hn : w3.heap.size ≤ n) (hb : Below w3.heap.size w3 w5) (hR : n ≤ R) (tb : Tab w3) (lv : Lev w3) (h2n : 4 ≤ w3.heap.size)
 (hblk : w5.heap[R]? = some (.cells #[vl, .int .i64 0] 95 (0, 0))) (hnn : n ≤ w5.heap.size) : Kd w5 R ⟨a, vl, n⟩ 0 := by
 have key : ∀ k, (B ≤ k ∧ k < w3.heap.size) → Ok n R k ∧ w5.heap[k]? = w3.heap[k]? := fun k hk => ⟨⟨by omega, by omega⟩, hb.block k hk.2⟩
 obtain ⟨o, cap, e, r⟩ := h1
 exact ⟨hblk, ⟨⟨o, cap, e, r.keptP key⟩, fun x hx => (h2 x hx).keptP key, tb.at (hb.block 2 (by omega)), lv.at (hb.block 3 (by omega)), by omega, by show 4 ≤ n; omega⟩,
  sz_mk hat (lexL_g hl).1 (lexL_g hl).2.1 (lexL_g hl).2.2 _ _ _ (by decide) (by decide) (by decide), inq_lex hat (lexL_g hl).1 _ _ _, Nat.zero_le _, hnn⟩
theorem ends_new {n : Nat} {vl : Value} {a : List (Tkn × Option Addr × Nat)} {L : List UInt8} {ts : List Tkn} (hat : a.map (·.1) = ts) (hl : lexL L = .ok ts) : Ends ⟨a, vl, n⟩ ∧ 0 < a.length ∧ ∀ p, (readM (Kz.cx ⟨a, vl, n⟩) p).2.2.1 = 0 → p ≤ (readM (Kz.cx ⟨a, vl, n⟩) p).2.1 ∧ (readM (Kz.cx ⟨a, vl, n⟩) p).2.1 < a.length := by
 obtain ⟨xs, e, rfl, he, hx⟩ := lexL_kinds hl
 have hL : (Kz.cx ⟨a, vl, n⟩).L = xs ++ [e] := hat
 have hal : a.length = xs.length + 1 := by have := congrArg List.length hat; simpa using this
 have hz : ∀ i, xs.length ≤ i → ((Kz.cx ⟨a, vl, n⟩).tk i).k = 0 := fun i hi => by
  unfold Cx.tk
  rw [hL, List.getElem?_append_right hi]
  rcases Nat.lt_or_ge i (xs.length + 1) with h | h
  · obtain rfl : i = xs.length := by omega
    simpa using he
  · rw [List.getElem?_eq_none (by simp; omega)]; rfl
 refine ⟨fun i hi hk => ?_, by omega, fun p hp => ?_⟩
 · rw [← Kz.tk_eq] at hk
   have hi' : i < a.length := hi
   show i + 1 < a.length
   by_cases h : xs.length ≤ i
   · exact absurd (hz i h) hk
   · omega
 · have := read_at (C := Kz.cx ⟨a, vl, n⟩) (n := xs.length) (by rw [hL]; simp) hz (fun l h h' => inn_move l h h') p hp
   rw [hL] at this
   simp at this
   rw [hal]
   exact this
open Go.RowKit Go.Lib

def CfPost (w : World) (M : List It × Nat × Ps) (e : Ending) (w' : World) : Prop := ∃ v, e = .returned (.tuple #[v, dgv M.2.1 M.2.2]) ∧ PayI M.1 (fun k => w.heap.size ≤ k ∧ k < w'.heap.size) w' v ∧ Below w.heap.size w w'
theorem payI_nil (P : Nat → Prop) (w : World) : PayI [] P w (.slice none 0 0) := ⟨none, 0, fun _ _ => undef, rfl, rowP_nil _ _ _ _, fun j x h => by cases h⟩
def cfOf : Res (List It) → List It × Nat × Ps
 | .error (e, q) => ([], e, q)
 | .ok (l, _) => if 8 < idpL l then ([], 12, ⟨0, 1, 1⟩) else (l, 0, ps0)
theorem conf_eq {L : List UInt8} {ts : List Tkn} (h : lexL L = .ok ts) : confM L = cfOf (itemsL ⟨ts, ps0, innM⟩ (ts.length + 1) 0 [] [] 0) := by
 unfold confM cfOf
 rw [h]
 dsimp only
 cases itemsL ⟨ts, ps0, innM⟩ (ts.length + 1) 0 [] [] 0 with
 | error e => rfl
 | ok y => rfl
theorem CfPost.err {w w' : World} {M : List It × Nat × Ps} {c : Nat} {q : Ps} (hm : M = ([], c, q)) (h : Below w.heap.size w w') : CfPost w M (.returned (.tuple #[.slice none 0 0, dgv c q])) w' := by
 subst hm; exact ⟨_, rfl, payI_nil _ _, h⟩
set_option maxRecDepth 100000 in
set_option maxHeartbeats 4000000 in
theorem conf_err {w : World} {s : ByteArray} (hT : Tab w) (hV : Lev w) (h2 : 4 ≤ w.heap.size) (hs : s.size ≤ 32768) {ep : Nat × Plc} (hl : lexL (lb s) = .error ep) : Calls Tryz.prog 24 #[.string s] w (CfPost w (confM (lb s))) := by
 have B0 : Below w.heap.size w (w.alloc (.cells #[.int .i64 0, .int .i64 0, .int .i64 0, .int .i64 0, .string ⟨#[]⟩] 53)) := (Below.refl _ _).alloc (Nat.le_refl _) _
 have q36 : Hid ((w.alloc (.cells #[.int .i64 0, .int .i64 0, .int .i64 0, .int .i64 0, .string ⟨#[]⟩] 53)).heap[w.heap.size]? = some (.cells #[.int .i64 0, .int .i64 0, .int .i64 0, .int .i64 0, .string ⟨#[]⟩] 53 (0, 0))) := heap_alloc_new _ _
 have HB0 := qh B0
 have HT0 : Hid (Tab (w.alloc (.cells #[.int .i64 0, .int .i64 0, .int .i64 0, .int .i64 0, .string ⟨#[]⟩] 53)) ∧ Lev (w.alloc (.cells #[.int .i64 0, .int .i64 0, .int .i64 0, .int .i64 0, .string ⟨#[]⟩] 53)) ∧ 4 ≤ (w.alloc (.cells #[.int .i64 0, .int .i64 0, .int .i64 0, .int .i64 0, .string ⟨#[]⟩] 53)).heap.size) := ⟨hT.at (B0.block 2 (by omega)), hV.at (B0.block 3 (by omega)), by have := B0.size; omega⟩
 have HZ0 : Hid ((w.alloc (.cells #[.int .i64 0, .int .i64 0, .int .i64 0, .int .i64 0, .string ⟨#[]⟩] 53)).heap.size = w.heap.size + 1) := by unfold Hid; simp
 have HS := qh hs
 clear hT hV h2 hs B0
 go_enter Tryz.func24, Tryz.ntmps24
 go_upto_region 1 with fail
 generalize (w.alloc (Obj.cells #[.int .i64 0, .int .i64 0, .int .i64 0, .int .i64 0, .string ⟨#[]⟩] 53)) = w0 at *
 go_wp2_with fail
 refine (all_any HT0.out.1 HS.out).mono ?_
 rintro e w1 ⟨b1, hm⟩
 have HB1 := qh (HB0.out.trans (b1.mono HB0.out.size))
 replace q36 := qh ((b1.block _ (Array.getElem?_eq_some_iff.1 q36.out).1).trans q36.out)
 have HT1 : Hid (Tab w1 ∧ Lev w1 ∧ 4 ≤ w1.heap.size) := ⟨HT0.out.1.at (b1.block 2 (by have := HT0.out.2.2; omega)), HT0.out.2.1.at (b1.block 3 (by have := HT0.out.2.2; omega)), by have := b1.size; have := HT0.out.2.2; omega⟩
 have HZ1 : Hid (w.heap.size + 1 ≤ w1.heap.size) := by have := b1.size; have := HZ0.out; unfold Hid; omega
 obtain ⟨e, p⟩ := ep
 rw [hl] at hm
 dsimp only at hm
 subst hm
 have HI : Hid (confM (lb s) = ([], e, p.ps)) := by unfold Hid confM; rw [hl]
 have HNZ := qh (lexL_nz hl)
 clear hl b1 HT0 HB0
 have en : ((e : Int) != 0) = true := by rw [bne_iff_ne]; have := HNZ.out.1; omega
 generalize confM (lb s) = CM at *
 go_upto_region 3 with fail
 have r36 := qh (heap_alloc_new w1 (.cells #[.int .i64 (e : Int), .int .i64 p.a, .int .i64 p.l, .int .i64 p.c, .string ⟨#[]⟩] 53))
 have B4 : Below w1.heap.size w1 (w1.alloc (.cells #[.int .i64 (e : Int), .int .i64 p.a, .int .i64 p.l, .int .i64 p.c, .string ⟨#[]⟩] 53)) := (Below.refl _ _).alloc (Nat.le_refl _) _
 have HB4 := qh (HB1.out.trans (B4.mono HB1.out.size))
 have p36 := qh ((B4.block _ (Array.getElem?_eq_some_iff.1 q36.out).1).trans q36.out)
 have hn := HZ1.out
 clear B4 HB1 q36 HT1
 generalize (w1.alloc (Obj.cells #[.int .i64 (e : Int), .int .i64 p.a, .int .i64 p.l, .int .i64 p.c, .string ⟨#[]⟩] 53)) = w4 at *
 obtain ⟨⟨d0, d1, d2, d3, d4⟩, -, hbd⟩ := rc5 r36.out
 refine wp_region_noPanic ?_
 refine wp_region_held_drew (S := (fun W => ∀ o, W.cell? ⟨w1.heap.size, o, none⟩ = w4.cell? ⟨w1.heap.size, o, none⟩)) (by kernel_rfl) ?_ (fun hH => ?_)
 · exact fun _ => rfl
 have d36 : Hid (w4.drew.heap[w.heap.size]? = _) := p36.out
 have dB : Hid (Below w.heap.size w4 w4.drew) := (Below.refl _ _).drew
 generalize w4.drew = Ws at *
 refine wpAnyH_take (i := 0) (oi := { dst := some 16, op := Op.load 53 (Operand.tmp 5), type := 53, pos := _, after := _, guard := none }) (v := ?_) rfl (by kernel_rfl) (by kernel_rfl) (by kernel_rfl) (fun _ _ _ h => h) (Or.inl ⟨by rfl, ?_⟩) (by assumption) ?_
 rotate_left
 · (intro w hSw; (try dsimp only at hSw); go_simp; try with_reducible rfl)
 try simp only [Act.put, sqa, sqb, sqc]
 refine wpAnyH_take (i := 1) (oi := { dst := some 2, op := Op.assign (Operand.const (Value.slice none 0 0)), type := 22, pos := _, after := _, guard := none }) (v := ?_) rfl (by kernel_rfl) (by kernel_rfl) (by kernel_rfl) (fun _ _ _ h => h) (Or.inl ⟨by rfl, ?_⟩) (by assumption) ?_
 rotate_left
 · (intro w hSw; (try dsimp only at hSw); go_simp; try with_reducible rfl)
 try simp only [Act.put, sqa, sqb, sqc]
 refine wpAnyH_ready (rs := [2]) (by kernel_rfl) (by simp) ?_
 refine AllReadyH.cons (o := { dst := none, op := Op.store 53 (Operand.tmp 3) (Operand.tmp 16), type := 0, pos := _, after := _, guard := none }) rfl (fun K hK => ?_) AllReadyH.nil
 refine step_store_row rfl 53 (.tmp 3) (.tmp 16) rfl w.heap.size rfl #[.int .i64 (e : Int), .int .i64 p.a, .int .i64 p.l, .int .i64 p.c, .string ⟨#[]⟩] rfl 53 _ d36.out (info36 rfl) rfl (by kernel_rfl) ?_
 try simp only [Act.put]
 have v36 : Hid ((Ws.setRow w.heap.size #[.int .i64 (e : Int), .int .i64 p.a, .int .i64 p.l, .int .i64 p.c, .string ⟨#[]⟩]).heap[w.heap.size]? = some (.cells #[.int .i64 (e : Int), .int .i64 p.a, .int .i64 p.l, .int .i64 p.c, .string ⟨#[]⟩] 53 (0, 0))) := setRow_heap _ _ _ _ _ _ d36.out
 have sL := setRow_other Ws w.heap.size w1.heap.size #[.int .i64 (e : Int), .int .i64 p.a, .int .i64 p.l, .int .i64 p.c, .string ⟨#[]⟩] (by omega)
 have rB := qh (Below.row (b := w.heap.size) dB.out (Nat.le_refl _) #[.int .i64 (e : Int), .int .i64 p.a, .int .i64 p.l, .int .i64 p.c, .string ⟨#[]⟩])
 clear d36 dB
 generalize Ws.setRow w.heap.size #[.int .i64 (e : Int), .int .i64 p.a, .int .i64 p.l, .int .i64 p.c, .string ⟨#[]⟩] = Wp at *
 refine hK.out _ _ ?_ (fun hH' => ?_)
 · exact fun o => (World.cell?_of_block (w := Ws) (w' := Wp) sL).trans (hH o)
 clear sL
 clear hK K hH
 have hH := hH'
 clear hH'
 try simp only [Act.put, sqa, sqb, sqc]
 refine wpAnyH_done (by kernel_rfl) ?_ _
 refine NoPanic.normal ?_
 go_wp2_with fail
 obtain ⟨⟨z0, z1, z2, z3, z4⟩, -, hzz⟩ := rc5 v36.out
 refine bodyPost_ret (v := .tuple #[.slice none 0 0, .agg #[.int .i64 (e : Int), .int .i64 p.a, .int .i64 p.l, .int .i64 p.c, .string ⟨#[]⟩]]) (by simp [results, Tryz.results24, go_sem, z0, z1, z2, z3, z4]) rfl ?_
 exact CfPost.err HI.out (HB4.out.trans rB.out)
set_option maxRecDepth 100000 in
set_option maxHeartbeats 8000000 in
theorem conf_ok {w : World} {s : ByteArray} (hT : Tab w) (hV : Lev w) (h2 : 4 ≤ w.heap.size) (hs : s.size ≤ 32768) {ts : List Tkn} (hl : lexL (lb s) = .ok ts) : Calls Tryz.prog 24 #[.string s] w (CfPost w (confM (lb s))) := by
 have B0 : Below w.heap.size w (w.alloc (.cells #[.int .i64 0, .int .i64 0, .int .i64 0, .int .i64 0, .string ⟨#[]⟩] 53)) := (Below.refl _ _).alloc (Nat.le_refl _) _
 have q36 : Hid ((w.alloc (.cells #[.int .i64 0, .int .i64 0, .int .i64 0, .int .i64 0, .string ⟨#[]⟩] 53)).heap[w.heap.size]? = some (.cells #[.int .i64 0, .int .i64 0, .int .i64 0, .int .i64 0, .string ⟨#[]⟩] 53 (0, 0))) := heap_alloc_new _ _
 have HB0 := qh B0
 have HT0 : Hid (Tab (w.alloc (.cells #[.int .i64 0, .int .i64 0, .int .i64 0, .int .i64 0, .string ⟨#[]⟩] 53)) ∧ Lev (w.alloc (.cells #[.int .i64 0, .int .i64 0, .int .i64 0, .int .i64 0, .string ⟨#[]⟩] 53)) ∧ 4 ≤ (w.alloc (.cells #[.int .i64 0, .int .i64 0, .int .i64 0, .int .i64 0, .string ⟨#[]⟩] 53)).heap.size) := ⟨hT.at (B0.block 2 (by omega)), hV.at (B0.block 3 (by omega)), by have := B0.size; omega⟩
 have HZ0 : Hid ((w.alloc (.cells #[.int .i64 0, .int .i64 0, .int .i64 0, .int .i64 0, .string ⟨#[]⟩] 53)).heap.size = w.heap.size + 1) := by unfold Hid; simp
 have HS := qh hs
 clear hT hV h2 hs B0
 go_enter Tryz.func24, Tryz.ntmps24
 go_upto_region 1 with fail
 generalize (w.alloc (Obj.cells #[.int .i64 0, .int .i64 0, .int .i64 0, .int .i64 0, .string ⟨#[]⟩] 53)) = w0 at *
 go_wp2_with fail
 refine (all_any HT0.out.1 HS.out).mono ?_
 rintro e w1 ⟨b1, hm⟩
 have HB1 := qh (HB0.out.trans (b1.mono HB0.out.size))
 replace q36 := qh ((b1.block _ (Array.getElem?_eq_some_iff.1 q36.out).1).trans q36.out)
 have HT1 : Hid (Tab w1 ∧ Lev w1 ∧ 4 ≤ w1.heap.size) := ⟨HT0.out.1.at (b1.block 2 (by have := HT0.out.2.2; omega)), HT0.out.2.1.at (b1.block 3 (by have := HT0.out.2.2; omega)), by have := b1.size; have := HT0.out.2.2; omega⟩
 have HZ1 : Hid (w.heap.size + 1 ≤ w1.heap.size) := by have := b1.size; have := HZ0.out; unfold Hid; omega
 rw [hl] at hm
 obtain ⟨vl, acc, ha, rfl, ht⟩ := hm
 obtain ⟨a, ha2, hrow, hel⟩ := toks_row ht
 have HRO := qh hrow
 have HEL := qh hel
 have hat : a.map (·.1) = ts := ha2.trans ha
 obtain ⟨o, cap, rfl, -⟩ := hrow
 have HI : Hid (confM (lb s) = cfOf (itemsL (Kz.cx ⟨a, .slice o a.length cap, w1.heap.size + 1⟩) (a.length + 1) 0 [] [] 0)) := by unfold Hid; rw [conf_eq hl, show Kz.cx ⟨a, .slice o a.length cap, w1.heap.size + 1⟩ = ⟨ts, ps0, innM⟩ by unfold Kz.cx; rw [hat], show a.length = ts.length by rw [← hat]; simp]
 have HAL : Hid (a.length ≤ 40000) := by have h1 := lexL_g hl; have h2 : a.length = ts.length := (by rw [← hat]; simp); unfold Hid; omega
 have B4 : Below w1.heap.size w1 ((w1.alloc (.cells #[.int .i64 0, .int .i64 0, .int .i64 0, .int .i64 0, .string ⟨#[]⟩] 53)).alloc (.cells #[.slice o a.length cap, .int .i64 0] 95)) := ((Below.refl _ _).alloc (Nat.le_refl _) _).alloc (by simp) _
 have r36 : Hid (((w1.alloc (.cells #[.int .i64 0, .int .i64 0, .int .i64 0, .int .i64 0, .string ⟨#[]⟩] 53)).alloc (.cells #[.slice o a.length cap, .int .i64 0] 95)).heap[w1.heap.size]? = some (.cells #[.int .i64 0, .int .i64 0, .int .i64 0, .int .i64 0, .string ⟨#[]⟩] 53 (0, 0))) := (heap_alloc_old _ _ (by simp)).trans (heap_alloc_new w1 _)
 have blk : ((w1.alloc (.cells #[.int .i64 0, .int .i64 0, .int .i64 0, .int .i64 0, .string ⟨#[]⟩] 53)).alloc (.cells #[.slice o a.length cap, .int .i64 0] 95)).heap[w1.heap.size + 1]? = some (.cells #[.slice o a.length cap, .int .i64 0] 95 (0, 0)) := by rw [show w1.heap.size + 1 = (w1.alloc (.cells #[.int .i64 0, .int .i64 0, .int .i64 0, .int .i64 0, .string ⟨#[]⟩] 53)).heap.size by simp]; exact heap_alloc_new _ _
 have p36 := qh ((B4.block _ (Array.getElem?_eq_some_iff.1 q36.out).1).trans q36.out)
 have HB4 := qh (HB1.out.trans (B4.mono HB1.out.size))
 have EN := ends_new (n := w1.heap.size + 1) (vl := .slice o a.length cap) hat hl
 have HKD := kd_new (n := w1.heap.size + 1) hat hl HRO.out HEL.out (Nat.le_succ _) B4 (Nat.le_refl _) HT1.out.1 HT1.out.2.1 HT1.out.2.2 blk (by simp)
 have HIT := qh (items_any EN.1 EN.2.2 _ _ 0 (a.length + 1) 0 [] (Nat.le_refl _) HKD EN.2.1 (by show a.length < a.length + 1 + 0; omega))
 have HDP : Hid (∀ l q, itemsL (Kz.cx ⟨a, .slice o a.length cap, w1.heap.size + 1⟩) (a.length + 1) 0 [] [] 0 = .ok (l, q) → idpL l ≤ 9000000000000000000) := fun l q h => by
  have h1 := itemsL_d _ _ _ _ _ _ _ h
  have h2 := HAL.out
  rw [show idpL [] = 0 from rfl] at h1
  omega
 have hw4 : w1.heap.size + 2 ≤ ((w1.alloc (.cells #[.int .i64 0, .int .i64 0, .int .i64 0, .int .i64 0, .string ⟨#[]⟩] 53)).alloc (.cells #[.slice o a.length cap, .int .i64 0] 95)).heap.size := by simp
 have HW4 := qh hw4
 clear hl ha ha2 hel hat ht acc b1 HT0 HB0 B4 blk EN HKD HB1 q36 HT1 HRO HEL hw4 HZ0
 generalize confM (lb s) = CM at *
 go_wp2_with fail
 generalize (w1.alloc (Obj.cells #[.int .i64 0, .int .i64 0, .int .i64 0, .int .i64 0, .string ⟨#[]⟩] 53)).alloc (Obj.cells #[.slice o a.length cap, .int .i64 0] 95) = w4 at *
 refine HIT.out.mono ?_
 rintro e w5 hIs
 clear HIT
 generalize itemsL (Kz.cx ⟨a, .slice o a.length cap, w1.heap.size + 1⟩) (a.length + 1) 0 [] [] 0 = IM at *
 have hz1 := HZ1.out
 have hf : Fm (w1.heap.size + 1) w4 w5 := by
  cases IM with
  | error x => exact hIs.2.1
  | ok x => exact hIs.2.2.2
 replace r36 := qh ((hf.block _ (Array.getElem?_eq_some_iff.1 r36.out).1 (fun e => by have := Option.some.inj e; omega)).trans r36.out)
 replace p36 := qh ((hf.block _ (Array.getElem?_eq_some_iff.1 p36.out).1 (fun e => by have := Option.some.inj e; omega)).trans p36.out)
 have HB5 := qh (Below.fm HB4.out (by omega) hf)
 clear HB4
 cases IM with
 | error x =>
   obtain ⟨c, q⟩ := x
   obtain ⟨rfl, -, hne⟩ := hIs
   have HIE : Hid (CM = ([], c, q)) := HI.out
   have en : ((c : Int) != 0) = true := by rw [bne_iff_ne]; omega
   clear hne HI HDP hf
   go_upto_region 7 with (first
    | (refine wpList_store_row rfl 53 (.tmp 5) (.tmp 22) rfl w1.heap.size #[.int .i64 (c : Int), .int .i64 q.a, .int .i64 q.l, .int .i64 q.c, .string ⟨#[]⟩] rfl (by kernel_rfl) 53 _ r36.out (info36 rfl) rfl (by kernel_rfl) ?_
       have s36 : Hid ((w5.setRow w1.heap.size #[.int .i64 (c : Int), .int .i64 q.a, .int .i64 q.l, .int .i64 q.c, .string ⟨#[]⟩]).heap[w1.heap.size]? = some (.cells #[.int .i64 (c : Int), .int .i64 q.a, .int .i64 q.l, .int .i64 q.c, .string ⟨#[]⟩] 53 (0, 0))) := setRow_heap _ _ _ _ _ _ r36.out
       have t36 := qh ((setRow_other w5 w1.heap.size w.heap.size #[.int .i64 (c : Int), .int .i64 q.a, .int .i64 q.l, .int .i64 q.c, .string ⟨#[]⟩] (by omega)).trans p36.out)
       have sO := qh (fun j (hj : j ≠ w1.heap.size) => setRow_other w5 w1.heap.size j #[.int .i64 (c : Int), .int .i64 q.a, .int .i64 q.l, .int .i64 q.c, .string ⟨#[]⟩] hj)
       have sS : Hid (w5.heap.size ≤ (w5.setRow w1.heap.size #[.int .i64 (c : Int), .int .i64 q.a, .int .i64 q.l, .int .i64 q.c, .string ⟨#[]⟩]).heap.size) := by unfold Hid; rw [size_setRow]; exact Nat.le_refl _
       have HB6 := qh (Below.row (b := w1.heap.size) HB5.out (by omega) #[.int .i64 (c : Int), .int .i64 q.a, .int .i64 q.l, .int .i64 q.c, .string ⟨#[]⟩])
       obtain ⟨⟨d0, d1, d2, d3, d4⟩, -, hbd⟩ := rc5 s36.out
       generalize w5.setRow w1.heap.size #[.int .i64 (c : Int), .int .i64 q.a, .int .i64 q.l, .int .i64 q.c, .string ⟨#[]⟩] = w6 at *))
   have p36 := t36
   refine wp_region_noPanic ?_
   refine wp_region_held_drew (S := (fun W => ∀ o, W.cell? ⟨w1.heap.size, o, none⟩ = w6.cell? ⟨w1.heap.size, o, none⟩)) (by kernel_rfl) ?_ (fun hH => ?_)
   · exact fun _ => rfl
   have d36 : Hid (w6.drew.heap[w.heap.size]? = _) := p36.out
   have dB : Hid (Below w.heap.size w6 w6.drew) := (Below.refl _ _).drew
   generalize w6.drew = Ws at *
   refine wpAnyH_take (i := 0) (oi := { dst := some 26, op := Op.load 53 (Operand.tmp 5), type := 53, pos := _, after := _, guard := none }) (v := ?_) rfl (by kernel_rfl) (by kernel_rfl) (by kernel_rfl) (fun _ _ _ h => h) (Or.inl ⟨by rfl, ?_⟩) (by assumption) ?_
   rotate_left
   · (intro w hSw; (try dsimp only at hSw); go_simp; try with_reducible rfl)
   try simp only [Act.put, sqa, sqb, sqc]
   refine wpAnyH_take (i := 1) (oi := { dst := some 2, op := Op.assign (Operand.const (Value.slice none 0 0)), type := 22, pos := _, after := _, guard := none }) (v := ?_) rfl (by kernel_rfl) (by kernel_rfl) (by kernel_rfl) (fun _ _ _ h => h) (Or.inl ⟨by rfl, ?_⟩) (by assumption) ?_
   rotate_left
   · (intro w hSw; (try dsimp only at hSw); go_simp; try with_reducible rfl)
   try simp only [Act.put, sqa, sqb, sqc]
   refine wpAnyH_ready (rs := [2]) (by kernel_rfl) (by simp) ?_
   refine AllReadyH.cons (o := { dst := none, op := Op.store 53 (Operand.tmp 3) (Operand.tmp 26), type := 0, pos := _, after := _, guard := none }) rfl (fun K hK => ?_) AllReadyH.nil
   refine step_store_row rfl 53 (.tmp 3) (.tmp 26) rfl w.heap.size rfl #[.int .i64 (c : Int), .int .i64 q.a, .int .i64 q.l, .int .i64 q.c, .string ⟨#[]⟩] rfl 53 _ d36.out (info36 rfl) rfl (by kernel_rfl) ?_
   try simp only [Act.put]
   have v36 : Hid ((Ws.setRow w.heap.size #[.int .i64 (c : Int), .int .i64 q.a, .int .i64 q.l, .int .i64 q.c, .string ⟨#[]⟩]).heap[w.heap.size]? = some (.cells #[.int .i64 (c : Int), .int .i64 q.a, .int .i64 q.l, .int .i64 q.c, .string ⟨#[]⟩] 53 (0, 0))) := setRow_heap _ _ _ _ _ _ d36.out
   have sL := setRow_other Ws w.heap.size w1.heap.size #[.int .i64 (c : Int), .int .i64 q.a, .int .i64 q.l, .int .i64 q.c, .string ⟨#[]⟩] (by omega)
   have rB := qh (Below.row (b := w.heap.size) dB.out (Nat.le_refl _) #[.int .i64 (c : Int), .int .i64 q.a, .int .i64 q.l, .int .i64 q.c, .string ⟨#[]⟩])
   clear d36 dB
   generalize Ws.setRow w.heap.size #[.int .i64 (c : Int), .int .i64 q.a, .int .i64 q.l, .int .i64 q.c, .string ⟨#[]⟩] = Wp at *
   refine hK.out _ _ ?_ (fun hH' => ?_)
   · exact fun o => (World.cell?_of_block (w := Ws) (w' := Wp) sL).trans (hH o)
   clear sL
   clear hK K hH
   have hH := hH'
   clear hH'
   try simp only [Act.put, sqa, sqb, sqc]
   refine wpAnyH_done (by kernel_rfl) ?_ _
   refine NoPanic.normal ?_
   go_wp2_with fail
   obtain ⟨⟨z0, z1, z2, z3, z4⟩, -, hzz⟩ := rc5 v36.out
   refine bodyPost_ret (v := .tuple #[.slice none 0 0, .agg #[.int .i64 (c : Int), .int .i64 q.a, .int .i64 q.l, .int .i64 q.c, .string ⟨#[]⟩]]) (by simp [results, Tryz.results24, go_sem, z0, z1, z2, z3, z4]) rfl ?_
   exact CfPost.err HIE.out (HB6.out.trans rB.out)
 | ok x =>
   obtain ⟨l, q⟩ := x
   obtain ⟨⟨v, rfl, hp⟩, -, -, -⟩ := hIs
   have HIE : Hid (CM = if 8 < idpL l then ([], 12, ⟨0, 1, 1⟩) else (l, 0, ps0)) := HI.out
   have HDL := qh (HDP.out l q rfl)
   have HP := qh hp
   clear hp HI HDP hf
   go_wp2_with (first
    | (refine wpList_store_row rfl 53 (.tmp 5) (.tmp 22) rfl w1.heap.size #[.int .i64 0, .int .i64 0, .int .i64 0, .int .i64 0, .string ⟨#[]⟩] rfl (by kernel_rfl) 53 _ r36.out (info36 rfl) rfl (by kernel_rfl) ?_
       have s36 : Hid ((w5.setRow w1.heap.size #[.int .i64 0, .int .i64 0, .int .i64 0, .int .i64 0, .string ⟨#[]⟩]).heap[w1.heap.size]? = some (.cells #[.int .i64 0, .int .i64 0, .int .i64 0, .int .i64 0, .string ⟨#[]⟩] 53 (0, 0))) := setRow_heap _ _ _ _ _ _ r36.out
       have t36 := qh ((setRow_other w5 w1.heap.size w.heap.size #[.int .i64 0, .int .i64 0, .int .i64 0, .int .i64 0, .string ⟨#[]⟩] (by omega)).trans p36.out)
       have sO := qh (fun j (hj : j ≠ w1.heap.size) => setRow_other w5 w1.heap.size j #[.int .i64 0, .int .i64 0, .int .i64 0, .int .i64 0, .string ⟨#[]⟩] hj)
       have sS : Hid (w5.heap.size ≤ (w5.setRow w1.heap.size #[.int .i64 0, .int .i64 0, .int .i64 0, .int .i64 0, .string ⟨#[]⟩]).heap.size) := by unfold Hid; rw [size_setRow]; exact Nat.le_refl _
       have HB6 := qh (Below.row (b := w1.heap.size) HB5.out (by omega) #[.int .i64 0, .int .i64 0, .int .i64 0, .int .i64 0, .string ⟨#[]⟩])
       obtain ⟨⟨d0, d1, d2, d3, d4⟩, -, hbd⟩ := rc5 s36.out
       generalize w5.setRow w1.heap.size #[.int .i64 0, .int .i64 0, .int .i64 0, .int .i64 0, .string ⟨#[]⟩] = w6 at *))
   have HP6 : Hid (PayI l (fun k => w4.heap.size ≤ k ∧ k < w5.heap.size) w6 v) := HP.out.keptP fun k hk => ⟨hk, sO.out k (by have := HW4.out; have := hk.1; omega)⟩
   refine (cdepth_any (HP6.out.keptP (P' := fun k => k < w5.heap.size) fun k hk => ⟨hk.2, rfl⟩) sS.out HDL.out).mono ?_
   rintro e w7 ⟨rfl, b7⟩
   have HB7 := qh (HB6.out.trans (b7.mono HB6.out.size))
   have u36 := qh ((b7.block _ (Array.getElem?_eq_some_iff.1 t36.out).1).trans t36.out)
   have HP7 := qh (HP6.out.keptP (P' := fun k => w4.heap.size ≤ k ∧ k < w5.heap.size) fun k hk => ⟨hk, b7.block k (Nat.lt_of_lt_of_le hk.2 sS.out)⟩)
   have S7 := qh (Nat.le_trans sS.out b7.size)
   clear b7 HP6 HB6 t36 s36 d0 d1 d2 d3 d4 hbd HP HB5 r36 p36 sS sO
   have h5w : Hid (w.heap.size + 2 ≤ w4.heap.size) := by have := HW4.out; unfold Hid; omega
   by_cases hd : 8 < idpL l
   · have HIF : Hid (CM = ([], 12, ⟨0, 1, 1⟩)) := by unfold Hid; rw [HIE.out, if_pos hd]
     have h8 : (8 : Int) < (idpL l : Int) := by omega
     clear hd HIE
     go_wp2_with fail
     refine (at_any s (by have := HS.out; omega) 0 w7).mono ?_
     rintro e w9 ⟨rfl, b9⟩
     have HB9 := qh (HB7.out.trans (b9.mono HB7.out.size))
     have x36 := qh ((b9.block _ (Array.getElem?_eq_some_iff.1 u36.out).1).trans u36.out)
     clear b9 HB7 u36 HP7 S7
     have HB7 := HB9
     have u36 := x36
     clear HB9 x36
     rw [show plc (lb s) (Int.toNat 0) = ⟨0, 1, 1⟩ from rfl]
     generalize w9 = w7 at *
     go_wp2_with (first
      | (refine wpList_store_row rfl 53 (.tmp 3) (.tmp 32) rfl w.heap.size #[.int .i64 12, .int .i64 0, .int .i64 1, .int .i64 1, .string ⟨#[]⟩] rfl (by kernel_rfl) 53 _ u36.out (info36 rfl) rfl (by kernel_rfl) ?_
         have v36 : Hid ((w7.setRow w.heap.size #[.int .i64 12, .int .i64 0, .int .i64 1, .int .i64 1, .string ⟨#[]⟩]).heap[w.heap.size]? = some (.cells #[.int .i64 12, .int .i64 0, .int .i64 1, .int .i64 1, .string ⟨#[]⟩] 53 (0, 0))) := setRow_heap _ _ _ _ _ _ u36.out
         have vO := qh (fun j (hj : j ≠ w.heap.size) => setRow_other w7 w.heap.size j #[.int .i64 12, .int .i64 0, .int .i64 1, .int .i64 1, .string ⟨#[]⟩] hj)
         have HB8 := qh (Below.row (b := w.heap.size) HB7.out (Nat.le_refl _) #[.int .i64 12, .int .i64 0, .int .i64 1, .int .i64 1, .string ⟨#[]⟩])
         have vS : Hid (w7.heap.size ≤ (w7.setRow w.heap.size #[.int .i64 12, .int .i64 0, .int .i64 1, .int .i64 1, .string ⟨#[]⟩]).heap.size) := by unfold Hid; rw [size_setRow]; exact Nat.le_refl _
         generalize w7.setRow w.heap.size #[.int .i64 12, .int .i64 0, .int .i64 1, .int .i64 1, .string ⟨#[]⟩] = w8 at *))
     obtain ⟨⟨z0, z1, z2, z3, z4⟩, -, hzz⟩ := rc5 v36.out
     skip
     refine bodyPost_ret (v := .tuple #[.slice none 0 0, .agg #[.int .i64 12, .int .i64 0, .int .i64 1, .int .i64 1, .string ⟨#[]⟩]]) (by simp [results, Tryz.results24, go_sem, z0, z1, z2, z3, z4]) rfl ?_
     exact CfPost.err HIF.out HB8.out
   · have HIF : Hid (CM = (l, 0, ps0)) := by unfold Hid; rw [HIE.out, if_neg hd]
     have h8 : ¬ (8 : Int) < (idpL l : Int) := by omega
     clear hd HIE
     go_wp2_with (first
      | (refine wpList_store_row rfl 53 (.tmp 3) (.tmp 34) rfl w.heap.size #[.int .i64 0, .int .i64 0, .int .i64 0, .int .i64 0, .string ⟨#[]⟩] rfl (by kernel_rfl) 53 _ u36.out (info36 rfl) rfl (by kernel_rfl) ?_
         have v36 : Hid ((w7.setRow w.heap.size #[.int .i64 0, .int .i64 0, .int .i64 0, .int .i64 0, .string ⟨#[]⟩]).heap[w.heap.size]? = some (.cells #[.int .i64 0, .int .i64 0, .int .i64 0, .int .i64 0, .string ⟨#[]⟩] 53 (0, 0))) := setRow_heap _ _ _ _ _ _ u36.out
         have vO := qh (fun j (hj : j ≠ w.heap.size) => setRow_other w7 w.heap.size j #[.int .i64 0, .int .i64 0, .int .i64 0, .int .i64 0, .string ⟨#[]⟩] hj)
         have HB8 := qh (Below.row (b := w.heap.size) HB7.out (Nat.le_refl _) #[.int .i64 0, .int .i64 0, .int .i64 0, .int .i64 0, .string ⟨#[]⟩])
         have vS : Hid (w7.heap.size ≤ (w7.setRow w.heap.size #[.int .i64 0, .int .i64 0, .int .i64 0, .int .i64 0, .string ⟨#[]⟩]).heap.size) := by unfold Hid; rw [size_setRow]; exact Nat.le_refl _
         generalize w7.setRow w.heap.size #[.int .i64 0, .int .i64 0, .int .i64 0, .int .i64 0, .string ⟨#[]⟩] = w8 at *))
     obtain ⟨⟨z0, z1, z2, z3, z4⟩, -, hzz⟩ := rc5 v36.out
     skip
     refine bodyPost_ret (v := .tuple #[v, .agg #[.int .i64 0, .int .i64 0, .int .i64 0, .int .i64 0, .string ⟨#[]⟩]]) (by simp [results, Tryz.results24, go_sem, z0, z1, z2, z3, z4]) rfl ?_
     rw [HIF.out]
     exact ⟨v, rfl, HP7.out.keptP fun k hk => ⟨⟨by have := h5w.out; have := hk.1; omega, Nat.lt_of_lt_of_le hk.2 (Nat.le_trans S7.out vS.out)⟩, vO.out k (by have := h5w.out; have := hk.1; omega)⟩, HB8.out⟩
theorem conf_any {w : World} {s : ByteArray} (hT : Tab w) (hV : Lev w) (h2 : 4 ≤ w.heap.size) (hs : s.size ≤ 32768) : Calls Tryz.prog 24 #[.string s] w (CfPost w (confM (lb s))) := by
 cases hl : lexL (lb s) with
 | error e => exact conf_err hT hV h2 hs hl
 | ok ts => exact conf_ok hT hV h2 hs hl
end Go.Proofs.YtncjncacfagldaaGreatDoor

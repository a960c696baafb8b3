import Derived.Test.YtncjncacfagldaaGreatDoorYPB
import Derived.Test.YtncjncacfagldaaGreatDoorYWPXA
namespace Go.Proofs.YtncjncacfagldaaGreatDoor
open Go.RowKit Go.Lib

mutual
def sameI : It → It → Bool | .mk b nm lb e l _, Y => decide (b = Y.b) && (decide (nm = Y.nm) && (decide (lb = Y.lb) && (sameX false e Y.e && sameIL l Y.l)))
def sameIL : List It → List It → Bool
 | [], Y => Y.isEmpty
 | a :: r, Y => match Y with | [] => false | y :: s => sameI a y && sameIL r s
end
theorem sameI_eq (X Y : It) : sameI X Y = (decide (X.b = Y.b) && (decide (X.nm = Y.nm) && (decide (X.lb = Y.lb) && (sameX false X.e Y.e && sameIL X.l Y.l)))) := by
 cases X; rw [sameI]; rfl
theorem sameIL_nil (Y : List It) : sameIL [] Y = Y.isEmpty := by rw [sameIL]
theorem sameIL_cons (a y : It) (r s : List It) : sameIL (a :: r) (y :: s) = (sameI a y && sameIL r s) := by rw [sameIL]
theorem sameIL_cons0 (a : It) (r : List It) : sameIL (a :: r) [] = false := by rw [sameIL]
theorem sameIL_len : ∀ {A B : List It}, A.length ≠ B.length → sameIL A B = false
 | [], [], h => absurd rfl h
 | [], _ :: _, _ => by rw [sameIL_nil]; rfl
 | _ :: _, [], _ => sameIL_cons0 _ _
 | a :: r, y :: s, h => by rw [sameIL_cons, sameIL_len (A := r) (B := s) (fun e => h (by simp [e])), Bool.and_false]
theorem sameIL_no : ∀ {A B : List It} (j : Nat) {X Y : It}, A[j]? = some X → B[j]? = some Y → sameI X Y = false → sameIL A B = false
 | [], _, _, _, _, h, _, _ => by simp at h
 | _ :: _, [], _, _, _, _, h, _ => by simp at h
 | a :: r, y :: s, 0, X, Y, h, h2, h3 => by
   simp at h h2; subst h h2
   rw [sameIL_cons, h3, Bool.false_and]
 | a :: r, y :: s, j + 1, X, Y, h, h2, h3 => by
   simp at h h2
   rw [sameIL_cons, sameIL_no j h h2 h3, Bool.and_false]
theorem sameIL_yes : ∀ {A B : List It}, A.length = B.length → (∀ (j : Nat) (X Y : It), A[j]? = some X → B[j]? = some Y → sameI X Y = true) → sameIL A B = true
 | [], [], _, _ => by rw [sameIL_nil]; rfl
 | [], _ :: _, h, _ => by simp at h
 | _ :: _, [], h, _ => by simp at h
 | a :: r, y :: s, h, hh => by
   rw [sameIL_cons, hh 0 a y rfl rfl, sameIL_yes (by simpa using h) (fun j X Y h1 h2 => hh (j + 1) X Y (by simpa using h1) (by simpa using h2))]; rfl
theorem tx_injB {a b : List UInt8} (h : tx a = tx b) : a = b := by
 have := congrArg (fun b => b.data.toList) h
 simpa [tx] using this
theorem si_b {X Y : It} (h : X.b ≠ Y.b) : sameI X Y = false := by rw [sameI_eq, decide_eq_false h]; rfl
theorem si_n {X Y : It} (h : tx X.nm ≠ tx Y.nm) : sameI X Y = false := by rw [sameI_eq, decide_eq_false (p := X.nm = Y.nm) (fun e => h (by rw [e]))]; simp
theorem si_l {X Y : It} (h : X.lb ≠ Y.lb) : sameI X Y = false := by rw [sameI_eq, decide_eq_false (p := X.lb = Y.lb) h]; simp
theorem si_e {X Y : It} (h : sameX false X.e Y.e = false) : sameI X Y = false := by rw [sameI_eq, h]; simp
theorem si_i {X Y : It} (h : sameIL X.l Y.l = false) : sameI X Y = false := by rw [sameI_eq, h]; simp
theorem si_yes {X Y : It} (h0 : X.b = Y.b) (h1 : tx X.nm = tx Y.nm) (h2 : X.lb = Y.lb) (h3 : sameX false X.e Y.e = true) (h4 : sameIL X.l Y.l = true) : sameI X Y = true := by
 rw [sameI_eq, decide_eq_true h0, decide_eq_true (tx_injB h1), decide_eq_true h2, h3, h4]; rfl
theorem run_loadVar_rng {P : Program} (w : World) (g o : Nat) (ty : TypeId) (cs : Array Value) (d : TypeDesc) (hg : ∀ m u, cs.toList[m]? = some u → w.cell? ⟨g, o + m, none⟩ = some u)
 (hu : P.underlying ty = some d) (hd : (match d with | .struct _ | .array _ _ => true | _ => false) = true) (hi : (P.info? ty).map (·.size) = some cs.size) :
 (loadVar ty ⟨g, o, none⟩).run P w = .ok (.agg cs) w := by
 have hl : (loadCells ⟨g, o, none⟩ cs.toList.length).run P w = .ok cs.toList.toArray w :=
  run_loadCells_list (P := P) w ⟨g, o, none⟩ cs.toList (fun j v hv => by
   have hadd : (⟨g, o, none⟩ : Addr).add j = ⟨g, o + j, none⟩ := by unfold Addr.add; split <;> simp_all
   rw [hadd]
   exact hg j v hv)
 cases hq : P.info? ty with
 | none => simp [hq] at hi
 | some i =>
   have hs : i.size = cs.size := by simpa [hq] using hi
   have hagg : (isAgg ty).run P w = .ok true w := by
    unfold isAgg
    rw [Sem.run_bind, run_underlying hu w]
    cases d <;> simp_all
   simp only [Array.length_toList, Array.toArray_toList] at hl
   simp [loadVar, Sem.run_bind, hagg, sizeOf, typeInfo, hq, hs, hl]
theorem exec_load40 {a : Act} {o : Oper} {x : Operand} {g off : Nat} {c : Array Value} {W : World} (ho : o.op = .load 40 x) (hx : a.eval x = .pointer (some ⟨g, off, none⟩)) (h : ∀ m u, c.toList[m]? = some u → W.cell? ⟨g, off + m, none⟩ = some u) (hc : c.size = 22) :
 (execOp a.eval o).run Tryz.prog W = .ok (.value (.agg c)) W := by
 unfold execOp
 simp only [ho, hx, Instr.loadAt, Instr.sureAddr, Sem.run_bind, Sem.run_pure, Result.andThen_ok]
 rw [run_loadVar_rng (P := Tryz.prog) W g off 40 c _ h Tryz.underlying40 rfl (size40z hc)]
 rfl
theorem held_row {N : Nat} {W0 W1 : World} {g : Nat} (h : (∀ b o, b < N → W1.cell? ⟨b, o, none⟩ = W0.cell? ⟨b, o, none⟩) ∧ Hid (Below N W0 W1) ∧ Hid (N ≤ W1.heap.size)) (hg : N ≤ g) (cs : Array Value) :
 (∀ b o, b < N → (W1.setRow g cs).cell? ⟨b, o, none⟩ = W0.cell? ⟨b, o, none⟩) ∧ Hid (Below N W0 (W1.setRow g cs)) ∧ Hid (N ≤ (W1.setRow g cs).heap.size) := by
 have hB : Below N W0 (W1.setRow g cs) := Below.row h.2.1.out hg cs
 exact ⟨fun b o hb => hB.cell (p := ⟨b, o, none⟩) hb, hB, by unfold Hid; rw [size_setRow]; exact h.2.2.out⟩
theorem item_at {n : Nat} {w : World} {l : List It} {v : Value} (h : PayI l (fun k => k < n) w v) : ∃ o cap, v = .slice o l.length cap ∧ l.length ≤ cap ∧ cap ≤ maxLen ∧ ∀ (j : Nat) (X : It), l[j]? = some X → ∃ (b off : Nat) (oL : Option Addr) (cL : Nat) (oV : Option Addr) (cV : Nat) (oK : Option Addr) (cK : Nat) (oE : Option Addr) (cE : Nat) (oI : Option Addr) (cI : Nat), o = some ⟨b, off, none⟩ ∧ b < n ∧
 (∀ m u, (ic X oL cL oV cV oK cK oE cE oI cI).toList[m]? = some u → w.cell? ⟨b, off + j * 22 + m, none⟩ = some u) ∧
 RowP (fun k => k < n) w oL cL X.lb.length 1 (fun j _ => .string (tx (X.lb.getD j []))) ∧ XL n w X.e (.agg (xc X.e oV cV oK cK oE cE)) ∧ PayI X.l (fun k => k < n) w (.slice oI X.l.length cI) := by
 obtain ⟨o, cap, rfl, h1, h2, h3⟩ := ip_at h
 refine ⟨o, cap, rfl, h1, h2, fun j X hX => ?_⟩
 obtain ⟨b, off, oI, cI, cs, ho, hb, hp, -, -, hc, -, -, hI⟩ := h3 j X hX
 cases hI with
 | mk _ oL oV oK oE oI' cL cV cK cE cI' c hl he hi hy =>
   exact ⟨b, off, oL, cL, oV, cV, oK, cK, oE, cE, oI', cI', ho, hb, hc, hl, he, ⟨oI', cI', c, rfl, hi, hy⟩⟩
theorem rng15 {w : World} {g : Nat} {c0 c1 c2 c18 c19 c20 c21 d0 d1 d2 d3 d4 d5 d6 d7 d8 d9 d10 d11 d12 d13 d14 : Value} (h : w.heap[g]? = some (.cells #[c0, c1, c2, d0, d1, d2, d3, d4, d5, d6, d7, d8, d9, d10, d11, d12, d13, d14, c18, c19, c20, c21] 40 (0, 0))) : w.rangeAt g 3 (#[d0, d1, d2, d3, d4, d5, d6, d7, d8, d9, d10, d11, d12, d13, d14] : Array Value).toList := by
 intro m u hm
 have hlt : m < 15 := by have := (List.getElem?_eq_some_iff.1 hm).1; simpa using this
 rw [cell_of_row w g (3 + m) _ _ _ h]
 obtain rfl | rfl | rfl | rfl | rfl | rfl | rfl | rfl | rfl | rfl | rfl | rfl | rfl | rfl | rfl := (by omega : m = 0 ∨ m = 1 ∨ m = 2 ∨ m = 3 ∨ m = 4 ∨ m = 5 ∨ m = 6 ∨ m = 7 ∨ m = 8 ∨ m = 9 ∨ m = 10 ∨ m = 11 ∨ m = 12 ∨ m = 13 ∨ m = 14)
 all_goals exact hm
set_option maxRecDepth 100000 in
set_option maxHeartbeats 8000000 in
theorem same10I (X : It) : ∀ (n : Nat) (B : List It) (a b : Value) (w : World), PayI X.l (fun k => k < n) w a → PayI B (fun k => k < n) w b → n ≤ w.heap.size → Calls Tryz.prog 10 #[a, b, .bool false] w fun e w' => e = .returned (.bool (sameIL X.l B)) ∧ Below w.heap.size w w' := by
 induction X using it_ind with
 | h X ih =>
   intro n B a b w ha hb hn
   generalize X.l = A at *
   obtain ⟨o, cap, rfl, hlen, hcap, hat⟩ := item_at ha
   obtain ⟨o', cap', rfl, hlen', hcap', hat'⟩ := item_at hb
   have HCA := qh hat
   have HCB := qh hat'
   have HIH := qh ih
   unfold maxLen at hcap hcap'
   have HN0 := qh hn
   have RNO := qh (fun (j : Nat) (X Y : It) h1 h2 h3 => sameIL_no (A := A) (B := B) j (X := X) (Y := Y) h1 h2 h3)
   have RYES := qh (sameIL_yes (A := A) (B := B))
   have RLEN := qh (sameIL_len (A := A) (B := B))
   generalize sameIL A B = RES at *
   clear ih ha hb hat hat' hn
   by_cases hll : A.length = B.length
   case neg =>
    have hr : RES = false := RLEN.out hll
    subst hr
    have g1 : ((A.length : Int) != (B.length : Int)) = true := by rw [bne_iff_ne]; omega
    go_enter Tryz.func10, Tryz.ntmps10
    go_wp2_with fail
    go_ret
    exact ⟨rfl, Below.refl _ _⟩
   rw [← hll] at hlen' ⊢
   have HLL := qh hll
   clear hll RLEN
   go_enter Tryz.func10, Tryz.ntmps10
   go_upto_region 4 with fail
   go_loopw [7] (fun v7 wr => ∃ k : Nat, k ≤ A.length ∧ v7 = .int .i64 (k : Int) ∧ Hid (Below w.heap.size w wr) ∧ Hid (∀ (j : Nat) (X Y : It), j < k → A[j]? = some X → B[j]? = some Y → sameI X Y = true)) (fun v _ => A.length - (RowKit.intOf v).toNat)
   case atStart => exact ⟨0, Nat.zero_le _, rfl, Below.refl _ _, fun j X Y h => absurd h (Nat.not_lt_zero _)⟩
   case round =>
    obtain ⟨k, hk, rfl, HW1, HKK⟩ := hrel
    by_cases hlt : k < A.length
    · have hx := List.getElem?_eq_getElem hlt
      have hy := List.getElem?_eq_getElem (l := B) (i := k) (by have := HLL.out; omega)
      generalize A[k] = x at hx
      generalize B[k]'(by have := HLL.out; omega) = y at hy
      obtain ⟨bx, off, oL, cL, oV, cV, oK, cK, oE, cE, oI, cI, rfl, hbx, hcx, hrL, hxE, hpI⟩ := HCA.out k x hx
      obtain ⟨bY, off', oL', cL', oV', cV', oK', cK', oE', cE', oI', cI', rfl, hbY, hcy, hrL', hxE', hpI'⟩ := HCB.out k y hy
      have hM := qh (List.mem_of_getElem? hx)
      have HNO : Hid (sameI x y = false → RES = false) := fun h => RNO.out k x y hx hy h
      have HKS : Hid (sameI x y = true → ∀ (j : Nat) (X Y : It), j < k + 1 → A[j]? = some X → B[j]? = some Y → sameI X Y = true) := fun h j X Y hj h1 h2 => by
       by_cases e : j = k
       · subst e; rw [hx] at h1; rw [hy] at h2; injection h1 with h1; injection h2 with h2; rw [← h1, ← h2]; exact h
       · exact HKK.out j X Y (by omega) h1 h2
      have bwr : Below w.heap.size w wr := HW1.out
      have hn := HN0.out
      have tk : ∀ i, i < n → wr.heap[i]? = w.heap[i]? := fun i hi => bwr.block i (by omega)
      have HRX : Hid (∀ m u, (ic x oL cL oV cV oK cK oE cE oI cI).toList[m]? = some u → wr.cell? ⟨bx, off + k * 22 + m, none⟩ = some u) := fun m u h => (World.cell?_of_block (tk bx hbx)).trans (hcx m u h)
      have HRY : Hid (∀ m u, (ic y oL' cL' oV' cV' oK' cK' oE' cE' oI' cI').toList[m]? = some u → wr.cell? ⟨bY, off' + k * 22 + m, none⟩ = some u) := fun m u h => (World.cell?_of_block (tk bY hbY)).trans (hcy m u h)
      have HLX := qh (hrL.keptP (P' := fun k => k < n) fun i hi => ⟨hi, tk i hi⟩)
      have HLY := qh (hrL'.keptP (P' := fun k => k < n) fun i hi => ⟨hi, tk i hi⟩)
      have HEX : Hid (XL n wr x.e (.agg (xc x.e oV cV oK cK oE cE))) := XP.keptP hxE fun i hi => ⟨hi, tk i hi⟩
      have HEY : Hid (XL n wr y.e (.agg (xc y.e oV' cV' oK' cK' oE' cE'))) := XP.keptP hxE' fun i hi => ⟨hi, tk i hi⟩
      have HPX := qh (hpI.keptP (P' := fun k => k < n) fun i hi => ⟨hi, tk i hi⟩)
      have HPY := qh (hpI'.keptP (P' := fun k => k < n) fun i hi => ⟨hi, tk i hi⟩)
      have HIX := qh (HIH.out x hM.out)
      have e1 : (k : Int) < (A.length : Int) := by omega
      have k0 : ¬ (k : Int) < 0 := by omega
      have e2 : IntKind.i64.wrap ((k : Int) + 1) = ((k + 1 : Nat) : Int) := by rw [IntWalk.i64_in _ (by omega)]; rfl
      obtain ⟨H1cx, -⟩ := ic_ones x oL cL oV cV oK cK oE cE oI cI
      obtain ⟨H1cy, -⟩ := ic_ones y oL' cL' oV' cV' oK' cK' oE' cE' oI' cI'
      have H22cx : Hid ((ic x oL cL oV cV oK cK oE cE oI cI).size = 22) := rfl
      have H22cy : Hid ((ic y oL' cL' oV' cV' oK' cK' oE' cE' oI' cI').size = 22) := rfl
      have H1cx := qh H1cx
      have H1cy := qh H1cy
      obtain ⟨cx, hcX⟩ : ∃ q, ic x oL cL oV cV oK cK oE cE oI cI = q := ⟨_, rfl⟩
      obtain ⟨cy, hcY⟩ : ∃ q, ic y oL' cL' oV' cV' oK' cK' oE' cE' oI' cI' = q := ⟨_, rfl⟩
      rw [hcX] at HRX H22cx H1cx
      rw [hcY] at HRY H22cy H1cy
      have HCX := qh hcX
      have HCY := qh hcY
      obtain ⟨N, hN⟩ : ∃ N, N = wr.heap.size := ⟨_, rfl⟩
      have S0 := held_at hN
      have LBX : Hid (bx < N) := by have := bwr.size; unfold Hid; omega
      have LBY : Hid (bY < N) := by have := bwr.size; unfold Hid; omega
      have HNN : Hid (n ≤ N) := by have := bwr.size; unfold Hid; omega
      have HWN : Hid (w.heap.size ≤ N) := by have := bwr.size; unfold Hid; omega
      have HNE0 := qh hN
      clear hx hy hcx hcy hrL hrL' hxE hxE' hpI hpI' tk hcX hcY hn hbx hbY bwr hN HKK
      go_upto_region 6 with fail
      go_cut [8, 9] (fun p1 p2 wx => ∃ g1 g2 : Nat, p1 = .pointer (some ⟨g1, 0, none⟩) ∧ p2 = .pointer (some ⟨g2, 0, none⟩) ∧ wx.heap[g1]? = some (.cells cx 40 (0, 0)) ∧ wx.heap[g2]? = some (.cells cy 40 (0, 0)) ∧ Below N wr wx ∧ N ≤ g1 ∧ N ≤ g2)
      case first =>
       refine wp_region_noPanic ?_
       refine wp_region_held_drew (S := (fun W => (∀ b o, b < N → W.cell? ⟨b, o, none⟩ = wr.cell? ⟨b, o, none⟩) ∧ Hid (Below N wr W) ∧ Hid (N ≤ W.heap.size))) (by kernel_rfl) ?_ (fun hH => ?_)
       · exact S0
       generalize wr.drew = Ws at *
       refine wpAnyH_take (i := 0) (oi := { dst := some 22, op := Op.move (Operand.tmp 0), type := 22, pos := _, after := _, guard := none }) (v := ?_) rfl (by kernel_rfl) (by kernel_rfl) (by kernel_rfl) (fun _ _ _ h => h) (Or.inl ⟨by rfl, ?_⟩) (by assumption) ?_
       rotate_left
       · (intro w hSw; (try dsimp only at hSw); go_simp; try with_reducible rfl)
       try simp only [Act.put, sqa, sqb, sqc]
       refine wpAnyH_take (i := 1) (oi := { dst := some 23, op := Op.move (Operand.tmp 7), type := 3, pos := _, after := _, guard := none }) (v := ?_) rfl (by kernel_rfl) (by kernel_rfl) (by kernel_rfl) (fun _ _ _ h => h) (Or.inl ⟨by rfl, ?_⟩) (by assumption) ?_
       rotate_left
       · (intro w hSw; (try dsimp only at hSw); go_simp; try with_reducible rfl)
       try simp only [Act.put, sqa, sqb, sqc]
       refine wpAnyH_take (i := 2) (oi := { dst := some 24, op := Op.indexAddr 22 (Operand.tmp 22) (Operand.tmp 23), type := 0, pos := _, after := _, guard := none }) (v := ?_) rfl (by kernel_rfl) (by kernel_rfl) (by kernel_rfl) (fun _ _ _ h => h) (Or.inl ⟨by rfl, ?_⟩) (by assumption) ?_
       rotate_left
       · (intro w hSw; (try dsimp only at hSw); go_simp; try with_reducible rfl)
       try simp only [Act.put, sqa, sqb, sqc]
       refine wpAnyH_take (i := 3) (oi := { dst := some 25, op := Op.load 40 (Operand.tmp 24), type := 40, pos := _, after := _, guard := none }) (v := .agg cx) rfl (by kernel_rfl) (by kernel_rfl) (by kernel_rfl) (fun _ _ _ h => h) (Or.inl ⟨by rfl, ?_⟩) (by assumption) ?_
       · (intro W hSw;  exact exec_load40 rfl rfl (fun m u h => (hSw.1 bx _ LBX.out).trans (HRX.out m u h)) H22cx.out)
       try simp only [Act.put, sqa, sqb, sqc]
       refine wpAnyH_take (i := 4) (oi := { dst := some 26, op := Op.move (Operand.tmp 1), type := 22, pos := _, after := _, guard := none }) (v := ?_) rfl (by kernel_rfl) (by kernel_rfl) (by kernel_rfl) (fun _ _ _ h => h) (Or.inl ⟨by rfl, ?_⟩) (by assumption) ?_
       rotate_left
       · (intro w hSw; (try dsimp only at hSw); go_simp; try with_reducible rfl)
       try simp only [Act.put, sqa, sqb, sqc]
       refine wpAnyH_take (i := 5) (oi := { dst := some 27, op := Op.move (Operand.tmp 7), type := 3, pos := _, after := _, guard := none }) (v := ?_) rfl (by kernel_rfl) (by kernel_rfl) (by kernel_rfl) (fun _ _ _ h => h) (Or.inl ⟨by rfl, ?_⟩) (by assumption) ?_
       rotate_left
       · (intro w hSw; (try dsimp only at hSw); go_simp; try with_reducible rfl)
       try simp only [Act.put, sqa, sqb, sqc]
       refine wpAnyH_take (i := 6) (oi := { dst := some 28, op := Op.indexAddr 22 (Operand.tmp 26) (Operand.tmp 27), type := 0, pos := _, after := _, guard := none }) (v := ?_) rfl (by kernel_rfl) (by kernel_rfl) (by kernel_rfl) (fun _ _ _ h => h) (Or.inl ⟨by rfl, ?_⟩) (by assumption) ?_
       rotate_left
       · (intro w hSw; (try dsimp only at hSw); go_simp; try with_reducible rfl)
       try simp only [Act.put, sqa, sqb, sqc]
       refine wpAnyH_take (i := 7) (oi := { dst := some 29, op := Op.load 40 (Operand.tmp 28), type := 40, pos := _, after := _, guard := none }) (v := .agg cy) rfl (by kernel_rfl) (by kernel_rfl) (by kernel_rfl) (fun _ _ _ h => h) (Or.inl ⟨by rfl, ?_⟩) (by assumption) ?_
       · (intro W hSw;  exact exec_load40 rfl rfl (fun m u h => (hSw.1 bY _ LBY.out).trans (HRY.out m u h)) H22cy.out)
       try simp only [Act.put, sqa, sqb, sqc]
       refine wpAnyH_ready (rs := [8, 9]) (by kernel_rfl) (by simp) ?_
       refine (AllReadyH.cons (o := { dst := some 8, op := Op.alloc 40, type := 0, pos := _, after := _, guard := none }) rfl (fun K hK => ?_) (AllReadyH.cons (o := { dst := some 9, op := Op.alloc 40, type := 0, pos := _, after := _, guard := none }) rfl (fun K hK => ?_) AllReadyH.nil))
       · go_simp
         have HG1 := hH.2.2
         have BB : Below Ws.heap.size Ws (Ws.alloc (.cells z22 40)) := (Below.refl _ _).alloc (Nat.le_refl _) _
         refine hK.out _ _ ?_ (fun hH' => ?_)
         · exact held_next BB hH
         have R1 := qh (heap_alloc_new Ws (.cells z22 40))
         clear BB
         clear hK K hH
         have hH := hH'
         clear hH'
         try simp only [Act.put, sqa, sqb, sqc]
         generalize Ws.alloc (.cells z22 40) = Wa at *
         generalize Ws.heap.size = g1 at *
         refine wpAnyH_ready (rs := [9]) (by kernel_rfl) (by simp) ?_
         refine AllReadyH.cons (o := { dst := some 9, op := Op.alloc 40, type := 0, pos := _, after := _, guard := none }) rfl (fun K hK => ?_) AllReadyH.nil
         go_simp
         have HG2 := hH.2.2
         have BB : Below Wa.heap.size Wa (Wa.alloc (.cells z22 40)) := (Below.refl _ _).alloc (Nat.le_refl _) _
         refine hK.out _ _ ?_ (fun hH' => ?_)
         · exact held_next BB hH
         have HNE : Hid (g1 < Wa.heap.size) := (Array.getElem?_eq_some_iff.1 R1.out).1
         have R2 := qh (heap_alloc_new Wa (.cells z22 40))
         replace R1 := qh ((heap_alloc_old Wa (.cells z22 40) (Array.getElem?_eq_some_iff.1 R1.out).1).trans R1.out)
         clear BB
         clear hK K hH
         have hH := hH'
         clear hH'
         try simp only [Act.put, sqa, sqb, sqc]
         generalize Wa.alloc (.cells z22 40) = Wb at *
         generalize Wa.heap.size = g2 at *
         refine wpAnyH_ready (rs := [10]) (by kernel_rfl) (by simp) ?_
         refine AllReadyH.cons (o := { dst := none, op := Op.store 40 (Operand.tmp 8) (Operand.tmp 25), type := 0, pos := _, after := _, guard := none }) rfl (fun K hK => ?_) AllReadyH.nil
         refine step_store_row rfl 40 (.tmp 8) (.tmp 25) rfl g1 rfl cx rfl 40 _ R1.out (size40z H22cx.out) (by rw [H22cx.out]; rfl) H1cx.out ?_
         try simp only [Act.put]
         replace R2 := qh ((setRow_other Wb g1 g2 cx (by have := HNE.out; omega)).trans R2.out)
         replace R1 := qh (setRow_heap Wb g1 _ cx _ _ R1.out)
         have SB : Below Wb.heap.size Wb (Wb.setRow g1 cx) ∨ True := .inr trivial
         have HN3 : (∀ b o, b < N → (Wb.setRow g1 cx).cell? ⟨b, o, none⟩ = wr.cell? ⟨b, o, none⟩) ∧ Hid (Below N wr (Wb.setRow g1 cx)) ∧ Hid (N ≤ (Wb.setRow g1 cx).heap.size) := held_row hH HG1.out cx
         clear SB
         generalize Wb.setRow g1 cx = Wc at *
         refine hK.out _ _ ?_ (fun hH' => ?_)
         · exact HN3
         clear HN3
         clear hK K hH
         have hH := hH'
         clear hH'
         try simp only [Act.put, sqa, sqb, sqc]
         refine wpAnyH_ready (rs := [11]) (by kernel_rfl) (by simp) ?_
         refine AllReadyH.cons (o := { dst := none, op := Op.store 40 (Operand.tmp 9) (Operand.tmp 29), type := 0, pos := _, after := _, guard := none }) rfl (fun K hK => ?_) AllReadyH.nil
         refine step_store_row rfl 40 (.tmp 9) (.tmp 29) rfl g2 rfl cy rfl 40 _ R2.out (size40z H22cy.out) (by rw [H22cy.out]; rfl) H1cy.out ?_
         try simp only [Act.put]
         replace R1 := qh ((setRow_other Wc g2 g1 cy (by have := HNE.out; omega)).trans R1.out)
         replace R2 := qh (setRow_heap Wc g2 _ cy _ _ R2.out)
         have SB : Below Wc.heap.size Wc (Wc.setRow g2 cy) ∨ True := .inr trivial
         have HN3 : (∀ b o, b < N → (Wc.setRow g2 cy).cell? ⟨b, o, none⟩ = wr.cell? ⟨b, o, none⟩) ∧ Hid (Below N wr (Wc.setRow g2 cy)) ∧ Hid (N ≤ (Wc.setRow g2 cy).heap.size) := held_row hH HG2.out cy
         clear SB
         generalize Wc.setRow g2 cy = Wd at *
         refine hK.out _ _ ?_ (fun hH' => ?_)
         · exact HN3
         clear HN3
         clear hK K hH
         have hH := hH'
         clear hH'
         try simp only [Act.put, sqa, sqb, sqc]
         refine wpAnyH_done (by kernel_rfl) ?_ _
         refine NoPanic.normal ?_
         go_wp2_with fail
         go_meet
         exact ⟨g1, g2, rfl, rfl, R1.out, R2.out, hH.2.1.out, HG1.out, HG2.out⟩
       · go_simp
         have HG2 := hH.2.2
         have BB : Below Ws.heap.size Ws (Ws.alloc (.cells z22 40)) := (Below.refl _ _).alloc (Nat.le_refl _) _
         refine hK.out _ _ ?_ (fun hH' => ?_)
         · exact held_next BB hH
         have R2 := qh (heap_alloc_new Ws (.cells z22 40))
         clear BB
         clear hK K hH
         have hH := hH'
         clear hH'
         try simp only [Act.put, sqa, sqb, sqc]
         generalize Ws.alloc (.cells z22 40) = Wb at *
         generalize Ws.heap.size = g2 at *
         refine wpAnyH_ready (rs := [8]) (by kernel_rfl) (by simp) ?_
         refine AllReadyH.cons (o := { dst := some 8, op := Op.alloc 40, type := 0, pos := _, after := _, guard := none }) rfl (fun K hK => ?_) AllReadyH.nil
         go_simp
         have HG1 := hH.2.2
         have BB : Below Wb.heap.size Wb (Wb.alloc (.cells z22 40)) := (Below.refl _ _).alloc (Nat.le_refl _) _
         refine hK.out _ _ ?_ (fun hH' => ?_)
         · exact held_next BB hH
         have HNE : Hid (g2 < Wb.heap.size) := (Array.getElem?_eq_some_iff.1 R2.out).1
         have R1 := qh (heap_alloc_new Wb (.cells z22 40))
         replace R2 := qh ((heap_alloc_old Wb (.cells z22 40) (Array.getElem?_eq_some_iff.1 R2.out).1).trans R2.out)
         clear BB
         clear hK K hH
         have hH := hH'
         clear hH'
         try simp only [Act.put, sqa, sqb, sqc]
         generalize Wb.alloc (.cells z22 40) = Wa at *
         generalize Wb.heap.size = g1 at *
         refine wpAnyH_ready (rs := [10]) (by kernel_rfl) (by simp) ?_
         refine AllReadyH.cons (o := { dst := none, op := Op.store 40 (Operand.tmp 8) (Operand.tmp 25), type := 0, pos := _, after := _, guard := none }) rfl (fun K hK => ?_) AllReadyH.nil
         refine step_store_row rfl 40 (.tmp 8) (.tmp 25) rfl g1 rfl cx rfl 40 _ R1.out (size40z H22cx.out) (by rw [H22cx.out]; rfl) H1cx.out ?_
         try simp only [Act.put]
         replace R2 := qh ((setRow_other Wa g1 g2 cx (by have := HNE.out; omega)).trans R2.out)
         replace R1 := qh (setRow_heap Wa g1 _ cx _ _ R1.out)
         have SB : Below Wa.heap.size Wa (Wa.setRow g1 cx) ∨ True := .inr trivial
         have HN3 : (∀ b o, b < N → (Wa.setRow g1 cx).cell? ⟨b, o, none⟩ = wr.cell? ⟨b, o, none⟩) ∧ Hid (Below N wr (Wa.setRow g1 cx)) ∧ Hid (N ≤ (Wa.setRow g1 cx).heap.size) := held_row hH HG1.out cx
         clear SB
         generalize Wa.setRow g1 cx = Wc at *
         refine hK.out _ _ ?_ (fun hH' => ?_)
         · exact HN3
         clear HN3
         clear hK K hH
         have hH := hH'
         clear hH'
         try simp only [Act.put, sqa, sqb, sqc]
         refine wpAnyH_ready (rs := [11]) (by kernel_rfl) (by simp) ?_
         refine AllReadyH.cons (o := { dst := none, op := Op.store 40 (Operand.tmp 9) (Operand.tmp 29), type := 0, pos := _, after := _, guard := none }) rfl (fun K hK => ?_) AllReadyH.nil
         refine step_store_row rfl 40 (.tmp 9) (.tmp 29) rfl g2 rfl cy rfl 40 _ R2.out (size40z H22cy.out) (by rw [H22cy.out]; rfl) H1cy.out ?_
         try simp only [Act.put]
         replace R1 := qh ((setRow_other Wc g2 g1 cy (by have := HNE.out; omega)).trans R1.out)
         replace R2 := qh (setRow_heap Wc g2 _ cy _ _ R2.out)
         have SB : Below Wc.heap.size Wc (Wc.setRow g2 cy) ∨ True := .inr trivial
         have HN3 : (∀ b o, b < N → (Wc.setRow g2 cy).cell? ⟨b, o, none⟩ = wr.cell? ⟨b, o, none⟩) ∧ Hid (Below N wr (Wc.setRow g2 cy)) ∧ Hid (N ≤ (Wc.setRow g2 cy).heap.size) := held_row hH HG2.out cy
         clear SB
         generalize Wc.setRow g2 cy = Wd at *
         refine hK.out _ _ ?_ (fun hH' => ?_)
         · exact HN3
         clear HN3
         clear hK K hH
         have hH := hH'
         clear hH'
         try simp only [Act.put, sqa, sqb, sqc]
         refine wpAnyH_done (by kernel_rfl) ?_ _
         refine NoPanic.normal ?_
         go_wp2_with fail
         go_meet
         exact ⟨g1, g2, rfl, rfl, R1.out, R2.out, hH.2.1.out, HG1.out, HG2.out⟩
      case rest =>
       obtain ⟨g1, g2, rfl, rfl, R1, R2, hB, hg1, hg2⟩ := hcut
       generalize wc = w1 at *
       have hcx := HCX.out
       have hcy := HCY.out
       rw [← hcx] at R1
       rw [← hcy] at R2
       unfold ic at R1 R2
       have HBW : Hid (Below w.heap.size w w1) := HW1.out.trans (hB.mono HWN.out)
       have tk : ∀ i, i < n → w1.heap[i]? = wr.heap[i]? := fun i hi => hB.block i (Nat.lt_of_lt_of_le hi HNN.out)
       have ML := qh (HLX.out.keptP (P' := fun k => k < n) fun i hi => ⟨hi, tk i hi⟩)
       have ML' := qh (HLY.out.keptP (P' := fun k => k < n) fun i hi => ⟨hi, tk i hi⟩)
       have MEX : Hid (XL n w1 x.e (.agg (xc x.e oV cV oK cK oE cE))) := XP.keptP HEX.out fun i hi => ⟨hi, tk i hi⟩
       have MEY : Hid (XL n w1 y.e (.agg (xc y.e oV' cV' oK' cK' oE' cE'))) := XP.keptP HEY.out fun i hi => ⟨hi, tk i hi⟩
       have MPX := qh (HPX.out.keptP (P' := fun k => k < n) fun i hi => ⟨hi, tk i hi⟩)
       have MPY := qh (HPY.out.keptP (P' := fun k => k < n) fun i hi => ⟨hi, tk i hi⟩)
       have HN1 : Hid (n ≤ w1.heap.size) := Nat.le_trans HNN.out (by have := hB.size; rw [← HNE0.out] at this; exact this)
       have HR1 : Hid (w1.rangeAt g1 3 (xc x.e oV cV oK cK oE cE).toList) := fun m u hm => rng15 R1 m u hm
       have HR2 : Hid (w1.rangeAt g2 3 (xc y.e oV' cV' oK' cK' oE' cE').toList) := fun m u hm => rng15 R2 m u hm
       obtain ⟨⟨p0, p1, p2, -, -, -, -, -, -, -, -, -, -, -, -, -, -, -, p18, -, -, -⟩, -, hb1⟩ := rc22 R1
       obtain ⟨⟨q0, q1, q2, -, -, -, -, -, -, -, -, -, -, -, -, -, -, -, q18, -, -, -⟩, -, hb2⟩ := rc22 R2
       have NB := qh (si_b (X := x) (Y := y))
       have NN := qh (si_n (X := x) (Y := y))
       have NL := qh (si_l (X := x) (Y := y))
       have NE := qh (si_e (X := x) (Y := y))
       have NI := qh (si_i (X := x) (Y := y))
       have NY := qh (si_yes (X := x) (Y := y))
       clear R1 R2 hB hg1 hg2 hcx hcy tk HLX HLY HEX HEY HPX HPY HRX HRY HCX HCY H22cx H22cy H1cx H1cy HW1 S0 LBX LBY HNE0 HWN HNN
       generalize sameI x y = SI at *
       obtain ⟨xb, hxb⟩ : ∃ q, x.b = q := ⟨_, rfl⟩
       obtain ⟨yb, hyb⟩ : ∃ q, y.b = q := ⟨_, rfl⟩
       rw [hxb] at p0 NB NY
       rw [hyb] at q0 NB NY
       clear hxb hyb
       by_cases hbb : xb = yb
       case neg =>
        have hr : RES = false := HNO.out (NB.out hbb)
        subst hr
        have gb : (xb != yb) = true := by rw [bne_iff_ne]; exact hbb
        go_wp2_with fail
        go_ret
        exact ⟨rfl, HBW.out⟩
       subst hbb
       obtain ⟨nx, hnx⟩ : ∃ q, tx x.nm = q := ⟨_, rfl⟩
       obtain ⟨ny, hny⟩ : ∃ q, tx y.nm = q := ⟨_, rfl⟩
       rw [hnx] at p1 NN NY
       rw [hny] at q1 NN NY
       clear hnx hny
       by_cases hnn : nx = ny
       case neg =>
        have hr : RES = false := HNO.out (NN.out hnn)
        subst hr
        obtain ⟨gn1, gn2⟩ := str_ne hnn
        clear hnn
        go_wp2_with fail
        go_ret
        exact ⟨rfl, HBW.out⟩
       subst hnn
       obtain ⟨LX, hLX⟩ : ∃ q, x.lb = q := ⟨_, rfl⟩
       obtain ⟨LY, hLY⟩ : ∃ q, y.lb = q := ⟨_, rfl⟩
       rw [hLX] at ML NL NY p2
       rw [hLY] at ML' NL NY q2
       clear hLX hLY
       by_cases hlen : LX.length = LY.length
       case neg =>
        have hr : RES = false := HNO.out (NL.out fun e => hlen (by rw [e]))
        subst hr
        have gl : ((LX.length : Int) != (LY.length : Int)) = true := by rw [bne_iff_ne]; omega
        clear hlen
        go_wp2_with fail
        go_ret
        exact ⟨rfl, HBW.out⟩
       have C1 : Hid (∀ wq, Below w1.heap.size w1 wq → Calls Tryz.prog 22 #[.agg (xc x.e oV cV oK cK oE cE), .agg (xc y.e oV' cV' oK' cK' oE' cE'), .bool false] wq fun e w' => e = .returned (.bool (sameX false x.e y.e)) ∧ Below wq.heap.size wq w') := fun wq hq =>
        same10_any _ n x.e y.e _ _ wq (Nat.le_refl _) (MEX.out.keptP fun i hi => ⟨hi, hq.block i (Nat.lt_of_lt_of_le hi HN1.out)⟩) (MEY.out.keptP fun i hi => ⟨hi, hq.block i (Nat.lt_of_lt_of_le hi HN1.out)⟩) (Nat.le_trans HN1.out hq.size)
       have H15x : Hid ((xc x.e oV cV oK cK oE cE).size = 15) := rfl
       have H15y : Hid ((xc y.e oV' cV' oK' cK' oE' cE').size = 15) := rfl
       generalize xc x.e oV cV oK cK oE cE = ex at *
       generalize xc y.e oV' cV' oK' cK' oE' cE' = ey at *
       generalize sameX false x.e y.e = SX at *
       clear MEX MEY
       have HLE : Hid ((∀ j, j < LX.length → tx (LX.getD j []) = tx (LY.getD j [])) → LX = LY) := fun h => by
        refine List.ext_getElem? fun j => ?_
        by_cases hj : j < LX.length
        · have := tx_injB (h j hj)
          rw [List.getD_eq_getElem?_getD, List.getD_eq_getElem?_getD, List.getElem?_eq_getElem hj, List.getElem?_eq_getElem (by omega)] at this
          rw [List.getElem?_eq_getElem hj, List.getElem?_eq_getElem (by omega)]
          exact congrArg some this
        · rw [List.getElem?_eq_none (by omega), List.getElem?_eq_none (by omega)]
       rw [← hlen] at ML' q2
       have HNLE : Hid (∀ j, tx (LX.getD j []) ≠ tx (LY.getD j []) → LX ≠ LY) := fun j h e => h (by rw [e])
       obtain ⟨nl, hnl⟩ : ∃ q, LX.length = q := ⟨_, rfl⟩
       rw [hnl] at p2 q2 ML ML' HLE
       clear hnl hlen
       have HNL : Hid (nl ≤ 9223372036854775807) := by have h1 := ML.out.1; have h2 := ML.out.2.1; unfold maxLen at h2; unfold Hid; omega
       go_upto_region 10 with fail
       go_loopw [10] (fun v10 wq => ∃ j : Nat, j ≤ nl ∧ v10 = .int .i64 (j : Int) ∧ Hid (Below w1.heap.size w1 wq) ∧ Hid (∀ i, i < j → tx (LX.getD i []) = tx (LY.getD i []))) (fun v _ => nl - (RowKit.intOf v).toNat)
       case atStart => exact ⟨0, Nat.zero_le _, rfl, Below.refl _ _, fun i h => absurd h (Nat.not_lt_zero _)⟩
       case round =>
        obtain ⟨j, hj, rfl, HQ, HJ⟩ := hrel
        have cg1 : ∀ i, wr.cell? ⟨g1, i, none⟩ = w1.cell? ⟨g1, i, none⟩ := fun i => World.cell?_of_block (HQ.out.block g1 hb1)
        have cg2 : ∀ i, wr.cell? ⟨g2, i, none⟩ = w1.cell? ⟨g2, i, none⟩ := fun i => World.cell?_of_block (HQ.out.block g2 hb2)
        replace p2 := (cg1 2).trans p2
        replace q2 := (cg2 2).trans q2
        replace p18 := (cg1 18).trans p18
        replace q18 := (cg2 18).trans q18
        have hg1 : g1 < wr.heap.size := Nat.lt_of_lt_of_le hb1 HQ.out.size
        have hg2 : g2 < wr.heap.size := Nat.lt_of_lt_of_le hb2 HQ.out.size
        by_cases hjl : j < nl
        · obtain ⟨bl, fl, rfl, hbl, rc⟩ := ML.out.2.2.2 (by omega)
          obtain ⟨bl', fl', rfl, hbl', rc'⟩ := ML'.out.2.2.2 (by omega)
          have L0 := (World.cell?_of_block (a := ⟨bl, fl + j * 1 + 0, none⟩) (HQ.out.block bl (Nat.lt_of_lt_of_le hbl HN1.out))).trans (rc j hjl 0 (by decide))
          have L0' := (World.cell?_of_block (a := ⟨bl', fl' + j * 1 + 0, none⟩) (HQ.out.block bl' (Nat.lt_of_lt_of_le hbl' HN1.out))).trans (rc' j hjl 0 (by decide))
          simp only [Nat.mul_one, Nat.add_zero] at L0 L0'
          have j1 : (j : Int) < (nl : Int) := by omega
          have j0 : ¬ (j : Int) < 0 := by omega
          have j2 : IntKind.i64.wrap ((j : Int) + 1) = ((j + 1 : Nat) : Int) := by rw [IntWalk.i64_in _ (by have := HNL.out; omega)]; rfl
          have lb1 : bl < wr.heap.size := Nat.lt_of_lt_of_le (Nat.lt_of_lt_of_le hbl HN1.out) HQ.out.size
          have lb2 : bl' < wr.heap.size := Nat.lt_of_lt_of_le (Nat.lt_of_lt_of_le hbl' HN1.out) HQ.out.size
          have HQD : Hid (Below w1.heap.size w1 wr.drew) := HQ.out.drew
          have HJS : Hid (tx (LX.getD j []) = tx (LY.getD j []) → ∀ i, i < j + 1 → tx (LX.getD i []) = tx (LY.getD i [])) := fun h i hi => by
           by_cases e : i = j
           · subst e; exact h
           · exact HJ.out i (by omega)
          have HJN : Hid (tx (LX.getD j []) ≠ tx (LY.getD j []) → RES = false) := fun h => HNO.out (NL.out (HNLE.out j h))
          generalize tx (LX.getD j []) = sj at *
          generalize tx (LY.getD j []) = sj' at *
          clear rc rc' hbl hbl' cg1 cg2 hb1 hb2 p0 p1 q0 q1 p18 q18 HJ
          by_cases hsj : sj = sj'
          · have HJ2 := qh (HJS.out hsj)
            subst hsj
            clear HJS HJN
            go_wp2_with fail
            go_region
            go_wp2_with fail
            refine ⟨⟨j + 1, hjl, rfl, HQD.out, HJ2.out⟩, ?_⟩
            simp only [RowKit.intOf]; omega
          · have hr : RES = false := HJN.out hsj
            subst hr
            obtain ⟨gs1, gs2⟩ := str_ne hsj
            have HBD : Hid (Below w.heap.size w wr.drew) := HBW.out.trans (HQD.out.mono HBW.out.size)
            clear hsj HJS HJN
            go_wp2_with fail
            go_region
            go_wp2_with fail
            go_ret
            exact ⟨rfl, HBD.out⟩
        · obtain rfl : j = nl := by omega
          have j1 : ¬ (j : Int) < (j : Int) := by omega
          have HLXY := qh (HLE.out HJ.out)
          have HRQ1 : Hid (wr.rangeAt g1 3 ex.toList) := fun m u hm => (cg1 (3 + m)).trans (HR1.out m u hm)
          have HRQ2 : Hid (wr.rangeAt g2 3 ey.toList) := fun m u hm => (cg2 (3 + m)).trans (HR2.out m u hm)
          have HBQ : Hid (Below w.heap.size w wr) := HBW.out.trans (HQ.out.mono HBW.out.size)
          have C1 := qh (C1.out wr HQ.out)
          have MPQ := qh (MPX.out.keptP (P' := fun k => k < n) fun i hi => ⟨hi, HQ.out.block i (Nat.lt_of_lt_of_le hi HN1.out)⟩)
          have MPQ' := qh (MPY.out.keptP (P' := fun k => k < n) fun i hi => ⟨hi, HQ.out.block i (Nat.lt_of_lt_of_le hi HN1.out)⟩)
          have HNQ : Hid (n ≤ wr.heap.size) := Nat.le_trans HN1.out HQ.out.size
          clear cg1 cg2 MPX MPY HR1 HR2 HQ hb1 hb2 p0 p1 q0 q1 HBW HN1 HLE HJ
          go_wp2_with (first
           | refine wpList_load_mid rfl 38 (.tmp 79) rfl g1 3 rfl ex.toList _ HRQ1.out Tryz.underlying38 rfl (by rw [Array.length_toList]; exact size38z H15x.out) ?_
           | refine wpList_load_mid rfl 38 (.tmp 81) rfl g2 3 rfl ey.toList _ HRQ2.out Tryz.underlying38 rfl (by rw [Array.length_toList]; exact size38z H15y.out) ?_)
          refine C1.out.mono ?_
          rintro e w2 ⟨rfl, b2⟩
          have p18' := ((World.cell?_of_block (a := ⟨g1, 18, none⟩) (b2.block g1 hg1)).trans p18)
          have q18' := ((World.cell?_of_block (a := ⟨g2, 18, none⟩) (b2.block g2 hg2)).trans q18)
          have hb1' : g1 < w2.heap.size := Nat.lt_of_lt_of_le hg1 b2.size
          have hb2' : g2 < w2.heap.size := Nat.lt_of_lt_of_le hg2 b2.size
          have HB2 : Hid (Below w.heap.size w w2) := HBQ.out.trans (b2.mono HBQ.out.size)
          have CC : Hid (Calls Tryz.prog 10 #[.slice oI x.l.length cI, .slice oI' y.l.length cI', .bool false] w2 fun e w' => e = .returned (.bool (sameIL x.l y.l)) ∧ Below w2.heap.size w2 w') :=
           HIX.out n y.l _ _ w2 (MPQ.out.keptP fun i hi => ⟨hi, b2.block i (Nat.lt_of_lt_of_le hi HNQ.out)⟩) (MPQ'.out.keptP fun i hi => ⟨hi, b2.block i (Nat.lt_of_lt_of_le hi HNQ.out)⟩) (Nat.le_trans HNQ.out b2.size)
          clear b2 p2 q2 p18 q18 hg1 hg2 HBQ
          cases SX with
          | false =>
            have hr : RES = false := HNO.out (NE.out rfl)
            subst hr
            go_wp2_with fail
            go_ret
            exact ⟨rfl, HB2.out⟩
          | true =>
            generalize sameIL x.l y.l = SL at *
            go_wp2_with fail
            refine CC.out.mono ?_
            rintro e w3 ⟨rfl, b3⟩
            have HB3 : Hid (Below w.heap.size w w3) := HB2.out.trans (b3.mono HB2.out.size)
            clear b3 p18' q18' hb1' hb2' HB2
            cases SL with
            | false =>
              have hr : RES = false := HNO.out (NI.out rfl)
              subst hr
              go_wp2_with fail
              go_ret
              exact ⟨rfl, HB3.out⟩
            | true =>
              have HKN := qh (HKS.out (NY.out (by trivial) (by trivial) HLXY.out (by trivial) (by trivial)))
              go_wp2_with fail
              refine ⟨⟨k + 1, hlt, rfl, HB3.out, HKN.out⟩, ?_⟩
              simp only [RowKit.intOf]; omega
    · obtain rfl : k = A.length := by omega
      have hr : RES = true := RYES.out HLL.out fun j X Y h1 h2 => HKK.out j X Y (List.getElem?_eq_some_iff.1 h1).1 h1 h2
      subst hr
      have e1 : ¬ (A.length : Int) < (A.length : Int) := by omega
      go_wp2_with fail
      go_ret
      exact ⟨rfl, HW1.out⟩
end Go.Proofs.YtncjncacfagldaaGreatDoor

/- Further texts. -/
import Derived.Test.YtncjncacfagldaaDoorJxE0
import Derived.Test.YtncjncacfagldaaDoorWCZ
import Derived.Laws.AppendOwnNone
import Derived.Maps.AppendAt
import Derived.OwnWalk
import Derived.Test.YtncjncacfagldaaDoorWXA
/- suretyref09.Same: items that are the same, places aside. -/
namespace Go.Proofs.YtncjncacfagldaaDoor
open Go.RowKit Go.Lib

theorem run_loadVar_rng {P : Program} (w : World) (g o : Nat) (ty : TypeId) (cs : Array Value) (d : TypeDesc) (hg : ∀ m u, cs.toList[m]? = some u → w.cell? ⟨g, o + m, none⟩ = some u)
    (hu : P.underlying ty = some d) (hd : (match d with | .struct _ | .array _ _ => true | _ => false) = true) (hi : (P.info? ty).map (·.size) = some cs.size) :
    (loadVar ty ⟨g, o, none⟩).run P w = .ok (.agg cs) w := by
  have hl : (loadCells ⟨g, o, none⟩ cs.toList.length).run P w = .ok cs.toList.toArray w :=
    run_loadCells_list (P := P) w ⟨g, o, none⟩ cs.toList (fun j v hv => by
      have hadd : (⟨g, o, none⟩ : Addr).add j = ⟨g, o + j, none⟩ := by unfold Addr.add; split <;> simp_all
      rw [hadd]
      exact hg j v hv)
  cases hq : P.info? ty with
  | none => simp [hq] at hi
  | some i =>
    have hs : i.size = cs.size := by simpa [hq] using hi
    have hagg : (isAgg ty).run P w = .ok true w := by
      unfold isAgg
      rw [Sem.run_bind, run_underlying hu w]
      cases d <;> simp_all
    simp only [Array.length_toList, Array.toArray_toList] at hl
    simp [loadVar, Sem.run_bind, hagg, sizeOf, typeInfo, hq, hs, hl]
/-- a load of a whole item in a row -/
theorem exec_load52 {a : Act} {o : Oper} {x : Operand} {g off : Nat} {c : Array Value} {W : World} (ho : o.op = .load 52 x) (hx : a.eval x = .pointer (some ⟨g, off, none⟩)) (h : ∀ m u, c.toList[m]? = some u → W.cell? ⟨g, off + m, none⟩ = some u) (hc : c.size = 22) :
    (execOp a.eval o).run Tryd.prog W = .ok (.value (.agg c)) W := by
  unfold execOp
  simp only [ho, hx, Instr.loadAt, Instr.sureAddr, Sem.run_bind, Sem.run_pure, Result.andThen_ok]
  rw [run_loadVar_rng (P := Tryd.prog) W g off 52 c _ h Tryd.underlying52 rfl (info22 hc)]
  rfl
theorem held_row {N : Nat} {W0 W1 : World} {g : Nat} (h : (∀ b o, b < N → W1.cell? ⟨b, o, none⟩ = W0.cell? ⟨b, o, none⟩) ∧ Hid (Below N W0 W1) ∧ Hid (N ≤ W1.heap.size)) (hg : N ≤ g) (cs : Array Value) :
    (∀ b o, b < N → (W1.setRow g cs).cell? ⟨b, o, none⟩ = W0.cell? ⟨b, o, none⟩) ∧ Hid (Below N W0 (W1.setRow g cs)) ∧ Hid (N ≤ (W1.setRow g cs).heap.size) := by
  have hB : Below N W0 (W1.setRow g cs) := Below.row h.2.1.out hg cs
  exact ⟨fun b o hb => hB.cell (p := ⟨b, o, none⟩) hb, hB, by unfold Hid; rw [size_setRow]; exact h.2.2.out⟩
/-- an item, whole: its cells in a row -/
theorem item_at {n : Nat} {w : World} {l : List It} {v : Value} (h : PayI l (fun k => k < n) w v) : ∃ o cap, v = .slice o l.length cap ∧ l.length ≤ cap ∧ cap ≤ maxLen ∧ ∀ (j : Nat) (X : It), l[j]? = some X → ∃ (b off : Nat) (oL : Option Addr) (cL : Nat) (oV : Option Addr) (cV : Nat) (oK : Option Addr) (cK : Nat) (oE : Option Addr) (cE : Nat) (oI : Option Addr) (cI : Nat), o = some ⟨b, off, none⟩ ∧ b < n ∧
    (∀ m u, (ic X oL cL oV cV oK cK oE cE oI cI).toList[m]? = some u → w.cell? ⟨b, off + j * 22 + m, none⟩ = some u) ∧
    RowP (fun k => k < n) w oL cL X.lb.length 1 (fun j _ => .string (tx (X.lb.getD j []))) ∧ XL n w X.e (.agg (xc X.e oV cV oK cK oE cE)) ∧ PayI X.l (fun k => k < n) w (.slice oI X.l.length cI) := by
  obtain ⟨o, cap, rfl, h1, h2, h3⟩ := ip_at h
  refine ⟨o, cap, rfl, h1, h2, fun j X hX => ?_⟩
  obtain ⟨b, off, oI, cI, cs, ho, hb, hp, -, -, hc, -, -, hI⟩ := h3 j X hX
  cases hI with
  | mk _ oL oV oK oE oI' cL cV cK cE cI' c hl he hi hy =>
    exact ⟨b, off, oL, cL, oV, cV, oK, cK, oE, cE, oI', cI', ho, hb, hc, hl, he, ⟨oI', cI', c, rfl, hi, hy⟩⟩
theorem rng15 {w : World} {g : Nat} {c0 c1 c2 c18 c19 c20 c21 d0 d1 d2 d3 d4 d5 d6 d7 d8 d9 d10 d11 d12 d13 d14 : Value} (h : w.heap[g]? = some (.cells #[c0, c1, c2, d0, d1, d2, d3, d4, d5, d6, d7, d8, d9, d10, d11, d12, d13, d14, c18, c19, c20, c21] 52 (0, 0))) : w.rangeAt g 3 (#[d0, d1, d2, d3, d4, d5, d6, d7, d8, d9, d10, d11, d12, d13, d14] : Array Value).toList := by
  intro m u hm
  have hlt : m < 15 := by have := (List.getElem?_eq_some_iff.1 hm).1; simpa using this
  rw [cell_of_row w g (3 + m) _ _ _ h]
  obtain rfl | rfl | rfl | rfl | rfl | rfl | rfl | rfl | rfl | rfl | rfl | rfl | rfl | rfl | rfl := (by omega : m = 0 ∨ m = 1 ∨ m = 2 ∨ m = 3 ∨ m = 4 ∨ m = 5 ∨ m = 6 ∨ m = 7 ∨ m = 8 ∨ m = 9 ∨ m = 10 ∨ m = 11 ∨ m = 12 ∨ m = 13 ∨ m = 14)
  all_goals exact hm
theorem bare_at {A B : List It} (h : bareIL A = bareIL B) {j : Nat} {x : It} (hx : A[j]? = some x) : ∃ y, B[j]? = some y ∧ bareI x = bareI y := by
  have e : (bareIL A)[j]? = (bareIL B)[j]? := by rw [h]
  rw [bareIL_map, bareIL_map, List.getElem?_map, List.getElem?_map, hx] at e
  cases hy : B[j]? with
  | none => rw [hy] at e; cases e
  | some y => rw [hy] at e; injection e with e; exact ⟨y, rfl, e⟩
theorem bareI_fields {x y : It} (h : bareI x = bareI y) : x.b = y.b ∧ x.nm = y.nm ∧ x.lb = y.lb ∧ bareX x.e = bareX y.e ∧ bareIL x.l = bareIL y.l := by
  cases x; cases y
  rw [bareI_mk, bareI_mk] at h
  injection h with h1 h2 h3 h4 h5 h6
  exact ⟨h1, h2, h3, h4, h5⟩
theorem ic_size (X : It) (oL : Option Addr) (cL : Nat) (oV : Option Addr) (cV : Nat) (oK : Option Addr) (cK : Nat) (oE : Option Addr) (cE : Nat) (oI : Option Addr) (cI : Nat) : (ic X oL cL oV cV oK cK oE cE oI cI).size = 22 ∧ (ic X oL cL oV cV oK cK oE cE oI cI).all (·.oneCell') = true := ⟨rfl, by rw [Array.all_eq_true_iff_forall_mem]; intro u hu; simp at hu; rcases hu with rfl | rfl | rfl | rfl | rfl | rfl | rfl | rfl | rfl | rfl | rfl | rfl | rfl | rfl | rfl | rfl | rfl | rfl | rfl | rfl | rfl | rfl <;> rfl⟩
set_option maxRecDepth 100000 in
set_option maxHeartbeats 8000000 in
theorem same19I (X : It) : ∀ (n : Nat) (B : List It) (a b : Value) (w : World), PayI X.l (fun k => k < n) w a → PayI B (fun k => k < n) w b → n ≤ w.heap.size → bareIL X.l = bareIL B → Calls Tryd.prog 19 #[a, b, .bool false] w fun e w' => e = .returned (.bool true) ∧ Below w.heap.size w w' := by
  induction X using it_ind with
  | h X ih =>
    intro n B a b w ha hb hn hAB
    generalize X.l = A at *
    obtain ⟨o, cap, rfl, hlen, hcap, hat⟩ := item_at ha
    obtain ⟨o', cap', rfl, hlen', hcap', hat'⟩ := item_at hb
    have HCA := Lib.hid hat
    have HCB := Lib.hid hat'
    have HIH := Lib.hid ih
    have HAB := Lib.hid hAB
    have hll := len_same hAB
    rw [← hll] at hlen' ⊢
    unfold maxLen at hcap hcap'
    have HN0 := Lib.hid hn
    clear ih ha hb hat hat' hAB hll hn
    go_enter Tryd.func19, Tryd.ntmps19
    go_upto_region 4 with fail
    go_loopw [7] (fun v7 wr => ∃ k : Nat, k ≤ A.length ∧ v7 = .int .i64 (k : Int) ∧ Hid (Below w.heap.size w wr)) (fun v _ => A.length - (RowKit.intOf v).toNat)
    case atStart => exact ⟨0, Nat.zero_le _, rfl, Below.refl _ _⟩
    case round =>
      obtain ⟨k, hk, rfl, HW1⟩ := hrel
      by_cases hlt : k < A.length
      · have hx := List.getElem?_eq_getElem hlt
        generalize A[k] = x at hx
        obtain ⟨y, hy, hxy⟩ := bare_at HAB.out hx
        obtain ⟨eb, en, el, ee, ei⟩ := bareI_fields hxy
        obtain ⟨bx, off, oL, cL, oV, cV, oK, cK, oE, cE, oI, cI, rfl, hbx, hcx, hrL, hxE, hpI⟩ := HCA.out k x hx
        obtain ⟨bY, off', oL', cL', oV', cV', oK', cK', oE', cE', oI', cI', rfl, hbY, hcy, hrL', hxE', hpI'⟩ := HCB.out k y hy
        have hM := Lib.hid (List.mem_of_getElem? hx)
        have bwr : Below w.heap.size w wr := HW1.out
        have hn := HN0.out
        have tk : ∀ i, i < n → wr.heap[i]? = w.heap[i]? := fun i hi => bwr.block i (by omega)
        have HRX : Hid (∀ m u, (ic x oL cL oV cV oK cK oE cE oI cI).toList[m]? = some u → wr.cell? ⟨bx, off + k * 22 + m, none⟩ = some u) := fun m u h => (World.cell?_of_block (tk bx hbx)).trans (hcx m u h)
        have HRY : Hid (∀ m u, (ic y oL' cL' oV' cV' oK' cK' oE' cE' oI' cI').toList[m]? = some u → wr.cell? ⟨bY, off' + k * 22 + m, none⟩ = some u) := fun m u h => (World.cell?_of_block (tk bY hbY)).trans (hcy m u h)
        have HLX := Lib.hid (hrL.keptP (P' := fun k => k < n) fun i hi => ⟨hi, tk i hi⟩)
        have HLY := Lib.hid (hrL'.keptP (P' := fun k => k < n) fun i hi => ⟨hi, tk i hi⟩)
        have HEX : Hid (XL n wr x.e (.agg (xc x.e oV cV oK cK oE cE))) := XP.keptP hxE fun i hi => ⟨hi, tk i hi⟩
        have HEY : Hid (XL n wr y.e (.agg (xc y.e oV' cV' oK' cK' oE' cE'))) := XP.keptP hxE' fun i hi => ⟨hi, tk i hi⟩
        have HPX := Lib.hid (hpI.keptP (P' := fun k => k < n) fun i hi => ⟨hi, tk i hi⟩)
        have HPY := Lib.hid (hpI'.keptP (P' := fun k => k < n) fun i hi => ⟨hi, tk i hi⟩)
        have HSE : Hid (sameX false x.e y.e = true) := same_bare ee
        have HEI := Lib.hid ei
        have HXY := Lib.hid (And.intro eb (And.intro en el))
        have HIX := Lib.hid (HIH.out x hM.out)
        have e1 : (k : Int) < (A.length : Int) := by omega
        have k0 : ¬ (k : Int) < 0 := by omega
        have e2 : IntKind.i64.wrap ((k : Int) + 1) = ((k + 1 : Nat) : Int) := by rw [IntWalk.i64_in _ (by omega)]; rfl
        obtain ⟨H22cx, H1cx⟩ := ic_size x oL cL oV cV oK cK oE cE oI cI
        obtain ⟨H22cy, H1cy⟩ := ic_size y oL' cL' oV' cV' oK' cK' oE' cE' oI' cI'
        have H22cx := Lib.hid H22cx
        have H1cx := Lib.hid H1cx
        have H22cy := Lib.hid H22cy
        have H1cy := Lib.hid H1cy
        obtain ⟨cx, hcX⟩ : ∃ q, ic x oL cL oV cV oK cK oE cE oI cI = q := ⟨_, rfl⟩
        obtain ⟨cy, hcY⟩ : ∃ q, ic y oL' cL' oV' cV' oK' cK' oE' cE' oI' cI' = q := ⟨_, rfl⟩
        rw [hcX] at HRX H22cx H1cx
        rw [hcY] at HRY H22cy H1cy
        have HCX := Lib.hid hcX
        have HCY := Lib.hid hcY
        obtain ⟨N, hN⟩ : ∃ N, N = wr.heap.size := ⟨_, rfl⟩
        have S0 := held_at hN
        have LBX : Hid (bx < N) := by have := bwr.size; unfold Hid; omega
        have LBY : Hid (bY < N) := by have := bwr.size; unfold Hid; omega
        have HNN : Hid (n ≤ N) := by have := bwr.size; unfold Hid; omega
        have HWN : Hid (w.heap.size ≤ N) := by have := bwr.size; unfold Hid; omega
        have HNE0 := Lib.hid hN
        clear hx hy hxy eb en el ee ei hcx hcy hrL hrL' hxE hxE' hpI hpI' tk hcX hcY hn hbx hbY bwr hN
        go_upto_region 6 with fail
        go_cut [8, 9] (fun p1 p2 wx => ∃ g1 g2 : Nat, p1 = .pointer (some ⟨g1, 0, none⟩) ∧ p2 = .pointer (some ⟨g2, 0, none⟩) ∧ wx.heap[g1]? = some (.cells cx 52 (0, 0)) ∧ wx.heap[g2]? = some (.cells cy 52 (0, 0)) ∧ Below N wr wx ∧ N ≤ g1 ∧ N ≤ g2)
        case first =>
          refine wp_region_noPanic ?_
          refine wp_region_held_drew (S := (fun W => (∀ b o, b < N → W.cell? ⟨b, o, none⟩ = wr.cell? ⟨b, o, none⟩) ∧ Hid (Below N wr W) ∧ Hid (N ≤ W.heap.size))) (by kernel_rfl) ?_ (fun hH => ?_)
          · exact S0
          generalize wr.drew = Ws at *
          refine wpAnyH_take (i := 0) (oi := { dst := some 22, op := Op.move (Operand.tmp 0), type := 48, pos := "ref.go:116", after := #[], guard := none }) (v := ?_) rfl (by kernel_rfl) (by kernel_rfl) (by kernel_rfl) (fun _ _ _ h => h) (Or.inl ⟨by rfl, ?_⟩) (by assumption) ?_
          rotate_left
          · (intro w hSw; (try dsimp only at hSw); go_simp; try with_reducible rfl)
          try simp only [Act.put, List.setIfInBounds_toArray, List.set_cons_zero, List.set_cons_succ]
          refine wpAnyH_take (i := 1) (oi := { dst := some 23, op := Op.move (Operand.tmp 7), type := 3, pos := "ref.go:116", after := #[], guard := none }) (v := ?_) rfl (by kernel_rfl) (by kernel_rfl) (by kernel_rfl) (fun _ _ _ h => h) (Or.inl ⟨by rfl, ?_⟩) (by assumption) ?_
          rotate_left
          · (intro w hSw; (try dsimp only at hSw); go_simp; try with_reducible rfl)
          try simp only [Act.put, List.setIfInBounds_toArray, List.set_cons_zero, List.set_cons_succ]
          refine wpAnyH_take (i := 2) (oi := { dst := some 24, op := Op.indexAddr 48 (Operand.tmp 22) (Operand.tmp 23), type := 0, pos := "ref.go:116", after := #[{ on := 0, ground := Ground.data }, { on := 1, ground := Ground.data }], guard := none }) (v := ?_) rfl (by kernel_rfl) (by kernel_rfl) (by kernel_rfl) (fun _ _ _ h => h) (Or.inl ⟨by rfl, ?_⟩) (by assumption) ?_
          rotate_left
          · (intro w hSw; (try dsimp only at hSw); go_simp; try with_reducible rfl)
          try simp only [Act.put, List.setIfInBounds_toArray, List.set_cons_zero, List.set_cons_succ]
          refine wpAnyH_take (i := 3) (oi := { dst := some 25, op := Op.load 52 (Operand.tmp 24), type := 52, pos := "ref.go:116", after := #[{ on := 2, ground := Ground.data }], guard := none }) (v := .agg cx) rfl (by kernel_rfl) (by kernel_rfl) (by kernel_rfl) (fun _ _ _ h => h) (Or.inl ⟨by rfl, ?_⟩) (by assumption) ?_
          · (intro W hSw;  exact exec_load52 rfl rfl (fun m u h => (hSw.1 bx _ LBX.out).trans (HRX.out m u h)) H22cx.out)
          try simp only [Act.put, List.setIfInBounds_toArray, List.set_cons_zero, List.set_cons_succ]
          refine wpAnyH_take (i := 4) (oi := { dst := some 26, op := Op.move (Operand.tmp 1), type := 48, pos := "ref.go:116", after := #[{ on := 10, ground := Ground.gcOnly Departure.lateStores }], guard := none }) (v := ?_) rfl (by kernel_rfl) (by kernel_rfl) (by kernel_rfl) (fun _ _ _ h => h) (Or.inl ⟨by rfl, ?_⟩) (by assumption) ?_
          rotate_left
          · (intro w hSw; (try dsimp only at hSw); go_simp; try with_reducible rfl)
          try simp only [Act.put, List.setIfInBounds_toArray, List.set_cons_zero, List.set_cons_succ]
          refine wpAnyH_take (i := 5) (oi := { dst := some 27, op := Op.move (Operand.tmp 7), type := 3, pos := "ref.go:116", after := #[{ on := 10, ground := Ground.gcOnly Departure.lateStores }], guard := none }) (v := ?_) rfl (by kernel_rfl) (by kernel_rfl) (by kernel_rfl) (fun _ _ _ h => h) (Or.inl ⟨by rfl, ?_⟩) (by assumption) ?_
          rotate_left
          · (intro w hSw; (try dsimp only at hSw); go_simp; try with_reducible rfl)
          try simp only [Act.put, List.setIfInBounds_toArray, List.set_cons_zero, List.set_cons_succ]
          refine wpAnyH_take (i := 6) (oi := { dst := some 28, op := Op.indexAddr 48 (Operand.tmp 26) (Operand.tmp 27), type := 0, pos := "ref.go:116", after := #[{ on := 4, ground := Ground.data }, { on := 5, ground := Ground.data }, { on := 10, ground := Ground.gcOnly Departure.lateStores }], guard := none }) (v := ?_) rfl (by kernel_rfl) (by kernel_rfl) (by kernel_rfl) (fun _ _ _ h => h) (Or.inl ⟨by rfl, ?_⟩) (by assumption) ?_
          rotate_left
          · (intro w hSw; (try dsimp only at hSw); go_simp; try with_reducible rfl)
          try simp only [Act.put, List.setIfInBounds_toArray, List.set_cons_zero, List.set_cons_succ]
          refine wpAnyH_take (i := 7) (oi := { dst := some 29, op := Op.load 52 (Operand.tmp 28), type := 52, pos := "ref.go:116", after := #[{ on := 6, ground := Ground.data }, { on := 10, ground := Ground.gcOnly Departure.lateStores }], guard := none }) (v := .agg cy) rfl (by kernel_rfl) (by kernel_rfl) (by kernel_rfl) (fun _ _ _ h => h) (Or.inl ⟨by rfl, ?_⟩) (by assumption) ?_
          · (intro W hSw;  exact exec_load52 rfl rfl (fun m u h => (hSw.1 bY _ LBY.out).trans (HRY.out m u h)) H22cy.out)
          try simp only [Act.put, List.setIfInBounds_toArray, List.set_cons_zero, List.set_cons_succ]
          refine wpAnyH_ready (rs := [8, 9]) (by kernel_rfl) (by simp) ?_
          refine (AllReadyH.cons (o := { dst := some 8, op := Op.alloc 52, type := 0, pos := "ref.go:116", after := #[], guard := none }) rfl (fun K hK => ?_) (AllReadyH.cons (o := { dst := some 9, op := Op.alloc 52, type := 0, pos := "ref.go:116", after := #[], guard := none }) rfl (fun K hK => ?_) AllReadyH.nil))
          · go_simp
            have HG1 := hH.2.2
            have BB : Below Ws.heap.size Ws (Ws.alloc (.cells #[.bool false, .string ⟨#[]⟩, .slice none 0 0, .int .i64 0, .string ⟨#[]⟩, .string ⟨#[]⟩, .int .i64 0, .int .i64 0, .string ⟨#[]⟩, .slice none 0 0, .slice none 0 0, .int .i64 0, .int .i64 0, .bool false, .slice none 0 0, .int .i64 0, .int .i64 0, .int .i64 0, .slice none 0 0, .int .i64 0, .int .i64 0, .int .i64 0] 52)) := (Below.refl _ _).alloc (Nat.le_refl _) _
            refine hK.out _ _ ?_ (fun hH' => ?_)
            · exact held_next BB hH
            have R1 := Lib.hid (heap_alloc_new Ws (.cells #[.bool false, .string ⟨#[]⟩, .slice none 0 0, .int .i64 0, .string ⟨#[]⟩, .string ⟨#[]⟩, .int .i64 0, .int .i64 0, .string ⟨#[]⟩, .slice none 0 0, .slice none 0 0, .int .i64 0, .int .i64 0, .bool false, .slice none 0 0, .int .i64 0, .int .i64 0, .int .i64 0, .slice none 0 0, .int .i64 0, .int .i64 0, .int .i64 0] 52))
            clear BB
            clear hK K hH
            have hH := hH'
            clear hH'
            try simp only [Act.put, List.setIfInBounds_toArray, List.set_cons_zero, List.set_cons_succ]
            generalize Ws.alloc (.cells #[.bool false, .string ⟨#[]⟩, .slice none 0 0, .int .i64 0, .string ⟨#[]⟩, .string ⟨#[]⟩, .int .i64 0, .int .i64 0, .string ⟨#[]⟩, .slice none 0 0, .slice none 0 0, .int .i64 0, .int .i64 0, .bool false, .slice none 0 0, .int .i64 0, .int .i64 0, .int .i64 0, .slice none 0 0, .int .i64 0, .int .i64 0, .int .i64 0] 52) = Wa at *
            generalize Ws.heap.size = g1 at *
            refine wpAnyH_ready (rs := [9]) (by kernel_rfl) (by simp) ?_
            refine AllReadyH.cons (o := { dst := some 9, op := Op.alloc 52, type := 0, pos := "ref.go:116", after := #[], guard := none }) rfl (fun K hK => ?_) AllReadyH.nil
            go_simp
            have HG2 := hH.2.2
            have BB : Below Wa.heap.size Wa (Wa.alloc (.cells #[.bool false, .string ⟨#[]⟩, .slice none 0 0, .int .i64 0, .string ⟨#[]⟩, .string ⟨#[]⟩, .int .i64 0, .int .i64 0, .string ⟨#[]⟩, .slice none 0 0, .slice none 0 0, .int .i64 0, .int .i64 0, .bool false, .slice none 0 0, .int .i64 0, .int .i64 0, .int .i64 0, .slice none 0 0, .int .i64 0, .int .i64 0, .int .i64 0] 52)) := (Below.refl _ _).alloc (Nat.le_refl _) _
            refine hK.out _ _ ?_ (fun hH' => ?_)
            · exact held_next BB hH
            have HNE : Hid (g1 < Wa.heap.size) := (Array.getElem?_eq_some_iff.1 R1.out).1
            have R2 := Lib.hid (heap_alloc_new Wa (.cells #[.bool false, .string ⟨#[]⟩, .slice none 0 0, .int .i64 0, .string ⟨#[]⟩, .string ⟨#[]⟩, .int .i64 0, .int .i64 0, .string ⟨#[]⟩, .slice none 0 0, .slice none 0 0, .int .i64 0, .int .i64 0, .bool false, .slice none 0 0, .int .i64 0, .int .i64 0, .int .i64 0, .slice none 0 0, .int .i64 0, .int .i64 0, .int .i64 0] 52))
            replace R1 := Lib.hid ((heap_alloc_old Wa (.cells #[.bool false, .string ⟨#[]⟩, .slice none 0 0, .int .i64 0, .string ⟨#[]⟩, .string ⟨#[]⟩, .int .i64 0, .int .i64 0, .string ⟨#[]⟩, .slice none 0 0, .slice none 0 0, .int .i64 0, .int .i64 0, .bool false, .slice none 0 0, .int .i64 0, .int .i64 0, .int .i64 0, .slice none 0 0, .int .i64 0, .int .i64 0, .int .i64 0] 52) (Array.getElem?_eq_some_iff.1 R1.out).1).trans R1.out)
            clear BB
            clear hK K hH
            have hH := hH'
            clear hH'
            try simp only [Act.put, List.setIfInBounds_toArray, List.set_cons_zero, List.set_cons_succ]
            generalize Wa.alloc (.cells #[.bool false, .string ⟨#[]⟩, .slice none 0 0, .int .i64 0, .string ⟨#[]⟩, .string ⟨#[]⟩, .int .i64 0, .int .i64 0, .string ⟨#[]⟩, .slice none 0 0, .slice none 0 0, .int .i64 0, .int .i64 0, .bool false, .slice none 0 0, .int .i64 0, .int .i64 0, .int .i64 0, .slice none 0 0, .int .i64 0, .int .i64 0, .int .i64 0] 52) = Wb at *
            generalize Wa.heap.size = g2 at *
            refine wpAnyH_ready (rs := [10]) (by kernel_rfl) (by simp) ?_
            refine AllReadyH.cons (o := { dst := none, op := Op.store 52 (Operand.tmp 8) (Operand.tmp 25), type := 0, pos := "ref.go:116", after := #[{ on := 8, ground := Ground.data }, { on := 3, ground := Ground.data }, { on := 0, ground := Ground.phase }, { on := 1, ground := Ground.phase }, { on := 2, ground := Ground.phase }, { on := 3, ground := Ground.phase }, { on := 4, ground := Ground.textOnly Departure.lateStores }, { on := 5, ground := Ground.textOnly Departure.lateStores }, { on := 6, ground := Ground.textOnly Departure.lateStores }, { on := 7, ground := Ground.textOnly Departure.lateStores }, { on := 8, ground := Ground.phase }, { on := 9, ground := Ground.phase }], guard := none }) rfl (fun K hK => ?_) AllReadyH.nil
            refine step_store_row rfl 52 (.tmp 8) (.tmp 25) rfl g1 rfl cx rfl 52 _ R1.out (info22 H22cx.out) (by rw [H22cx.out]; rfl) H1cx.out ?_
            try simp only [Act.put]
            replace R2 := Lib.hid ((setRow_other Wb g1 g2 cx (by have := HNE.out; omega)).trans R2.out)
            replace R1 := Lib.hid (setRow_heap Wb g1 _ cx _ _ R1.out)
            have SB : Below Wb.heap.size Wb (Wb.setRow g1 cx) ∨ True := .inr trivial
            have HN3 : (∀ b o, b < N → (Wb.setRow g1 cx).cell? ⟨b, o, none⟩ = wr.cell? ⟨b, o, none⟩) ∧ Hid (Below N wr (Wb.setRow g1 cx)) ∧ Hid (N ≤ (Wb.setRow g1 cx).heap.size) := held_row hH HG1.out cx
            clear SB
            generalize Wb.setRow g1 cx = Wc at *
            refine hK.out _ _ ?_ (fun hH' => ?_)
            · exact HN3
            clear HN3
            clear hK K hH
            have hH := hH'
            clear hH'
            try simp only [Act.put, List.setIfInBounds_toArray, List.set_cons_zero, List.set_cons_succ]
            refine wpAnyH_ready (rs := [11]) (by kernel_rfl) (by simp) ?_
            refine AllReadyH.cons (o := { dst := none, op := Op.store 52 (Operand.tmp 9) (Operand.tmp 29), type := 0, pos := "ref.go:116", after := #[{ on := 9, ground := Ground.data }, { on := 7, ground := Ground.data }, { on := 10, ground := Ground.chain }, { on := 0, ground := Ground.phase }, { on := 1, ground := Ground.phase }, { on := 2, ground := Ground.phase }, { on := 3, ground := Ground.phase }, { on := 4, ground := Ground.phase }, { on := 5, ground := Ground.phase }, { on := 6, ground := Ground.phase }, { on := 7, ground := Ground.phase }, { on := 8, ground := Ground.phase }, { on := 9, ground := Ground.phase }, { on := 10, ground := Ground.phase }], guard := none }) rfl (fun K hK => ?_) AllReadyH.nil
            refine step_store_row rfl 52 (.tmp 9) (.tmp 29) rfl g2 rfl cy rfl 52 _ R2.out (info22 H22cy.out) (by rw [H22cy.out]; rfl) H1cy.out ?_
            try simp only [Act.put]
            replace R1 := Lib.hid ((setRow_other Wc g2 g1 cy (by have := HNE.out; omega)).trans R1.out)
            replace R2 := Lib.hid (setRow_heap Wc g2 _ cy _ _ R2.out)
            have SB : Below Wc.heap.size Wc (Wc.setRow g2 cy) ∨ True := .inr trivial
            have HN3 : (∀ b o, b < N → (Wc.setRow g2 cy).cell? ⟨b, o, none⟩ = wr.cell? ⟨b, o, none⟩) ∧ Hid (Below N wr (Wc.setRow g2 cy)) ∧ Hid (N ≤ (Wc.setRow g2 cy).heap.size) := held_row hH HG2.out cy
            clear SB
            generalize Wc.setRow g2 cy = Wd at *
            refine hK.out _ _ ?_ (fun hH' => ?_)
            · exact HN3
            clear HN3
            clear hK K hH
            have hH := hH'
            clear hH'
            try simp only [Act.put, List.setIfInBounds_toArray, List.set_cons_zero, List.set_cons_succ]
            refine wpAnyH_done (by kernel_rfl) ?_ _
            refine NoPanic.normal ?_
            go_wp2_with fail
            go_meet
            exact ⟨g1, g2, rfl, rfl, R1.out, R2.out, hH.2.1.out, HG1.out, HG2.out⟩
          · go_simp
            have HG2 := hH.2.2
            have BB : Below Ws.heap.size Ws (Ws.alloc (.cells #[.bool false, .string ⟨#[]⟩, .slice none 0 0, .int .i64 0, .string ⟨#[]⟩, .string ⟨#[]⟩, .int .i64 0, .int .i64 0, .string ⟨#[]⟩, .slice none 0 0, .slice none 0 0, .int .i64 0, .int .i64 0, .bool false, .slice none 0 0, .int .i64 0, .int .i64 0, .int .i64 0, .slice none 0 0, .int .i64 0, .int .i64 0, .int .i64 0] 52)) := (Below.refl _ _).alloc (Nat.le_refl _) _
            refine hK.out _ _ ?_ (fun hH' => ?_)
            · exact held_next BB hH
            have R2 := Lib.hid (heap_alloc_new Ws (.cells #[.bool false, .string ⟨#[]⟩, .slice none 0 0, .int .i64 0, .string ⟨#[]⟩, .string ⟨#[]⟩, .int .i64 0, .int .i64 0, .string ⟨#[]⟩, .slice none 0 0, .slice none 0 0, .int .i64 0, .int .i64 0, .bool false, .slice none 0 0, .int .i64 0, .int .i64 0, .int .i64 0, .slice none 0 0, .int .i64 0, .int .i64 0, .int .i64 0] 52))
            clear BB
            clear hK K hH
            have hH := hH'
            clear hH'
            try simp only [Act.put, List.setIfInBounds_toArray, List.set_cons_zero, List.set_cons_succ]
            generalize Ws.alloc (.cells #[.bool false, .string ⟨#[]⟩, .slice none 0 0, .int .i64 0, .string ⟨#[]⟩, .string ⟨#[]⟩, .int .i64 0, .int .i64 0, .string ⟨#[]⟩, .slice none 0 0, .slice none 0 0, .int .i64 0, .int .i64 0, .bool false, .slice none 0 0, .int .i64 0, .int .i64 0, .int .i64 0, .slice none 0 0, .int .i64 0, .int .i64 0, .int .i64 0] 52) = Wb at *
            generalize Ws.heap.size = g2 at *
            refine wpAnyH_ready (rs := [8]) (by kernel_rfl) (by simp) ?_
            refine AllReadyH.cons (o := { dst := some 8, op := Op.alloc 52, type := 0, pos := "ref.go:116", after := #[], guard := none }) rfl (fun K hK => ?_) AllReadyH.nil
            go_simp
            have HG1 := hH.2.2
            have BB : Below Wb.heap.size Wb (Wb.alloc (.cells #[.bool false, .string ⟨#[]⟩, .slice none 0 0, .int .i64 0, .string ⟨#[]⟩, .string ⟨#[]⟩, .int .i64 0, .int .i64 0, .string ⟨#[]⟩, .slice none 0 0, .slice none 0 0, .int .i64 0, .int .i64 0, .bool false, .slice none 0 0, .int .i64 0, .int .i64 0, .int .i64 0, .slice none 0 0, .int .i64 0, .int .i64 0, .int .i64 0] 52)) := (Below.refl _ _).alloc (Nat.le_refl _) _
            refine hK.out _ _ ?_ (fun hH' => ?_)
            · exact held_next BB hH
            have HNE : Hid (g2 < Wb.heap.size) := (Array.getElem?_eq_some_iff.1 R2.out).1
            have R1 := Lib.hid (heap_alloc_new Wb (.cells #[.bool false, .string ⟨#[]⟩, .slice none 0 0, .int .i64 0, .string ⟨#[]⟩, .string ⟨#[]⟩, .int .i64 0, .int .i64 0, .string ⟨#[]⟩, .slice none 0 0, .slice none 0 0, .int .i64 0, .int .i64 0, .bool false, .slice none 0 0, .int .i64 0, .int .i64 0, .int .i64 0, .slice none 0 0, .int .i64 0, .int .i64 0, .int .i64 0] 52))
            replace R2 := Lib.hid ((heap_alloc_old Wb (.cells #[.bool false, .string ⟨#[]⟩, .slice none 0 0, .int .i64 0, .string ⟨#[]⟩, .string ⟨#[]⟩, .int .i64 0, .int .i64 0, .string ⟨#[]⟩, .slice none 0 0, .slice none 0 0, .int .i64 0, .int .i64 0, .bool false, .slice none 0 0, .int .i64 0, .int .i64 0, .int .i64 0, .slice none 0 0, .int .i64 0, .int .i64 0, .int .i64 0] 52) (Array.getElem?_eq_some_iff.1 R2.out).1).trans R2.out)
            clear BB
            clear hK K hH
            have hH := hH'
            clear hH'
            try simp only [Act.put, List.setIfInBounds_toArray, List.set_cons_zero, List.set_cons_succ]
            generalize Wb.alloc (.cells #[.bool false, .string ⟨#[]⟩, .slice none 0 0, .int .i64 0, .string ⟨#[]⟩, .string ⟨#[]⟩, .int .i64 0, .int .i64 0, .string ⟨#[]⟩, .slice none 0 0, .slice none 0 0, .int .i64 0, .int .i64 0, .bool false, .slice none 0 0, .int .i64 0, .int .i64 0, .int .i64 0, .slice none 0 0, .int .i64 0, .int .i64 0, .int .i64 0] 52) = Wa at *
            generalize Wb.heap.size = g1 at *
            refine wpAnyH_ready (rs := [10]) (by kernel_rfl) (by simp) ?_
            refine AllReadyH.cons (o := { dst := none, op := Op.store 52 (Operand.tmp 8) (Operand.tmp 25), type := 0, pos := "ref.go:116", after := #[{ on := 8, ground := Ground.data }, { on := 3, ground := Ground.data }, { on := 0, ground := Ground.phase }, { on := 1, ground := Ground.phase }, { on := 2, ground := Ground.phase }, { on := 3, ground := Ground.phase }, { on := 4, ground := Ground.textOnly Departure.lateStores }, { on := 5, ground := Ground.textOnly Departure.lateStores }, { on := 6, ground := Ground.textOnly Departure.lateStores }, { on := 7, ground := Ground.textOnly Departure.lateStores }, { on := 8, ground := Ground.phase }, { on := 9, ground := Ground.phase }], guard := none }) rfl (fun K hK => ?_) AllReadyH.nil
            refine step_store_row rfl 52 (.tmp 8) (.tmp 25) rfl g1 rfl cx rfl 52 _ R1.out (info22 H22cx.out) (by rw [H22cx.out]; rfl) H1cx.out ?_
            try simp only [Act.put]
            replace R2 := Lib.hid ((setRow_other Wa g1 g2 cx (by have := HNE.out; omega)).trans R2.out)
            replace R1 := Lib.hid (setRow_heap Wa g1 _ cx _ _ R1.out)
            have SB : Below Wa.heap.size Wa (Wa.setRow g1 cx) ∨ True := .inr trivial
            have HN3 : (∀ b o, b < N → (Wa.setRow g1 cx).cell? ⟨b, o, none⟩ = wr.cell? ⟨b, o, none⟩) ∧ Hid (Below N wr (Wa.setRow g1 cx)) ∧ Hid (N ≤ (Wa.setRow g1 cx).heap.size) := held_row hH HG1.out cx
            clear SB
            generalize Wa.setRow g1 cx = Wc at *
            refine hK.out _ _ ?_ (fun hH' => ?_)
            · exact HN3
            clear HN3
            clear hK K hH
            have hH := hH'
            clear hH'
            try simp only [Act.put, List.setIfInBounds_toArray, List.set_cons_zero, List.set_cons_succ]
            refine wpAnyH_ready (rs := [11]) (by kernel_rfl) (by simp) ?_
            refine AllReadyH.cons (o := { dst := none, op := Op.store 52 (Operand.tmp 9) (Operand.tmp 29), type := 0, pos := "ref.go:116", after := #[{ on := 9, ground := Ground.data }, { on := 7, ground := Ground.data }, { on := 10, ground := Ground.chain }, { on := 0, ground := Ground.phase }, { on := 1, ground := Ground.phase }, { on := 2, ground := Ground.phase }, { on := 3, ground := Ground.phase }, { on := 4, ground := Ground.phase }, { on := 5, ground := Ground.phase }, { on := 6, ground := Ground.phase }, { on := 7, ground := Ground.phase }, { on := 8, ground := Ground.phase }, { on := 9, ground := Ground.phase }, { on := 10, ground := Ground.phase }], guard := none }) rfl (fun K hK => ?_) AllReadyH.nil
            refine step_store_row rfl 52 (.tmp 9) (.tmp 29) rfl g2 rfl cy rfl 52 _ R2.out (info22 H22cy.out) (by rw [H22cy.out]; rfl) H1cy.out ?_
            try simp only [Act.put]
            replace R1 := Lib.hid ((setRow_other Wc g2 g1 cy (by have := HNE.out; omega)).trans R1.out)
            replace R2 := Lib.hid (setRow_heap Wc g2 _ cy _ _ R2.out)
            have SB : Below Wc.heap.size Wc (Wc.setRow g2 cy) ∨ True := .inr trivial
            have HN3 : (∀ b o, b < N → (Wc.setRow g2 cy).cell? ⟨b, o, none⟩ = wr.cell? ⟨b, o, none⟩) ∧ Hid (Below N wr (Wc.setRow g2 cy)) ∧ Hid (N ≤ (Wc.setRow g2 cy).heap.size) := held_row hH HG2.out cy
            clear SB
            generalize Wc.setRow g2 cy = Wd at *
            refine hK.out _ _ ?_ (fun hH' => ?_)
            · exact HN3
            clear HN3
            clear hK K hH
            have hH := hH'
            clear hH'
            try simp only [Act.put, List.setIfInBounds_toArray, List.set_cons_zero, List.set_cons_succ]
            refine wpAnyH_done (by kernel_rfl) ?_ _
            refine NoPanic.normal ?_
            go_wp2_with fail
            go_meet
            exact ⟨g1, g2, rfl, rfl, R1.out, R2.out, hH.2.1.out, HG1.out, HG2.out⟩
        case rest =>
          obtain ⟨g1, g2, rfl, rfl, R1, R2, hB, hg1, hg2⟩ := hcut
          generalize wc = w1 at *
          obtain ⟨eb, en, el⟩ := HXY.out
          have hcx := HCX.out
          have hcy := HCY.out
          rw [← hcx] at R1
          rw [← hcy] at R2
          unfold ic at R1 R2
          rw [← eb, ← en, ← el] at R2
          have HBW : Hid (Below w.heap.size w w1) := HW1.out.trans (hB.mono HWN.out)
          have tk : ∀ i, i < n → w1.heap[i]? = wr.heap[i]? := fun i hi => hB.block i (Nat.lt_of_lt_of_le hi HNN.out)
          have ML := Lib.hid (HLX.out.keptP (P' := fun k => k < n) fun i hi => ⟨hi, tk i hi⟩)
          have ML' := Lib.hid (HLY.out.keptP (P' := fun k => k < n) fun i hi => ⟨hi, tk i hi⟩)
          have MEX : Hid (XL n w1 x.e (.agg (xc x.e oV cV oK cK oE cE))) := XP.keptP HEX.out fun i hi => ⟨hi, tk i hi⟩
          have MEY : Hid (XL n w1 y.e (.agg (xc y.e oV' cV' oK' cK' oE' cE'))) := XP.keptP HEY.out fun i hi => ⟨hi, tk i hi⟩
          have MPX := Lib.hid (HPX.out.keptP (P' := fun k => k < n) fun i hi => ⟨hi, tk i hi⟩)
          have MPY := Lib.hid (HPY.out.keptP (P' := fun k => k < n) fun i hi => ⟨hi, tk i hi⟩)
          rw [← el] at ML'
          have HN1 : Hid (n ≤ w1.heap.size) := Nat.le_trans HNN.out (by have := hB.size; rw [← HNE0.out] at this; exact this)
          have HR1 : Hid (w1.rangeAt g1 3 (xc x.e oV cV oK cK oE cE).toList) := fun m u hm => rng15 R1 m u hm
          have HR2 : Hid (w1.rangeAt g2 3 (xc y.e oV' cV' oK' cK' oE' cE').toList) := fun m u hm => rng15 R2 m u hm
          obtain ⟨⟨p0, p1, p2, -, -, -, -, -, -, -, -, -, -, -, -, -, -, -, p18, -, -, -⟩, -, hb1⟩ := rc22 R1
          obtain ⟨⟨q0, q1, q2, -, -, -, -, -, -, -, -, -, -, -, -, -, -, -, q18, -, -, -⟩, -, hb2⟩ := rc22 R2
          clear R1 R2 hB hg1 hg2 eb en el hcx hcy tk HLX HLY HEX HEY HPX HPY HRX HRY HCX HCY H22cx H22cy H1cx H1cy HW1 S0 LBX LBY HXY HNE0 HWN HNN
          generalize x.b = bb at *
          generalize tx x.nm = nn at *
          have C1 : Hid (∀ wq, Below w1.heap.size w1 wq → Calls Tryd.prog 10 #[.agg (xc x.e oV cV oK cK oE cE), .agg (xc y.e oV' cV' oK' cK' oE' cE'), .bool false] wq fun e w' => e = .returned (.bool true) ∧ Below wq.heap.size wq w') := fun wq hq => by
            have := same10_any _ n x.e y.e _ _ wq (Nat.le_refl _) (MEX.out.keptP fun i hi => ⟨hi, hq.block i (Nat.lt_of_lt_of_le hi HN1.out)⟩) (MEY.out.keptP fun i hi => ⟨hi, hq.block i (Nat.lt_of_lt_of_le hi HN1.out)⟩) (Nat.le_trans HN1.out hq.size)
            rw [HSE.out] at this; exact this
          have H15x : Hid ((xc x.e oV cV oK cK oE cE).size = 15) := rfl
          have H15y : Hid ((xc y.e oV' cV' oK' cK' oE' cE').size = 15) := rfl
          generalize xc x.e oV cV oK cK oE cE = ex at *
          generalize xc y.e oV' cV' oK' cK' oE' cE' = ey at *
          clear MEX MEY HSE
          obtain ⟨nl, hnl⟩ : ∃ q, x.lb.length = q := ⟨_, rfl⟩
          rw [hnl] at p2 q2 ML ML'
          obtain ⟨LBL, hLBL⟩ : ∃ q, x.lb = q := ⟨_, rfl⟩
          rw [hLBL] at ML ML'
          clear hnl hLBL
          have HNL : Hid (nl ≤ 9223372036854775807) := by have h1 := ML.out.1; have h2 := ML.out.2.1; unfold maxLen at h2; unfold Hid; omega
          go_upto_region 10 with fail
          go_loopw [10] (fun v10 wq => ∃ j : Nat, j ≤ nl ∧ v10 = .int .i64 (j : Int) ∧ Hid (Below w1.heap.size w1 wq)) (fun v _ => nl - (RowKit.intOf v).toNat)
          case atStart => exact ⟨0, Nat.zero_le _, rfl, Below.refl _ _⟩
          case round =>
            obtain ⟨j, hj, rfl, HQ⟩ := hrel
            have cg1 : ∀ i, wr.cell? ⟨g1, i, none⟩ = w1.cell? ⟨g1, i, none⟩ := fun i => World.cell?_of_block (HQ.out.block g1 hb1)
            have cg2 : ∀ i, wr.cell? ⟨g2, i, none⟩ = w1.cell? ⟨g2, i, none⟩ := fun i => World.cell?_of_block (HQ.out.block g2 hb2)
            replace p2 := (cg1 2).trans p2
            replace q2 := (cg2 2).trans q2
            replace p18 := (cg1 18).trans p18
            replace q18 := (cg2 18).trans q18
            have hg1 : g1 < wr.heap.size := Nat.lt_of_lt_of_le hb1 HQ.out.size
            have hg2 : g2 < wr.heap.size := Nat.lt_of_lt_of_le hb2 HQ.out.size
            by_cases hjl : j < nl
            · obtain ⟨bl, fl, rfl, hbl, rc⟩ := ML.out.2.2.2 (by omega)
              obtain ⟨bl', fl', rfl, hbl', rc'⟩ := ML'.out.2.2.2 (by omega)
              have L0 := (World.cell?_of_block (a := ⟨bl, fl + j * 1 + 0, none⟩) (HQ.out.block bl (Nat.lt_of_lt_of_le hbl HN1.out))).trans (rc j hjl 0 (by decide))
              have L0' := (World.cell?_of_block (a := ⟨bl', fl' + j * 1 + 0, none⟩) (HQ.out.block bl' (Nat.lt_of_lt_of_le hbl' HN1.out))).trans (rc' j hjl 0 (by decide))
              simp only [Nat.mul_one, Nat.add_zero] at L0 L0'
              generalize tx (LBL.getD j []) = sj at *
              have j1 : (j : Int) < (nl : Int) := by omega
              have j0 : ¬ (j : Int) < 0 := by omega
              have j2 : IntKind.i64.wrap ((j : Int) + 1) = ((j + 1 : Nat) : Int) := by rw [IntWalk.i64_in _ (by have := HNL.out; omega)]; rfl
              have lb1 : bl < wr.heap.size := Nat.lt_of_lt_of_le (Nat.lt_of_lt_of_le hbl HN1.out) HQ.out.size
              have lb2 : bl' < wr.heap.size := Nat.lt_of_lt_of_le (Nat.lt_of_lt_of_le hbl' HN1.out) HQ.out.size
              clear rc rc' hbl hbl' cg1 cg2 hb1 hb2 p0 p1 q0 q1 p18 q18
              go_wp2_with fail
              have HQD : Hid (Below w1.heap.size w1 wr.drew) := HQ.out.drew
              go_region
              go_wp2_with fail
              refine ⟨⟨j + 1, hjl, rfl, HQD.out⟩, ?_⟩
              simp only [RowKit.intOf]; omega
            · obtain rfl : j = nl := by omega
              have j1 : ¬ (j : Int) < (j : Int) := by omega
              have HRQ1 : Hid (wr.rangeAt g1 3 ex.toList) := fun m u hm => (cg1 (3 + m)).trans (HR1.out m u hm)
              have HRQ2 : Hid (wr.rangeAt g2 3 ey.toList) := fun m u hm => (cg2 (3 + m)).trans (HR2.out m u hm)
              have HBQ : Hid (Below w.heap.size w wr) := HBW.out.trans (HQ.out.mono HBW.out.size)
              have C1 := Lib.hid (C1.out wr HQ.out)
              have MPQ := Lib.hid (MPX.out.keptP (P' := fun k => k < n) fun i hi => ⟨hi, HQ.out.block i (Nat.lt_of_lt_of_le hi HN1.out)⟩)
              have MPQ' := Lib.hid (MPY.out.keptP (P' := fun k => k < n) fun i hi => ⟨hi, HQ.out.block i (Nat.lt_of_lt_of_le hi HN1.out)⟩)
              have HNQ : Hid (n ≤ wr.heap.size) := Nat.le_trans HN1.out HQ.out.size
              clear cg1 cg2 MPX MPY HR1 HR2 HQ hb1 hb2 p0 p1 q0 q1 HBW HN1
              go_wp2_with (first
                | refine wpList_load_mid rfl 33 (.tmp 79) rfl g1 3 rfl ex.toList _ HRQ1.out Tryd.underlying33 rfl (by rw [Array.length_toList, H15x.out]; kernel_rfl) ?_
                | refine wpList_load_mid rfl 33 (.tmp 81) rfl g2 3 rfl ey.toList _ HRQ2.out Tryd.underlying33 rfl (by rw [Array.length_toList, H15y.out]; kernel_rfl) ?_)
              refine C1.out.mono ?_
              rintro e w2 ⟨rfl, b2⟩
              have p18' := ((World.cell?_of_block (a := ⟨g1, 18, none⟩) (b2.block g1 hg1)).trans p18)
              have q18' := ((World.cell?_of_block (a := ⟨g2, 18, none⟩) (b2.block g2 hg2)).trans q18)
              have hb1' : g1 < w2.heap.size := Nat.lt_of_lt_of_le hg1 b2.size
              have hb2' : g2 < w2.heap.size := Nat.lt_of_lt_of_le hg2 b2.size
              have HB2 : Hid (Below w.heap.size w w2) := HBQ.out.trans (b2.mono HBQ.out.size)
              have CC : Hid (Calls Tryd.prog 19 #[.slice oI x.l.length cI, .slice oI' y.l.length cI', .bool false] w2 fun e w' => e = .returned (.bool true) ∧ Below w2.heap.size w2 w') :=
                HIX.out n y.l _ _ w2 (MPQ.out.keptP fun i hi => ⟨hi, b2.block i (Nat.lt_of_lt_of_le hi HNQ.out)⟩) (MPQ'.out.keptP fun i hi => ⟨hi, b2.block i (Nat.lt_of_lt_of_le hi HNQ.out)⟩) (Nat.le_trans HNQ.out b2.size) HEI.out
              clear b2 p2 q2 p18 q18 hg1 hg2 HBQ
              go_wp2_with fail
              refine CC.out.mono ?_
              rintro e w3 ⟨rfl, b3⟩
              have HB3 : Hid (Below w.heap.size w w3) := HB2.out.trans (b3.mono HB2.out.size)
              clear b3 p18' q18' hb1' hb2' HB2
              go_wp2_with fail
              refine ⟨⟨k + 1, hlt, rfl, HB3.out⟩, ?_⟩
              simp only [RowKit.intOf]; omega
      · obtain rfl : k = A.length := by omega
        have e1 : ¬ (A.length : Int) < (A.length : Int) := by omega
        go_wp2_with fail
        go_ret
        exact ⟨rfl, HW1.out⟩
end Go.Proofs.YtncjncacfagldaaDoor
/- Rows of items that are put together. -/
namespace Go.Proofs.YtncjncacfagldaaDoor
open Go.RowKit Go.Lib

abbrev row22 (D : Nat → Nat → Value) (j : Nat) : Array Value := #[D j 0, D j 1, D j 2, D j 3, D j 4, D j 5, D j 6, D j 7, D j 8, D j 9, D j 10, D j 11, D j 12, D j 13, D j 14, D j 15, D j 16, D j 17, D j 18, D j 19, D j 20, D j 21]
theorem row22_mem (D : Nat → Nat → Value) (j m : Nat) (hm : m < 22) : D j m ∈ (row22 D j).toList := by
  obtain rfl | rfl | rfl | rfl | rfl | rfl | rfl | rfl | rfl | rfl | rfl | rfl | rfl | rfl | rfl | rfl | rfl | rfl | rfl | rfl | rfl | rfl := (by omega : m = 0 ∨ m = 1 ∨ m = 2 ∨ m = 3 ∨ m = 4 ∨ m = 5 ∨ m = 6 ∨ m = 7 ∨ m = 8 ∨ m = 9 ∨ m = 10 ∨ m = 11 ∨ m = 12 ∨ m = 13 ∨ m = 14 ∨ m = 15 ∨ m = 16 ∨ m = 17 ∨ m = 18 ∨ m = 19 ∨ m = 20 ∨ m = 21)
  all_goals simp
theorem row22_congr {D D' : Nat → Nat → Value} {j j' : Nat} (h : ∀ m, D j m = D' j' m) : row22 D j = row22 D' j' := by
  unfold row22
  simp only [h]
/-- items in a row of the call's own, what they hold below n -/
def OW (n : Nat) (w : World) (v : Value) (l : List It) : Prop := ∃ D : Nat → Nat → Value, w.ownsRow n 52 22 v l.length ((List.range (l.length * 22)).map fun t => D (t / 22) (t % 22)) ∧ ∀ j X, l[j]? = some X → IP (fun k => k < n) w X (.agg (row22 D j))
theorem OW.empty {n : Nat} {w : World} (hn : n ≤ w.heap.size) : OW n (w.alloc (.cells #[] 52)) (.slice (some ⟨w.heap.size, 0, none⟩) 0 0) [] := by
  refine ⟨fun _ _ => undef, ⟨by simp, .inr ⟨w.heap.size, 0, #[], rfl, hn, heap_alloc_new w _, Nat.le_refl _, by unfold maxLen; omega, by simp, by simp⟩⟩, fun j X h => by simp at h⟩
theorem OW.kept {n : Nat} {w w' : World} {v : Value} {l : List It} (h : OW n w v l) (hn : n ≤ w.heap.size) (b : Below w.heap.size w w') : OW n w' v l := by
  obtain ⟨D, h1, h2⟩ := h
  refine ⟨D, ⟨h1.1, ?_⟩, fun j X hX => (h2 j X hX).keptP fun k hk => ⟨hk, b.block k (Nat.lt_of_lt_of_le hk hn)⟩⟩
  rcases h1.2 with h | ⟨g, cap, cur, e1, e2, e3, e4⟩
  · exact .inl h
  · exact .inr ⟨g, cap, cur, e1, e2, (b.block g (Array.getElem?_eq_some_iff.1 e3).1).trans e3, e4⟩
theorem below_grown {n : Nat} {w w' : World} {v : Value} {m : Nat} {xs : List Value} (ho : w.ownsRow n 52 22 v m xs) (hg : w.grownBy w' v.ownBlock) (hn : n ≤ w.heap.size) : Below n w w' := by
  refine ⟨hg.os, hg.tape, hg.output, hg.size, fun k hk => hg.block k (by omega) fun e => ?_⟩
  rcases ho.2 with ⟨rfl, -⟩ | ⟨g, cap, cur, rfl, e2, -⟩
  · cases e
  · have e : k = g := Option.some.inj e
    omega
set_option maxRecDepth 100000 in
theorem app_pay {w : World} {ops : Array Oper} {rest : List Oper} {o : Oper} {a : Act} {Q : Exit → Act → World → Prop} (hgd : o.guard = none) (s x : Operand)
    (ho : o.op = .call { callee := .builtin .append, args := #[s, x], argTypes := #[48, 48] }) {n : Nat} {v : Value} {l B : List It} (hs : a.eval s = v) (h : OW n w v l) {ob : Option Addr} {cb : Nat} (hx : a.eval x = .slice ob B.length cb)
    (hB : PayI B (fun k => k < n) w (.slice ob B.length cb)) (hn : n ≤ w.heap.size) (hlen : l.length + B.length ≤ 100000)
    (K : ∀ v' w', OW n w' v' (l ++ B) → Below n w w' → wpList Tryd.prog ops Q rest (a.put o.dst v') w') : wpList Tryd.prog ops Q (o :: rest) a w := by
  obtain ⟨i, hi, hz, hs1, hb⟩ := info_parts info52
  obtain ⟨D, h1, h2⟩ := h
  obtain ⟨o', cap', d, e, r, hI⟩ := hB
  injection e with e1 e2 e3
  subst e1; subst e3
  have hnone : ob = none → B = [] := fun e => by
    have := r.1
    have := r.2.2.1 e
    exact List.eq_nil_of_length_eq_zero (by omega)
  cases ob with
  | none =>
    have hb0 := hnone rfl
    subst hb0
    have hc := r.2.2.1 rfl
    subst hc
    refine wpList_append_own_none hgd s x 48 ho n 52 i 22 Tryd.underlying48 hi v l.length _ hs h1 hx ?_
    have := K v w ⟨D, by rw [List.append_nil]; exact h1, by rw [List.append_nil]; exact h2⟩ (Below.refl _ _)
    exact this
  | some ad =>
    refine wpList_append_own_at (P := Tryd.prog) (w := w) hgd s x 48 ho n 52 i _ 22 288 Tryd.underlying48 hi hz hs1 hb rfl (by omega) v l.length _ hs h1 ad B.length cb ((List.range (B.length * 22)).map fun t => d (t / 22) (t % 22)) hx (by simp) (fun j u hu => ?_) (fun u hu => ?_) (by unfold maxLen; omega) (by omega) hn (fun v' w' hown hgrow _ _ => ?_)
    · rw [List.getElem?_map] at hu
      have hj : j < B.length * 22 := by
        by_cases hj : j < B.length * 22
        · exact hj
        · rw [List.getElem?_eq_none (by simp; omega)] at hu; cases hu
      rw [List.getElem?_range hj] at hu
      injection hu with hu
      obtain ⟨b, off, eo, hbk, hc⟩ := r.2.2.2 (by omega)
      injection eo with eo
      subst eo
      have := hc (j / 22) (by omega) (j % 22) (by omega)
      rw [show off + j / 22 * 22 + j % 22 = off + j by omega] at this
      have hadd : (⟨b, off, none⟩ : Addr).add j = ⟨b, off + j, none⟩ := by unfold Addr.add; split <;> simp_all
      rw [hadd, this, ← hu]
    · obtain ⟨t, ht, rfl⟩ := List.mem_map.1 hu
      rw [List.mem_range] at ht
      have hx := List.getElem?_eq_getElem (l := B) (i := t / 22) (by omega)
      obtain ⟨c, ec, -, h1⟩ := (hI _ _ hx).size
      injection ec with ec
      exact h1 _ (by rw [← ec]; exact row22_mem d (t / 22) (t % 22) (by omega))
    · have hbel := below_grown h1 hgrow hn
      refine K v' w' ⟨fun j m => if j < l.length then D j m else d (j - l.length) m, ?_, fun j X hX => ?_⟩ hbel
      · rw [List.length_append]
        have : (List.range ((l.length + B.length) * 22)).map (fun t => if t / 22 < l.length then D (t / 22) (t % 22) else d (t / 22 - l.length) (t % 22)) = (List.range (l.length * 22)).map (fun t => D (t / 22) (t % 22)) ++ (List.range (B.length * 22)).map fun t => d (t / 22) (t % 22) := by
          refine List.ext_getElem? fun t => ?_
          rw [List.getElem?_map]
          by_cases h1 : t < l.length * 22
          · rw [List.getElem?_append_left (by simpa using h1), List.getElem?_map, List.getElem?_range (by omega), List.getElem?_range h1]
            simp only [Option.map_some]
            rw [if_pos (by omega)]
          · rw [List.getElem?_append_right (by simpa using h1), List.length_map, List.length_range, List.getElem?_map]
            by_cases h2 : t < (l.length + B.length) * 22
            · rw [List.getElem?_range h2, List.getElem?_range (by omega)]
              simp only [Option.map_some]
              rw [if_neg (by omega), show t / 22 - l.length = (t - l.length * 22) / 22 by omega, show t % 22 = (t - l.length * 22) % 22 by omega]
            · rw [List.getElem?_eq_none (by simp; omega), List.getElem?_eq_none (by simp; omega)]
              rfl
        rw [this]; exact hown
      · rcases Nat.lt_or_ge j l.length with hj | hj
        · rw [List.getElem?_append_left hj] at hX
          rw [row22_congr (D' := D) (j' := j) fun m => if_pos hj]
          exact (h2 j X hX).keptP fun k hk => ⟨hk, hbel.block k hk⟩
        · rw [List.getElem?_append_right hj] at hX
          rw [row22_congr (D' := d) (j' := j - l.length) fun m => if_neg (by omega)]
          exact (hI _ X hX).keptP fun k hk => ⟨hk, hbel.block k hk⟩
theorem ow_pay {n : Nat} {w : World} {v : Value} {l : List It} (h : OW n w v l) (hn : n ≤ w.heap.size) : PayI l (fun k => k < w.heap.size) w v := by
  obtain ⟨D, ⟨h0, h1⟩, h2⟩ := h
  have h3 : ∀ j X, l[j]? = some X → IP (fun k => k < w.heap.size) w X (.agg (row22 D j)) := fun j X hX => (h2 j X hX).mono fun k hk => Nat.lt_of_lt_of_le hk hn
  rcases h1 with ⟨rfl, e⟩ | ⟨g, cap, cur, rfl, hg, hh, hc1, hc2, hc3, hc4⟩
  · have : l = [] := List.eq_nil_of_length_eq_zero e
    subst this
    exact payI_nil _ _
  · refine ⟨some ⟨g, 0, none⟩, cap, D, rfl, ⟨hc1, hc2, fun e => (by cases e), fun hp => ⟨g, 0, rfl, (Array.getElem?_eq_some_iff.1 hh).1, fun j hj m hm => ?_⟩⟩, h3⟩
    have e : (cur.toList.take (l.length * 22))[j * 22 + m]? = some (D j m) := by
      rw [hc4, List.getElem?_map, List.getElem?_range (by omega)]
      simp only [Option.map_some]
      rw [show (j * 22 + m) / 22 = j by omega, show (j * 22 + m) % 22 = m by omega]
    rw [List.getElem?_take_of_lt (by omega)] at e
    rw [cell_of_row w g (0 + j * 22 + m) _ _ _ hh, show 0 + j * 22 + m = j * 22 + m by omega]
    simpa using e
end Go.Proofs.YtncjncacfagldaaDoor
/- ConfJoins: the law's walk. -/
namespace Go.Proofs.YtncjncacfagldaaDoor
open Go.RowKit Go.Lib

theorem wpList_unguard {P : Program} {ops : Array Oper} {Q : Exit → Act → World → Prop} {a : Act} {w : World} {rest : List Oper} {d : Option Nat} {op : Op} {ty : TypeId} {pos : String} {af : Array Edge} {g : Option (Nat × Bool)} (hw : Region.wanted ⟨d, op, ty, pos, af, g⟩ (yielded ops a.tmps) = true)
    (h : wpList P ops Q (⟨d, op, ty, pos, af, none⟩ :: rest) a w) : wpList P ops Q (⟨d, op, ty, pos, af, g⟩ :: rest) a w := by
  unfold wpList at h ⊢
  rw [if_pos hw]
  rw [if_pos (show Region.wanted ⟨d, op, ty, pos, af, none⟩ (yielded ops a.tmps) = true by simp [Region.wanted])] at h
  exact h
theorem lb_join (s t : ByteArray) : lb ((s ++ ⟨#[10]⟩) ++ t) = lb s ++ 10 :: lb t := by
  unfold lb
  simp [ByteArray.data_append]
/-- two items of which both would have an attribute's name -/
def Cl (x y : It) : Prop := x.b = false ∧ y.b = false ∧ x.nm = y.nm
theorem cl_attrs {A B : List It} {x y : It} (hx : x ∈ A) (hy : y ∈ B) (h : Cl x y) : ¬ ∀ s ∈ attrs A, s ∉ attrs B := fun hn => by
  refine hn x.nm ?_ ?_
  · unfold attrs; exact List.mem_map.2 ⟨x, List.mem_filter.2 ⟨hx, by rw [h.1]; rfl⟩, rfl⟩
  · unfold attrs; exact List.mem_map.2 ⟨y, List.mem_filter.2 ⟨hy, by rw [h.2.1]; rfl⟩, h.2.2.symm⟩
theorem no_cl {A B : List It} (h : ∀ x ∈ A, ∀ y ∈ B, ¬ Cl x y) : ∀ s ∈ attrs A, s ∉ attrs B := fun s h1 h2 => by
  unfold attrs at h1 h2
  obtain ⟨x, hx, ex⟩ := List.mem_map.1 h1
  obtain ⟨y, hy, ey⟩ := List.mem_map.1 h2
  obtain ⟨hx1, hx2⟩ := List.mem_filter.1 hx
  obtain ⟨hy1, hy2⟩ := List.mem_filter.1 hy
  exact h x hx1 y hy1 ⟨by simpa using hx2, by simpa using hy2, by rw [ex, ey]⟩
theorem tx_injB {a b : List UInt8} (h : tx a = tx b) : a = b := by
  have := congrArg (fun b => b.data.toList) h
  simpa [tx] using this
theorem conf_len (L : List UInt8) : (confM L).1.length ≤ 128 := by
  by_cases h : (confM L).2.1 = 0
  · obtain ⟨ts, l, q, -, h2, -, e⟩ := conf_good h
    rw [e]; exact (items_inv _ _ _ _ _ _ _ h2 good_nil).1.1
  · cases hl : lexL L with
    | error ep =>
      obtain ⟨e, p⟩ := ep
      have e1 : confM L = ([], e, p.ps) := by unfold confM; rw [hl]
      rw [e1]; simp
    | ok ts =>
      rw [conf_eq hl] at h ⊢
      cases hi : itemsL ⟨ts, ps0, innM⟩ (ts.length + 1) 0 [] [] 0 with
      | error e => obtain ⟨c, q⟩ := e; simp [cfOf]
      | ok y =>
        obtain ⟨l, q⟩ := y
        rw [hi] at h
        unfold cfOf at h ⊢
        simp only [] at h ⊢
        by_cases hd : 8 < idpL l
        · rw [if_pos hd]; simp
        · rw [if_neg hd] at h; exact absurd rfl h
theorem same19_any {A B : List It} {n : Nat} {a b : Value} {w : World} (ha : PayI A (fun k => k < n) w a) (hb : PayI B (fun k => k < n) w b) (hn : n ≤ w.heap.size) (h : bareIL A = bareIL B) : Calls Tryd.prog 19 #[a, b, .bool false] w fun e w' => e = .returned (.bool true) ∧ Below w.heap.size w w' :=
  same19I (.mk true [] [] zeroX A ps0) n B a b w ha hb hn h
set_option maxRecDepth 100000 in
set_option maxHeartbeats 8000000 in
theorem ljoins_any {w : World} (s t : ByteArray) (hT : Tab w) (hV : Lev w) (h2 : 2 ≤ w.heap.size) : Calls Tryd.prog 6 #[.string s, .string t] w fun e w' => e = .returned (.bool true) ∧ Below w.heap.size w w' := by
  have AW : Hid (∀ W, Below w.heap.size w W → Calls Tryd.prog 17 #[] W fun e w' => e = .returned (.bool true) ∧ Below W.heap.size W w') := fun W hW => cawake_any (hT.at (hW.block 0 (by omega))) (hV.at (hW.block 1 (by omega))) (by have := hW.size; omega)
  have PA : Hid (∀ W, Below w.heap.size w W → ∀ s : ByteArray, s.size ≤ 32768 → Calls Tryd.prog 18 #[.string s] W (CfPost W (confM (lb s)))) := fun W hW s hL => conf_any (s := s) (hT.at (hW.block 0 (by omega))) (hV.at (hW.block 1 (by omega))) (by have := hW.size; omega) hL
  clear hT hV h2
  by_cases hs : 1500 < s.size
  · have es : (1500 : Int) < (s.size : Int) := by omega
    go_enter Tryd.func6, Tryd.ntmps6
    go_wp2_with fail
    refine (AW.out w (Below.refl _ _)).mono ?_
    rintro e w1 ⟨rfl, b1⟩
    go_wp2_with fail
    go_ret
    exact ⟨rfl, b1⟩
  have es : ¬ (1500 : Int) < (s.size : Int) := by omega
  by_cases ht : 1500 < t.size
  · have et : (1500 : Int) < (t.size : Int) := by omega
    go_enter Tryd.func6, Tryd.ntmps6
    go_wp2_with fail
    refine (AW.out w (Below.refl _ _)).mono ?_
    rintro e w1 ⟨rfl, b1⟩
    go_wp2_with fail
    go_ret
    exact ⟨rfl, b1⟩
  have et : ¬ (1500 : Int) < (t.size : Int) := by omega
  have hsl : (lb s).length = s.size := tp_L_len s
  have htl : (lb t).length = t.size := tp_L_len t
  have HM := Lib.hid fun (ha : (confM (lb s)).2.1 = 0) (hb : (confM (lb t)).2.1 = 0) => conf_join (s := lb s) (t := lb t) (by omega) ha hb
  have P1 := Lib.hid (fun W hW => PA.out W hW s (by omega))
  have P2 := Lib.hid (fun W hW => PA.out W hW t (by omega))
  have hU : ((s ++ ⟨#[10]⟩) ++ t : ByteArray).size ≤ 32768 := by
    have := tp_L_len ((s ++ ⟨#[10]⟩) ++ t)
    have h2 := congrArg List.length (lb_join s t)
    rw [List.length_append, List.length_cons] at h2
    have h3 : (lb ((s ++ ⟨#[10]⟩) ++ t)).length = ((s ++ ⟨#[10]⟩) ++ t).size := this
    omega
  have P3 := Lib.hid (fun W hW => PA.out W hW ((s ++ ⟨#[10]⟩) ++ t) hU)
  rw [lb_join] at P3
  have HSZ := Lib.hid (And.intro hs ht)
  have f1 : ¬ 9223372036854775807 < s.size + 1 := by omega
  have f2 : ¬ 9223372036854775807 < s.size + 1 + t.size := by omega
  have f3 : ¬ (9223372036854775807 : Int) < (s.size : Int) + 1 := by omega
  have f4 : ¬ (9223372036854775807 : Int) < (s.size : Int) + 1 + (t.size : Int) := by omega
  have HLN : Hid ((confM (lb s)).1.length ≤ 128 ∧ (confM (lb t)).1.length ≤ 128) := ⟨conf_len _, conf_len _⟩
  clear hs ht hsl htl hU PA
  generalize confM (lb s) = MA at *
  generalize confM (lb t) = MB at *
  generalize confM (lb s ++ 10 :: lb t) = MU at *
  go_enter Tryd.func6, Tryd.ntmps6
  go_wp2_with fail
  refine (P1.out w (Below.refl _ _)).mono ?_
  rintro e u0 ⟨v, rfl, hp, hb⟩
  obtain ⟨oA, cA, rfl⟩ : ∃ o cap, v = .slice o MA.1.length cap := by obtain ⟨o, cap, -, h, -⟩ := hp; exact ⟨o, cap, h⟩
  have G0 := Lib.hid (CBx.mk' (w0 := w) (M := MA) (Below.refl _ _) hp hb)
  go_upto_region 4 with fail
  clear hp hb P1
  generalize u0.alloc (Obj.cells #[Value.int IntKind.i64 MA.2.1, Value.int IntKind.i64 MA.2.2.a, Value.int IntKind.i64 MA.2.2.l, Value.int IntKind.i64 MA.2.2.c, Value.string ⟨#[]⟩] 36) = v0 at *
  generalize u0.heap.size = b0 at *
  go_wp2_with fail
  refine (P2.out _ G0.out.b).mono ?_
  rintro e u1 ⟨v, rfl, hp, hb⟩
  obtain ⟨oB, cB, rfl⟩ : ∃ o cap, v = .slice o MB.1.length cap := by obtain ⟨o, cap, -, h, -⟩ := hp; exact ⟨o, cap, h⟩
  have G1 := Lib.hid (CBx.mk' (w0 := w) (M := MB) G0.out.b hp hb)
  have K0 := Lib.hid (G0.out.kept (hb.trans (((Below.refl u1.heap.size u1).alloc (Nat.le_refl _) (.cells #[.int .i64 MB.2.1, .int .i64 MB.2.2.a, .int .i64 MB.2.2.l, .int .i64 MB.2.2.c, .string ⟨#[]⟩] 36)).mono hb.size)))
  go_upto_region 5 with fail
  clear hp hb P2 G0
  generalize u1.alloc (Obj.cells #[Value.int IntKind.i64 MB.2.1, Value.int IntKind.i64 MB.2.2.a, Value.int IntKind.i64 MB.2.2.l, Value.int IntKind.i64 MB.2.2.c, Value.string ⟨#[]⟩] 36) = v1 at *
  generalize u1.heap.size = b1 at *
  obtain ⟨-, ⟨qa, da⟩, -, -⟩ := K0.out
  obtain ⟨-, ⟨qb, db⟩, -, hbw⟩ := G1.out
  have HBW := Lib.hid hbw
  obtain ⟨⟨s0, s1, s2, s3, s4⟩, -, hda⟩ := rc5 da
  obtain ⟨⟨t0, t1, t2, t3, t4⟩, -, hdb⟩ := rc5 db
  clear s1 s2 s3 s4 t1 t2 t3 t4 da db hbw
  by_cases ha : MA.2.1 = 0
  case neg =>
    have en : ((MA.2.1 : Int) != 0) = true := by rw [bne_iff_ne]; omega
    clear ha
    go_wp2_with fail
    refine (AW.out _ HBW.out).mono ?_
    rintro e v3 ⟨rfl, k3⟩
    have HB3 := Lib.hid (HBW.out.trans (k3.mono HBW.out.size))
    clear k3
    go_wp2_with fail
    go_ret
    exact ⟨rfl, HB3.out⟩
  have HA0 := Lib.hid ha
  rw [ha] at s0
  clear ha
  by_cases hb : MB.2.1 = 0
  case neg =>
    have en : ((MB.2.1 : Int) != 0) = true := by rw [bne_iff_ne]; omega
    clear hb
    go_wp2_with fail
    refine (AW.out _ HBW.out).mono ?_
    rintro e v3 ⟨rfl, k3⟩
    have HB3 := Lib.hid (HBW.out.trans (k3.mono HBW.out.size))
    clear k3
    go_wp2_with fail
    go_ret
    exact ⟨rfl, HB3.out⟩
  have HB0 := Lib.hid hb
  rw [hb] at t0
  clear hb
  replace HM := Lib.hid (HM.out HA0.out HB0.out)
  go_wp2_with fail
  refine (P3.out _ HBW.out).mono ?_
  rintro e u2 ⟨v, rfl, hp, hb⟩
  obtain ⟨oU, cU, rfl⟩ : ∃ o cap, v = .slice o MU.1.length cap := by obtain ⟨o, cap, -, h, -⟩ := hp; exact ⟨o, cap, h⟩
  have G2 := Lib.hid (CBx.mk' (w0 := w) (M := MU) HBW.out hp hb)
  have BU := Lib.hid (hb.trans (((Below.refl u2.heap.size u2).alloc (Nat.le_refl _) (.cells #[.int .i64 MU.2.1, .int .i64 MU.2.2.a, .int .i64 MU.2.2.l, .int .i64 MU.2.2.c, .string ⟨#[]⟩] 36)).mono hb.size))
  have L0 := Lib.hid (K0.out.kept BU.out)
  have L1 := Lib.hid (G1.out.kept BU.out)
  go_upto_region 8 with fail
  clear hp hb P3 K0 G1 BU s0 t0 hda hdb HBW f1 f2 f3 f4
  generalize u2.alloc (Obj.cells #[Value.int IntKind.i64 MU.2.1, Value.int IntKind.i64 MU.2.2.a, Value.int IntKind.i64 MU.2.2.l, Value.int IntKind.i64 MU.2.2.c, Value.string ⟨#[]⟩] 36) = v2 at *
  generalize u2.heap.size = b2 at *
  obtain ⟨pA, -, nA, -⟩ := L0.out
  obtain ⟨pB, -, nB, -⟩ := L1.out
  obtain ⟨pU, ⟨qu, du⟩, nU, hbw⟩ := G2.out
  have HBW := Lib.hid hbw
  obtain ⟨⟨s0, s1, s2, s3, s4⟩, -, hdu⟩ := rc5 du
  have HPA : Hid (PayI MA.1 (fun k => k < v2.heap.size) v2 (.slice oA MA.1.length cA)) := pA.keptP fun k hk => ⟨Nat.lt_of_lt_of_le hk nA, rfl⟩
  have HPB : Hid (PayI MB.1 (fun k => k < v2.heap.size) v2 (.slice oB MB.1.length cB)) := pB.keptP fun k hk => ⟨Nat.lt_of_lt_of_le hk nB, rfl⟩
  have HPU : Hid (PayI MU.1 (fun k => k < v2.heap.size) v2 (.slice oU MU.1.length cU)) := pU.keptP fun k hk => ⟨Nat.lt_of_lt_of_le hk nU, rfl⟩
  clear pA pB pU nA nB nU hbw du s1 s2 s3 s4 L0 L1 G2
  obtain ⟨lA, mA, atA⟩ := pay_at HPA.out
  obtain ⟨lB, mB, atB⟩ := pay_at HPB.out
  have CA := Lib.hid atA
  have CB := Lib.hid atB
  unfold maxLen at mA mB
  clear atA atB
  go_wp2_with fail
  go_loopw [11] (fun v11 wq => ∃ i : Nat, i ≤ MA.1.length ∧ v11 = .int .i64 (i : Int) ∧ Hid (Below v2.heap.size v2 wq) ∧ Hid (∀ (i' : Nat) (x : It), i' < i → MA.1[i']? = some x → ∀ y ∈ MB.1, ¬ Cl x y)) (fun v _ => MA.1.length - (RowKit.intOf v).toNat)
  case atStart => exact ⟨0, Nat.zero_le _, rfl, Below.refl _ _, fun i' x h => absurd h (Nat.not_lt_zero _)⟩
  case round =>
    obtain ⟨i, hi, rfl, HV, HNI⟩ := hrel
    by_cases hil : i < MA.1.length
    · have i1 : (i : Int) < (MA.1.length : Int) := by omega
      have i0 : ¬ (i : Int) < 0 := by omega
      have i2 : IntKind.i64.wrap ((i : Int) + 1) = ((i + 1 : Nat) : Int) := by rw [IntWalk.i64_in _ (by have := HLN.out.1; omega)]; rfl
      have hx := List.getElem?_eq_getElem hil
      generalize MA.1[i] = x at hx
      have HX := Lib.hid hx
      have HXM := Lib.hid (List.mem_of_getElem? hx)
      clear hx
      go_upto_region 12 with fail
      go_loopw [12] (fun v12 wq => ∃ k : Nat, k ≤ MB.1.length ∧ v12 = .int .i64 (k : Int) ∧ Hid (Below v2.heap.size v2 wq) ∧ Hid (∀ (k' : Nat) (y : It), k' < k → MB.1[k']? = some y → ¬ Cl x y)) (fun v _ => MB.1.length - (RowKit.intOf v).toNat)
      case atStart => exact ⟨0, Nat.zero_le _, rfl, HV.out, fun k' y h => absurd h (Nat.not_lt_zero _)⟩
      case round =>
        obtain ⟨k, hk, rfl, HQ, HK⟩ := hrel
        clear HV
        by_cases hkl : k < MB.1.length
        · have k1 : (k : Int) < (MB.1.length : Int) := by omega
          have k0 : ¬ (k : Int) < 0 := by omega
          have k2 : IntKind.i64.wrap ((k : Int) + 1) = ((k + 1 : Nat) : Int) := by rw [IntWalk.i64_in _ (by have := HLN.out.2; omega)]; rfl
          have hy := List.getElem?_eq_getElem hkl
          generalize MB.1[k] = y at hy
          have HYM := Lib.hid (List.mem_of_getElem? hy)
          have HNK : Hid (¬ Cl x y → ∀ (k' : Nat) (y' : It), k' < k + 1 → MB.1[k']? = some y' → ¬ Cl x y') := fun hn k' y' h1 h2 => by
            by_cases e : k' = k
            · subst e; rw [hy] at h2; injection h2 with h2; rw [← h2]; exact hn
            · exact HK.out k' y' (by omega) h2
          obtain ⟨bx, fx, oLx, cLx, oIx, cIx, rfl, hbx, X0, X1, -, -, -, -⟩ := CA.out i x HX.out
          obtain ⟨bY, fy, oLy, cLy, oIy, cIy, rfl, hbY, Y0, Y1, -, -, -, -⟩ := CB.out k y hy
          replace X0 := (World.cell?_of_block (a := ⟨bx, fx + i * 22, none⟩) (HQ.out.block bx hbx)).trans X0
          replace X1 := (World.cell?_of_block (a := ⟨bx, fx + i * 22 + 1, none⟩) (HQ.out.block bx hbx)).trans X1
          replace Y0 := (World.cell?_of_block (a := ⟨bY, fy + k * 22, none⟩) (HQ.out.block bY hbY)).trans Y0
          replace Y1 := (World.cell?_of_block (a := ⟨bY, fy + k * 22 + 1, none⟩) (HQ.out.block bY hbY)).trans Y1
          have lx : bx < wr.heap.size := Nat.lt_of_lt_of_le hbx HQ.out.size
          have ly : bY < wr.heap.size := Nat.lt_of_lt_of_le hbY HQ.out.size
          have HQD : Hid (Below v2.heap.size v2 wr.drew) := HQ.out.drew
          have HCX := Lib.hid (fun h => cl_attrs (x := x) (y := y) HXM.out HYM.out h)
          clear hy hbx hbY HK HX HXM HYM HNI
          obtain ⟨xb, hxb⟩ : ∃ q, x.b = q := ⟨_, rfl⟩
          obtain ⟨yb, hyb⟩ : ∃ q, y.b = q := ⟨_, rfl⟩
          rw [hxb] at X0
          rw [hyb] at Y0
          cases xb with
          | true =>
            replace HNK := Lib.hid (HNK.out (fun h => by rw [h.1] at hxb; cases hxb))
            clear hxb hyb HCX
            go_wp2_with fail
            go_region
            go_wp2_with fail
            refine ⟨⟨k + 1, hkl, rfl, HQD.out, HNK.out⟩, ?_⟩
            simp only [RowKit.intOf]; omega
          | false =>
            cases yb with
            | true =>
              replace HNK := Lib.hid (HNK.out (fun h => by rw [h.2.1] at hyb; cases hyb))
              clear hxb hyb HCX
              go_wp2_with fail
              go_region
              go_wp2_with fail
              refine ⟨⟨k + 1, hkl, rfl, HQD.out, HNK.out⟩, ?_⟩
              simp only [RowKit.intOf]; omega
            | false =>
              by_cases hnm : tx x.nm = tx y.nm
              · have HBAD := Lib.hid (HM.out.2 fun hg => HCX.out ⟨hxb, hyb, tx_injB hnm⟩ hg.2)
                obtain ⟨g1, g2⟩ := str_eq hnm
                clear hnm hxb hyb HNK HCX
                have en : ((MU.2.1 : Int) != 0) = true := by rw [bne_iff_ne]; have := HBAD.out; omega
                have s0' := (World.cell?_of_block (a := ⟨b2, 0, none⟩) (HQD.out.block b2 hdu)).trans s0
                have hdu' : b2 < wr.drew.heap.size := Nat.lt_of_lt_of_le hdu HQD.out.size
                have HBD := Lib.hid (HBW.out.trans (HQD.out.mono HBW.out.size))
                clear s0 hdu HQD HQ
                go_wp2_with fail
                go_region
                go_wp2_with fail
                refine (AW.out _ HBD.out).mono ?_
                rintro e v3 ⟨rfl, k3⟩
                have HB3 := Lib.hid (HBD.out.trans (k3.mono HBD.out.size))
                clear k3
                go_wp2_with fail
                go_ret
                exact ⟨rfl, HB3.out⟩
              · replace HNK := Lib.hid (HNK.out (fun h => hnm (by rw [h.2.2])))
                obtain ⟨g1, g2⟩ := str_ne hnm
                clear hnm hxb hyb HCX
                go_wp2_with fail
                go_region
                go_wp2_with fail
                refine ⟨⟨k + 1, hkl, rfl, HQD.out, HNK.out⟩, ?_⟩
                simp only [RowKit.intOf]; omega
        · obtain rfl : k = MB.1.length := by omega
          have k1 : ¬ (MB.1.length : Int) < (MB.1.length : Int) := by omega
          have HNI2 : Hid (∀ (i' : Nat) (x : It), i' < i + 1 → MA.1[i']? = some x → ∀ y ∈ MB.1, ¬ Cl x y) := fun i' x' h1 h2 y hy => by
            by_cases e : i' = i
            · subst e
              rw [HX.out] at h2; injection h2 with h2
              obtain ⟨k', hk'⟩ := List.mem_iff_getElem?.1 hy
              rw [← h2]
              exact HK.out k' y (List.getElem?_eq_some_iff.1 hk').1 hk'
            · exact HNI.out i' x' (by omega) h2 y hy
          go_wp2_with fail
          refine ⟨⟨i + 1, hil, rfl, HQ.out, HNI2.out⟩, ?_⟩
          simp only [RowKit.intOf]; omega
    · obtain rfl : i = MA.1.length := by omega
      have i1 : ¬ (MA.1.length : Int) < (MA.1.length : Int) := by omega
      have HNC := Lib.hid (no_cl (A := MA.1) (B := MB.1) fun x hx y hy => by
        obtain ⟨i', hi'⟩ := List.mem_iff_getElem?.1 hx
        exact HNI.out i' x (List.getElem?_eq_some_iff.1 hi').1 hi' y hy)
      replace s0 := (World.cell?_of_block (a := ⟨b2, 0, none⟩) (HV.out.block b2 hdu)).trans s0
      have hdv : b2 < wr.heap.size := Nat.lt_of_lt_of_le hdu HV.out.size
      have HBD := Lib.hid (HBW.out.trans (HV.out.mono HBW.out.size))
      have QA : Hid (PayI MA.1 (fun k => k < v2.heap.size) wr (.slice oA MA.1.length cA)) := HPA.out.keptP fun k hk => ⟨hk, HV.out.block k hk⟩
      have QB : Hid (PayI MB.1 (fun k => k < v2.heap.size) wr (.slice oB MB.1.length cB)) := HPB.out.keptP fun k hk => ⟨hk, HV.out.block k hk⟩
      have QU : Hid (PayI MU.1 (fun k => k < v2.heap.size) wr (.slice oU MU.1.length cU)) := HPU.out.keptP fun k hk => ⟨hk, HV.out.block k hk⟩
      have HVS : Hid (v2.heap.size ≤ wr.heap.size) := HV.out.size
      have i3 : IntKind.i64.wrap ((MA.1.length : Int) + (MB.1.length : Int)) = ((MA.1.length + MB.1.length : Nat) : Int) := by rw [IntWalk.i64_in _ (by have := HLN.out; omega)]; rfl
      have HWV : Hid (w.heap.size ≤ v2.heap.size) := HBW.out.size
      clear hdu HPA HPB HPU HBW HNI HV CA CB lA lB mA mB
      by_cases hbig : 128 < MA.1.length + MB.1.length
      · have HBAD := Lib.hid (HM.out.2 fun hg => by omega)
        have en : ((MU.2.1 : Int) != 0) = true := by rw [bne_iff_ne]; have := HBAD.out; omega
        have e8 : (128 : Int) < ((MA.1.length + MB.1.length : Nat) : Int) := by omega
        clear hbig
        go_wp2_with fail
        refine (AW.out _ HBD.out).mono ?_
        rintro e v3 ⟨rfl, k3⟩
        have HB3 := Lib.hid (HBD.out.trans (k3.mono HBD.out.size))
        clear k3
        go_wp2_with fail
        go_ret
        exact ⟨rfl, HB3.out⟩
      · have e8 : ¬ (128 : Int) < ((MA.1.length + MB.1.length : Nat) : Int) := by omega
        obtain ⟨u0, hu⟩ := HM.out.1 ⟨by omega, HNC.out⟩
        have HUB := Lib.hid hu
        rw [u0] at s0
        have HL2 : Hid (MA.1.length + MB.1.length ≤ 128) := by unfold Hid; omega
        clear hbig hu u0
        go_upto_region 18 with fail
        have HNV : Hid (v2.heap.size ≤ (wr.alloc (.cells #[] 52)).heap.size) := by unfold Hid; have := HVS.out; simp; omega
        have HBE : Hid (Below wr.heap.size wr (wr.alloc (.cells #[] 52))) := (Below.refl _ _).alloc (Nat.le_refl _) _
        have HVW : Hid (w.heap.size ≤ v2.heap.size) := HWV.out
        have OE := Lib.hid (OW.empty (n := v2.heap.size) (w := wr) HVS.out)
        go_wp2_with (first
          | (at_builtin; refine wpList_unguard (by rfl) ?_; refine app_pay rfl (.tmp 111) (.tmp 112) rfl rfl OE.out rfl (QA.out.keptP fun k hk => ⟨hk, HBE.out.block k (Nat.lt_of_lt_of_le hk HVS.out)⟩) HNV.out (by have := HL2.out; simp; omega) (fun vS w5 ow5 b5 => ?_)
             have QB5 := Lib.hid (QB.out.keptP (P' := fun k => k < v2.heap.size) fun k hk => ⟨hk, (b5.block k hk).trans (HBE.out.block k (Nat.lt_of_lt_of_le hk HVS.out))⟩)
             have QU5 := Lib.hid (QU.out.keptP (P' := fun k => k < v2.heap.size) fun k hk => ⟨hk, (b5.block k hk).trans (HBE.out.block k (Nat.lt_of_lt_of_le hk HVS.out))⟩)
             have HB5 := Lib.hid ((HBD.out.trans (HBE.out.mono HBD.out.size)).trans (b5.mono HVW.out))
             have HN5 : Hid (v2.heap.size ≤ w5.heap.size) := Nat.le_trans HNV.out b5.size
             have OW5 := Lib.hid ow5
             clear ow5 b5)
          | (at_builtin; go_must (refine wpList_unguard (by rfl) ?_; refine app_pay rfl (.tmp 113) (.tmp 114) rfl rfl OW5.out rfl QB5.out HN5.out (by have := HL2.out; simp; omega) (fun vT w6 ow6 b6 => ?_))
             have QU6 := Lib.hid (QU5.out.keptP (P' := fun k => k < w6.heap.size) fun k hk => ⟨Nat.lt_of_lt_of_le (Nat.lt_of_lt_of_le hk HN5.out) b6.size, b6.block k hk⟩)
             have HB6 := Lib.hid (HB5.out.trans (b6.mono HVW.out))
             have QT := Lib.hid (ow_pay ow6 (Nat.le_trans HN5.out b6.size))
             clear ow6 b6))
        rw [List.nil_append] at QT
        refine (same19_any QU6.out QT.out (Nat.le_refl _) HUB.out).mono ?_
        rintro e w7 ⟨rfl, b7⟩
        have HB7 := Lib.hid (HB6.out.trans (b7.mono HB6.out.size))
        clear b7 QU6 QT QU5 QB5
        go_wp2_with fail
        refine (AW.out _ HB7.out).mono ?_
        rintro e v3 ⟨rfl, k3⟩
        have HB3 := Lib.hid (HB7.out.trans (k3.mono HB7.out.size))
        clear k3
        go_wp2_with fail
        go_ret
        exact ⟨rfl, HB3.out⟩
end Go.Proofs.YtncjncacfagldaaDoor
/-
  A text whose items are those of two others, one behind the other with a line feed between them, has the items of both, places aside; where both have an attribute's name in common, or have more than 128 items together, something is wrong (of 1500 bytes each; beyond that, and where one of the two is wrong itself, the document's example alone is claimed). Conditions: the tables of classes and of levels (surety/lex.classes, surety/expr.levels) read as the program's text lays them; the card ties them.
-/
namespace Go.Proofs.YtncjncacfagldaaDoor.confJoins
open Go.ChangeShapes Go.WideShapes Go.ChangeAt Go.RowKit

/-- The door's own heap meets the condition: closed facts. -/
theorem door_met (os : Os) (args : Array Value) : laidMetH Tryd.prog Rows.confJoinsRow.laid ((World.doorLaid Tryd.prog 130 os).forCall (fun _ _ => 0) ⟨#[], args, []⟩).memory :=
  laidMetH_of_parts3 (fuel := 8) (laidMet_of_run' 8 (by kernel_rfl) (by kernel_rfl)) (by kernel_rfl) (by kernel_rfl)
theorem tab_of {W : World} (h : laidMetH Tryd.prog Rows.confJoinsRow.laid W) : Tab W ∧ Lev W ∧ 2 ≤ W.heap.size := by
  rw [MakeChecks.laidMetH_plain _ _ _ (by kernel_rfl)] at h
  exact of_laid rfl h
set_option maxRecDepth 100000 in
theorem lifted (os : Os) (started : os.Started) (H : Type) (enc : TypeId × Value → H) :
    ReturnsInHanded {} Tryd.checked os 6 .any (fun w args => (Rows.confJoinsSpec.pre enc Tryd.prog Tryd.f6 [] false w args ∧ laidMetH Tryd.prog Rows.confJoinsRow.laid w) ∧ sizedMet enc Tryd.prog Tryd.f6 (OpenSpec.ofChange Rows.confJoinsSpec) false w args)
      (Rows.confJoinsSpec.post enc Tryd.prog Tryd.f6 false true false false) := by
  refine returnsInHanded_of_change_and (C := Tryd.checked) (X := fun w _ => laidMetH Tryd.prog Rows.confJoinsRow.laid w) (fun _ _ _ hh h => h.of_heap hh) own started (by kernel_rfl) Tryd.func6
    (ChangeSpec.witness_shaped (enc := enc) (C := Tryd.checked) (os := os) (X := fun w _ => laidMetH Tryd.prog Rows.confJoinsRow.laid w) false (World.doorLaid Tryd.prog 130 os) #[.string ⟨#[]⟩, .string ⟨#[]⟩] 8 rfl (World.shaped_of_RefB (by kernel_rfl) (by kernel_rfl)) (by kernel_rfl) (by kernel_rfl) (by kernel_rfl) (door_met os _)) ?_
  intro W base args ds gs before hval0 hW _ _ hL _
  have hval : ∀ (j : Nat) t v, Tryd.f6.params[j]? = some t → args[j]? = some v → Value.okWide Tryd.prog W .any base t v := hval0
  have hW' := hW
  obtain ⟨p, q, hA0, hV, rfl, hfz, hnd⟩ := hW
  have hA : DataW.TrodAll enc Tryd.prog W 0 (fun _ => true) true Tryd.f6.params.toList args.toList ds p := hA0
  rw [Tryd.params6] at hA hval
  obtain ⟨v0, vs0, d0, ds0, p0, q0, hargs, rfl, rfl, h0, r0⟩ := trodAll_cons hA
  obtain ⟨v1, vs1, d1, ds1, p1, q1, rfl, rfl, rfl, h1, r1⟩ := trodAll_cons r0
  obtain ⟨rfl, rfl, rfl⟩ := trodAll_nil r1
  obtain rfl : args = #[v0, v1] := by cases args; simp_all
  obtain ⟨rfl, rfl⟩ := trodVars_none hV
  obtain ⟨x0, rfl, ok0⟩ := open_str (hval 0 9 v0 rfl rfl) h0
  obtain ⟨x1, rfl, ok1⟩ := open_str (hval 1 9 v1 rfl rfl) h1
  have tab := tab_of hL
  clear hA0 hval0
  simp only [List.append_nil] at hW'
  have hlt : ∀ x ∈ p0 ++ p1, x.block < W.heap.size := fun x hx => hW'.lt x (by simpa using hx)
  refine (ljoins_any x0 x1 tab.1 tab.2.1 tab.2.2).mono fun e W' ⟨he, bel⟩ => ?_
  subst he
  exact ⟨_, rfl, _, _, _, [], p0 ++ p1, [], hW', trodAll_mk1 (shut_bool Tryd.underlying4 _), by
    have := (trodAll_cons_mk (Below.trod laidOut (by kernel_rfl) (of_decide_eq_true (by kernel_rfl)) h0 bel (fun x hx => hlt x (by simp [hx]))) (trodAll_cons_mk (Below.trod laidOut (by kernel_rfl) (of_decide_eq_true (by kernel_rfl)) h1 bel (fun x hx => hlt x (by simp [hx]))) trodAll_mk0))
    simp only [List.append_nil] at this
    exact this, rfl, bel.frame _, fun h => by cases h⟩
theorem holds : Rows.ConfJoinsSaid :=
  OpenClaim.holds_of_wide 6 Tryd.f6 rfl rfl rfl rfl rfl rfl rfl ⟨rfl, rfl, rfl, rfl, rfl⟩ rfl rfl rfl rfl rfl (by kernel_rfl) Tryd.func6 (by kernel_rfl)
    (of_decide_eq_true (by kernel_rfl)) (by unfold Func.isWrapper; first | (rw [if_pos (by decide +kernel)]; kernel_rfl) | (rw [if_neg (by decide +kernel)]; exact ⟨rfl, rfl⟩))
    (fun os started H enc _ => lifted os started H enc)
end Go.Proofs.YtncjncacfagldaaDoor.confJoins

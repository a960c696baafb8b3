/- The contract of the parser's functions, by fuel; whole. -/
import Derived.Test.YtncjncacfagldaaDoorWW
import Derived.Lib.AppendStr
namespace Go.Proofs.YtncjncacfagldaaDoor
open Go.RowKit
attribute [local go_sem] field66_0 field66_1 field66_2 field66_3 field66_4

/-- what the model of fuel n answers, the three functions answer -/
structure Gd (R : Nat) (Z : Cz) (inn : List UInt8 → Ps → Ex × Nat × Ps) (n : Nat) : Prop where
  ex : ∀ (W : World) (s : St), Rd W R Z s → 3 * (Z.acc.length - s.p) + 2 < n → Calls Tryd.prog 35 #[.pointer (some ⟨R, 0, none⟩)] W (EP W R Z s.p ((fs (Z.cx inn) n).ex s))
  jo : ∀ (W : World) (s : St) (lo : Nat), Rd W R Z s → 3 * (Z.acc.length - s.p) + 1 < n → 1 ≤ lo → lo ≤ 6 → Calls Tryd.prog 53 #[.pointer (some ⟨R, 0, none⟩), .int .i64 lo] W (EP W R Z s.p ((fs (Z.cx inn) n).jo lo s))
  un : ∀ (W : World) (s : St), Rd W R Z s → 3 * (Z.acc.length - s.p) < n → Calls Tryd.prog 76 #[.pointer (some ⟨R, 0, none⟩)] W (EP W R Z s.p ((fs (Z.cx inn) n).un s))
theorem all_gd {R : Nat} {Z : Cz} {inn : List UInt8 → Ps → Ex × Nat × Ps} (ht : TextOk R Z inn) : ∀ n, Gd R Z inn n
  | 0 => ⟨fun W s _ h => by omega, fun W s lo _ h => by omega, fun W s _ h => by omega⟩
  | n + 1 => by
    have ih := all_gd ht n
    refine ⟨fun W s hr hn => ?_, fun W s lo hr hn h1 h6 => ?_, fun W s hr hn => ?_⟩
    · exact expr_any hr (fun W' t lo hr' ht' h1 h6 => ih.jo W' t lo hr' (by omega) h1 h6) (fun W' t hr' ht' => ih.ex W' t hr' (by have := hr'.le; omega))
    · exact joined_any hr h1 h6 (fun W' t hr' ht' => ih.un W' t hr' (by omega)) (fun W' t lo hr' ht' h1 h6 => ih.jo W' t lo hr' (by have := hr'.le; omega) h1 h6)
    · exact unary_any hr (fun W' t hr' ht' => ih.un W' t hr' (by have := hr'.le; omega)) (fun W' hr' => post_any hr' ht (fun W2 t hr2 ht2 => ih.ex W2 t hr2 (by have := hr2.le; omega)))
theorem whole_eq (Z : Cz) (inn : List UInt8 → Ps → Ex × Nat × Ps) : wholeM (Z.cx inn) = (((fs (Z.cx inn) (3 * Z.acc.length + 3)).ex ⟨0, 0, ps0⟩).1, if (Z.tz ((fs (Z.cx inn) (3 * Z.acc.length + 3)).ex ⟨0, 0, ps0⟩).2.p).1.k = 0 then ((fs (Z.cx inn) (3 * Z.acc.length + 3)).ex ⟨0, 0, ps0⟩).2 else Z.stray ((fs (Z.cx inn) (3 * Z.acc.length + 3)).ex ⟨0, 0, ps0⟩).2) := by
  unfold wholeM
  simp only [Cz.len_eq, Cz.tk_eq, stray_eq]
set_option maxRecDepth 100000 in
set_option maxHeartbeats 2000000 in
theorem whole_any {w : World} {R : Nat} {Z : Cz} {inn : List UInt8 → Ps → Ex × Nat × Ps} (h : Rd w R Z ⟨0, 0, ps0⟩) (ht : TextOk R Z inn) : Calls Tryd.prog 22 #[.pointer (some ⟨R, 0, none⟩)] w (EP w R Z 0 (wholeM (Z.cx inn))) := by
  have HI := Lib.hid (whole_eq Z inn)
  have HE := Lib.hid ((all_gd ht (3 * Z.acc.length + 3)).ex w ⟨0, 0, ps0⟩ h (by show 3 * (Z.acc.length - 0) + 2 < _; omega))
  have HZ := Lib.hid h.sz
  generalize (fs (Z.cx inn) (3 * Z.acc.length + 3)).ex ⟨0, 0, ps0⟩ = E at *
  generalize wholeM (Z.cx inn) = M at *
  clear h ht
  go_enter Tryd.func22, Tryd.ntmps22
  go_wp2_with fail
  refine HE.out.mono ?_
  rintro e w1 ⟨b, rfl, hx, hr, hf, hp⟩
  have H1 := Lib.hid (And.intro hx (And.intro hr hf))
  clear hx hf hp HE
  have HT := Lib.hid (tok_any hr E.2.p (by have := hr.le; have := HZ.out.n; omega))
  obtain ⟨⟨r0, r1, r2, r3, r4, r5, r6, r7, r8, r9, r10⟩, -, hR⟩ := rc11 hr.blk
  clear r0 r2 r3 r4 r5 r6 r7 r8 r9 r10 hr
  generalize Z.tz E.2.p = X at *
  go_wp2_with fail
  refine HT.out.mono ?_
  rintro e w2 ⟨rfl, c2⟩
  have H2 := Lib.hid (And.intro (H1.out.1.fr (Fm.of c2)) (And.intro (H1.out.2.1.below c2) (H1.out.2.2.tr (Fm.of c2))))
  clear c2 HT H1
  by_cases h0 : X.1.k = 0
  · have e0 : ((X.1.k : Int) != 0) = false := by simp [h0]
    have HM : Hid (M = (E.1, E.2)) := by unfold Hid; rw [HI.out, if_pos h0]
    clear h0 HI
    go_wp2_with fail
    go_ret
    rw [HM.out]
    exact ⟨b, rfl, H2.out.1, H2.out.2.1, H2.out.2.2, Nat.zero_le _⟩
  · have e0 : ((X.1.k : Int) != 0) = true := by rw [bne_iff_ne]; omega
    have HM : Hid (M = (E.1, Z.stray E.2)) := by unfold Hid; rw [HI.out, if_neg h0]
    clear h0 HI
    go_wp2_with fail
    refine (stray_any H2.out.2.1).mono ?_
    rintro e w3 ⟨rfl, h3, f3⟩
    have H3 := Lib.hid (And.intro (H2.out.1.fr f3) (And.intro h3 (H2.out.2.2.tr f3)))
    clear h3 f3
    go_wp2_with fail
    go_ret
    rw [HM.out]
    exact ⟨b, rfl, H3.out.1, H3.out.2.1, H3.out.2.2, Nat.zero_le _⟩
end Go.Proofs.YtncjncacfagldaaDoor
/- Contracts: what stands in parts: the first expression, their bytes. -/
namespace Go.Proofs.YtncjncacfagldaaDoor
open Go.RowKit Go.Lib

abbrev pav (x : Prt) : Value := .agg #[.bool x.ex, .string (tx x.s), .int .i64 x.p.a, .int .i64 x.p.l, .int .i64 x.p.c]
set_option maxRecDepth 100000 in
theorem isExpr_any (x : Prt) (w : World) : Calls Tryd.prog 104 #[pav x] w fun e w' => e = .returned (.bool x.ex) ∧ Below w.heap.size w w' := by
  go_enter Tryd.func104, Tryd.ntmps104
  go_wp2
  go_ret
  exact ⟨rfl, (Below.refl _ _).alloc (Nat.le_refl _) _⟩
/-- parts in memory -/
def Pts (P : Nat → Prop) (w : World) (o : Option Addr) (cap : Nat) (l : List Prt) : Prop := RowP P w o cap l.length 5 (fun j m => pc5 ((l[j]?).getD prt0) m)
theorem Pts.at {P : Nat → Prop} {w : World} {o : Option Addr} {cap : Nat} {l : List Prt} (h : Pts P w o cap l) {i : Nat} {x : Prt} (hx : l[i]? = some x) : ∃ b off, o = some ⟨b, off, none⟩ ∧ P b ∧ (w.cell? ⟨b, off + i * 5, none⟩ = some (.bool x.ex) ∧ w.cell? ⟨b, off + i * 5 + 1, none⟩ = some (.string (tx x.s)) ∧ w.cell? ⟨b, off + i * 5 + 2, none⟩ = some (.int .i64 x.p.a) ∧ w.cell? ⟨b, off + i * 5 + 3, none⟩ = some (.int .i64 x.p.l) ∧ w.cell? ⟨b, off + i * 5 + 4, none⟩ = some (.int .i64 x.p.c)) := by
  have hi : i < l.length := (List.getElem?_eq_some_iff.1 hx).1
  obtain ⟨b, off, e, hb, hc⟩ := h.2.2.2 (by omega)
  have g := fun m hm => hc i hi m hm
  simp only [hx, Option.getD_some] at g
  exact ⟨b, off, e, hb, g 0 (by omega), g 1 (by omega), g 2 (by omega), g 3 (by omega), g 4 (by omega)⟩
theorem Pts.kp {P : Nat → Prop} {w w' : World} {o : Option Addr} {cap : Nat} {l : List Prt} (h : Pts P w o cap l) (b : ∀ k, P k → w'.heap[k]? = w.heap[k]?) : Pts P w' o cap l := h.keptP fun k hk => ⟨hk, b k hk⟩
set_option maxRecDepth 100000 in
set_option maxHeartbeats 2000000 in
theorem index_any {P : Nat → Prop} {w : World} {o : Option Addr} {cap : Nat} {l : List Prt} (h : Pts P w o cap l) (hP : ∀ k, P k → k < w.heap.size) (hl : l.length ≤ 100000) : Calls Tryd.prog 109 #[.slice o l.length cap, .func (.func 104) #[] #[]] w fun e w' => ∃ i : Int, e = .returned (.int .i64 i) ∧ decide (0 ≤ i) = l.any (·.ex) ∧ Below w.heap.size w w' := by
  have H := Lib.hid h
  have HPP := Lib.hid hP
  have hcm := h.2.1
  have hlc := h.1
  unfold maxLen at hcm
  clear h hP
  go_enter Tryd.func109, Tryd.ntmps109
  go_wp2_with fail
  go_loopw [8] (fun v wr => ∃ k : Nat, k ≤ l.length ∧ v = .int .i64 k ∧ Hid (∀ j x, j < k → l[j]? = some x → x.ex = false) ∧ Hid (Below w.heap.size w wr)) (fun v _ => l.length - (intOf v).toNat)
  case atStart => exact ⟨0, Nat.zero_le _, rfl, fun j x hj => absurd hj (Nat.not_lt_zero _), Below.refl _ _⟩
  case round =>
    obtain ⟨k, hk, rfl, HN, HB⟩ := hrel
    by_cases hlt : k < l.length
    · have e1 : (k : Int) < (l.length : Int) := by omega
      have hx := List.getElem?_eq_getElem hlt
      generalize l[k] = x at hx
      have HX := Lib.hid hx
      obtain ⟨b, off, rfl, hPb, c0, c1, c2, c3, c4⟩ := (H.out.kp (fun j hj => HB.out.block j (HPP.out j hj))).at hx
      have hbs : b < wr.heap.size := Nat.lt_of_lt_of_le (HPP.out b hPb) HB.out.size
      have hk0 : ¬ (k : Int) < 0 := by omega
      have e2 : IntKind.i64.wrap ((k : Int) + 1) = ((k + 1 : Nat) : Int) := by rw [IntWalk.i64_in _ (by omega)]; rfl
      clear hx hPb
      go_wp2_with fail
      refine (isExpr_any x _).mono ?_
      rintro e w2 ⟨rfl, b2⟩
      have HB2 := Lib.hid (HB.out.trans (b2.mono HB.out.size))
      clear b2
      obtain ⟨bx, hbx⟩ : ∃ bx, x.ex = bx := ⟨_, rfl⟩
      have HBX := Lib.hid hbx
      rw [hbx]
      clear hbx
      cases bx with
      | true =>
        go_wp2_with fail
        go_ret
        refine ⟨k, rfl, ?_, HB2.out⟩
        rw [List.any_eq_true.2 ⟨x, List.mem_of_getElem? HX.out, HBX.out⟩]
        simp
      | false =>
        go_wp2_with fail
        go_roundw
        case rel => exact ⟨k + 1, hlt, rfl, fun j y hj hy => by
            by_cases hjk : j = k
            · subst hjk
              obtain rfl := Option.some.inj (HX.out.symm.trans hy)
              exact HBX.out
            · exact HN.out j y (by omega) hy, HB2.out⟩
        case measure => simp only [intOf]; omega
    · have e1 : ¬ (k : Int) < (l.length : Int) := by omega
      obtain rfl : k = l.length := by omega
      go_wp2_with fail
      go_ret
      refine ⟨-1, rfl, ?_, HB.out⟩
      have : l.any (·.ex) = false := by
        rw [List.any_eq_false]
        intro x hx
        obtain ⟨j, hj⟩ := List.getElem?_of_mem hx
        rw [HN.out j x (List.getElem?_eq_some_iff.1 hj).1 hj]
        decide
      rw [this]; decide
set_option maxRecDepth 100000 in
theorem anyExpr_any {P : Nat → Prop} {w : World} {o : Option Addr} {cap : Nat} {l : List Prt} (h : Pts P w o cap l) (hP : ∀ k, P k → k < w.heap.size) (hl : l.length ≤ 100000) : Calls Tryd.prog 103 #[.slice o l.length cap, .func (.func 104) #[] #[]] w fun e w' => e = .returned (.bool (l.any (·.ex))) ∧ Below w.heap.size w w' := by
  have HI := Lib.hid (index_any h hP hl)
  clear h hP
  generalize l.any (·.ex) = b at *
  go_enter Tryd.func103, Tryd.ntmps103
  go_wp2_with fail
  refine HI.out.mono ?_
  rintro e w2 ⟨i, rfl, hi, b2⟩
  have HB2 := Lib.hid b2
  clear b2 HI
  go_wp2_with fail
  go_ret
  exact ⟨rfl, HB2.out⟩
end Go.Proofs.YtncjncacfagldaaDoor

/- Contracts: the bytes of parts. -/
namespace Go.Proofs.YtncjncacfagldaaDoor
open Go.RowKit Go.Lib

def bcs (b : List UInt8) : List Value := b.map fun c => Value.int .u8 (c.toNat : Int)
theorem bcs_app (a b : List UInt8) : bcs (a ++ b) = bcs a ++ bcs b := by simp [bcs]
theorem strCells_tx (s : List UInt8) : strCells (tx s) = bcs s := rfl
theorem info5 : (Tryd.prog.info? 5).map (fun i => (i.zero, i.size, i.bytes)) = some (some (.int .u8 0), 1, 1) := by kernel_rfl
/-- a text of bytes in a row of the call's own -/
theorem conv_own {w : World} {B : Nat} {v : Value} {b : List UInt8} (h : w.ownsRow B 5 1 v b.length (bcs b)) : (convert 119 9 v).run Tryd.prog w = .ok (.string (tx b)) w := by
  rcases h.2 with ⟨rfl, h0⟩ | ⟨g, cap, cur, rfl, hb, hg, hn, hm, hc, ht⟩
  · obtain rfl : b = [] := List.eq_nil_of_length_eq_zero h0
    exact run_convert_bytes_nil w 119 5 Tryd.underlying119 Tryd.underlying5 0 0 9 Tryd.underlying9
  · have hcell : ∀ i, i < b.length → w.cell? ⟨g, 0 + i, none⟩ = some (.int .u8 ((b.map fun c => (c.toNat : Int)).getD i 0)) := fun i hi => by
      have := h.cells (g := g) rfl i (.int .u8 ((b[i]'hi).toNat : Int)) (by unfold bcs; rw [List.getElem?_map, List.getElem?_eq_getElem hi]; rfl)
      have ea : (⟨g, 0, none⟩ : Addr).add i = ⟨g, i, none⟩ := by unfold Addr.add; split <;> simp_all
      rw [ea] at this
      rw [Nat.zero_add, this, List.getD_eq_getElem?_getD, List.getElem?_map, List.getElem?_eq_getElem hi]; rfl
    rw [run_convert_bytes_arg w 119 5 Tryd.underlying119 Tryd.underlying5 g 0 b.length cap (b.map fun c => (c.toNat : Int)) (by simp) hcell 9 Tryd.underlying9]
    unfold strOfNums tx
    simp only [List.map_map]
    congr
    apply List.map_id''
    intro c
    simp
/-- the first parts' bytes -/
def byt (l : List Prt) (k : Nat) : List UInt8 := (l.take k).flatMap (·.s)
theorem byt_succ {l : List Prt} {k : Nat} {x : Prt} (h : l[k]? = some x) : byt l (k + 1) = byt l k ++ x.s := by
  unfold byt
  rw [List.take_add_one, h]
  simp
theorem byt_all (l : List Prt) : byt l l.length = l.flatMap (·.s) := by unfold byt; rw [List.take_length]
theorem byt_len (l : List Prt) (k : Nat) : (byt l k).length ≤ (l.flatMap (·.s)).length := by
  have e : l.flatMap (·.s) = byt l k ++ (l.drop k).flatMap (·.s) := by unfold byt; rw [← List.flatMap_append, List.take_append_drop]
  rw [e, List.length_append]; omega
theorem own_kept {w w' : World} {B : Nat} {e : TypeId} {z : Nat} {v : Value} {n : Nat} {xs : List Value} (h : w.ownsRow B e z v n xs) (hb : Below w.heap.size w w') : w'.ownsRow B e z v n xs := by
  refine ⟨h.1, ?_⟩
  rcases h.2 with hn | ⟨g, cap, cur, hv, hbg, hgb, r⟩
  · exact .inl hn
  · exact .inr ⟨g, cap, cur, hv, hbg, (hb.block g (Array.getElem?_eq_some_iff.1 hgb).1).trans hgb, r⟩
set_option maxRecDepth 100000 in
set_option maxHeartbeats 2000000 in
theorem bytes_any {P : Nat → Prop} {w : World} {o : Option Addr} {cap : Nat} {l : List Prt} (h : Pts P w o cap l) (hP : ∀ k, P k → k < w.heap.size) (hl : l.length ≤ 100000) (hs : (l.flatMap (·.s)).length ≤ 1000000) : Calls Tryd.prog 105 #[.slice o l.length cap] w fun e w' => e = .returned (.string (tx (l.flatMap (·.s)))) ∧ Below w.heap.size w w' := by
  obtain ⟨i5, hi, hz, hs1, hb⟩ := info_parts info5
  have H := Lib.hid h
  have HPP := Lib.hid hP
  have HS := Lib.hid hs
  have hcm := h.2.1
  have hlc := h.1
  unfold maxLen at hcm
  clear h hP hs
  go_enter Tryd.func105, Tryd.ntmps105
  go_wp2_with fail
  go_loopw [3, 8] (fun v3 v8 wr => ∃ k : Nat, k ≤ l.length ∧ v8 = .int .i64 k ∧ Hid (wr.ownsRow w.heap.size 5 1 v3 (byt l k).length (bcs (byt l k))) ∧ Hid (Below w.heap.size w wr)) (fun _ v _ => l.length - (intOf v).toNat)
  case atStart => exact ⟨0, Nat.zero_le _, rfl, ⟨rfl, .inl ⟨rfl, rfl⟩⟩, Below.refl _ _⟩
  case round =>
    obtain ⟨k, hk, rfl, HO, HB⟩ := hrel
    by_cases hlt : k < l.length
    · have e1 : (k : Int) < (l.length : Int) := by omega
      have hx := List.getElem?_eq_getElem hlt
      generalize l[k] = x at hx
      have HX := Lib.hid hx
      obtain ⟨b, off, rfl, hPb, c0, c1, c2, c3, c4⟩ := (H.out.kp (fun j hj => HB.out.block j (HPP.out j hj))).at hx
      have hbs : b < wr.heap.size := Nat.lt_of_lt_of_le (HPP.out b hPb) HB.out.size
      have hk0 : ¬ (k : Int) < 0 := by omega
      have e2 : IntKind.i64.wrap ((k : Int) + 1) = ((k + 1 : Nat) : Int) := by rw [IntWalk.i64_in _ (by omega)]; rfl
      have hlen := byt_len l k
      have hlen2 := byt_len l (k + 1)
      rw [byt_succ hx, List.length_append] at hlen2
      have HLN := Lib.hid (And.intro hlen hlen2)
      clear hx hPb hlen hlen2
      have HO1 := Lib.hid (own_kept HO.out ((Below.refl _ _).alloc (Nat.le_refl _) (.cells #[.bool x.ex, .string (tx x.s), .int .i64 x.p.a, .int .i64 x.p.l, .int .i64 x.p.c] 151)))
      have HB1 : Hid (Below w.heap.size w (wr.alloc (.cells #[.bool x.ex, .string (tx x.s), .int .i64 x.p.a, .int .i64 x.p.l, .int .i64 x.p.c] 151))) := HB.out.alloc HB.out.size _
      go_wp2_with (at_builtin; go_must (refine wpList_append_own_string _ rfl (.tmp 12) (.tmp 14) 119 9 rfl w.heap.size 5 i5 Tryd.underlying119 Tryd.underlying9 hi hz hs1 hb _ (byt l k).length (bcs (byt l k)) rfl HO1.out (tx x.s) rfl (by have := HLN.out; have := HS.out; rw [tx_size]; unfold maxLen; omega) (by have := HLN.out; have := HS.out; rw [tx_size]; omega) HB1.out.size ?_))
      intro v' w2 hown hgrow hnil
      have HE : Hid (w2.ownsRow w.heap.size 5 1 v' (byt l (k + 1)).length (bcs (byt l (k + 1))) ∧ Below w.heap.size w w2) := by
        rw [strCells_tx, ← bcs_app, ← byt_succ HX.out, tx_size, ← List.length_append, ← byt_succ HX.out] at hown
        exact ⟨hown, HB1.out.grown hgrow HB1.out.size (fun g hg => (HO1.out.lt g hg).1)⟩
      clear hown hgrow hnil
      go_wp2_with fail
      go_roundw
      case rel => exact ⟨k + 1, hlt, rfl, HE.out.1, HE.out.2⟩
      case measure => simp only [intOf]; omega
    · have e1 : ¬ (k : Int) < (l.length : Int) := by omega
      obtain rfl : k = l.length := by omega
      have hcv := conv_own HO.out
      rw [byt_all] at hcv
      go_wp2_with fail
      go_ret
      exact ⟨rfl, HB.out⟩
end Go.Proofs.YtncjncacfagldaaDoor

import Derived.Test.YtncjncacfagldaaGreatDoorYPE
namespace Go.Proofs.YtncjncacfagldaaGreatDoor
open Go.RowKit Go.Lib

inductive SmI : It → Prop
 | mk (X : It) (hb : X.lb.length ≤ 60000) (he : SmX X.e) (hl : X.l.length ≤ 60000) (hs : ∀ x ∈ X.l, SmI x) : SmI X
theorem SmI.b {X : It} (h : SmI X) : X.lb.length ≤ 60000 := by cases h; assumption
theorem SmI.e {X : It} (h : SmI X) : SmX X.e := by cases h; assumption
theorem SmI.l {X : It} (h : SmI X) : X.l.length ≤ 60000 := by cases h; assumption
theorem SmI.s {X : It} (h : SmI X) : ∀ x ∈ X.l, SmI x := by cases h; assumption
theorem rc22 {w : World} {b : Nat} {c0 c1 c2 c3 c4 c5 c6 c7 c8 c9 c10 c11 c12 c13 c14 c15 c16 c17 c18 c19 c20 c21 : Value} {t : TypeId} (h : w.heap[b]? = some (.cells #[c0, c1, c2, c3, c4, c5, c6, c7, c8, c9, c10, c11, c12, c13, c14, c15, c16, c17, c18, c19, c20, c21] t (0, 0))) :
 (w.cell? ⟨b, 0, none⟩ = some c0 ∧ w.cell? ⟨b, 1, none⟩ = some c1 ∧ w.cell? ⟨b, 2, none⟩ = some c2 ∧ w.cell? ⟨b, 3, none⟩ = some c3 ∧ w.cell? ⟨b, 4, none⟩ = some c4 ∧ w.cell? ⟨b, 5, none⟩ = some c5 ∧ w.cell? ⟨b, 6, none⟩ = some c6 ∧ w.cell? ⟨b, 7, none⟩ = some c7 ∧ w.cell? ⟨b, 8, none⟩ = some c8 ∧ w.cell? ⟨b, 9, none⟩ = some c9 ∧ w.cell? ⟨b, 10, none⟩ = some c10 ∧ w.cell? ⟨b, 11, none⟩ = some c11 ∧ w.cell? ⟨b, 12, none⟩ = some c12 ∧ w.cell? ⟨b, 13, none⟩ = some c13 ∧ w.cell? ⟨b, 14, none⟩ = some c14 ∧ w.cell? ⟨b, 15, none⟩ = some c15 ∧ w.cell? ⟨b, 16, none⟩ = some c16 ∧ w.cell? ⟨b, 17, none⟩ = some c17 ∧ w.cell? ⟨b, 18, none⟩ = some c18 ∧ w.cell? ⟨b, 19, none⟩ = some c19 ∧ w.cell? ⟨b, 20, none⟩ = some c20 ∧ w.cell? ⟨b, 21, none⟩ = some c21) ∧ (∀ i, w.frozen? ⟨b, i, none⟩ = false) ∧ b < w.heap.size :=
 ⟨⟨cell_of_row w b 0 _ _ _ h, cell_of_row w b 1 _ _ _ h, cell_of_row w b 2 _ _ _ h, cell_of_row w b 3 _ _ _ h, cell_of_row w b 4 _ _ _ h, cell_of_row w b 5 _ _ _ h, cell_of_row w b 6 _ _ _ h, cell_of_row w b 7 _ _ _ h, cell_of_row w b 8 _ _ _ h, cell_of_row w b 9 _ _ _ h, cell_of_row w b 10 _ _ _ h, cell_of_row w b 11 _ _ _ h, cell_of_row w b 12 _ _ _ h, cell_of_row w b 13 _ _ _ h, cell_of_row w b 14 _ _ _ h, cell_of_row w b 15 _ _ _ h, cell_of_row w b 16 _ _ _ h, cell_of_row w b 17 _ _ _ h, cell_of_row w b 18 _ _ _ h, cell_of_row w b 19 _ _ _ h, cell_of_row w b 20 _ _ _ h, cell_of_row w b 21 _ _ _ h⟩, fun i => frozen_of_row w b i _ _ h, (Array.getElem?_eq_some_iff.1 h).1⟩
theorem xp_form {P : Nat → Prop} {w : World} {X : Ex} {c : Array Value} (h : XP P w X (.agg c)) : ∃ oV cV oK cK o cap, c = xc X oV cV oK cK o cap := by
 cases h with
 | mk _ oV oK o cV cK cap c hv hl he => exact ⟨oV, cV, oK, cK, o, cap, rfl⟩
theorem ic_ones (X : It) (oL : Option Addr) (cL : Nat) (oV : Option Addr) (cV : Nat) (oK : Option Addr) (cK : Nat) (oE : Option Addr) (cE : Nat) (oI : Option Addr) (cI : Nat) : (ic X oL cL oV cV oK cK oE cE oI cI).all (·.oneCell') = true ∧ ∀ u ∈ (ic X oL cL oV cV oK cK oE cE oI cI).toList, u.oneCell' = true := by
 have h : ∀ u ∈ (ic X oL cL oV cV oK cK oE cE oI cI).toList, u.oneCell' = true := by simp [Value.oneCell']
 exact ⟨by rw [Array.all_eq_true_iff_forall_mem]; intro u hu; exact h u (by simpa using hu), h⟩
theorem splice22 (X : It) (oL : Option Addr) (cL : Nat) (oV oV1 : Option Addr) (cV cV1 : Nat) (oK oK1 : Option Addr) (cK cK1 : Nat) (oE oE1 : Option Addr) (cE cE1 : Nat) (oI : Option Addr) (cI : Nat) :
 ((ic X oL cL oV cV oK cK oE cE oI cI).toList.take 3 ++ (xc X.e oV1 cV1 oK1 cK1 oE1 cE1).toList ++ (ic X oL cL oV cV oK cK oE cE oI cI).toList.drop (3 + (xc X.e oV1 cV1 oK1 cK1 oE1 cE1).size)).toArray = (ic X oL cL oV1 cV1 oK1 cK1 oE1 cE1 oI cI) := rfl
theorem results_one {fn : Func} {p : Tmp} (h : fn.results = #[.cell p 40]) (tmps : Array Value) (w : World) (g : Nat) (cs : Array Value)
 (hp : tmps.getD p undef = .pointer (some ⟨g, 0, none⟩)) (hg : w.heap[g]? = some (.cells cs 40 (0, 0))) (hi : cs.size = 22) : (results fn tmps).run Tryz.prog w = .ok (.agg cs) w := by
 have hp' : tmps[p]?.getD undef = .pointer (some ⟨g, 0, none⟩) := by simpa using hp
 have e1 := run_loadVar_row (P := Tryz.prog) w g 40 40 cs (0, 0) _ hg Tryz.underlying40 rfl (size40z hi)
 simp [results, h, hp', asAddr, e1]
set_option maxRecDepth 100000 in
set_option maxHeartbeats 4000000 in
theorem copyI_any (X : It) : SmI X → ∀ (n : Nat) (v : Value) (w : World), IP (fun k => k < n) w X v → n ≤ w.heap.size → Calls Tryz.prog 27 #[v] w (IcPost X w) := by
 induction X using it_ind with
 | h X ih =>
   intro hS n v w hx hn
   obtain ⟨oL, cL, oV, cV, oK, cK, oE, cE, oI, cI, rfl, hlb, hxe, hrow⟩ : ∃ oL cL oV cV oK cK oE cE oI cI, v = .agg (ic X oL cL oV cV oK cK oE cE oI cI) ∧ RowP (fun k => k < n) w oL cL X.lb.length 1 (fun j _ => .string (tx (X.lb.getD j []))) ∧ XP (fun k => k < n) w X.e (.agg (xc X.e oV cV oK cK oE cE)) ∧ ∃ c, RowP (fun k => k < n) w oI cI X.l.length 22 c ∧ ∀ j x, X.l[j]? = some x → IP (fun k => k < n) w x (.agg (row22 c j)) := by
    cases hx with
    | mk _ oL oV oK o oI cL cV cK cap cI c hl he hi hy => exact ⟨oL, cL, oV, cV, oK, cK, o, cap, oI, cI, rfl, hl, he, c, hi, hy⟩
   obtain ⟨c, hr, he⟩ := hrow
   have W0 := ((Below.refl w.heap.size w).alloc (Nat.le_refl _) (.cells (ic X oL cL oV cV oK cK oE cE oI cI) 40)).alloc (by simp) (.cells z22 40)
   have Z0 : Hid (((w.alloc (.cells (ic X oL cL oV cV oK cK oE cE oI cI) 40)).alloc (.cells z22 40)).heap.size = w.heap.size + 2) := by simp [Hid]
   have R1 : Hid (((w.alloc (.cells (ic X oL cL oV cV oK cK oE cE oI cI) 40)).alloc (.cells z22 40)).heap[w.heap.size]? = some (.cells (ic X oL cL oV cV oK cK oE cE oI cI) 40 (0, 0))) := (heap_alloc_old _ _ (by simp)).trans (heap_alloc_new w _)
   have R2 : Hid (((w.alloc (.cells (ic X oL cL oV cV oK cK oE cE oI cI) 40)).alloc (.cells z22 40)).heap[w.heap.size + 1]? = some (.cells z22 40 (0, 0))) := by
    have := heap_alloc_new (w.alloc (.cells (ic X oL cL oV cV oK cK oE cE oI cI) 40)) (.cells z22 40)
    rw [World.size_alloc] at this; exact this
   have HB0 := qh W0
   have HC : Hid (∀ W, Below w.heap.size w W → Calls Tryz.prog 47 #[.slice oL X.lb.length cL] W (ScPost X.lb W)) := fun W hW => clone_any (n := n) (hlb.keptP fun k hk => ⟨hk, hW.block k (by omega)⟩) hS.b (by have := hW.size; omega)
   have HE : Hid (∀ W, Below w.heap.size w W → Calls Tryz.prog 48 #[.agg (xc X.e oV cV oK cK oE cE)] W (XcPost X.e W)) := fun W hW => copyX_any X.e hS.e n _ W (hxe.keptP fun k hk => ⟨hk, hW.block k (by omega)⟩) (by have := hW.size; omega)
   have HL : Hid (∀ W, Below w.heap.size w W → Calls Tryz.prog 49 #[.slice oI X.l.length cI, .func (.func 27) #[] #[]] W (ItsPost X.l W)) := fun W hW =>
    copies_49 (n := n) (w := W) (fun x hxm v w hv hn => ih x hxm (hS.s x hxm) n v w hv hn) hS.l (hr.keptP fun k hk => ⟨hk, hW.block k (by omega)⟩) (fun j x hxj => (he j x hxj).keptP fun k hk => ⟨hk, hW.block k (by omega)⟩) (by have := hW.size; omega)
   clear hx hlb hxe hr he ih W0 hn hS
   go_enter Tryz.func27, Tryz.ntmps27
   go_upto_region 1 with fail
   generalize (w.alloc _).alloc _ = w0 at *
   obtain ⟨⟨-, -, c2, -, -, -, -, -, -, -, -, -, -, -, -, -, -, -, -, -, -, -⟩, -, hb0⟩ := rc22 R1.out
   go_wp2_with fail
   refine (HC.out _ HB0.out).mono ?_
   rintro e w1 ⟨oL1, cL1, rfl, r1, b1⟩
   have hz0 := Z0.out
   have P1 := qh ((b1.block w.heap.size (by omega)).trans R1.out)
   have P2 := qh ((b1.block (w.heap.size + 1) (by omega)).trans R2.out)
   have HB1 := qh (HB0.out.trans (b1.mono HB0.out.size))
   have HS1 : w.heap.size + 2 ≤ w1.heap.size := by have := b1.size; omega
   have HL1 : Hid (RowP (fun k => w.heap.size + 2 ≤ k ∧ k < w1.heap.size) w1 oL1 cL1 X.lb.length 1 (fun j _ => .string (tx (X.lb.getD j [])))) := r1.keptP fun k hk => ⟨⟨by have := hk.1; omega, hk.2⟩, rfl⟩
   obtain ⟨⟨-, -, d2, -, -, -, -, -, -, -, -, -, -, -, -, -, -, -, -, -, -, -⟩, ff, hb1⟩ := rc22 P1.out
   have f2 := ff 2
   clear b1 R1 R2 HB0 c2 hb0 r1 Z0
   have U1 : Hid ((w1.setCell ⟨w.heap.size, 2, none⟩ (.slice oL1 X.lb.length cL1)).heap[w.heap.size]? = some (.cells (ic X oL1 cL1 oV cV oK cK oE cE oI cI) 40 (0, 0))) := by
    unfold Hid; rw [heap_setCell_same w1 w.heap.size 2 _ 40 _ P1.out]; rfl
   have U2 := qh ((heap_setCell_other w1 ⟨w.heap.size, 2, none⟩ (w.heap.size + 1) (.slice oL1 X.lb.length cL1) (by simp)).trans P2.out)
   have UO := qh (fun k (hk : k ≠ w.heap.size) => heap_setCell_other w1 ⟨w.heap.size, 2, none⟩ k (.slice oL1 X.lb.length cL1) hk)
   have US : Hid ((w1.setCell ⟨w.heap.size, 2, none⟩ (.slice oL1 X.lb.length cL1)).heap.size = w1.heap.size) := by unfold Hid; simp
   have HB2 := qh (HB1.out.setCell (p := ⟨w.heap.size, 2, none⟩) (Nat.le_refl _) (.slice oL1 X.lb.length cL1))
   go_upto_region 2 with fail
   generalize w1.setCell ⟨w.heap.size, 2, none⟩ (.slice oL1 X.lb.length cL1) = w2 at *
   have hs2 := US.out
   have HL2 : Hid (RowP (fun k => w.heap.size + 2 ≤ k ∧ k < w2.heap.size) w2 oL1 cL1 X.lb.length 1 (fun j _ => .string (tx (X.lb.getD j [])))) := HL1.out.keptP fun k hk => ⟨⟨hk.1, by have := hk.2; omega⟩, UO.out k (by have := hk.1; omega)⟩
   have HG : Hid (w2.rangeAt w.heap.size 3 (xc X.e oV cV oK cK oE cE).toList) := by
    intro m u hm
    have hlt : m < 15 := by have := (List.getElem?_eq_some_iff.1 hm).1; simpa using this
    rw [cell_of_row w2 w.heap.size (3 + m) _ _ _ U1.out]
    obtain rfl | rfl | rfl | rfl | rfl | rfl | rfl | rfl | rfl | rfl | rfl | rfl | rfl | rfl | rfl := (by omega : m = 0 ∨ m = 1 ∨ m = 2 ∨ m = 3 ∨ m = 4 ∨ m = 5 ∨ m = 6 ∨ m = 7 ∨ m = 8 ∨ m = 9 ∨ m = 10 ∨ m = 11 ∨ m = 12 ∨ m = 13 ∨ m = 14)
    all_goals exact hm
   clear P1 P2 HB1 d2 ff f2 hb1 HL1 UO US
   go_wp2_with (refine wpList_load_mid rfl 38 (.tmp 7) rfl w.heap.size 3 rfl (xc X.e oV cV oK cK oE cE).toList _ HG.out Tryz.underlying38 rfl (by rw [Array.length_toList]; exact size38z rfl) ?_)
   refine (HE.out _ HB2.out).mono ?_
   rintro e w3 ⟨part, rfl, hp, hp1, hO, b3⟩
   obtain ⟨oV1, cV1, oK1, cK1, oE1, cE1, rfl⟩ := xp_form hO
   have Q1 := qh ((b3.block w.heap.size (by omega)).trans U1.out)
   have Q2 := qh ((b3.block (w.heap.size + 1) (by omega)).trans U2.out)
   have HB3 := qh (HB2.out.trans (b3.mono HB2.out.size))
   have HS3 : w.heap.size + 2 ≤ w3.heap.size := by have := b3.size; omega
   have HL3 : Hid (RowP (fun k => w.heap.size + 2 ≤ k ∧ k < w3.heap.size) w3 oL1 cL1 X.lb.length 1 (fun j _ => .string (tx (X.lb.getD j [])))) := HL2.out.keptP fun k hk => ⟨⟨hk.1, by have := hk.2; have := b3.size; omega⟩, b3.block k hk.2⟩
   have HE3 : Hid (XP (fun k => w.heap.size + 2 ≤ k ∧ k < w3.heap.size) w3 X.e (.agg (xc X.e oV1 cV1 oK1 cK1 oE1 cE1))) := hO.mono fun k hk => ⟨by have := hk.1; omega, hk.2⟩
   have HP1 : Hid ((xc X.e oV1 cV1 oK1 cK1 oE1 cE1).all (·.oneCell') = true) := by unfold Hid; rw [Array.all_eq_true_iff_forall_mem]; intro u hu; exact hp1 u (by simpa using hu)
   clear b3 U1 U2 HB2 HL2 HG hp hp1 hO hs2
   obtain ⟨SP, hSP⟩ : ∃ q, ((ic X oL1 cL1 oV cV oK cK oE cE oI cI).toList.take 3 ++ (xc X.e oV1 cV1 oK1 cK1 oE1 cE1).toList ++ (ic X oL1 cL1 oV cV oK cK oE cE oI cI).toList.drop (3 + (xc X.e oV1 cV1 oK1 cK1 oE1 cE1).size)).toArray = q := ⟨_, rfl⟩
   have HSP : Hid (SP = (ic X oL1 cL1 oV1 cV1 oK1 cK1 oE1 cE1 oI cI)) := hSP.symm.trans (splice22 X oL1 cL1 oV oV1 cV cV1 oK oK1 cK cK1 oE oE1 cE cE1 oI cI)
   go_wp2_with (refine wpList_store_at rfl 38 (.tmp 10) (.tmp 9) rfl w.heap.size 3 rfl (xc X.e oV1 cV1 oK1 cK1 oE1 cE1) rfl 40 (ic X oL1 cL1 oV cV oK cK oE cE oI cI) Q1.out (by show 3 + 15 ≤ 22; omega) (size38z rfl) HP1.out ?_
                rw [hSP]
                have V1 : Hid ((w3.setRow w.heap.size SP).heap[w.heap.size]? = some (.cells (ic X oL1 cL1 oV1 cV1 oK1 cK1 oE1 cE1 oI cI) 40 (0, 0))) := by
                 have h := setRow_heap w3 w.heap.size _ SP _ _ Q1.out
                 unfold Hid; rw [h, HSP.out]
                have V2 := qh ((setRow_oth w3 w.heap.size SP (w.heap.size + 1) (by omega)).trans Q2.out)
                have VO := qh (fun k (hk : k ≠ w.heap.size) => setRow_oth w3 w.heap.size SP k hk)
                have VS : Hid ((w3.setRow w.heap.size SP).heap.size = w3.heap.size) := size_setRow _ _ _
                have HB4 := qh (Below.row HB3.out (Nat.le_refl _) SP)
                clear Q1 Q2 HB3 hSP
                generalize w3.setRow w.heap.size SP = w4 at *
                obtain ⟨⟨-, -, -, -, -, -, -, -, -, -, -, -, -, -, -, -, -, -, c18, -, -, -⟩, -, hb4⟩ := rc22 V1.out)
   refine (HL.out _ HB4.out).mono ?_
   rintro e w5 ⟨oI1, cI1, c5, rfl, r5, e5, b5⟩
   have hs4 := VS.out
   have T1 := qh ((b5.block w.heap.size hb4).trans V1.out)
   have T2 := qh ((b5.block (w.heap.size + 1) (by omega)).trans V2.out)
   have HB5 := qh (HB4.out.trans (b5.mono HB4.out.size))
   have h5s := b5.size
   have HL5 : Hid (RowP (fun k => w.heap.size + 2 ≤ k ∧ k < w5.heap.size) w5 oL1 cL1 X.lb.length 1 (fun j _ => .string (tx (X.lb.getD j [])))) := HL3.out.keptP fun k hk => ⟨⟨hk.1, by have := hk.2; omega⟩, (b5.block k (by have := hk.2; omega)).trans (VO.out k (by have := hk.1; omega))⟩
   have HE5 : Hid (XP (fun k => w.heap.size + 2 ≤ k ∧ k < w5.heap.size) w5 X.e (.agg (xc X.e oV1 cV1 oK1 cK1 oE1 cE1))) := HE3.out.keptP fun k hk => ⟨⟨hk.1, by have := hk.2; omega⟩, (b5.block k (by have := hk.2; omega)).trans (VO.out k (by have := hk.1; omega))⟩
   have HR5 : Hid (RowP (fun k => w.heap.size + 2 ≤ k ∧ k < w5.heap.size) w5 oI1 cI1 X.l.length 22 c5 ∧ ∀ j x, X.l[j]? = some x → IP (fun k => w.heap.size + 2 ≤ k ∧ k < w5.heap.size) w5 x (.agg (row22 c5 j))) :=
    ⟨r5.keptP fun k hk => ⟨⟨by have := hk.1; omega, hk.2⟩, rfl⟩, fun j x hx => (e5 j x hx).mono fun k hk => ⟨by have := hk.1; omega, hk.2⟩⟩
   have h51 : w.heap.size < w5.heap.size := by omega
   have h52 : w.heap.size + 1 < w5.heap.size := by omega
   obtain ⟨⟨-, -, -, -, -, -, -, -, -, -, -, -, -, -, -, -, -, -, d18, -, -, -⟩, ff, -⟩ := rc22 T1.out
   have f18 := ff 18
   clear c18 hb4 V1 V2 VO VS HB4 b5 r5 e5 hs4 HL3 HE3 h5s HSP HP1
   have Y1 : Hid ((w5.setCell ⟨w.heap.size, 18, none⟩ (.slice oI1 X.l.length cI1)).heap[w.heap.size]? = some (.cells (ic X oL1 cL1 oV1 cV1 oK1 cK1 oE1 cE1 oI1 cI1) 40 (0, 0))) := by
    unfold Hid; rw [heap_setCell_same w5 w.heap.size 18 _ 40 _ T1.out]; rfl
   have Y2 := qh ((heap_setCell_other w5 ⟨w.heap.size, 18, none⟩ (w.heap.size + 1) (.slice oI1 X.l.length cI1) (by simp)).trans T2.out)
   have YO := qh (fun k (hk : k ≠ w.heap.size) => heap_setCell_other w5 ⟨w.heap.size, 18, none⟩ k (.slice oI1 X.l.length cI1) hk)
   have YS : Hid ((w5.setCell ⟨w.heap.size, 18, none⟩ (.slice oI1 X.l.length cI1)).heap.size = w5.heap.size) := by unfold Hid; simp
   have HB6 := qh (HB5.out.setCell (p := ⟨w.heap.size, 18, none⟩) (Nat.le_refl _) (.slice oI1 X.l.length cI1))
   go_upto_region 4 with fail
   generalize w5.setCell ⟨w.heap.size, 18, none⟩ (.slice oI1 X.l.length cI1) = w6 at *
   clear T1 T2 HB5 d18 ff f18
   have hs6 := YS.out
   obtain ⟨H22, H22L⟩ := ic_ones X oL1 cL1 oV1 cV1 oK1 cK1 oE1 cE1 oI1 cI1
   obtain ⟨F3, hF3⟩ : ∃ q, (ic X oL1 cL1 oV1 cV1 oK1 cK1 oE1 cE1 oI1 cI1) = q := ⟨_, rfl⟩
   rw [hF3] at Y1 H22 H22L
   have HF3 := qh hF3
   have HFS : Hid (F3.size = 22) := by rw [← hF3]; rfl
   have H22 := qh H22
   have H22L := qh H22L
   clear hF3
   go_wp2_with (first
    | refine wpList_load_row rfl 40 (.tmp 1) rfl w.heap.size rfl 40 F3 _ _ Y1.out Tryz.underlying40 rfl (size40z HFS.out) ?_
    | (refine wpList_store_row rfl 40 (.tmp 2) (.tmp 15) rfl (w.heap.size + 1) F3 rfl rfl 40 _ Y2.out (size40z HFS.out) (by rw [HFS.out]; rfl) H22.out ?_
       have X2 := qh (setRow_heap w6 (w.heap.size + 1) _ F3 _ _ Y2.out)
       have XO := qh (fun k (hk : k ≠ w.heap.size + 1) => setRow_oth w6 (w.heap.size + 1) F3 k hk)
       have XS : Hid ((w6.setRow (w.heap.size + 1) F3).heap.size = w6.heap.size) := size_setRow _ _ _
       have HB7 := qh (Below.row HB6.out (Nat.le_succ _) F3)
       generalize w6.setRow (w.heap.size + 1) F3 = w7 at *))
   refine bodyPost_ret (v := .agg F3) (results_one Tryz.results27 _ _ (w.heap.size + 1) F3 rfl X2.out HFS.out) rfl ?_
   have hv7 := XS.out
   have kp : ∀ k, w.heap.size + 2 ≤ k ∧ k < w5.heap.size → FrV w w7 k ∧ w7.heap[k]? = w5.heap[k]? := fun k hk => ⟨⟨by have := hk.1; omega, by have := hk.2; omega⟩, (XO.out k (by have := hk.1; omega)).trans (YO.out k (by have := hk.1; omega))⟩
   rw [← HF3.out] at H22L ⊢
   exact ⟨_, rfl, rfl, H22L.out, .mk X oL1 oV1 oK1 oE1 oI1 cL1 cV1 cK1 cE1 cI1 c5 (HL5.out.keptP kp) (HE5.out.keptP kp) (HR5.out.1.keptP kp) (fun j x hx => (HR5.out.2 j x hx).keptP kp), HB7.out⟩
open Go.RowKit Go.Lib

theorem ip_form {P : Nat → Prop} {w : World} {X : It} {c : Array Value} (h : IP P w X (.agg c)) : c.size = 22 ∧ c.all (·.oneCell') = true ∧ c[0]? = some (.bool X.b) ∧ c[1]? = some (.string (tx X.nm)) := by
 cases h with
 | mk _ oL oV oK oE oI cL cV cK cE cI c hl he hi hy => exact ⟨rfl, (ic_ones X oL cL oV cV oK cK oE cE oI cI).1, rfl, rfl⟩
def isAt (nm : ByteArray) (x : It) : Prop := x.b = false ∧ tx x.nm = nm
def AttrPost (l : List It) (nm : ByteArray) (w : World) (e : Ending) (w' : World) : Prop := Below w.heap.size w w' ∧
 ((∃ (j : Nat) (X : It) (c : Array Value), l[j]? = some X ∧ isAt nm X ∧ (∀ i y, i < j → l[i]? = some y → ¬ isAt nm y) ∧ e = .returned (.tuple #[.agg c, .bool true]) ∧ IP (FrV w w') w' X (.agg c)) ∨
  ((∀ y ∈ l, ¬ isAt nm y) ∧ e = .returned (.tuple #[.agg z22, .bool false])))
theorem results_two {fn : Func} {p q : Tmp} (h : fn.results = #[.cell p 40, .tmp q]) (tmps : Array Value) (w : World) (g : Nat) (cs : Array Value)
 (hp : tmps.getD p undef = .pointer (some ⟨g, 0, none⟩)) (hg : w.heap[g]? = some (.cells cs 40 (0, 0))) (hi : cs.size = 22) : (results fn tmps).run Tryz.prog w = .ok (.tuple #[.agg cs, tmps.getD q undef]) w := by
 have hp' : tmps[p]?.getD undef = .pointer (some ⟨g, 0, none⟩) := by simpa using hp
 have e1 := run_loadVar_row (P := Tryz.prog) w g 40 40 cs (0, 0) _ hg Tryz.underlying40 rfl (size40z hi)
 simp [results, h, hp', asAddr, e1, Result.andThen]
set_option maxRecDepth 100000 in
set_option maxHeartbeats 4000000 in
theorem attr_any {n : Nat} {w : World} {l : List It} {v : Value} (nm : ByteArray) (hS : ∀ x ∈ l, SmI x) (hP : PayI l (fun k => k < n) w v) (hn : n ≤ w.heap.size) : Calls Tryz.prog 13 #[v, .string nm] w (AttrPost l nm w) := by
 obtain ⟨o, cap, d, rfl, hR, hE⟩ := hP
 have hc := hR.1
 have hm := hR.2.1
 unfold maxLen at hm
 have HR := qh hR
 have HE := qh hE
 have HS := qh hS
 have HN := qh hn
 have B0 : Below w.heap.size w (w.alloc (.cells z22 40)) := (Below.refl _ _).alloc (Nat.le_refl _) _
 have HB0 := qh B0
 have K0 := qh (heap_alloc_new w (.cells z22 40))
 have HZ0 : Hid ((w.alloc (.cells z22 40)).heap.size = w.heap.size + 1) := by unfold Hid; simp
 clear hR hE hS hn B0
 go_enter Tryz.func13, Tryz.ntmps13
 go_upto_region 1 with fail
 generalize w.alloc (.cells z22 40) = w0 at *
 go_wp2_with fail
 go_loopw [10] (fun v10 wr => ∃ k : Nat, k ≤ l.length ∧ v10 = .int .i64 (k : Int) ∧ Hid (Below w0.heap.size w0 wr) ∧ Hid (∀ i y, i < k → l[i]? = some y → ¬ isAt nm y)) (fun v _ => l.length - (RowKit.intOf v).toNat)
 case atStart => exact ⟨0, Nat.zero_le _, rfl, Below.refl _ _, fun i y h => absurd h (Nat.not_lt_zero _)⟩
 case round =>
  obtain ⟨k, hk, rfl, HW, HK⟩ := hrel
  have hz0 := HZ0.out
  by_cases hlt : k < l.length
  · obtain ⟨X, hX⟩ : ∃ X, l[k]? = some X := ⟨_, List.getElem?_eq_getElem hlt⟩
    obtain ⟨b, off, ea, hb, hcel⟩ := HR.out.2.2.2 (by omega)
    subst ea
    have BW := qh (HB0.out.trans (HW.out.mono HB0.out.size))
    have tk : ∀ i, i < n → wr.heap[i]? = w.heap[i]? := fun i hi => BW.out.block i (by have := HN.out; omega)
    have HXE : Hid (IP (fun k => k < n) wr X (.agg (row22 d k))) := (HE.out k X hX).keptP fun i hi => ⟨hi, tk i hi⟩
    obtain ⟨h22, hone, h0, h01⟩ := ip_form HXE.out
    have HRG : Hid (wr.rangeAt b (off + k * 22) (row22 d k).toList) := fun m u hm => by
     have hlt : m < 22 := by have := (List.getElem?_eq_some_iff.1 hm).1; simpa using this
     rw [World.cell?_of_block (w := w) (tk b hb), hcel k (by omega) m hlt]
     rw [Array.getElem?_toList, row22_at d k m hlt] at hm
     exact hm
    obtain ⟨cx, hcx⟩ : ∃ q, row22 d k = q := ⟨_, rfl⟩
    rw [hcx] at HRG HXE h22 hone h0 h01
    have HX := qh hX
    have HSX := qh (HS.out X (List.mem_of_getElem? hX))
    have H22 := qh h22
    have H1 := qh hone
    have H0 := qh h0
    have H01 := qh h01
    have k0 : ¬ (k : Int) < 0 := by omega
    have k1 : (k : Int) < (l.length : Int) := by omega
    have k2 : IntKind.i64.wrap ((k : Int) + 1) = ((k + 1 : Nat) : Int) := by rw [IntWalk.i64_in _ (by omega)]; rfl
    have lb : b < wr.heap.size := by have := HN.out; have := BW.out.size; omega
    have N1 := qh (heap_alloc_new wr (.cells z22 40))
    have HW3 := qh ((Below.refl wr.heap.size wr).alloc (Nat.le_refl _) (.cells z22 40))
    have HNX : Hid (¬ isAt nm X → ∀ i y, i < k + 1 → l[i]? = some y → ¬ isAt nm y) := fun hn i y hi hy => by
     by_cases e : i = k
     · subst e; rw [HX.out] at hy; injection hy with hy; rw [← hy]; exact hn
     · exact HK.out i y (by omega) hy
    clear hX hcx h22 hone h0 h01 tk hb hcel
    obtain ⟨xb, hxb⟩ : ∃ q, X.b = q := ⟨_, rfl⟩
    rw [hxb] at H0
    cases xb with
    | true =>
      replace HNX := qh (HNX.out (fun h => by rw [h.1] at hxb; cases hxb))
      clear hxb
      go_wp2_with (first
       | refine wpList_load_mid rfl 40 (.tmp 12) rfl b (off + k * 22) rfl cx.toList _ HRG.out Tryz.underlying40 rfl (by rw [Array.length_toList]; exact size40z H22.out) ?_
       | (refine wpList_store_row rfl 40 (.tmp 7) (.tmp 13) rfl wr.heap.size cx rfl rfl 40 _ N1.out (size40z H22.out) (by rw [H22.out]; rfl) H1.out ?_
          have r22 := qh (setRow_heap _ _ _ cx _ _ N1.out)
          have c0 := (cell_of_row _ _ 0 _ _ _ r22.out).trans H0.out
          have c1 := (cell_of_row _ _ 1 _ _ _ r22.out).trans H01.out
          have HW4 := qh (Below.row HW3.out (Nat.le_refl _) cx)
          have h4 : wr.heap.size < (World.setRow (wr.alloc (.cells z22 40)) wr.heap.size cx).heap.size := by rw [size_setRow]; simp
          clear N1 HW3
          generalize World.setRow _ wr.heap.size cx = w4 at *))
      refine ⟨⟨k + 1, hlt, rfl, HW.out.trans (HW4.out.mono HW.out.size), HNX.out⟩, ?_⟩
      simp only [RowKit.intOf]; omega
    | false =>
      by_cases hnm : tx X.nm = nm
      case neg =>
       replace HNX := qh (HNX.out (fun h => hnm h.2))
       obtain ⟨g1, g2⟩ := str_ne hnm
       clear hxb hnm
       go_wp2_with (first
       | refine wpList_load_mid rfl 40 (.tmp 12) rfl b (off + k * 22) rfl cx.toList _ HRG.out Tryz.underlying40 rfl (by rw [Array.length_toList]; exact size40z H22.out) ?_
       | (refine wpList_store_row rfl 40 (.tmp 7) (.tmp 13) rfl wr.heap.size cx rfl rfl 40 _ N1.out (size40z H22.out) (by rw [H22.out]; rfl) H1.out ?_
          have r22 := qh (setRow_heap _ _ _ cx _ _ N1.out)
          have c0 := (cell_of_row _ _ 0 _ _ _ r22.out).trans H0.out
          have c1 := (cell_of_row _ _ 1 _ _ _ r22.out).trans H01.out
          have HW4 := qh (Below.row HW3.out (Nat.le_refl _) cx)
          have h4 : wr.heap.size < (World.setRow (wr.alloc (.cells z22 40)) wr.heap.size cx).heap.size := by rw [size_setRow]; simp
          clear N1 HW3
          generalize World.setRow _ wr.heap.size cx = w4 at *))
       refine ⟨⟨k + 1, hlt, rfl, HW.out.trans (HW4.out.mono HW.out.size), HNX.out⟩, ?_⟩
       simp only [RowKit.intOf]; omega
      have HIS : Hid (isAt nm X) := ⟨hxb, hnm⟩
      obtain ⟨g1, g2⟩ := str_eq hnm
      clear hxb hnm HNX
      go_wp2_with (first
       | refine wpList_load_mid rfl 40 (.tmp 12) rfl b (off + k * 22) rfl cx.toList _ HRG.out Tryz.underlying40 rfl (by rw [Array.length_toList]; exact size40z H22.out) ?_
       | (refine wpList_store_row rfl 40 (.tmp 7) (.tmp 13) rfl wr.heap.size cx rfl rfl 40 _ N1.out (size40z H22.out) (by rw [H22.out]; rfl) H1.out ?_
          have r22 := qh (setRow_heap _ _ _ cx _ _ N1.out)
          have c0 := (cell_of_row _ _ 0 _ _ _ r22.out).trans H0.out
          have c1 := (cell_of_row _ _ 1 _ _ _ r22.out).trans H01.out
          have HW4 := qh (Below.row HW3.out (Nat.le_refl _) cx)
          have h4 : wr.heap.size < (World.setRow (wr.alloc (.cells z22 40)) wr.heap.size cx).heap.size := by rw [size_setRow]; simp
          clear N1 HW3
          generalize World.setRow _ wr.heap.size cx = w4 at *)
       | refine wpList_load_row rfl 40 (.tmp 7) rfl wr.heap.size rfl 40 cx _ _ r22.out Tryz.underlying40 rfl (size40z H22.out) ?_)
      refine (copyI_any X HSX.out n _ _ (HXE.out.keptP fun i hi => ⟨hi, HW4.out.block i (by have := HN.out; have := BW.out.size; omega)⟩) (by have := HN.out; have := BW.out.size; have := HW4.out.size; omega)).mono ?_
      rintro e w5 ⟨part, rfl, hp, hp1, hO, b5⟩
      have hws := HW.out.size
      have h4s := HW4.out.size
      have L0 := qh ((b5.block w.heap.size (by omega)).trans ((HW4.out.block w.heap.size (by omega)).trans ((HW.out.block w.heap.size (by omega)).trans K0.out)))
      have HB5 := qh ((BW.out.trans (HW4.out.mono BW.out.size)).trans (b5.mono (by omega)))
      have HO := qh hO
      have HPS := qh hp
      have HP1 : Hid (part.all (·.oneCell') = true) := by unfold Hid; rw [Array.all_eq_true_iff_forall_mem]; intro u hu; exact hp1 u (by simpa using hu)
      have h4z : Hid (w.heap.size < w4.heap.size) := by unfold Hid; omega
      clear hO hp hp1 b5 c0 c1 h4 r22
      go_wp2_with (refine wpList_store_row rfl 40 (.tmp 4) (.tmp 24) rfl w.heap.size part rfl rfl 40 _ L0.out (size40z HPS.out) (by rw [HPS.out]; rfl) HP1.out ?_
                   have V0 := qh (setRow_heap w5 w.heap.size _ part _ _ L0.out)
                   have VO := qh (fun j (hj : j ≠ w.heap.size) => setRow_oth w5 w.heap.size part j hj)
                   have VS : Hid ((w5.setRow w.heap.size part).heap.size = w5.heap.size) := size_setRow _ _ _
                   have HB6 := qh (Below.row HB5.out (Nat.le_refl _) part)
                   generalize w5.setRow w.heap.size part = w6 at *)
      refine bodyPost_ret (results_two Tryz.results13 _ _ w.heap.size part rfl V0.out HPS.out) rfl ?_
      have hv := VS.out
      exact ⟨HB6.out, .inl ⟨k, X, part, HX.out, HIS.out, HK.out, rfl, HO.out.keptP fun i hi => ⟨⟨by have := hi.1; omega, by have := hi.2; omega⟩, VO.out i (by have := hi.1; have := h4z.out; omega)⟩⟩⟩
  · obtain rfl : k = l.length := by omega
    have k1 : ¬ (l.length : Int) < (l.length : Int) := by omega
    have HNO : Hid (∀ y ∈ l, ¬ isAt nm y) := fun y hy => by
     obtain ⟨i, hi⟩ := List.mem_iff_getElem?.1 hy
     exact HK.out i y (List.getElem?_eq_some_iff.1 hi).1 hi
    have L0 := qh ((HW.out.block w.heap.size (by omega)).trans K0.out)
    have HB5 := qh (HB0.out.trans (HW.out.mono HB0.out.size))
    go_wp2_with (refine wpList_store_row rfl 40 (.tmp 4) (.tmp 26) rfl w.heap.size z22 rfl rfl 40 _ L0.out (size40z rfl) rfl (by kernel_rfl) ?_
                 have V0 := qh (setRow_heap wr w.heap.size _ z22 _ _ L0.out)
                 have HB6 := qh (Below.row HB5.out (Nat.le_refl _) z22)
                 generalize wr.setRow w.heap.size z22 = w6 at *)
    refine bodyPost_ret (results_two Tryz.results13 _ _ w.heap.size _ rfl V0.out rfl) rfl ?_
    exact ⟨HB6.out, .inr ⟨HNO.out, rfl⟩⟩
end Go.Proofs.YtncjncacfagldaaGreatDoor

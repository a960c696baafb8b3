/- ExprLoose: behind the three texts. -/
import Derived.Test.YtncjncacfagldaaDoorXJ
import Derived.Deep.DeepCutAuto
namespace Go.Proofs.YtncjncacfagldaaDoor
open Go.RowKit Go.Lib

def sndC : Code → Code
  | .seq _ b => b
  | c => c
noncomputable def lbody : Code := Tryd.f4.body.getD .ret
noncomputable def lrest : Nat → Code
  | 0 => lbody
  | n + 1 => sndC (lrest n)
set_option maxRecDepth 100000 in
set_option maxHeartbeats 8000000 in
theorem loose_r7 {w w7 : World} {b1 : Nat} (a b i k : Nat) (hi1 : (i : Int) < 13) (hk1 : (k : Int) < 13) (HLi : Hid (w7.cell? ⟨b1 + 1, i, none⟩ = some (.int .i64 (lv' i : Int)))) (HLk : Hid (w7.cell? ⟨b1 + 1, k, none⟩ = some (.int .i64 (lv' k : Int)))) (LB : Hid (b1 + 1 < w7.heap.size)) (HT : Hid (Tab w7 ∧ Lev w7 ∧ 2 ≤ w7.heap.size)) (HB0 : Hid (Below b1 w w7)) (HB1 : Hid (b1 ≤ w7.heap.size)) (HEB : Hid (w.heap.size = b1)) (MA : Ex × Nat × Ps) (MB : Ex × Nat × Ps) (MC : Ex × Nat × Ps) (HLO : Hid (MB.2.1 = 0 ∧ MC.2.1 = 0 ∧ (lv' i = 3 → lv' k = 3 → MA.2.1 = 4) ∧ (¬ (lv' i = 3 ∧ lv' k = 3) → lv' k ≤ lv' i → MA.2.1 = 0 ∧ sameX false MA.1 MB.1 = true) ∧ (¬ (lv' i = 3 ∧ lv' k = 3) → ¬ lv' k ≤ lv' i → MA.2.1 = 0 ∧ sameX false MA.1 MC.1 = true))) (ga da : Nat) (Ka : Hid (∃ N0 W0, PK N0 W0 w7 ga da MA)) (gb db : Nat) (Kb : Hid (∃ N0 W0, PK N0 W0 w7 gb db MB)) (gc dc : Nat) (Kc : Hid (∃ N0 W0, PK N0 W0 w7 gc dc MC)) (u15 u16 u17 u18 u19 u20 u21 u22 u23 u24 u25 u26 u27 u28 u29 u30 u31 u32 u33 u34 u35 u36 u37 u38 u39 u40 u41 u42 u43 u44 u45 u46 u47 u48 u49 u50 u51 u52 u53 u54 u55 u56 u57 u58 u59 u60 u61 u62 u63 u64 u65 u66 u67 u68 u69 u70 u71 u72 u73 u74 u75 u76 u77 u78 u80 u81 u82 u83 u84 u85 u86 u87 u88 u89 u90 u91 u92 u93 u94 u95 u96 u97 u99 u100 u101 u102 u103 u104 u105 u106 u107 u108 u109 u110 u111 u112 u113 u114 u115 u116 u117 u118 u119 u120 u121 u122 u123 u124 u125 u126 u127 u128 u129 : Value) : Code.wp Tryd.prog (lrest 7) (bodyPost Tryd.prog Tryd.f4 fun e w' => e = .returned (.bool true) ∧ Below w.heap.size w w') ⟨#[.int .u8 a, .int .u8 b, undef, undef, .bool false, .slice (some ⟨b1, 0, none⟩) 13 13, .slice (some ⟨b1 + 1, 0, none⟩) 13 13, .int .i64 i, .int .i64 k, .pointer (some ⟨ga, 0, none⟩), .pointer (some ⟨da, 0, none⟩), .pointer (some ⟨gb, 0, none⟩), .pointer (some ⟨db, 0, none⟩), .pointer (some ⟨gc, 0, none⟩), .pointer (some ⟨dc, 0, none⟩), u15, u16, u17, u18, u19, u20, u21, u22, u23, u24, u25, u26, u27, u28, u29, u30, u31, u32, u33, u34, u35, u36, u37, u38, u39, u40, u41, u42, u43, u44, u45, u46, u47, u48, u49, u50, u51, u52, u53, u54, u55, u56, u57, u58, u59, u60, u61, u62, u63, u64, u65, u66, u67, u68, u69, u70, u71, u72, u73, u74, u75, u76, u77, u78, undef, u80, u81, u82, u83, u84, u85, u86, u87, u88, u89, u90, u91, u92, u93, u94, u95, u96, u97, undef, u99, u100, u101, u102, u103, u104, u105, u106, u107, u108, u109, u110, u111, u112, u113, u114, u115, u116, u117, u118, u119, u120, u121, u122, u123, u124, u125, u126, u127, u128, u129], []⟩ w7 := by
  show (let Q' := bodyPost Tryd.prog Tryd.f4 (fun e w' => e = .returned (.bool true) ∧ Below w.heap.size w w'); Code.wp Tryd.prog (lrest 7) Q' _ _)
  intro Q'
  dsimp only [lrest, sndC, lbody, Tryd.f4, Option.getD]
  skip
  obtain ⟨_, _, oVa, cVa, oKa, cKa, oa, capa, na, ra, ea, xa, ma, -⟩ := Ka.out
  have Xa := Lib.hid (XP.mono (P' := fun k => k < w7.heap.size) xa fun k hk => Nat.lt_of_lt_of_le hk ma)
  clear xa ma Ka
  obtain ⟨⟨a0, a1, a2, a3, a4⟩, -, hda⟩ := rc5 ea
  clear a1 a2 a3 a4 ea
  have Ra := Lib.hid ra
  clear ra
  obtain ⟨_, _, oVb, cVb, oKb, cKb, ob, capb, nb, rb, eb, xb, mb, -⟩ := Kb.out
  have Xb := Lib.hid (XP.mono (P' := fun k => k < w7.heap.size) xb fun k hk => Nat.lt_of_lt_of_le hk mb)
  clear xb mb Kb
  obtain ⟨⟨b0, b1, b2, b3, b4⟩, -, hdb⟩ := rc5 eb
  clear b1 b2 b3 b4 eb
  have Rb := Lib.hid rb
  clear rb
  obtain ⟨_, _, oVc, cVc, oKc, cKc, oc, capc, nc, rc, ec, xc, mc, -⟩ := Kc.out
  have Xc := Lib.hid (XP.mono (P' := fun k => k < w7.heap.size) xc fun k hk => Nat.lt_of_lt_of_le hk mc)
  clear xc mc Kc
  obtain ⟨⟨c0, c1, c2, c3, c4⟩, -, hdc⟩ := rc5 ec
  clear c1 c2 c3 c4 ec
  have Rc := Lib.hid rc
  clear rc
  obtain ⟨f1, f2, f3, f4, f5⟩ := HLO.out
  have F3 := Lib.hid f3
  have F4 := Lib.hid f4
  have F5 := Lib.hid f5
  rw [f1] at b0
  rw [f2] at c0
  clear f1 f2 f3 f4 f5 HLO
  have AW : Hid (∀ W, Below w7.heap.size w7 W → Calls Tryd.prog 8 #[] W fun e w' => e = .returned (.bool true) ∧ Below W.heap.size W w') := fun W hW => awake_any (HT.out.1.at (hW.block 0 (by have := HT.out.2.2; omega))) (HT.out.2.1.at (hW.block 1 (by have := HT.out.2.2; omega))) (Nat.le_trans HT.out.2.2 hW.size)
  clear HT
  generalize lv' i = li at *
  generalize lv' k = lk at *
  have li0 := HLi.out
  have lk0 := HLk.out
  clear HLi HLk
  have lb2 : b1 + 1 < w7.heap.size := LB.out
  by_cases h3 : li = 3 ∧ lk = 3
  · obtain ⟨rfl, rfl⟩ := h3
    rw [F3.out rfl rfl] at a0
    clear F3 F4 F5
    go_wp2_with fail
    refine (AW.out _ (Below.refl _ _)).mono ?_
    rintro e v3 ⟨rfl, k3⟩
    have HB3 := Lib.hid (HB0.out.trans (k3.mono HB1.out))
    clear k3
    go_wp2_with fail
    go_ret
    exact ⟨rfl, by rw [HEB.out]; exact HB3.out⟩
  · have hb3 : ((li : Int) == 3) = false ∨ ((li : Int) == 3) = true ∧ ((lk : Int) == 3) = false := by
      by_cases h : li = 3
      · refine .inr ⟨by simp [h], ?_⟩
        have : lk ≠ 3 := fun e => h3 ⟨h, e⟩
        simp; omega
      · refine .inl ?_
        simp; omega
    by_cases hg : lk ≤ li
    · have eg : decide ((lk : Int) ≤ (li : Int)) = true := decide_eq_true (by omega)
      have F := Lib.hid (F4.out h3 hg)
      clear h3 F3 F4 F5
      rcases hb3 with e3 | ⟨e3, e4⟩
      · obtain ⟨g1, g2⟩ := F.out
        have G2 := Lib.hid g2
        rw [g1] at a0
        clear g1 g2 F
        obtain ⟨⟨p0, p1, p2, p3, p4, p5, p6, p7, p8, p9, p10, p11, p12, p13, p14⟩, -, hra⟩ := rc15 Ra.out
        obtain ⟨⟨q0, q1, q2, q3, q4, q5, q6, q7, q8, q9, q10, q11, q12, q13, q14⟩, -, hrb⟩ := rc15 Rb.out
        have C1 : Hid (Calls Tryd.prog 10 #[.agg (xc MA.1 oVa cVa oKa cKa oa capa), .agg (xc MB.1 oVb cVb oKb cKb ob capb), .bool false] w7.drew fun e w' => e = .returned (.bool true) ∧ Below w7.heap.size w7.drew w') := by
          have := same10_any _ w7.heap.size MA.1 MB.1 _ _ w7.drew (Nat.le_refl _) (Xa.out.bl (fun k hk => hk) (Below.refl _ w7).drew) (Xb.out.bl (fun k hk => hk) (Below.refl _ w7).drew) (Nat.le_refl _)
          rw [G2.out] at this; exact this
        go_wp2_with fail
        go_region
        go_wp2_with fail
        refine C1.out.mono ?_
        rintro e v2 ⟨rfl, k2⟩
        have HB2 := Lib.hid ((Below.refl w7.heap.size w7).drew.trans k2)
        clear k2
        go_wp2_with fail
        refine (AW.out _ HB2.out).mono ?_
        rintro e v3 ⟨rfl, k3⟩
        have HB3 := Lib.hid (HB0.out.trans ((HB2.out.trans (k3.mono HB2.out.size)).mono HB1.out))
        clear k3
        go_wp2_with fail
        go_ret
        exact ⟨rfl, by rw [HEB.out]; exact HB3.out⟩
      · obtain ⟨g1, g2⟩ := F.out
        have G2 := Lib.hid g2
        rw [g1] at a0
        clear g1 g2 F
        obtain ⟨⟨p0, p1, p2, p3, p4, p5, p6, p7, p8, p9, p10, p11, p12, p13, p14⟩, -, hra⟩ := rc15 Ra.out
        obtain ⟨⟨q0, q1, q2, q3, q4, q5, q6, q7, q8, q9, q10, q11, q12, q13, q14⟩, -, hrb⟩ := rc15 Rb.out
        have C1 : Hid (Calls Tryd.prog 10 #[.agg (xc MA.1 oVa cVa oKa cKa oa capa), .agg (xc MB.1 oVb cVb oKb cKb ob capb), .bool false] w7.drew fun e w' => e = .returned (.bool true) ∧ Below w7.heap.size w7.drew w') := by
          have := same10_any _ w7.heap.size MA.1 MB.1 _ _ w7.drew (Nat.le_refl _) (Xa.out.bl (fun k hk => hk) (Below.refl _ w7).drew) (Xb.out.bl (fun k hk => hk) (Below.refl _ w7).drew) (Nat.le_refl _)
          rw [G2.out] at this; exact this
        go_wp2_with fail
        go_region
        go_wp2_with fail
        refine C1.out.mono ?_
        rintro e v2 ⟨rfl, k2⟩
        have HB2 := Lib.hid ((Below.refl w7.heap.size w7).drew.trans k2)
        clear k2
        go_wp2_with fail
        refine (AW.out _ HB2.out).mono ?_
        rintro e v3 ⟨rfl, k3⟩
        have HB3 := Lib.hid (HB0.out.trans ((HB2.out.trans (k3.mono HB2.out.size)).mono HB1.out))
        clear k3
        go_wp2_with fail
        go_ret
        exact ⟨rfl, by rw [HEB.out]; exact HB3.out⟩
    · have eg : decide ((lk : Int) ≤ (li : Int)) = false := decide_eq_false (by omega)
      have F := Lib.hid (F5.out h3 hg)
      clear h3 F3 F4 F5
      rcases hb3 with e3 | ⟨e3, e4⟩
      · obtain ⟨g1, g2⟩ := F.out
        have G2 := Lib.hid g2
        rw [g1] at a0
        clear g1 g2 F
        obtain ⟨⟨p0, p1, p2, p3, p4, p5, p6, p7, p8, p9, p10, p11, p12, p13, p14⟩, -, hra⟩ := rc15 Ra.out
        obtain ⟨⟨q0, q1, q2, q3, q4, q5, q6, q7, q8, q9, q10, q11, q12, q13, q14⟩, -, hrb⟩ := rc15 Rc.out
        have C1 : Hid (Calls Tryd.prog 10 #[.agg (xc MA.1 oVa cVa oKa cKa oa capa), .agg (xc MC.1 oVc cVc oKc cKc oc capc), .bool false] w7.drew fun e w' => e = .returned (.bool true) ∧ Below w7.heap.size w7.drew w') := by
          have := same10_any _ w7.heap.size MA.1 MC.1 _ _ w7.drew (Nat.le_refl _) (Xa.out.bl (fun k hk => hk) (Below.refl _ w7).drew) (Xc.out.bl (fun k hk => hk) (Below.refl _ w7).drew) (Nat.le_refl _)
          rw [G2.out] at this; exact this
        go_wp2_with fail
        go_region
        go_wp2_with fail
        refine C1.out.mono ?_
        rintro e v2 ⟨rfl, k2⟩
        have HB2 := Lib.hid ((Below.refl w7.heap.size w7).drew.trans k2)
        clear k2
        go_wp2_with fail
        refine (AW.out _ HB2.out).mono ?_
        rintro e v3 ⟨rfl, k3⟩
        have HB3 := Lib.hid (HB0.out.trans ((HB2.out.trans (k3.mono HB2.out.size)).mono HB1.out))
        clear k3
        go_wp2_with fail
        go_ret
        exact ⟨rfl, by rw [HEB.out]; exact HB3.out⟩
      · obtain ⟨g1, g2⟩ := F.out
        have G2 := Lib.hid g2
        rw [g1] at a0
        clear g1 g2 F
        obtain ⟨⟨p0, p1, p2, p3, p4, p5, p6, p7, p8, p9, p10, p11, p12, p13, p14⟩, -, hra⟩ := rc15 Ra.out
        obtain ⟨⟨q0, q1, q2, q3, q4, q5, q6, q7, q8, q9, q10, q11, q12, q13, q14⟩, -, hrb⟩ := rc15 Rc.out
        have C1 : Hid (Calls Tryd.prog 10 #[.agg (xc MA.1 oVa cVa oKa cKa oa capa), .agg (xc MC.1 oVc cVc oKc cKc oc capc), .bool false] w7.drew fun e w' => e = .returned (.bool true) ∧ Below w7.heap.size w7.drew w') := by
          have := same10_any _ w7.heap.size MA.1 MC.1 _ _ w7.drew (Nat.le_refl _) (Xa.out.bl (fun k hk => hk) (Below.refl _ w7).drew) (Xc.out.bl (fun k hk => hk) (Below.refl _ w7).drew) (Nat.le_refl _)
          rw [G2.out] at this; exact this
        go_wp2_with fail
        go_region
        go_wp2_with fail
        refine C1.out.mono ?_
        rintro e v2 ⟨rfl, k2⟩
        have HB2 := Lib.hid ((Below.refl w7.heap.size w7).drew.trans k2)
        clear k2
        go_wp2_with fail
        refine (AW.out _ HB2.out).mono ?_
        rintro e v3 ⟨rfl, k3⟩
        have HB3 := Lib.hid (HB0.out.trans ((HB2.out.trans (k3.mono HB2.out.size)).mono HB1.out))
        clear k3
        go_wp2_with fail
        go_ret
        exact ⟨rfl, by rw [HEB.out]; exact HB3.out⟩
end Go.Proofs.YtncjncacfagldaaDoor

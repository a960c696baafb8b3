import Derived.Test.YtncjncacfagldaaGreatDoorYWQV
import Derived.Test.YtncjncacfagldaaGreatDoorYWCT
import Derived.Test.YtncjncacfagldaaGreatDoorYPI2
namespace Go.Proofs.YtncjncacfagldaaGreatDoor
open Go.ChangeShapes Go.WideShapes Go.ChangeAt Go.RowKit Go.Joins Go.Deep

theorem qo40 : Tryz.prog.cellsOf 40 = 22 := by kernel_rfl
theorem qo38y : Tryz.prog.cellsOf 38 = 15 := by kernel_rfl
theorem qo22 : Tryz.prog.cellsOf 22 = 1 := by kernel_rfl
theorem qo28y : Tryz.prog.cellsOf 28 = 1 := by kernel_rfl
theorem qo36 : Tryz.prog.cellsOf 36 = 3 := by kernel_rfl
theorem qo9y : Tryz.prog.cellsOf 9 = 1 := by kernel_rfl
theorem qo3y : Tryz.prog.cellsOf 3 = 1 := by kernel_rfl
theorem qo4y : Tryz.prog.cellsOf 4 = 1 := by kernel_rfl
instance : Inhabited It := ⟨.mk true [] [] zeroX [] ps0⟩
theorem row_lb {P : Nat → Prop} {w : World} {o : Option Addr} {cap : Nat} {ks : List ByteArray} (h : RowP P w o cap ks.length 1 (fun j _ => .string (ks.getD j default))) : RowP P w o cap (ks.map lb).length 1 (fun j _ => .string (tx ((ks.map lb).getD j []))) := by
 have e : ∀ j, ks.getD j default = tx ((ks.map lb).getD j []) := fun j => by
  rw [List.getD_eq_getElem?_getD, List.getD_eq_getElem?_getD, List.getElem?_map]
  cases ks[j]? with
  | none => rfl
  | some s => rfl
 rw [List.length_map]
 simpa only [e] using h
section
variable {H : Type} {enc : TypeId × Value → H} {w : World} {base : Nat} {spare : Nat → Bool} {held : Bool}
set_option maxRecDepth 100000 in
set_option maxHeartbeats 1000000 in
theorem row_trod {fuel : Nat} (ih : ∀ m, m < fuel → ∀ (cs : List Value) (x : DataW H × List MemPlace), DataW.trod enc Tryz.prog w base spare held m 40 cs = some x →
 ∃ (X : It) (c0 c1 c2 c3 c4 c5 c6 c7 c8 c9 c10 c11 c12 c13 c14 c15 c16 c17 c18 c19 c20 c21 : Value), cs = [c0, c1, c2, c3, c4, c5, c6, c7, c8, c9, c10, c11, c12, c13, c14, c15, c16, c17, c18, c19, c20, c21] ∧ IP (fun k => k < w.heap.size) w X (.agg #[c0, c1, c2, c3, c4, c5, c6, c7, c8, c9, c10, c11, c12, c13, c14, c15, c16, c17, c18, c19, c20, c21])) {v : Value} {x : DataW H × List MemPlace} (h : DataW.trod enc Tryz.prog w base spare held fuel 22 [v] = some x) :
 ∃ (o : Option Addr) (cap : Nat) (l : List It) (c : Nat → Nat → Value), v = .slice o l.length cap ∧ RowP (fun b => b < w.heap.size) w o cap l.length 22 c ∧ ∀ j x, l[j]? = some x → IP (fun k => k < w.heap.size) w x (.agg #[c j 0, c j 1, c j 2, c j 3, c j 4, c j 5, c j 6, c j 7, c j 8, c j 9, c j 10, c j 11, c j 12, c j 13, c j 14, c j 15, c j 16, c j 17, c j 18, c j 19, c j 20, c j 21]) := by
 rcases DataW.trod_slice Tryz.underlying22 h with ⟨hcs, _⟩ | ⟨a, len, cap, elems, rest, n', hn', hcs, _, _, hl, hm, hle, hel, _, _⟩
 · injection hcs with e _
   subst e
   exact ⟨none, 0, [], fun _ _ => undef, rfl, ⟨Nat.le_refl _, Nat.zero_le _, fun _ => rfl, fun h => absurd h (Nat.lt_irrefl _)⟩, fun j x h => by simp at h⟩
 · injection hcs with e _
   subst e
   have each : ∀ i, i < len → ∃ X : It, (∀ m, m < 22 → ∃ v, w.cell? ((a.add (i * 22)).add m) = some v) ∧ IP (fun k => k < w.heap.size) w X (.agg #[(w.cell? ((a.add (i * 22)).add 0)).getD undef, (w.cell? ((a.add (i * 22)).add 1)).getD undef, (w.cell? ((a.add (i * 22)).add 2)).getD undef, (w.cell? ((a.add (i * 22)).add 3)).getD undef, (w.cell? ((a.add (i * 22)).add 4)).getD undef, (w.cell? ((a.add (i * 22)).add 5)).getD undef, (w.cell? ((a.add (i * 22)).add 6)).getD undef, (w.cell? ((a.add (i * 22)).add 7)).getD undef, (w.cell? ((a.add (i * 22)).add 8)).getD undef, (w.cell? ((a.add (i * 22)).add 9)).getD undef, (w.cell? ((a.add (i * 22)).add 10)).getD undef, (w.cell? ((a.add (i * 22)).add 11)).getD undef, (w.cell? ((a.add (i * 22)).add 12)).getD undef, (w.cell? ((a.add (i * 22)).add 13)).getD undef, (w.cell? ((a.add (i * 22)).add 14)).getD undef, (w.cell? ((a.add (i * 22)).add 15)).getD undef, (w.cell? ((a.add (i * 22)).add 16)).getD undef, (w.cell? ((a.add (i * 22)).add 17)).getD undef, (w.cell? ((a.add (i * 22)).add 18)).getD undef, (w.cell? ((a.add (i * 22)).add 19)).getD undef, (w.cell? ((a.add (i * 22)).add 20)).getD undef, (w.cell? ((a.add (i * 22)).add 21)).getD undef]) := fun i hi => by
    have u1 := hel i hi
    rw [qo40, List.getElem?_eq_getElem (by omega)] at u1
    obtain ⟨cs', u2, u3⟩ := Option.bind_eq_some_iff.1 u1
    obtain ⟨_, u4, u5⟩ := World.cells?_some u2
    obtain ⟨X, d0, d1, d2, d3, d4, d5, d6, d7, d8, d9, d10, d11, d12, d13, d14, d15, d16, d17, d18, d19, d20, d21, u6, u7⟩ := ih n' (by omega) cs' _ u3
    subst u6
    have w0 := u5 0 (by omega)
    have w1 := u5 1 (by omega)
    have w2 := u5 2 (by omega)
    have w3 := u5 3 (by omega)
    have w4 := u5 4 (by omega)
    have w5 := u5 5 (by omega)
    have w6 := u5 6 (by omega)
    have w7 := u5 7 (by omega)
    have w8 := u5 8 (by omega)
    have w9 := u5 9 (by omega)
    have w10 := u5 10 (by omega)
    have w11 := u5 11 (by omega)
    have w12 := u5 12 (by omega)
    have w13 := u5 13 (by omega)
    have w14 := u5 14 (by omega)
    have w15 := u5 15 (by omega)
    have w16 := u5 16 (by omega)
    have w17 := u5 17 (by omega)
    have w18 := u5 18 (by omega)
    have w19 := u5 19 (by omega)
    have w20 := u5 20 (by omega)
    have w21 := u5 21 (by omega)
    refine ⟨X, fun m hm => ⟨_, (u5 m hm).trans (List.getElem?_eq_getElem (by simpa using hm))⟩, ?_⟩
    rw [w0, w1, w2, w3, w4, w5, w6, w7, w8, w9, w10, w11, w12, w13, w14, w15, w16, w17, w18, w19, w20, w21]
    exact u7
   obtain ⟨f, hf2⟩ := qchoose_lt each
   have hlr : ((List.range len).map f).length = len := by simp
   refine ⟨some a, cap, (List.range len).map f, fun j m => (w.cell? ((a.add (j * 22)).add m)).getD undef, by rw [hlr], ⟨by rw [hlr]; exact hl, hm, (fun h => by cases h), fun h0 => ?_⟩, fun j x hx => ?_⟩
   · rw [hlr] at h0
     have hsp : a.spot = none := by
      obtain ⟨v, c0⟩ := (hf2 0 h0).1 0 (by omega)
      have : (a.add (0 * 22)).add 0 = a := by unfold Addr.add; simp
      rw [this] at c0
      exact World.cell?_spot c0
     obtain ⟨b, o, spot⟩ := a
     simp only at hsp
     subst hsp
     have ea1 : ∀ (o i : Nat), (⟨b, o, none⟩ : Addr).add i = ⟨b, o + i, none⟩ := fun o i => by unfold Addr.add; split <;> simp_all
     have ea : ∀ i m, ((⟨b, o, none⟩ : Addr).add (i * 22)).add m = ⟨b, o + i * 22 + m, none⟩ := fun i m => by rw [ea1, ea1]
     refine ⟨b, o, rfl, ?_, fun j hj m hm => ?_⟩
     · obtain ⟨v, c0⟩ := (hf2 0 h0).1 0 (by omega)
       rw [ea] at c0; exact World.block_lt_of_cell? _ _ c0
     · rw [hlr] at hj
       obtain ⟨v, c0⟩ := (hf2 j hj).1 m hm
       show w.cell? _ = some ((w.cell? _).getD undef)
       rw [c0, ← ea, c0]; rfl
   · rw [List.getElem?_map] at hx
     obtain ⟨j', hj', rfl⟩ := Option.map_eq_some_iff.1 hx
     have hjl : j < len := by have := (List.getElem?_eq_some_iff.1 hj').1; simpa using this
     rw [List.getElem?_range hjl] at hj'
     injection hj' with hj'
     subst hj'
     exact (hf2 j hjl).2
set_option maxRecDepth 100000 in
set_option maxHeartbeats 1000000 in
theorem it_trod : ∀ (fuel : Nat) (cs : List Value) (x : DataW H × List MemPlace), DataW.trod enc Tryz.prog w base spare held fuel 40 cs = some x →
 ∃ (X : It) (c0 c1 c2 c3 c4 c5 c6 c7 c8 c9 c10 c11 c12 c13 c14 c15 c16 c17 c18 c19 c20 c21 : Value), cs = [c0, c1, c2, c3, c4, c5, c6, c7, c8, c9, c10, c11, c12, c13, c14, c15, c16, c17, c18, c19, c20, c21] ∧ IP (fun k => k < w.heap.size) w X (.agg #[c0, c1, c2, c3, c4, c5, c6, c7, c8, c9, c10, c11, c12, c13, c14, c15, c16, c17, c18, c19, c20, c21]) := by
 intro fuel
 induction fuel using Nat.strongRecOn with
 | ind fuel ih =>
   intro cs x h
   obtain ⟨xs, n, hfu, _, hlen, hxl, hf⟩ := DataW.trod_struct Tryz.underlying40 h
   rw [qo40] at hlen
   match cs, hlen with
   | [c0, c1, c2, c3, c4, c5, c6, c7, c8, c9, c10, c11, c12, c13, c14, c15, c16, c17, c18, c19, c20, c21], _ =>
     have g : ∀ i (hi : i < 6), ∃ y, xs[i]? = some y := fun i hi => ⟨xs[i]'(by rw [hxl]; exact hi), List.getElem?_eq_getElem _⟩
     obtain ⟨y0, e0⟩ := g 0 (by omega)
     obtain ⟨y1, e1⟩ := g 1 (by omega)
     obtain ⟨y2, e2⟩ := g 2 (by omega)
     obtain ⟨y3, e3⟩ := g 3 (by omega)
     obtain ⟨y4, e4⟩ := g 4 (by omega)
     obtain ⟨y5, e5⟩ := g 5 (by omega)
     have h0 : DataW.trod enc Tryz.prog w base spare held n 4 (([c0, c1, c2, c3, c4, c5, c6, c7, c8, c9, c10, c11, c12, c13, c14, c15, c16, c17, c18, c19, c20, c21].drop 0).take (Tryz.prog.cellsOf 4)) = some y0 := (hf 0 _ rfl).trans e0
     have h1 : DataW.trod enc Tryz.prog w base spare held n 9 (([c0, c1, c2, c3, c4, c5, c6, c7, c8, c9, c10, c11, c12, c13, c14, c15, c16, c17, c18, c19, c20, c21].drop 1).take (Tryz.prog.cellsOf 9)) = some y1 := (hf 1 _ rfl).trans e1
     have h2 : DataW.trod enc Tryz.prog w base spare held n 28 (([c0, c1, c2, c3, c4, c5, c6, c7, c8, c9, c10, c11, c12, c13, c14, c15, c16, c17, c18, c19, c20, c21].drop 2).take (Tryz.prog.cellsOf 28)) = some y2 := (hf 2 _ rfl).trans e2
     have h3 : DataW.trod enc Tryz.prog w base spare held n 38 (([c0, c1, c2, c3, c4, c5, c6, c7, c8, c9, c10, c11, c12, c13, c14, c15, c16, c17, c18, c19, c20, c21].drop 3).take (Tryz.prog.cellsOf 38)) = some y3 := (hf 3 _ rfl).trans e3
     have h4 : DataW.trod enc Tryz.prog w base spare held n 22 (([c0, c1, c2, c3, c4, c5, c6, c7, c8, c9, c10, c11, c12, c13, c14, c15, c16, c17, c18, c19, c20, c21].drop 18).take (Tryz.prog.cellsOf 22)) = some y4 := (hf 4 _ rfl).trans e4
     have h5 : DataW.trod enc Tryz.prog w base spare held n 36 (([c0, c1, c2, c3, c4, c5, c6, c7, c8, c9, c10, c11, c12, c13, c14, c15, c16, c17, c18, c19, c20, c21].drop 19).take (Tryz.prog.cellsOf 36)) = some y5 := (hf 5 _ rfl).trans e5
     simp only [qo4y, qo9y, qo28y, qo38y, qo22, qo36, List.drop_zero, List.drop_succ_cons, List.take_succ_cons, List.take_zero] at h0 h1 h2 h3 h4 h5
     obtain ⟨xb, q0, _⟩ := DataW.trod_bool Tryz.underlying4 h0
     obtain ⟨s, q1, _, ws⟩ := DataW.trod_string Tryz.underlying9 h1
     obtain ⟨oL, cL, ks, q2, wks, hK⟩ := qkeys_trod h2
     obtain ⟨X, d0, d1, d2, d3, d4, d5, d6, d7, d8, d9, d10, d11, d12, d13, d14, q3, hX⟩ := xp_trod _ _ _ h3
     obtain ⟨zs, m, _, _, _, hzl, hg⟩ := DataW.trod_struct Tryz.underlying36 h5
     have gz : ∀ i (hi : i < 3), ∃ y, zs[i]? = some y := fun i hi => ⟨zs[i]'(by rw [hzl]; exact hi), List.getElem?_eq_getElem _⟩
     obtain ⟨z0, f0⟩ := gz 0 (by omega)
     obtain ⟨z1, f1⟩ := gz 1 (by omega)
     obtain ⟨z2, f2⟩ := gz 2 (by omega)
     have t0 : DataW.trod enc Tryz.prog w base spare held m 3 (([c19, c20, c21].drop 0).take (Tryz.prog.cellsOf 3)) = some z0 := (hg 0 _ rfl).trans f0
     have t1 : DataW.trod enc Tryz.prog w base spare held m 3 (([c19, c20, c21].drop 1).take (Tryz.prog.cellsOf 3)) = some z1 := (hg 1 _ rfl).trans f1
     have t2 : DataW.trod enc Tryz.prog w base spare held m 3 (([c19, c20, c21].drop 2).take (Tryz.prog.cellsOf 3)) = some z2 := (hg 2 _ rfl).trans f2
     simp only [qo3y, List.drop_zero, List.drop_succ_cons, List.take_succ_cons, List.take_zero] at t0 t1 t2
     obtain ⟨pa, r0, _, wa⟩ := DataW.trod_int Tryz.underlying3 t0
     obtain ⟨pl, r1, _, wl⟩ := DataW.trod_int Tryz.underlying3 t1
     obtain ⟨pc, r2, _, wc⟩ := DataW.trod_int Tryz.underlying3 t2
     injection q0 with q0 _
     injection q1 with q1 _
     injection r0 with r0 _
     injection r1 with r1 _
     injection r2 with r2 _
     simp only [List.cons.injEq, and_true] at q3
     obtain ⟨rfl, rfl, rfl, rfl, rfl, rfl, rfl, rfl, rfl, rfl, rfl, rfl, rfl, rfl, rfl⟩ := q3
     obtain ⟨oV, cV, oK, cK, oE, cE, q5⟩ := xp_form hX
     have q6 := congrArg Array.toList q5
     simp only [List.cons.injEq, and_true] at q6
     obtain ⟨rfl, rfl, rfl, rfl, rfl, rfl, rfl, rfl, rfl, rfl, rfl, rfl, rfl, rfl, rfl⟩ := q6
     subst q0 q1 q2 r0 r1 r2
     obtain ⟨o, cap, l, c, q4, rL, rE⟩ := row_trod (fun m hm => ih m (by omega)) h4
     subst q4
     have HR := row_lb hK
     refine ⟨.mk xb (lb s) (ks.map lb) X l ⟨pa, pl, pc⟩, _, _, _, _, _, _, _, _, _, _, _, _, _, _, _, _, _, _, _, _, _, _, rfl, ?_⟩
     have hl : ks.length = (ks.map lb).length := (List.length_map _).symm
     rw [hl]
     exact .mk (.mk xb (lb s) (ks.map lb) X l ⟨pa, pl, pc⟩) oL oV oK oE o cL cV cK cE cap c HR hX rL rE
set_option maxRecDepth 100000 in
theorem open_items {r : Reach} {b0 : Nat} {v : Value} {d : DataW H} {p : List MemPlace} (hv : Value.okWide Tryz.prog w r b0 22 v) (h : DataW.Trod enc Tryz.prog w base spare held 22 v d p) : ∃ l, PayI l (fun k => k < w.heap.size) w v := by
 obtain ⟨sp, len, cap, rfl⟩ := okWide_slice Tryz.underlying22 hv
 obtain ⟨fuel, hf⟩ := h
 obtain ⟨o, cap', l, c, q, rL, rE⟩ := row_trod (fun m _ => it_trod m) hf
 exact ⟨l, o, cap', c, q, rL, rE⟩
end
end Go.Proofs.YtncjncacfagldaaGreatDoor

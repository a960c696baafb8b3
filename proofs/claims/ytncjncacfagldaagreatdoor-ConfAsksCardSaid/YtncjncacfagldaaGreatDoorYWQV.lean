import Derived.Test.YtncjncacfagldaaGreatDoorYWZe
import Derived.Test.YtncjncacfagldaaGreatDoorYWPXA
import Derived.Test.YtncjncacfagldaaGreatDoorYWPV
import Derived.ProofKit
import Derived.OpenShut
import Derived.Lib.SmallJoins
import Derived.Carry
import Derived.Deep.Slices
import Derived.Test.YtncjncacfagldaaGreatDoorRows
import Derived.WalkKit
import Derived.LaidMore
import Derived.Lib.LaidTab
import Derived.Stop.Joined
import Derived.Stop.LaidErr
import Derived.ShutString
import Derived.Below
import Derived.SizedLaws
namespace Go.Proofs.YtncjncacfagldaaGreatDoor
open Go.ChangeShapes Go.WideShapes Go.ChangeAt Go.RowKit Go.Joins Go.Deep

theorem qo28 : Tryz.prog.cellsOf 33 = 8 := by kernel_rfl
theorem qo23 : Tryz.prog.cellsOf 29 = 1 := by kernel_rfl
theorem qo24 : Tryz.prog.cellsOf 28 = 1 := by kernel_rfl
theorem qo26 : Tryz.prog.cellsOf 31 = 2 := by kernel_rfl
theorem qo9 : Tryz.prog.cellsOf 9 = 1 := by kernel_rfl
theorem qo3 : Tryz.prog.cellsOf 3 = 1 := by kernel_rfl
theorem qo2 : Tryz.prog.cellsOf 2 = 1 := by kernel_rfl
theorem qo4 : Tryz.prog.cellsOf 4 = 1 := by kernel_rfl
theorem qchoose_lt {α : Type} [Inhabited α] {n : Nat} {p : Nat → α → Prop} (h : ∀ i, i < n → ∃ x, p i x) : ∃ f : Nat → α, ∀ i, i < n → p i (f i) := by
 have : ∀ i, ∃ x, i < n → p i x := fun i => by
  by_cases hi : i < n
  · obtain ⟨x, hx⟩ := h i hi; exact ⟨x, fun _ => hx⟩
  · exact ⟨default, fun h => absurd h hi⟩
 obtain ⟨f, hf⟩ := Classical.axiomOfChoice this
 exact ⟨f, hf⟩
instance : Inhabited Val := ⟨.mk 0 0 ⟨#[]⟩ [] [] 0 0 false⟩
theorem qo33 : Tryz.prog.cellsOf 38 = 15 := by kernel_rfl
theorem qo29x : Tryz.prog.cellsOf 34 = 1 := by kernel_rfl
theorem qo31 : Tryz.prog.cellsOf 36 = 3 := by kernel_rfl
theorem lies_cells {w : World} {n : Nat} {V : Val} {c0 c1 c2 c3 c4 c5 c6 c7 : Value} (h : Lies n w V (.agg #[c0, c1, c2, c3, c4, c5, c6, c7])) : ∃ oL cL oK cK, c0 = .int .i64 V.k ∧ c1 = .int .i64 V.i ∧ c2 = .string V.s ∧ c3 = .slice oL V.l.length cL ∧ c4 = .slice oK V.ks.length cK ∧ c5 = .int .i64 V.tk ∧ c6 = .int .i64 V.to ∧ c7 = .bool V.x := by
 obtain ⟨oL, oK, cL, cK, c, e, -⟩ := LiesP.inv h
 simp only [Value.agg.injEq] at e
 have e2 := congrArg Array.toList e
 simp only [List.cons.injEq, and_true] at e2
 exact ⟨oL, cL, oK, cK, e2⟩
instance : Inhabited Ex := ⟨zeroX⟩
section
variable {H : Type} {enc : TypeId × Value → H} {w : World} {base : Nat} {spare : Nat → Bool} {held : Bool}
theorem qkeys_trod {fuel : Nat} {v : Value} {x : DataW H × List MemPlace} (h : DataW.trod enc Tryz.prog w base spare held fuel 28 [v] = some x) :
 ∃ (o : Option Addr) (cap : Nat) (ks : List ByteArray), v = .slice o ks.length cap ∧ (∀ s, s ∈ ks → s.size ≤ maxLen) ∧ Row w.heap.size w o cap ks.length 1 (fun j _ => .string (ks.getD j default)) := by
 rcases DataW.trod_slice Tryz.underlying28 h with ⟨hcs, _⟩ | ⟨a, len, cap, elems, rest, n, _, hcs, _, _, hl, hm, hlen, hel, _, _⟩
 · injection hcs with e _
   subst e
   exact ⟨none, 0, [], rfl, (fun s h => by cases h), Nat.le_refl _, Nat.zero_le _, fun _ => rfl, fun h => absurd h (Nat.lt_irrefl _)⟩
 · injection hcs with e _
   subst e
   have each : ∀ i, i < len → ∃ s : ByteArray, w.cell? (a.add i) = some (.string s) ∧ s.size ≤ maxLen := fun i hi => by
    have h1 := hel i hi
    rw [qo9, Nat.mul_one, List.getElem?_eq_getElem (by omega)] at h1
    obtain ⟨cs', h2, h3⟩ := Option.bind_eq_some_iff.1 h1
    obtain ⟨_, h4, h5⟩ := World.cells?_some h2
    obtain ⟨s, h6, _, h7⟩ := DataW.trod_string Tryz.underlying9 h3
    have := h5 0 (by omega)
    rw [h6] at this
    have ea : (a.add i).add 0 = a.add i := by unfold Addr.add; simp
    rw [ea] at this
    exact ⟨s, this, h7⟩
   obtain ⟨f, hf⟩ := qchoose_lt each
   have hlr : ((List.range len).map f).length = len := by simp
   have hget : ∀ j, j < len → ((List.range len).map f).getD j default = f j := fun j hj => by
    rw [List.getD_eq_getElem?_getD, List.getElem?_map, List.getElem?_range hj]; rfl
   refine ⟨some a, cap, (List.range len).map f, by rw [hlr], fun s hs => ?_, by rw [hlr]; exact hl, hm, (fun h => by cases h), fun h0 => ?_⟩
   · obtain ⟨j, hj, rfl⟩ := List.mem_map.1 hs
     exact (hf j (List.mem_range.1 hj)).2
   · rw [hlr] at h0
     have hsp : a.spot = none := by
      have c0 := (hf 0 h0).1
      have : a.add 0 = a := by unfold Addr.add; simp
      rw [this] at c0
      exact World.cell?_spot c0
     obtain ⟨b, o, spot⟩ := a
     simp only at hsp
     subst hsp
     have ea : ∀ i, (⟨b, o, none⟩ : Addr).add i = ⟨b, o + i, none⟩ := fun i => by unfold Addr.add; split <;> simp_all
     refine ⟨b, o, rfl, ?_, fun j hj m hm => ?_⟩
     · have := (hf 0 h0).1; rw [ea] at this; exact World.block_lt_of_cell? _ _ this
     · rw [hlr] at hj
       obtain rfl : m = 0 := by omega
       have := (hf j hj).1
       rw [ea] at this
       rw [Nat.mul_one, Nat.add_zero, this]
       show _ = some (Value.string (((List.range len).map f).getD j default))
       rw [hget j hj]
set_option maxRecDepth 100000 in
theorem lies_trod : ∀ (fuel : Nat) (cs : List Value) (x : DataW H × List MemPlace), DataW.trod enc Tryz.prog w base spare held fuel 33 cs = some x →
 ∃ (V : Val) (c0 c1 c2 c3 c4 c5 c6 c7 : Value), cs = [c0, c1, c2, c3, c4, c5, c6, c7] ∧ Lies w.heap.size w V (.agg #[c0, c1, c2, c3, c4, c5, c6, c7]) := by
 intro fuel
 induction fuel using Nat.strongRecOn with
 | ind fuel ih =>
   intro cs x h
   obtain ⟨xs, n, hfu, _, hlen, hxl, hf⟩ := DataW.trod_struct Tryz.underlying33 h
   rw [qo28] at hlen
   match cs, hlen with
   | [c0, c1, c2, c3, c4, c5, c6, c7], _ =>
     have g : ∀ i (hi : i < 7), ∃ y, xs[i]? = some y := fun i hi => ⟨xs[i]'(by rw [hxl]; exact hi), List.getElem?_eq_getElem _⟩
     obtain ⟨y0, e0⟩ := g 0 (by omega)
     obtain ⟨y1, e1⟩ := g 1 (by omega)
     obtain ⟨y2, e2⟩ := g 2 (by omega)
     obtain ⟨y3, e3⟩ := g 3 (by omega)
     obtain ⟨y4, e4⟩ := g 4 (by omega)
     obtain ⟨y5, e5⟩ := g 5 (by omega)
     obtain ⟨y6, e6⟩ := g 6 (by omega)
     have h0 : DataW.trod enc Tryz.prog w base spare held n 3 (([c0, c1, c2, c3, c4, c5, c6, c7].drop 0).take (Tryz.prog.cellsOf 3)) = some y0 := (hf 0 _ rfl).trans e0
     have h1 : DataW.trod enc Tryz.prog w base spare held n 2 (([c0, c1, c2, c3, c4, c5, c6, c7].drop 1).take (Tryz.prog.cellsOf 2)) = some y1 := (hf 1 _ rfl).trans e1
     have h2 : DataW.trod enc Tryz.prog w base spare held n 9 (([c0, c1, c2, c3, c4, c5, c6, c7].drop 2).take (Tryz.prog.cellsOf 9)) = some y2 := (hf 2 _ rfl).trans e2
     have h3 : DataW.trod enc Tryz.prog w base spare held n 29 (([c0, c1, c2, c3, c4, c5, c6, c7].drop 3).take (Tryz.prog.cellsOf 29)) = some y3 := (hf 3 _ rfl).trans e3
     have h4 : DataW.trod enc Tryz.prog w base spare held n 28 (([c0, c1, c2, c3, c4, c5, c6, c7].drop 4).take (Tryz.prog.cellsOf 28)) = some y4 := (hf 4 _ rfl).trans e4
     have h5 : DataW.trod enc Tryz.prog w base spare held n 31 (([c0, c1, c2, c3, c4, c5, c6, c7].drop 5).take (Tryz.prog.cellsOf 31)) = some y5 := (hf 5 _ rfl).trans e5
     have h6 : DataW.trod enc Tryz.prog w base spare held n 4 (([c0, c1, c2, c3, c4, c5, c6, c7].drop 7).take (Tryz.prog.cellsOf 4)) = some y6 := (hf 6 _ rfl).trans e6
     simp only [qo3, qo2, qo9, qo23, qo24, qo26, qo4, List.drop_zero, List.drop_succ_cons, List.take_succ_cons, List.take_zero] at h0 h1 h2 h3 h4 h5 h6
     obtain ⟨k, q0, _, wk⟩ := DataW.trod_int Tryz.underlying3 h0
     obtain ⟨i, q1, _, wi⟩ := DataW.trod_int Tryz.underlying2 h1
     obtain ⟨s, q2, _, ws⟩ := DataW.trod_string Tryz.underlying9 h2
     obtain ⟨oK, cK, ks, q4, wks, hK⟩ := qkeys_trod h4
     obtain ⟨xb, q6, _⟩ := DataW.trod_bool Tryz.underlying4 h6
     obtain ⟨zs, m, _, _, _, hzl, hg⟩ := DataW.trod_struct Tryz.underlying31 h5
     have gz : ∀ i (hi : i < 2), ∃ y, zs[i]? = some y := fun i hi => ⟨zs[i]'(by rw [hzl]; exact hi), List.getElem?_eq_getElem _⟩
     obtain ⟨z0, f0⟩ := gz 0 (by omega)
     obtain ⟨z1, f1⟩ := gz 1 (by omega)
     have t0 : DataW.trod enc Tryz.prog w base spare held m 3 (([c5, c6].drop 0).take (Tryz.prog.cellsOf 3)) = some z0 := (hg 0 _ rfl).trans f0
     have t1 : DataW.trod enc Tryz.prog w base spare held m 3 (([c5, c6].drop 1).take (Tryz.prog.cellsOf 3)) = some z1 := (hg 1 _ rfl).trans f1
     simp only [qo3, List.drop_zero, List.drop_succ_cons, List.take_succ_cons, List.take_zero] at t0 t1
     obtain ⟨tk, r0, _, wtk⟩ := DataW.trod_int Tryz.underlying3 t0
     obtain ⟨t2, r1, _, wto⟩ := DataW.trod_int Tryz.underlying3 t1
     injection q0 with q0 _
     injection q1 with q1 _
     injection q2 with q2 _
     injection r0 with r0 _
     injection r1 with r1 _
     injection q6 with q6 _
     subst q0 q1 q2 q4 q6 r0 r1
     have hL : ∃ (o : Option Addr) (cap : Nat) (l : List Val) (c : Nat → Nat → Value), c3 = .slice o l.length cap ∧ Row w.heap.size w o cap l.length 8 c ∧ ∀ j x, l[j]? = some x → Lies w.heap.size w x (.agg #[c j 0, c j 1, c j 2, c j 3, c j 4, c j 5, c j 6, c j 7]) := by
      rcases DataW.trod_slice Tryz.underlying29 h3 with ⟨hcs, _⟩ | ⟨a, len, cap, elems, rest, n', hn', hcs, _, _, hl, hm, hle, hel, _, _⟩
      · injection hcs with e _
        subst e
        exact ⟨none, 0, [], fun _ _ => undef, rfl, ⟨Nat.le_refl _, Nat.zero_le _, fun _ => rfl, fun h => absurd h (Nat.lt_irrefl _)⟩, fun j x h => by simp at h⟩
      · injection hcs with e _
        subst e
        have each : ∀ i, i < len → ∃ V : Val, (∀ m, m < 8 → ∃ v, w.cell? ((a.add (i * 8)).add m) = some v) ∧ Lies w.heap.size w V (.agg #[(w.cell? ((a.add (i * 8)).add 0)).getD undef, (w.cell? ((a.add (i * 8)).add 1)).getD undef, (w.cell? ((a.add (i * 8)).add 2)).getD undef, (w.cell? ((a.add (i * 8)).add 3)).getD undef, (w.cell? ((a.add (i * 8)).add 4)).getD undef, (w.cell? ((a.add (i * 8)).add 5)).getD undef, (w.cell? ((a.add (i * 8)).add 6)).getD undef, (w.cell? ((a.add (i * 8)).add 7)).getD undef]) := fun i hi => by
         have u1 := hel i hi
         rw [qo28, List.getElem?_eq_getElem (by omega)] at u1
         obtain ⟨cs', u2, u3⟩ := Option.bind_eq_some_iff.1 u1
         obtain ⟨_, u4, u5⟩ := World.cells?_some u2
         obtain ⟨V, d0, d1, d2, d3, d4, d5, d6, d7, u6, u7⟩ := ih n' (by omega) cs' _ u3
         subst u6
         have w0 := u5 0 (by omega)
         have w1 := u5 1 (by omega)
         have w2 := u5 2 (by omega)
         have w3 := u5 3 (by omega)
         have w4 := u5 4 (by omega)
         have w5 := u5 5 (by omega)
         have w6 := u5 6 (by omega)
         have w7 := u5 7 (by omega)
         refine ⟨V, fun m hm => ⟨_, (u5 m hm).trans (List.getElem?_eq_getElem (by simpa using hm))⟩, ?_⟩
         rw [w0, w1, w2, w3, w4, w5, w6, w7]
         exact u7
        obtain ⟨f, hf2⟩ := qchoose_lt each
        have hlr : ((List.range len).map f).length = len := by simp
        refine ⟨some a, cap, (List.range len).map f, fun j m => (w.cell? ((a.add (j * 8)).add m)).getD undef, by rw [hlr], ⟨by rw [hlr]; exact hl, hm, (fun h => by cases h), fun h0 => ?_⟩, fun j x hx => ?_⟩
        · rw [hlr] at h0
          have hsp : a.spot = none := by
           obtain ⟨v, c0⟩ := (hf2 0 h0).1 0 (by omega)
           have : (a.add (0 * 8)).add 0 = a := by unfold Addr.add; simp
           rw [this] at c0
           exact World.cell?_spot c0
          obtain ⟨b, o, spot⟩ := a
          simp only at hsp
          subst hsp
          have ea1 : ∀ (o i : Nat), (⟨b, o, none⟩ : Addr).add i = ⟨b, o + i, none⟩ := fun o i => by unfold Addr.add; split <;> simp_all
          have ea : ∀ i m, ((⟨b, o, none⟩ : Addr).add (i * 8)).add m = ⟨b, o + i * 8 + m, none⟩ := fun i m => by rw [ea1, ea1]
          refine ⟨b, o, rfl, ?_, fun j hj m hm => ?_⟩
          · obtain ⟨v, c0⟩ := (hf2 0 h0).1 0 (by omega)
            rw [ea] at c0; exact World.block_lt_of_cell? _ _ c0
          · rw [hlr] at hj
            obtain ⟨v, c0⟩ := (hf2 j hj).1 m hm
            show w.cell? _ = some ((w.cell? _).getD undef)
            rw [c0, ← ea, c0]; rfl
        · rw [List.getElem?_map] at hx
          obtain ⟨j', hj', rfl⟩ := Option.map_eq_some_iff.1 hx
          have hjl : j < len := by have := (List.getElem?_eq_some_iff.1 hj').1; simpa using this
          rw [List.getElem?_range hjl] at hj'
          injection hj' with hj'
          subst hj'
          exact (hf2 j hjl).2
     obtain ⟨oL, cL, l, c, q3, rL, rE⟩ := hL
     subst q3
     exact ⟨.mk k i s l ks tk t2 xb, _, _, _, _, _, _, _, _, rfl, .mk (.mk k i s l ks tk t2 xb) oL oK cL cK c wk wi wtk wto ws wks rL hK rE⟩
set_option maxRecDepth 100000 in
set_option maxHeartbeats 1000000 in
theorem xp_trod : ∀ (fuel : Nat) (cs : List Value) (x : DataW H × List MemPlace), DataW.trod enc Tryz.prog w base spare held fuel 38 cs = some x →
 ∃ (X : Ex) (c0 c1 c2 c3 c4 c5 c6 c7 c8 c9 c10 c11 c12 c13 c14 : Value), cs = [c0, c1, c2, c3, c4, c5, c6, c7, c8, c9, c10, c11, c12, c13, c14] ∧ XL w.heap.size w X (.agg #[c0, c1, c2, c3, c4, c5, c6, c7, c8, c9, c10, c11, c12, c13, c14]) := by
 intro fuel
 induction fuel using Nat.strongRecOn with
 | ind fuel ih =>
   intro cs x h
   obtain ⟨xs, n, hfu, _, hlen, hxl, hf⟩ := DataW.trod_struct Tryz.underlying38 h
   rw [qo33] at hlen
   match cs, hlen with
   | [c0, c1, c2, c3, c4, c5, c6, c7, c8, c9, c10, c11, c12, c13, c14], _ =>
     have g : ∀ i (hi : i < 6), ∃ y, xs[i]? = some y := fun i hi => ⟨xs[i]'(by rw [hxl]; exact hi), List.getElem?_eq_getElem _⟩
     obtain ⟨y0, e0⟩ := g 0 (by omega)
     obtain ⟨y1, e1⟩ := g 1 (by omega)
     obtain ⟨y2, e2⟩ := g 2 (by omega)
     obtain ⟨y3, e3⟩ := g 3 (by omega)
     obtain ⟨y4, e4⟩ := g 4 (by omega)
     obtain ⟨y5, e5⟩ := g 5 (by omega)
     have h0 : DataW.trod enc Tryz.prog w base spare held n 3 (([c0, c1, c2, c3, c4, c5, c6, c7, c8, c9, c10, c11, c12, c13, c14].drop 0).take (Tryz.prog.cellsOf 3)) = some y0 := (hf 0 _ rfl).trans e0
     have h1 : DataW.trod enc Tryz.prog w base spare held n 9 (([c0, c1, c2, c3, c4, c5, c6, c7, c8, c9, c10, c11, c12, c13, c14].drop 1).take (Tryz.prog.cellsOf 9)) = some y1 := (hf 1 _ rfl).trans e1
     have h2 : DataW.trod enc Tryz.prog w base spare held n 9 (([c0, c1, c2, c3, c4, c5, c6, c7, c8, c9, c10, c11, c12, c13, c14].drop 2).take (Tryz.prog.cellsOf 9)) = some y2 := (hf 2 _ rfl).trans e2
     have h3 : DataW.trod enc Tryz.prog w base spare held n 33 (([c0, c1, c2, c3, c4, c5, c6, c7, c8, c9, c10, c11, c12, c13, c14].drop 3).take (Tryz.prog.cellsOf 33)) = some y3 := (hf 3 _ rfl).trans e3
     have h4 : DataW.trod enc Tryz.prog w base spare held n 34 (([c0, c1, c2, c3, c4, c5, c6, c7, c8, c9, c10, c11, c12, c13, c14].drop 11).take (Tryz.prog.cellsOf 34)) = some y4 := (hf 4 _ rfl).trans e4
     have h5 : DataW.trod enc Tryz.prog w base spare held n 36 (([c0, c1, c2, c3, c4, c5, c6, c7, c8, c9, c10, c11, c12, c13, c14].drop 12).take (Tryz.prog.cellsOf 36)) = some y5 := (hf 5 _ rfl).trans e5
     simp only [qo3, qo9, qo28, qo29x, qo31, List.drop_zero, List.drop_succ_cons, List.take_succ_cons, List.take_zero] at h0 h1 h2 h3 h4 h5
     obtain ⟨k, q0, _, wk⟩ := DataW.trod_int Tryz.underlying3 h0
     obtain ⟨s, q1, _, ws⟩ := DataW.trod_string Tryz.underlying9 h1
     obtain ⟨s2, q2, _, ws2⟩ := DataW.trod_string Tryz.underlying9 h2
     obtain ⟨V, d0, d1, d2, d3, d4, d5, d6, d7, q3, hV⟩ := lies_trod _ _ _ h3
     obtain ⟨zs, m, _, _, _, hzl, hg⟩ := DataW.trod_struct Tryz.underlying36 h5
     have gz : ∀ i (hi : i < 3), ∃ y, zs[i]? = some y := fun i hi => ⟨zs[i]'(by rw [hzl]; exact hi), List.getElem?_eq_getElem _⟩
     obtain ⟨z0, f0⟩ := gz 0 (by omega)
     obtain ⟨z1, f1⟩ := gz 1 (by omega)
     obtain ⟨z2, f2⟩ := gz 2 (by omega)
     have t0 : DataW.trod enc Tryz.prog w base spare held m 3 (([c12, c13, c14].drop 0).take (Tryz.prog.cellsOf 3)) = some z0 := (hg 0 _ rfl).trans f0
     have t1 : DataW.trod enc Tryz.prog w base spare held m 3 (([c12, c13, c14].drop 1).take (Tryz.prog.cellsOf 3)) = some z1 := (hg 1 _ rfl).trans f1
     have t2 : DataW.trod enc Tryz.prog w base spare held m 3 (([c12, c13, c14].drop 2).take (Tryz.prog.cellsOf 3)) = some z2 := (hg 2 _ rfl).trans f2
     simp only [qo3, List.drop_zero, List.drop_succ_cons, List.take_succ_cons, List.take_zero] at t0 t1 t2
     obtain ⟨pa, r0, _, wa⟩ := DataW.trod_int Tryz.underlying3 t0
     obtain ⟨pl, r1, _, wl⟩ := DataW.trod_int Tryz.underlying3 t1
     obtain ⟨pc, r2, _, wc⟩ := DataW.trod_int Tryz.underlying3 t2
     injection q0 with q0 _
     injection q1 with q1 _
     injection q2 with q2 _
     injection r0 with r0 _
     injection r1 with r1 _
     injection r2 with r2 _
     simp only [List.cons.injEq, and_true] at q3
     obtain ⟨rfl, rfl, rfl, rfl, rfl, rfl, rfl, rfl⟩ := q3
     obtain ⟨oV, cV, oK, cK, rfl, rfl, rfl, rfl, rfl, rfl, rfl, rfl⟩ := lies_cells hV
     subst q0 q1 q2 r0 r1 r2
     have hL : ∃ (o : Option Addr) (cap : Nat) (l : List Ex) (c : Nat → Nat → Value), c11 = .slice o l.length cap ∧ RowP (fun b => b < w.heap.size) w o cap l.length 15 c ∧ ∀ j x, l[j]? = some x → XL w.heap.size w x (.agg #[c j 0, c j 1, c j 2, c j 3, c j 4, c j 5, c j 6, c j 7, c j 8, c j 9, c j 10, c j 11, c j 12, c j 13, c j 14]) := by
      rcases DataW.trod_slice Tryz.underlying34 h4 with ⟨hcs, _⟩ | ⟨a, len, cap, elems, rest, n', hn', hcs, _, _, hl, hm, hle, hel, _, _⟩
      · injection hcs with e _
        subst e
        exact ⟨none, 0, [], fun _ _ => undef, rfl, ⟨Nat.le_refl _, Nat.zero_le _, fun _ => rfl, fun h => absurd h (Nat.lt_irrefl _)⟩, fun j x h => by simp at h⟩
      · injection hcs with e _
        subst e
        have each : ∀ i, i < len → ∃ X : Ex, (∀ m, m < 15 → ∃ v, w.cell? ((a.add (i * 15)).add m) = some v) ∧ XL w.heap.size w X (.agg #[(w.cell? ((a.add (i * 15)).add 0)).getD undef, (w.cell? ((a.add (i * 15)).add 1)).getD undef, (w.cell? ((a.add (i * 15)).add 2)).getD undef, (w.cell? ((a.add (i * 15)).add 3)).getD undef, (w.cell? ((a.add (i * 15)).add 4)).getD undef, (w.cell? ((a.add (i * 15)).add 5)).getD undef, (w.cell? ((a.add (i * 15)).add 6)).getD undef, (w.cell? ((a.add (i * 15)).add 7)).getD undef, (w.cell? ((a.add (i * 15)).add 8)).getD undef, (w.cell? ((a.add (i * 15)).add 9)).getD undef, (w.cell? ((a.add (i * 15)).add 10)).getD undef, (w.cell? ((a.add (i * 15)).add 11)).getD undef, (w.cell? ((a.add (i * 15)).add 12)).getD undef, (w.cell? ((a.add (i * 15)).add 13)).getD undef, (w.cell? ((a.add (i * 15)).add 14)).getD undef]) := fun i hi => by
         have u1 := hel i hi
         rw [qo33, List.getElem?_eq_getElem (by omega)] at u1
         obtain ⟨cs', u2, u3⟩ := Option.bind_eq_some_iff.1 u1
         obtain ⟨_, u4, u5⟩ := World.cells?_some u2
         obtain ⟨X, d0, d1, d2, d3, d4, d5, d6, d7, d8, d9, d10, d11, d12, d13, d14, u6, u7⟩ := ih n' (by omega) cs' _ u3
         subst u6
         have w0 := u5 0 (by omega)
         have w1 := u5 1 (by omega)
         have w2 := u5 2 (by omega)
         have w3 := u5 3 (by omega)
         have w4 := u5 4 (by omega)
         have w5 := u5 5 (by omega)
         have w6 := u5 6 (by omega)
         have w7 := u5 7 (by omega)
         have w8 := u5 8 (by omega)
         have w9 := u5 9 (by omega)
         have w10 := u5 10 (by omega)
         have w11 := u5 11 (by omega)
         have w12 := u5 12 (by omega)
         have w13 := u5 13 (by omega)
         have w14 := u5 14 (by omega)
         refine ⟨X, fun m hm => ⟨_, (u5 m hm).trans (List.getElem?_eq_getElem (by simpa using hm))⟩, ?_⟩
         rw [w0, w1, w2, w3, w4, w5, w6, w7, w8, w9, w10, w11, w12, w13, w14]
         exact u7
        obtain ⟨f, hf2⟩ := qchoose_lt each
        have hlr : ((List.range len).map f).length = len := by simp
        refine ⟨some a, cap, (List.range len).map f, fun j m => (w.cell? ((a.add (j * 15)).add m)).getD undef, by rw [hlr], ⟨by rw [hlr]; exact hl, hm, (fun h => by cases h), fun h0 => ?_⟩, fun j x hx => ?_⟩
        · rw [hlr] at h0
          have hsp : a.spot = none := by
           obtain ⟨v, c0⟩ := (hf2 0 h0).1 0 (by omega)
           have : (a.add (0 * 15)).add 0 = a := by unfold Addr.add; simp
           rw [this] at c0
           exact World.cell?_spot c0
          obtain ⟨b, o, spot⟩ := a
          simp only at hsp
          subst hsp
          have ea1 : ∀ (o i : Nat), (⟨b, o, none⟩ : Addr).add i = ⟨b, o + i, none⟩ := fun o i => by unfold Addr.add; split <;> simp_all
          have ea : ∀ i m, ((⟨b, o, none⟩ : Addr).add (i * 15)).add m = ⟨b, o + i * 15 + m, none⟩ := fun i m => by rw [ea1, ea1]
          refine ⟨b, o, rfl, ?_, fun j hj m hm => ?_⟩
          · obtain ⟨v, c0⟩ := (hf2 0 h0).1 0 (by omega)
            rw [ea] at c0; exact World.block_lt_of_cell? _ _ c0
          · rw [hlr] at hj
            obtain ⟨v, c0⟩ := (hf2 j hj).1 m hm
            show w.cell? _ = some ((w.cell? _).getD undef)
            rw [c0, ← ea, c0]; rfl
        · rw [List.getElem?_map] at hx
          obtain ⟨j', hj', rfl⟩ := Option.map_eq_some_iff.1 hx
          have hjl : j < len := by have := (List.getElem?_eq_some_iff.1 hj').1; simpa using this
          rw [List.getElem?_range hjl] at hj'
          injection hj' with hj'
          subst hj'
          exact (hf2 j hjl).2
     obtain ⟨o, cap, l, c, q4, rL, rE⟩ := hL
     subst q4
     exact ⟨.mk k s s2 V l pa pl pc, _, _, _, _, _, _, _, _, _, _, _, _, _, _, _, rfl, .mk (.mk k s s2 V l pa pl pc) oV oK o cV cK cap c hV rL rE⟩
end
open Go.ChangeShapes Go.WideShapes Go.ChangeAt Go.RowKit

theorem own : ownKnob Tryz.prog.godebug = none := by kernel_rfl
theorem laidOut : laidOutB Tryz.prog = true := by kernel_rfl
theorem gCls : Tryz.prog.globalNamed "surety/lex.classes" = some 2 := by kernel_rfl
theorem tCls : (Tryz.prog.globals[2]?).map (·.type) = some 178 := by kernel_rfl
theorem gLev : Tryz.prog.globalNamed "surety/expr.levels" = some 3 := by kernel_rfl
theorem tLev : (Tryz.prog.globals[3]?).map (·.type) = some 192 := by kernel_rfl
theorem c115 : Tryz.prog.cellsOf 178 = 28 := by kernel_rfl
theorem c114 : Tryz.prog.cellsOf 177 = 4 := by kernel_rfl
theorem c113 : Tryz.prog.cellsOf 150 = 1 := by kernel_rfl
theorem c130 : Tryz.prog.cellsOf 192 = 27 := by kernel_rfl
theorem c3x : Tryz.prog.cellsOf 3 = 1 := by kernel_rfl
def clsR : List (List Int) := [[4294968832, 0, 0, 0], [0, 576460745860972544, 0, 0], [287948901175001088, 0, 0, 0], [287948901175001088, 576460745860972544, 0, 0], [17582333466748387328, 2882303762188206080, 0, 0], [18446744056529681407, 15564440312192434175, 18446744073709551615, 18446744073709551615], [18446744073709550591, 18446744073709551615, 18446744073709551615, 18446744073709551615]]
def levR : List Int := [0, 0, 0, 0, 0, 0, 0, 0, 5, 5, 5, 4, 4, 3, 3, 3, 3, 3, 3, 2, 1, 0, 0, 0, 0, 0, 0]
theorem dCls : (Rows.laid_surety_lex_classes : DataW Unit) = .agg (clsR.map (Lib.tabData .u64)) := by kernel_rfl
theorem dLev : (Rows.laid_surety_expr_levels : DataW Unit) = Lib.tabData .i64 levR := by kernel_rfl
theorem cells_of_tab2 {H : Type} {enc : TypeId × Value → H} {w : World} {base : Nat} {sp : Nat → Bool} {held : Bool} {fuel : Nat} {cs : List Value} {zss : List (List Int)} {p : List MemPlace}
 (h : DataW.trod enc Tryz.prog w base sp held fuel 178 cs = some (.agg (zss.map (Lib.tabData .u64)), p)) : ∀ i zs, zss[i]? = some zs → i < 7 → (cs.drop (i * 4)).take 4 = zs.map fun z => Value.int .u64 z := by
 cases fuel with
 | zero => simp [DataW.trod] at h
 | succ fuel =>
   simp only [DataW.trod, Tryz.underlying178, c114, c115] at h
   split at h
   · obtain ⟨xs, hm, hx⟩ := Option.map_eq_some_iff.1 h
     have hxs : xs.map (·.1) = zss.map (Lib.tabData .u64) := by
      have := congrArg Prod.fst hx
      simpa using this
     intro i zs hz hi
     obtain ⟨b, hb, hf⟩ := Lib.mapM_at hm i i (by simp [hi])
     have h2 : (xs.map (·.1))[i]? = some b.1 := by simp [hb]
     rw [hxs] at h2
     simp only [List.getElem?_map, hz, Option.map_some, Option.some.injEq] at h2
     refine Lib.cells_of_tab (p := b.2) Tryz.underlying177 Tryz.underlying150 c113 c114 (by rw [hf]; exact congrArg some (Prod.ext h2.symm rfl))
   · cases h
set_option maxRecDepth 100000 in
theorem of_laid {W : World} {l : List (String × DataW Unit)} (hl : l = [("surety/lex.classes", Rows.laid_surety_lex_classes), ("surety/expr.levels", Rows.laid_surety_expr_levels)]) (h : laidMet Tryz.prog l W) : Tab W ∧ Lev W ∧ 4 ≤ W.heap.size := by
 subst hl
 rw [dCls, dLev] at h
 obtain ⟨ps, ⟨g', t', cs, fuel, p, q, hg', ht', hvar, hd, ⟨g2, t2, cs2, fuel2, p2, q2, hg2, ht2, hvar2, hd2, _, _⟩, _⟩, _⟩ := h
 obtain rfl := Option.some.inj (gCls.symm.trans hg')
 obtain rfl := Option.some.inj (tCls.symm.trans ht')
 obtain rfl := Option.some.inj (gLev.symm.trans hg2)
 obtain rfl := Option.some.inj (tLev.symm.trans ht2)
 have hc := cells_of_tab2 hd
 have cell : ∀ i, i < 28 → W.cell? ⟨2, i, none⟩ = some (.int .u64 (clsT.getD i 0)) := fun i hi => by
  have h1 := World.var?_cell gCls hvar i
  rw [h1]
  have hr : clsR[i / 4]? = some (clsR[i / 4]'(by show i / 4 < 7; omega)) := List.getElem?_eq_getElem _
  have h2 := congrArg (fun l => l[i % 4]?) (hc (i / 4) _ hr (by omega))
  simp only [List.getElem?_take, List.getElem?_drop, List.getElem?_map] at h2
  rw [if_pos (by omega), show i / 4 * 4 + i % 4 = i by omega] at h2
  have h3 : cs[i]? = cs.toList[i]? := by simp
  rw [h3, h2]
  have key : (List.range 28).all (fun i => (clsR.getD (i / 4) [])[i % 4]? == some (clsT.getD i 0)) = true := by kernel_rfl
  rw [List.all_eq_true] at key
  have k1 := eq_of_beq (key i (List.mem_range.2 hi))
  rw [List.getD_eq_getElem?_getD, hr, Option.getD_some] at k1
  rw [k1]; rfl
 have hc2 := Lib.cells_of_tab Tryz.underlying192 Tryz.underlying3 c3x c130 hd2
 have cell2 : ∀ i, i < 21 → W.cell? ⟨3, i, none⟩ = some (.int .i64 (lvl i)) := fun i hi => by
  have h1 := World.var?_cell gLev hvar2 i
  rw [h1]
  have h3 : cs2[i]? = cs2.toList[i]? := by simp
  rw [h3, hc2, List.getElem?_map]
  have key : (List.range 21).all (fun i => levR[i]? == some ((lvl i : Nat) : Int)) = true := by kernel_rfl
  rw [List.all_eq_true] at key
  have k1 := eq_of_beq (key i (List.mem_range.2 hi))
  rw [k1]; rfl
 have h1 := World.block_lt_of_cell? _ _ (cell2 0 (by omega))
 exact ⟨⟨World.block_lt_of_cell? _ _ (cell 0 (by omega)), cell⟩, cell2, h1⟩
section
variable {H : Type} {enc : TypeId × Value → H} {w : World} {base : Nat} {spare : Nat → Bool} {held : Bool}
set_option maxRecDepth 100000 in
theorem open_str {r : Reach} {b0 : Nat} {v : Value} {d : DataW H} {p : List MemPlace} (hv : Value.okWide Tryz.prog w r b0 9 v) (h : DataW.Trod enc Tryz.prog w base spare held 9 v d p) : ∃ s : ByteArray, v = .string s ∧ s.size ≤ maxLen := by
 obtain ⟨s, rfl, rfl, rfl, hs⟩ := Go.ChangeMaps.open_string Tryz.underlying9 hv h
 exact ⟨s, rfl, hs⟩
end
end Go.Proofs.YtncjncacfagldaaGreatDoor

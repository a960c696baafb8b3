import Derived.Test.YtncjncacfagldaaGreatDoorYP4H
import Derived.Test.YtncjncacfagldaaGreatDoorYWCT
import Derived.Laws.AppendOwnNone
import Derived.Maps.AppendAt
import Derived.OwnWalk
namespace Go.Proofs.YtncjncacfagldaaGreatDoor
open Go.RowKit Go.Lib

abbrev row15 (D : Nat → Nat → Value) (j : Nat) : Array Value := #[D j 0, D j 1, D j 2, D j 3, D j 4, D j 5, D j 6, D j 7, D j 8, D j 9, D j 10, D j 11, D j 12, D j 13, D j 14]
def XcPost (X : Ex) (w : World) (e : Ending) (w' : World) : Prop := ∃ c : Array Value, e = .returned (.agg c) ∧ c.size = 15 ∧ (∀ u ∈ c.toList, u.oneCell' = true) ∧ XP (FrV w w') w' X (.agg c) ∧ Below w.heap.size w w'
def XsPost (l : List Ex) (w : World) (e : Ending) (w' : World) : Prop :=
 ∃ (o : Option Addr) (cap : Nat) (c : Nat → Nat → Value), e = .returned (.slice o l.length cap) ∧ RowP (FrV w w') w' o cap l.length 15 c ∧ (∀ j x, l[j]? = some x → XP (FrV w w') w' x (.agg (row15 c j))) ∧ Below w.heap.size w w'
theorem make38 (len : Nat) (h : len ≤ 60000) (w : World) : (Instr.makeSlice 34 (.int .i64 len) (.int .i64 len)).run Tryz.prog w = .ok (.slice (some ⟨w.heap.size, 0, none⟩) len len) (w.alloc (.cells (madeCells #[.int .i64 0, .string ⟨#[]⟩, .string ⟨#[]⟩, .int .i64 0, .int .i64 0, .string ⟨#[]⟩, .slice none 0 0, .slice none 0 0, .int .i64 0, .int .i64 0, .bool false, .slice none 0 0, .int .i64 0, .int .i64 0, .int .i64 0] (len * 15)) 38)) := by
 obtain ⟨i, hi, hzz⟩ := Option.map_eq_some_iff.1 info33
 simp only [Prod.mk.injEq] at hzz
 obtain ⟨hz, hs, hb⟩ := hzz
 have hr := run_make (P := Tryz.prog) w 34 38 i _ Tryz.underlying34 hi hz .i64 .i64 len len (by omega) (Int.le_refl _) (by rw [hb]; omega) (by omega)
 simp only [Int.toNat_natCast, hs] at hr
 exact hr
theorem size38z {c : Array Value} (h : c.size = 15) : (Tryz.prog.info? 38).map (·.size) = some c.size := by rw [h]; kernel_rfl
def XRel (l : List Ex) (g : Nat) (w0 : World) (j : Nat) (wr : World) : Prop :=
 Below g w0 wr ∧ ∃ C, Out wr g 38 l.length 15 j C ∧ ∀ i x, i < j → l[i]? = some x → XP (fun b => g < b ∧ b < wr.heap.size) wr x (.agg (row15 C i))
theorem XRel.fin {l : List Ex} {w wr : World} (h : XRel l w.heap.size w l.length wr) (hl : l.length ≤ 60000) : XsPost l w (.returned (.slice (some ⟨w.heap.size, 0, none⟩) l.length l.length)) wr := by
 obtain ⟨hb, C, hO, hE⟩ := h
 refine ⟨some ⟨w.heap.size, 0, none⟩, l.length, C, rfl, ⟨Nat.le_refl _, by unfold maxLen; omega, (fun h => by cases h), fun _ => ?_⟩, fun j x hx => (hE j x (List.getElem?_eq_some_iff.1 hx).1 hx).mono fun k hk => ⟨by omega, hk.2⟩, hb⟩
 refine ⟨_, _, rfl, ⟨Nat.le_refl _, hO.lt⟩, fun j hj m hm => ?_⟩
 obtain ⟨cs, h1, h2, h3⟩ := hO
 rw [cell_of_row wr w.heap.size _ cs 38 (0, 0) h1, Nat.zero_add]
 exact h3 j hj m hm
theorem row15_at (D : Nat → Nat → Value) (j m : Nat) (hm : m < 15) : (row15 D j)[m]? = some (D j m) := by
 obtain rfl | rfl | rfl | rfl | rfl | rfl | rfl | rfl | rfl | rfl | rfl | rfl | rfl | rfl | rfl := (by omega : m = 0 ∨ m = 1 ∨ m = 2 ∨ m = 3 ∨ m = 4 ∨ m = 5 ∨ m = 6 ∨ m = 7 ∨ m = 8 ∨ m = 9 ∨ m = 10 ∨ m = 11 ∨ m = 12 ∨ m = 13 ∨ m = 14)
 all_goals rfl
theorem row15_eta (c : Array Value) (h : c.size = 15) (D : Nat → Nat → Value) (j : Nat) (hD : ∀ m, m < 15 → D j m = c[m]?.getD undef) : row15 D j = c := by
 refine Array.ext_getElem? fun m => ?_
 by_cases hm : m < 15
 · rw [row15_at D j m hm, hD m hm, Array.getElem?_eq_getElem (by omega)]; rfl
 · rw [Array.getElem?_eq_none (by show 15 ≤ m; omega), Array.getElem?_eq_none (by omega)]
theorem XRel.step {l : List Ex} {g : Nat} {w0 wr w1 : World} {j : Nat} {C : Nat → Nat → Value} {cs part : Array Value} {X : Ex} {B : Nat} (hX : l[j]? = some X)
 (hb : Below g w0 w1) (hO : XP (fun b => g < b ∧ b < w1.heap.size) w1 X (.agg part)) (hp : part.size = 15) (h1 : w1.heap[g]? = some (.cells cs 38 (0, 0))) (h2 : cs.size = l.length * 15) (h3 : ∀ i, i < j → ∀ m, m < 15 → cs[i * 15 + m]? = some (C i m))
 (hold : ∀ i x, i < j → l[i]? = some x → XP (fun b => g < b ∧ b < B) wr x (.agg (row15 C i))) (hB : B ≤ w1.heap.size) (hw : ∀ k, k < B → w1.heap[k]? = wr.heap[k]?) :
 XRel l g w0 (j + 1) (w1.setRow g (cs.toList.take (j * 15) ++ part.toList ++ cs.toList.drop (j * 15 + part.size)).toArray) := by
 have hj : j < l.length := by obtain ⟨h, _⟩ := List.getElem?_eq_some_iff.1 hX; exact h
 refine ⟨below_setRow hb (Nat.le_refl _) _, _, Out.store h1 h2 h3 hj hp (fun m => part[m]?.getD undef) (fun m hm => ?_), fun i x hi hx => ?_⟩
 · rw [Array.getElem?_eq_getElem (by omega)]; rfl
 · by_cases e : i = j
   · subst e
     rw [hX] at hx; injection hx with hx; subst hx
     rw [row15_eta part hp _ i (fun m _ => if_pos rfl)]
     exact hO.keptP fun k hk => ⟨⟨hk.1, by rw [size_setRow]; exact hk.2⟩, setRow_oth _ _ _ _ (by omega)⟩
   · have e2 : row15 (fun i m => if i = j then part[m]?.getD undef else C i m) i = row15 C i := by simp only [row15, if_neg e]
     rw [e2]
     exact (hold i x (by omega) hx).keptP fun k hk => ⟨⟨hk.1, by rw [size_setRow]; omega⟩, (setRow_oth _ _ _ _ (by omega)).trans (hw k hk.2)⟩
set_option maxRecDepth 100000 in
set_option maxHeartbeats 4000000 in
theorem copies_91 {n : Nat} {w : World} {l : List Ex} (hf : ∀ X ∈ l, ∀ (v : Value) (w : World), XP (fun k => k < n) w X v → n ≤ w.heap.size → Calls Tryz.prog 48 #[v] w (XcPost X w)) {o : Option Addr} {cap : Nat} {c : Nat → Nat → Value} (hlen : l.length ≤ 60000) (hR : RowP (fun k => k < n) w o cap l.length 15 c) (hE : ∀ j x, l[j]? = some x → XP (fun k => k < n) w x (.agg (row15 c j))) (hn : n ≤ w.heap.size) :
 Calls Tryz.prog 91 #[.slice o l.length cap, .func (.func 48) #[] #[]] w (XsPost l w) := by
 have hc := hR.1
 have hm := hR.2.1
 have hnil := fun (w : World) (a : Option Addr) (n c : Nat) => Lib.run_eql_slice_nil (P := Tryz.prog) w 34 38 a n c 0 0 Tryz.underlying34
 unfold maxLen at hm
 cases o with
 | none =>
   have h0 : cap = 0 := hR.2.2.1 rfl
   have h1 : l.length = 0 := by omega
   have h2 : l = [] := List.length_eq_zero_iff.1 h1
   subst h2
   subst h0
   clear hR hE hf hlen h1 hc hm
   go_enter Tryz.func91, Tryz.ntmps91
   go_wp2
   go_ret
   exact ⟨none, 0, c, rfl, rowP_nil _ _ _ _, fun j x h => by simp at h, Below.refl _ _⟩
 | some a =>
   have HF := qh (And.intro hf (And.intro hR hE))
   have hmk := make38 l.length hlen
   have HLN := qh hlen
   have HN := qh hn
   clear hf hR hE hn
   have HO : Hid (XRel l w.heap.size w 0 (w.alloc (.cells (madeCells #[.int .i64 0, .string ⟨#[]⟩, .string ⟨#[]⟩, .int .i64 0, .int .i64 0, .string ⟨#[]⟩, .slice none 0 0, .slice none 0 0, .int .i64 0, .int .i64 0, .bool false, .slice none 0 0, .int .i64 0, .int .i64 0, .int .i64 0] (l.length * 15)) 38))) :=
    ⟨(Below.refl _ _).alloc (Nat.le_refl _) _, fun _ _ => undef, Out.made _ _ _ _ _ _, fun i x h => absurd h (Nat.not_lt_zero _)⟩
   go_enter Tryz.func91, Tryz.ntmps91
   go_wp2_with fail
   generalize w.alloc (.cells (madeCells _ _) 38) = w0 at *
   clear hmk
   go_loopw [15] (fun i wr => ∃ j : Nat, j ≤ l.length ∧ i = .int .i64 j ∧ Hid (XRel l w.heap.size w j wr)) (fun i _ => l.length - (RowKit.intOf i).toNat)
   case atStart => exact ⟨0, Nat.zero_le _, rfl, HO⟩
   case round =>
    obtain ⟨j, hj, rfl, HR⟩ := hrel
    by_cases hlt : j < l.length
    · obtain ⟨X, hX⟩ : ∃ X, l[j]? = some X := ⟨_, List.getElem?_eq_getElem hlt⟩
      obtain ⟨b, off, ea, hb, hcel⟩ := HF.out.2.1.2.2.2 (by omega)
      injection ea with ea
      subst ea
      have BN := qh (HR.out.1)
      have tk : ∀ i, i < n → wr.heap[i]? = w.heap[i]? := fun i hi => BN.out.block i (by have := HN.out; omega)
      have HX := qh hX
      have HXE : Hid (XP (fun k => k < n) wr X (.agg (row15 c j))) := (HF.out.2.2 j X hX).keptP fun i hi => ⟨hi, tk i hi⟩
      have HFX := qh (HF.out.1 X (List.mem_of_getElem? hX))
      obtain ⟨c', ec, h22, hone⟩ := HXE.out.size
      injection ec with ec
      have HRG : Hid (wr.rangeAt b (off + j * 15) (row15 c j).toList) := fun m u hm => by
       have hlt : m < 15 := by have := (List.getElem?_eq_some_iff.1 hm).1; simpa using this
       rw [World.cell?_of_block (w := w) (tk b hb), hcel j (by omega) m hlt]
       rw [Array.getElem?_toList, row15_at c j m hlt] at hm
       exact hm
      obtain ⟨cx, hcx⟩ : ∃ q, row15 c j = q := ⟨_, rfl⟩
      rw [hcx] at HRG HXE ec
      subst ec
      have H22 := qh h22
      have H1 : Hid (cx.all (·.oneCell') = true) := by unfold Hid; rw [Array.all_eq_true_iff_forall_mem]; intro u hu; exact hone u (by simpa using hu)
      have k0 : ¬ (j : Int) < 0 := by omega
      have k1 : (j : Int) < (l.length : Int) := by omega
      have lb : b < wr.heap.size := by have := HN.out; have := BN.out.size; omega
      have N1 := qh (heap_alloc_new wr (.cells #[.int .i64 0, .string ⟨#[]⟩, .string ⟨#[]⟩, .int .i64 0, .int .i64 0, .string ⟨#[]⟩, .slice none 0 0, .slice none 0 0, .int .i64 0, .int .i64 0, .bool false, .slice none 0 0, .int .i64 0, .int .i64 0, .int .i64 0] 38))
      have HW3 := qh ((Below.refl wr.heap.size wr).alloc (Nat.le_refl _) (.cells #[.int .i64 0, .string ⟨#[]⟩, .string ⟨#[]⟩, .int .i64 0, .int .i64 0, .string ⟨#[]⟩, .slice none 0 0, .slice none 0 0, .int .i64 0, .int .i64 0, .bool false, .slice none 0 0, .int .i64 0, .int .i64 0, .int .i64 0] 38))
      have hws : w.heap.size ≤ wr.heap.size := BN.out.size
      have HWS := qh hws
      clear hX hcx h22 hone tk hb hcel hws
      go_wp2_with (first
       | refine wpList_load_mid rfl 38 (.tmp 18) rfl b (off + j * 15) rfl cx.toList _ HRG.out Tryz.underlying38 rfl (by rw [Array.length_toList]; exact size38z H22.out) ?_
       | (refine wpList_store_row rfl 38 (.tmp 7) (.tmp 19) rfl wr.heap.size cx rfl rfl 38 _ N1.out (size38z H22.out) (by rw [H22.out]; rfl) H1.out ?_
          have r22 := qh (setRow_heap _ _ _ cx _ _ N1.out)
          have HW4 := qh (Below.row HW3.out (Nat.le_refl _) cx)
          clear N1
          generalize World.setRow _ wr.heap.size cx = w4 at *)
       | refine wpList_load_row rfl 38 (.tmp 7) rfl wr.heap.size rfl 38 cx _ _ r22.out Tryz.underlying38 rfl (size38z H22.out) ?_)
      refine (HFX.out _ _ (HXE.out.keptP fun k hk => ⟨hk, HW4.out.block k (by have := HN.out; have := HWS.out; omega)⟩) (by have := HW4.out.size; have := HN.out; have := HWS.out; omega)).mono ?_
      rintro e w5 ⟨part, rfl, hp, hp1, hO, b5⟩
      obtain ⟨hb2, C, ⟨cs, h1, h2, h3⟩, hold⟩ := HR.out
      have hgl : w.heap.size < wr.heap.size := (Array.getElem?_eq_some_iff.1 h1).1
      have hs4 := HW4.out.size
      have hk : ∀ k, k < wr.heap.size → w5.heap[k]? = wr.heap[k]? := fun k hk => (b5.block k (by omega)).trans (HW4.out.block k hk)
      have h1' : w5.heap[w.heap.size]? = some (.cells cs 38 (0, 0)) := (hk _ hgl).trans h1
      have HS := qh (XRel.step HX.out ((hb2.trans (HW4.out.mono (by omega))).trans (b5.mono (by omega))) (hO.mono fun k h => ⟨by have := h.1; omega, h.2⟩) hp h1' h2 h3 hold (by have := b5.size; omega) hk)
      have H1' := qh (And.intro h1' h2)
      have HP1 : Hid (part.all (·.oneCell') = true) := by unfold Hid; rw [Array.all_eq_true_iff_forall_mem]; intro u hu; exact hp1 u (by simpa using hu)
      have HPS := qh hp
      have HFT : Hid (j * 15 + part.size ≤ cs.size) := by unfold Hid; rw [hp, h2, ← Nat.succ_mul]; exact Nat.mul_le_mul_right 15 hlt
      have hg5 : w.heap.size < w5.heap.size := by have := b5.size; omega
      clear h1 h1' h2 h3 hold hb2 hO hk b5 hp hp1 hs4
      go_wp2_with (refine wpList_store_at rfl 38 (.tmp 25) (.tmp 24) rfl w.heap.size (j * 15) rfl part rfl 38 cs H1'.out.1 HFT.out (size38z HPS.out) HP1.out ?_; generalize World.setRow _ _ _ = W at *)
      refine ⟨⟨j + 1, by omega, by go_num, HS⟩, ?_⟩
      simp only [RowKit.intOf]; omega
    · have hjl : j = l.length := by omega
      subst hjl
      have HQ := qh (HR.out.fin HLN.out)
      have k1 : ¬ (l.length : Int) < (l.length : Int) := by omega
      go_wp2_with fail
      go_ret
      exact HQ.out
open Go.RowKit Go.Lib

inductive SmX : Ex → Prop
 | mk (X : Ex) (hv : sz X.v ≤ 60000) (hl : X.l.length ≤ 60000) (hs : ∀ x ∈ X.l, SmX x) : SmX X
theorem SmX.v {X : Ex} (h : SmX X) : sz X.v ≤ 60000 := by cases h; assumption
theorem SmX.l {X : Ex} (h : SmX X) : X.l.length ≤ 60000 := by cases h; assumption
theorem SmX.s {X : Ex} (h : SmX X) : ∀ x ∈ X.l, SmX x := by cases h; assumption
abbrev z15 : Array Value := #[.int .i64 0, .string ⟨#[]⟩, .string ⟨#[]⟩, .int .i64 0, .int .i64 0, .string ⟨#[]⟩, .slice none 0 0, .slice none 0 0, .int .i64 0, .int .i64 0, .bool false, .slice none 0 0, .int .i64 0, .int .i64 0, .int .i64 0]
theorem size33z {c : Array Value} (h : c.size = 8) : (Tryz.prog.info? 33).map (·.size) = some c.size := by rw [h]; kernel_rfl
theorem splice15 (X : Ex) (oV oV1 : Option Addr) (cV cV1 : Nat) (oK oK1 : Option Addr) (cK cK1 : Nat) (o : Option Addr) (cap : Nat) :
 ((xc X oV cV oK cK o cap).toList.take 3 ++ (#[.int .i64 X.v.k, .int .i64 X.v.i, .string X.v.s, .slice oV1 X.v.l.length cV1, .slice oK1 X.v.ks.length cK1, .int .i64 X.v.tk, .int .i64 X.v.to, .bool X.v.x] : Array Value).toList ++ (xc X oV cV oK cK o cap).toList.drop (3 + (#[.int .i64 X.v.k, .int .i64 X.v.i, .string X.v.s, .slice oV1 X.v.l.length cV1, .slice oK1 X.v.ks.length cK1, .int .i64 X.v.tk, .int .i64 X.v.to, .bool X.v.x] : Array Value).size)).toArray = xc X oV1 cV1 oK1 cK1 o cap := rfl
set_option maxRecDepth 100000 in
set_option maxHeartbeats 4000000 in
theorem copyX_any (X : Ex) : SmX X → ∀ (n : Nat) (v : Value) (w : World), XP (fun k => k < n) w X v → n ≤ w.heap.size → Calls Tryz.prog 48 #[v] w (XcPost X w) := by
 induction X using ex_ind with
 | h X ih =>
   intro hS n v w hx hn
   obtain ⟨oV, cV, oK, cK, o, cap, rfl, hvx, hrow⟩ : ∃ oV cV oK cK o cap, v = .agg (xc X oV cV oK cK o cap) ∧ LiesP (fun k => k < n) w X.v (vv X.v.k X.v.i X.v.s (.slice oV X.v.l.length cV) (.slice oK X.v.ks.length cK) X.v.tk X.v.to X.v.x) ∧ ∃ c, RowP (fun k => k < n) w o cap X.l.length 15 c ∧ ∀ j x, X.l[j]? = some x → XP (fun k => k < n) w x (.agg (row15 c j)) := by
    cases hx with
    | mk _ oV oK o cV cK cap c hv hl he => exact ⟨oV, cV, oK, cK, o, cap, rfl, hv, c, hl, he⟩
   obtain ⟨c, hr, he⟩ := hrow
   have W0 := ((Below.refl w.heap.size w).alloc (Nat.le_refl _) (.cells (xc X oV cV oK cK o cap) 38)).alloc (by simp) (.cells z15 38)
   have Z0 : Hid (((w.alloc (.cells (xc X oV cV oK cK o cap) 38)).alloc (.cells z15 38)).heap.size = w.heap.size + 2) := by simp [Hid]
   have R1 : Hid (((w.alloc (.cells (xc X oV cV oK cK o cap) 38)).alloc (.cells z15 38)).heap[w.heap.size]? = some (.cells (xc X oV cV oK cK o cap) 38 (0, 0))) := (heap_alloc_old _ _ (by simp)).trans (heap_alloc_new w _)
   have R2 : Hid (((w.alloc (.cells (xc X oV cV oK cK o cap) 38)).alloc (.cells z15 38)).heap[w.heap.size + 1]? = some (.cells z15 38 (0, 0))) := by
    have := heap_alloc_new (w.alloc (.cells (xc X oV cV oK cK o cap) 38)) (.cells z15 38)
    rw [World.size_alloc] at this; exact this
   have HB0 := qh W0
   have HV : Hid (∀ W, Below w.heap.size w W → Calls Tryz.prog 90 #[vv X.v.k X.v.i X.v.s (.slice oV X.v.l.length cV) (.slice oK X.v.ks.length cK) X.v.tk X.v.to X.v.x] W (CpPost X.v W)) := fun W hW => copy_any 60000 (Nat.le_refl _) n X.v _ W hS.v (hvx.keptP fun k hk => ⟨hk, hW.block k (by omega)⟩) (by have := hW.size; omega)
   have HL : Hid (∀ W, Below w.heap.size w W → Calls Tryz.prog 91 #[.slice o X.l.length cap, .func (.func 48) #[] #[]] W (XsPost X.l W)) := fun W hW =>
    copies_91 (n := n) (w := W) (fun x hxm v w hv hn => ih x hxm (hS.s x hxm) n v w hv hn) hS.l (hr.keptP fun k hk => ⟨hk, hW.block k (by omega)⟩) (fun j x hxj => (he j x hxj).keptP fun k hk => ⟨hk, hW.block k (by omega)⟩) (by have := hW.size; omega)
   clear hx hvx hr he ih W0 hn hS
   go_enter Tryz.func48, Tryz.ntmps48
   go_upto_region 1 with fail
   generalize (w.alloc _).alloc _ = w0 at *
   have HG1 : Hid (w0.rangeAt w.heap.size 3 (#[.int .i64 X.v.k, .int .i64 X.v.i, .string X.v.s, .slice oV X.v.l.length cV, .slice oK X.v.ks.length cK, .int .i64 X.v.tk, .int .i64 X.v.to, .bool X.v.x] : Array Value).toList) := by
    intro m u hm
    have hlt : m < 8 := by have := (List.getElem?_eq_some_iff.1 hm).1; simpa using this
    rw [cell_of_row w0 w.heap.size (3 + m) _ _ _ R1.out]
    obtain rfl | rfl | rfl | rfl | rfl | rfl | rfl | rfl := (by omega : m = 0 ∨ m = 1 ∨ m = 2 ∨ m = 3 ∨ m = 4 ∨ m = 5 ∨ m = 6 ∨ m = 7)
    all_goals exact hm
   go_wp2_with (refine wpList_load_mid rfl 33 (.tmp 3) rfl w.heap.size 3 rfl (#[.int .i64 X.v.k, .int .i64 X.v.i, .string X.v.s, .slice oV X.v.l.length cV, .slice oK X.v.ks.length cK, .int .i64 X.v.tk, .int .i64 X.v.to, .bool X.v.x] : Array Value).toList _ HG1.out Tryz.underlying33 rfl (by kernel_rfl) ?_)
   refine (HV.out _ HB0.out).mono ?_
   rintro e w1 ⟨oV1, oK1, cV1, cK1, c1, rfl, O1, -, -, b1⟩
   have hz0 := Z0.out
   have P1 := qh ((b1.block w.heap.size (by omega)).trans R1.out)
   have P2 := qh ((b1.block (w.heap.size + 1) (by omega)).trans R2.out)
   have HB1 := qh (HB0.out.trans (b1.mono HB0.out.size))
   have HO1 := qh O1.lies
   have HS1 : Hid (w.heap.size + 2 ≤ w1.heap.size ∧ w.heap.size + 2 ≤ w0.heap.size) := by have := b1.size; exact ⟨by omega, by omega⟩
   have HC1 : Hid ((#[.int .i64 X.v.k, .int .i64 X.v.i, .string X.v.s, .slice oV1 X.v.l.length cV1, .slice oK1 X.v.ks.length cK1, .int .i64 X.v.tk, .int .i64 X.v.to, .bool X.v.x] : Array Value).all (·.oneCell') = true) := oneCell8 X.v oV1 oK1 _ _ _ _
   clear O1 b1 R1 R2 HB0 HG1
   obtain ⟨SP, hSP⟩ : ∃ q, ((xc X oV cV oK cK o cap).toList.take 3 ++ (#[.int .i64 X.v.k, .int .i64 X.v.i, .string X.v.s, .slice oV1 X.v.l.length cV1, .slice oK1 X.v.ks.length cK1, .int .i64 X.v.tk, .int .i64 X.v.to, .bool X.v.x] : Array Value).toList ++ (xc X oV cV oK cK o cap).toList.drop (3 + (#[.int .i64 X.v.k, .int .i64 X.v.i, .string X.v.s, .slice oV1 X.v.l.length cV1, .slice oK1 X.v.ks.length cK1, .int .i64 X.v.tk, .int .i64 X.v.to, .bool X.v.x] : Array Value).size)).toArray = q := ⟨_, rfl⟩
   have HSP : Hid (SP = xc X oV1 cV1 oK1 cK1 o cap) := hSP.symm.trans (splice15 X oV oV1 cV cV1 oK oK1 cK cK1 o cap)
   go_wp2_with (refine wpList_store_at rfl 33 (.tmp 6) (.tmp 5) rfl w.heap.size 3 rfl #[.int .i64 X.v.k, .int .i64 X.v.i, .string X.v.s, .slice oV1 X.v.l.length cV1, .slice oK1 X.v.ks.length cK1, .int .i64 X.v.tk, .int .i64 X.v.to, .bool X.v.x] rfl 38 (xc X oV cV oK cK o cap) P1.out (by show 3 + 8 ≤ 15; omega) (size33z rfl) HC1.out ?_
                rw [hSP]
                have Q1 : Hid ((w1.setRow w.heap.size SP).heap[w.heap.size]? = some (.cells (xc X oV1 cV1 oK1 cK1 o cap) 38 (0, 0))) := by
                 have h := setRow_heap w1 w.heap.size _ SP _ _ P1.out
                 unfold Hid; rw [h, HSP.out]
                have Q2 := qh ((setRow_oth w1 w.heap.size SP (w.heap.size + 1) (by omega)).trans P2.out)
                have QO := qh (fun k (hk : k ≠ w.heap.size) => setRow_oth w1 w.heap.size SP k hk)
                have QS : Hid ((w1.setRow w.heap.size SP).heap.size = w1.heap.size) := size_setRow _ _ _
                have HB2 := qh (Below.row HB1.out (Nat.le_refl _) SP)
                clear P1 P2 HB1 hSP
                generalize w1.setRow w.heap.size SP = w2 at *
                obtain ⟨⟨-, -, -, -, -, -, -, -, -, -, -, c11, -, -, -⟩, -, hb1⟩ := rc15 Q1.out)
   refine (HL.out _ HB2.out).mono ?_
   rintro e w3 ⟨o2, cap2, c2, rfl, r2, e2, b3⟩
   have S2 := QS.out
   have hs1 := HS1.out
   have T1 := qh ((b3.block w.heap.size hb1).trans Q1.out)
   have T2 := qh ((b3.block (w.heap.size + 1) (by omega)).trans Q2.out)
   have HB3 := qh (HB2.out.trans (b3.mono (by omega)))
   have HO3 : Hid (LiesP (fun k => w.heap.size + 2 ≤ k ∧ k < w3.heap.size) w3 X.v (vv X.v.k X.v.i X.v.s (.slice oV1 X.v.l.length cV1) (.slice oK1 X.v.ks.length cK1) X.v.tk X.v.to X.v.x)) :=
    HO1.out.keptP fun k hk => ⟨⟨by have := hk.1; omega, by have := hk.2; have := b3.size; omega⟩, (b3.block k (by have := hk.2; omega)).trans (QO.out k (by have := hk.1; omega))⟩
   have HR3 : Hid (RowP (fun k => w.heap.size + 2 ≤ k ∧ k < w3.heap.size) w3 o2 cap2 X.l.length 15 c2 ∧ ∀ j x, X.l[j]? = some x → XP (fun k => w.heap.size + 2 ≤ k ∧ k < w3.heap.size) w3 x (.agg (row15 c2 j))) :=
    ⟨r2.keptP fun k hk => ⟨⟨by have := hk.1; omega, hk.2⟩, rfl⟩, fun j x hx => (e2 j x hx).mono fun k hk => ⟨by have := hk.1; omega, hk.2⟩⟩
   have Hb3 : w.heap.size < w3.heap.size ∧ w.heap.size + 1 < w3.heap.size := by have := b3.size; omega
   obtain ⟨h31, h32⟩ := Hb3
   obtain ⟨⟨-, -, -, -, -, -, -, -, -, -, -, d11, -, -, -⟩, ff, -⟩ := rc15 T1.out
   have f11 := ff 11
   clear c11 hb1 Q1 Q2 QO QS HO1 HS1 HB2 b3 r2 e2 S2 HSP
   have U1 : Hid ((w3.setCell ⟨w.heap.size, 11, none⟩ (.slice o2 X.l.length cap2)).heap[w.heap.size]? = some (.cells (xc X oV1 cV1 oK1 cK1 o2 cap2) 38 (0, 0))) := by
    unfold Hid; rw [heap_setCell_same w3 w.heap.size 11 _ 38 _ T1.out]; rfl
   have U2 := qh ((heap_setCell_other w3 ⟨w.heap.size, 11, none⟩ (w.heap.size + 1) (.slice o2 X.l.length cap2) (by simp)).trans T2.out)
   have UO := qh (fun k (hk : k ≠ w.heap.size) => heap_setCell_other w3 ⟨w.heap.size, 11, none⟩ k (.slice o2 X.l.length cap2) hk)
   have US : Hid ((w3.setCell ⟨w.heap.size, 11, none⟩ (.slice o2 X.l.length cap2)).heap.size = w3.heap.size) := by unfold Hid; simp
   have HB4 := qh (HB3.out.setCell (p := ⟨w.heap.size, 11, none⟩) (Nat.le_refl _) (.slice o2 X.l.length cap2))
   go_upto_region 3 with fail
   generalize w3.setCell ⟨w.heap.size, 11, none⟩ (.slice o2 X.l.length cap2) = w4 at *
   clear T1 T2 HB3 d11 f11 ff
   have hs4 := US.out
   have H15 : Hid ((xc X oV1 cV1 oK1 cK1 o2 cap2).all (·.oneCell') = true) := by unfold Hid; simp [Value.oneCell']
   go_wp2_with (first
    | refine wpList_load_row rfl 38 (.tmp 1) rfl w.heap.size rfl 38 (xc X oV1 cV1 oK1 cK1 o2 cap2) _ _ U1.out Tryz.underlying38 rfl (size38z rfl) ?_
    | (refine wpList_store_row rfl 38 (.tmp 2) (.tmp 11) rfl (w.heap.size + 1) (xc X oV1 cV1 oK1 cK1 o2 cap2) rfl rfl 38 _ U2.out (size38z rfl) rfl H15.out ?_
       have V2 := qh (setRow_heap w4 (w.heap.size + 1) _ (xc X oV1 cV1 oK1 cK1 o2 cap2) _ _ U2.out)
       have VO := qh (fun k (hk : k ≠ w.heap.size + 1) => setRow_oth w4 (w.heap.size + 1) (xc X oV1 cV1 oK1 cK1 o2 cap2) k hk)
       have VS : Hid ((w4.setRow (w.heap.size + 1) (xc X oV1 cV1 oK1 cK1 o2 cap2)).heap.size = w4.heap.size) := size_setRow _ _ _
       have HB5 := qh (Below.row HB4.out (Nat.le_succ _) (xc X oV1 cV1 oK1 cK1 o2 cap2))
       generalize w4.setRow (w.heap.size + 1) (xc X oV1 cV1 oK1 cK1 o2 cap2) = w5 at *))
   obtain ⟨⟨z0, z1, z2, z3, z4, z5, z6, z7, z8, z9, z10, z11, z12, z13, z14⟩, -, hzz⟩ := rc15 V2.out
   refine bodyPost_ret (v := .agg (xc X oV1 cV1 oK1 cK1 o2 cap2)) (by simp [results, Tryz.results48, go_sem, z0, z1, z2, z3, z4, z5, z6, z7, z8, z9, z10, z11, z12, z13, z14]) rfl ?_
   have hv5 := VS.out
   have kp : ∀ k, w.heap.size + 2 ≤ k ∧ k < w3.heap.size → FrV w w5 k ∧ w5.heap[k]? = w3.heap[k]? := fun k hk => ⟨⟨by have := hk.1; omega, by have := hk.2; omega⟩, (VO.out k (by have := hk.1; omega)).trans (UO.out k (by have := hk.1; omega))⟩
   exact ⟨_, rfl, rfl, by simp [Value.oneCell'], .mk X oV1 oK1 o2 cV1 cK1 cap2 c2 (HO3.out.keptP kp) (HR3.out.1.keptP kp) (fun j x hx => (HR3.out.2 j x hx).keptP kp), HB5.out⟩
open Go.RowKit Go.Lib

def ScPost (l : List (List UInt8)) (w : World) (e : Ending) (w' : World) : Prop :=
 ∃ (o : Option Addr) (cap : Nat), e = .returned (.slice o l.length cap) ∧ RowP (FrV w w') w' o cap l.length 1 (fun j _ => .string (tx (l.getD j []))) ∧ Below w.heap.size w w'
def strs (l : List (List UInt8)) : List Value := (List.range l.length).map fun j => .string (tx (l.getD j []))
theorem strs_len (l : List (List UInt8)) : (strs l).length = l.length * 1 := by unfold strs; simp
theorem strs_at {l : List (List UInt8)} {j : Nat} (hj : j < l.length) : (strs l)[j]? = some (.string (tx (l.getD j []))) := by
 unfold strs; rw [List.getElem?_map, List.getElem?_range hj]; rfl
theorem strs_lt {l : List (List UInt8)} {j : Nat} {u : Value} (h : (strs l)[j]? = some u) : j < l.length ∧ u = .string (tx (l.getD j [])) := by
 by_cases hj : j < l.length
 · rw [strs_at hj] at h; injection h with h; exact ⟨hj, h.symm⟩
 · rw [List.getElem?_eq_none (by rw [strs_len]; omega)] at h; cases h
theorem sc_fin {l : List (List UInt8)} {w w1 w' : World} {v : Value} (h1 : w1 = w.alloc (.cells #[] 9)) (ho : w'.ownsRow w.heap.size 9 1 v (0 + l.length) ([] ++ strs l)) (hg : w1.grownBy w' (some w.heap.size)) : ScPost l w (.returned v) w' := by
 have hb : Below w.heap.size w w' := by
  subst h1
  exact ⟨hg.os, hg.tape, hg.output, by have := hg.size; simp at this; omega, fun k hk => (hg.block k (by simp; omega) (fun e => by have := Option.some.inj e; omega)).trans (heap_alloc_old w _ hk)⟩
 rw [List.nil_append, Nat.zero_add] at ho
 rcases ho.2 with ⟨rfl, e⟩ | ⟨g, cap, cur, rfl, hgb, hh, hc1, hc2, hc3, hc4⟩
 · exact ⟨none, 0, by rw [e], by rw [e]; exact rowP_nil _ _ _ _, hb⟩
 · refine ⟨some ⟨g, 0, none⟩, cap, rfl, ⟨hc1, hc2, fun e => (by cases e), fun hp => ⟨g, 0, rfl, ⟨hgb, (Array.getElem?_eq_some_iff.1 hh).1⟩, fun j hj m hm => ?_⟩⟩, hb⟩
   obtain rfl : m = 0 := by omega
   have e : (cur.toList.take (l.length * 1))[j]? = some (.string (tx (l.getD j []))) := by rw [hc4]; exact strs_at hj
   rw [List.getElem?_take_of_lt (by omega)] at e
   rw [cell_of_row w' g (0 + j * 1 + 0) _ _ _ hh, show 0 + j * 1 + 0 = j by omega]
   simpa using e
set_option maxRecDepth 100000 in
set_option maxHeartbeats 2000000 in
theorem clone_any {n : Nat} {w : World} {l : List (List UInt8)} {o : Option Addr} {cap : Nat} (hR : RowP (fun k => k < n) w o cap l.length 1 (fun j _ => .string (tx (l.getD j [])))) (hlen : l.length ≤ 60000) (hn : n ≤ w.heap.size) : Calls Tryz.prog 47 #[.slice o l.length cap] w (ScPost l w) := by
 have hc := hR.1
 have hm := hR.2.1
 have hnil := fun (w : World) (a : Option Addr) (n c : Nat) => Lib.run_eql_slice_nil (P := Tryz.prog) w 28 9 a n c 0 0 Tryz.underlying28
 unfold maxLen at hm
 cases o with
 | none =>
   have h0 : cap = 0 := hR.2.2.1 rfl
   have h1 : l.length = 0 := by omega
   have h2 : l = [] := List.length_eq_zero_iff.1 h1
   subst h2
   subst h0
   clear hR hlen h1 hc hm
   go_enter Tryz.func47, Tryz.ntmps47
   go_wp2
   go_ret
   exact ⟨none, 0, rfl, rowP_nil _ _ _ _, Below.refl _ _⟩
 | some ad =>
   obtain ⟨i, hi, hzz⟩ := Option.map_eq_some_iff.1 info9v
   simp only [Prod.mk.injEq] at hzz
   obtain ⟨hz, hs, hb⟩ := hzz
   have HOWN : Hid ((w.alloc (.cells #[] 9)).ownsRow w.heap.size 9 1 (.slice (some ⟨w.heap.size, 0, none⟩) 0 0) 0 []) := ⟨rfl, .inr ⟨w.heap.size, 0, #[], rfl, Nat.le_refl _, heap_alloc_new w _, Nat.le_refl _, Nat.zero_le _, rfl, rfl⟩⟩
   have HN : Hid (∀ j u, (strs l)[j]? = some u → (w.alloc (.cells #[] 9)).cell? (ad.add j) = some u) := fun j u hu => by
    obtain ⟨hj, rfl⟩ := strs_lt hu
    obtain ⟨b, off, eo, hbk, hcel⟩ := hR.2.2.2 (by omega)
    injection eo with eo
    subst eo
    have hadd : (⟨b, off, none⟩ : Addr).add j = ⟨b, off + j, none⟩ := by unfold Addr.add; split <;> simp_all
    have := hcel j hj 0 (by omega)
    rw [show off + j * 1 + 0 = off + j by omega] at this
    rw [hadd]
    exact (World.cell?_of_block (w := w) (heap_alloc_old w _ (by show b < w.heap.size; omega))).trans this
   have H1 : Hid (∀ u ∈ strs l, u.oneCell' = true) := fun u hu => by
    obtain ⟨j, hj⟩ := List.mem_iff_getElem?.1 hu
    obtain ⟨-, rfl⟩ := strs_lt hj
    rfl
   have HL := qh hlen
   clear hR
   go_enter Tryz.func47, Tryz.ntmps47
   go_wp2_with (at_builtin; go_must (refine wpList_append_own_at (P := Tryz.prog) (w := w.alloc (.cells #[] 9)) rfl (.tmp 5) (.tmp 6) 28 rfl w.heap.size 9 i _ 1 16 Tryz.underlying28 hi hz hs hb rfl (by omega) (.slice (some ⟨w.heap.size, 0, none⟩) 0 0) 0 [] rfl HOWN.out ad l.length cap (strs l) rfl (strs_len l) HN.out H1.out (by unfold maxLen; omega) (by omega) (by simp) (fun v' w' hown hgrow _ _ => ?_)))
   have HF := qh (sc_fin rfl hown hgrow)
   clear hown hgrow
   go_wp2_with fail
   go_ret
   exact HF.out
open Go.RowKit Go.Lib

abbrev row22 (D : Nat → Nat → Value) (j : Nat) : Array Value := #[D j 0, D j 1, D j 2, D j 3, D j 4, D j 5, D j 6, D j 7, D j 8, D j 9, D j 10, D j 11, D j 12, D j 13, D j 14, D j 15, D j 16, D j 17, D j 18, D j 19, D j 20, D j 21]
def IcPost (X : It) (w : World) (e : Ending) (w' : World) : Prop := ∃ c : Array Value, e = .returned (.agg c) ∧ c.size = 22 ∧ (∀ u ∈ c.toList, u.oneCell' = true) ∧ IP (FrV w w') w' X (.agg c) ∧ Below w.heap.size w w'
def ItsPost (l : List It) (w : World) (e : Ending) (w' : World) : Prop :=
 ∃ (o : Option Addr) (cap : Nat) (c : Nat → Nat → Value), e = .returned (.slice o l.length cap) ∧ RowP (FrV w w') w' o cap l.length 22 c ∧ (∀ j x, l[j]? = some x → IP (FrV w w') w' x (.agg (row22 c j))) ∧ Below w.heap.size w w'
theorem make40 (len : Nat) (h : len ≤ 60000) (w : World) : (Instr.makeSlice 22 (.int .i64 len) (.int .i64 len)).run Tryz.prog w = .ok (.slice (some ⟨w.heap.size, 0, none⟩) len len) (w.alloc (.cells (madeCells z22 (len * 22)) 40)) := by
 obtain ⟨i, hi, hzz⟩ := Option.map_eq_some_iff.1 info52
 simp only [Prod.mk.injEq] at hzz
 obtain ⟨hz, hs, hb⟩ := hzz
 have hr := run_make (P := Tryz.prog) w 22 40 i _ Tryz.underlying22 hi hz .i64 .i64 len len (by omega) (Int.le_refl _) (by rw [hb]; omega) (by omega)
 simp only [Int.toNat_natCast, hs] at hr
 exact hr
theorem size40z {c : Array Value} (h : c.size = 22) : (Tryz.prog.info? 40).map (·.size) = some c.size := by rw [h]; kernel_rfl
def IRel (l : List It) (g : Nat) (w0 : World) (j : Nat) (wr : World) : Prop :=
 Below g w0 wr ∧ ∃ C, Out wr g 40 l.length 22 j C ∧ ∀ i x, i < j → l[i]? = some x → IP (fun b => g < b ∧ b < wr.heap.size) wr x (.agg (row22 C i))
theorem IRel.fin {l : List It} {w wr : World} (h : IRel l w.heap.size w l.length wr) (hl : l.length ≤ 60000) : ItsPost l w (.returned (.slice (some ⟨w.heap.size, 0, none⟩) l.length l.length)) wr := by
 obtain ⟨hb, C, hO, hE⟩ := h
 refine ⟨some ⟨w.heap.size, 0, none⟩, l.length, C, rfl, ⟨Nat.le_refl _, by unfold maxLen; omega, (fun h => by cases h), fun _ => ?_⟩, fun j x hx => (hE j x (List.getElem?_eq_some_iff.1 hx).1 hx).mono fun k hk => ⟨by omega, hk.2⟩, hb⟩
 refine ⟨_, _, rfl, ⟨Nat.le_refl _, hO.lt⟩, fun j hj m hm => ?_⟩
 obtain ⟨cs, h1, h2, h3⟩ := hO
 rw [cell_of_row wr w.heap.size _ cs 40 (0, 0) h1, Nat.zero_add]
 exact h3 j hj m hm
theorem row22_at (D : Nat → Nat → Value) (j m : Nat) (hm : m < 22) : (row22 D j)[m]? = some (D j m) := by
 obtain rfl | rfl | rfl | rfl | rfl | rfl | rfl | rfl | rfl | rfl | rfl | rfl | rfl | rfl | rfl | rfl | rfl | rfl | rfl | rfl | rfl | rfl := (by omega : m = 0 ∨ m = 1 ∨ m = 2 ∨ m = 3 ∨ m = 4 ∨ m = 5 ∨ m = 6 ∨ m = 7 ∨ m = 8 ∨ m = 9 ∨ m = 10 ∨ m = 11 ∨ m = 12 ∨ m = 13 ∨ m = 14 ∨ m = 15 ∨ m = 16 ∨ m = 17 ∨ m = 18 ∨ m = 19 ∨ m = 20 ∨ m = 21)
 all_goals rfl
theorem row22_eta (c : Array Value) (h : c.size = 22) (D : Nat → Nat → Value) (j : Nat) (hD : ∀ m, m < 22 → D j m = c[m]?.getD undef) : row22 D j = c := by
 refine Array.ext_getElem? fun m => ?_
 by_cases hm : m < 22
 · rw [row22_at D j m hm, hD m hm, Array.getElem?_eq_getElem (by omega)]; rfl
 · rw [Array.getElem?_eq_none (by show 22 ≤ m; omega), Array.getElem?_eq_none (by omega)]
theorem IRel.step {l : List It} {g : Nat} {w0 wr w1 : World} {j : Nat} {C : Nat → Nat → Value} {cs part : Array Value} {X : It} {B : Nat} (hX : l[j]? = some X)
 (hb : Below g w0 w1) (hO : IP (fun b => g < b ∧ b < w1.heap.size) w1 X (.agg part)) (hp : part.size = 22) (h1 : w1.heap[g]? = some (.cells cs 40 (0, 0))) (h2 : cs.size = l.length * 22) (h3 : ∀ i, i < j → ∀ m, m < 22 → cs[i * 22 + m]? = some (C i m))
 (hold : ∀ i x, i < j → l[i]? = some x → IP (fun b => g < b ∧ b < B) wr x (.agg (row22 C i))) (hB : B ≤ w1.heap.size) (hw : ∀ k, k < B → w1.heap[k]? = wr.heap[k]?) :
 IRel l g w0 (j + 1) (w1.setRow g (cs.toList.take (j * 22) ++ part.toList ++ cs.toList.drop (j * 22 + part.size)).toArray) := by
 have hj : j < l.length := by obtain ⟨h, _⟩ := List.getElem?_eq_some_iff.1 hX; exact h
 refine ⟨below_setRow hb (Nat.le_refl _) _, _, Out.store h1 h2 h3 hj hp (fun m => part[m]?.getD undef) (fun m hm => ?_), fun i x hi hx => ?_⟩
 · rw [Array.getElem?_eq_getElem (by omega)]; rfl
 · by_cases e : i = j
   · subst e
     rw [hX] at hx; injection hx with hx; subst hx
     rw [row22_eta part hp _ i (fun m _ => if_pos rfl)]
     exact hO.keptP fun k hk => ⟨⟨hk.1, by rw [size_setRow]; exact hk.2⟩, setRow_oth _ _ _ _ (by omega)⟩
   · have e2 : row22 (fun i m => if i = j then part[m]?.getD undef else C i m) i = row22 C i := by simp only [row22, if_neg e]
     rw [e2]
     exact (hold i x (by omega) hx).keptP fun k hk => ⟨⟨hk.1, by rw [size_setRow]; omega⟩, (setRow_oth _ _ _ _ (by omega)).trans (hw k hk.2)⟩
set_option maxRecDepth 100000 in
set_option maxHeartbeats 4000000 in
theorem copies_49 {n : Nat} {w : World} {l : List It} (hf : ∀ X ∈ l, ∀ (v : Value) (w : World), IP (fun k => k < n) w X v → n ≤ w.heap.size → Calls Tryz.prog 27 #[v] w (IcPost X w)) {o : Option Addr} {cap : Nat} {c : Nat → Nat → Value} (hlen : l.length ≤ 60000) (hR : RowP (fun k => k < n) w o cap l.length 22 c) (hE : ∀ j x, l[j]? = some x → IP (fun k => k < n) w x (.agg (row22 c j))) (hn : n ≤ w.heap.size) :
 Calls Tryz.prog 49 #[.slice o l.length cap, .func (.func 27) #[] #[]] w (ItsPost l w) := by
 have hc := hR.1
 have hm := hR.2.1
 have hnil := fun (w : World) (a : Option Addr) (n c : Nat) => Lib.run_eql_slice_nil (P := Tryz.prog) w 22 40 a n c 0 0 Tryz.underlying22
 unfold maxLen at hm
 cases o with
 | none =>
   have h0 : cap = 0 := hR.2.2.1 rfl
   have h1 : l.length = 0 := by omega
   have h2 : l = [] := List.length_eq_zero_iff.1 h1
   subst h2
   subst h0
   clear hR hE hf hlen h1 hc hm
   go_enter Tryz.func49, Tryz.ntmps49
   go_wp2
   go_ret
   exact ⟨none, 0, c, rfl, rowP_nil _ _ _ _, fun j x h => by simp at h, Below.refl _ _⟩
 | some a =>
   have HF := qh (And.intro hf (And.intro hR hE))
   have hmk := make40 l.length hlen
   have HLN := qh hlen
   have HN := qh hn
   clear hf hR hE hn
   have HO : Hid (IRel l w.heap.size w 0 (w.alloc (.cells (madeCells z22 (l.length * 22)) 40))) :=
    ⟨(Below.refl _ _).alloc (Nat.le_refl _) _, fun _ _ => undef, Out.made _ _ _ _ _ _, fun i x h => absurd h (Nat.not_lt_zero _)⟩
   go_enter Tryz.func49, Tryz.ntmps49
   go_wp2_with fail
   generalize w.alloc (.cells (madeCells _ _) 40) = w0 at *
   clear hmk
   go_loopw [15] (fun i wr => ∃ j : Nat, j ≤ l.length ∧ i = .int .i64 j ∧ Hid (IRel l w.heap.size w j wr)) (fun i _ => l.length - (RowKit.intOf i).toNat)
   case atStart => exact ⟨0, Nat.zero_le _, rfl, HO⟩
   case round =>
    obtain ⟨j, hj, rfl, HR⟩ := hrel
    by_cases hlt : j < l.length
    · obtain ⟨X, hX⟩ : ∃ X, l[j]? = some X := ⟨_, List.getElem?_eq_getElem hlt⟩
      obtain ⟨b, off, ea, hb, hcel⟩ := HF.out.2.1.2.2.2 (by omega)
      injection ea with ea
      subst ea
      have BN := qh (HR.out.1)
      have tk : ∀ i, i < n → wr.heap[i]? = w.heap[i]? := fun i hi => BN.out.block i (by have := HN.out; omega)
      have HX := qh hX
      have HXE : Hid (IP (fun k => k < n) wr X (.agg (row22 c j))) := (HF.out.2.2 j X hX).keptP fun i hi => ⟨hi, tk i hi⟩
      have HFX := qh (HF.out.1 X (List.mem_of_getElem? hX))
      obtain ⟨c', ec, h22, hone⟩ := HXE.out.size
      injection ec with ec
      have HRG : Hid (wr.rangeAt b (off + j * 22) (row22 c j).toList) := fun m u hm => by
       have hlt : m < 22 := by have := (List.getElem?_eq_some_iff.1 hm).1; simpa using this
       rw [World.cell?_of_block (w := w) (tk b hb), hcel j (by omega) m hlt]
       rw [Array.getElem?_toList, row22_at c j m hlt] at hm
       exact hm
      obtain ⟨cx, hcx⟩ : ∃ q, row22 c j = q := ⟨_, rfl⟩
      rw [hcx] at HRG HXE ec
      subst ec
      have H22 := qh h22
      have H1 : Hid (cx.all (·.oneCell') = true) := by unfold Hid; rw [Array.all_eq_true_iff_forall_mem]; intro u hu; exact hone u (by simpa using hu)
      have k0 : ¬ (j : Int) < 0 := by omega
      have k1 : (j : Int) < (l.length : Int) := by omega
      have lb : b < wr.heap.size := by have := HN.out; have := BN.out.size; omega
      have N1 := qh (heap_alloc_new wr (.cells z22 40))
      have HW3 := qh ((Below.refl wr.heap.size wr).alloc (Nat.le_refl _) (.cells z22 40))
      have hws : w.heap.size ≤ wr.heap.size := BN.out.size
      have HWS := qh hws
      clear hX hcx h22 hone tk hb hcel hws
      go_wp2_with (first
       | refine wpList_load_mid rfl 40 (.tmp 18) rfl b (off + j * 22) rfl cx.toList _ HRG.out Tryz.underlying40 rfl (by rw [Array.length_toList]; exact size40z H22.out) ?_
       | (refine wpList_store_row rfl 40 (.tmp 7) (.tmp 19) rfl wr.heap.size cx rfl rfl 40 _ N1.out (size40z H22.out) (by rw [H22.out]; rfl) H1.out ?_
          have r22 := qh (setRow_heap _ _ _ cx _ _ N1.out)
          have HW4 := qh (Below.row HW3.out (Nat.le_refl _) cx)
          clear N1
          generalize World.setRow _ wr.heap.size cx = w4 at *)
       | refine wpList_load_row rfl 40 (.tmp 7) rfl wr.heap.size rfl 40 cx _ _ r22.out Tryz.underlying40 rfl (size40z H22.out) ?_)
      refine (HFX.out _ _ (HXE.out.keptP fun k hk => ⟨hk, HW4.out.block k (by have := HN.out; have := HWS.out; omega)⟩) (by have := HW4.out.size; have := HN.out; have := HWS.out; omega)).mono ?_
      rintro e w5 ⟨part, rfl, hp, hp1, hO, b5⟩
      obtain ⟨hb2, C, ⟨cs, h1, h2, h3⟩, hold⟩ := HR.out
      have hgl : w.heap.size < wr.heap.size := (Array.getElem?_eq_some_iff.1 h1).1
      have hs4 := HW4.out.size
      have hk : ∀ k, k < wr.heap.size → w5.heap[k]? = wr.heap[k]? := fun k hk => (b5.block k (by omega)).trans (HW4.out.block k hk)
      have h1' : w5.heap[w.heap.size]? = some (.cells cs 40 (0, 0)) := (hk _ hgl).trans h1
      have HS := qh (IRel.step HX.out ((hb2.trans (HW4.out.mono (by omega))).trans (b5.mono (by omega))) (hO.mono fun k h => ⟨by have := h.1; omega, h.2⟩) hp h1' h2 h3 hold (by have := b5.size; omega) hk)
      have H1' := qh (And.intro h1' h2)
      have HP1 : Hid (part.all (·.oneCell') = true) := by unfold Hid; rw [Array.all_eq_true_iff_forall_mem]; intro u hu; exact hp1 u (by simpa using hu)
      have HPS := qh hp
      have HFT : Hid (j * 22 + part.size ≤ cs.size) := by unfold Hid; rw [hp, h2, ← Nat.succ_mul]; exact Nat.mul_le_mul_right 22 hlt
      have hg5 : w.heap.size < w5.heap.size := by have := b5.size; omega
      clear h1 h1' h2 h3 hold hb2 hO hk b5 hp hp1 hs4
      go_wp2_with (refine wpList_store_at rfl 40 (.tmp 25) (.tmp 24) rfl w.heap.size (j * 22) rfl part rfl 40 cs H1'.out.1 HFT.out (size40z HPS.out) HP1.out ?_; generalize World.setRow _ _ _ = W at *)
      refine ⟨⟨j + 1, by omega, by go_num, HS⟩, ?_⟩
      simp only [RowKit.intOf]; omega
    · have hjl : j = l.length := by omega
      subst hjl
      have HQ := qh (HR.out.fin HLN.out)
      have k1 : ¬ (l.length : Int) < (l.length : Int) := by omega
      go_wp2_with fail
      go_ret
      exact HQ.out
end Go.Proofs.YtncjncacfagldaaGreatDoor

import Derived.Test.YtncjncacfagldaaGreatDoorYWH
import Derived.Laws.EntriesVeiled
import Derived.WalkKit
import Derived.Below
import Derived.WalkSmall
import Derived.LoopTactic
import Derived.RegionTactic
import Derived.ChangeAlike
import Derived.BigGuardPart
import Derived.Deep.QuietTactic
import Derived.BigQuiet
import Derived.Outline
import Derived.Lib.Hide
import Derived.Handy
import Derived.WalkLawsBesides
import Derived.WalkSpells
import Derived.Deep.DeepMust
import Derived.Deep.DeepFit
import Derived.StillTailTactics
namespace Go.Proofs.YtncjncacfagldaaGreatDoor
open Go.RowKit
theorem opn_one (n : Nat) : (opn n).oneCell' = true := by unfold opn; split <;> rfl
theorem store_opn (P : Program) (a : Addr) (n : Nat) (m : Mode) (w : World) : (store a (opn n) m).run P w = stored P w a (opn n) m := run_store P w a _ m (opn_one n)
attribute [local go_sem] field66_0 field66_1 field66_3 field66_4 store_opn

def sgVal (g : Sg) : Value := .agg #[.int .i64 g.bt, .int .i64 g.hd, opn g.op]
theorem tx_inj {x : List UInt8} {a : Array UInt8} (h : Value.string ⟨a⟩ = .string (tx x)) : x = a.toList := by
 injection h with h
 unfold tx at h
 injection h with h
 rw [h]
set_option maxRecDepth 100000 in
theorem sg_none {x : List UInt8} (h : ∀ e ∈ sgEs.toList, e.key ≠ .string (tx x)) : sgOf x = sg0 := by
 have hn : sgT.find? (fun p => p.1 == x) = none := by
  rw [List.find?_eq_none]
  intro p hp
  simp only [sgT, List.mem_cons, List.not_mem_nil, or_false] at hp
  rcases hp with rfl | rfl | rfl | rfl | rfl | rfl | rfl | rfl | rfl | rfl | rfl | rfl | rfl | rfl | rfl | rfl | rfl
  · intro e; obtain rfl := eq_of_beq e; exact absurd rfl (h ⟨.string ⟨#[124, 124]⟩, .agg #[.int .i64 20, .int .i64 0, .nilFunc], 0⟩ (by simp [sgEs]))
  · intro e; obtain rfl := eq_of_beq e; exact absurd rfl (h ⟨.string ⟨#[38, 38]⟩, .agg #[.int .i64 19, .int .i64 0, .nilFunc], 1⟩ (by simp [sgEs]))
  · intro e; obtain rfl := eq_of_beq e; exact absurd rfl (h ⟨.string ⟨#[60]⟩, .agg #[.int .i64 13, .int .i64 0, .nilFunc], 2⟩ (by simp [sgEs]))
  · intro e; obtain rfl := eq_of_beq e; exact absurd rfl (h ⟨.string ⟨#[60, 61]⟩, .agg #[.int .i64 14, .int .i64 0, .nilFunc], 3⟩ (by simp [sgEs]))
  · intro e; obtain rfl := eq_of_beq e; exact absurd rfl (h ⟨.string ⟨#[62]⟩, .agg #[.int .i64 15, .int .i64 0, .nilFunc], 4⟩ (by simp [sgEs]))
  · intro e; obtain rfl := eq_of_beq e; exact absurd rfl (h ⟨.string ⟨#[62, 61]⟩, .agg #[.int .i64 16, .int .i64 0, .nilFunc], 5⟩ (by simp [sgEs]))
  · intro e; obtain rfl := eq_of_beq e; exact absurd rfl (h ⟨.string ⟨#[61, 61]⟩, .agg #[.int .i64 17, .int .i64 0, .nilFunc], 6⟩ (by simp [sgEs]))
  · intro e; obtain rfl := eq_of_beq e; exact absurd rfl (h ⟨.string ⟨#[33, 61]⟩, .agg #[.int .i64 18, .int .i64 0, .nilFunc], 7⟩ (by simp [sgEs]))
  · intro e; obtain rfl := eq_of_beq e; exact absurd rfl (h ⟨.string ⟨#[43]⟩, .agg #[.int .i64 11, .int .i64 0, .nilFunc], 8⟩ (by simp [sgEs]))
  · intro e; obtain rfl := eq_of_beq e; exact absurd rfl (h ⟨.string ⟨#[45]⟩, .agg #[.int .i64 12, .int .i64 7, .nilFunc], 9⟩ (by simp [sgEs]))
  · intro e; obtain rfl := eq_of_beq e; exact absurd rfl (h ⟨.string ⟨#[42]⟩, .agg #[.int .i64 8, .int .i64 0, .nilFunc], 10⟩ (by simp [sgEs]))
  · intro e; obtain rfl := eq_of_beq e; exact absurd rfl (h ⟨.string ⟨#[47]⟩, .agg #[.int .i64 9, .int .i64 0, .nilFunc], 11⟩ (by simp [sgEs]))
  · intro e; obtain rfl := eq_of_beq e; exact absurd rfl (h ⟨.string ⟨#[37]⟩, .agg #[.int .i64 10, .int .i64 0, .nilFunc], 12⟩ (by simp [sgEs]))
  · intro e; obtain rfl := eq_of_beq e; exact absurd rfl (h ⟨.string ⟨#[33]⟩, .agg #[.int .i64 0, .int .i64 6, .nilFunc], 13⟩ (by simp [sgEs]))
  · intro e; obtain rfl := eq_of_beq e; exact absurd rfl (h ⟨.string ⟨#[40]⟩, .agg #[.int .i64 0, .int .i64 0, .func (.func 114) #[] #[]], 14⟩ (by simp [sgEs]))
  · intro e; obtain rfl := eq_of_beq e; exact absurd rfl (h ⟨.string ⟨#[91]⟩, .agg #[.int .i64 0, .int .i64 0, .func (.func 115) #[] #[]], 15⟩ (by simp [sgEs]))
  · intro e; obtain rfl := eq_of_beq e; exact absurd rfl (h ⟨.string ⟨#[123]⟩, .agg #[.int .i64 0, .int .i64 0, .func (.func 116) #[] #[]], 16⟩ (by simp [sgEs]))
 unfold sgOf
 rw [hn]; rfl
set_option maxRecDepth 100000 in
theorem sg_some {x : List UInt8} {e : MapEntry} (h : e ∈ sgEs.toList) (hk : e.key = .string (tx x)) : e.val = sgVal (sgOf x) := by
 simp only [sgEs, List.mem_cons, List.not_mem_nil, or_false] at h
 rcases h with rfl | rfl | rfl | rfl | rfl | rfl | rfl | rfl | rfl | rfl | rfl | rfl | rfl | rfl | rfl | rfl | rfl
 · obtain rfl := tx_inj hk; rfl
 · obtain rfl := tx_inj hk; rfl
 · obtain rfl := tx_inj hk; rfl
 · obtain rfl := tx_inj hk; rfl
 · obtain rfl := tx_inj hk; rfl
 · obtain rfl := tx_inj hk; rfl
 · obtain rfl := tx_inj hk; rfl
 · obtain rfl := tx_inj hk; rfl
 · obtain rfl := tx_inj hk; rfl
 · obtain rfl := tx_inj hk; rfl
 · obtain rfl := tx_inj hk; rfl
 · obtain rfl := tx_inj hk; rfl
 · obtain rfl := tx_inj hk; rfl
 · obtain rfl := tx_inj hk; rfl
 · obtain rfl := tx_inj hk; rfl
 · obtain rfl := tx_inj hk; rfl
 · obtain rfl := tx_inj hk; rfl
theorem sg_look {w : World} {b : Nat} (hb : w.heap[b]? = some (.map sgEs 17)) {x : List UInt8} (hx : x.length ≤ 100000) : (Instr.lookup 119 (.map (some b)) (.string (tx x)) false).run Tryz.prog w = .ok (sgVal (sgOf x)) w := by
 have hkey : keyOf Tryz.prog 9 (.string (tx x)) = some (.string (tx x).data.toList) := str_key (by unfold tx maxLen; show x.toArray.size ≤ _; simp; omega)
 rcases law9.find w hkey sgEs.toList sg_keys with ⟨h1, h2⟩ | ⟨j, e0, h1, h2, h3⟩
 · rw [sg_none h2]
   simp [Instr.lookup, run_underlying Tryz.underlying119, MapKept.run_getObj_map hb, law9.check w _ hkey, h1, Result.andThen]
   rfl
 · rw [← sg_some (List.mem_of_getElem? h2) h3]
   simp [Instr.lookup, run_underlying Tryz.underlying119, MapKept.run_getObj_map hb, law9.check w _ hkey, h1, Result.andThen]
def Cz.sign (Z : Cz) (s : St) : Sg := if (Z.tz s.p).1.k = 4 then sgOf (Z.tz s.p).1.s else sg0
theorem sign_eq (Z : Cz) (inn : List UInt8 → Ps → Ex × Nat × Ps) (s : St) : (Z.cx inn).sign s = Z.sign s := by unfold Cx.sign Cz.sign; rw [Cz.tk_eq]
theorem sgOf_op (x : List UInt8) : (sgOf x).op = 0 ∨ (sgOf x).op = 1 ∨ (sgOf x).op = 2 ∨ (sgOf x).op = 3 := by
 unfold sgOf
 cases h : sgT.find? (fun p => p.1 == x) with
 | none => left; rfl
 | some p =>
   have hp := List.mem_of_find?_eq_some h
   simp only [sgT, List.mem_cons, List.not_mem_nil, or_false] at hp
   rcases hp with rfl | rfl | rfl | rfl | rfl | rfl | rfl | rfl | rfl | rfl | rfl | rfl | rfl | rfl | rfl | rfl | rfl <;> simp
set_option maxRecDepth 100000 in
set_option maxHeartbeats 2000000 in
theorem sign_any {w : World} {R : Nat} {Z : Cz} {s : St} (h : Rd w R Z s) : Calls Tryz.prog 153 #[.pointer (some ⟨R, 0, none⟩)] w fun e w' => e = .returned (.agg #[.int .i64 (Z.sign s).bt, .int .i64 (Z.sign s).hd, opn (Z.sign s).op]) ∧ Below w.heap.size w w' := by
 have B0 : Below w.heap.size w (w.alloc (.cells #[.int .i64 0, .int .i64 0, .nilFunc] 161)) := (Below.refl _ _).alloc (Nat.le_refl _) _
 have H := qh (And.intro B0 (h.below B0))
 have hn := h.sz.n
 have hle := h.le
 have hsl := (tz_bd h.sz s.p).1
 obtain ⟨⟨r0, r1, r2, r3, r4, r5, r6, r7, r8, r9, r10⟩, -, hR⟩ := rc11 h.blk
 clear r0 r2 r3 r4 r5 r6 r7 r8 r9 r10 h B0
 have HI : Hid (Z.sign s = if (Z.tz s.p).1.k = 4 then sgOf (Z.tz s.p).1.s else sg0) := rfl
 have HT := qh (tok_any H.out.2 s.p (by omega))
 generalize Z.tz s.p = X at HI HT hsl
 generalize Z.sign s = G at *
 by_cases h1 : X.1.k = 4
 · have e1 : ((X.1.k : Int) != 4) = false := by simp [h1]
   have HN : Hid (G = sgOf X.1.s) := by unfold Hid; rw [HI.out, if_pos h1]
   have HO := qh (sgOf_op X.1.s)
   have HSL := qh hsl
   clear h1 HI hsl
   go_enter Tryz.func153, Tryz.ntmps153
   go_wp2_with fail
   refine HT.out.mono ?_
   rintro e w1 ⟨rfl, c1⟩
   have H1 := qh (And.intro (H.out.1.trans (c1.mono H.out.1.size)) (H.out.2.below c1))
   have c3 := (c1.block w.heap.size (by simp)).trans (heap_alloc_new w (.cells #[.int .i64 0, .int .i64 0, .nilFunc] 161))
   obtain ⟨⟨q0, q1, q2⟩, ⟨f0, f1, f2⟩, hz⟩ := rc3 c3
   obtain ⟨⟨r0, r1, r2, r3, r4, r5, r6, r7, r8, r9, r10⟩, -, hR⟩ := rc11 H1.out.2.blk
   have hlk : ∀ o, (Instr.lookup 119 (.map (some Z.sg)) (.string (tx X.1.s)) false).run Tryz.prog (w1.alloc o).drew = .ok (sgVal (sgOf X.1.s)) (w1.alloc o).drew := fun o => sg_look (w := (w1.alloc o).drew) (x := X.1.s) (((H1.out.2.below ((Below.refl _ _).alloc (Nat.le_refl _) o)).zt.sg)) (by have := HSL.out; omega)
   clear c1 c3 HT r0 r1 r3 r4 r5 r6 r7 r8 r9 r10
   unfold sgVal at hlk
   have HN2 : Hid (sgOf X.1.s = G) := HN.out.symm
   rw [HN2.out] at hlk
   clear HN HO
   go_wp2_with fail
   go_region
   all_goals go_wp2
   all_goals
    refine bodyPost_ret (v := .agg #[.int .i64 G.bt, .int .i64 G.hd, opn G.op]) (by simp [results, Tryz.results153, go_sem, q0, q1, q2, hz]) rfl ⟨rfl, ?_⟩
    exact ((((H1.out.1.setCell (p := ⟨w.heap.size, 0, none⟩) (Nat.le_refl _) _).setCell (p := ⟨w.heap.size, 1, none⟩) (Nat.le_refl _) _).setCell (p := ⟨w.heap.size, 2, none⟩) (Nat.le_refl _) _).alloc (by simp; omega) _).drew
 · have e1 : ((X.1.k : Int) != 4) = true := by rw [bne_iff_ne]; omega
   have HN : Hid (G = sg0) := by unfold Hid; rw [HI.out, if_neg h1]
   clear h1 HI hsl
   go_enter Tryz.func153, Tryz.ntmps153
   go_wp2_with fail
   refine HT.out.mono ?_
   rintro e w1 ⟨rfl, c1⟩
   have H1 := qh (And.intro (H.out.1.trans (c1.mono H.out.1.size)) (H.out.2.below c1))
   have c3 := (c1.block w.heap.size (by simp)).trans (heap_alloc_new w (.cells #[.int .i64 0, .int .i64 0, .nilFunc] 161))
   obtain ⟨⟨q0, q1, q2⟩, ⟨f0, f1, f2⟩, hz⟩ := rc3 c3
   clear c1 c3 HT
   go_wp2_with fail
   refine bodyPost_ret (v := .agg #[.int .i64 0, .int .i64 0, .nilFunc]) (by simp [results, Tryz.results153, go_sem, q0, q1, q2, hz]) rfl ⟨by rw [HN.out]; rfl, ?_⟩
   exact (((H1.out.1.setCell (p := ⟨w.heap.size, 0, none⟩) (Nat.le_refl _) _).setCell (p := ⟨w.heap.size, 1, none⟩) (Nat.le_refl _) _).setCell (p := ⟨w.heap.size, 2, none⟩) (Nat.le_refl _) _).alloc (by simp; omega) _
open Go.RowKit

abbrev vv (k i : Int) (s : ByteArray) (L K : Value) (tk to : Int) (x : Bool) : Value := .agg #[.int .i64 k, .int .i64 i, .string s, L, K, .int .i64 tk, .int .i64 to, .bool x]
inductive LiesP (P : Nat → Prop) (w : World) : Val → Value → Prop
 | mk (V : Val) (oL oK : Option Addr) (cL cK : Nat) (c : Nat → Nat → Value)
    (wk : (Lit.int .i64 V.k).wf = true) (wi : (Lit.int .i64 V.i).wf = true) (wtk : (Lit.int .i64 V.tk).wf = true) (wto : (Lit.int .i64 V.to).wf = true)
    (ws : V.s.size ≤ maxLen) (wks : ∀ s, s ∈ V.ks → s.size ≤ maxLen)
    (hL : RowP P w oL cL V.l.length 8 c) (hK : RowP P w oK cK V.ks.length 1 fun j _ => .string (V.ks.getD j default))
    (he : ∀ j x, V.l[j]? = some x → LiesP P w x (.agg #[c j 0, c j 1, c j 2, c j 3, c j 4, c j 5, c j 6, c j 7])) :
    LiesP P w V (vv V.k V.i V.s (.slice oL V.l.length cL) (.slice oK V.ks.length cK) V.tk V.to V.x)
theorem LiesP.keptP {P P' : Nat → Prop} {w w' : World} {V : Val} {v : Value} (h : LiesP P w V v) (b : ∀ k, P k → P' k ∧ w'.heap[k]? = w.heap[k]?) : LiesP P' w' V v := by
 induction h with
 | mk V oL oK cL cK c wk wi wtk wto ws wks hL hK he ih => exact .mk V oL oK cL cK c wk wi wtk wto ws wks (hL.keptP b) (hK.keptP b) ih

abbrev xc (X : Ex) (oV : Option Addr) (cV : Nat) (oK : Option Addr) (cK : Nat) (o : Option Addr) (cap : Nat) : Array Value :=
 #[.int .i64 X.op, .string X.s, .string X.s2, .int .i64 X.v.k, .int .i64 X.v.i, .string X.v.s, .slice oV X.v.l.length cV, .slice oK X.v.ks.length cK, .int .i64 X.v.tk, .int .i64 X.v.to, .bool X.v.x, .slice o X.l.length cap, .int .i64 X.a, .int .i64 X.ln, .int .i64 X.c]
inductive XP (P : Nat → Prop) (w : World) : Ex → Value → Prop
 | mk (X : Ex) (oV oK o : Option Addr) (cV cK cap : Nat) (c : Nat → Nat → Value)
    (hv : LiesP P w X.v (vv X.v.k X.v.i X.v.s (.slice oV X.v.l.length cV) (.slice oK X.v.ks.length cK) X.v.tk X.v.to X.v.x))
    (hl : RowP P w o cap X.l.length 15 c)
    (he : ∀ j x, X.l[j]? = some x → XP P w x (.agg #[c j 0, c j 1, c j 2, c j 3, c j 4, c j 5, c j 6, c j 7, c j 8, c j 9, c j 10, c j 11, c j 12, c j 13, c j 14])) :
    XP P w X (.agg (xc X oV cV oK cK o cap))
theorem XP.keptP {P P' : Nat → Prop} {w w' : World} {X : Ex} {v : Value} (h : XP P w X v) (b : ∀ k, P k → P' k ∧ w'.heap[k]? = w.heap[k]?) : XP P' w' X v := by
 induction h with
 | mk X oV oK o cV cK cap c hv hl he ih => exact .mk X oV oK o cV cK cap c (hv.keptP b) (hl.keptP b) ih
def Nu (n : Nat) (w : World) (R b : Nat) : Prop := n ≤ b ∧ b < w.heap.size ∧ b ≠ R
theorem Nu.fr {w w' : World} {n R : Nat} (f : Fm R w w') : ∀ k, Nu n w R k → Nu n w' R k ∧ w'.heap[k]? = w.heap[k]? := fun k hk => ⟨⟨hk.1, Nat.lt_of_lt_of_le hk.2.1 f.size, hk.2.2⟩, f.block k hk.2.1 (fun e => hk.2.2 (Option.some.inj e))⟩
theorem XP.mono {P P' : Nat → Prop} {w : World} {X : Ex} {v : Value} (h : XP P w X v) (b : ∀ k, P k → P' k) : XP P' w X v := h.keptP fun k hk => ⟨b k hk, rfl⟩
def Xb (n : Nat) (w : World) (R b : Nat) (X : Ex) : Prop := ∃ oV cV oK cK o cap, w.heap[b]? = some (.cells (xc X oV cV oK cK o cap) 38 (0, 0)) ∧ XP (Nu n w R) w X (.agg (xc X oV cV oK cK o cap)) ∧ b ≠ R ∧ n ≤ b
theorem Xb.fr {w w' : World} {n R b : Nat} {X : Ex} (h : Xb n w R b X) (f : Fm R w w') : Xb n w' R b X := by
 obtain ⟨oV, cV, oK, cK, o, cap, h1, h2, h3, h4⟩ := h
 have hb := (Array.getElem?_eq_some_iff.1 h1).1
 exact ⟨oV, cV, oK, cK, o, cap, (f.block b hb (fun e => h3 (Option.some.inj e))).trans h1, h2.keptP (Nu.fr f), h3, h4⟩
theorem Xb.le {w : World} {n m R b : Nat} {X : Ex} (h : Xb n w R b X) (hm : m ≤ n) : Xb m w R b X := by
 obtain ⟨oV, cV, oK, cK, o, cap, h1, h2, h3, h4⟩ := h
 exact ⟨oV, cV, oK, cK, o, cap, h1, h2.mono fun k hk => ⟨Nat.le_trans hm hk.1, hk.2⟩, h3, Nat.le_trans hm h4⟩
def EP (w : World) (R : Nat) (Z : Cz) (p : Nat) (m : Ex × St) (e : Ending) (w' : World) : Prop := ∃ b, e = .returned (.pointer (some ⟨b, 0, none⟩)) ∧ Xb w.heap.size w' R b m.1 ∧ Rd w' R Z m.2 ∧ Fm R w w' ∧ p ≤ m.2.p
theorem rowP_nil (P : Nat → Prop) (w : World) (z : Nat) (c : Nat → Nat → Value) : RowP P w none 0 0 z c := ⟨Nat.le_refl _, Nat.zero_le _, fun _ => rfl, fun h => absurd h (Nat.lt_irrefl _)⟩
theorem lies_lit (P : Nat → Prop) (w : World) (k i : Int) (s : ByteArray) (x : Bool) (hk : (Lit.int .i64 k).wf = true) (hi : (Lit.int .i64 i).wf = true) (hs : s.size ≤ maxLen) : LiesP P w (.mk k i s [] [] 0 0 x) (vv k i s (.slice none 0 0) (.slice none 0 0) 0 0 x) :=
 .mk (.mk k i s [] [] 0 0 x) none none 0 0 (fun _ _ => undef) hk hi (by show (Lit.int .i64 0).wf = true; decide) (by show (Lit.int .i64 0).wf = true; decide) hs (fun s h => by cases h) (rowP_nil _ _ _ _) (rowP_nil _ _ _ _) (fun j x h => by cases h)
theorem xp_mk {P : Nat → Prop} {w : World} (op : Int) (s s2 : ByteArray) {k i : Int} {sv : ByteArray} {x : Bool} (hk : (Lit.int .i64 k).wf = true) (hi : (Lit.int .i64 i).wf = true) (hs : sv.size ≤ maxLen) (l : List Ex) (a ln c : Int) {o : Option Addr} {cap : Nat} {d : Nat → Nat → Value} (hl : RowP P w o cap l.length 15 d)
 (he : ∀ j x, l[j]? = some x → XP P w x (.agg #[d j 0, d j 1, d j 2, d j 3, d j 4, d j 5, d j 6, d j 7, d j 8, d j 9, d j 10, d j 11, d j 12, d j 13, d j 14])) :
 XP P w (.mk op s s2 (.mk k i sv [] [] 0 0 x) l a ln c) (.agg (xc (.mk op s s2 (.mk k i sv [] [] 0 0 x) l a ln c) none 0 none 0 o cap)) :=
 .mk (.mk op s s2 (.mk k i sv [] [] 0 0 x) l a ln c) none none o 0 0 cap d (lies_lit P w k i sv x hk hi hs) hl he
set_option maxRecDepth 100000 in
theorem str_any (s : ByteArray) (w : World) : Calls Tryz.prog 189 #[.string s] w fun e w' => e = .returned (.agg #[.int .i64 3, .int .i64 0, .string s, .slice none 0 0, .slice none 0 0, .int .i64 0, .int .i64 0, .bool false]) ∧ Below w.heap.size w w' := by
 go_enter Tryz.func189, Tryz.ntmps189
 go_wp2
 exact bodyPost_ret (v := .agg #[.int .i64 3, .int .i64 0, .string s, .slice none 0 0, .slice none 0 0, .int .i64 0, .int .i64 0, .bool false]) (by simp [results, Tryz.results189, go_sem]) rfl ⟨rfl, (Below.refl _ _).alloc (Nat.le_refl _) _⟩
set_option maxRecDepth 100000 in
theorem int_any (n : Int) (w : World) : Calls Tryz.prog 201 #[.int .i64 n] w fun e w' => e = .returned (.agg #[.int .i64 2, .int .i64 n, .string ⟨#[]⟩, .slice none 0 0, .slice none 0 0, .int .i64 0, .int .i64 0, .bool false]) ∧ Below w.heap.size w w' := by
 go_enter Tryz.func201, Tryz.ntmps201
 go_wp2
 exact bodyPost_ret (v := .agg #[.int .i64 2, .int .i64 n, .string ⟨#[]⟩, .slice none 0 0, .slice none 0 0, .int .i64 0, .int .i64 0, .bool false]) (by simp [results, Tryz.results201, go_sem]) rfl ⟨rfl, (Below.refl _ _).alloc (Nat.le_refl _) _⟩
theorem num_any (b : Bool) (w : World) : Calls Tryz.prog 206 #[.bool b] w fun e w' => e = .returned (.int .i64 (if b then 1 else 0)) ∧ w' = w := by
 cases b
 all_goals
  go_enter Tryz.func206, Tryz.ntmps206
  go_wp2
  go_ret
  exact ⟨rfl, rfl⟩
set_option maxRecDepth 100000 in
theorem bool_any (b : Bool) (w : World) : Calls Tryz.prog 205 #[.bool b] w fun e w' => e = .returned (.agg #[.int .i64 1, .int .i64 (if b then 1 else 0), .string ⟨#[]⟩, .slice none 0 0, .slice none 0 0, .int .i64 0, .int .i64 0, .bool false]) ∧ Below w.heap.size w w' := by
 have HN := qh (fun w => num_any b w)
 generalize (if b = true then (1 : Int) else 0) = n at *
 go_enter Tryz.func205, Tryz.ntmps205
 go_wp2_with fail
 refine (HN.out _).mono ?_
 rintro e w1 ⟨rfl, rfl⟩
 go_wp2_with fail
 exact bodyPost_ret (v := .agg #[.int .i64 1, .int .i64 n, .string ⟨#[]⟩, .slice none 0 0, .slice none 0 0, .int .i64 0, .int .i64 0, .bool false]) (by simp [results, Tryz.results205, go_sem]) rfl ⟨rfl, (Below.refl _ _).alloc (Nat.le_refl _) _⟩
set_option maxRecDepth 100000 in
set_option maxHeartbeats 1000000 in
theorem tree_any (op : Int) (p : Ps) (o : Option Addr) (n cap : Nat) (w : World) : Calls Tryz.prog 121 #[.int .i64 op, .agg #[.int .i64 p.a, .int .i64 p.l, .int .i64 p.c], .slice o n cap] w fun e w' => ∃ b, e = .returned (.pointer (some ⟨b, 0, none⟩)) ∧ w.heap.size ≤ b ∧ w'.heap[b]? = some (.cells #[.int .i64 op, .string ⟨#[]⟩, .string ⟨#[]⟩, .int .i64 0, .int .i64 0, .string ⟨#[]⟩, .slice none 0 0, .slice none 0 0, .int .i64 0, .int .i64 0, .bool false, .slice o n cap, .int .i64 p.a, .int .i64 p.l, .int .i64 p.c] 38 (0, 0)) ∧ Below w.heap.size w w' := by
 go_enter Tryz.func121, Tryz.ntmps121
 go_wp2
 go_ret
 refine ⟨_, rfl, ?_, ?_, ?_⟩
 · omega
 · exact heap_alloc2_new w _ _
 · exact ((Below.refl _ _).alloc (Nat.le_refl _) _).alloc (by simp) _
set_option maxRecDepth 100000 in
set_option maxHeartbeats 1000000 in
theorem lit_any (k i : Int) (s : ByteArray) (x : Bool) (p : Ps) (w : World) : Calls Tryz.prog 188 #[.agg #[.int .i64 k, .int .i64 i, .string s, .slice none 0 0, .slice none 0 0, .int .i64 0, .int .i64 0, .bool x], .agg #[.int .i64 p.a, .int .i64 p.l, .int .i64 p.c]] w fun e w' => ∃ b, e = .returned (.pointer (some ⟨b, 0, none⟩)) ∧ w.heap.size ≤ b ∧ w'.heap[b]? = some (.cells #[.int .i64 1, .string ⟨#[]⟩, .string ⟨#[]⟩, .int .i64 k, .int .i64 i, .string s, .slice none 0 0, .slice none 0 0, .int .i64 0, .int .i64 0, .bool x, .slice none 0 0, .int .i64 p.a, .int .i64 p.l, .int .i64 p.c] 38 (0, 0)) ∧ Below w.heap.size w w' := by
 go_enter Tryz.func188, Tryz.ntmps188
 go_wp2
 go_ret
 refine ⟨_, rfl, ?_, ?_, ?_⟩
 · omega
 · have := heap_alloc_new ((w.alloc (.cells #[.int .i64 k, .int .i64 i, .string s, .slice none 0 0, .slice none 0 0, .int .i64 0, .int .i64 0, .bool x] 33)).alloc (.cells #[.int .i64 p.a, .int .i64 p.l, .int .i64 p.c] 36)) (.cells #[.int .i64 1, .string ⟨#[]⟩, .string ⟨#[]⟩, .int .i64 k, .int .i64 i, .string s, .slice none 0 0, .slice none 0 0, .int .i64 0, .int .i64 0, .bool x, .slice none 0 0, .int .i64 p.a, .int .i64 p.l, .int .i64 p.c] 38)
   simpa using this
 · exact (((Below.refl _ _).alloc (Nat.le_refl _) _).alloc (by simp) _).alloc (by simp; omega) _

mutual
def sz : Val → Nat | .mk _ _ _ l ks _ _ _ => 1 + ks.length + szL l
def szL : List Val → Nat | [] => 0 | a :: r => sz a + szL r
end
open Go.RowKit

abbrev Row (n : Nat) (w : World) (o : Option Addr) (cap len z : Nat) (c : Nat → Nat → Value) : Prop := RowP (fun b => b < n) w o cap len z c
abbrev Lies (n : Nat) (w : World) (V : Val) (v : Value) : Prop := LiesP (fun b => b < n) w V v
theorem RowP.below {n : Nat} {w w' : World} {o : Option Addr} {cap len z : Nat} {c : Nat → Nat → Value} (h : Row n w o cap len z c) (b : Below n w w') : Row n w' o cap len z c := h.keptP fun k hk => ⟨hk, b.block k hk⟩
theorem LiesP.kept {n : Nat} {w w' : World} {V : Val} {v : Value} (h : Lies n w V v) (b : Below n w w') : Lies n w' V v := h.keptP fun k hk => ⟨hk, b.block k hk⟩
theorem RowP.mono {P P' : Nat → Prop} {w : World} {o : Option Addr} {cap len z : Nat} {c : Nat → Nat → Value} (h : RowP P w o cap len z c) (b : ∀ k, P k → P' k) : RowP P' w o cap len z c := h.keptP fun k hk => ⟨b k hk, rfl⟩
theorem LiesP.mono {P P' : Nat → Prop} {w : World} {V : Val} {v : Value} (h : LiesP P w V v) (b : ∀ k, P k → P' k) : LiesP P' w V v := h.keptP fun k hk => ⟨b k hk, rfl⟩

structure OpnP (P : Nat → Prop) (w : World) (V : Val) (oL oK : Option Addr) (cL cK : Nat) (c : Nat → Nat → Value) : Prop where
 wk : (Lit.int .i64 V.k).wf = true
 wi : (Lit.int .i64 V.i).wf = true
 wtk : (Lit.int .i64 V.tk).wf = true
 wto : (Lit.int .i64 V.to).wf = true
 ws : V.s.size ≤ maxLen
 wks : ∀ s, s ∈ V.ks → s.size ≤ maxLen
 L : RowP P w oL cL V.l.length 8 c
 K : RowP P w oK cK V.ks.length 1 fun j _ => .string (V.ks.getD j default)
 el : ∀ j x, V.l[j]? = some x → LiesP P w x (.agg #[c j 0, c j 1, c j 2, c j 3, c j 4, c j 5, c j 6, c j 7])
abbrev Opn (n : Nat) (w : World) (V : Val) (oL oK : Option Addr) (cL cK : Nat) (c : Nat → Nat → Value) : Prop := OpnP (fun b => b < n) w V oL oK cL cK c
theorem OpnP.kept {n : Nat} {w w' : World} {V : Val} {oL oK : Option Addr} {cL cK : Nat} {c : Nat → Nat → Value} (h : Opn n w V oL oK cL cK c) (b : Below n w w') : Opn n w' V oL oK cL cK c :=
 ⟨h.wk, h.wi, h.wtk, h.wto, h.ws, h.wks, h.L.below b, h.K.below b, fun j x hx => (h.el j x hx).kept b⟩
abbrev bx (V : Val) (oL oK : Option Addr) (cL cK : Nat) : Obj := .cells #[.int .i64 V.k, .int .i64 V.i, .string V.s, .slice oL V.l.length cL, .slice oK V.ks.length cK, .int .i64 V.tk, .int .i64 V.to, .bool V.x] 33
structure Hd (w : World) (b : Nat) (V : Val) (L K : Value) : Prop where
 lt : b < w.heap.size
 c0 : w.cell? ⟨b, 0, none⟩ = some (.int .i64 V.k)
 c1 : w.cell? ⟨b, 1, none⟩ = some (.int .i64 V.i)
 c2 : w.cell? ⟨b, 2, none⟩ = some (.string V.s)
 c3 : w.cell? ⟨b, 3, none⟩ = some L
 c4 : w.cell? ⟨b, 4, none⟩ = some K
 c5 : w.cell? ⟨b, 5, none⟩ = some (.int .i64 V.tk)
 c6 : w.cell? ⟨b, 6, none⟩ = some (.int .i64 V.to)
 c7 : w.cell? ⟨b, 7, none⟩ = some (.bool V.x)
theorem Hd.kept {w w' : World} {b m : Nat} {V : Val} {L K : Value} (h : Hd w b V L K) (hb : Below m w w') (hm : b < m) : Hd w' b V L K :=
 ⟨Nat.lt_of_lt_of_le h.lt hb.size, (hb.cell (p := ⟨b, _, none⟩) hm).trans h.c0, (hb.cell (p := ⟨b, _, none⟩) hm).trans h.c1, (hb.cell (p := ⟨b, _, none⟩) hm).trans h.c2, (hb.cell (p := ⟨b, _, none⟩) hm).trans h.c3,
  (hb.cell (p := ⟨b, _, none⟩) hm).trans h.c4, (hb.cell (p := ⟨b, _, none⟩) hm).trans h.c5, (hb.cell (p := ⟨b, _, none⟩) hm).trans h.c6, (hb.cell (p := ⟨b, _, none⟩) hm).trans h.c7⟩
theorem Hd.made (w : World) (V : Val) (L K : Value) : Hd (w.alloc (.cells #[.int .i64 V.k, .int .i64 V.i, .string V.s, L, K, .int .i64 V.tk, .int .i64 V.to, .bool V.x] 33)) w.heap.size V L K := by
 refine ⟨?_, ?_, ?_, ?_, ?_, ?_, ?_, ?_, ?_⟩ <;> simp [go_sem]
theorem RowP.el1 {P : Nat → Prop} {w : World} {o : Option Addr} {cap len : Nat} {c : Nat → Nat → Value} (h : RowP P w o cap len 1 c) {j : Nat} (hj : j < len) : ∃ b off, o = some ⟨b, off, none⟩ ∧ P b ∧ w.cell? ⟨b, off + j, none⟩ = some (c j 0) := by
 obtain ⟨_, _, _, h4⟩ := h
 obtain ⟨b, off, e, hb, hc⟩ := h4 (by omega)
 have := hc j hj 0 (by omega)
 exact ⟨b, off, e, hb, by simpa using this⟩
def kk (ks : List ByteArray) (j : Nat) : ByteArray := ks.getD j default
theorem RowP.key {P : Nat → Prop} {w : World} {o : Option Addr} {cap : Nat} {ks : List ByteArray} (h : RowP P w o cap ks.length 1 (fun j _ => .string (ks.getD j default))) {j : Nat} (hj : j < ks.length) : ∃ b off, o = some ⟨b, off, none⟩ ∧ P b ∧ w.cell? ⟨b, off + j, none⟩ = some (.string (kk ks j)) := h.el1 hj
open Go.RowKit

end Go.Proofs.YtncjncacfagldaaGreatDoor

import Derived.Test.YtncjncacfagldaaGreatDoorYWZa
import Derived.Test.YtncjncacfagldaaGreatDoorYWI
import Derived.Laws.StructEq
import Derived.BigQuiet
import Derived.BigRegion
import Derived.Deep.Cut
import Derived.ProofKit
import Derived.OpenShut
import Derived.Lib.SmallJoins
import Derived.Carry
import Derived.Deep.Slices
import Derived.Test.YtncjncacfagldaaGreatDoorRows
import Derived.WalkKit
import Derived.LaidMore
import Derived.Lib.LaidTab
import Derived.Stop.Joined
import Derived.Stop.LaidErr
import Derived.ShutString
import Derived.Below
import Derived.SizedLaws
namespace Go.Proofs.YtncjncacfagldaaGreatDoor
open Go.RowKit

mutual
def xsz : Ex → Nat | .mk _ _ _ _ l _ _ _ => 1 + xszL l
def xszL : List Ex → Nat | [] => 0 | a :: r => xsz a + xszL r
end
mutual
def xdp : Ex → Nat | .mk _ _ _ _ l _ _ _ => 1 + xdpL l
def xdpL : List Ex → Nat | [] => 0 | a :: r => max (xdp a) (xdpL r)
end
theorem xsz_pos (X : Ex) : 1 ≤ xsz X := by cases X; unfold xsz; omega
theorem xsz_mem {x : Ex} {l : List Ex} (h : x ∈ l) : xsz x ≤ xszL l := by
 induction l with
 | nil => cases h
 | cons a r ih =>
   rw [xszL]
   rcases List.mem_cons.1 h with rfl | h
   · omega
   · have := ih h; omega
theorem xsz_lt {X x : Ex} (h : x ∈ X.l) : xsz x < xsz X := by
 cases X with
 | mk op s s2 v l a ln c => rw [xsz]; have := xsz_mem (l := l) h; omega
theorem xdp_eq (X : Ex) : xdp X = 1 + xdpL X.l := by cases X; rfl
theorem ex_ind {P : Ex → Prop} (h : ∀ X, (∀ x, x ∈ X.l → P x) → P X) (X : Ex) : P X := by
 have : ∀ n X, xsz X ≤ n → P X := by
  intro n
  induction n with
  | zero => intro X hX; have := xsz_pos X; omega
  | succ n ih => intro X hX; exact h X fun x hx => ih x (by have := xsz_lt hx; omega)
 exact this _ X (Nat.le_refl _)
theorem xdpL_le {l : List Ex} {d : Nat} (h : ∀ x ∈ l, xdp x ≤ d) : xdpL l ≤ d := by
 induction l with
 | nil => exact Nat.zero_le _
 | cons a r ih => rw [xdpL]; exact Nat.max_le.2 ⟨h a (List.mem_cons_self ..), ih fun x hx => h x (List.mem_cons_of_mem _ hx)⟩
theorem xdpL_mem {l : List Ex} {x : Ex} (h : x ∈ l) : xdp x ≤ xdpL l := by
 induction l with
 | nil => cases h
 | cons a r ih =>
   rw [xdpL]
   rcases List.mem_cons.1 h with rfl | h
   · exact Nat.le_max_left _ _
   · exact Nat.le_trans (ih h) (Nat.le_max_right _ _)
theorem xdp_mk (op : Int) (s s2 : ByteArray) (v : Val) (l : List Ex) (a ln c : Int) : xdp (.mk op s s2 v l a ln c) = 1 + xdpL l := rfl
theorem xdp_tree {op : Nat} {p : Ps} {l : List Ex} {d : Nat} (h : ∀ x ∈ l, xdp x ≤ d) : xdp (treeX op p l) ≤ d + 1 := by
 show 1 + xdpL l ≤ _
 have := xdpL_le h; omega
def AllD (d : Nat) (l : List Ex) : Prop := ∀ x ∈ l, xdp x ≤ d
theorem AllD.nil (d : Nat) : AllD d [] := fun x h => by cases h
theorem AllD.snoc {d : Nat} {l : List Ex} (h : AllD d l) {x : Ex} (hx : xdp x ≤ d) : AllD d (l ++ [x]) := fun y hy => by
 rcases List.mem_append.1 hy with hy | hy
 · exact h y hy
 · rw [List.mem_singleton] at hy; subst hy; exact hx
structure DB (F : Fs) (d : Nat) : Prop where
 ex : ∀ s, xdp (F.ex s).1 ≤ d
 jo : ∀ lo s, xdp (F.jo lo s).1 ≤ d
 un : ∀ s, xdp (F.un s).1 ≤ d
section
variable {C : Cx} {F : Fs} {d : Nat}
theorem putE_d (h : DB F d) {D : Nat} (hD : d ≤ D) {l : List Ex} (hl : AllD D l) (s : St) : AllD D (putE F l s).1 := hl.snoc (Nat.le_trans (h.ex s) hD)
theorem partL_d (hi : ∀ t q, xdp (C.inn t q).1 ≤ d) (h1 : 1 ≤ d) (p : Ps) : ∀ (ps : List Prt) (l : List Ex) (s : St), AllD d l → AllD d (partL C p ps l s).1
 | [], _, _, hl => hl
 | t :: r, l, s, hl => by
   unfold partL
   split
   · exact partL_d hi h1 p r _ _ (hl.snoc (hi _ _))
   · exact partL_d hi h1 p r _ _ (hl.snoc h1)
theorem textM_d (hi : ∀ t q, xdp (C.inn t q).1 ≤ d) (h1 : 1 ≤ d) (s : St) : xdp (textM C s).1 ≤ d + 1 := by
 unfold textM
 split
 · exact xdp_tree (partL_d hi h1 _ _ _ _ (AllD.nil d))
 · show 1 ≤ _; omega
theorem keyM_d (hi : ∀ t q, xdp (C.inn t q).1 ≤ d) (h1 : 1 ≤ d) (s : St) : xdp (keyM C s).1 ≤ d + 1 := by
 unfold keyM
 split
 · exact textM_d hi h1 s
 · show 1 ≤ _; omega
theorem putM_d (h : DB F d) (hi : ∀ t q, xdp (C.inn t q).1 ≤ d) (h1 : 1 ≤ d) (b : Bool) {l : List Ex} (hl : AllD (d + 1) l) (s : St) : AllD (d + 1) (putM C F b l s).1 := by
 unfold putM
 split
 · unfold putP
   exact putE_d h (Nat.le_succ d) (hl.snoc (keyM_d hi h1 s)) _
 · exact putE_d h (Nat.le_succ d) hl s
theorem rowL_d (h : DB F d) (hi : ∀ t q, xdp (C.inn t q).1 ≤ d) (h1 : 1 ≤ d) (b : Bool) (x : List UInt8) : ∀ (k : Nat) (l : List Ex) (s : St), AllD (d + 1) l → AllD (d + 1) (rowL C F b x k l s).1
 | 0, _, _, hl => hl
 | k + 1, l, s, hl => by
   unfold rowL
   split
   · exact hl
   · simp only
     split
     · exact rowL_d h hi h1 b x k _ _ (putM_d h hi h1 b hl s)
     · exact putM_d h hi h1 b hl s
theorem rowM_d (h : DB F d) (hi : ∀ t q, xdp (C.inn t q).1 ≤ d) (h1 : 1 ≤ d) (b : Bool) (x : List UInt8) (s : St) : AllD (d + 1) (rowM C F b x s).1 := rowL_d h hi h1 b x _ _ _ (AllD.nil _)
theorem loopM_d (h : DB F d) (op : Nat) (pos : Ps) (x : List UInt8) (s : St) : xdp (loopM C F op pos x s).1 ≤ d + 1 := by
 unfold loopM
 simp only
 rw [xdp_mk]
 have key : ∀ {l : List Ex}, AllD d l → 1 + xdpL l ≤ d + 1 := fun hl => by have := xdpL_le hl; omega
 refine key ?_
 have a1 : ∀ s, AllD d (putE F [] s).1 := fun s => putE_d h (Nat.le_refl _) (AllD.nil d) s
 repeat' (first | exact putE_d h (Nat.le_refl _) (putE_d h (Nat.le_refl _) (putE_d h (Nat.le_refl _) (a1 _) _) _) _ | exact putE_d h (Nat.le_refl _) (putE_d h (Nat.le_refl _) (a1 _) _) _ | exact putE_d h (Nat.le_refl _) (a1 _) _ | split)
theorem firstM_d (h : DB F d) (hi : ∀ t q, xdp (C.inn t q).1 ≤ d) (h1 : 1 ≤ d) (s : St) : xdp (firstM C F s).1 ≤ d + 2 := by
 unfold firstM
 split
 · unfold namedM
   simp only
   split
   · show 1 ≤ _; omega
   · split
     · show 1 ≤ _; omega
     · split
       · show 1 + xdpL _ ≤ _
         have := xdpL_le (rowM_d (C := C) h hi h1 false [41] (C.freeName s).2.pass); omega
       · show 1 + xdpL [] ≤ _; rw [xdpL]; omega
 · split
   · show 1 ≤ _; omega
   · split
     · have := textM_d hi h1 s; omega
     · split
       · have := h.ex s.pass; show xdp (F.ex s.pass).1 ≤ _; omega
       · split
         · unfold listM
           split
           · have := loopM_d (C := C) h 24 (C.pl s) [93] s.pass.pass; omega
           · exact xdp_tree (rowM_d h hi h1 false [93] s.pass)
         · split
           · unfold pairsM
             simp only
             split
             · have := loopM_d (C := C) h 25 (C.pl s) [125] s.pass.pass; omega
             · exact xdp_tree (rowM_d h hi h1 true [125] s.pass)
           · show 1 ≤ _; omega
theorem postL_d (h : DB F d) : ∀ (k : Nat) (e : Ex) (s : St) (D : Nat), d ≤ D → xdp e ≤ D → xdp (postL C F k e s).1 ≤ D + k
 | 0, _, _, _, _, he => he
 | k + 1, e, s, D, hd, he => by
   unfold postL
   split
   · simp only
     refine Nat.le_trans (postL_d h k _ _ (D + 1) (by omega) ?_) (by omega)
     rw [xdp_mk]
     have : xdpL [e] ≤ D := xdpL_le fun x hx => by rw [List.mem_singleton] at hx; subst hx; exact he
     omega
   · split
     · simp only
       refine Nat.le_trans (postL_d h k _ _ (D + 1) (by omega) ?_) (by omega)
       refine xdp_tree fun x hx => ?_
       rcases List.mem_cons.1 hx with rfl | hx
       · exact he
       · rw [List.mem_singleton] at hx; subst hx; exact Nat.le_trans (h.ex _) hd
     · show xdp e ≤ _; omega
theorem unaryM_d (h : DB F d) (hi : ∀ t q, xdp (C.inn t q).1 ≤ d) (h1 : 1 ≤ d) (s : St) : xdp (unaryM C F s).1 ≤ d + C.L.length + 3 := by
 unfold unaryM
 split
 · unfold postM
   have := postL_d (C := C) h (C.L.length + 1) _ (firstM C F s).2 (d + 2) (by omega) (firstM_d (C := C) h hi h1 s)
   omega
 · have : xdp (treeX (C.sign s).hd (C.pl s) [(F.un s.pass).1]) ≤ d + 1 := xdp_tree fun x hx => by rw [List.mem_singleton] at hx; subst hx; exact h.un _
   show xdp (treeX (C.sign s).hd (C.pl s) [(F.un s.pass).1]) ≤ _
   omega
theorem joinL_d (h : DB F d) (lo : Nat) : ∀ (k ti : Nat) (e : Ex) (s : St) (D : Nat), d ≤ D → xdp e ≤ D → xdp (joinL C F lo k ti e s).1 ≤ D + k
 | 0, _, _, _, _, _, he => he
 | k + 1, ti, e, s, D, hd, he => by
   unfold joinL
   simp only
   split
   · show xdp e ≤ _; omega
   · refine Nat.le_trans (joinL_d h lo k _ _ _ (D + 1) (by omega) ?_) (by omega)
     refine xdp_tree fun x hx => ?_
     rcases List.mem_cons.1 hx with rfl | hx
     · exact he
     · rw [List.mem_singleton] at hx; subst hx; exact Nat.le_trans (h.jo _ _) hd
theorem step_d (h : DB F d) (hi : ∀ t q, xdp (C.inn t q).1 ≤ d) (h1 : 1 ≤ d) : DB ⟨exprM C F, joinedM C F, unaryM C F⟩ (d + C.L.length + 3) := by
 refine ⟨fun s => ?_, fun lo s => ?_, fun s => unaryM_d h hi h1 s⟩
 · show xdp (exprM C F s).1 ≤ _
   unfold exprM
   simp only
   split
   · refine Nat.le_trans (xdp_tree (d := d) fun x hx => ?_) (by omega)
     simp only [List.mem_cons, List.not_mem_nil, or_false] at hx
     rcases hx with rfl | rfl | rfl
     · exact h.jo _ _
     · exact h.ex _
     · exact h.ex _
   · have := h.jo 1 s; omega
 · show xdp (joinedM C F lo s).1 ≤ _
   unfold joinedM
   have := joinL_d (C := C) h lo (C.L.length + 1) 5 (F.un s).1 (F.un s).2 d (Nat.le_refl _) (h.un s)
   omega
end
theorem fs_d {C : Cx} {d : Nat} (hi : ∀ t q, xdp (C.inn t q).1 ≤ d) (h1 : 1 ≤ d) : ∀ n, DB (fs C n) (d + n * (C.L.length + 3))
 | 0 => ⟨fun s => by show 1 ≤ _; omega, fun lo s => by show 1 ≤ _; omega, fun s => by show 1 ≤ _; omega⟩
 | n + 1 => by
   have g := step_d (C := C) (fs_d hi h1 n) (fun t q => Nat.le_trans (hi t q) (Nat.le_add_right _ _)) (by omega)
   have e : d + (n + 1) * (C.L.length + 3) = d + n * (C.L.length + 3) + C.L.length + 3 := by rw [Nat.add_mul]; omega
   rw [e]
   exact g
theorem wholeM_d {C : Cx} {d : Nat} (hi : ∀ t q, xdp (C.inn t q).1 ≤ d) (h1 : 1 ≤ d) (hl : C.L.length ≤ 40000) : xdp (wholeM C).1 ≤ d + 5000000000 := by
 have g := (fs_d (C := C) hi h1 (3 * C.L.length + 3)).ex ⟨0, 0, ps0⟩
 have : (3 * C.L.length + 3) * (C.L.length + 3) ≤ (3 * 40000 + 3) * (40000 + 3) := Nat.mul_le_mul (by omega) (by omega)
 show xdp ((fs C (3 * C.L.length + 3)).ex ⟨0, 0, ps0⟩).1 ≤ _
 omega
theorem innM_d (t : List UInt8) (q : Ps) : xdp (innM t q).1 ≤ 6000000000 := by
 cases h : lexL t with
 | error e => obtain ⟨e, p⟩ := e; rw [innM_err h]; show 1 ≤ _; omega
 | ok ts =>
   rw [innM_ok h]
   obtain ⟨g1, g2, g3⟩ := lexL_g h
   have := wholeM_d (C := ⟨ts, q, noInn⟩) (d := 1) (fun _ _ => Nat.le_refl _) (Nat.le_refl _) (by show ts.length ≤ _; omega)
   show xdp (wholeM ⟨ts, q, noInn⟩).1 ≤ _
   omega
open Go.RowKit Go.Lib

theorem xp_at {P : Nat → Prop} {w : World} {X : Ex} {v : Value} (h : XP P w X v) : ∃ oV cV oK cK o cap, v = .agg (xc X oV cV oK cK o cap) ∧ X.l.length ≤ cap ∧ cap ≤ maxLen ∧ LiesP P w X.v (vv X.v.k X.v.i X.v.s (.slice oV X.v.l.length cV) (.slice oK X.v.ks.length cK) X.v.tk X.v.to X.v.x) ∧ ∀ j x, X.l[j]? = some x → ∃ b off oV' cV' oK' cK' o' cap', o = some ⟨b, off, none⟩ ∧ P b ∧ XP P w x (.agg (xc x oV' cV' oK' cK' o' cap')) ∧
 (w.cell? ⟨b, off + j * 15, none⟩ = some (.int .i64 x.op) ∧ w.cell? ⟨b, off + j * 15 + 1, none⟩ = some (.string x.s) ∧ w.cell? ⟨b, off + j * 15 + 2, none⟩ = some (.string x.s2) ∧ w.cell? ⟨b, off + j * 15 + 3, none⟩ = some (.int .i64 x.v.k) ∧ w.cell? ⟨b, off + j * 15 + 4, none⟩ = some (.int .i64 x.v.i) ∧ w.cell? ⟨b, off + j * 15 + 5, none⟩ = some (.string x.v.s) ∧ w.cell? ⟨b, off + j * 15 + 6, none⟩ = some (.slice oV' x.v.l.length cV') ∧ w.cell? ⟨b, off + j * 15 + 7, none⟩ = some (.slice oK' x.v.ks.length cK') ∧ w.cell? ⟨b, off + j * 15 + 8, none⟩ = some (.int .i64 x.v.tk) ∧ w.cell? ⟨b, off + j * 15 + 9, none⟩ = some (.int .i64 x.v.to) ∧ w.cell? ⟨b, off + j * 15 + 10, none⟩ = some (.bool x.v.x) ∧ w.cell? ⟨b, off + j * 15 + 11, none⟩ = some (.slice o' x.l.length cap') ∧ w.cell? ⟨b, off + j * 15 + 12, none⟩ = some (.int .i64 x.a) ∧ w.cell? ⟨b, off + j * 15 + 13, none⟩ = some (.int .i64 x.ln) ∧ w.cell? ⟨b, off + j * 15 + 14, none⟩ = some (.int .i64 x.c)) := by
 cases h with
 | mk X oV oK o cV cK cap c hv hl he =>
   refine ⟨oV, cV, oK, cK, o, cap, rfl, hl.1, hl.2.1, hv, fun j x hx => ?_⟩
   obtain ⟨hj, -⟩ := List.getElem?_eq_some_iff.1 hx
   obtain ⟨b, off, e, hb, hc⟩ := hl.2.2.2 (by omega)
   have hX := he j x hx
   generalize hz : (Value.agg #[c j 0, c j 1, c j 2, c j 3, c j 4, c j 5, c j 6, c j 7, c j 8, c j 9, c j 10, c j 11, c j 12, c j 13, c j 14]) = z at hX
   have hX2 := hX
   cases hX with
   | mk x' oV' oK' o' cV' cK' cap' c' hv' hl' he' =>
     simp only [xc, Value.agg.injEq, Array.mk.injEq, List.cons.injEq, and_true] at hz
     obtain ⟨z0, z1, z2, z3, z4, z5, z6, z7, z8, z9, z10, z11, z12, z13, z14⟩ := hz
     have g := hc j hj
     refine ⟨b, off, oV', cV', oK', cK', o', cap', e, hb, hX2, ?_⟩
     rw [← z0, ← z1, ← z2, ← z3, ← z4, ← z5, ← z6, ← z7, ← z8, ← z9, ← z10, ← z11, ← z12, ← z13, ← z14]
     exact ⟨g 0 (by omega), g 1 (by omega), g 2 (by omega), g 3 (by omega), g 4 (by omega), g 5 (by omega), g 6 (by omega), g 7 (by omega), g 8 (by omega), g 9 (by omega), g 10 (by omega), g 11 (by omega), g 12 (by omega), g 13 (by omega), g 14 (by omega)⟩
theorem XP.bl {P : Nat → Prop} {w w' : World} {X : Ex} {v : Value} (h : XP P w X v) {n : Nat} (hP : ∀ k, P k → k < n) (b : Below n w w') : XP P w' X v := h.keptP fun k hk => ⟨hk, b.block k (hP k hk)⟩
theorem xdpL_take {l : List Ex} {k : Nat} {x : Ex} (h : l[k]? = some x) : xdpL (l.take (k + 1)) = max (xdpL (l.take k)) (xdp x) := by
 have app : ∀ (a : List Ex), xdpL (a ++ [x]) = max (xdpL a) (xdp x) := by
  intro a
  induction a with
  | nil => show max (xdp x) 0 = max 0 (xdp x); omega
  | cons c r ih => show max (xdp c) (xdpL (r ++ [x])) = max (max (xdp c) (xdpL r)) (xdp x); rw [ih]; omega
 rw [List.take_add_one, h]
 exact app _
theorem xdpL_take_le (l : List Ex) (k : Nat) : xdpL (l.take k) ≤ xdpL l := xdpL_le fun _ hx => xdpL_mem (List.mem_of_mem_take hx)
set_option maxRecDepth 100000 in
set_option maxHeartbeats 2000000 in
theorem depth_any {P : Nat → Prop} (X : Ex) : ∀ (v : Value) (w : World), XP P w X v → (∀ k, P k → k < w.heap.size) → xdp X ≤ 9000000000000000000 → Calls Tryz.prog 78 #[v] w fun e w' => e = .returned (.int .i64 (xdp X)) ∧ Below w.heap.size w w' := by
 induction X using ex_ind with
 | h X ih =>
   intro v w h hP hd
   obtain ⟨oV, cV, oK, cK, o, cap, rfl, hlen, hcap, hlv, hat⟩ := xp_at h
   have B0 : Below w.heap.size w (w.alloc (.cells (xc X oV cV oK cK o cap) 38)) := (Below.refl _ _).alloc (Nat.le_refl _) _
   have HB0 := qh B0
   have HD : Hid (xdp X = 1 + xdpL X.l) := xdp_eq X
   have HC := qh hat
   have HW := qh hP
   have HX := qh h
   have HI : Hid (∀ x ∈ X.l, ∀ (v : Value) (w : World), XP P w x v → (∀ k, P k → k < w.heap.size) → Calls Tryz.prog 78 #[v] w fun e w' => e = .returned (.int .i64 (xdp x)) ∧ Below w.heap.size w w') := fun x hx v w hv hw => ih x hx v w hv hw (by have := xdpL_mem hx; have := xdp_eq X; omega)
   have HDL := qh hd
   unfold maxLen at hcap
   generalize xdp X = D at *
   clear ih h hP hlv hat B0 hd
   go_enter Tryz.func78, Tryz.ntmps78
   go_wp2_with fail
   go_loopw [3, 9] (fun v3 v9 wr => ∃ k : Nat, k ≤ X.l.length ∧ v9 = .int .i64 (k : Int) ∧ v3 = .int .i64 (xdpL (X.l.take k) : Nat) ∧ Hid (Below w.heap.size w wr)) (fun _ v _ => X.l.length - (RowKit.intOf v).toNat)
   case atStart => exact ⟨0, Nat.zero_le _, rfl, rfl, HB0.out⟩
   case round =>
    obtain ⟨k, hk, rfl, rfl, HW1⟩ := hrel
    by_cases hlt : k < X.l.length
    · have hx := List.getElem?_eq_getElem hlt
      generalize X.l[k] = x at hx
      have HXD := qh (xdpL_take hx)
      have HXB : Hid (xdp x ≤ 9000000000000000000 ∧ xdpL (X.l.take k) ≤ 9000000000000000000) := by
       have h1 := HD.out
       have h2 := HDL.out
       have := xdpL_mem (List.mem_of_getElem? hx)
       have := xdpL_take_le X.l k
       exact ⟨by omega, by omega⟩
      have HM := qh (List.mem_of_getElem? hx)
      obtain ⟨b, off, oV', cV', oK', cK', o', cap', rfl, hb, hX, c0, c1, c2, c3, c4, c5, c6, c7, c8, c9, c10, c11, c12, c13, c14⟩ := HC.out k x hx
      have hbs := HW.out b hb
      have t : ∀ i, wr.cell? ⟨b, i, none⟩ = w.cell? ⟨b, i, none⟩ := fun i => World.cell?_of_block (HW1.out.block b hbs)
      rw [← t] at c0 c1 c2 c3 c4 c5 c6 c7 c8 c9 c10 c11 c12 c13 c14
      have hbw : b < wr.heap.size := Nat.lt_of_lt_of_le hbs HW1.out.size
      have B1 : Below wr.heap.size wr (wr.alloc (.cells (xc x oV' cV' oK' cK' o' cap') 38)) := (Below.refl _ _).alloc (Nat.le_refl _) _
      have HB1 := qh (HW1.out.trans (B1.mono HW1.out.size))
      have HXX := qh ((hX.bl HW.out HW1.out).bl (fun k hk => Nat.lt_of_lt_of_le (HW.out k hk) HW1.out.size) B1)
      have HCL := qh (HI.out x HM.out _ _ HXX.out (fun k hk => Nat.lt_of_lt_of_le (HW.out k hk) HB1.out.size))
      have e1 : (k : Int) < (X.l.length : Int) := by omega
      have k0 : ¬ (k : Int) < 0 := by omega
      have e2 : IntKind.i64.wrap ((k : Int) + 1) = ((k + 1 : Nat) : Int) := by rw [IntWalk.i64_in _ (by omega)]; rfl
      clear t hX hbs hx B1
      go_wp2_with fail
      refine HCL.out.mono ?_
      rintro e w2 ⟨rfl, c2⟩
      have H2 := qh (HB1.out.trans (c2.mono HB1.out.size))
      clear c0 c1 c2 c3 c4 c5 c6 c7 c8 c9 c10 c11 c12 c13 c14
      have HMX : Hid (max ((xdpL (X.l.take k) : Nat) : Int) ((xdp x : Nat) : Int) = ((xdpL (X.l.take (k + 1)) : Nat) : Int)) := by rw [HXD.out]; unfold Hid; omega
      go_wp2_with fail
      refine ⟨⟨k + 1, hlt, rfl, by rw [HMX.out], H2.out⟩, ?_⟩
      simp only [RowKit.intOf]; omega
    · obtain rfl : k = X.l.length := by omega
      have e1 : ¬ (X.l.length : Int) < (X.l.length : Int) := by omega
      rw [List.take_length]
      have HXB : Hid (xdpL X.l ≤ 9000000000000000000) := by
       have h1 := HD.out
       have h2 := HDL.out
       unfold Hid; omega
      have e2 : IntKind.i64.wrap (1 + ((xdpL X.l : Nat) : Int)) = (D : Int) := by rw [IntWalk.i64_in _ (by have := HXB.out; omega), HD.out]; rfl
      go_wp2_with fail
      go_ret
      exact ⟨rfl, HW1.out⟩
def judgeC (X : Ex) (s : St) (f : Ps) : Nat × Ps := if s.e = 0 ∧ 24 < xdp X then (12, f) else (s.e, s.q)
set_option maxRecDepth 100000 in
set_option maxHeartbeats 2000000 in
theorem judge_any {P : Nat → Prop} {w : World} {R : Nat} {Z : Cz} {s : St} {X : Ex} (h : Rd w R Z s) {oV : Option Addr} {cV : Nat} {oK : Option Addr} {cK : Nat} {o : Option Addr} {cap : Nat} (hx : XP P w X (.agg (xc X oV cV oK cK o cap))) (hP : ∀ k, P k → k < w.heap.size) (hd : xdp X ≤ 9000000000000000000) (f : Ps) :
 Calls Tryz.prog 39 #[.pointer (some ⟨R, 0, none⟩), .agg (xc X oV cV oK cK o cap), pv3 f] w fun e w' => e = .returned (.agg #[.int .i64 (judgeC X s f).1, .int .i64 (judgeC X s f).2.a, .int .i64 (judgeC X s f).2.l, .int .i64 (judgeC X s f).2.c, .string ⟨#[]⟩]) ∧ Below w.heap.size w w' := by
 have HJ : Hid (judgeC X s f = if s.e = 0 ∧ 24 < xdp X then (12, f) else (s.e, s.q)) := rfl
 have O1 : Hid (w.heap.size < (w.alloc (.cells (xc X oV cV oK cK o cap) 38)).heap.size) := by unfold Hid; simp
 have O2 : Hid ((w.alloc (.cells (xc X oV cV oK cK o cap) 38)).heap.size = w.heap.size + 1) := by unfold Hid; simp
 have B3 : Below w.heap.size w (((w.alloc (.cells (xc X oV cV oK cK o cap) 38)).alloc (.cells #[.int .i64 f.a, .int .i64 f.l, .int .i64 f.c] 36)).alloc (.cells #[.int .i64 0, .int .i64 0, .int .i64 0, .int .i64 0, .string ⟨#[]⟩] 53)) := (((Below.refl _ _).alloc (Nat.le_refl _) _).alloc (by simp) _).alloc (by simp; omega) _
 have HB3 := qh B3
 have k33 : Hid ((((w.alloc (.cells (xc X oV cV oK cK o cap) 38)).alloc (.cells #[.int .i64 f.a, .int .i64 f.l, .int .i64 f.c] 36)).alloc (.cells #[.int .i64 0, .int .i64 0, .int .i64 0, .int .i64 0, .string ⟨#[]⟩] 53)).heap[w.heap.size]? = some (.cells (xc X oV cV oK cK o cap) 38 (0, 0))) := (heap_alloc_old _ _ (by simp; omega)).trans ((heap_alloc_old _ _ (by simp)).trans (heap_alloc_new w _))
 have k31 : Hid ((((w.alloc (.cells (xc X oV cV oK cK o cap) 38)).alloc (.cells #[.int .i64 f.a, .int .i64 f.l, .int .i64 f.c] 36)).alloc (.cells #[.int .i64 0, .int .i64 0, .int .i64 0, .int .i64 0, .string ⟨#[]⟩] 53)).heap[w.heap.size + 1]? = some (.cells #[.int .i64 f.a, .int .i64 f.l, .int .i64 f.c] 36 (0, 0))) := (heap_alloc_old _ _ (by simp)).trans (by rw [← O2.out]; exact heap_alloc_new _ _)
 have k36 : Hid ((((w.alloc (.cells (xc X oV cV oK cK o cap) 38)).alloc (.cells #[.int .i64 f.a, .int .i64 f.l, .int .i64 f.c] 36)).alloc (.cells #[.int .i64 0, .int .i64 0, .int .i64 0, .int .i64 0, .string ⟨#[]⟩] 53)).heap[w.heap.size + 1 + 1]? = some (.cells #[.int .i64 0, .int .i64 0, .int .i64 0, .int .i64 0, .string ⟨#[]⟩] 53 (0, 0))) := by
  have e : ((w.alloc (.cells (xc X oV cV oK cK o cap) 38)).alloc (.cells #[.int .i64 f.a, .int .i64 f.l, .int .i64 f.c] 36)).heap.size = w.heap.size + 1 + 1 := by simp
  rw [← e]; exact heap_alloc_new _ _
 have HD := qh (depth_any X _ _ (hx.bl hP B3) (fun k hk => Nat.lt_of_lt_of_le (hP k hk) B3.size) hd)
 have HR3 := qh (h.below B3)
 have HXD : Hid (xdp X ≤ 9000000000000000000) := hd
 generalize judgeC X s f = J at *
 generalize xdp X = D at *
 clear h hx hP hd B3 O1 O2
 go_enter Tryz.func39, Tryz.ntmps39
 go_upto_region 1 with fail
 generalize (((w.alloc (.cells (xc X oV cV oK cK o cap) 38)).alloc (.cells #[.int .i64 f.a, .int .i64 f.l, .int .i64 f.c] 36)).alloc (.cells #[.int .i64 0, .int .i64 0, .int .i64 0, .int .i64 0, .string ⟨#[]⟩] 53)) = w3 at *
 obtain ⟨⟨r0, r1, r2, r3, r4, r5, r6, r7, r8, r9, r10⟩, -, hR⟩ := rc11 HR3.out.blk
 obtain ⟨⟨m0, m1, m2⟩, -, hbm⟩ := rc3 k31.out
 obtain ⟨⟨d0, d1, d2, d3, d4⟩, ⟨g0, g1, g2, g3, g4⟩, hbd⟩ := rc5 k36.out
 clear r0 r1 r2 r3 r4 r5
 by_cases h0 : s.e = 0
 · have e0 : ((s.e : Int) == 0) = true := by simp [h0]
   obtain ⟨⟨c0, c1, c2, c3, c4, c5, c6, c7, c8, c9, c10, c11, c12, c13, c14⟩, -, hbl⟩ := rc15 k33.out
   go_wp2_with fail
   refine HD.out.mono ?_
   rintro e w4 ⟨rfl, b4⟩
   have HB4 := qh (HB3.out.trans (b4.mono HB3.out.size))
   have n31 := qh ((b4.block _ hbm).trans k31.out)
   have n36 := qh ((b4.block _ hbd).trans k36.out)
   have HR4 := qh (HR3.out.below b4)
   clear c0 c1 c2 c3 c4 c5 c6 c7 c8 c9 c10 c11 c12 c13 c14 hbl d0 d1 d2 d3 d4 r6 r7 r8 r9 r10 hR m0 m1 m2 hbm g0 g1 g2 g3 g4 hbd HD HR3 HB3 k31 k33 k36 b4
   obtain ⟨⟨r0, r1, r2, r3, r4, r5, r6, r7, r8, r9, r10⟩, -, hR⟩ := rc11 HR4.out.blk
   obtain ⟨⟨m0, m1, m2⟩, -, hbm⟩ := rc3 n31.out
   obtain ⟨⟨d0, d1, d2, d3, d4⟩, ⟨g0, g1, g2, g3, g4⟩, hbd⟩ := rc5 n36.out
   clear r0 r1 r2 r3 r4 r5
   have hHx := HXD.out
   by_cases hdd : 24 < D
   · have ed : (24 : Int) < (D : Int) := by omega
     have HJ2 : Hid (J = (12, f)) := by unfold Hid; rw [HJ.out, if_pos ⟨h0, hdd⟩]
     clear h0 hdd HJ
     go_wp2_with fail
     exact bodyPost_ret (v := .agg #[.int .i64 (J.1 : Int), .int .i64 J.2.a, .int .i64 J.2.l, .int .i64 J.2.c, .string ⟨#[]⟩]) (by rw [HJ2.out]; simp [results, Tryz.results39, go_sem, d0, d1, d2, d3, d4]) rfl ⟨rfl, ((((HB4.out.setCell (p := ⟨w.heap.size + 1 + 1, 0, none⟩) (Nat.le_add_right w.heap.size 2) _).setCell (p := ⟨w.heap.size + 1 + 1, 1, none⟩) (Nat.le_add_right w.heap.size 2) _).setCell (p := ⟨w.heap.size + 1 + 1, 2, none⟩) (Nat.le_add_right w.heap.size 2) _).setCell (p := ⟨w.heap.size + 1 + 1, 3, none⟩) (Nat.le_add_right w.heap.size 2) _).setCell (p := ⟨w.heap.size + 1 + 1, 4, none⟩) (Nat.le_add_right w.heap.size 2) _⟩
   · have ed : ¬ (24 : Int) < (D : Int) := by omega
     have HJ2 : Hid (J = (s.e, s.q)) := by unfold Hid; rw [HJ.out, if_neg (fun h => hdd h.2)]
     clear h0 hdd HJ
     go_wp2_with fail
     exact bodyPost_ret (v := .agg #[.int .i64 (J.1 : Int), .int .i64 J.2.a, .int .i64 J.2.l, .int .i64 J.2.c, .string ⟨#[]⟩]) (by rw [HJ2.out]; simp [results, Tryz.results39, go_sem, d0, d1, d2, d3, d4]) rfl ⟨rfl, ((((HB4.out.setCell (p := ⟨w.heap.size + 1 + 1, 0, none⟩) (Nat.le_add_right w.heap.size 2) _).setCell (p := ⟨w.heap.size + 1 + 1, 1, none⟩) (Nat.le_add_right w.heap.size 2) _).setCell (p := ⟨w.heap.size + 1 + 1, 2, none⟩) (Nat.le_add_right w.heap.size 2) _).setCell (p := ⟨w.heap.size + 1 + 1, 3, none⟩) (Nat.le_add_right w.heap.size 2) _).setCell (p := ⟨w.heap.size + 1 + 1, 4, none⟩) (Nat.le_add_right w.heap.size 2) _⟩
 · have e0 : ((s.e : Int) == 0) = false := by simp [h0]
   have HJ2 : Hid (J = (s.e, s.q)) := by unfold Hid; rw [HJ.out, if_neg (fun h => h0 h.1)]
   clear h0 HJ
   go_wp2_with fail
   exact bodyPost_ret (v := .agg #[.int .i64 (J.1 : Int), .int .i64 J.2.a, .int .i64 J.2.l, .int .i64 J.2.c, .string ⟨#[]⟩]) (by rw [HJ2.out]; simp [results, Tryz.results39, go_sem, d0, d1, d2, d3, d4]) rfl ⟨rfl, ((((HB3.out.setCell (p := ⟨w.heap.size + 1 + 1, 0, none⟩) (Nat.le_add_right w.heap.size 2) _).setCell (p := ⟨w.heap.size + 1 + 1, 1, none⟩) (Nat.le_add_right w.heap.size 2) _).setCell (p := ⟨w.heap.size + 1 + 1, 2, none⟩) (Nat.le_add_right w.heap.size 2) _).setCell (p := ⟨w.heap.size + 1 + 1, 3, none⟩) (Nat.le_add_right w.heap.size 2) _).setCell (p := ⟨w.heap.size + 1 + 1, 4, none⟩) (Nat.le_add_right w.heap.size 2) _⟩
open Go.RowKit Go.Lib

abbrev XL (n : Nat) (w : World) (X : Ex) (v : Value) : Prop := XP (fun b => b < n) w X v
end Go.Proofs.YtncjncacfagldaaGreatDoor

import Derived.Test.YtncjncacfagldaaGreatDoorYWXN
import Derived.Test.YtncjncacfagldaaGreatDoorYWCC
import Derived.Test.YtncjncacfagldaaGreatDoorYWC0
import Derived.Test.YtncjncacfagldaaGreatDoorYWZe
import Derived.Deep.MidRow
namespace Go.Proofs.YtncjncacfagldaaGreatDoor
open Go.RowKit Go.Lib

def PayL (l : List (List UInt8)) (P : Nat → Prop) (w : World) (v : Value) : Prop := ∃ o cap, v = .slice o l.length cap ∧ RowP P w o cap l.length 1 fun j _ => .string (tx (l.getD j []))
def PayI (l : List It) (P : Nat → Prop) (w : World) (v : Value) : Prop := ∃ o cap d, v = .slice o l.length cap ∧ RowP P w o cap l.length 22 d ∧ ∀ (j : Nat) (x : It), l[j]? = some x → IP P w x (.agg #[d j 0, d j 1, d j 2, d j 3, d j 4, d j 5, d j 6, d j 7, d j 8, d j 9, d j 10, d j 11, d j 12, d j 13, d j 14, d j 15, d j 16, d j 17, d j 18, d j 19, d j 20, d j 21])
theorem PayI.keptP {P P' : Nat → Prop} {w w' : World} {l : List It} {v : Value} (h : PayI l P w v) (b : ∀ k, P k → P' k ∧ w'.heap[k]? = w.heap[k]?) : PayI l P' w' v := by
 obtain ⟨o, cap, d, e, r, x⟩ := h; exact ⟨o, cap, d, e, r.keptP b, fun j y hy => (x j y hy).keptP b⟩
theorem it_ind {P : It → Prop} (h : ∀ X : It, (∀ x ∈ X.l, P x) → P X) : ∀ X, P X := fun X =>
 It.rec (motive_1 := P) (motive_2 := fun l => ∀ x ∈ l, P x) (fun b nm lb e l p ih => h _ ih) (fun x hx => by cases hx) (fun a r ha hr x hx => by
  rcases List.mem_cons.1 hx with rfl | hx
  · exact ha
  · exact hr x hx) X
theorem idpL_take {l : List It} {k : Nat} {x : It} (h : l[k]? = some x) : idpL (l.take (k + 1)) = max (idpL (l.take k)) (idp x) := by
 have app : ∀ (a : List It), idpL (a ++ [x]) = max (idpL a) (idp x) := by
  intro a
  induction a with
  | nil => show max (idp x) 0 = max 0 (idp x); omega
  | cons c r ih => show max (idp c) (idpL (r ++ [x])) = max (max (idp c) (idpL r)) (idp x); rw [ih]; omega
 rw [List.take_add_one, h]
 exact app _
theorem idpL_mem {l : List It} {x : It} (h : x ∈ l) : idp x ≤ idpL l := by
 induction l with
 | nil => cases h
 | cons a r ih =>
   rw [idpL]
   rcases List.mem_cons.1 h with rfl | h
   · omega
   · have := ih h; omega
theorem idp_eq (X : It) : idp X = if X.b then 1 + idpL X.l else 0 := by cases X; rfl
theorem ip_at {n : Nat} {w : World} {l : List It} {v : Value} (h : PayI l (fun k => k < n) w v) : ∃ o cap, v = .slice o l.length cap ∧ l.length ≤ cap ∧ cap ≤ maxLen ∧ ∀ (j : Nat) (X : It), l[j]? = some X → ∃ (b off : Nat) (oI : Option Addr) (cI : Nat) (cs : Array Value), o = some ⟨b, off, none⟩ ∧ b < n ∧ PayI X.l (fun k => k < n) w (.slice oI X.l.length cI) ∧ cs.size = 22 ∧ cs.all (·.oneCell') = true ∧ (∀ m u, cs.toList[m]? = some u → w.cell? ⟨b, off + j * 22 + m, none⟩ = some u) ∧ cs[0]? = some (.bool X.b) ∧ cs[18]? = some (.slice oI X.l.length cI) ∧ IP (fun k => k < n) w X (.agg cs) := by
 obtain ⟨o, cap, d, rfl, r, hx⟩ := h
 obtain ⟨h1, h2, h3, h4⟩ := r
 refine ⟨o, cap, rfl, h1, h2, fun j X hX => ?_⟩
 have hj := (List.getElem?_eq_some_iff.1 hX).1
 obtain ⟨b, off, rfl, hb, hc⟩ := h4 (by omega)
 have g := hc j hj
 have q := hx j X hX
 have hr : ∀ m u, #[d j 0, d j 1, d j 2, d j 3, d j 4, d j 5, d j 6, d j 7, d j 8, d j 9, d j 10, d j 11, d j 12, d j 13, d j 14, d j 15, d j 16, d j 17, d j 18, d j 19, d j 20, d j 21].toList[m]? = some u → w.cell? ⟨b, off + j * 22 + m, none⟩ = some u := by
  intro m u hm
  have hm22 : m < 22 := by have := (List.getElem?_eq_some_iff.1 hm).1; simpa using this
  rw [g m hm22]
  obtain rfl | rfl | rfl | rfl | rfl | rfl | rfl | rfl | rfl | rfl | rfl | rfl | rfl | rfl | rfl | rfl | rfl | rfl | rfl | rfl | rfl | rfl := (by omega : m = 0 ∨ m = 1 ∨ m = 2 ∨ m = 3 ∨ m = 4 ∨ m = 5 ∨ m = 6 ∨ m = 7 ∨ m = 8 ∨ m = 9 ∨ m = 10 ∨ m = 11 ∨ m = 12 ∨ m = 13 ∨ m = 14 ∨ m = 15 ∨ m = 16 ∨ m = 17 ∨ m = 18 ∨ m = 19 ∨ m = 20 ∨ m = 21)
  all_goals exact hm
 generalize #[d j 0, d j 1, d j 2, d j 3, d j 4, d j 5, d j 6, d j 7, d j 8, d j 9, d j 10, d j 11, d j 12, d j 13, d j 14, d j 15, d j 16, d j 17, d j 18, d j 19, d j 20, d j 21] = cs at q hr
 obtain ⟨c', hcc, hc22, hc1⟩ := q.size
 obtain rfl : c' = cs := by injection hcc with e; exact e.symm
 cases q with
 | mk _ oL oV oK oE oI cL cV cK cE cI c hl he hi hy =>
   exact ⟨b, off, oI, cI, _, rfl, hb, ⟨oI, cI, c, rfl, hi, hy⟩, hc22, by rw [Array.all_eq_true_iff_forall_mem]; intro u hu; exact hc1 u (by simpa using hu), hr, rfl, rfl, .mk X oL oV oK oE oI cL cV cK cE cI c hl he hi hy⟩

set_option maxRecDepth 100000 in
set_option maxHeartbeats 4000000 in
theorem cdepthI_any (X : It) : ∀ (n : Nat) (v : Value) (w : World), PayI X.l (fun k => k < n) w v → n ≤ w.heap.size → idpL X.l ≤ 9000000000000000000 → Calls Tryz.prog 11 #[v] w fun e w' => e = .returned (.int .i64 (idpL X.l)) ∧ Below w.heap.size w w' := by
 induction X using it_ind with
 | h X ih =>
   intro n v w h hn hd
   generalize X.l = l at *
   obtain ⟨o, cap, rfl, hlen, hcap, hat⟩ := ip_at h
   have HC := qh hat
   have HI : Hid (∀ x ∈ l, ∀ (n : Nat) (v : Value) (w : World), PayI x.l (fun k => k < n) w v → n ≤ w.heap.size → x.b = true → Calls Tryz.prog 11 #[v] w fun e w' => e = .returned (.int .i64 (idpL x.l)) ∧ Below w.heap.size w w') := fun x hx n v w hv hw hb => ih x hx n v w hv hw (by have := idpL_mem hx; have h2 := idp_eq x; rw [hb, if_pos rfl] at h2; omega)
   have HDL := qh hd
   unfold maxLen at hcap
   clear ih h hat hd
   go_enter Tryz.func11, Tryz.ntmps11
   go_upto_region 3 with fail
   go_loopw [3, 8] (fun v3 v8 wr => ∃ k : Nat, k ≤ l.length ∧ v8 = .int .i64 (k : Int) ∧ v3 = .int .i64 (idpL (l.take k) : Nat) ∧ Hid (Below w.heap.size w wr)) (fun _ v _ => l.length - (RowKit.intOf v).toNat)
   case atStart => exact ⟨0, Nat.zero_le _, rfl, rfl, Below.refl _ _⟩
   case round =>
    obtain ⟨k, hk, rfl, rfl, HW1⟩ := hrel
    by_cases hlt : k < l.length
    · have hx := List.getElem?_eq_getElem hlt
      generalize l[k] = x at hx
      have HXD := qh (idpL_take hx)
      have HM := qh (List.mem_of_getElem? hx)
      obtain ⟨b, off, oI, cI, cs, rfl, hb, hX, h22, hone, hrg, h0, h18, -⟩ := HC.out k x hx
      have bwr : Below w.heap.size w wr := HW1.out
      have t : ∀ i, wr.cell? ⟨b, i, none⟩ = w.cell? ⟨b, i, none⟩ := fun i => World.cell?_of_block (bwr.block b (by omega))
      have HR : Hid (wr.rangeAt b (off + k * 22) cs.toList) := fun m u hm => (t _).trans (hrg m u hm)
      have H22 := qh h22
      have H1 := qh hone
      have H0 := qh h0
      have H18 := qh h18
      have HCL : Hid (x.b = true → ∀ W, Below w.heap.size w W → Calls Tryz.prog 11 #[.slice oI x.l.length cI] W fun e w' => e = .returned (.int .i64 (idpL x.l)) ∧ Below W.heap.size W w') := fun hb W hW => HI.out x HM.out n _ W (hX.keptP fun k hk => ⟨hk, hW.block k (Nat.lt_of_lt_of_le hk hn)⟩) (Nat.le_trans hn hW.size) hb
      have e1 : (k : Int) < (l.length : Int) := by omega
      have k0 : ¬ (k : Int) < 0 := by omega
      have e2 : IntKind.i64.wrap ((k : Int) + 1) = ((k + 1 : Nat) : Int) := by rw [IntWalk.i64_in _ (by omega)]; rfl
      have HDX := qh (idp_eq x)
      have HBD : Hid (idp x ≤ 9000000000000000000) := Nat.le_trans (idpL_mem HM.out) HDL.out
      clear t hX hx hrg h22 hone h0 h18
      obtain ⟨bb, hbb⟩ : ∃ q, x.b = q := ⟨_, rfl⟩
      rw [hbb] at HCL HDX H0
      have B1 : Below w.heap.size w (wr.alloc (.cells z22 40)) := bwr.alloc bwr.size _
      have N1 := qh (heap_alloc_new wr (.cells z22 40))
      have G1 : Hid (w.heap.size ≤ wr.heap.size) := bwr.size
      have HB1 := qh B1
      clear B1 bwr
      cases bb with
      | false =>
        have HMX : Hid (idpL (l.take k) = idpL (l.take (k + 1))) := by have := HXD.out; have := HDX.out; simp at this; unfold Hid; omega
        clear HCL hbb
        go_wp2_with (first
         | refine wpList_load_mid rfl 40 (.tmp 10) rfl b (off + k * 22) rfl cs.toList _ HR.out Tryz.underlying40 rfl (info22 (c := cs) H22.out) ?_
         | (refine wpList_store_row rfl 40 (.tmp 5) (.tmp 11) rfl wr.heap.size cs rfl rfl 40 _ N1.out (info22 H22.out) (by rw [H22.out]; rfl) H1.out ?_
            have r22 := setRow_heap _ _ _ cs _ _ N1.out
            have c0 := (cell_of_row _ _ 0 _ _ _ r22).trans H0.out
            have c18 := (cell_of_row _ _ 18 _ _ _ r22).trans H18.out
            have H2 := qh (Below.row HB1.out G1.out cs)
            clear HB1 N1 r22 HR
            generalize World.setRow _ wr.heap.size cs = w1 at *))
        refine ⟨⟨k + 1, hlt, rfl, by rw [HMX.out], H2.out⟩, ?_⟩
        simp only [RowKit.intOf]; omega
      | true =>
        have HMX : Hid (max ((idpL (l.take k) : Nat) : Int) (1 + ((idpL x.l : Nat) : Int)) = ((idpL (l.take (k + 1)) : Nat) : Int)) := by have := HXD.out; have := HDX.out; simp at this; unfold Hid; omega
        have e3 : IntKind.i64.wrap (1 + ((idpL x.l : Nat) : Int)) = 1 + ((idpL x.l : Nat) : Int) := by
         have := HBD.out; have h2 := HDX.out; simp at h2
         rw [IntWalk.i64_in _ (by omega)]
        replace HCL := qh (HCL.out rfl)
        clear hbb
        go_wp2_with (first
         | refine wpList_load_mid rfl 40 (.tmp 10) rfl b (off + k * 22) rfl cs.toList _ HR.out Tryz.underlying40 rfl (info22 (c := cs) H22.out) ?_
         | (refine wpList_store_row rfl 40 (.tmp 5) (.tmp 11) rfl wr.heap.size cs rfl rfl 40 _ N1.out (info22 H22.out) (by rw [H22.out]; rfl) H1.out ?_
            have r22 := setRow_heap _ _ _ cs _ _ N1.out
            have c0 := (cell_of_row _ _ 0 _ _ _ r22).trans H0.out
            have c18 := (cell_of_row _ _ 18 _ _ _ r22).trans H18.out
            have H2 := qh (Below.row HB1.out G1.out cs)
            clear HB1 N1 r22 HR
            generalize World.setRow _ wr.heap.size cs = w1 at *))
        refine (HCL.out _ H2.out).mono ?_
        rintro e w2 ⟨rfl, c2'⟩
        replace H2 := qh (H2.out.trans (c2'.mono H2.out.size))
        clear c2' c0 c18
        go_wp2_with fail
        refine ⟨⟨k + 1, hlt, rfl, by rw [HMX.out], H2.out⟩, ?_⟩
        simp only [RowKit.intOf]; omega
    · obtain rfl : k = l.length := by omega
      have e1 : ¬ (l.length : Int) < (l.length : Int) := by omega
      rw [List.take_length]
      go_wp2_with fail
      go_ret
      exact ⟨rfl, HW1.out⟩
theorem cdepth_any {l : List It} {n : Nat} {v : Value} {w : World} (h : PayI l (fun k => k < n) w v) (hn : n ≤ w.heap.size) (hd : idpL l ≤ 9000000000000000000) : Calls Tryz.prog 11 #[v] w fun e w' => e = .returned (.int .i64 (idpL l)) ∧ Below w.heap.size w w' :=
 cdepthI_any (.mk true [] [] zeroX l ps0) n v w h hn hd
open Go.RowKit

def OZ (n : Nat) (w : World) (v : Value) (l : List It) : Prop := ∃ cs : List (Array Value), cs.length = l.length ∧ (∀ (j : Nat) (X : It) (c : Array Value), l[j]? = some X → cs[j]? = some c → IP (fun k => k < n) w X (.agg c)) ∧ (∀ c : Array Value, c ∈ cs → c.size = 22 ∧ ∀ u ∈ c.toList, u.oneCell' = true) ∧ w.ownsRow n 40 22 v l.length (cs.flatMap Array.toList)
theorem OZ.nil (n : Nat) (w : World) : OZ n w (.slice none 0 0) [] := ⟨[], rfl, (fun j X c h => by simp at h), (fun c h => by cases h), ⟨rfl, .inl ⟨rfl, rfl⟩⟩⟩
theorem OZ.below {n : Nat} {w w' : World} {v : Value} {l : List It} (h : OZ n w v l) (hn : n ≤ w.heap.size) (b : Below w.heap.size w w') : OZ n w' v l := by
 obtain ⟨cs, h1, h2, h3, h4⟩ := h
 refine ⟨cs, h1, fun j X c hX hc => (h2 j X c hX hc).keptP fun k hk => ⟨hk, b.block k (by omega)⟩, h3, h4.1, ?_⟩
 rcases h4.2 with hx | ⟨g, cap, cur, hv, hbg, hgb, r⟩
 · exact .inl hx
 · exact .inr ⟨g, cap, cur, hv, hbg, (b.block g (Array.getElem?_eq_some_iff.1 hgb).1).trans hgb, r⟩
theorem own_low {n : Nat} {w : World} {v : Value} {m : Nat} {xs : List Value} (ho : w.ownsRow n 40 22 v m xs) : ∀ k, k < n → v.ownBlock ≠ some k := fun k hk e => by
 rcases ho.2 with ⟨rfl, -⟩ | ⟨g, cap, cur, rfl, e2, -⟩
 · cases e
 · have e : g = k := Option.some.inj e
   omega
theorem grown_low {n : Nat} {w w' : World} {v : Value} (hl : ∀ k, k < n → v.ownBlock ≠ some k) (hg : w.grownBy w' v.ownBlock) (hn : n ≤ w.heap.size) : Below n w w' :=
 ⟨hg.os, hg.tape, hg.output, hg.size, fun k hk => hg.block k (by omega) fun e => hl k hk e.symm⟩
set_option maxRecDepth 100000 in
theorem app_oz {w : World} {ops : Array Oper} {rest : List Oper} {o : Oper} {a : Act} {Q : Exit → Act → World → Prop} (hgd : o.guard = none) (s x : Operand)
 (ho : o.op = .call { callee := .builtin .append, args := #[s, x], argTypes := #[22, 22] }) {n : Nat} {v : Value} {l : List It} (hs : a.eval s = v) (hx : a.eval x = .slice (some ⟨w.heap.size, 0, none⟩) 1 1)
 (h : OZ n w v l) {X : It} {c : Array Value} (hX : IP (fun k => k < n) w X (.agg c)) (hn : n ≤ w.heap.size) (hlen : l.length ≤ 100000)
 (K : ∀ v' w', OZ n w' v' (l ++ [X]) → Below n w w' → wpList Tryz.prog ops Q rest (a.put o.dst v') w') : wpList Tryz.prog ops Q (o :: rest) a (w.alloc (.cells c 40)) := by
 obtain ⟨i, hi, hz, hs1, hb⟩ := info_parts info52
 obtain ⟨c', hcc, hc22, hc1⟩ := hX.size
 obtain rfl : c' = c := by injection hcc with e; exact e.symm
 obtain ⟨cs, h1, h2, h3, h4⟩ := h
 have hlow := own_low h4
 refine wpList_append_lies (w.alloc (.cells c' 40)) hgd s x 22 ho n 40 i _ 22 288 Tryz.underlying22 hi hz hs1 hb rfl (by omega) v l.length (cs.flatMap Array.toList) hs (h4.alloc _) ⟨w.heap.size, 0, none⟩ 1 1 c'.toList hx (by simp [hc22]) (cells_lit w c' 40) hc1 (by omega) (by unfold maxLen; omega) (by omega) (by simp; omega) _ rfl (fun g cap w' hown hgrow hat hlt => K _ _ ?_ ?_)
 · have old : ∀ k, k < n → w'.heap[k]? = w.heap[k]? := fun k hk => (hgrow.block k (by simp; omega) (fun e => hlow k hk e.symm)).trans (heap_alloc_old w _ (by omega))
   refine ⟨cs ++ [c'], by simp [h1], fun j Y d hY hd => ?_, fun d hd => ?_, ?_⟩
   · rcases Nat.lt_or_ge j l.length with hj | hj
     · rw [List.getElem?_append_left hj] at hY
       rw [List.getElem?_append_left (by omega)] at hd
       exact (h2 j Y d hY hd).keptP fun k hk => ⟨hk, old k hk⟩
     · rw [List.getElem?_append_right hj] at hY
       rw [List.getElem?_append_right (by omega), h1] at hd
       have hj0 : j - l.length = 0 := by
        have := (List.getElem?_eq_some_iff.1 hY).1
        simp at this; omega
       rw [hj0] at hY hd
       simp at hY hd
       subst hY hd
       exact hX.keptP fun k hk => ⟨hk, old k hk⟩
   · rcases List.mem_append.1 hd with hd | hd
     · exact h3 d hd
     · rw [List.mem_singleton] at hd; subst hd; exact ⟨hc22, hc1⟩
   · rw [List.length_append, List.flatMap_append]; simpa using hown
 · exact ((Below.refl n w).alloc hn _).trans (grown_low hlow hgrow (by simp; omega))
theorem oz_pay {n : Nat} {w : World} {v : Value} {l : List It} (h : OZ n w v l) (hn : n ≤ w.heap.size) : PayI l (fun k => k < w.heap.size) w v := by
 obtain ⟨cs, h1, h2, h3, h4⟩ := h
 have hg : ∀ (j m : Nat) (c : Array Value), cs[j]? = some c → m < 22 → (cs.flatMap Array.toList)[j * 22 + m]? = c[m]? := by
  clear h1 h2 h4
  induction cs with
  | nil => intro j m c h; simp at h
  | cons a r ih =>
    have la : a.toList.length = 22 := by simpa using (h3 a (by simp)).1
    intro j m c hj hm
    rw [List.flatMap_cons]
    cases j with
    | zero =>
      simp only [List.getElem?_cons_zero, Option.some.injEq] at hj
      subst hj
      rw [Nat.zero_mul, Nat.zero_add, List.getElem?_append_left (by omega)]
      simp
    | succ j =>
      simp only [List.getElem?_cons_succ] at hj
      rw [List.getElem?_append_right (by omega), la, show (j + 1) * 22 + m - 22 = j * 22 + m by omega]
      exact ih (fun c hc => h3 c (List.mem_cons_of_mem _ hc)) j m c hj hm
 have hval : ∀ (j : Nat) (x : It), l[j]? = some x → ∃ c, cs[j]? = some c ∧ c.size = 22 := fun j x hx => by
  have hj := (List.getElem?_eq_some_iff.1 hx).1
  exact ⟨cs[j]'(by omega), List.getElem?_eq_getElem _, (h3 _ (List.getElem_mem _)).1⟩
 have hel : ∀ (j : Nat) (x : It), l[j]? = some x → IP (fun k => k < w.heap.size) w x (.agg #[((cs[j]?).getD #[])[0]!, ((cs[j]?).getD #[])[1]!, ((cs[j]?).getD #[])[2]!, ((cs[j]?).getD #[])[3]!, ((cs[j]?).getD #[])[4]!, ((cs[j]?).getD #[])[5]!, ((cs[j]?).getD #[])[6]!, ((cs[j]?).getD #[])[7]!, ((cs[j]?).getD #[])[8]!, ((cs[j]?).getD #[])[9]!, ((cs[j]?).getD #[])[10]!, ((cs[j]?).getD #[])[11]!, ((cs[j]?).getD #[])[12]!, ((cs[j]?).getD #[])[13]!, ((cs[j]?).getD #[])[14]!, ((cs[j]?).getD #[])[15]!, ((cs[j]?).getD #[])[16]!, ((cs[j]?).getD #[])[17]!, ((cs[j]?).getD #[])[18]!, ((cs[j]?).getD #[])[19]!, ((cs[j]?).getD #[])[20]!, ((cs[j]?).getD #[])[21]!]) := fun j x hx => by
  obtain ⟨c, hc, hc22⟩ := hval j x hx
  have := (h2 j x c hx hc).mono (P' := fun k => k < w.heap.size) fun k hk => Nat.lt_of_lt_of_le hk hn
  rw [hc]
  simp only [Option.getD_some]
  obtain ⟨cl⟩ := c
  match cl, hc22 with
  | [c0, c1, c2, c3, c4, c5, c6, c7, c8, c9, c10, c11, c12, c13, c14, c15, c16, c17, c18, c19, c20, c21], _ => exact this
 rcases h4.2 with ⟨rfl, h0⟩ | ⟨g, cap, cur, rfl, hbg, hgb, r1, r2, r3, r4⟩
 · have : l = [] := List.eq_nil_of_length_eq_zero h0
   subst this
   exact ⟨none, 0, fun _ _ => undef, rfl, rowP_nil _ _ _ _, fun j x h => by cases h⟩
 · refine ⟨some ⟨g, 0, none⟩, cap, fun j m => ((cs[j]?).getD #[])[m]!, rfl, ⟨r1, r2, (fun e => by cases e), fun hl => ⟨g, 0, rfl, (Array.getElem?_eq_some_iff.1 hgb).1, fun j hj m hm => ?_⟩⟩, hel⟩
   obtain ⟨c, hc, hc22⟩ := hval j _ (List.getElem?_eq_getElem hj)
   have e1 := hg j m c hc hm
   have e2 : c[m]? = some (((cs[j]?).getD #[])[m]!) := by
    rw [hc]; simp only [Option.getD_some]
    rw [getElem!_pos c m (by omega)]
    exact Array.getElem?_eq_getElem (by omega)
   rw [e2] at e1
   have := h4.cells (g := g) rfl _ _ e1
   have ea : (⟨g, 0, none⟩ : Addr).add (j * 22 + m) = ⟨g, 0 + j * 22 + m, none⟩ := by
    have : 0 + j * 22 + m = j * 22 + m := by omega
    rw [this]; unfold Addr.add; split <;> simp_all
   rw [ea] at this
   exact this
end Go.Proofs.YtncjncacfagldaaGreatDoor

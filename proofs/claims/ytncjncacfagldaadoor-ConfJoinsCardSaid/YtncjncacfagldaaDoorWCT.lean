/- Items in memory as the readers answer them; conf.Depth. -/
import Derived.Test.YtncjncacfagldaaDoorWCI
import Derived.Test.YtncjncacfagldaaDoorWCC
import Derived.Test.YtncjncacfagldaaDoorWC0
import Derived.Test.YtncjncacfagldaaDoorWXA
import Derived.Deep.MidRow
namespace Go.Proofs.YtncjncacfagldaaDoor
open Go.RowKit Go.Lib

/-- labels, items in memory -/
def PayL (l : List (List UInt8)) (P : Nat → Prop) (w : World) (v : Value) : Prop := ∃ o cap, v = .slice o l.length cap ∧ RowP P w o cap l.length 1 fun j _ => .string (tx (l.getD j []))
def PayI (l : List It) (P : Nat → Prop) (w : World) (v : Value) : Prop := ∃ o cap d, v = .slice o l.length cap ∧ RowP P w o cap l.length 22 d ∧ ∀ (j : Nat) (x : It), l[j]? = some x → IP P w x (.agg #[d j 0, d j 1, d j 2, d j 3, d j 4, d j 5, d j 6, d j 7, d j 8, d j 9, d j 10, d j 11, d j 12, d j 13, d j 14, d j 15, d j 16, d j 17, d j 18, d j 19, d j 20, d j 21])
theorem PayL.keptP {P P' : Nat → Prop} {w w' : World} {l : List (List UInt8)} {v : Value} (h : PayL l P w v) (b : ∀ k, P k → P' k ∧ w'.heap[k]? = w.heap[k]?) : PayL l P' w' v := by
  obtain ⟨o, cap, e, r⟩ := h; exact ⟨o, cap, e, r.keptP b⟩
theorem PayI.keptP {P P' : Nat → Prop} {w w' : World} {l : List It} {v : Value} (h : PayI l P w v) (b : ∀ k, P k → P' k ∧ w'.heap[k]? = w.heap[k]?) : PayI l P' w' v := by
  obtain ⟨o, cap, d, e, r, x⟩ := h; exact ⟨o, cap, d, e, r.keptP b, fun j y hy => (x j y hy).keptP b⟩
theorem it_ind {P : It → Prop} (h : ∀ X : It, (∀ x ∈ X.l, P x) → P X) : ∀ X, P X := fun X =>
  It.rec (motive_1 := P) (motive_2 := fun l => ∀ x ∈ l, P x) (fun b nm lb e l p ih => h _ ih) (fun x hx => by cases hx) (fun a r ha hr x hx => by
    rcases List.mem_cons.1 hx with rfl | hx
    · exact ha
    · exact hr x hx) X
theorem idpL_take {l : List It} {k : Nat} {x : It} (h : l[k]? = some x) : idpL (l.take (k + 1)) = max (idpL (l.take k)) (idp x) := by
  have app : ∀ (a : List It), idpL (a ++ [x]) = max (idpL a) (idp x) := by
    intro a
    induction a with
    | nil => show max (idp x) 0 = max 0 (idp x); omega
    | cons c r ih => show max (idp c) (idpL (r ++ [x])) = max (max (idp c) (idpL r)) (idp x); rw [ih]; omega
  rw [List.take_add_one, h]
  exact app _
theorem idpL_mem {l : List It} {x : It} (h : x ∈ l) : idp x ≤ idpL l := by
  induction l with
  | nil => cases h
  | cons a r ih =>
    rw [idpL]
    rcases List.mem_cons.1 h with rfl | h
    · omega
    · have := ih h; omega
theorem idp_eq (X : It) : idp X = if X.b then 1 + idpL X.l else 0 := by cases X; rfl
/-- what stands at one place of a row of items -/
theorem ip_at {n : Nat} {w : World} {l : List It} {v : Value} (h : PayI l (fun k => k < n) w v) : ∃ o cap, v = .slice o l.length cap ∧ l.length ≤ cap ∧ cap ≤ maxLen ∧ ∀ (j : Nat) (X : It), l[j]? = some X → ∃ (b off : Nat) (oI : Option Addr) (cI : Nat) (cs : Array Value), o = some ⟨b, off, none⟩ ∧ b < n ∧ PayI X.l (fun k => k < n) w (.slice oI X.l.length cI) ∧ cs.size = 22 ∧ cs.all (·.oneCell') = true ∧ (∀ m u, cs.toList[m]? = some u → w.cell? ⟨b, off + j * 22 + m, none⟩ = some u) ∧ cs[0]? = some (.bool X.b) ∧ cs[18]? = some (.slice oI X.l.length cI) ∧ IP (fun k => k < n) w X (.agg cs) := by
  obtain ⟨o, cap, d, rfl, r, hx⟩ := h
  obtain ⟨h1, h2, h3, h4⟩ := r
  refine ⟨o, cap, rfl, h1, h2, fun j X hX => ?_⟩
  have hj := (List.getElem?_eq_some_iff.1 hX).1
  obtain ⟨b, off, rfl, hb, hc⟩ := h4 (by omega)
  have g := hc j hj
  have q := hx j X hX
  have hr : ∀ m u, #[d j 0, d j 1, d j 2, d j 3, d j 4, d j 5, d j 6, d j 7, d j 8, d j 9, d j 10, d j 11, d j 12, d j 13, d j 14, d j 15, d j 16, d j 17, d j 18, d j 19, d j 20, d j 21].toList[m]? = some u → w.cell? ⟨b, off + j * 22 + m, none⟩ = some u := by
    intro m u hm
    have hm22 : m < 22 := by have := (List.getElem?_eq_some_iff.1 hm).1; simpa using this
    rw [g m hm22]
    obtain rfl | rfl | rfl | rfl | rfl | rfl | rfl | rfl | rfl | rfl | rfl | rfl | rfl | rfl | rfl | rfl | rfl | rfl | rfl | rfl | rfl | rfl := (by omega : m = 0 ∨ m = 1 ∨ m = 2 ∨ m = 3 ∨ m = 4 ∨ m = 5 ∨ m = 6 ∨ m = 7 ∨ m = 8 ∨ m = 9 ∨ m = 10 ∨ m = 11 ∨ m = 12 ∨ m = 13 ∨ m = 14 ∨ m = 15 ∨ m = 16 ∨ m = 17 ∨ m = 18 ∨ m = 19 ∨ m = 20 ∨ m = 21)
    all_goals exact hm
  generalize #[d j 0, d j 1, d j 2, d j 3, d j 4, d j 5, d j 6, d j 7, d j 8, d j 9, d j 10, d j 11, d j 12, d j 13, d j 14, d j 15, d j 16, d j 17, d j 18, d j 19, d j 20, d j 21] = cs at q hr
  obtain ⟨c', hcc, hc22, hc1⟩ := q.size
  obtain rfl : c' = cs := by injection hcc with e; exact e.symm
  cases q with
  | mk _ oL oV oK oE oI cL cV cK cE cI c hl he hi hy =>
    exact ⟨b, off, oI, cI, _, rfl, hb, ⟨oI, cI, c, rfl, hi, hy⟩, hc22, by rw [Array.all_eq_true_iff_forall_mem]; intro u hu; exact hc1 u (by simpa using hu), hr, rfl, rfl, .mk X oL oV oK oE oI cL cV cK cE cI c hl he hi hy⟩

set_option maxRecDepth 100000 in
set_option maxHeartbeats 4000000 in
theorem cdepthI_any (X : It) : ∀ (n : Nat) (v : Value) (w : World), PayI X.l (fun k => k < n) w v → n ≤ w.heap.size → idpL X.l ≤ 9000000000000000000 → Calls Tryd.prog 28 #[v] w fun e w' => e = .returned (.int .i64 (idpL X.l)) ∧ Below w.heap.size w w' := by
  induction X using it_ind with
  | h X ih =>
    intro n v w h hn hd
    generalize X.l = l at *
    obtain ⟨o, cap, rfl, hlen, hcap, hat⟩ := ip_at h
    have HC := Lib.hid hat
    have HI : Hid (∀ x ∈ l, ∀ (n : Nat) (v : Value) (w : World), PayI x.l (fun k => k < n) w v → n ≤ w.heap.size → x.b = true → Calls Tryd.prog 28 #[v] w fun e w' => e = .returned (.int .i64 (idpL x.l)) ∧ Below w.heap.size w w') := fun x hx n v w hv hw hb => ih x hx n v w hv hw (by have := idpL_mem hx; have h2 := idp_eq x; rw [hb, if_pos rfl] at h2; omega)
    have HDL := Lib.hid hd
    unfold maxLen at hcap
    clear ih h hat hd
    go_enter Tryd.func28, Tryd.ntmps28
    go_upto_region 3 with fail
    go_loopw [3, 8] (fun v3 v8 wr => ∃ k : Nat, k ≤ l.length ∧ v8 = .int .i64 (k : Int) ∧ v3 = .int .i64 (idpL (l.take k) : Nat) ∧ Hid (Below w.heap.size w wr)) (fun _ v _ => l.length - (RowKit.intOf v).toNat)
    case atStart => exact ⟨0, Nat.zero_le _, rfl, rfl, Below.refl _ _⟩
    case round =>
      obtain ⟨k, hk, rfl, rfl, HW1⟩ := hrel
      by_cases hlt : k < l.length
      · have hx := List.getElem?_eq_getElem hlt
        generalize l[k] = x at hx
        have HXD := Lib.hid (idpL_take hx)
        have HM := Lib.hid (List.mem_of_getElem? hx)
        obtain ⟨b, off, oI, cI, cs, rfl, hb, hX, h22, hone, hrg, h0, h18, -⟩ := HC.out k x hx
        have bwr : Below w.heap.size w wr := HW1.out
        have t : ∀ i, wr.cell? ⟨b, i, none⟩ = w.cell? ⟨b, i, none⟩ := fun i => World.cell?_of_block (bwr.block b (by omega))
        have HR : Hid (wr.rangeAt b (off + k * 22) cs.toList) := fun m u hm => (t _).trans (hrg m u hm)
        have H22 := Lib.hid h22
        have H1 := Lib.hid hone
        have H0 := Lib.hid h0
        have H18 := Lib.hid h18
        have HCL : Hid (x.b = true → ∀ W, Below w.heap.size w W → Calls Tryd.prog 28 #[.slice oI x.l.length cI] W fun e w' => e = .returned (.int .i64 (idpL x.l)) ∧ Below W.heap.size W w') := fun hb W hW => HI.out x HM.out n _ W (hX.keptP fun k hk => ⟨hk, hW.block k (Nat.lt_of_lt_of_le hk hn)⟩) (Nat.le_trans hn hW.size) hb
        have e1 : (k : Int) < (l.length : Int) := by omega
        have k0 : ¬ (k : Int) < 0 := by omega
        have e2 : IntKind.i64.wrap ((k : Int) + 1) = ((k + 1 : Nat) : Int) := by rw [IntWalk.i64_in _ (by omega)]; rfl
        have HDX := Lib.hid (idp_eq x)
        have HBD : Hid (idp x ≤ 9000000000000000000) := Nat.le_trans (idpL_mem HM.out) HDL.out
        clear t hX hx hrg h22 hone h0 h18
        obtain ⟨bb, hbb⟩ : ∃ q, x.b = q := ⟨_, rfl⟩
        rw [hbb] at HCL HDX H0
        have B1 : Below w.heap.size w (wr.alloc (.cells #[.bool false, .string ⟨#[]⟩, .slice none 0 0, .int .i64 0, .string ⟨#[]⟩, .string ⟨#[]⟩, .int .i64 0, .int .i64 0, .string ⟨#[]⟩, .slice none 0 0, .slice none 0 0, .int .i64 0, .int .i64 0, .bool false, .slice none 0 0, .int .i64 0, .int .i64 0, .int .i64 0, .slice none 0 0, .int .i64 0, .int .i64 0, .int .i64 0] 52)) := bwr.alloc bwr.size _
        have N1 := Lib.hid (heap_alloc_new wr (.cells #[.bool false, .string ⟨#[]⟩, .slice none 0 0, .int .i64 0, .string ⟨#[]⟩, .string ⟨#[]⟩, .int .i64 0, .int .i64 0, .string ⟨#[]⟩, .slice none 0 0, .slice none 0 0, .int .i64 0, .int .i64 0, .bool false, .slice none 0 0, .int .i64 0, .int .i64 0, .int .i64 0, .slice none 0 0, .int .i64 0, .int .i64 0, .int .i64 0] 52))
        have G1 : Hid (w.heap.size ≤ wr.heap.size) := bwr.size
        have HB1 := Lib.hid B1
        clear B1 bwr
        cases bb with
        | false =>
          have HMX : Hid (idpL (l.take k) = idpL (l.take (k + 1))) := by have := HXD.out; have := HDX.out; simp at this; unfold Hid; omega
          clear HCL hbb
          go_wp2_with (first
            | refine wpList_load_mid rfl 52 (.tmp 10) rfl b (off + k * 22) rfl cs.toList _ HR.out Tryd.underlying52 rfl (info22 (c := cs) H22.out) ?_
            | (refine wpList_store_row rfl 52 (.tmp 5) (.tmp 11) rfl wr.heap.size cs rfl rfl 52 _ N1.out (info22 H22.out) (by rw [H22.out]; rfl) H1.out ?_
               have r22 := setRow_heap _ _ _ cs _ _ N1.out
               have c0 := (cell_of_row _ _ 0 _ _ _ r22).trans H0.out
               have c18 := (cell_of_row _ _ 18 _ _ _ r22).trans H18.out
               have H2 := Lib.hid (Below.row HB1.out G1.out cs)
               clear HB1 N1 r22 HR
               generalize World.setRow _ wr.heap.size cs = w1 at *))
          refine ⟨⟨k + 1, hlt, rfl, by rw [HMX.out], H2.out⟩, ?_⟩
          simp only [RowKit.intOf]; omega
        | true =>
          have HMX : Hid (max ((idpL (l.take k) : Nat) : Int) (1 + ((idpL x.l : Nat) : Int)) = ((idpL (l.take (k + 1)) : Nat) : Int)) := by have := HXD.out; have := HDX.out; simp at this; unfold Hid; omega
          have e3 : IntKind.i64.wrap (1 + ((idpL x.l : Nat) : Int)) = 1 + ((idpL x.l : Nat) : Int) := by
            have := HBD.out; have h2 := HDX.out; simp at h2
            rw [IntWalk.i64_in _ (by omega)]
          replace HCL := Lib.hid (HCL.out rfl)
          clear hbb
          go_wp2_with (first
            | refine wpList_load_mid rfl 52 (.tmp 10) rfl b (off + k * 22) rfl cs.toList _ HR.out Tryd.underlying52 rfl (info22 (c := cs) H22.out) ?_
            | (refine wpList_store_row rfl 52 (.tmp 5) (.tmp 11) rfl wr.heap.size cs rfl rfl 52 _ N1.out (info22 H22.out) (by rw [H22.out]; rfl) H1.out ?_
               have r22 := setRow_heap _ _ _ cs _ _ N1.out
               have c0 := (cell_of_row _ _ 0 _ _ _ r22).trans H0.out
               have c18 := (cell_of_row _ _ 18 _ _ _ r22).trans H18.out
               have H2 := Lib.hid (Below.row HB1.out G1.out cs)
               clear HB1 N1 r22 HR
               generalize World.setRow _ wr.heap.size cs = w1 at *))
          refine (HCL.out _ H2.out).mono ?_
          rintro e w2 ⟨rfl, c2'⟩
          replace H2 := Lib.hid (H2.out.trans (c2'.mono H2.out.size))
          clear c2' c0 c18
          go_wp2_with fail
          refine ⟨⟨k + 1, hlt, rfl, by rw [HMX.out], H2.out⟩, ?_⟩
          simp only [RowKit.intOf]; omega
      · obtain rfl : k = l.length := by omega
        have e1 : ¬ (l.length : Int) < (l.length : Int) := by omega
        rw [List.take_length]
        go_wp2_with fail
        go_ret
        exact ⟨rfl, HW1.out⟩
theorem cdepth_any {l : List It} {n : Nat} {v : Value} {w : World} (h : PayI l (fun k => k < n) w v) (hn : n ≤ w.heap.size) (hd : idpL l ≤ 9000000000000000000) : Calls Tryd.prog 28 #[v] w fun e w' => e = .returned (.int .i64 (idpL l)) ∧ Below w.heap.size w w' :=
  cdepthI_any (.mk true [] [] zeroX l ps0) n v w h hn hd
end Go.Proofs.YtncjncacfagldaaDoor

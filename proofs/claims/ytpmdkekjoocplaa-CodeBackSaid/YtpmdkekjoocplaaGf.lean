/- The reader: key. -/
import Derived.Test.YtpmdkekjoocplaaGe
import Derived.Deep.AppendLies
namespace Go.Proofs.Ytpmdkekjoocplaa
open Go.RowKit

/-- all blocks but the reader's and one row's are as they were -/
structure Exq (rb : Nat) (row : Option Nat) (w w' : World) : Prop where
  os : w'.os = w.os
  tape : w'.tape = w.tape
  output : w'.output = w.output
  size : w.heap.size ≤ w'.heap.size
  block : ∀ k, k < w.heap.size → k ≠ rb → some k ≠ row → w'.heap[k]? = w.heap[k]?
theorem Exq.of_exc {rb : Nat} {row : Option Nat} {w w' : World} (h : Exc (some rb) w w') : Exq rb row w w' :=
  ⟨h.os, h.tape, h.output, h.size, fun k hk hr _ => h.block k hk fun e => hr (by injection e with e; exact e.symm)⟩
theorem Exq.trans {rb : Nat} {row : Option Nat} {a b c : World} (h : Exq rb row a b) (k : Exq rb row b c) : Exq rb row a c :=
  ⟨k.os.trans h.os, k.tape.trans h.tape, k.output.trans h.output, Nat.le_trans h.size k.size, fun i hi hc h2 => (k.block i (Nat.lt_of_lt_of_le hi h.size) hc h2).trans (h.block i hi hc h2)⟩
theorem Exq.of_grown {rb : Nat} {row : Option Nat} {w w' : World} (h : w.grownBy w' row) : Exq rb row w w' :=
  ⟨h.os, h.tape, h.output, h.size, fun k hk _ h2 => h.block k hk h2⟩
theorem info9 : (Try.prog.info? 9).map (fun i => (i.zero, i.size, i.bytes)) = some (some (.string ⟨#[]⟩), 1, 16) := by kernel_rfl
theorem ownsRow_kept {w w' : World} {base e size n : Nat} {v : Value} {xs : List Value} (h : w.ownsRow base e size v n xs) (hb : ∀ g, v.ownBlock = some g → w'.heap[g]? = w.heap[g]?) : w'.ownsRow base e size v n xs := by
  refine ⟨h.1, ?_⟩
  rcases h.2 with hn | ⟨g, cap, cur, rfl, hg, hgg, rest⟩
  · exact .inl hn
  · exact .inr ⟨g, cap, cur, rfl, hg, by rw [hb g rfl]; exact hgg, rest⟩
/-- the next key, or what is wrong -/
def keyR (ks : List ByteArray) (b : List Nat) : Except Nat (ByteArray × Nat) :=
  match gstr b 1024 with
  | .error e => .error e
  | .ok (s, k) => if 0 < ks.length ∧ blt (kk ks (ks.length - 1)) s = false then .error 4 else .ok (s, k)
/-- keys as cells -/
def kcs (ks : List ByteArray) : List Value := ks.map Value.string
def KeyPost (rb : Nat) (o : Option Addr) (cap : Nat) (M : List Nat) (at' wt base : Nat) (v : Value) (ks : List ByteArray) (w : World) (e : Ending) (w' : World) : Prop :=
  ∃ x, Rdr w' rb o cap M x wt ∧ Exq rb v.ownBlock w w' ∧
    match keyR ks (M.drop at') with
    | .error y => e = .returned (.tuple #[.slice none 0 0, .int .i64 y])
    | .ok (s, k) => x = at' + k ∧ ∃ g c, e = .returned (.tuple #[.slice (some ⟨g, 0, none⟩) (ks.length + 1) c, .int .i64 0]) ∧
        w'.ownsRow base 9 1 (.slice (some ⟨g, 0, none⟩) (ks.length + 1) c) (ks.length + 1) (kcs (ks ++ [s])) ∧ (v.ownBlock = some g ∨ w.heap.size ≤ g)
theorem bl_total : ∀ a b : List UInt8, (Op.bytesLess a b || a == b) = !Op.bytesLess b a
  | [], [] => rfl
  | [], _ :: _ => rfl
  | _ :: _, [] => rfl
  | a :: x, b :: y => by
    have ih := bl_total x y
    show ((decide (a < b) || (a == b && Op.bytesLess x y)) || (a == b && x == y)) = !(decide (b < a) || (b == a && Op.bytesLess y x))
    rcases Nat.lt_trichotomy a.toNat b.toNat with h | h | h
    · have h1 : a < b := h
      have h2 : ¬ b < a := fun h' => Nat.lt_asymm h h'
      have h3 : (b == a) = false := by rw [beq_eq_false_iff_ne]; intro e; subst e; exact Nat.lt_irrefl _ h
      rw [decide_eq_true h1, decide_eq_false h2, h3]; simp
    · obtain rfl : a = b := UInt8.toNat_inj.1 h
      have h1 : ¬ a < a := Nat.lt_irrefl _
      rw [decide_eq_false h1]
      simpa using ih
    · have h1 : b < a := h
      have h2 : ¬ a < b := fun h' => Nat.lt_asymm h h'
      have h3 : (a == b) = false := by rw [beq_eq_false_iff_ne]; intro e; subst e; exact Nat.lt_irrefl _ h
      rw [decide_eq_true h1, decide_eq_false h2, h3]; simp
theorem gstr_ok {b : List Nat} {m : Nat} {s : ByteArray} {k : Nat} (h : gstr b m = .ok (s, k)) : s.size ≤ m := by
  unfold gstr at h
  split at h
  · cases h
  · split at h
    · cases h
    · split at h
      · cases h
      · simp only [Except.ok.injEq, Prod.mk.injEq] at h
        obtain ⟨rfl, _⟩ := h
        show ((List.map UInt8.ofNat _).toArray).size ≤ m
        simp; omega
theorem Rdr.grown {w w' : World} {rb : Nat} {o : Option Addr} {cap : Nat} {M : List Nat} {at' wt : Nat} {row : Option Nat} (h : Rdr w rb o cap M at' wt) (hg : w.grownBy w' row) (hr : ∀ g, row = some g → rb < g) : Rdr w' rb o cap M at' wt :=
  h.kept ((Below.refl (rb + 1) w).grown hg h.lt hr) (Nat.lt_succ_self _)
/-- behind the append of a key -/
theorem key_end {rb : Nat} {o : Option Addr} {cap : Nat} {M : List Nat} {at' wt base y k g c : Nat} {v : Value} {ks : List ByteArray} {s : ByteArray} {w w1 w2 : World} {e : Ending} (hy : y = at' + k) (hR : Rd w rb o cap M y wt w1)
    (hv : ∀ g, v.ownBlock = some g → base ≤ g ∧ g < w.heap.size) (hrb : rb < base) (hown : w2.ownsRow base 9 1 (.slice (some ⟨g, 0, none⟩) (ks.length + 1) c) (ks.length + 1) (kcs ks ++ [.string s])) (hgrow : (w1.alloc (.cells #[.string s] 9)).grownBy w2 v.ownBlock)
    (hat : v.ownBlock = some g ∨ g = w1.heap.size + 1) (he : e = .returned (.tuple #[.slice (some ⟨g, 0, none⟩) (ks.length + 1) c, .int .i64 0])) :
    ∃ x, Rdr w2 rb o cap M x wt ∧ Exq rb v.ownBlock w w2 ∧ (x = at' + k ∧ ∃ g c, e = .returned (.tuple #[.slice (some ⟨g, 0, none⟩) (ks.length + 1) c, .int .i64 0]) ∧
        w2.ownsRow base 9 1 (.slice (some ⟨g, 0, none⟩) (ks.length + 1) c) (ks.length + 1) (kcs (ks ++ [s])) ∧ (v.ownBlock = some g ∨ w.heap.size ≤ g)) := by
  have hr := (hR.r.kept ((Below.refl w1.heap.size w1).alloc (Nat.le_refl _) (.cells #[.string s] 9)) hR.r.lt).grown hgrow (fun g h => by have := hv g h; omega)
  have hsz := hR.x.size
  refine ⟨y, hr, ((Exq.of_exc hR.x).trans (Exq.of_exc (Exc.of_below ((Below.refl w1.heap.size w1).alloc (Nat.le_refl _) _)))).trans (Exq.of_grown hgrow), hy, g, c, he, ?_, ?_⟩
  · rw [show kcs (ks ++ [s]) = kcs ks ++ [.string s] by simp [kcs]]; exact hown
  · rcases hat with h | h
    · exact .inl h
    · exact .inr (by omega)
set_option maxHeartbeats 1000000 in
theorem key_any {rb : Nat} {o : Option Addr} {cap : Nat} {M : List Nat} {at' wt base : Nat} {v : Value} {ks : List ByteArray} {w : World} (R : Rdr w rb o cap M at' wt)
    (hO : w.ownsRow base 9 1 v ks.length (kcs ks)) (hrb : rb < base) (hn : ks.length ≤ 128) (hbase : base ≤ w.heap.size) :
    Calls Try.prog 45 #[.pointer (some ⟨rb, 0, none⟩), v] w (KeyPost rb o cap M at' wt base v ks w) := by
  have S := text_any R
  unfold KeyPost
  cases hg : gstr (M.drop at') 1024 with
  | error x =>
    have hk : keyR ks (M.drop at') = .error x := by unfold keyR; rw [hg]
    have hx : ((x : Int) != 0) = true := by rw [bne_iff_ne]; have := gstr_err hg; omega
    rw [hg] at S
    rw [hk]
    have HS := Lib.hid S
    clear S R hg hk hO
    go_enter Try.func45, Try.ntmps45
    go_wp2_with fail
    refine HS.out.mono ?_
    rintro e w1 ⟨y, rfl, -, hR⟩
    have HR := Lib.hid hR
    clear hR
    unfold strV
    go_wp2_with fail
    go_ret2
    exact ⟨y, HR.out.r, Exq.of_exc HR.out.x, rfl⟩
  | ok p =>
    obtain ⟨s, k⟩ := p
    rw [hg] at S
    have HS := Lib.hid S
    have HO := Lib.hid hO
    have hv : v = .slice none 0 0 ∧ ks.length = 0 ∨ ∃ g c, v = .slice (some ⟨g, 0, none⟩) ks.length c := by
      rcases hO.2 with h | ⟨g, c, _, h, _⟩
      · exact .inl h
      · exact .inr ⟨g, c, h⟩
    have hg9 : ∀ g, v.ownBlock = some g → base ≤ g ∧ g < w.heap.size := hO.lt
    have hG := Lib.hid hg9
    obtain ⟨i, hi, hzz⟩ := Option.map_eq_some_iff.1 info9
    simp only [Prod.mk.injEq] at hzz
    obtain ⟨hz, hs1, hb1⟩ := hzz
    have HW : Hid (∀ y w1, Rd w rb o cap M y wt w1 → (w1.alloc (.cells #[.string s] 9)).ownsRow base 9 1 v ks.length (kcs ks)) := fun y w1 h =>
      (ownsRow_kept hO fun g hg => h.x.block g (hg9 g hg).2 (fun e => by injection e with e; have := (hg9 g hg).1; omega)).alloc _
    clear S R hO hg9
    by_cases hbad : 0 < ks.length ∧ blt (kk ks (ks.length - 1)) s = false
    · have hk : keyR ks (M.drop at') = .error 4 := by unfold keyR; rw [hg]; simp only; rw [if_pos hbad]
      rw [hk]
      clear hg hk
      rcases hv with ⟨rfl, h0⟩ | ⟨g, c, rfl⟩
      · omega
      · have hb0 : 0 < ks.length := hbad.1
        obtain ⟨m, hm⟩ : ∃ m, ks.length = m + 1 := ⟨ks.length - 1, by omega⟩
        have y0 : ∀ y w1, Rd w rb o cap M y wt w1 → w1.cell? ⟨g, m, none⟩ = some (.string (kk ks m)) := fun y w1 h => by
          have hgb := hG.out g rfl
          have c0 := HO.out.cells (g := g) rfl m (.string (kk ks m)) (by unfold kcs kk; rw [List.getElem?_map, List.getD_eq_getElem?_getD, List.getElem?_eq_getElem (by omega)]; rfl)
          have ea : (⟨g, 0, none⟩ : Addr).add m = ⟨g, m, none⟩ := by unfold Addr.add; split <;> simp_all
          rw [ea] at c0
          exact (World.cell?_of_block (a := ⟨g, m, none⟩) (h.x.block g hgb.2 (fun e => by injection e with e; omega))).trans c0
        have HY := Lib.hid y0
        clear y0
        have e4 : (Op.bytesLess s.toList (kk ks m).toList || s.toList == (kk ks m).toList) = true := by
          have := hbad.2; rw [show ks.length - 1 = m by omega] at this
          have h2 : Op.bytesLess (kk ks m).toList s.toList = false := this
          rw [bl_total, h2]; rfl
        clear hbad
        rw [hm]
        rw [Bool.or_eq_true] at e4
        rcases Bool.eq_false_or_eq_true (Op.bytesLess s.toList (kk ks m).toList) with e5 | e5
        · clear e4
          go_enter Try.func45, Try.ntmps45
          go_wp2_with fail
          refine HS.out.mono ?_
          rintro e w1 ⟨y, rfl, hy, hR⟩
          have HR := Lib.hid (And.intro hy hR)
          have c0 := HY.out y w1 hR
          clear hy hR
          unfold strV
          go_wp2_with fail
          go_ret2
          exact ⟨y, HR.out.2.r, Exq.of_exc HR.out.2.x, rfl⟩
        · have e6 : (s.toList == (kk ks m).toList) = true := by
            rcases e4 with h | h
            · rw [e5] at h; cases h
            · exact h
          clear e4
          go_enter Try.func45, Try.ntmps45
          go_wp2_with fail
          refine HS.out.mono ?_
          rintro e w1 ⟨y, rfl, hy, hR⟩
          have HR := Lib.hid (And.intro hy hR)
          have c0 := HY.out y w1 hR
          clear hy hR
          unfold strV
          go_wp2_with fail
          go_ret2
          exact ⟨y, HR.out.2.r, Exq.of_exc HR.out.2.x, rfl⟩
    · have hk : keyR ks (M.drop at') = .ok (s, k) := by unfold keyR; rw [hg]; simp only; rw [if_neg hbad]
      rw [hk]
      clear hg hk
      rcases hv with ⟨rfl, h0⟩ | ⟨g, c, rfl⟩
      · have hm := h0
        rw [hm] at HW ⊢
        go_enter Try.func45, Try.ntmps45
        go_wp2_with fail
        refine HS.out.mono ?_
        rintro e w1 ⟨y, rfl, hy, hR⟩
        have HR := Lib.hid (And.intro hy hR)
        clear hy hR
        unfold strV
        go_wp2_with (at_builtin; go_must (refine wpList_append_lies _ rfl (.tmp 30) (.tmp 32) 26 rfl base 9 i _ 1 16 Try.underlying26 hi hz hs1 hb1 rfl (by omega) (.slice none 0 0) _ (kcs ks) rfl (HW.out y w1 HR.out.2) ⟨w1.heap.size, 0, none⟩ 1 1 [.string s] rfl rfl (World.news_of_block (heap_alloc_new _ _)) (fun u hu => by simp at hu; subst hu; rfl) (by omega) (by unfold maxLen; omega) (by omega) (by have := HR.out.2.x.size; simp; omega) (w1.heap.size + 1) (by simp) ?_))
        intro g c w2 hown hgrow hat hlt
        have HE := Lib.hid (And.intro hown (And.intro hgrow hat))
        clear hown hgrow hat
        go_wp2_with fail
        go_ret2
        have E := key_end (ks := ks) (e := .returned (.tuple #[.slice (some ⟨g, 0, none⟩) (ks.length + 1) c, .int .i64 0])) HR.out.1 HR.out.2 hG.out hrb (by rw [hm]; exact HE.out.1) HE.out.2.1 HE.out.2.2 rfl
        rw [hm] at E
        exact E
      · by_cases h0 : ks.length = 0
        · have hm := h0
          rw [hm] at HW HO ⊢
          go_enter Try.func45, Try.ntmps45
          go_wp2_with fail
          refine HS.out.mono ?_
          rintro e w1 ⟨y, rfl, hy, hR⟩
          have HR := Lib.hid (And.intro hy hR)
          clear hy hR
          unfold strV
          go_wp2_with (at_builtin; go_must (refine wpList_append_lies _ rfl (.tmp 30) (.tmp 32) 26 rfl base 9 i _ 1 16 Try.underlying26 hi hz hs1 hb1 rfl (by omega) (.slice (some ⟨g, 0, none⟩) 0 c) _ (kcs ks) rfl (HW.out y w1 HR.out.2) ⟨w1.heap.size, 0, none⟩ 1 1 [.string s] rfl rfl (World.news_of_block (heap_alloc_new _ _)) (fun u hu => by simp at hu; subst hu; rfl) (by omega) (by unfold maxLen; omega) (by omega) (by have := HR.out.2.x.size; simp; omega) (w1.heap.size + 1) (by simp) ?_))
          intro g c w2 hown hgrow hat hlt
          have HE := Lib.hid (And.intro hown (And.intro hgrow hat))
          clear hown hgrow hat
          go_wp2_with fail
          go_ret2
          have E := key_end (ks := ks) (e := .returned (.tuple #[.slice (some ⟨g, 0, none⟩) (ks.length + 1) c, .int .i64 0])) HR.out.1 HR.out.2 hG.out hrb (by rw [hm]; exact HE.out.1) HE.out.2.1 HE.out.2.2 rfl
          rw [hm] at E
          exact E
        · have hb0 : 0 < ks.length := by omega
          obtain ⟨m, hm⟩ : ∃ m, ks.length = m + 1 := ⟨ks.length - 1, by omega⟩
          have y0 : ∀ y w1, Rd w rb o cap M y wt w1 → w1.cell? ⟨g, m, none⟩ = some (.string (kk ks m)) := fun y w1 h => by
            have hgb := hG.out g rfl
            have c0 := HO.out.cells (g := g) rfl m (.string (kk ks m)) (by unfold kcs kk; rw [List.getElem?_map, List.getD_eq_getElem?_getD, List.getElem?_eq_getElem (by omega)]; rfl)
            have ea : (⟨g, 0, none⟩ : Addr).add m = ⟨g, m, none⟩ := by unfold Addr.add; split <;> simp_all
            rw [ea] at c0
            exact (World.cell?_of_block (a := ⟨g, m, none⟩) (h.x.block g hgb.2 (fun e => by injection e with e; omega))).trans c0
          have HY := Lib.hid y0
          clear y0
          have e4 : (Op.bytesLess s.toList (kk ks m).toList || s.toList == (kk ks m).toList) = false := by
            have h2 : Op.bytesLess (kk ks m).toList s.toList = true := by
              cases hq : blt (kk ks m) s with
              | true => exact hq
              | false => exact absurd ⟨hb0, by rw [show ks.length - 1 = m by omega]; exact hq⟩ hbad
            rw [bl_total, h2]; rfl
          rw [Bool.or_eq_false_iff] at e4
          obtain ⟨e5, e6⟩ := e4
          clear hbad h0 hb0
          rw [hm] at HW ⊢
          go_enter Try.func45, Try.ntmps45
          go_wp2_with fail
          refine HS.out.mono ?_
          rintro e w1 ⟨y, rfl, hy, hR⟩
          have HR := Lib.hid (And.intro hy hR)
          have c0 := HY.out y w1 hR
          clear hy hR
          unfold strV
          go_wp2_with (at_builtin; go_must (refine wpList_append_lies _ rfl (.tmp 30) (.tmp 32) 26 rfl base 9 i _ 1 16 Try.underlying26 hi hz hs1 hb1 rfl (by omega) (.slice (some ⟨g, 0, none⟩) (m + 1) c) _ (kcs ks) rfl (HW.out y w1 HR.out.2) ⟨w1.heap.size, 0, none⟩ 1 1 [.string s] rfl rfl (World.news_of_block (heap_alloc_new _ _)) (fun u hu => by simp at hu; subst hu; rfl) (by omega) (by unfold maxLen; omega) (by omega) (by have := HR.out.2.x.size; simp; omega) (w1.heap.size + 1) (by simp) ?_))
          intro g c w2 hown hgrow hat hlt
          have HE := Lib.hid (And.intro hown (And.intro hgrow hat))
          clear hown hgrow hat
          go_wp2_with fail
          go_ret2
          have E := key_end (ks := ks) (e := .returned (.tuple #[.slice (some ⟨g, 0, none⟩) (ks.length + 1) c, .int .i64 0])) HR.out.1 HR.out.2 hG.out hrb (by rw [hm]; exact HE.out.1) HE.out.2.1 HE.out.2.2 rfl
          rw [hm] at E
          exact E
end Go.Proofs.Ytpmdkekjoocplaa

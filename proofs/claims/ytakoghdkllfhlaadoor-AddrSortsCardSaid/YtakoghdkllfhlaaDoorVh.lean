/- slices.SortedFunc over an iterator that gives objects. -/
import Derived.Test.YtakoghdkllfhlaaDoorVb
import Derived.Test.YtakoghdkllfhlaaDoorVk
import Derived.Test.YtakoghdkllfhlaaDoorVs
namespace Go.Proofs.YtakoghdkllfhlaaDoor
open Go.RowKit Go.Shelf Go.Sort

instance : Inhabited Obt := ⟨⟨⟨⟨#[]⟩, ⟨#[]⟩, 0, 0, ⟨#[]⟩⟩, 0⟩⟩
theorem lt_iff (x y : Obt) : ltOf ordK x y = true ↔ ordK x y < 0 := by unfold ltOf; exact decide_eq_true_iff
theorem lt_no (x y : Obt) : ltOf ordK x y = false ↔ ¬ ordK x y < 0 := by rw [← lt_iff]; simp
theorem swoK : SWO (ltOf ordK) where
  irrefl x := (lt_no _ _).2 (ordK_irr x)
  trans x y z h1 h2 := (lt_iff _ _).2 (cK.trans ((lt_iff _ _).1 h1) ((lt_iff _ _).1 h2))
  ntrans x y z h1 h2 := by
    rw [lt_no] at *
    intro h
    by_cases e1 : x = y
    · subst e1; exact h2 h
    · by_cases e2 : y = z
      · subst e2; exact h1 h
      · exact ordK_asym h (cK.trans (ordK_tri h2 e2) (ordK_tri h1 e1))
theorem cmpK (blk off size : Nat) (w : World) : CmpLays Tryd.prog 45 #[] ke 6 ordK blk off size w := fun m os dk _ x y =>
  (orderK_anyD x y _).mono fun e w' h => ⟨h.1, grown_of_BD h.2⟩
theorem holds_of_own {w : World} {B g cap : Nat} {l : List Obt} (h : w.ownsRow B 26 6 (.slice (some ⟨g, 0, none⟩) l.length cap) l.length (l.flatMap ke)) : HoldsK ke 6 w g 0 l.toArray := by
  have hf : ∀ j, w.frozen? ⟨g, j, none⟩ = false := fun j => by
    rcases h.2 with ⟨e, _⟩ | ⟨g', cap', cur, e, _, hgb, _⟩
    · cases e
    · injection e with e _ _
      injection e with e
      injection e with e _
      subst e
      simp [World.frozen?, hgb]
  intro t ht
  rw [size_flatK] at ht
  simp only [List.size_toArray] at ht
  rw [Nat.zero_add]
  refine ⟨?_, hf t⟩
  rw [get_flatK ke 6 l.toArray t (by simpa using ht)]
  have hi : t / 6 < l.length := by omega
  have hx : l[t / 6]? = some l.toArray[t / 6]! := by
    rw [getElem!_pos l.toArray (t / 6) (by simpa using hi), List.getElem?_eq_getElem hi]; rfl
  have h1 := flat_get hx (t % 6) (by omega)
  rw [show t / 6 * 6 + t % 6 = t by omega] at h1
  refine own_cell h (h1.trans ?_)
  have hm : t % 6 < (ke l.toArray[t / 6]!).length := by show t % 6 < 6; omega
  rw [List.getElem?_eq_getElem hm, getElem!_pos (ke l.toArray[t / 6]!) (t % 6) hm]
  rfl
theorem ks_of_holds {w : World} {g cap : Nat} {d : Array Obt} (h : HoldsK ke 6 w g 0 d) (hg : g < w.heap.size) (h1 : d.size ≤ cap) (h2 : cap ≤ maxLen) : Ks w (some ⟨g, 0, none⟩) cap d.toList := by
  refine ⟨by simpa using h1, h2, (fun e => by cases e), fun _ => ⟨g, 0, rfl, hg, fun i x hx => ?_⟩⟩
  have hi : i < d.size := by obtain ⟨hi, _⟩ := List.getElem?_eq_some_iff.1 hx; simpa using hi
  have hdx : d[i]! = x := by
    rw [getElem!_pos d i hi]
    rw [List.getElem?_eq_getElem (by simpa using hi)] at hx
    simpa using hx
  have key : ∀ m u, m < 6 → (ke x)[m]? = some u → w.cell? ⟨g, i * 6 + m, none⟩ = some u := fun m u hm hu => by
    have := (h (i * 6 + m) (by rw [size_flatK]; omega)).1
    rw [Nat.zero_add, get_flatK ke 6 d _ (by omega), show (i * 6 + m) / 6 = i by omega, show (i * 6 + m) % 6 = m by omega, hdx] at this
    rw [this]
    obtain ⟨hm2, hu2⟩ := List.getElem?_eq_some_iff.1 hu
    rw [getElem!_pos (ke x) m hm2, hu2]
    rfl
  rw [Nat.zero_add]
  exact ⟨key 0 _ (by omega) rfl, key 1 _ (by omega) rfl, key 2 _ (by omega) rfl, key 3 _ (by omega) rfl, key 4 _ (by omega) rfl, key 5 _ (by omega) rfl⟩
theorem grownBy_sortK {w : World} {g n : Nat} {os : Array Obj} (d : Array Obt) : w.grownBy (sortWorldK ke 6 w g 0 n d os) (some g) := by
  unfold sortWorldK putRowK
  refine ⟨rfl, rfl, rfl, by simp, fun k hk hne => ?_⟩
  rw [heap_grow_old _ _ (by simpa using hk)]
  have : g ≠ k := fun e => hne (by rw [e])
  simp [putRow, mapBlock, Sort.ahead, Array.getElem?_modify, this]
/-- what comes of SortedFunc: objects in memory, sorted -/
def SrtR (L : List Obt) (w : World) (e : Ending) (w' : World) : Prop := ∃ p cap l, e = .returned (.slice p (List.length l) cap) ∧ Srt l L ∧ Ks w' p cap l ∧ Below w.heap.size w w'
theorem ins0 (p : Option Addr) (cap : Nat) (fv : Value) (w : World) : Calls Tryd.prog 99 #[.slice p 0 cap, .int .i64 0, .int .i64 0, fv] w fun e w' => e = .returned (.tuple #[]) ∧ w' = w := by
  go_enter Tryd.func99, Tryd.ntmps99
  go_wp2
  refine wp_loop_rounds 1 ?_
  rw [rounds_succ]
  go_wp2
  go_end0
  exact ⟨rfl, rfl⟩
set_option maxHeartbeats 2000000 in
theorem pdq0 (p : Option Addr) (cap : Nat) (lim : Int) (fv : Value) (w : World) : Calls Tryd.prog 88 #[.slice p 0 cap, .int .i64 0, .int .i64 0, .int .i64 lim, fv] w fun e w' => e = .returned (.tuple #[]) ∧ w' = w := by
  go_enter Tryd.func88, Tryd.ntmps88
  go_wp2
  refine wp_loop_rounds 1 ?_
  rw [rounds_succ]
  go_wp2_with (go_at_call 99; refine (ins0 _ _ _ _).mono ?_; rintro e w' ⟨rfl, rfl⟩)
  (try simp only [Exit.inBlock, Exit.then]); refine bodyPost_ret (results_none rfl _ _ _) rfl ?_
  exact ⟨rfl, rfl⟩
set_option maxHeartbeats 2000000 in
theorem sort0 (p : Option Addr) (cap : Nat) (fv : Value) (w : World) : Calls Tryd.prog 70 #[.slice p 0 cap, fv] w fun e w' => e = .returned (.tuple #[]) ∧ w' = w := by
  have hl : ∀ W, Calls Tryd.prog 89 #[.int .u64 0] W fun e w' => e = .returned (.int .i64 (Lib.bitLen 0 : Nat)) ∧ w' = W := fun W => by
    have h := Any.bits_Len (SlLaysF0.n15.bits (P := Tryd.prog) (ρ := Tryd.sortK_ren) { Tryd.sortK with }) 0 W (by omega) (by omega)
    exact h
  generalize ((Lib.bitLen 0 : Nat) : Int) = L at hl
  go_enter Tryd.func70, Tryd.ntmps70
  go_wp2_with (first | (go_at_call 89; refine (hl _).mono ?_; rintro e w' ⟨rfl, rfl⟩) | (go_at_call 88; refine (pdq0 _ _ _ _ _).mono ?_; rintro e w' ⟨rfl, rfl⟩))
  go_end0
  exact ⟨rfl, rfl⟩
set_option maxHeartbeats 2000000 in
theorem sorted_any (g : Nat) (lb : Array Value) (eg : ∀ args w, (callFunc g args).run Tryd.prog w = .ok (.enter g args) w) (S Sp : List Obt → Prop) (N : Nat) (hN : N ≤ maxLen) (hNb : N * 72 ≤ 140737488355328) (w : World)
    (hseq : SeqStopsK Fence.wide 1 Tryd.prog g lb (fun x : Obt => #[kv x]) KeepsWalks S Sp N w) (L : List Obt) (hS : ∀ ss, S ss → (ss.Nodup ∧ ∀ x, x ∈ ss ↔ x ∈ L) ∧ ss.length ≤ N) :
    Calls Tryd.prog 47 #[.func (.func g) #[] lb, .func (.func 45) #[] #[]] w (SrtR L w) := by
  have HC := Lib.hid ((callsIn_wide (n := 3)).1 (collect_in Fence.wide 3 trivial trivial rfl (by omega) g lb trivial eg S Sp N hN hNb w hseq))
  clear hseq eg
  go_enter Tryd.func47, Tryd.ntmps47
  go_wp2_with fail
  refine HC.out.mono ?_
  rintro e W ⟨v, ss, rfl, hss, hrow, hnil, hb⟩
  have HR := Lib.hid hrow
  have HB := Lib.hid hb
  have HS := Lib.hid (hS ss hss).1
  have hlen := (hS ss hss).2
  clear hrow hb hss hnil
  rcases HR.out.2 with ⟨rfl, h0⟩ | ⟨gb, cap, cur, rfl, hbase, hgb, r1, r2, r3, r4⟩
  · have hn : ss = [] := List.eq_nil_of_length_eq_zero h0
    subst hn
    clear h0
    go_wp2_with (go_at_call 70; refine (sort0 _ _ _ _).mono ?_; rintro e w' ⟨rfl, rfl⟩)
    go_ret
    exact ⟨none, 0, [], rfl, ⟨List.Pairwise.nil, HS.out.2⟩, Ks.nil _, HB.out⟩
  · have HG := Lib.hid (And.intro hbase (And.intro (Array.getElem?_eq_some_iff.1 hgb).1 (And.intro r1 r2)))
    have eg45 : ∀ args w, (callFunc 45 args).run Tryd.prog w = .ok (.enter 45 args) w := enters_of Tryd.func45 (by kernel_rfl) rfl
    have hcon := AnyQ.slices_SortFunc Tryd.sortK 6 Tryd.isAgg26 Tryd.sizeOf26 ke (fun _ => rfl) ke_one ordK swoK 45 #[] gb 0 cap ss.toArray W eg45 (cmpK gb 0 _ W) (holds_of_own HR.out) HG.out.2.1 (by simp; omega)
    change Calls Tryd.prog 70 _ _ _ at hcon
    rw [List.size_toArray] at hcon
    have HCon := Lib.hid hcon
    clear hcon eg45 hbase hgb r1 r2 r3 r4
    go_wp2_with fail
    refine HCon.out.mono ?_
    rintro e w' ⟨rfl, d', n, os, hp, hs, rfl⟩
    have hsz : d'.size = ss.length := by simpa using hp.1
    have HF := Lib.hid (holds_of_own HR.out)
    have h2 := holdsK_sortWorldK_c ke 6 W gb 0 ss.toArray d' n os HF.out HG.out.2.1 (by simpa using hsz)
    have h3 : gb < (sortWorldK ke 6 W gb 0 n d' os).heap.size := Nat.lt_of_lt_of_le HG.out.2.1 (size_sortWorldK_c ke 6 W gb 0 n d' os)
    have h4 : Below w.heap.size w (sortWorldK ke 6 W gb 0 n d' os) := HB.out.grown (grownBy_sortK d') HB.out.size (fun k e => by cases e; exact HG.out.1)
    have h5 := srt_of_sort id (ltOf ordK) (fun _ _ => rfl) hp (by simpa using hs) (l := L) (by simpa using HS.out.1) (by simpa using HS.out.2)
    have h6 := ks_of_holds h2 h3 (cap := cap) (by rw [hsz]; exact HG.out.2.2.1) HG.out.2.2.2
    rw [List.map_id] at h5
    have HE := Lib.hid (And.intro hsz (And.intro h4 (And.intro h5 h6)))
    clear hsz h2 h3 h4 h5 h6 hp hs
    generalize sortWorldK ke 6 W gb 0 n d' os = W2 at *
    go_wp2_with fail
    go_ret
    exact ⟨some ⟨gb, 0, none⟩, cap, d'.toList, by rw [show d'.toList.length = ss.length from HE.out.1]; rfl, HE.out.2.2.1, HE.out.2.2.2, HE.out.2.1⟩
end Go.Proofs.YtakoghdkllfhlaaDoor

import Derived.Test.YtncjncacfagldaaGreatDoorYWCV
import Derived.Test.YtncjncacfagldaaGreatDoorYWZg
import Derived.Test.YtncjncacfagldaaGreatDoorYWLJ
namespace Go.Proofs.YtncjncacfagldaaGreatDoor
open Go.RowKit Go.Lib

def confC (L : List UInt8) : List It × Nat × Ps :=
 match lexC L with
 | .error (e, p) => ([], e, p.ps)
 | .ok ts => match itemsL ⟨ts, ps0, innC⟩ (ts.length + 1) 0 [] [] 0 with
   | .error (e, q) => ([], e, q)
   | .ok (l, _) => if 8 < idpL l then ([], 12, ⟨0, 1, 1⟩) else (l, 0, ps0)
theorem conf_c (L : List UInt8) : confM L = confC L := by
 unfold confM confC
 rw [lex_c, inn_c]
 cases lexC L with
 | error e => rfl
 | ok ts => rfl
def exD : List UInt8 := [97, 32, 61, 32, 49, 10, 98, 32, 34, 120, 34, 32, 123, 10, 32, 99, 32, 61, 32, 97, 10, 125]
def itB (l : List It) (j : Nat) : Bool := match l[j]? with | some x => x.b | none => false
def itLb (l : List It) (j : Nat) : List (List UInt8) := match l[j]? with | some x => x.lb | none => []
def itN (l : List It) (j : Nat) : Nat := match l[j]? with | some x => x.l.length | none => 0
set_option maxRecDepth 100000 in
theorem evD0 : (confC exD).2.1 = 0 ∧ (confC exD).1.length = 2 ∧ itB (confC exD).1 0 = false ∧ itB (confC exD).1 1 = true ∧ itLb (confC exD).1 1 = [[120]] ∧ itN (confC exD).1 1 = 1 ∧ idpL (confC exD).1 = 1 := ⟨by kernel_rfl, by kernel_rfl, by kernel_rfl, by kernel_rfl, by kernel_rfl, by kernel_rfl, by kernel_rfl⟩
theorem evD : (confM exD).2.1 = 0 ∧ (confM exD).1.length = 2 ∧ itB (confM exD).1 0 = false ∧ itB (confM exD).1 1 = true ∧ itLb (confM exD).1 1 = [[120]] ∧ itN (confM exD).1 1 = 1 ∧ idpL (confM exD).1 = 1 := by rw [conf_c]; exact evD0
theorem it_two {l : List It} (h : l.length = 2) : ∃ x y, l[0]? = some x ∧ l[1]? = some y ∧ itB l 0 = x.b ∧ itB l 1 = y.b ∧ itLb l 1 = y.lb ∧ itN l 1 = y.l.length := by
 match l, h with
 | [x, y], _ => exact ⟨x, y, rfl, rfl, rfl, rfl, rfl, rfl⟩
theorem pay_at {n : Nat} {w : World} {l : List It} {o : Option Addr} {cap : Nat} (h : PayI l (fun k => k < n) w (.slice o l.length cap)) : l.length ≤ cap ∧ cap ≤ maxLen ∧ ∀ (j : Nat) (X : It), l[j]? = some X → ∃ (b off : Nat) (oL : Option Addr) (cL : Nat) (oI : Option Addr) (cI : Nat), o = some ⟨b, off, none⟩ ∧ b < n ∧
 w.cell? ⟨b, off + j * 22, none⟩ = some (.bool X.b) ∧ w.cell? ⟨b, off + j * 22 + 1, none⟩ = some (.string (tx X.nm)) ∧ w.cell? ⟨b, off + j * 22 + 2, none⟩ = some (.slice oL X.lb.length cL) ∧ w.cell? ⟨b, off + j * 22 + 18, none⟩ = some (.slice oI X.l.length cI) ∧
 RowP (fun k => k < n) w oL cL X.lb.length 1 (fun j _ => .string (tx (X.lb.getD j []))) ∧ PayI X.l (fun k => k < n) w (.slice oI X.l.length cI) := by
 obtain ⟨o', cap', e, h1, h2, h3⟩ := ip_at h
 injection e with e1 e2 e3
 subst e1; subst e3
 refine ⟨h1, h2, fun j X hX => ?_⟩
 obtain ⟨b, off, oI, cI, cs, ho, hb, hp, -, -, hc, -, -, hI⟩ := h3 j X hX
 cases hI with
 | mk _ oL oV oK oE oI' cL cV cK cE cI' c hl he hi hy =>
   have c0 := hc 0 _ rfl
   have c1 := hc 1 _ rfl
   have c2 := hc 2 _ rfl
   have c18 := hc 18 _ rfl
   exact ⟨b, off, oL, cL, oI', cI', ho, hb, c0, c1, c2, c18, hl, ⟨oI', cI', c, rfl, hi, hy⟩⟩
structure CBx (w0 w : World) (n b : Nat) (M : List It × Nat × Ps) (o : Option Addr) (cap : Nat) : Prop where
 x : PayI M.1 (fun k => k < n) w (.slice o M.1.length cap)
 d : ∃ q : Ps, w.heap[b]? = some (.cells #[.int .i64 M.2.1, .int .i64 q.a, .int .i64 q.l, .int .i64 q.c, .string ⟨#[]⟩] 53 (0, 0))
 n : n ≤ w.heap.size
 b : Below w0.heap.size w0 w
theorem CBx.mk' {w0 w w1 : World} {M : List It × Nat × Ps} {o : Option Addr} {cap : Nat} (h0 : Below w0.heap.size w0 w) (hx : PayI M.1 (fun k => w.heap.size ≤ k ∧ k < w1.heap.size) w1 (.slice o M.1.length cap)) (hb : Below w.heap.size w w1) :
 CBx w0 (w1.alloc (.cells #[.int .i64 M.2.1, .int .i64 M.2.2.a, .int .i64 M.2.2.l, .int .i64 M.2.2.c, .string ⟨#[]⟩] 53)) w1.heap.size w1.heap.size M o cap := by
 have B : Below w1.heap.size w1 (w1.alloc (.cells #[.int .i64 M.2.1, .int .i64 M.2.2.a, .int .i64 M.2.2.l, .int .i64 M.2.2.c, .string ⟨#[]⟩] 53)) := (Below.refl _ _).alloc (Nat.le_refl _) _
 exact ⟨hx.keptP fun k hk => ⟨hk.2, B.block k hk.2⟩, ⟨M.2.2, heap_alloc_new w1 _⟩, B.size, (h0.trans (hb.mono h0.size)).trans (B.mono (Nat.le_trans h0.size hb.size))⟩
set_option maxRecDepth 100000 in
set_option maxHeartbeats 4000000 in
theorem cawake_any {w : World} (hT : Tab w) (hV : Lev w) (h2 : 4 ≤ w.heap.size) : Calls Tryz.prog 8 #[] w fun e w' => e = .returned (.bool true) ∧ Below w.heap.size w w' := by
 have HT := qh (And.intro hT (And.intro hV h2))
 clear hT hV h2
 have HD := qh evD
 have PA : Hid (∀ W, Tab W → Lev W → 4 ≤ W.heap.size → Calls Tryz.prog 24 #[.string ⟨#[97, 32, 61, 32, 49, 10, 98, 32, 34, 120, 34, 32, 123, 10, 32, 99, 32, 61, 32, 97, 10, 125]⟩] W (CfPost W (confM exD))) := fun W a b c => conf_any (s := ⟨#[97, 32, 61, 32, 49, 10, 98, 32, 34, 120, 34, 32, 123, 10, 32, 99, 32, 61, 32, 97, 10, 125]⟩) a b c (by decide)
 generalize confM exD = MA at *
 go_enter Tryz.func8, Tryz.ntmps8
 go_wp2_with fail
 refine (PA.out _ HT.out.1 HT.out.2.1 HT.out.2.2).mono ?_
 rintro e u0 ⟨v, rfl, hp, hb⟩
 obtain ⟨o, cap, rfl⟩ : ∃ o cap, v = .slice o MA.1.length cap := by obtain ⟨o, cap, -, h, -⟩ := hp; exact ⟨o, cap, h⟩
 have G0 := qh (CBx.mk' (w0 := w) (M := MA) (Below.refl _ _) hp hb)
 go_upto_region 2 with fail
 clear hp hb
 generalize u0.alloc (Obj.cells #[Value.int IntKind.i64 MA.2.1, Value.int IntKind.i64 MA.2.2.a, Value.int IntKind.i64 MA.2.2.l, Value.int IntKind.i64 MA.2.2.c, Value.string ⟨#[]⟩] 53) = v0 at *
 generalize u0.heap.size = b0 at *
 obtain ⟨a0, a1, a2, a3, a4, a5, a6⟩ := HD.out
 obtain ⟨x, y, hx, hy, ex, ey, eL, eN⟩ := it_two a1
 obtain ⟨px, ⟨q, hd⟩, hn, hbw⟩ := G0.out
 obtain ⟨l1, l2, hat⟩ := pay_at px
 obtain ⟨bx, fx, oLx, cLx, oIx, cIx, rfl, hbx, X0, -, -, -, -, -⟩ := hat 0 x hx
 obtain ⟨by', fy, oLy, cLy, oIy, cIy, eo, hby, Y0, -, Y2, Y18, rowL, -⟩ := hat 1 y hy
 obtain ⟨rfl, rfl⟩ : bx = by' ∧ fx = fy := by injection eo with e; injection e with e1 e2; exact ⟨e1, e2⟩
 obtain ⟨r1, r2, -, r4⟩ := rowL
 have hlb : y.lb = [[120]] := by rw [← eL, a4]
 have hln : y.l.length = 1 := by rw [← eN, a5]
 rw [hlb] at r1 r4 Y2
 obtain ⟨bl, fl, rfl, hbl, rc⟩ := r4 (by decide)
 have L0 : v0.cell? ⟨bl, fl + 0 * 1 + 0, none⟩ = some (.string (tx [120])) := rc 0 (by decide) 0 (by decide)
 obtain ⟨⟨s0, s1, s2, s3, s4⟩, -, hda⟩ := rc5 hd
 rw [a0] at s0
 rw [← ex, a2] at X0
 rw [← ey, a3] at Y0
 rw [hln] at Y18
 have HP : Hid (PayI MA.1 (fun k => k < v0.heap.size) v0 (.slice (some ⟨bx, fx, none⟩) MA.1.length cap)) := px.keptP fun k hk => ⟨Nat.lt_of_lt_of_le hk hn, rfl⟩
 have HI := qh a6
 have HBW := qh hbw
 have hb1 : bx < v0.heap.size := by omega
 have hb2 : bl < v0.heap.size := by omega
 have C1 : Hid (Calls Tryz.prog 11 #[.slice (some ⟨bx, fx, none⟩) 2 cap] v0 fun e w' => e = .returned (.int .i64 1) ∧ Below v0.heap.size v0 w') := by
  have := cdepth_any HP.out (Nat.le_refl _) (by rw [a6]; decide)
  rw [a1, a6] at this
  exact this
 rw [a1] at l1
 have hc2 : 2 ≤ cap := l1
 rw [a1]
 simp only [Nat.one_mul, Nat.zero_mul, Nat.add_zero, List.length_cons, List.length_nil, Nat.zero_add] at X0 Y0 Y2 Y18 L0
 clear hat px hd hn hbw a0 a1 a2 a3 a4 a5 a6 hx hy ex ey eL eN eo r1 r2 rc hlb hln HP HI HD PA G0 s1 s2 s3 s4 l1
 have es : ((tx [120]).toList == [120]) = true := by rw [toList_tx]; rfl
 have es2 : ((tx [120]).toList = [120]) = True := by rw [toList_tx]; simp
 skip
 go_wp2_with fail
 refine C1.out.mono ?_
 rintro e v1 ⟨rfl, k1⟩
 go_wp2_with fail
 go_ret
 exact ⟨rfl, HBW.out.trans (k1.mono HBW.out.size)⟩
end Go.Proofs.YtncjncacfagldaaGreatDoor

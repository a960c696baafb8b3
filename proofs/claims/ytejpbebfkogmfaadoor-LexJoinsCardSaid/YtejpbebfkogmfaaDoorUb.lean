/- LexJoins: All, said once for both ends; what the loop reads. -/
import Derived.Test.YtejpbebfkogmfaaDoorUa
import Derived.Test.YtejpbebfkogmfaaDoorTd
namespace Go.Proofs.YtejpbebfkogmfaaDoor
open Go.RowKit

/-- what All leaves, both ends alike -/
structure AU (w w' : World) (L : List UInt8) (o : Option Addr) (n c x : Nat) (p : Plc) (acc : List (Tkn × Value)) : Prop where
  b : Below w.heap.size w w'
  ln : n = acc.length
  t : Toks w' w.heap.size (.slice o n c) acc
  g : 0 < n → ∃ g, o = some ⟨g, 0, none⟩ ∧ g < w'.heap.size
  r : (x ≠ 0 ∧ lexL L = .error (x, p)) ∨ (x = 0 ∧ lexL L = .ok (acc.map (·.1)) ∧ 0 < n)
theorem all_u {w : World} {s : ByteArray} (hT : Tab w) (hs : s.size ≤ 9223372036854775807) :
    Calls Tryd.prog 13 #[.string s] w fun e w' => ∃ o n c x p acc, e = .returned (.tuple #[.slice o n c, .agg (dgc (x : Nat) p)]) ∧ AU w w' (lb s) o n c x p acc := by
  refine (all_every hT hs).mono ?_
  rintro e w' ⟨hB, hp⟩
  cases hR : lexL (lb s) with
  | error ep =>
    obtain ⟨x, p⟩ := ep
    rw [hR] at hp
    obtain rfl := hp
    refine ⟨none, 0, 0, x, p, [], rfl, hB, rfl, ⟨⟨rfl, .inl ⟨rfl, rfl⟩⟩, fun x hx => by cases hx⟩, fun h => absurd h (Nat.lt_irrefl 0), .inl ⟨lex_nz hR, hR⟩⟩
  | ok ts =>
    rw [hR] at hp
    obtain ⟨vl, acc, hm, rfl, hK⟩ := hp
    have hne : 0 < acc.length := by
      obtain ⟨t, us, e, -⟩ := ts_head (lex_ts hR)
      rw [e] at hm
      cases acc with
      | nil => cases hm
      | cons a r => simp
    obtain ⟨g, cap, rfl, -, lg⟩ := hK.row.form hne
    exact ⟨some ⟨g, 0, none⟩, acc.length, cap, 0, noP, acc, rfl, hB, rfl, hK, fun _ => ⟨g, rfl, lg⟩, .inr ⟨rfl, by rw [hR, hm], hne⟩⟩
theorem allL_ea {L : List UInt8} : ∀ (f k : Nat) (e : Nat) (p : Plc), k ≤ L.length → allL f (plc L k) (L.drop k) = .error (e, p) → p.a ≤ L.length
  | 0, k, _, _, hk, h => by injection h with h; injection h with h1 h2; rw [← h2, plc_a L k hk]; exact hk
  | f + 1, k, e, p, hk, h => by
    obtain ⟨h1, h2, h3⟩ := skip_at L k hk
    rcases Nat.lt_or_ge (btw L k) L.length with hlt | hge
    · cases ht : tokL (plc L (btw L k)) (L.drop (btw L k)) with
      | error x =>
        rw [allL_err hk hlt ht] at h
        injection h with h; injection h with h1 h2
        rw [← h2, plc_a L _ h3]; exact h3
      | ok tr =>
        obtain ⟨t, r⟩ := tr
        obtain ⟨q1, q2, q3, q4⟩ := allL_tok (f := f) hk hlt ht
        rw [q1] at h
        cases hts : allL f (plc L (L.length - r.length)) (L.drop (L.length - r.length)) with
        | error y =>
          obtain ⟨y1, y2⟩ := y
          rw [hts] at h
          injection h with h; injection h with h1 h2
          rw [← h2]; exact allL_ea f _ _ _ q3 hts
        | ok us => rw [hts] at h; cases h
    · rw [allL_end hk (by omega)] at h; cases h
theorem lex_ea {L : List UInt8} {e : Nat} {p : Plc} (h : lexL L = .error (e, p)) : p.a ≤ L.length := by
  unfold lexL at h
  split at h
  · injection h with h; injection h with h1 h2; rw [← h2]; exact Nat.zero_le _
  · exact allL_ea _ 0 e p (Nat.zero_le _) (by rw [List.drop_zero]; exact h)
theorem lb_join (s t : ByteArray) : lb (s ++ ⟨#[10]⟩ ++ t) = lb s ++ 10 :: lb t := by
  unfold lb
  rw [ByteArray.data_append, ByteArray.data_append]
  simp
/-- all the cells of token i -/
structure Tq (w : World) (g i : Nat) (t : Tkn) (o : Option Addr) (l c : Nat) : Prop where
  c0 : w.cell? ⟨g, i * 7, none⟩ = some (.int .i64 t.k)
  c1 : w.cell? ⟨g, i * 7 + 1, none⟩ = some (.string (tx t.s))
  c2 : w.cell? ⟨g, i * 7 + 2, none⟩ = some (.int .i64 t.n)
  c3 : w.cell? ⟨g, i * 7 + 3, none⟩ = some (.slice o l c)
  c4 : w.cell? ⟨g, i * 7 + 4, none⟩ = some (.int .i64 t.p.a)
  c5 : w.cell? ⟨g, i * 7 + 5, none⟩ = some (.int .i64 t.p.l)
  c6 : w.cell? ⟨g, i * 7 + 6, none⟩ = some (.int .i64 t.p.c)
theorem Tq.of {w w' : World} {N g l c i : Nat} {acc : List (Tkn × Value)} {x : Tkn × Value} (h : Toks w N (.slice (some ⟨g, 0, none⟩) l c) acc) (hi : acc[i]? = some x) (hb : Below w.heap.size w w') : ∃ o c', Tq w' g i x.1 o x.1.ps.length c' := by
  have key : ∀ m v, m < 7 → (tc7 x)[m]? = some v → w'.cell? ⟨g, i * 7 + m, none⟩ = some v := fun m v hm hv => by
    have h1 := own_cell h.row ((tcs_get hi m hm).trans hv)
    exact (hb.cell (p := ⟨g, i * 7 + m, none⟩) (h.row.lt g rfl).2).trans h1
  have hx := h.el x (List.mem_of_getElem? hi)
  have hv : ∃ o c', x.2 = .slice o x.1.ps.length c' := by
    rcases hx.2 with ⟨e, h0⟩ | ⟨g', c', _, e, _⟩
    · exact ⟨none, 0, by rw [e, h0]⟩
    · exact ⟨_, _, e⟩
  obtain ⟨o, c', e⟩ := hv
  exact ⟨o, c', key 0 _ (by omega) rfl, key 1 _ (by omega) rfl, key 2 _ (by omega) rfl, (key 3 x.2 (by omega) rfl).trans (by rw [e]), key 4 _ (by omega) rfl, key 5 _ (by omega) rfl, key 6 _ (by omega) rfl⟩
/-- what the law asks, of what All left -/
structure JS (s t : ByteArray) (n1 n2 n3 : Nat) (a1 a2 a3 : List (Tkn × Value)) : Prop where
  len : n3 + 1 = n1 + n2
  lo : ∀ i, i + 1 < n1 → ∃ k v u, a3[i]? = some (k, v) ∧ a1[i]? = some (k, u)
  hi : ∀ j, j < n2 → ∃ k v k' u, a3[n1 - 1 + j]? = some (k, v) ∧ a2[j]? = some (k', u) ∧ Mov (s.size + 1) k' k ∧ k'.p.a ≤ t.size
theorem map_get {l : List (Tkn × Value)} {i : Nat} {t : Tkn} (h : (l.map (·.1))[i]? = some t) : ∃ v, l[i]? = some (t, v) := by
  rw [List.getElem?_map] at h
  cases hl : l[i]? with
  | none => rw [hl] at h; cases h
  | some x =>
    rw [hl] at h
    simp only [Option.map_some, Option.some.injEq] at h
    exact ⟨x.2, by rw [← h]⟩
theorem join_u {w1 w1' w2 w2' w3 w3' : World} {s t : ByteArray} {o1 o2 o3 : Option Addr} {n1 n2 n3 c1 c2 c3 x1 x2 x3 : Nat} {p1 p2 p3 : Plc} {a1 a2 a3 : List (Tkn × Value)} (hs : s.size ≤ 2000) (ht : t.size ≤ 2000)
    (h1 : AU w1 w1' (lb s) o1 n1 c1 x1 p1 a1) (h2 : AU w2 w2' (lb t) o2 n2 c2 x2 p2 a2) (h3 : AU w3 w3' (lb s ++ 10 :: lb t) o3 n3 c3 x3 p3 a3) (h0 : x1 = 0) :
    0 < n1 ∧ n1 ≤ 2001 ∧ ((x2 ≠ 0 ∧ x3 = x2 ∧ p3.a = s.size + 1 + p2.a ∧ p3.c = p2.c ∧ p2.a ≤ 2000) ∨ (x2 = 0 ∧ x3 = 0 ∧ 0 < n2 ∧ n2 ≤ 2001 ∧ 0 < n3 ∧ JS s t n1 n2 n3 a1 a2 a3)) := by
  rcases h1.r with ⟨hx, -⟩ | ⟨-, hl1, hn1⟩
  · exact absurd h0 hx
  have hb1 := ts_len (lex_ts hl1)
  rw [L_len, List.length_map, ← h1.ln] at hb1
  obtain ⟨hne, R, hM, hJ⟩ := lex_join (y := lb t) (by rw [L_len]; exact hs) (by rw [L_len]; exact ht) hl1
  rw [L_len] at hM
  refine ⟨hn1, by omega, ?_⟩
  rcases h2.r with ⟨hx2, hl2⟩ | ⟨hx2, hl2, hn2⟩
  · rw [hl2] at hM
    obtain ⟨q, rfl, qa, qc⟩ := hM
    have hJ : lexL (lb s ++ 10 :: lb t) = .error (x2, q) := hJ
    rcases h3.r with ⟨-, hl3⟩ | ⟨-, hl3, -⟩
    · rw [hJ] at hl3
      injection hl3 with hl3; injection hl3 with e1 e2
      subst e1 e2
      refine .inl ⟨hx2, rfl, by omega, qc, ?_⟩
      have := lex_ea hl2
      rw [L_len] at this
      omega
    · rw [hJ] at hl3; cases hl3
  · rw [hl2] at hM
    obtain ⟨us, rfl, hlen, hmov⟩ := hM
    have hJ : lexL (lb s ++ 10 :: lb t) = .ok ((a1.map (·.1)).dropLast ++ us) := hJ
    have hb2 := ts_len (lex_ts hl2)
    rw [L_len, List.length_map, ← h2.ln] at hb2
    have hts := ts_get (lex_ts hl2)
    rcases h3.r with ⟨-, hl3⟩ | ⟨hx3, hl3, hn3⟩
    · rw [hJ] at hl3; cases hl3
    · rw [hJ] at hl3
      injection hl3 with hl3
      have hd : ((a1.map (·.1)).dropLast).length = n1 - 1 := by rw [List.length_dropLast, List.length_map, h1.ln]
      have hu : us.length = n2 := by rw [hlen, List.length_map, h2.ln]
      refine .inr ⟨hx2, hx3, hn2, by omega, hn3, ?_, fun i hi => ?_, fun j hj => ?_⟩
      · have := congrArg List.length hl3
        rw [List.length_append, hd, hu, List.length_map, ← h3.ln] at this
        omega
      · have hi' : i < (a1.map (·.1)).length := by rw [List.length_map, ← h1.ln]; omega
        obtain ⟨u, hu1⟩ := map_get (List.getElem?_eq_getElem hi')
        have h4 : (a3.map (·.1))[i]? = some ((a1.map (·.1))[i]) := by
          rw [← hl3, List.getElem?_append_left (by rw [hd]; omega), List.getElem?_dropLast, if_pos (by rw [List.length_map, ← h1.ln]; omega)]
          exact List.getElem?_eq_getElem hi'
        obtain ⟨v, hv⟩ := map_get h4
        exact ⟨_, v, u, hv, hu1⟩
      · have hj' : j < (a2.map (·.1)).length := by rw [List.length_map, ← h2.ln]; exact hj
        have h5 := List.getElem?_eq_getElem hj'
        obtain ⟨u, hu1⟩ := map_get h5
        obtain ⟨k, hk, hm⟩ := hmov _ _ h5
        have h4 : (a3.map (·.1))[n1 - 1 + j]? = some k := by
          rw [← hl3, List.getElem?_append_right (by rw [hd]; omega), hd, Nat.add_sub_cancel_left]
          exact hk
        obtain ⟨v, hv⟩ := map_get h4
        refine ⟨k, v, _, u, hv, hu1, hm, ?_⟩
        have := (hts _ _ h5).1.hi
        rwa [L_len] at this
end Go.Proofs.YtejpbebfkogmfaaDoor

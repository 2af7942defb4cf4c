import Derived.Test.YtbgngikejgihgagGreatDoorMq14
import Derived.Test.YtbgngikejgihgagGreatDoorMq13
import Derived.Test.YtbgngikejgihgagGreatDoorMq12
namespace Go.Proofs.YtbgngikejgihgagGreatDoor
open Go Go.RowKit
set_option linter.unusedVariables false

/-- The starts, as numbers. -/
def sAt (ls : List (List Int)) (i : Nat) : Nat := smL (ls.take i) + i
theorem sAt_lt (ls : List (List Int)) {i j : Nat} (h : i < j) : sAt ls i < sAt ls j := by
  unfold sAt
  have : smL (ls.take i) ≤ smL (ls.take j) := by
    have := smL_take_le (ls.take j) i
    rw [List.take_take, Nat.min_eq_left (by omega)] at this
    exact this
  omega
/-- How far the index is known behind a finding. -/
def Kn (ls : List (List Int)) (s0 off m : Nat) : Prop := s0 ≤ m ∧ m ≤ ls.length ∧ (∀ i, s0 ≤ i → i < m → sAt ls (i - 1) ≤ off) ∧ (m < ls.length → off < sAt ls (m - 1))
/-- The line of an offset. -/
def Ln (ls : List (List Int)) (off k : Nat) : Prop := k < ls.length ∧ sAt ls k ≤ off ∧ (k + 1 < ls.length → off < sAt ls (k + 1))

set_option maxHeartbeats 1000000 in
set_option maxRecDepth 100000 in
theorem knownN (lo hi c m off : Nat) (rv sv : Value) (vs : List Value) (gs : List Gr) (a b : Nat) (rn : Int) (ls : List (List Int)) (w : World) (h : LCr w lo hi c rv sv vs gs a b rn ((stL ls).take m)) (hm : m ≤ ls.length) (hm1 : 1 ≤ m) (hl : ls.length ≤ 8193) (hof : off ≤ 20000) :
    Calls Tryz.prog 365 #[.pointer (some ⟨c, 0, none⟩), .int .i64 off] w fun e w' => ∃ k : Nat, e = .returned (.int .i64 k) ∧ k < m ∧ sAt ls k ≤ off ∧ (k + 1 < m → off < sAt ls (k + 1)) ∧ w' = w := by
  have STL : (stL ls).length = ls.length := stL_len ls
  obtain ⟨as', cs', hsv⟩ := o64_val h.starts
  rw [List.length_take, STL, Nat.min_eq_left hm] at hsv
  have c4 := h.cells.2.2.2.2
  have hr := h.starts
  unfold o64 at hr
  rw [List.length_take, STL, Nat.min_eq_left hm, hsv] at hr
  have HR := hide hr
  rcases hr.2 with ⟨_, q⟩ | ⟨gj, cj, cur, q, _, _, d1, d2, _⟩
  · omega
  simp only [Value.slice.injEq, true_and] at q
  obtain ⟨rfl, rfl⟩ := q
  rw [hsv] at c4
  unfold maxLen at d2
  have SE := hide (searchIN gj cs' m (off : Int) (fun j => ((sAt ls j : Nat) : Int)) w (fun j hj => by
    have := owns_cell HR.out j hj
    rw [this]
    have h9 := stL_getD (ls := ls) (i := j) (by omega)
    simp only [List.getD_eq_getElem?_getD] at h9 ⊢
    rw [List.getElem?_take, if_pos hj, h9]
    rfl) d1 (by omega) (fun i j hij _ => by have := sAt_lt ls hij; omega))
  clear h hr hsv
  go_enter Tryz.func365, Tryz.ntmps365
  go_wp2_with fail
  refine SE.out.mono ?_
  rintro e w1 ⟨k, rfl, hk, h1, h2, hw⟩
  subst hw
  have H1 := hide h1
  have H2 := hide h2
  clear h1 h2 SE
  by_cases hx : k < m ∧ ((sAt ls k : Nat) : Int) = off
  · have HX := hide hx
    have hd : decide (k < m ∧ ((sAt ls k : Nat) : Int) = off) = true := by simpa using hx
    rw [hd]
    clear hx hd
    go_wp2_with fail
    go_ret
    exact ⟨k, rfl, HX.out.1, by have := HX.out.2; omega, fun q => by have := sAt_lt ls (show k < k + 1 by omega); have := HX.out.2; omega, rfl⟩
  · have HX := hide hx
    have hd : decide (k < m ∧ ((sAt ls k : Nat) : Int) = off) = false := by simpa using hx
    rw [hd]
    clear hx hd
    have hk1 : 1 ≤ k := by
      rcases Nat.eq_zero_or_pos k with q | q
      · subst q
        have := H2.out 0 (Nat.le_refl _) (by omega)
        have h0 : sAt ls 0 = 0 := by simp [sAt, smL]
        exact absurd ⟨by omega, by rw [h0] at this ⊢; omega⟩ HX.out
      · exact q
    obtain ⟨k', rfl⟩ : ∃ k', k = k' + 1 := ⟨k - 1, by omega⟩
    go_wp2_with fail
    go_ret
    refine ⟨k', by go_num, by omega, by have := H1.out k' (by omega); omega, fun q => ?_, rfl⟩
    have h3 := H2.out (k' + 1) (Nat.le_refl _) q
    rcases Nat.lt_or_ge off (sAt ls (k' + 1)) with q2 | q2
    · exact q2
    · exact absurd ⟨q, by omega⟩ HX.out
end Go.Proofs.YtbgngikejgihgagGreatDoor

namespace Go.Proofs.YtbgngikejgihgagGreatDoor
open Go Go.RowKit
set_option linter.unusedVariables false

theorem sAt_succ {L : List (List Int)} {i : Nat} {l : List Int} (h : L[i]? = some l) : sAt L (i + 1) = sAt L i + l.length + 1 := by
  unfold sAt
  rw [smL_take_succ h]; omega
theorem sAt_le (L : List (List Int)) {i j : Nat} (h : i ≤ j) : sAt L i ≤ sAt L j := by
  rcases Nat.eq_or_lt_of_le h with e | e
  · rw [e]; exact Nat.le_refl _
  · exact Nat.le_of_lt (sAt_lt L e)
/-- How far the index is known is told by what it says. -/
theorem Kn.uniq {L : List (List Int)} {s0 off m m' : Nat} (h : Kn L s0 off m) (h' : Kn L s0 off m') : m = m' := by
  rcases Nat.lt_trichotomy m m' with q | q | q
  · have h1 := h.2.2.2 (by have := h'.2.1; omega)
    have h2 := h'.2.2.1 m h.1 q
    omega
  · exact q
  · have h1 := h'.2.2.2 (by have := h.2.1; omega)
    have h2 := h.2.2.1 m' h'.1 q
    omega
theorem Ln.uniq {L : List (List Int)} {off k k' : Nat} (h : Ln L off k) (h' : Ln L off k') : k = k' := by
  rcases Nat.lt_trichotomy k k' with q | q | q
  · have h1 := h.2.2 (by have := h'.1; omega)
    have := sAt_le L (show k + 1 ≤ k' by omega); have := h'.2.1; omega
  · exact q
  · have h1 := h'.2.2 (by have := h.1; omega)
    have := sAt_le L (show k' + 1 ≤ k by omega); have := h.2.1; omega
theorem Kn.ex (L : List (List Int)) (s0 off : Nat) (hs : s0 ≤ L.length) : ∃ m, Kn L s0 off m := by
  obtain ⟨d, hd⟩ : ∃ d, d = L.length - s0 := ⟨_, rfl⟩
  induction d generalizing s0 with
  | zero => exact ⟨s0, Nat.le_refl _, hs, fun i h1 h2 => by omega, fun h => by omega⟩
  | succ d ih =>
    by_cases hc : sAt L (s0 - 1) ≤ off
    · obtain ⟨m, h1, h2, h3, h4⟩ := ih (s0 + 1) (by omega) (by omega)
      refine ⟨m, by omega, h2, fun i hi1 hi2 => ?_, h4⟩
      rcases Nat.eq_or_lt_of_le hi1 with e | e
      · rw [← e]; exact hc
      · exact h3 i e hi2
    · exact ⟨s0, Nat.le_refl _, hs, fun i h1 h2 => by omega, fun _ => by omega⟩
end Go.Proofs.YtbgngikejgihgagGreatDoor

namespace Go.Proofs.YtbgngikejgihgagGreatDoor
open Go Go.RowKit
set_option linter.unusedVariables false

theorem own64_takeS {w : World} {lo : Nat} {ao : Option Addr} {n cap k : Nat} {st : List Int} (h : o64 w lo (.slice ao n cap) st) (hk1 : 1 ≤ k) (hk : k ≤ st.length) : o64 w lo (.slice ao k cap) (st.take k) := by
  unfold o64 at *
  rcases h.2 with ⟨e, e0⟩ | ⟨g, cap', cur, e, h1, h2, h3, h4, h5, h6⟩
  · omega
  · simp only [Value.slice.injEq] at e
    obtain ⟨rfl, e2, rfl⟩ := e
    have hl : (st.take k).length = k := by rw [List.length_take]; omega
    refine ⟨by rw [ints_length, hl, Nat.mul_one], .inr ⟨g, cap, cur, by rw [hl], h1, h2, by omega, h4, h5, ?_⟩⟩
    rw [hl]
    have e3 : List.take (k * 1) cur.toList = (List.take (st.length * 1) cur.toList).take (k * 1) := by rw [List.take_take, Nat.min_eq_left (by omega)]
    rw [e3, h6]
    simp [ints, List.map_take]
theorem Ln.colS {L : List (List Int)} {off k : Nat} {l : List Int} (h : Ln L off k) (ho : off ≤ (jn L).length) (hl : L[k]? = some l) : off - sAt L k ≤ l.length ∧ sAt L k ≤ off := by
  have hk := h.1
  have h2 := h.2.1
  refine ⟨?_, h2⟩
  have h3 := sAt_succ hl
  by_cases hn : k + 1 < L.length
  · have := h.2.2 hn; omega
  · have h4 := jn_len (ls := L) (by intro e; rw [e] at hk; simp at hk)
    have h5 : smL (L.take (k + 1)) = smL L := by rw [List.take_of_length_le (by omega)]
    unfold sAt at *
    omega
theorem Kn.ltS {L : List (List Int)} {s0 off m k : Nat} (h : Kn L s0 off m) (hl : Ln L off k) (hs : 1 ≤ s0) : k < m := by
  rcases Nat.lt_or_ge k m with q | q
  · exact q
  · have h1 := h.2.2.2 (by have := hl.1; omega)
    have h2 := sAt_le L (show m - 1 ≤ k by omega)
    have := hl.2.1
    omega

theorem cells_take {t : TypeId} {w : World} {lo hi g cap n : Nat} {us : List Value} {gs : List Gr} (h : OwG t w lo hi (.slice (some ⟨g, 0, none⟩) n cap) us gs) (hn : gs.length = n) (k : Nat) (hk : k ≤ n) : ∀ j u, (grVs (us.take k) (gs.take k))[j]? = some u → w.cell? ((⟨g, 0, none⟩ : Addr).add j) = some u := by
  intro j u hj
  have hr := h.row
  rw [hn] at hr
  refine hr.cells rfl j u ?_
  rw [grVs_take h.len k (by omega), List.getElem?_take] at hj
  split at hj
  · exact hj
  · cases hj
theorem cells_drop {t : TypeId} {w : World} {lo hi g cap n : Nat} {us : List Value} {gs : List Gr} (h : OwG t w lo hi (.slice (some ⟨g, 0, none⟩) n cap) us gs) (hn : gs.length = n) (k : Nat) (hk : k ≤ n) : ∀ j u, (grVs (us.drop k) (gs.drop k))[j]? = some u → w.cell? ((⟨g, k * 3, none⟩ : Addr).add j) = some u := by
  intro j u hj
  have hr := h.row
  rw [hn] at hr
  rw [grVs_drop h.len k (by omega), List.getElem?_drop] at hj
  have := hr.cells rfl (k * 3 + j) u hj
  unfold Addr.add at *
  by_cases h0 : j = 0
  · subst h0
    by_cases h1 : k = 0
    · subst h1; simpa using this
    · have h2 : ¬ k * 3 = 0 := by omega
      simpa [h2] using this
  · simpa [h0] using this
theorem grVs_lenT {us : List Value} {gs : List Gr} {n : Nat} (h : us.length = gs.length) (hn : gs.length = n) (k : Nat) (hk : k ≤ n) : (grVs (us.take k) (gs.take k)).length = k * 3 := by
  rw [grVs_length (by simp [h])]; simp; omega
theorem grVs_lenD {us : List Value} {gs : List Gr} {n : Nat} (h : us.length = gs.length) (hn : gs.length = n) (k : Nat) : (grVs (us.drop k) (gs.drop k)).length = (n - k) * 3 := by
  rw [grVs_length (by simp [h])]; simp [hn]
theorem fin_rows {w2 wc : World} {lo k j : Nat} {v0 v : Value} {us ws : List Value} {gs xs : List Gr} (G : OwG 152 w2 lo w2.heap.size v0 us gs) (hb : Below w2.heap.size w2 wc) (hlo : lo ≤ w2.heap.size) (hkj : k ≤ j)
    (ho : wc.ownsRow w2.heap.size 152 3 v (gs.take k ++ xs ++ gs.drop j).length (grVs (us.take k ++ ws ++ us.drop j) (gs.take k ++ xs ++ gs.drop j))) (hn : Nest wc w2.heap.size wc.heap.size ws (xs.map Gr.cells)) :
    OwG 152 wc lo wc.heap.size v (us.take k ++ ws ++ us.drop j) (gs.take k ++ xs ++ gs.drop j) := by
  have s := hb.size
  have N0 : Nest wc lo w2.heap.size us (gs.map Gr.cells) := G.nest.frame (fun q _ hq => hb.block q hq)
  have far : ∀ u ∈ ws, ∀ q, u.ownBlock = some q → w2.heap.size ≤ q := by
    intro u hu q hq
    obtain ⟨i, hi, rfl⟩ := List.getElem_of_mem hu
    have hl : i < (xs.map Gr.cells).length := by rw [← hn.len]; exact hi
    exact ((hn.own i _ (xs.map Gr.cells)[i] (by simp [hi]) (List.getElem?_eq_getElem hl)).lt q hq).1
  have d1 : ∀ u ∈ us.take k, ∀ v ∈ ws, ∀ q, u.ownBlock = some q → v.ownBlock ≠ some q := by
    intro u hu v hv q hq e
    have h1 := N0.bl u (List.mem_of_mem_take hu) q hq
    have h2 := far v hv q e
    omega
  have N1 := ((N0.take k).mono (hi' := wc.heap.size) (Nat.le_refl _) s).app (hn.mono hlo (Nat.le_refl _)) d1
  have d2 : ∀ u ∈ us.take k ++ ws, ∀ v ∈ us.drop j, ∀ q, u.ownBlock = some q → v.ownBlock ≠ some q := by
    intro u hu v hv q hq e
    rcases List.mem_append.1 hu with h1 | h1
    · exact N0.parts k j hkj u h1 v hv q hq e
    · have h2 := far u h1 q hq
      have h3 := N0.bl v (List.mem_of_mem_drop hv) q e
      omega
  have N2 := N1.app ((N0.drop j).mono (hi' := wc.heap.size) (Nat.le_refl _) s) d2
  refine ⟨owns_base ho hlo, fun q hq => (ho.lt q hq).2, ?_⟩
  rw [List.map_append, List.map_append, List.map_take, List.map_drop]
  exact N2

/-- The rows of the specification's line buffer while they are put together. -/
structure Mid (w2 wc : World) (us ws : List Value) (gs xs : List Gr) (k : Nat) (v : Value) : Prop where
  row : wc.ownsRow w2.heap.size 152 3 v (k + xs.length) (grVs (us.take k ++ ws) (gs.take k ++ xs))
  nest : Nest wc w2.heap.size wc.heap.size ws (xs.map Gr.cells)
  b : Below w2.heap.size w2 wc
theorem Mid.start {w2 X wc : World} {us : List Value} {gs : List Gr} {k : Nat} {v0 v : Value} (hb : Below w2.heap.size w2 X) (ho0 : X.ownsRow w2.heap.size 152 3 v0 0 []) (hg : X.grownBy wc v0.ownBlock) (ho : wc.ownsRow w2.heap.size 152 3 v k (grVs (us.take k) (gs.take k))) : Mid w2 wc us [] gs [] k v := by
  refine ⟨?_, Nest.nil _ _ _, hb.grown hg hb.size (fun q hq => (ho0.lt q hq).1)⟩
  simpa using ho
/-- One row more. -/
theorem Mid.put {w2 wc X wd : World} {us ws : List Value} {gs xs : List Gr} {k : Nat} {v v' u : Value} {x : Gr} (h : Mid w2 wc us ws gs xs k v) (hl : us.length = gs.length) (hb : Below wc.heap.size wc X) (hu : o32 X wc.heap.size u x.cells) (hg : (X.alloc (.cells #[u, .int .i64 x.lo, .int .i64 x.hi] 152)).grownBy wd v.ownBlock)
    (ho : wd.ownsRow w2.heap.size 152 3 v' (k + xs.length + 1) (grVs (us.take k ++ ws) (gs.take k ++ xs) ++ [u, .int .i64 x.lo, .int .i64 x.hi])) : Mid w2 wd us (ws ++ [u]) gs (xs ++ [x]) k v' := by
  have s1 := h.b.size
  have s2 := hb.size
  have s3 := hg.size
  rw [World.size_alloc] at s3
  have A := (Below.refl X.heap.size X).alloc (Nat.le_refl _) (.cells #[u, .int .i64 x.lo, .int .i64 x.hi] 152)
  have hrow : (X.alloc (.cells #[u, .int .i64 x.lo, .int .i64 x.hi] 152)).ownsRow w2.heap.size 152 3 v (k + xs.length) (grVs (us.take k ++ ws) (gs.take k ++ xs)) := owns_below (owns_below h.row hb (Nat.le_refl _)) A (Nat.le_refl _)
  have N1 : Nest X w2.heap.size X.heap.size (ws ++ [u]) ((xs ++ [x]).map Gr.cells) := by
    rw [List.map_append]
    exact (h.nest.frame (w' := X) (fun q _ hq => hb.block q hq)).snoc (hi' := X.heap.size) (owns_base hu (by omega)) (fun q hq => (hu.lt q hq).1) (fun q hq => (hu.lt q hq).2) s2
  have N2 := (N1.frame (w' := X.alloc (.cells #[u, .int .i64 x.lo, .int .i64 x.hi] 152)) (fun q _ hq => A.block q hq)).keptY hrow (by decide) hg
  refine ⟨?_, N2.mono (Nat.le_refl _) (by omega), ?_⟩
  · have hln := h.nest.len
    rw [List.length_map] at hln
    have e1 : grVs (us.take k ++ (ws ++ [u])) (gs.take k ++ (xs ++ [x])) = grVs (us.take k ++ ws) (gs.take k ++ xs) ++ [u, .int .i64 x.lo, .int .i64 x.hi] := by
      rw [← List.append_assoc, ← List.append_assoc, grVs_app (by simp [hl, hln])]
      rfl
    rw [e1, List.length_append]
    exact ho
  · have hB := (h.b.trans (hb.mono s1)).trans (A.mono (by omega))
    exact hB.grown hg (by rw [World.size_alloc]; omega) (fun q hq => (hrow.lt q hq).1)
theorem Mid.row0 {w2 wc : World} {us : List Value} {gs : List Gr} {k : Nat} {v : Value} (h : Mid w2 wc us [] gs [] k v) : wc.ownsRow w2.heap.size 152 3 v k (grVs (us.take k) (gs.take k)) := by simpa using h.row
theorem Mid.put0 {w2 wc X wd : World} {us : List Value} {gs : List Gr} {k : Nat} {v v' u : Value} {x : Gr} (h : Mid w2 wc us [] gs [] k v) (hl : us.length = gs.length) (hb : Below wc.heap.size wc X) (hu : o32 X wc.heap.size u x.cells) (hg : (X.alloc (.cells #[u, .int .i64 x.lo, .int .i64 x.hi] 152)).grownBy wd v.ownBlock)
    (ho : wd.ownsRow w2.heap.size 152 3 v' (k + 1) (grVs (us.take k) (gs.take k) ++ [u, .int .i64 x.lo, .int .i64 x.hi])) : Mid w2 wd us [u] gs [x] k v' :=
  h.put hl hb hu hg (by simpa using ho)
/-- The rest of the rows. -/
theorem Mid.fin {w2 wc wd : World} {lo j k n : Nat} {v0 v v' : Value} {us ws : List Value} {gs xs : List Gr} (h : Mid w2 wc us ws gs xs k v) (G : OwG 152 w2 lo w2.heap.size v0 us gs) (hn : gs.length = n) (hlo : lo ≤ w2.heap.size) (hkj : k ≤ j) (hj : j ≤ n) (hg : wc.grownBy wd v.ownBlock)
    (ho : wd.ownsRow w2.heap.size 152 3 v' (k + xs.length + (n - j)) (grVs (us.take k ++ ws) (gs.take k ++ xs) ++ grVs (us.drop j) (gs.drop j))) : OwG 152 wd lo wd.heap.size v' (us.take k ++ ws ++ us.drop j) (gs.take k ++ xs ++ gs.drop j) ∧ Below w2.heap.size w2 wd := by
  have s1 := h.b.size
  have s3 := hg.size
  have hl := G.len
  have hln := h.nest.len
  rw [List.length_map] at hln
  have hb2 : Below w2.heap.size w2 wd := h.b.grown hg s1 (fun q hq => (h.row.lt q hq).1)
  refine ⟨fin_rows G hb2 hlo hkj ?_ ((h.nest.keptY h.row (by decide) hg).mono (Nat.le_refl _) s3), hb2⟩
  rw [grVs_app (by simp [hl, hln])]
  rw [show (gs.take k ++ xs ++ gs.drop j).length = k + xs.length + (n - j) by simp [hn]; omega]
  exact ho
end Go.Proofs.YtbgngikejgihgagGreatDoor

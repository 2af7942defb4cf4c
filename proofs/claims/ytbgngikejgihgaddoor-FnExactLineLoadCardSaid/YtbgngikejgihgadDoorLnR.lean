import Derived.Test.YtbgngikejgihgadDoorLnC
import Derived.Test.YtbgngikejgihgadDoorLnG
namespace Go.Proofs.YtbgngikejgihgadDoor
open Go Go.RowKit
set_option linter.unusedVariables false

set_option maxHeartbeats 400000 in
theorem plain32N (ao : Option Addr) (n cap : Nat) (w : World) :
    Calls Tryd.prog 130 #[.slice ao n cap] w fun e w' => e = .returned (.agg #[.slice ao n cap, .int .i64 n, .int .i64 n]) ∧ Below w.heap.size w w' := by
  have HB := hide ((Below.refl w.heap.size w).alloc (Nat.le_refl _) (.cells #[.slice ao n cap, .int .i64 n, .int .i64 n] 143))
  go_enter Tryd.func130, Tryd.ntmps130
  go_wp2
  refine bodyPost_ret (v := .agg #[.slice ao n cap, .int .i64 n, .int .i64 n]) (by simp [results, Tryd.results130, go_sem]) rfl ⟨rfl, HB.out⟩
set_option maxHeartbeats 400000 in
theorem plainRN (ao : Option Addr) (n cap : Nat) (w : World) :
    Calls Tryd.prog 90 #[.slice ao n cap] w fun e w' => e = .returned (.agg #[.slice ao n cap, .int .i64 n, .int .i64 n]) ∧ Below w.heap.size w w' := by
  have HB := hide ((Below.refl w.heap.size w).alloc (Nat.le_refl _) (.cells #[.slice ao n cap, .int .i64 n, .int .i64 n] 140))
  go_enter Tryd.func90, Tryd.ntmps90
  go_wp2
  refine bodyPost_ret (v := .agg #[.slice ao n cap, .int .i64 n, .int .i64 n]) (by simp [results, Tryd.results90, go_sem]) rfl ⟨rfl, HB.out⟩

/-- The lines as rows, the tail behind the last. -/
def plR (L : List (List Int)) (t : List Int) : List Gr := L.dropLast.map plG ++ [plG (L.getLastD [] ++ t)]
theorem plR_len {L : List (List Int)} (h : L ≠ []) (t : List Int) : (plR L t).length = L.length := by
  have : 0 < L.length := List.length_pos_iff.2 h
  simp [plR]; omega
theorem last_get {L : List (List Int)} {k : Nat} (h : L.length = k + 1) : L[k]? = some (L.getLastD []) := by
  rw [List.getLastD_eq_getLast?, List.getLast?_eq_getElem?, h]
  simp [show k < L.length by omega]
theorem dropLast_take {L : List (List Int)} {k : Nat} (h : L.length = k + 1) : L.dropLast = L.take k := by
  rw [List.dropLast_eq_take, h]; rfl

set_option maxHeartbeats 4000000 in
set_option maxRecDepth 100000 in
theorem plainRowsN (L : List (List Int)) (tl : List Int) (base gl cl : Nat) (vals : List Value) (vt : Value) (w : World) (m : Nat) (hm : L.length = m + 1) (hown : w.ownsRow base 22 1 (.slice (some ⟨gl, 0, none⟩) (m + 1) cl) (m + 1) vals) (hat : LnAt w vals L) (ht : Sl .i32 w vt tl) (hn : m + 1 ≤ 1048577) (hs : ∀ l ∈ L, l.length ≤ 1048576) (htl : tl.length ≤ 1048576) :
    Calls Tryd.prog 91 #[.slice (some ⟨gl, 0, none⟩) (m + 1) cl, vt] w fun e w' => ∃ vs, e = .returned (.slice (some ⟨w.heap.size, 0, none⟩) (m + 1) (m + 1)) ∧ OwG 143 w' w.heap.size w'.heap.size (.slice (some ⟨w.heap.size, 0, none⟩) (m + 1) (m + 1)) vs (plR L tl) ∧ Below w.heap.size w w' := by
  obtain ⟨i0, hi, hz0, hz1, hz2⟩ := info_parts Tryd.infoGB
  have hgl : gl < w.heap.size := (hown.lt gl rfl).2
  have hcl : m + 1 ≤ cl ∧ cl ≤ maxLen := by
    rcases hown.2 with ⟨q, _⟩ | ⟨g', cap', cur, q, _, _, c1, c2, _⟩
    · cases q
    · simp only [Value.slice.injEq, Option.some.injEq, Addr.mk.injEq, and_true, true_and] at q
      obtain ⟨_, rfl⟩ := q
      exact ⟨c1, c2⟩
  have VC := hide (fun (k : Nat) (hk : k < m + 1) => (show ∃ v l, L[k]? = some l ∧ Sl .i32 w v l ∧ w.cell? ⟨gl, k, none⟩ = some v from by
    have hv : k < vals.length := by rw [hat.len, hm]; exact hk
    have hl : k < L.length := by rw [hm]; exact hk
    exact ⟨vals[k], L[k], by simp [hl], hat.at_ k _ _ (by simp [hv]) (by simp [hl]), by rw [hown.cellAt k (by omega)]; simp [hv]⟩))
  have HT := hide ht
  have HS := hide (fun (k : Nat) (l : List Int) (h : L[k]? = some l) => hs l (List.mem_of_getElem? h))
  have tv : ∃ at_ nt ct, vt = .slice at_ nt ct := by
    rcases ht with ⟨q, _⟩ | ⟨_, _, _, q, _⟩ <;> exact ⟨_, _, _, q⟩
  obtain ⟨at_, nt, ct, rfl⟩ := tv
  have HM := hide hm
  obtain ⟨c1, c2⟩ := hcl
  unfold maxLen at c2
  have DL := hide (dropLast_take hm)
  have LG := hide (last_get hm)
  clear hown hat ht hs hm
  go_enter Tryd.func91, Tryd.ntmps91
  go_wp2_with (at_make; refine wpList_make_full _ rfl _ _ 138 rfl w.heap.size 143 i0 (.agg #[.slice none 0 0, .int .i64 0, .int .i64 0]) 3 Tryd.underlying138 hi hz0 hz1 .i64 .i64 _ _ (m + 1) rfl rfl (by omega) (by omega) (by rw [hz2]; omega) (by unfold maxLen; omega) (Nat.le_refl _) ?_; intro w1 hown hgrow)
  rw [made_grs] at hown
  have B1 := hide ((Below.refl w.heap.size w).grown hgrow (Nat.le_refl _) (fun k hk => by cases hk))
  have G1 := hide (show OwG 143 w1 w.heap.size w1.heap.size (.slice (some ⟨w.heap.size, 0, none⟩) (m + 1) (m + 1)) (List.replicate (m + 1) (.slice none 0 0)) (List.replicate (m + 1) nilG) from ⟨by rw [List.length_replicate]; exact hown, fun q hq => (hown.lt q hq).2, Nest.nils _ _ _ _⟩)
  clear hown hgrow
  go_loopw [19] (fun i wr => ∃ k : Nat, k ≤ m ∧ i = .int .i64 k ∧ Below w.heap.size w wr ∧ ∃ us : List Value, us.length = k ∧ OwG 143 wr w.heap.size wr.heap.size (.slice (some ⟨w.heap.size, 0, none⟩) (m + 1) (m + 1)) (us ++ List.replicate (m + 1 - k) (.slice none 0 0)) ((L.take k).map plG ++ List.replicate (m + 1 - k) nilG))
    (fun i _ => m - (intOf i).toNat)
  case atStart => exact ⟨0, Nat.zero_le _, rfl, B1.out, [], rfl, by simpa using G1.out⟩
  case round =>
    obtain ⟨k, hk, rfl, hb, us, hus, hG⟩ := hrel
    have HB := hide hb
    have hsz := hb.size
    obtain ⟨v, l, hl, hsl, hc0⟩ := VC.out k (by omega)
    have hc := (hb.cell (p := ⟨gl, k, none⟩) hgl).trans hc0
    have hlen := HS.out k l hl
    have hLk : (L.take k).length = k := by rw [List.length_take, HM.out]; omega
    have hrep : ∀ (β : Type) (x : β), List.replicate (m + 1 - k) x = x :: List.replicate (m + 1 - (k + 1)) x := fun β x => by rw [show m + 1 - k = (m + 1 - (k + 1)) + 1 by omega, List.replicate_succ]
    rw [hrep, hrep] at hG
    have hn3 : ((L.take k).map plG ++ nilG :: List.replicate (m + 1 - (k + 1)) nilG).length = m + 1 := by simp only [List.length_append, List.length_map, hLk, List.length_cons, List.length_replicate]; omega
    have SS := hide (hsl.below hb)
    have GG := hide hG
    have N3 := hide hn3
    have LK := hide hLk
    have US := hide hus
    have HL := hide hl
    have sv : ∃ a n' c, v = .slice a n' c := by
      rcases hsl with ⟨q, _⟩ | ⟨_, _, _, q, _⟩ <;> exact ⟨_, _, _, q⟩
    obtain ⟨a, n', c, rfl⟩ := sv
    have AA := hide ((Below.refl wr.heap.size wr).alloc (Nat.le_refl _) (.cells #[.slice a n' c] 22))
    have k0 : (wr.alloc (.cells #[.slice a n' c] 22)).cell? ⟨wr.heap.size, 0, none⟩ = some (.slice a n' c) := by simp
    have hsa : (wr.alloc (.cells #[.slice a n' c] 22)).heap.size = wr.heap.size + 1 := by simp
    by_cases hlt : k < m
    · have CC := hide (concat1 l _ _ _ (SS.out.below AA.out) (by rw [hsa]; omega) k0 hlen)
      have hlt' : (k : Int) < m := by omega
      clear hG hb hc0 hsl hl hus hLk hn3 hrep
      go_wp2_with fail
      generalize wr.alloc (.cells #[.slice a n' c] 22) = wa at *
      refine CC.out.mono ?_
      rintro e w2 ⟨u, rfl, ho2, hb2⟩
      obtain ⟨au, cu, rfl⟩ := o32_val ho2
      have O2 := hide ho2
      have BB2 := hide (AA.out.trans (hb2.mono (by omega)))
      have U2 := hide (fun q (hq : (Value.slice au l.length cu).ownBlock = some q) => (ho2.lt q hq))
      clear ho2 hb2 CC
      go_wp2_with fail
      refine (plain32N au l.length cu w2).mono ?_
      rintro e w3 ⟨rfl, hb3⟩
      have s23 := hb3.size
      have s2 := BB2.out.size
      have BB3 := hide (BB2.out.trans (hb3.mono (by omega)))
      have O3 := owns_below O2.out hb3 (Nat.le_refl _)
      have G3 := GG.out.frame (w' := w3) (fun q _ hq => BB3.out.block q hq)
      have ST := G3.store (hi' := w3.heap.size) l.length l.length N3.out (by rw [US.out, List.length_map, LK.out]) (owns_base O3 (by omega)) (fun q hq => by have := U2.out q hq; omega) (fun q hq => by have := U2.out q hq; omega) (by omega) (by decide)
      have kx := G3.cells N3.out (i := k) (get_mid (by rw [List.length_map, LK.out])) (get_mid US.out)
      have hr := G3.row
      rw [N3.out] at hr
      have f0 : w3.frozen? ⟨w.heap.size, k * 3, none⟩ = false := hr.frozenAt _
      have f1 : w3.frozen? ⟨w.heap.size, k * 3 + 1, none⟩ = false := hr.frozenAt _
      have f2 : w3.frozen? ⟨w.heap.size, k * 3 + 2, none⟩ = false := hr.frozenAt _
      obtain ⟨p0, p1, p2⟩ := kx
      rw [List.length_map, LK.out] at ST
      have S4 := hide ST.1
      have B4 := hide ((HB.out.trans (BB3.out.mono hsz)).grown ST.2 (by omega) (fun q hq => by cases hq; exact Nat.le_refl _))
      clear hb3 O3 G3 ST hr GG
      go_wp2
      go_roundw
      case rel =>
        refine ⟨k + 1, by omega, by go_num, B4.out, us ++ [.slice au l.length cu], by simp [US.out], ?_⟩
        rw [List.take_add_one, HL.out]
        have := S4.out
        simp only [Option.toList_some, List.map_append, List.map_cons, List.map_nil, List.append_assoc, List.cons_append, List.nil_append]
        exact this.mono (Nat.le_refl _) (by simp)
      case measure => simp [intOf]; omega
    · obtain rfl : k = m := by omega
      have hlt' : ¬ (k : Int) < k := by omega
      have AA2 := hide ((Below.refl wr.heap.size wr).alloc (Nat.le_refl _) (.cells #[.slice a n' c, .slice at_ nt ct] 22))
      have k0' : (wr.alloc (.cells #[.slice a n' c, .slice at_ nt ct] 22)).cell? ⟨wr.heap.size, 0, none⟩ = some (.slice a n' c) := by simp
      have k1' : (wr.alloc (.cells #[.slice a n' c, .slice at_ nt ct] 22)).cell? ⟨wr.heap.size, 1, none⟩ = some (.slice at_ nt ct) := by simp
      have hsa2 : (wr.alloc (.cells #[.slice a n' c, .slice at_ nt ct] 22)).heap.size = wr.heap.size + 1 := by simp
      have cc := concat l tl _ _ _ _ (SS.out.below AA2.out) ((HT.out.below HB.out).below AA2.out) (by rw [hsa2]; omega) k0' k1' hlen htl
      generalize hX : l ++ tl = X at cc
      have HX := hide hX
      have CC := hide cc
      clear cc hX
      clear hG hb hc0 hsl hl hus hLk hn3 hrep k0 hsa AA
      go_wp2_with fail
      generalize wr.alloc (.cells #[.slice a n' c, .slice at_ nt ct] 22) = wa at *
      refine CC.out.mono ?_
      rintro e w2 ⟨u, rfl, ho2, hb2⟩
      obtain ⟨au, cu, rfl⟩ := o32_val (show o32 w2 _ u X from ho2)
      have O2 := hide (show o32 w2 _ _ X from ho2)
      have BB2 := hide (AA2.out.trans (hb2.mono (by omega)))
      have U2 := hide (fun q (hq : (Value.slice au X.length cu).ownBlock = some q) => (ho2.lt q hq))
      clear ho2 hb2 CC
      go_wp2_with fail
      refine (plain32N au X.length cu w2).mono ?_
      rintro e w3 ⟨rfl, hb3⟩
      have s23 := hb3.size
      have s2 := BB2.out.size
      have BB3 := hide (BB2.out.trans (hb3.mono (by omega)))
      have O3 := owns_below O2.out hb3 (Nat.le_refl _)
      have G3 := GG.out.frame (w' := w3) (fun q _ hq => BB3.out.block q hq)
      have ST := G3.store (hi' := w3.heap.size) X.length X.length N3.out (by rw [US.out, List.length_map, LK.out]) (owns_base O3 (by omega)) (fun q hq => by have := U2.out q hq; omega) (fun q hq => by have := U2.out q hq; omega) (by omega) (by decide)
      have kx := G3.cells N3.out (i := k) (get_mid (by rw [List.length_map, LK.out])) (get_mid US.out)
      have hr := G3.row
      rw [N3.out] at hr
      have f0 : w3.frozen? ⟨w.heap.size, k * 3, none⟩ = false := hr.frozenAt _
      have f1 : w3.frozen? ⟨w.heap.size, k * 3 + 1, none⟩ = false := hr.frozenAt _
      have f2 : w3.frozen? ⟨w.heap.size, k * 3 + 2, none⟩ = false := hr.frozenAt _
      obtain ⟨p0, p1, p2⟩ := kx
      rw [List.length_map, LK.out] at ST
      have S4 := hide ST.1
      have B4 := hide ((HB.out.trans (BB3.out.mono hsz)).grown ST.2 (by omega) (fun q hq => by cases hq; exact Nat.le_refl _))
      generalize hLT : X.length = lt at *
      have HLT := hide hLT
      clear hb3 O3 G3 ST hr GG hLT
      go_wp2
      go_ret
      refine ⟨us ++ [.slice au lt cu], rfl, ?_, B4.out⟩
      have h9 := S4.out
      rw [show k + 1 - (k + 1) = 0 by omega] at h9
      have e1 : L.getLastD [] = l := by have := LG.out; rw [HL.out] at this; exact (Option.some.inj this).symm
      have e2 : plR L tl = (L.take k).map plG ++ [⟨X, lt, lt⟩] := by rw [plR, DL.out, e1, HX.out]; simp only [plG, HLT.out]
      rw [e2]
      exact h9.mono (Nat.le_refl _) (by simp)
end Go.Proofs.YtbgngikejgihgadDoor

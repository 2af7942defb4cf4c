import Derived.Test.YtbkcbhjejkicjaaGreatDoorMq41
namespace Go.Proofs.YtbkcbhjejkicjaaGreatDoor
open Go Go.RowKit
set_option linter.unusedVariables false

set_option maxHeartbeats 400000 in
theorem plain32N (ao : Option Addr) (n cap : Nat) (w : World) :
    Calls Tryz.prog 70 #[.slice ao n cap] w fun e w' => e = .returned (.agg #[.slice ao n cap, .int .i64 n, .int .i64 n]) ∧ Below w.heap.size w w' := by
  have HB := hide ((Below.refl w.heap.size w).alloc (Nat.le_refl _) (.cells #[.slice ao n cap, .int .i64 n, .int .i64 n] 143))
  go_enter Tryz.func70, Tryz.ntmps70
  go_wp2
  refine bodyPost_ret (v := .agg #[.slice ao n cap, .int .i64 n, .int .i64 n]) (by simp [results, Tryz.results70, go_sem]) rfl ⟨rfl, HB.out⟩
/-- The lines as rows, the tail behind the last. -/
def plR (L : List (List Int)) (t : List Int) : List Gr := L.dropLast.map plG ++ [plG (L.getLastD [] ++ t)]
theorem last_get {L : List (List Int)} {k : Nat} (h : L.length = k + 1) : L[k]? = some (L.getLastD []) := by
  rw [List.getLastD_eq_getLast?, List.getLast?_eq_getElem?, h]
  simp [show k < L.length by omega]
theorem dropLast_take {L : List (List Int)} {k : Nat} (h : L.length = k + 1) : L.dropLast = L.take k := by
  rw [List.dropLast_eq_take, h]; rfl

set_option maxHeartbeats 4000000 in
set_option maxRecDepth 100000 in
theorem plainRowsN (L : List (List Int)) (tl : List Int) (base gl cl : Nat) (vals : List Value) (vt : Value) (w : World) (m : Nat) (hm : L.length = m + 1) (hown : w.ownsRow base 49 1 (.slice (some ⟨gl, 0, none⟩) (m + 1) cl) (m + 1) vals) (hat : LnAt w vals L) (ht : Sl .i32 w vt tl) (hn : m + 1 ≤ 1048577) (hs : ∀ l ∈ L, l.length ≤ 1048576) (htl : tl.length ≤ 1048576) :
    Calls Tryz.prog 53 #[.slice (some ⟨gl, 0, none⟩) (m + 1) cl, vt] w fun e w' => ∃ vs, e = .returned (.slice (some ⟨w.heap.size, 0, none⟩) (m + 1) (m + 1)) ∧ OwG 143 w' w.heap.size w'.heap.size (.slice (some ⟨w.heap.size, 0, none⟩) (m + 1) (m + 1)) vs (plR L tl) ∧ Below w.heap.size w w' := by
  obtain ⟨i0, hi, hz0, hz1, hz2⟩ := info_parts Tryz.infoGB
  have hgl : gl < w.heap.size := (hown.lt gl rfl).2
  have hcl : m + 1 ≤ cl ∧ cl ≤ maxLen := by
    rcases hown.2 with ⟨q, _⟩ | ⟨g', cap', cur, q, _, _, c1, c2, _⟩
    · cases q
    · simp only [Value.slice.injEq, Option.some.injEq, Addr.mk.injEq, and_true, true_and] at q
      obtain ⟨_, rfl⟩ := q
      exact ⟨c1, c2⟩
  have VC := hide (fun (k : Nat) (hk : k < m + 1) => (show ∃ v l, L[k]? = some l ∧ Sl .i32 w v l ∧ w.cell? ⟨gl, k, none⟩ = some v from by
    have hv : k < vals.length := by rw [hat.len, hm]; exact hk
    have hl : k < L.length := by rw [hm]; exact hk
    exact ⟨vals[k], L[k], by simp [hl], hat.at_ k _ _ (by simp [hv]) (by simp [hl]), by rw [hown.cellAt k (by omega)]; simp [hv]⟩))
  have HT := hide ht
  have HS := hide (fun (k : Nat) (l : List Int) (h : L[k]? = some l) => hs l (List.mem_of_getElem? h))
  have tv : ∃ at_ nt ct, vt = .slice at_ nt ct := by
    rcases ht with ⟨q, _⟩ | ⟨_, _, _, q, _⟩ <;> exact ⟨_, _, _, q⟩
  obtain ⟨at_, nt, ct, rfl⟩ := tv
  have HM := hide hm
  obtain ⟨c1, c2⟩ := hcl
  unfold maxLen at c2
  have DL := hide (dropLast_take hm)
  have LG := hide (last_get hm)
  clear hown hat ht hs hm
  go_enter Tryz.func53, Tryz.ntmps53
  go_wp2_with (at_make; refine wpList_make_full _ rfl _ _ 138 rfl w.heap.size 143 i0 (.agg #[.slice none 0 0, .int .i64 0, .int .i64 0]) 3 Tryz.underlying138 hi hz0 hz1 .i64 .i64 _ _ (m + 1) rfl rfl (by omega) (by omega) (by rw [hz2]; omega) (by unfold maxLen; omega) (Nat.le_refl _) ?_; intro w1 hown hgrow)
  rw [made_grs] at hown
  have B1 := hide ((Below.refl w.heap.size w).grown hgrow (Nat.le_refl _) (fun k hk => by cases hk))
  have G1 := hide (show OwG 143 w1 w.heap.size w1.heap.size (.slice (some ⟨w.heap.size, 0, none⟩) (m + 1) (m + 1)) (List.replicate (m + 1) (.slice none 0 0)) (List.replicate (m + 1) nilG) from ⟨by rw [List.length_replicate]; exact hown, fun q hq => (hown.lt q hq).2, Nest.nils _ _ _ _⟩)
  clear hown hgrow
  go_loopw [19] (fun i wr => ∃ k : Nat, k ≤ m ∧ i = .int .i64 k ∧ Below w.heap.size w wr ∧ ∃ us : List Value, us.length = k ∧ OwG 143 wr w.heap.size wr.heap.size (.slice (some ⟨w.heap.size, 0, none⟩) (m + 1) (m + 1)) (us ++ List.replicate (m + 1 - k) (.slice none 0 0)) ((L.take k).map plG ++ List.replicate (m + 1 - k) nilG))
    (fun i _ => m - (intOf i).toNat)
  case atStart => exact ⟨0, Nat.zero_le _, rfl, B1.out, [], rfl, by simpa using G1.out⟩
  case round =>
    obtain ⟨k, hk, rfl, hb, us, hus, hG⟩ := hrel
    have HB := hide hb
    have hsz := hb.size
    obtain ⟨v, l, hl, hsl, hc0⟩ := VC.out k (by omega)
    have hc := (hb.cell (p := ⟨gl, k, none⟩) hgl).trans hc0
    have hlen := HS.out k l hl
    have hLk : (L.take k).length = k := by rw [List.length_take, HM.out]; omega
    have hrep : ∀ (β : Type) (x : β), List.replicate (m + 1 - k) x = x :: List.replicate (m + 1 - (k + 1)) x := fun β x => by rw [show m + 1 - k = (m + 1 - (k + 1)) + 1 by omega, List.replicate_succ]
    rw [hrep, hrep] at hG
    have hn3 : ((L.take k).map plG ++ nilG :: List.replicate (m + 1 - (k + 1)) nilG).length = m + 1 := by simp only [List.length_append, List.length_map, hLk, List.length_cons, List.length_replicate]; omega
    have SS := hide (hsl.below hb)
    have GG := hide hG
    have N3 := hide hn3
    have LK := hide hLk
    have US := hide hus
    have HL := hide hl
    have sv : ∃ a n' c, v = .slice a n' c := by
      rcases hsl with ⟨q, _⟩ | ⟨_, _, _, q, _⟩ <;> exact ⟨_, _, _, q⟩
    obtain ⟨a, n', c, rfl⟩ := sv
    have AA := hide ((Below.refl wr.heap.size wr).alloc (Nat.le_refl _) (.cells #[.slice a n' c] 49))
    have k0 : (wr.alloc (.cells #[.slice a n' c] 49)).cell? ⟨wr.heap.size, 0, none⟩ = some (.slice a n' c) := by simp
    have hsa : (wr.alloc (.cells #[.slice a n' c] 49)).heap.size = wr.heap.size + 1 := by simp
    by_cases hlt : k < m
    · have CC := hide (concat1 l _ _ _ (SS.out.below AA.out) (by rw [hsa]; omega) k0 hlen)
      have hlt' : (k : Int) < m := by omega
      clear hG hb hc0 hsl hl hus hLk hn3 hrep
      go_wp2_with fail
      generalize wr.alloc (.cells #[.slice a n' c] 49) = wa at *
      refine CC.out.mono ?_
      rintro e w2 ⟨u, rfl, ho2, hb2⟩
      obtain ⟨au, cu, rfl⟩ := o32_val ho2
      have O2 := hide ho2
      have BB2 := hide (AA.out.trans (hb2.mono (by omega)))
      have U2 := hide (fun q (hq : (Value.slice au l.length cu).ownBlock = some q) => (ho2.lt q hq))
      clear ho2 hb2 CC
      go_wp2_with fail
      refine (plain32N au l.length cu w2).mono ?_
      rintro e w3 ⟨rfl, hb3⟩
      have s23 := hb3.size
      have s2 := BB2.out.size
      have BB3 := hide (BB2.out.trans (hb3.mono (by omega)))
      have O3 := owns_below O2.out hb3 (Nat.le_refl _)
      have G3 := GG.out.frame (w' := w3) (fun q _ hq => BB3.out.block q hq)
      have ST := G3.store (hi' := w3.heap.size) l.length l.length N3.out (by rw [US.out, List.length_map, LK.out]) (owns_base O3 (by omega)) (fun q hq => by have := U2.out q hq; omega) (fun q hq => by have := U2.out q hq; omega) (by omega) (by decide)
      have kx := G3.cells N3.out (i := k) (get_midL (by rw [List.length_map, LK.out])) (get_midL US.out)
      have hr := G3.row
      rw [N3.out] at hr
      have f0 : w3.frozen? ⟨w.heap.size, k * 3, none⟩ = false := hr.frozenAt _
      have f1 : w3.frozen? ⟨w.heap.size, k * 3 + 1, none⟩ = false := hr.frozenAt _
      have f2 : w3.frozen? ⟨w.heap.size, k * 3 + 2, none⟩ = false := hr.frozenAt _
      obtain ⟨p0, p1, p2⟩ := kx
      rw [List.length_map, LK.out] at ST
      have S4 := hide ST.1
      have B4 := hide ((HB.out.trans (BB3.out.mono hsz)).grown ST.2 (by omega) (fun q hq => by cases hq; exact Nat.le_refl _))
      clear hb3 O3 G3 ST hr GG
      go_wp2
      go_roundw
      case rel =>
        refine ⟨k + 1, by omega, by go_num, B4.out, us ++ [.slice au l.length cu], by simp [US.out], ?_⟩
        rw [List.take_add_one, HL.out]
        have := S4.out
        simp only [Option.toList_some, List.map_append, List.map_cons, List.map_nil, List.append_assoc, List.cons_append, List.nil_append]
        exact this.mono (Nat.le_refl _) (by simp)
      case measure => simp [intOf]; omega
    · obtain rfl : k = m := by omega
      have hlt' : ¬ (k : Int) < k := by omega
      have AA2 := hide ((Below.refl wr.heap.size wr).alloc (Nat.le_refl _) (.cells #[.slice a n' c, .slice at_ nt ct] 49))
      have k0' : (wr.alloc (.cells #[.slice a n' c, .slice at_ nt ct] 49)).cell? ⟨wr.heap.size, 0, none⟩ = some (.slice a n' c) := by simp
      have k1' : (wr.alloc (.cells #[.slice a n' c, .slice at_ nt ct] 49)).cell? ⟨wr.heap.size, 1, none⟩ = some (.slice at_ nt ct) := by simp
      have hsa2 : (wr.alloc (.cells #[.slice a n' c, .slice at_ nt ct] 49)).heap.size = wr.heap.size + 1 := by simp
      have cc := concat l tl _ _ _ _ (SS.out.below AA2.out) ((HT.out.below HB.out).below AA2.out) (by rw [hsa2]; omega) k0' k1' hlen htl
      generalize hX : l ++ tl = X at cc
      have HX := hide hX
      have CC := hide cc
      clear cc hX
      clear hG hb hc0 hsl hl hus hLk hn3 hrep k0 hsa AA
      go_wp2_with fail
      generalize wr.alloc (.cells #[.slice a n' c, .slice at_ nt ct] 49) = wa at *
      refine CC.out.mono ?_
      rintro e w2 ⟨u, rfl, ho2, hb2⟩
      obtain ⟨au, cu, rfl⟩ := o32_val (show o32 w2 _ u X from ho2)
      have O2 := hide (show o32 w2 _ _ X from ho2)
      have BB2 := hide (AA2.out.trans (hb2.mono (by omega)))
      have U2 := hide (fun q (hq : (Value.slice au X.length cu).ownBlock = some q) => (ho2.lt q hq))
      clear ho2 hb2 CC
      go_wp2_with fail
      refine (plain32N au X.length cu w2).mono ?_
      rintro e w3 ⟨rfl, hb3⟩
      have s23 := hb3.size
      have s2 := BB2.out.size
      have BB3 := hide (BB2.out.trans (hb3.mono (by omega)))
      have O3 := owns_below O2.out hb3 (Nat.le_refl _)
      have G3 := GG.out.frame (w' := w3) (fun q _ hq => BB3.out.block q hq)
      have ST := G3.store (hi' := w3.heap.size) X.length X.length N3.out (by rw [US.out, List.length_map, LK.out]) (owns_base O3 (by omega)) (fun q hq => by have := U2.out q hq; omega) (fun q hq => by have := U2.out q hq; omega) (by omega) (by decide)
      have kx := G3.cells N3.out (i := k) (get_midL (by rw [List.length_map, LK.out])) (get_midL US.out)
      have hr := G3.row
      rw [N3.out] at hr
      have f0 : w3.frozen? ⟨w.heap.size, k * 3, none⟩ = false := hr.frozenAt _
      have f1 : w3.frozen? ⟨w.heap.size, k * 3 + 1, none⟩ = false := hr.frozenAt _
      have f2 : w3.frozen? ⟨w.heap.size, k * 3 + 2, none⟩ = false := hr.frozenAt _
      obtain ⟨p0, p1, p2⟩ := kx
      rw [List.length_map, LK.out] at ST
      have S4 := hide ST.1
      have B4 := hide ((HB.out.trans (BB3.out.mono hsz)).grown ST.2 (by omega) (fun q hq => by cases hq; exact Nat.le_refl _))
      generalize hLT : X.length = lt at *
      have HLT := hide hLT
      clear hb3 O3 G3 ST hr GG hLT
      go_wp2
      go_ret
      refine ⟨us ++ [.slice au lt cu], rfl, ?_, B4.out⟩
      have h9 := S4.out
      rw [show k + 1 - (k + 1) = 0 by omega] at h9
      have e1 : L.getLastD [] = l := by have := LG.out; rw [HL.out] at this; exact (Option.some.inj this).symm
      have e2 : plR L tl = (L.take k).map plG ++ [⟨X, lt, lt⟩] := by rw [plR, DL.out, e1, HX.out]; simp only [plG, HLT.out]
      rw [e2]
      exact h9.mono (Nat.le_refl _) (by simp)
end Go.Proofs.YtbkcbhjejkicjaaGreatDoor

namespace Go.Proofs.YtbkcbhjejkicjaaGreatDoor
open Go Go.RowKit
set_option linter.unusedVariables false

theorem plR_nil {L : List (List Int)} (h : L ≠ []) : plR L [] = L.map plG := by
  have e := List.dropLast_concat_getLast h
  have e2 : L.getLastD [] = L.getLast h := by rw [List.getLastD_eq_getLast?, List.getLast?_eq_some_getLast h]; rfl
  rw [plR, List.append_nil, e2]
  conv => rhs; rw [← e]
  simp
set_option maxHeartbeats 2000000 in
set_option maxRecDepth 100000 in
theorem loadL (zs : List Int) (b o cap : Nat) (w : World) (hc : ∀ i, i < zs.length → w.cell? ⟨b, o + i, none⟩ = some (.int .i32 (zs.getD i 0))) (hb : b < w.heap.size) (hn : zs.length ≤ 8192) (hcap : zs.length ≤ cap) (hm : cap ≤ maxLen) :
    Calls Tryz.prog 39 #[.slice (some ⟨b, o, none⟩) zs.length cap] w fun e w' => ∃ c g sv vs, e = .returned (.pointer (some ⟨c, 0, none⟩)) ∧ w.heap.size ≤ c ∧ c < w'.heap.size ∧ LCr w' w.heap.size w'.heap.size c (.slice (some ⟨g, 0, none⟩) (lns zs).length (lns zs).length) sv vs ((lns zs).map plG) (lns zs).length (lns zs).length zs.length [0] ∧ Below w.heap.size w w' := by
  have CU := hide (cutL zs b o cap w hc hb (by omega) hcap hm)
  have LL := lns_len zs
  have LE := hide (fun l (h : l ∈ lns zs) => lns_each h)
  have NE := hide (lns_ne zs)
  generalize hL : lns zs = L at *
  obtain ⟨m, hmL⟩ : ∃ m, L.length = m + 1 := ⟨L.length - 1, by omega⟩
  generalize hN : zs.length = n at *
  have HM := hide hmL
  rw [hmL] at LL CU ⊢
  clear hL hN hmL hc
  go_enter Tryz.func39, Tryz.ntmps39
  go_wp2_with fail
  refine CU.out.mono ?_
  rintro e w1 ⟨v1, vals, rfl, ho1, hat1, hb1⟩
  rcases ho1.2 with ⟨_, q⟩ | ⟨gl, cl, cur, rfl, _⟩
  · omega
  have PR := hide (plainRowsN L [] w.heap.size gl cl vals (.slice none 0 0) w1 m HM.out ho1 (hat1.below hb1) (.inl ⟨rfl, rfl⟩) (by omega) (fun l hl => by have := LE.out l hl; omega) (by simp))
  have B1 := hide hb1
  have s1 := hb1.size
  clear ho1 hat1 hb1 CU
  go_wp2_with fail
  refine PR.out.mono ?_
  rintro e w2 ⟨vs, rfl, hG2, hb2⟩
  have G2 := hide hG2
  have B2 := hide (B1.out.trans (hb2.mono s1))
  have s2 := hb2.size
  clear hG2 hb2 PR
  go_wp2_with fail
  refine (plainRN _ _ _ w2).mono ?_
  rintro e w3 ⟨rfl, hb3⟩
  have G3 := hide (G2.out.frame (w' := w3) (fun q _ hq => hb3.block q hq))
  have B3 := hide (B2.out.trans (hb3.mono (by omega)))
  have s3 := hb3.size
  clear hb3 G2
  have W4 := hide ((Below.refl w3.heap.size w3).alloc (Nat.le_refl _) (.cells #[.int .i64 0] 3))
  have W5 := hide (W4.out.alloc (by simp) (.cells #[.slice (some ⟨w1.heap.size, 0, none⟩) (m + 1) (m + 1), .int .i64 ((m + 1 : Nat) : Int), .int .i64 ((m + 1 : Nat) : Int), .int .i64 (n : Int), .slice (some ⟨w3.heap.size, 0, none⟩) 1 1] 148))
  go_wp2
  go_ret
  refine ⟨_, w1.heap.size, .slice (some ⟨w3.heap.size, 0, none⟩) 1 1, vs, rfl, ?_, ?_, ⟨?_, ?_, ?_, ?_⟩, ?_⟩
  · first | omega | (simp; omega)
  · first | omega | simp
  · have h9 := heap_alloc_new (w3.alloc (.cells #[.int .i64 0] 3)) (.cells #[.slice (some ⟨w1.heap.size, 0, none⟩) (m + 1) (m + 1), .int .i64 ((m + 1 : Nat) : Int), .int .i64 ((m + 1 : Nat) : Int), .int .i64 (n : Int), .slice (some ⟨w3.heap.size, 0, none⟩) 1 1] 148)
    first | exact h9 | simpa using h9
  · rw [← plR_nil NE.out]
    exact (G3.out.frame (fun q _ hq => W5.out.block q (by omega))).mono (by omega) (by simp; omega)
  · exact (World.ownsRow_lit w3 #[.int .i64 0] 1 (by omega) (by unfold maxLen; omega) rfl).alloc _
  · intro q hq
    simp only [Value.ownBlock, Option.some.injEq] at hq
    simp; omega
  · exact B3.out.trans (W5.out.mono (by omega))
end Go.Proofs.YtbkcbhjejkicjaaGreatDoor

namespace Go.Proofs.YtbkcbhjejkicjaaGreatDoor
open Go Go.RowKit
set_option linter.unusedVariables false

theorem jn_lns : ∀ zs : List Int, jn (lns zs) = zs
  | [] => by simp [lns, jn, jt]
  | c :: zs => by
    have ih := jn_lns zs
    have he := lns_eta zs
    rw [he] at ih
    simp only [jn] at ih
    by_cases hc : c = 10
    · subst hc
      rw [lns_br, he]
      simp only [jn, jt, List.nil_append]
      rw [ih]
    · simp only [lns, if_neg hc, jn, List.cons_append]
      rw [ih]
theorem lns_no10 : ∀ (zs : List Int) (l : List Int), l ∈ lns zs → 10 ∉ l
  | [], l, h => by simp [lns] at h; subst h; simp
  | c :: zs, l, h => by
    have ih := lns_no10 zs
    have he := lns_eta zs
    rw [he] at ih
    by_cases hc : c = 10
    · subst hc
      rw [lns_br, he] at h
      rcases List.mem_cons.1 h with h | h
      · subst h; simp
      · exact ih l h
    · simp only [lns, if_neg hc] at h
      rcases List.mem_cons.1 h with h | h
      · subst h
        intro hm
        rcases List.mem_cons.1 hm with hm | hm
        · exact hc hm.symm
        · exact ih _ (by simp) hm
      · exact ih l (List.mem_cons_of_mem _ h)
theorem grT_plG (l : List Int) : grT (plG l) = l := by
  simp [grT, plG, gtext]
theorem map_grT (L : List (List Int)) : (L.map plG).map grT = L := by
  rw [List.map_map]
  conv => rhs; rw [← List.map_id L]
  exact List.map_congr_left (fun l _ => grT_plG l)
end Go.Proofs.YtbkcbhjejkicjaaGreatDoor

namespace Go.Proofs.YtbkcbhjejkicjaaGreatDoor
open Go Go.RowKit
set_option linter.unusedVariables false

theorem brk_app (a b : List Int) : brk (a ++ b) = brk a + brk b := by unfold brk; rw [List.filter_append, List.length_append]; omega
theorem brk_no {a : List Int} (h : 10 ∉ a) : brk a = 0 := by
  unfold brk
  rw [List.filter_eq_nil_iff.2 (fun x hx => by simp; intro e; subst e; exact h hx)]; rfl
theorem brk_jn : ∀ {L : List (List Int)}, L ≠ [] → (∀ l ∈ L, 10 ∉ l) → brk (jn L) = (L.length : Int) - 1
  | [], h, _ => absurd rfl h
  | [a], _, h => by have := brk_no (h a (by simp)); simp [jn, jt]; exact this
  | a :: b :: L, _, h => by
    have ej : jn (a :: b :: L) = a ++ ([10] ++ jn (b :: L)) := by simp [jn, jt]
    rw [ej, brk_app, brk_app, brk_no (h a (by simp)), brk_jn (L := b :: L) (by simp) (fun l hl => h l (by simp at hl ⊢; right; exact hl))]
    have : brk [10] = 1 := rfl
    rw [this]; simp; omega

theorem LCr.keep {w w' : World} {hi hi' c g cap n : Nat} {sv : Value} {vs : List Value} {gs : List Gr} {a b : Nat} {rn : Int} {st : List Int} (h : LCr w 0 hi c (.slice (some ⟨g, 0, none⟩) n cap) sv vs gs a b rn st) (hk : ∀ q, CoS c g sv vs q → w'.heap[q]? = w.heap[q]?) (hh : hi ≤ hi') : LCr w' 0 hi' c (.slice (some ⟨g, 0, none⟩) n cap) sv vs gs a b rn st :=
  ⟨(hk c (.inl rfl)).trans h.blk, ⟨owns_of_block h.rows.row (fun q hq => hk q (.inr (.inl (by simp only [Value.ownBlock, Option.some.injEq] at hq; exact hq.symm)))), bel_mono h.rows.bl hh,
    ⟨h.rows.nest.len, fun i v l hv hl => owns_of_block (h.rows.nest.own i v l hv hl) (fun q hq => hk q (.inr (.inr (.inr ⟨v, List.mem_of_getElem? hv, hq⟩)))), fun v hv => bel_mono (h.rows.nest.bl v hv) hh, h.rows.nest.ne⟩⟩,
    owns_of_block h.starts (fun q hq => hk q (.inr (.inr (.inl hq)))), bel_mono h.sbl hh⟩
theorem LCr.cos {w : World} {hi c g cap n : Nat} {sv : Value} {vs : List Value} {gs : List Gr} {a b : Nat} {rn : Int} {st : List Int} (h : LCr w 0 hi c (.slice (some ⟨g, 0, none⟩) n cap) sv vs gs a b rn st) {q : Nat} (hq : CoS c g sv vs q) : q < w.heap.size := by
  rcases hq with rfl | rfl | hq | ⟨u, hu, hq⟩
  · exact h.lt
  · exact (h.rows.row.lt _ rfl).2
  · exact (h.starts.lt q hq).2
  · obtain ⟨i, hi⟩ := List.getElem?_of_mem hu
    have hil : i < (gs.map Gr.cells).length := by rw [← h.rows.nest.len]; exact (List.getElem?_eq_some_iff.1 hi).1
    exact ((h.rows.nest.own i u _ hi (List.getElem?_eq_getElem hil)).lt q hq).2

/-- A line core as an engine has it. -/
structure CL (w : World) (F : Nat → Prop) (c : Nat) (tx : List Int) (g cap n a b mm : Nat) (sv : Value) (vs : List Value) (ps : List Gr) : Prop where
  cr : LCr w 0 w.heap.size c (.slice (some ⟨g, 0, none⟩) n cap) sv vs ps a b tx.length ((stL ((lg ps a b).map grT)).take mm)
  len : ps.length = n
  ab : a ≤ b ∧ b ≤ n
  n : n ≤ 1048576
  ok : ∀ x ∈ lg ps a b, okG x
  te : jn ((lg ps a b).map grT) = tx
  bd : tx.length ≤ 8192
  mm : 1 ≤ mm ∧ mm ≤ (lg ps a b).length
  off : ∀ q, CoS c g sv vs q → ¬ F q
theorem CL.ll {w : World} {F : Nat → Prop} {c : Nat} {tx : List Int} {g cap n a b mm : Nat} {sv : Value} {vs : List Value} {ps : List Gr} (h : CL w F c tx g cap n a b mm sv vs ps) : (lg ps a b).length + (b - a) = n ∧ ((lg ps a b).map grT).length = (lg ps a b).length ∧ (lg ps a b).length ≤ 8193 := by
  have e := lg_len (ps := ps) h.ab.1 (by rw [h.len]; exact h.ab.2)
  have := h.len; have := h.ab
  refine ⟨by omega, by simp, ?_⟩
  have h1 := jn_len (ls := (lg ps a b).map grT) (by intro e9; have := h.mm; have e8 := congrArg List.length e9; simp at e8; simp [e8] at this; omega)
  rw [h.te] at h1
  have := h.bd
  simp at h1
  omega
theorem CL.sb {w : World} {F : Nat → Prop} {c : Nat} {tx : List Int} {g cap n a b mm : Nat} {sv : Value} {vs : List Value} {ps : List Gr} (h : CL w F c tx g cap n a b mm sv vs ps) : ∀ k, k < (lg ps a b).length → ∃ x u, ps[phi a b k]? = some x ∧ vs[phi a b k]? = some u ∧ ((lg ps a b).map grT)[k]? = some (grT x) ∧ okG x := by
  intro k hk
  have h1 := lg_get (ps := ps) k h.ab.1 (by rw [h.len]; exact h.ab.2)
  have hx : (lg ps a b)[k]? = some (lg ps a b)[k] := List.getElem?_eq_getElem hk
  have hp : ps[phi a b k]? = some (lg ps a b)[k] := by rw [← h1]; exact hx
  have hl : phi a b k < vs.length := by rw [h.cr.rows.len]; exact (List.getElem?_eq_some_iff.1 hp).1
  exact ⟨_, _, hp, List.getElem?_eq_getElem hl, by rw [List.getElem?_map, hx]; rfl, h.ok _ (List.mem_of_getElem? hx)⟩
def CrL (w : World) (Z F : Nat → Prop) (c n0 : Nat) (tx : List Int) : Prop := ∃ g cap n a b mm sv vs ps, CL w F c tx g cap n a b mm sv vs ps
theorem CrL.step {w w' : World} {Z F Z' F' : Nat → Prop} {c n : Nat} {tx : List Int} (h : CrL w Z F c n tx) (_ : Kz Z w w') (hk : ∀ q, q < w.heap.size → ¬ F q → w'.heap[q]? = w.heap[q]?) (hs : w.heap.size ≤ w'.heap.size) (_ : ∀ q, Z q → Z' q) (hF : ∀ q, F' q → F q ∨ w.heap.size ≤ q) : CrL w' Z' F' c n tx := by
  obtain ⟨g, cap, n, a, b, mm, sv, vs, ps, h⟩ := h
  refine ⟨g, cap, n, a, b, mm, sv, vs, ps, h.cr.keep (fun q hq => hk q (h.cr.cos hq) (h.off q hq)) hs, h.len, h.ab, h.n, h.ok, h.te, h.bd, h.mm, fun q hq hf => ?_⟩
  rcases hF q hf with h9 | h9
  · exact h.off q hq h9
  · have := h.cr.cos hq; omega
theorem insL : ∀ (w : World) (Z F : Nat → Prop) c n tx (off : Nat) v ts, CrL w Z F c n tx → (∀ q, F q → q < w.heap.size) → (∀ q, Z q → F q) → HT w Z v ts → 10 ∉ ts → 0 < ts.length → off ≤ tx.length → tx.length + ts.length ≤ 8192 → n + ts.length ≤ 220000 →
    Calls Tryz.prog 208 #[.pointer (some ⟨c, 0, none⟩), .int .i64 off, v] w fun e w' => e = .returned (.tuple #[]) ∧ CrL w' Z F c (n + ts.length) (putT tx off ts) ∧ ChgP w w' (fun q => ¬ F q) := by
  rintro w Z F c n0 tx off v ts ⟨g, cap, n, a, b, mm, sv, vs, ps, h⟩ hF hZ hT hno h0 hof hb _
  obtain ⟨bT, o, ct, rfl, t1, t2, t3, t4, t5⟩ := hT.parts
  obtain ⟨l1, l2, l3⟩ := h.ll
  have e1 : ((stL ((lg ps a b).map grT)).take mm).length = mm := by rw [List.length_take, stL_len, l2]; have := h.mm; omega
  refine (insF1 c g cap n (lg ps a b).length a b off sv vs ps ((lg ps a b).map grT) tx.length ((stL ((lg ps a b).map grT)).take mm) ts bT o ts.length ct w h.cr h.len h.ab h.n l1 l2 l3 h.sb (by rw [e1]; exact h.mm.1) (by rw [e1]) (by rw [e1]; exact h.mm.2) (by rw [h.te]; exact hb) (by rw [h.te]; exact hof) rfl hno t4 (fun q => h.off bT q (hZ bT t3)) t1 t2 (by have := h.bd; omega) t5).mono ?_
  rintro e w' ⟨rfl, k, x, sv', vs', hLn, hx, hL, hC, hO⟩
  have hk : k < (lg ps a b).length := by have := hLn.1; rw [l2] at this; exact this
  have hbl : b ≤ ps.length := by rw [h.len]; exact h.ab.2
  have hxl : (lg ps a b)[k]? = some x := by rw [lg_get k h.ab.1 hbl]; exact hx
  have hxt : ((lg ps a b).map grT)[k]? = some (grT x) := by rw [List.getElem?_map, hxl]; rfl
  have okx := h.ok x (List.mem_of_getElem? hxl)
  have hcol := hLn.colF (by rw [h.te]; exact hof) hxt
  have hgl : (grT x).length + ts.length ≤ 8192 := by
    have h8 := smL_get (ls := (lg ps a b).map grT) (i := k) (l := grT x) hxt
    have h9 := jn_len (ls := (lg ps a b).map grT) (by intro e; have := l2; rw [e] at this; simp at this; omega)
    rw [h.te] at h9
    omega
  obtain ⟨f1, f2⟩ := insG_facts (ts := ts) okx.1 hcol.1 hgl
  have eS : lg (ps.set (phi a b k) (insG x (off - sAt ((lg ps a b).map grT) k) ts)) a b = (lg ps a b).set k (insG x (off - sAt ((lg ps a b).map grT) k) ts) := lg_set _ h.ab.1 hbl (by have := lg_len h.ab.1 hbl; omega)
  obtain ⟨A, B, j1, j2, j3⟩ := jn_set (grT (insG x (off - sAt ((lg ps a b).map grT) k) ts)) hxt
  have eM : ((lg ps a b).set k (insG x (off - sAt ((lg ps a b).map grT) k) ts)).map grT = ((lg ps a b).map grT).set k (grT (insG x (off - sAt ((lg ps a b).map grT) k) ts)) := by rw [List.map_set]
  have eT : jn ((lg (ps.set (phi a b k) (insG x (off - sAt ((lg ps a b).map grT) k) ts)) a b).map grT) = putT tx off ts := by
    rw [eS, eM, j2, f2, putT, ← h.te, j1]
    have hA : A.length ≤ off := by rw [j3]; exact hcol.2
    rw [List.take_append, List.drop_append, List.take_of_length_le hA, List.drop_of_length_le hA, j3, List.take_append_of_le_length hcol.1, List.drop_append_of_le_length hcol.1]
    simp
  have eL : (putT tx off ts).length = tx.length + ts.length := by rw [putT]; simp; omega
  refine ⟨rfl, ⟨g, cap, n, a, b, k + 1, sv', vs', _, ⟨?_, by rw [List.length_set]; exact h.len, h.ab, h.n, ?_, eT, by omega, by rw [eS, List.length_set]; omega, ?_⟩⟩, ?_⟩
  · rw [eL, eS, eM, stL_same (L := ((lg ps a b).map grT).set k _) (M := (lg ps a b).map grT) (k := k) (List.take_set_of_le (Nat.le_refl _)) (by rw [List.length_set, l2]; exact hk) (by rw [l2]; exact hk)]
    have : ((tx.length + ts.length : Nat) : Int) = (tx.length : Int) + (ts.length : Nat) := by omega
    rw [this]
    exact hL
  · intro y hy
    rw [eS] at hy
    rcases List.mem_or_eq_of_mem_set hy with h9 | rfl
    · exact h.ok y h9
    · refine ⟨f1, ?_⟩
      rw [f2]
      intro h9
      rcases List.mem_append.1 h9 with h8 | h8
      · exact okx.2 (List.mem_of_mem_take h8)
      · rcases List.mem_append.1 h8 with h7 | h7
        · exact hno h7
        · exact okx.2 (List.mem_of_mem_drop h7)
  · intro q hq hf
    rcases hO q hq with h9 | h9
    · exact h.off q h9 hf
    · have := hF q hf; omega
  · exact hC.weak (fun q hq hf => h.off q hq hf)
theorem sliL : ∀ (w : World) (Z F : Nat → Prop) c n tx (lo hi : Nat), CrL w Z F c n tx → tx ≠ [] → lo ≤ hi → hi ≤ tx.length →
    Calls Tryz.prog 216 #[.pointer (some ⟨c, 0, none⟩), .int .i64 lo, .int .i64 hi] w fun e w' => ∃ v, e = .returned v ∧ own32 w' w.heap.size v ((tx.take hi).drop lo) ∧ Below w.heap.size w w' := by
  rintro w Z F c n0 tx lo hi ⟨g, cap, n, a, b, mm, sv, vs, ps, h⟩ _ h1 h2
  obtain ⟨l1, l2, l3⟩ := h.ll
  have := sliceF c g cap n (lg ps a b).length a b lo hi mm sv vs ps ((lg ps a b).map grT) tx.length w h.cr h.len h.ab h.n l1 l2 l3 h.sb h.mm.1 h.mm.2 (by rw [h.te]; exact h.bd) h1 (by rw [h.te]; exact h2)
  rw [h.te] at this
  exact this
set_option maxHeartbeats 1000000 in
theorem lenL : ∀ (w : World) (Z F : Nat → Prop) c n tx, CrL w Z F c n tx → Calls Tryz.prog 209 #[.pointer (some ⟨c, 0, none⟩)] w fun e w' => e = .returned (.int .i64 (tx.length : Nat)) ∧ Below w.heap.size w w' := by
  rintro w Z F c n0 tx ⟨g, cap, n, a, b, mm, sv, vs, ps, h⟩
  obtain ⟨q0, q1, q2, q3, q4⟩ := h.cr.cells
  clear h
  go_enter Tryz.func209, Tryz.ntmps209
  go_wp2
  go_ret
  exact ⟨rfl, Below.refl _ _⟩
set_option maxHeartbeats 1000000 in
theorem brkL : ∀ (w : World) (Z F : Nat → Prop) c n tx, CrL w Z F c n tx → Calls Tryz.prog 207 #[.pointer (some ⟨c, 0, none⟩)] w fun e w' => e = .returned (.int .i64 (brk tx)) ∧ Below w.heap.size w w' := by
  rintro w Z F c n0 tx ⟨g, cap, n, a, b, mm, sv, vs, ps, h⟩
  obtain ⟨l1, l2, l3⟩ := h.ll
  obtain ⟨q0, q1, q2, q3, q4⟩ := h.cr.cells
  have hab := h.ab
  have hn := h.n
  have LE := hide (lengthRN c 0 (some ⟨g, 0, none⟩) n cap a b w ⟨q0, q1, q2⟩ (by omega) (by omega) (by omega) (by omega))
  have HB := hide (show brk tx = (n : Int) - ((b : Int) - a) - 1 from by
    rw [← h.te, brk_jn (by intro e; have := h.mm; rw [e] at l2; simp at l2; omega) (fun l hl => by
      obtain ⟨x, hx, rfl⟩ := List.mem_map.1 hl
      exact (h.ok x hx).2), l2]
    omega)
  clear h
  go_enter Tryz.func207, Tryz.ntmps207
  go_wp2_with fail
  refine LE.out.mono ?_
  rintro e w1 ⟨rfl, q, rfl⟩
  go_wp2
  go_ret
  exact ⟨by rw [HB.out]; rfl, ⟨rfl, rfl, rfl, Nat.le_refl _, fun _ _ => rfl⟩⟩
theorem plG_okF {l : List Int} (h : 10 ∉ l) (hl : l.length ≤ 8192) : okG (plG l) := by
  refine ⟨⟨⟨by simp [plG]; omega, by simp [plG], by simp [plG], by simp [plG]; omega⟩, fun i h1 h2 => ?_⟩, by rw [grT_plG]; exact h⟩
  simp [plG] at h1 h2; omega
theorem loadCL : ∀ (w : World) (Z F : Nat → Prop) v ts, HT w Z v ts → (∀ q, F q → q < w.heap.size) → ts.length ≤ 8192 →
    Calls Tryz.prog 39 #[v] w fun e w' => ∃ c, e = .returned (.pointer (some ⟨c, 0, none⟩)) ∧ w.heap.size ≤ c ∧ CrL w' Z F c ts.length ts ∧ Below w.heap.size w w' := by
  rintro w Z F v ts hT hF hl
  obtain ⟨b, o, ct, rfl, t1, t2, t3, t4, t5⟩ := hT.parts
  refine (loadL ts b o ct w t5 t4 hl t1 t2).mono ?_
  rintro e w' ⟨c, g, sv, vs, rfl, hc1, hc2, hL, hb⟩
  have e0 : lg ((lns ts).map plG) (lns ts).length (lns ts).length = (lns ts).map plG := by
    unfold lg
    rw [List.take_of_length_le (by simp), List.drop_of_length_le (by simp), List.append_nil]
  have eM : ((lns ts).map plG).map grT = lns ts := map_grT _
  have ll := lns_len ts
  have e1 : (stL (lns ts)).take 1 = [0] := by
    have := stL_take_succ (ls := lns ts) (i := 0) (by omega)
    rw [this]; simp [smL]
  refine ⟨c, rfl, hc1, ⟨g, (lns ts).length, (lns ts).length, (lns ts).length, (lns ts).length, 1, sv, vs, (lns ts).map plG, ⟨?_, by simp, ⟨Nat.le_refl _, Nat.le_refl _⟩, by omega, ?_, ?_, hl, ?_, fun q hq hf => ?_⟩⟩, hb⟩
  · rw [e0, eM, e1]; exact hL.mono (Nat.zero_le _) (Nat.le_refl _)
  · rw [e0]
    intro x hx
    obtain ⟨l, hl2, rfl⟩ := List.mem_map.1 hx
    exact plG_okF (lns_no10 ts l hl2) (by have := lns_each hl2; omega)
  · rw [e0, eM, jn_lns]
  · rw [e0]; simp; omega
  · have h9 := hF q hf
    rcases hq with rfl | rfl | hq | ⟨y, hy, hq⟩
    · omega
    · have h8 : w.heap.size ≤ q := (hL.rows.row.lt _ rfl).1
      omega
    · have := (hL.starts.lt q hq).1; omega
    · obtain ⟨i, hi⟩ := List.getElem?_of_mem hy
      have hil : i < (((lns ts).map plG).map Gr.cells).length := by rw [← hL.rows.nest.len]; exact (List.getElem?_eq_some_iff.1 hi).1
      have := ((hL.rows.nest.own i y _ hi (List.getElem?_eq_getElem hil)).lt q hq).1
      omega
end Go.Proofs.YtbkcbhjejkicjaaGreatDoor


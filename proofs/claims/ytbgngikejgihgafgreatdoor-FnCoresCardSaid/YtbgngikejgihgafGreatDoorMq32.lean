import Derived.Test.YtbgngikejgihgafGreatDoorMq31
import Derived.Test.YtbgngikejgihgafGreatDoorMq24
namespace Go.Proofs.YtbgngikejgihgafGreatDoor
open Go Go.RowKit
set_option linter.unusedVariables false
set_option maxRecDepth 100000
set_option maxHeartbeats 8000000
theorem YQ (ao : Option Addr) (n cap : Nat) (w : World) :
  Calls Tryz.prog 110 #[.slice ao n cap] w fun e w' => e = .returned (.agg #[.slice ao n cap, .int .i64 n, .int .i64 n]) ∧ Below w.heap.size w w' := by
 have HB := hide ((Below.refl w.heap.size w).alloc lR (.cells #[.slice ao n cap, .int .i64 n, .int .i64 n] 136));go_enter Tryz.func110, Tryz.ntmps110;go_wp2
 refine bodyPost_ret (v := .agg #[.slice ao n cap, .int .i64 n, .int .i64 n]) (by simp [results, Tryz.results110, go_sem]) rfl ⟨rfl, HB.out⟩
def plR (L : List (List Int)) (t : List Int) : List Gr := L.dropLast.map plG ++ [plG (L.getLastD [] ++ t)]
theorem zC4 {L : List (List Int)} (h : L ≠ []) (t : List Int) : (plR L t).length = L.length := by
 have : 0 < L.length := List.length_pos_iff.2 h;simp [plR]; omega
theorem Kv {L : List (List Int)} {k : Nat} (h : L.length = k + 1) : L[k]? = some (L.getLastD []) := by
 rw [List.getLastD_eq_getLast?, List.getLast?_eq_getElem?, h]
 simp [show k < L.length by omega]
theorem Zn {L : List (List Int)} {k : Nat} (h : L.length = k + 1) : L.dropLast = L.take k := by
 rw [List.dropLast_eq_take, h]; rfl
theorem zAu (L : List (List Int)) (tl : List Int) (base gl cl : Nat) (vals : List Value) (vt : Value) (w : World) (m : Nat) (hm : L.length = m + 1) (hown : w.ownsRow base 25 1 (.slice (some ⟨gl, 0, none⟩) (m + 1) cl) (m + 1) vals) (hat : LnAt w vals L) (ht : Sl .i32 w vt tl) (hn : m + 1 <= 1048577) (hs : ∀ l ∈ L, l.length <= 1048576) (htl : tl.length <= 1048576) :
  Calls Tryz.prog 79 #[.slice (some ⟨gl, 0, none⟩) (m + 1) cl, vt] w fun e w' => ∃ vs, e = .returned (.slice (some ⟨w.heap.size, 0, none⟩) (m + 1) (m + 1)) ∧ OwG 136 w' w.heap.size w'.heap.size (.slice (some ⟨w.heap.size, 0, none⟩) (m + 1) (m + 1)) vs (plR L tl) ∧ Below w.heap.size w w' := by
 obtain ⟨i0, hi, hz0, hz1, hz2⟩ := info_parts Tryz.infoGB;have hgl : gl < w.heap.size := (hown.lt gl rfl).2
 have hcl : m + 1 <= cl ∧ cl <= maxLen := by
  rcases hown.2 with ⟨q, _⟩ | ⟨g', cap', cur, q, _, _, c1, c2, _⟩
  ·cases q
  ·simp only [Value.slice.injEq, Option.some.injEq, Addr.mk.injEq, and_true, true_and] at q
   obtain ⟨_, rfl⟩ := q;exact ⟨c1, c2⟩
 have VC := hide (fun (k : Nat) (hk : k < m + 1) => (show ∃ v l, L[k]? = some l ∧ Sl .i32 w v l ∧ w.cell? ⟨gl, k, none⟩ = some v from by
  have hv : k < vals.length := by rw [hat.len, hm]; exact hk
  have hl : k < L.length := by rw [hm]; exact hk
  exact ⟨vals[k], L[k], by simp [hl], hat.at_ k _ _ (by simp [hv]) (by simp [hl]), by rw [hown.cellAt k (by omega)]; simp [hv]⟩))
 have HT := hide ht
 have HS := hide (fun (k : Nat) (l : List Int) (h : L[k]? = some l) => hs l (List.mem_of_getElem? h))
 have tv : ∃ at_ nt ct, vt = .slice at_ nt ct := by
  rcases ht with ⟨q, _⟩ | ⟨_, _, _, q, _⟩ <;> exact ⟨_, _, _, q⟩
 obtain ⟨at_, nt, ct, rfl⟩ := tv;have HM := hide hm;obtain ⟨c1, c2⟩ := hcl;unfold maxLen at c2;have DL := hide (Zn hm);have LG := hide (Kv hm);clear hown hat ht hs hm;go_enter Tryz.func79, Tryz.ntmps79
 go_wp2_with (at_make; refine wpList_make_full _ rfl _ _ 131 rfl w.heap.size 136 i0 (.agg #[.slice none 0 0, .int .i64 0, .int .i64 0]) 3 Tryz.underlying131 hi hz0 hz1 .i64 .i64 _ _ (m + 1) rfl rfl (by omega) (by omega) (by rw [hz2]; omega) (by unfold maxLen; omega) lR ?_; intro w1 hown hgrow)
 rw [YP] at hown
 have B1 := hide ((Below.refl w.heap.size w).grown hgrow lR (fun k hk => by cases hk))
 have G1 := hide (show OwG 136 w1 w.heap.size w1.heap.size (.slice (some ⟨w.heap.size, 0, none⟩) (m + 1) (m + 1)) (List.replicate (m + 1) (.slice none 0 0)) (List.replicate (m + 1) nilG) from ⟨by rw [List.length_replicate]; exact hown, fun q hq => (hown.lt q hq).2, Nest.nils _ _ _ _⟩)
 clear hown hgrow
 go_loopw [19] (fun i wr => ∃ k : Nat, k <= m ∧ i = .int .i64 k ∧ Below w.heap.size w wr ∧ ∃ us : List Value, us.length = k ∧ OwG 136 wr w.heap.size wr.heap.size (.slice (some ⟨w.heap.size, 0, none⟩) (m + 1) (m + 1)) (us ++ List.replicate (m + 1 - k) (.slice none 0 0)) ((L.take k).map plG ++ List.replicate (m + 1 - k) nilG))
  (fun i _ => m - (intOf i).toNat)
 case atStart => exact ⟨0, Nat.zero_le _, rfl, B1.out, [], rfl, by simpa using G1.out⟩
 case round =>
  obtain ⟨k, hk, rfl, hb, us, hus, hG⟩ := hrel;have HB := hide hb;have hsz := hb.size
  obtain ⟨v, l, hl, hsl, hc0⟩ := VC.out k (by omega)
  have hc := (hb.cell (p := ⟨gl, k, none⟩) hgl).trans hc0;have hlen := HS.out k l hl
  have hLk : (L.take k).length = k := by rw [List.length_take, HM.out]; omega
  have hrep : ∀ (β : Type) (x : β), List.replicate (m + 1 - k) x = x :: List.replicate (m + 1 - (k + 1)) x := fun β x => by rw [show m + 1 - k = (m + 1 - (k + 1)) + 1 by omega, List.replicate_succ]
  rw [hrep, hrep] at hG
  have hn3 : ((L.take k).map plG ++ nilG :: List.replicate (m + 1 - (k + 1)) nilG).length = m + 1 := by simp only [List.length_append, List.length_map, hLk, List.length_cons, List.length_replicate]; omega
  have SS := hide (hsl.below hb);have GG := hide hG;have N3 := hide hn3;have LK := hide hLk;have US := hide hus;have HL := hide hl
  have sv : ∃ a n' c, v = .slice a n' c := by
   rcases hsl with ⟨q, _⟩ | ⟨_, _, _, q, _⟩ <;> exact ⟨_, _, _, q⟩
  obtain ⟨a, n', c, rfl⟩ := sv;have AA := hide ((Below.refl wr.heap.size wr).alloc lR (.cells #[.slice a n' c] 25))
  have k0 : (wr.alloc (.cells #[.slice a n' c] 25)).cell? ⟨wr.heap.size, 0, none⟩ = some (.slice a n' c) := by simp
  have hsa : (wr.alloc (.cells #[.slice a n' c] 25)).heap.size = wr.heap.size + 1 := by simp
  by_cases hlt : k < m
  ·have CC := hide (zC3 l _ _ _ (SS.out.below AA.out) (by rw [hsa]; omega) k0 hlen)
   have hlt' : (k : Int) < m := by omega
   clear hG hb hc0 hsl hl hus hLk hn3 hrep;go_wp2_with fail;generalize wr.alloc (.cells #[.slice a n' c] 25) = wa at *;refine CC.out.mono ?_;rintro e w2 ⟨u, rfl, ho2, hb2⟩;obtain ⟨au, cu, rfl⟩ := zn ho2;have O2 := hide ho2
   have BB2 := hide (AA.out.trans (hb2.mono (by omega)))
   have U2 := hide (fun q (hq : (Value.slice au l.length cu).ownBlock = some q) => (ho2.lt q hq))
   clear ho2 hb2 CC;go_wp2_with fail;refine (YQ au l.length cu w2).mono ?_;rintro e w3 ⟨rfl, hb3⟩;have s23 := hb3.size;have s2 := BB2.out.size
   have BB3 := hide (BB2.out.trans (hb3.mono (by omega)))
   have O3 := zD O2.out hb3 lR
   have G3 := GG.out.frame (w' := w3) (fun q _ hq => BB3.out.block q hq)
   have ST := G3.store (hi' := w3.heap.size) l.length l.length N3.out (by rw [US.out, List.length_map, LK.out]) (zE O3 (by omega)) (fun q hq => by have := U2.out q hq; omega) (fun q hq => by have := U2.out q hq; omega) (by omega) (by decide)
   have kx := G3.cells N3.out (i := k) (zk (by rw [List.length_map, LK.out])) (zk US.out)
   have hr := G3.row;rw [N3.out] at hr;have f0 : w3.frozen? ⟨w.heap.size, k * 3, none⟩ = false := hr.frozenAt _;have f1 : w3.frozen? ⟨w.heap.size, k * 3 + 1, none⟩ = false := hr.frozenAt _;have f2 : w3.frozen? ⟨w.heap.size, k * 3 + 2, none⟩ = false := hr.frozenAt _;obtain ⟨p0, p1, p2⟩ := kx;rw [List.length_map, LK.out] at ST;have S4 := hide ST.1
   have B4 := hide ((HB.out.trans (BB3.out.mono hsz)).grown ST.2 (by omega) (fun q hq => by cases hq; exact lR))
   clear hb3 O3 G3 ST hr GG;go_wp2;go_roundw
   case rel =>
    refine ⟨k + 1, by omega, by go_num, B4.out, us ++ [.slice au l.length cu], by simp [US.out], ?_⟩
    rw [List.take_add_one, HL.out];have := S4.out;simp only [Option.toList_some, List.map_append, List.map_cons, List.map_nil, List.append_assoc, List.cons_append, List.nil_append]
    exact this.mono lR (by simp)
   case measure => simp [intOf]; omega
  ·obtain rfl : k = m := by omega
   have hlt' : ¬ (k : Int) < k := by omega
   have AA2 := hide ((Below.refl wr.heap.size wr).alloc lR (.cells #[.slice a n' c, .slice at_ nt ct] 25))
   have k0' : (wr.alloc (.cells #[.slice a n' c, .slice at_ nt ct] 25)).cell? ⟨wr.heap.size, 0, none⟩ = some (.slice a n' c) := by simp
   have k1' : (wr.alloc (.cells #[.slice a n' c, .slice at_ nt ct] 25)).cell? ⟨wr.heap.size, 1, none⟩ = some (.slice at_ nt ct) := by simp
   have hsa2 : (wr.alloc (.cells #[.slice a n' c, .slice at_ nt ct] 25)).heap.size = wr.heap.size + 1 := by simp
   have cc := Yh l tl _ _ _ _ (SS.out.below AA2.out) ((HT.out.below HB.out).below AA2.out) (by rw [hsa2]; omega) k0' k1' hlen htl
   generalize hX : l ++ tl = X at cc;have HX := hide hX;have CC := hide cc;clear cc hX;clear hG hb hc0 hsl hl hus hLk hn3 hrep k0 hsa AA;go_wp2_with fail;generalize wr.alloc (.cells #[.slice a n' c, .slice at_ nt ct] 25) = wa at *;refine CC.out.mono ?_;rintro e w2 ⟨u, rfl, ho2, hb2⟩
   obtain ⟨au, cu, rfl⟩ := zn (show o32 w2 _ u X from ho2)
   have O2 := hide (show o32 w2 _ _ X from ho2)
   have BB2 := hide (AA2.out.trans (hb2.mono (by omega)))
   have U2 := hide (fun q (hq : (Value.slice au X.length cu).ownBlock = some q) => (ho2.lt q hq))
   clear ho2 hb2 CC;go_wp2_with fail;refine (YQ au X.length cu w2).mono ?_;rintro e w3 ⟨rfl, hb3⟩;have s23 := hb3.size;have s2 := BB2.out.size
   have BB3 := hide (BB2.out.trans (hb3.mono (by omega)))
   have O3 := zD O2.out hb3 lR
   have G3 := GG.out.frame (w' := w3) (fun q _ hq => BB3.out.block q hq)
   have ST := G3.store (hi' := w3.heap.size) X.length X.length N3.out (by rw [US.out, List.length_map, LK.out]) (zE O3 (by omega)) (fun q hq => by have := U2.out q hq; omega) (fun q hq => by have := U2.out q hq; omega) (by omega) (by decide)
   have kx := G3.cells N3.out (i := k) (zk (by rw [List.length_map, LK.out])) (zk US.out)
   have hr := G3.row;rw [N3.out] at hr;have f0 : w3.frozen? ⟨w.heap.size, k * 3, none⟩ = false := hr.frozenAt _;have f1 : w3.frozen? ⟨w.heap.size, k * 3 + 1, none⟩ = false := hr.frozenAt _;have f2 : w3.frozen? ⟨w.heap.size, k * 3 + 2, none⟩ = false := hr.frozenAt _;obtain ⟨p0, p1, p2⟩ := kx;rw [List.length_map, LK.out] at ST;have S4 := hide ST.1
   have B4 := hide ((HB.out.trans (BB3.out.mono hsz)).grown ST.2 (by omega) (fun q hq => by cases hq; exact lR))
   generalize hLT : X.length = lt at *;have HLT := hide hLT;clear hb3 O3 G3 ST hr GG hLT;go_wp2;go_ret;refine ⟨us ++ [.slice au lt cu], rfl, ?_, B4.out⟩;have h9 := S4.out
   rw [show k + 1 - (k + 1) = 0 by omega] at h9
   have e1 : L.getLastD [] = l := by have := LG.out; rw [HL.out] at this; exact (Option.some.inj this).symm
   have e2 : plR L tl = (L.take k).map plG ++ [⟨X, lt, lt⟩] := by rw [plR, DL.out, e1, HX.out]; simp only [plG, HLT.out]
   rw [e2]
   exact h9.mono lR (by simp)
theorem plR_nil {L : List (List Int)} (h : L ≠ []) : plR L [] = L.map plG := by
 have e := List.dropLast_concat_getLast h
 have e2 : L.getLastD [] = L.getLast h := by rw [List.getLastD_eq_getLast?, List.getLast?_eq_some_getLast h]; rfl
 rw [plR, List.append_nil, e2]
 conv => rhs; rw [<- e]
 simp
theorem loadL (zs : List Int) (b o cap : Nat) (w : World) (hc : ∀ i, i < zs.length -> w.cell? ⟨b, o + i, none⟩ = some (.int .i32 (zs.getD i 0))) (hb : b < w.heap.size) (hn : zs.length <= 8192) (hcap : zs.length <= cap) (hm : cap <= maxLen) :
  Calls Tryz.prog 38 #[.slice (some ⟨b, o, none⟩) zs.length cap] w fun e w' => ∃ c g sv vs, e = .returned (.pointer (some ⟨c, 0, none⟩)) ∧ w.heap.size <= c ∧ c < w'.heap.size ∧ LCr w' w.heap.size w'.heap.size c (.slice (some ⟨g, 0, none⟩) (lns zs).length (lns zs).length) sv vs ((lns zs).map plG) (lns zs).length (lns zs).length zs.length [0] ∧ Below w.heap.size w w' := by
 have CU := hide (cutL zs b o cap w hc hb (by omega) hcap hm)
 have LL := yg zs
 have LE := hide (fun l (h : l ∈ lns zs) => j7 h)
 have NE := hide (ZR zs);generalize hL : lns zs = L at *
 obtain ⟨m, hmL⟩ : ∃ m, L.length = m + 1 := ⟨L.length - 1, by omega⟩
 generalize hN : zs.length = n at *;have HM := hide hmL;rw [hmL] at LL CU |-;clear hL hN hmL hc;go_enter Tryz.func38, Tryz.ntmps38;go_wp2_with fail;refine CU.out.mono ?_;rintro e w1 ⟨v1, vals, rfl, ho1, hat1, hb1⟩
 rcases ho1.2 with ⟨_, q⟩ | ⟨gl, cl, cur, rfl, _⟩
 ·omega
 have PR := hide (zAu L [] w.heap.size gl cl vals (.slice none 0 0) w1 m HM.out ho1 (hat1.below hb1) (.inl ⟨rfl, rfl⟩) (by omega) (fun l hl => by have := LE.out l hl; omega) (by simp))
 have B1 := hide hb1;have s1 := hb1.size;clear ho1 hat1 hb1 CU;go_wp2_with fail;refine PR.out.mono ?_;rintro e w2 ⟨vs, rfl, hG2, hb2⟩;have G2 := hide hG2;have B2 := hide (B1.out.trans (hb2.mono s1));have s2 := hb2.size;clear hG2 hb2 PR;go_wp2_with fail;refine (zBv _ _ _ w2).mono ?_;rintro e w3 ⟨rfl, hb3⟩
 have G3 := hide (G2.out.frame (w' := w3) (fun q _ hq => hb3.block q hq))
 have B3 := hide (B2.out.trans (hb3.mono (by omega)))
 have s3 := hb3.size;clear hb3 G2;have W4 := hide ((Below.refl w3.heap.size w3).alloc lR (.cells #[.int .i64 0] 3))
 have W5 := hide (W4.out.alloc (by simp) (.cells #[.slice (some ⟨w1.heap.size, 0, none⟩) (m + 1) (m + 1), .int .i64 ((m + 1 : Nat) : Int), .int .i64 ((m + 1 : Nat) : Int), .int .i64 (n : Int), .slice (some ⟨w3.heap.size, 0, none⟩) 1 1] 141))
 go_wp2;go_ret;refine ⟨_, w1.heap.size, .slice (some ⟨w3.heap.size, 0, none⟩) 1 1, vs, rfl, ?_, ?_, ⟨?_, ?_, ?_, ?_⟩, ?_⟩
 ·first | omega | (simp; omega)
 ·first | omega | simp
 ·have h9 := heap_alloc_new (w3.alloc (.cells #[.int .i64 0] 3)) (.cells #[.slice (some ⟨w1.heap.size, 0, none⟩) (m + 1) (m + 1), .int .i64 ((m + 1 : Nat) : Int), .int .i64 ((m + 1 : Nat) : Int), .int .i64 (n : Int), .slice (some ⟨w3.heap.size, 0, none⟩) 1 1] 141)
  first | exact h9 | simpa using h9
 ·rw [<- plR_nil NE.out]
  exact (G3.out.frame (fun q _ hq => W5.out.block q (by omega))).mono (by omega) (by simp; omega)
 ·exact (World.ownsRow_lit w3 #[.int .i64 0] 1 (by omega) (by unfold maxLen; omega) rfl).alloc _
 ·intro q hq
  simp only [Value.ownBlock, Option.some.injEq] at hq;simp; omega
 ·exact B3.out.trans (W5.out.mono (by omega))
def llG (zs : List Int) : List Gr := if zs.length <= 8192 then (lns zs).map plG else []
def llS (zs : List Int) : List Int := if zs.length <= 8192 then [0] else []
def llC (zs : List Int) : Int := if zs.length <= 8192 then 0 else 10
def LlPost (w : World) (zs : List Int) (e : Ending) (w' : World) : Prop := ∃ vr vt, e = .returned (.tuple #[.agg #[vr, vt], .int .i64 (llC zs)]) ∧ OwL w' w.heap.size w'.heap.size vr vt (llG zs) (llS zs) ∧ Below w.heap.size w w'
theorem implLl (base : Nat) (zs : List Int) (b cap : Nat) (w : World) (h : o32 w base (.slice (some ⟨b, 0, none⟩) zs.length cap) zs) (hn : zs.length <= 1048576) (hcap : zs.length <= cap ∧ cap <= maxLen) (hg : w.cell? ⟨0, 0, none⟩ = some (.iface 207 (.agg #[.pointer (some ⟨1, 68, none⟩)]))) (hOK : zs.length <= 8192) :
  Calls Tryz.prog 11 #[.slice (some ⟨b, 0, none⟩) zs.length cap] w (LlPost w zs) := by
 have hlt0 : 0 < w.heap.size := World.block_lt_of_cell? w _ hg;have hbl := (h.lt b rfl).2;have A0 := hide ((Below.refl w.heap.size w).alloc lR (.cells #[.slice none 0 0, .slice none 0 0] 40));have K0 := hide (D2.new w (.slice none 0 0) (.slice none 0 0) 40)
 have hs0 : (w.alloc (.cells #[.slice none 0 0, .slice none 0 0] 40)).heap.size = w.heap.size + 1 := by simp
 have O0 := hide (show o32 _ base _ zs from zD h A0.out lR)
 have G0 := hide ((A0.out.cell (p := ⟨0, 0, none⟩) hlt0).trans hg)
 have CT := hide (fun w => JW (some ⟨b, 0, none⟩) zs.length cap w)
 by_cases h8 : zs.length <= 8192
 ·rw [if_pos h8] at CT
  have LD := hide (loadL zs b 0 cap _ (fun i hi => by rw [Nat.zero_add]; exact yJ O0.out i hi) (by rw [hs0]; omega) h8 hcap.1 hcap.2)
  have LL := yg zs
  have HE := hide (show (llC zs = 0 ∧ llG zs = (lns zs).map plG ∧ llS zs = [0]) from ⟨by rw [llC, if_pos h8], by rw [llG, if_pos h8], by rw [llS, if_pos h8]⟩)
  generalize hL : lns zs = L at *;generalize hN : zs.length = n at *;generalize hm : L.length = m at *
  have HM := hide (show (L.map plG).length = m by rw [List.length_map, hm])
  clear h hg hN hL hm;go_enter Tryz.func11, Tryz.ntmps11;go_wp2_with fail;generalize w.alloc (.cells #[.slice none 0 0, .slice none 0 0] 40) = w0 at *;refine (CT.out _).mono ?_;rintro e w1 ⟨rfl, hw1⟩;have hw2 := hw1.symm;subst hw2;go_wp2_with fail;refine LD.out.mono ?_;rintro e w2 ⟨c, g, sv, vs, rfl, hc1, hc2, hlc, hb2⟩;have s2 := hb2.size
  have TL := hide (tellL w0.heap.size w2.heap.size c g m m m m sv vs (L.map plG) n [0] w2 hlc HM.out (by omega) (by omega) lR lR lR s2 (by omega))
  rw [Z5] at TL
  have K2 := hide (K0.out.below hb2 (by omega))
  have B2 := hide (A0.out.trans (hb2.mono (by omega)))
  clear hlc hb2 CT LD K0 O0;go_wp2_with fail;refine TL.out.mono ?_;rintro e w3 ⟨vr, rfl, ho3, hb3⟩;obtain ⟨a1, c1', a2, c2', rfl, hvt⟩ := ho3.val;subst hvt;have s3 := hb3.size
  have K3 := hide (K2.out.below hb3 (by omega))
  have B3 := hide (B2.out.trans (hb3.mono (by omega)))
  have O3 := hide ho3;have e0 := K3.out.c.1;have e1 := K3.out.c.2;have f0 := K3.out.fz 0;have f1 := K3.out.fz 1;clear ho3 hb3 K2 TL;go_wp2
  refine bodyPost_ret (v := .tuple #[.agg #[.slice a1 (L.map plG).length c1', .slice a2 [(0 : Int)].length c2'], .int .i64 0]) (by simp [results, Tryz.results11, go_sem, e0, e1]) rfl ⟨_, _, by rw [HE.out.1], ?_, ?_⟩
  ·rw [HE.out.2.1, HE.out.2.2]
   exact (O3.out.frame (fun q h1 h2 => by rw [heap_setCell_other _ _ _ _ (by show q ≠ w.heap.size; omega), heap_setCell_other _ _ _ _ (by show q ≠ w.heap.size; omega)])).mono (by omega) (by simp)
  ·exact (B3.out.setCell lR _).setCell lR _
 ·exact absurd hOK h8
theorem Tryz.info64 : (Tryz.prog.info? 3).map (fun i => (i.zero, i.size, i.bytes)) = some (some (.int .i64 0), 1, 8) := by kernel_rfl
theorem atN (B g cap n k a b : Nat) (w : World) (h : RC w B 0 (.slice (some ⟨g, 0, none⟩) n cap) a b) (hk : k < a) (ha : a <= n) (hc : n <= cap) (hm : n <= 1048576) :
  Calls Tryz.prog 120 #[.pointer (some ⟨B, 0, none⟩), .int .i64 k] w fun e w' => e = .returned (.pointer (some ⟨g, k * 3, none⟩)) ∧ w' = w := by
 obtain ⟨c0, c1, c2⟩ := h
 have hk' : (k : Int) < a := by omega
 have hkn : (k : Int) < n := by omega
 have hkn' : k < n := by omega
 go_enter Tryz.func120, Tryz.ntmps120;go_wp2;go_ret;exact ⟨rfl, rfl⟩
theorem learnN (lo hi c g cap n m : Nat) (sv : Value) (vs : List Value) (gs : List Gr) (rn : Int) (st : List Int) (w : World) (h : LCr w lo hi c (.slice (some ⟨g, 0, none⟩) n cap) sv vs gs n n rn st) (hN : gs.length = n) (h2 : n <= 8193) (hh : hi <= w.heap.size) (hlc : lo <= c) (hch : c < hi) (hs1 : 1 <= st.length) (hst : st = (stL (gs.map grT)).take st.length) (hsn : st.length <= n) (hm : m <= n) (hok : ∀ x ∈ gs, okG x) (hj : (jn (gs.map grT)).length <= 8192) :
  Calls Tryz.prog 88 #[.pointer (some ⟨c, 0, none⟩), .int .i64 m] w fun e w' => ∃ sv', e = .returned (.tuple #[]) ∧ LCr w' lo w'.heap.size c (.slice (some ⟨g, 0, none⟩) n cap) sv' vs gs n n rn ((stL (gs.map grT)).take (max st.length m)) ∧ Below lo w w' := by
 obtain ⟨i0, hi0, hz0, hz1, hz2⟩ := info_parts Tryz.info64;obtain ⟨LS, hLS⟩ : ∃ LS, LS = gs.map grT := ⟨_, rfl⟩;rw [<- hLS] at hst hj |-
 have hLn : LS.length = n := by rw [hLS, List.length_map, hN]
 have SB := hide (fun (k : Nat) (hk : k < n) => (show ∃ x u, gs[k]? = some x ∧ vs[k]? = some u ∧ LS[k]? = some (grT x) ∧ okG x from by
  obtain ⟨x, u, hx, hu⟩ := h.rows.get (i := k) (by rw [hN]; exact hk)
  exact ⟨x, u, hx, hu, by rw [hLS]; simp [hx], hok x (List.mem_of_getElem? hx)⟩))
 have JB := hide (show smL LS + n <= 8193 from by
  have := yH (ls := LS) (by intro e; rw [e] at hLn; simp at hLn; omega)
  rw [hLn] at this; omega)
 have ST := hide (fun (j : Nat) (l : List Int) (hl : LS[j]? = some l) => stL_step hl)
 have SG := hide (fun (j : Nat) (hj : j < n) => YM (ls := LS) (i := j) (by rw [hLn]; exact hj))
 have STS := hide (fun (j : Nat) (hj : j < n) => yw (ls := LS) (i := j) (by rw [hLn]; exact hj))
 have STL := hide (show (stL LS).length = n by rw [zr, hLn])
 have SML := hide (fun j => zm LS j)
 have hcap : n <= cap ∧ cap <= maxLen := by
  have hr := h.rows.row;rw [hN] at hr
  rcases hr.2 with ⟨q, _⟩ | ⟨g', cap', cur, q, _, _, c1, c2, _⟩
  ·cases q
  ·simp only [Value.slice.injEq, Option.some.injEq, Addr.mk.injEq, and_true, true_and] at q
   obtain ⟨_, rfl⟩ := q;exact ⟨c1, c2⟩
 have HN := hide hN;obtain ⟨s0, hs0⟩ : ∃ s0, s0 = st.length := ⟨_, rfl⟩;rw [<- hs0] at hst hs1 hsn |-;rw [hst] at h;have H := hide h;obtain ⟨as_, cs_, hsv⟩ := yS h.starts;rw [List.length_take, STL.out, Nat.min_eq_left hsn] at hsv;subst hsv;have c4 := h.cells.2.2.2.2;obtain ⟨k1, k2⟩ := hcap;unfold maxLen at k2;clear h hN hLS hok hj hst hs0;go_enter Tryz.func88, Tryz.ntmps88;go_wp2_with fail
 go_loopw [4] (fun kk wr => ∃ j : Nat, s0 <= j ∧ j <= max s0 m ∧ kk = .int .i64 j ∧ Below lo w wr ∧ ∃ aj cj, LCr wr lo wr.heap.size c (.slice (some ⟨g, 0, none⟩) n cap) (.slice aj j cj) vs gs n n rn ((stL LS).take j))
  (fun kk _ => max s0 m - (intOf kk).toNat)
 case atStart => exact ⟨s0, lR, by omega, rfl, Below.refl _ _, _, _, H.out.mono lR hh⟩
 case round =>
  obtain ⟨j, hj1, hj2, rfl, hb, aj, cj, hL⟩ := hrel;have HB := hide hb;have HL := hide hL;have hsz := hb.size
  by_cases hlt : j < m
  ·have hjn : j < n := by omega
   obtain ⟨i, rfl⟩ : ∃ i, j = i + 1 := ⟨j - 1, by omega⟩
   obtain ⟨x, u, hx, hu, hl, hokx⟩ := SB.out i (by omega)
   have e0 := ST.out i _ hl
   have hgl := SG.out i (by omega)
   have hc := hL.rows.cells HN.out hx hu;have hgt := jG hokx.1;obtain ⟨q0, q1, q2, q3, q4⟩ := hL.cells;have f4 := hL.fz 4;have hcl := hL.lt;obtain ⟨ai, ci, hu'⟩ := zn (hL.rows.inner hx hu)
   have AT := hide (fun (W : World) (hW : W.heap = wr.heap) => atN c g cap n i n n W (RC.same (w := wr) ⟨q0, q1, q2⟩ hW) (by omega) lR k1 (by omega))
   have GCx := hide (show GC wr g (i * 3) u x.lo x.hi from ⟨hc.1, hc.2.1, hc.2.2⟩)
   have hbd : 0 <= x.lo ∧ x.lo <= x.hi ∧ x.hi <= x.cells.length := by
    obtain ⟨⟨_, ⟨_, q3⟩, ⟨q4, q5⟩, _⟩, _⟩ := hokx.1;exact ⟨q4, q5, q3⟩
   have LE := hide (fun (W : World) (hW : W.heap = wr.heap) => jw g (i * 3) ai x.cells.length ci x.lo x.hi W (by have := GCx.out.same hW; rw [hu'] at this; exact this) hbd.1 hbd.2.1 hbd.2.2 (by omega))
   have hr := hL.starts;unfold o64 at hr
   rw [List.length_take, STL.out, Nat.min_eq_left (by omega)] at hr
   have hsm1 := SML.out i;have hjb := JB.out;have OW := hide hr
   rcases hr.2 with ⟨_, q⟩ | ⟨gj, cj', cur, q, _, _, d1, d2, _⟩
   ·omega
   simp only [Value.slice.injEq, true_and] at q;obtain ⟨rfl, rfl⟩ := q
   have cs : wr.cell? ⟨gj, i, none⟩ = some (.int .i64 ((smL (LS.take i) + i : Nat) : Int)) := by
    have := yJ hr i (by omega)
    rw [this];simp only [List.getD_eq_getElem?_getD] at hgl |-
    rw [List.getElem?_take, if_pos (by omega), hgl]
   unfold maxLen at d2;have TK := hide (STS.out (i + 1) hjn);have EV := hide e0;have HGT := hide hgt.1;generalize hsA : ((smL (LS.take i) + i : Nat) : Int) = sA at *
   have hsA0 : 0 <= sA ∧ sA <= 20000 := by omega
   generalize hxc : x.cells.length = xc at *;generalize hxl : x.lo = xl at *;generalize hxh : x.hi = xh at *;have hxc2 : xc <= 65536 := hgt.2.2;have X0 := hide hL;have hclw : c < wr.heap.size := hL.lt
   have hlt' : ((i + 1 : Nat) : Int) < m := by omega
   have hnc : some gj ≠ some c := by
    intro e;cases e
    exact zO (yT hL.blk) hr (by decide) rfl rfl
   have VV : sA + ((xc : Int) - (xh - xl)) + 1 = ((smL (LS.take (i + 1)) + (i + 1) : Nat) : Int) := by rw [<- hgt.1]; exact e0
   have LAP := hide (fun (x7 : World) (X7 : x7.heap = wr.heap) (B7 : Below lo w x7) (x8 : World) (g5 cap5 : Nat) (hg5 : (x7.alloc (.cells #[.int .i64 (sA + ((xc : Int) - (xh - xl)) + 1)] 3)).grownBy x8 (Value.slice (some ⟨gj, 0, none⟩) (i + 1) cj).ownBlock) (ho5 : x8.ownsRow lo 3 1 (.slice (some ⟨g5, 0, none⟩) (i + 1 + 1) cap5) (i + 1 + 1) (ints .i64 ((stL LS).take (i + 1)) ++ [.int .i64 (sA + ((xc : Int) - (xh - xl)) + 1)])) (_ : (Value.slice (some ⟨gj, 0, none⟩) (i + 1) cj).ownBlock = some g5 ∨ g5 = x7.heap.size + 1) (hgl5 : g5 < x8.heap.size) => (show LCr (x8.setCell ⟨c, 4, none⟩ (.slice (some ⟨g5, 0, none⟩) (i + 1 + 1) cap5)) lo x8.heap.size c (.slice (some ⟨g, 0, none⟩) n cap) (.slice (some ⟨g5, 0, none⟩) (i + 1 + 1) cap5) vs gs n n rn ((stL LS).take (i + 1 + 1)) ∧ x8.heap[c]? = some (.cells #[.slice (some ⟨g, 0, none⟩) n cap, .int .i64 n, .int .i64 n, .int .i64 rn, .slice (some ⟨gj, 0, none⟩) (i + 1) cj] 141 (0, 0)) ∧ Below lo w x8 from by
    have hs7 : x7.heap.size = wr.heap.size := by rw [X7]
    have AL := (Below.refl x7.heap.size x7).alloc lR (.cells #[.int .i64 (sA + ((xc : Int) - (xh - xl)) + 1)] 3)
    have L7 := (hL.same X7).below AL (by omega) (by have := hL.lt; omega)
    have hsz8 := hg5.size;simp at hsz8
    have AP := L7.app (hi' := x8.heap.size) hg5 (sv' := .slice (some ⟨g5, 0, none⟩) (i + 1 + 1) cap5) (st' := (stL LS).take (i + 1 + 1)) (by
     unfold o64
     rw [List.length_take, STL.out, Nat.min_eq_left (by omega), TK.out, zV, <- VV]
     exact ho5) (fun q hq => by simp only [Value.ownBlock, Option.some.injEq] at hq; omega) (by omega)
    exact ⟨AP.1, AP.2, ((B7.trans (AL.mono (by have := B7.size; omega))).grown hg5 (by simp; omega) (fun q hq => (OW.out.lt q hq).1))⟩))
   clear hL hr hb e0 hgl hc hgt VV hokx hl hx hu hu' hsA hxc hxl hxh GCx q3
   have hw1 : IntKind.i64.wrap (i : Int) = i := IntWalk.i64_in _ (by omega)
   have hw2 : IntKind.i64.wrap (sA + ((xc : Int) - (xh - xl))) = sA + ((xc : Int) - (xh - xl)) := IntWalk.i64_in _ (by omega)
   have hw3 : IntKind.i64.wrap (sA + ((xc : Int) - (xh - xl)) + 1) = sA + ((xc : Int) - (xh - xl)) + 1 := IntWalk.i64_in _ (by omega)
   have hib : (0 : Int) <= (i : Int) ∧ (i : Int) < (i : Int) + 1 := by omega
   have hib1 : (i : Int) < (i : Int) + 1 := by omega
   clear H SB JB ST SG STS SML STL HN HL TK EV HGT X0 hs1 hsm1 hjb hh
   go_upto_region 3 with fail
   go_region_law (first
    | (refine step_append_lies _ rfl _ _ 38 rfl lo 3 i0 (.int .i64 0) 1 8 Tryz.underlying38 hi0 hz0 hz1 hz2 rfl (by decide) _ _ _ rfl (by exact (O7.out.alloc _)) ⟨x7.heap.size, 0, none⟩ 1 1 [.int .i64 (sA + ((xc : Int) - (xh - xl)) + 1)] rfl rfl (by exact zo x7 _ _) (by simp [Value.oneCell']) (by omega) (by unfold maxLen; omega) (by omega) (by simp; omega) (x7.heap.size + 1) (by simp) ?_; intro g5 cap5 x8 ho5 hg5 hgg hgl5; have APP := LA7.out x8 g5 cap5 hg5 ho5 hgg hgl5; have T8 := hide APP.2.1; have t8 : x8.cell? ⟨c, 4, none⟩ = some (.slice (some ⟨gj, 0, none⟩) (i + 1) cj) := (by rw [cell_of_row x8 _ 4 _ _ _ T8.out]; rfl); have ft8 := frozen_of_row x8 c 4 _ _ T8.out; have F8 := hide APP.1; have B8 := hide APP.2.2; clear ho5 hg5 APP)
    | (go_simp; go_wp2_with (first | (go_at_call 120; refine (AT.out _ (by exact rfl)).mono ?_; rintro e w2 ⟨rfl, rfl⟩) | (go_at_call 119; refine (LE.out _ (by exact rfl)).mono ?_; rintro e x7 ⟨rfl, nq, hw⟩; have X7 : x7.heap = wr.heap := (by rw [hw]; rfl); have S7 : x7.heap.size = wr.heap.size := (by rw [X7]); have t47 : x7.cell? ⟨c, 4, none⟩ = some (.slice (some ⟨gj, 0, none⟩) (i + 1) cj) := (World.cell?_of_block (by rw [X7])).trans q4; have cs7 : x7.cell? ⟨gj, i, none⟩ = some (.int .i64 sA) := (World.cell?_of_block (by rw [X7])).trans cs; have l7 : c < x7.heap.size := (by omega); have n7 : c ≠ x7.heap.size := (by omega); have O7 := hide (show x7.ownsRow lo 3 1 (.slice (some ⟨gj, 0, none⟩) (i + 1) cj) (i + 1) (ints .i64 ((stL LS).take (i + 1))) from zC OW.out (fun q _ => by rw [X7])); have B7 := hide (show Below lo w x7 from (by rw [hw]; exact ⟨HB.out.os, HB.out.tape, HB.out.output, HB.out.size, HB.out.block⟩)); have LA7 := hide (LAP.out x7 X7 B7.out); clear hw X7 S7))))
   all_goals (
    go_wp2_with fail;go_roundw
    case rel =>
     exact ⟨i + 1 + 1, by omega, by omega, by go_num, B8.out.setCell (by show lo <= c; omega) _, _, _, F8.out.mono lR (by simp)⟩
    case measure => simp [intOf]; omega)
  ·have hmx : max s0 m = j := by omega
   have hlt' : ¬ (j : Int) < m := by omega
   clear hL hb;go_wp2;go_end0;exact ⟨rfl, ⟨_, HL.out⟩, HB.out⟩
end Go.Proofs.YtbgngikejgihgafGreatDoor

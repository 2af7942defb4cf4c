import Derived.Test.YtbgngikejgihgafGreatDoorMq29
import Derived.Test.YtbgngikejgihgafGreatDoorMq24
namespace Go.Proofs.YtbgngikejgihgafGreatDoor
open Go Go.RowKit
set_option linter.unusedVariables false
set_option maxRecDepth 100000
set_option maxHeartbeats 8000000
def sAt (ls : List (List Int)) (i : Nat) : Nat := smL (ls.take i) + i
theorem zAs (ls : List (List Int)) {i j : Nat} (h : i < j) : sAt ls i < sAt ls j := by
 unfold sAt
 have : smL (ls.take i) <= smL (ls.take j) := by
  have := zm (ls.take j) i
  rw [List.take_take, Nat.min_eq_left (by omega)] at this
  exact this
 omega
def Kn (ls : List (List Int)) (s0 off m : Nat) : Prop := s0 <= m ∧ m <= ls.length ∧ (∀ i, s0 <= i -> i < m -> sAt ls (i - 1) <= off) ∧ (m < ls.length -> off < sAt ls (m - 1))
def Ln (ls : List (List Int)) (off k : Nat) : Prop := k < ls.length ∧ sAt ls k <= off ∧ (k + 1 < ls.length -> off < sAt ls (k + 1))
theorem zAt (lo hi c m off : Nat) (rv sv : Value) (vs : List Value) (gs : List Gr) (a b : Nat) (rn : Int) (ls : List (List Int)) (w : World) (h : LCr w lo hi c rv sv vs gs a b rn ((stL ls).take m)) (hm : m <= ls.length) (hm1 : 1 <= m) (hl : ls.length <= 8193) (hof : off <= 20000) :
  Calls Tryz.prog 199 #[.pointer (some ⟨c, 0, none⟩), .int .i64 off] w fun e w' => ∃ k : Nat, e = .returned (.int .i64 k) ∧ k < m ∧ sAt ls k <= off ∧ (k + 1 < m -> off < sAt ls (k + 1)) ∧ w' = w := by
 have STL : (stL ls).length = ls.length := zr ls;obtain ⟨as', cs', hsv⟩ := yS h.starts;rw [List.length_take, STL, Nat.min_eq_left hm] at hsv;have c4 := h.cells.2.2.2.2;have hr := h.starts;unfold o64 at hr;rw [List.length_take, STL, Nat.min_eq_left hm, hsv] at hr;have HR := hide hr
 rcases hr.2 with ⟨_, q⟩ | ⟨gj, cj, cur, q, _, _, d1, d2, _⟩
 ·omega
 simp only [Value.slice.injEq, true_and] at q;obtain ⟨rfl, rfl⟩ := q;rw [hsv] at c4;unfold maxLen at d2
 have SE := hide (searchIN gj cs' m (off : Int) (fun j => ((sAt ls j : Nat) : Int)) w (fun j hj => by
  have := yJ HR.out j hj;rw [this]
  have h9 := YM (ls := ls) (i := j) (by omega)
  simp only [List.getD_eq_getElem?_getD] at h9 |-;rw [List.getElem?_take, if_pos hj, h9]
  rfl) d1 (by omega) (fun i j hij _ => by have := zAs ls hij; omega))
 clear h hr hsv;go_enter Tryz.func199, Tryz.ntmps199;go_wp2_with fail;refine SE.out.mono ?_;rintro e w1 ⟨k, rfl, hk, h1, h2, hw⟩;subst hw;have H1 := hide h1;have H2 := hide h2;clear h1 h2 SE
 by_cases hx : k < m ∧ ((sAt ls k : Nat) : Int) = off
 ·have HX := hide hx
  have hd : decide (k < m ∧ ((sAt ls k : Nat) : Int) = off) = true := by simpa using hx
  rw [hd];clear hx hd;go_wp2_with fail;go_ret
  exact ⟨k, rfl, HX.out.1, by have := HX.out.2; omega, fun q => by have := zAs ls (show k < k + 1 by omega); have := HX.out.2; omega, rfl⟩
 ·have HX := hide hx
  have hd : decide (k < m ∧ ((sAt ls k : Nat) : Int) = off) = false := by simpa using hx
  rw [hd];clear hx hd
  have hk1 : 1 <= k := by
   rcases Nat.eq_zero_or_pos k with q | q
   ·subst q
    have := H2.out 0 lR (by omega)
    have h0 : sAt ls 0 = 0 := by simp [sAt, smL]
    exact absurd ⟨by omega, by rw [h0] at this |-; omega⟩ HX.out
   ·exact q
  obtain ⟨k', rfl⟩ : ∃ k', k = k' + 1 := ⟨k - 1, by omega⟩
  go_wp2_with fail;go_ret
  refine ⟨k', by go_num, by omega, by have := H1.out k' (by omega); omega, fun q => ?_, rfl⟩
  have h3 := H2.out (k' + 1) lR q
  rcases Nat.lt_or_ge off (sAt ls (k' + 1)) with q2 | q2
  ·exact q2
  ·exact absurd ⟨q, by omega⟩ HX.out
theorem J5 {L : List (List Int)} {i : Nat} {l : List Int} (h : L[i]? = some l) : sAt L (i + 1) = sAt L i + l.length + 1 := by
 unfold sAt;rw [yA h]; omega
theorem Zy (L : List (List Int)) {i j : Nat} (h : i <= j) : sAt L i <= sAt L j := by
 rcases Nat.eq_or_lt_of_le h with e | e
 ·rw [e]; exact lR
 ·exact Nat.le_of_lt (zAs L e)
theorem Ln.lc {L : List (List Int)} {off k : Nat} (hn : ∀ l ∈ L, 10 ∉ l) (h : Ln L off k) (ho : off <= (jn L).length) : lcL (jn L) off = k ∧ lcC (jn L) off = off - sAt L k ∧ sAt L k <= off := by
 have hne : L ≠ [] := by intro e; rw [e] at h; exact absurd h.1 (by simp)
 obtain ⟨i, c, l, h1, h2, h3⟩ := jn_cov L hne off ho;have hi : i < L.length := (List.getElem?_eq_some_iff.1 h1).1;have h4 := J5 h1;have e3 : off = sAt L i + c := h3
 obtain rfl : i = k := by
  rcases Nat.lt_trichotomy i k with q | q | q
  ·have := Zy L (show i + 1 <= k by omega); have := h.2.1; omega
  ·exact q
  ·have := Zy L (show k + 1 <= i by omega); have := h.2.2 (by omega); omega
 have := jn_at L hn i c l h1 h2;rw [<- h3] at this
 exact ⟨this.1, by rw [this.2.1]; omega, h.2.1⟩
theorem Kn.uniq {L : List (List Int)} {s0 off m m' : Nat} (h : Kn L s0 off m) (h' : Kn L s0 off m') : m = m' := by
 rcases Nat.lt_trichotomy m m' with q | q | q
 ·have h1 := h.2.2.2 (by have := h'.2.1; omega)
  have h2 := h'.2.2.1 m h.1 q;omega
 ·exact q
 ·have h1 := h'.2.2.2 (by have := h.2.1; omega)
  have h2 := h.2.2.1 m' h'.1 q;omega
theorem Ln.uniq {L : List (List Int)} {off k k' : Nat} (h : Ln L off k) (h' : Ln L off k') : k = k' := by
 rcases Nat.lt_trichotomy k k' with q | q | q
 ·have h1 := h.2.2 (by have := h'.1; omega)
  have := Zy L (show k + 1 <= k' by omega); have := h'.2.1; omega
 ·exact q
 ·have h1 := h'.2.2 (by have := h.1; omega)
  have := Zy L (show k' + 1 <= k by omega); have := h.2.1; omega
theorem Kn.ex (L : List (List Int)) (s0 off : Nat) (hs : s0 <= L.length) : ∃ m, Kn L s0 off m := by
 obtain ⟨d, hd⟩ : ∃ d, d = L.length - s0 := ⟨_, rfl⟩
 induction d generalizing s0 with
 | zero => exact ⟨s0, lR, hs, fun i h1 h2 => by omega, fun h => by omega⟩
 | succ d ih =>
  by_cases hc : sAt L (s0 - 1) <= off
  ·obtain ⟨m, h1, h2, h3, h4⟩ := ih (s0 + 1) (by omega) (by omega)
   refine ⟨m, by omega, h2, fun i hi1 hi2 => ?_, h4⟩
   rcases Nat.eq_or_lt_of_le hi1 with e | e
   ·rw [<- e]; exact hc
   ·exact h3 i e hi2
  ·exact ⟨s0, lR, hs, fun i h1 h2 => by omega, fun _ => by omega⟩
theorem Xn : ∀ zs : List Int, jn (lns zs) = zs
 | [] => by simp [lns, jn, jt]
 | c :: zs => by
  have ih := Xn zs;have he := Zb zs;rw [he] at ih;simp only [jn] at ih
  by_cases hc : c = 10
  ·subst hc
   rw [Ya, he];simp only [jn, jt, List.nil_append];rw [ih]
  ·simp only [lns, if_neg hc, jn, List.cons_append]
   rw [ih]
theorem J6 : ∀ (zs : List Int) (l : List Int), l ∈ lns zs -> 10 ∉ l
 | [], l, h => by simp [lns] at h; subst h; simp
 | c :: zs, l, h => by
  have ih := J6 zs;have he := Zb zs;rw [he] at ih
  by_cases hc : c = 10
  ·subst hc
   rw [Ya, he] at h
   rcases List.mem_cons.1 h with h | h
   ·subst h; simp
   ·exact ih l h
  ·simp only [lns, if_neg hc] at h
   rcases List.mem_cons.1 h with h | h
   ·subst h
    intro hm
    rcases List.mem_cons.1 hm with hm | hm
    ·exact hc hm.symm
    ·exact ih _ (by simp) hm
   ·exact ih l (List.mem_cons_of_mem _ h)
theorem jy (l : List Int) : grT (plG l) = l := by
 simp [grT, plG, gtext]
theorem Xo (L : List (List Int)) : (L.map plG).map grT = L := by
 rw [List.map_map]
 conv => rhs; rw [<- List.map_id L]
 exact List.map_congr_left (fun l _ => jy l)
theorem okG_plG {l : List Int} (h : 10 ∉ l) (hl : l.length <= 8192) : okG (plG l) := by
 refine ⟨⟨?_, fun i h1 h2 => ?_⟩, by rw [jy]; exact h⟩
 ·simp only [bdP, plG]; omega
 ·simp only [plG] at h1 h2; omega
theorem stL_oneR {L : List (List Int)} (h : L ≠ []) : (stL L).take 1 = [0] := by
 cases L with
 | nil => exact absurd rfl h
 | cons a L =>
  have h9 := yw (ls := a :: L) (i := 0) (by simp)
  simpa [smL] using h9
theorem LV_load {zs : List Int} (h : zs.length <= 8192) {m : Nat} (h1 : 1 <= m) (h2 : m <= (lns zs).length) : LV ((lns zs).map plG) ((stL (lns zs)).take m) := by
 have hl := yg zs
 have hm : ((stL (lns zs)).take m).length = m := by rw [List.length_take, zr]; omega
 refine ⟨by rw [List.length_map, hm]; omega, fun g hg => ?_, by rw [Xo, Xn]; exact h, by rw [Xo, hm]⟩
 obtain ⟨l, hl, rfl⟩ := List.mem_map.1 hg
 exact okG_plG (J6 zs l hl) (by have := j7 hl; omega)
theorem zx {w : World} {B e size n q L : Nat} {v : Value} {xs : List Value} {cs : Array Value} {t : TypeId} {fz : Nat × Nat} (h : w.ownsRow B e size v n xs) (hd : w.heap[L]? = some (.cells cs t fz)) (hne : e ≠ t) (hq : v.ownBlock = some q) : q ≠ L := by
 intro e1;subst e1
 rcases h.2 with ⟨rfl, _⟩ | ⟨g, cap, cur, rfl, _, hgb, _⟩
 ·simp [Value.ownBlock] at hq
 ·simp only [Value.ownBlock, Option.some.injEq] at hq
  subst hq;rw [hgb] at hd;simp only [Option.some.injEq] at hd
  injection hd with _ h2 _
  exact hne h2
theorem D2.set2E {w : World} {b : Nat} {x y : Value} {t : TypeId} (h : D2 w b x y t) (u v : Value) : D2 ((w.setCell ⟨b, 0, none⟩ u).setCell ⟨b, 1, none⟩ v) b u v t := by
 unfold D2 at *;have h1 := Go.heap_setCell_same w b 0 _ _ u h;rw [Go.heap_setCell_same _ b 1 _ _ v h1];rfl
structure RS (w : World) (bb lb base : Nat) (zs : List Int) (T : AT) (vs vi vt : Value) (tx : List Int) (gs : List Gr) (lo hi : Nat) (vr vst : Value) (st : List Int) (W : World) : Prop where
 kb : D2 W bb vs vi 33
 o : own32 W base vs zs
 i : OwI W base vi (T.told 0)
 t : own32 W base vt tx
 l : D2 W lb vr vst 40
 ol : OwL W lo hi vr vst gs st
 hh : hi <= W.heap.size
 ne : bb ≠ lb
 out : lb < lo ∨ hi <= lb
 lw : w.heap.size <= lb
 b : Below w.heap.size w W
section
variable {w : World} {bb lb base : Nat} {zs : List Int} {T : AT} {vs vi vt : Value} {tx : List Int} {gs : List Gr} {lo hi : Nat} {vr vst : Value} {st : List Int} {W W' : World}
end
theorem own_offP {w : World} {base b n : Nat} {e t : TypeId} {size : Nat} {v : Value} {xs : List Value} {cs : Array Value} {fz : Nat × Nat} (ho : w.ownsRow base e size v n xs) (hb : w.heap[b]? = some (.cells cs t fz)) (hne : e ≠ t) : ∀ q, v.ownBlock = some q -> q ≠ b := by
 intro q hq e1;subst e1
 rcases ho.2 with ⟨rfl, _⟩ | ⟨g, cap, cur, rfl, _, hgb, _⟩
 ·simp [Value.ownBlock] at hq
 ·simp only [Value.ownBlock, Option.some.injEq] at hq
  subst hq;rw [hgb] at hb;simp only [Option.some.injEq] at hb
  injection hb with _ h2 _
  exact hne h2
theorem SrcB.blk {bs : List Int} {vb : Value} {p : Nat} {w : World} (h : SrcB bs vb p w) : ∃ cs fz, w.heap[p]? = some (.cells cs 115 fz) := by
 obtain ⟨⟨i, x, _, _, _, h8⟩, _⟩ := h.1;exact ⟨_, _, h8⟩
theorem Z6 {bs : List Int} {vb : Value} {p : Nat} {w w' : World} {base n : Nat} {e : TypeId} {size : Nat} {v : Value} {xs : List Value} (ho : w.ownsRow base e size v n xs) (hS : SrcB bs vb p w) (hc : Chg [p] w w') (hne : e ≠ 115) : w'.ownsRow base e size v n xs := by
 obtain ⟨cs, fz, hp⟩ := hS.blk
 exact zC ho fun q hq => hc.block q (ho.lt q hq).2 (by simpa using own_offP ho hp hne q hq)
theorem zD5 (x : Option Addr) (w : World) : Calls Tryz.prog 31 #[.pointer x, .int .i64 0] w fun e w' => e = .returned (.slice (some ⟨w.heap.size, 0, none⟩) 0 0) ∧ w' = w.alloc (.cells #[] 21) := by
 go_enter Tryz.func31, Tryz.ntmps31;go_wp2
 go_loopw [5, 6] (fun out i wr => out = .slice (some ⟨w.heap.size, 0, none⟩) 0 0 ∧ i = .int .i64 0 ∧ wr = w.alloc (.cells #[] 21)) (fun _ i _ => 0)
 case atStart => exact ⟨rfl, rfl, rfl⟩
 case round =>
  obtain ⟨rfl, rfl, rfl⟩ := hrel;go_wp2;go_ret;exact ⟨rfl, rfl⟩
theorem zD6 (bs : List Int) (vb : Value) (p : Nat) (n : Nat) (w : World) (hS : SrcB bs vb p w) (hn : n <= 1048576) :
  Calls Tryz.prog 31 #[.pointer (some ⟨p, 0, none⟩), .int .i64 n] w fun e w' => ∃ g c zs, e = .returned (.slice (some ⟨g, 0, none⟩) n c) ∧ zs.length = n ∧ own32 w' w.heap.size (.slice (some ⟨g, 0, none⟩) n c) zs ∧ SrcB bs vb p w' ∧ Chg [p] w w' := by
 rcases Nat.eq_zero_or_pos n with h0 | h0
 ·subst h0
  refine (zD5 _ w).mono ?_;rintro e w' ⟨rfl, rfl⟩;have hb := (Below.refl w.heap.size w).alloc lR (.cells #[] 21);exact ⟨_, _, [], rfl, rfl, Y7 w, hS.below hb hS.1.lt lR, Chg.of_below hb⟩
 ·refine (zCs bs vb p n w hS.1 hn).mono ?_
  rintro e w' ⟨v, zs, rfl, hl, hd⟩;have ho : own32 w' w.heap.size v zs := hd.own
  obtain ⟨g, c, rfl⟩ : ∃ g c, v = .slice (some ⟨g, 0, none⟩) n c := by
   rcases ho.2 with ⟨_, h2⟩ | ⟨g, c, cur, h1, _⟩
   ·omega
   ·rw [hl] at h1; exact ⟨g, c, h1⟩
  exact ⟨g, c, zs, rfl, hl, ho, ⟨hd.src, hS.2⟩, Chg.of_grown hd.grown⟩
theorem zg {w w' : World} (h : w'.heap = w.heap) (ho : w'.os = w.os) (ht : w'.tape = w.tape) (hp : w'.output = w.output) : Below w.heap.size w w' := ⟨ho, ht, hp, by rw [h]; exact lR, fun k _ => by rw [h]⟩
theorem j3 (bs : List Int) (vb : Value) (p : Nat) (k : Int) (w : World) (hS : SrcB bs vb p w) (hk0 : 0 < k) (hk1 : k <= 1048576) :
  Calls Tryz.prog 7 #[.pointer (some ⟨p, 0, none⟩), .int .i64 k] w fun e w' => ∃ r : Int, e = .returned (.int .i64 r) ∧ (0 <= r ∧ r < k) ∧ SrcB bs vb p w' ∧ Chg [p] w w' := by
 have HS := hide hS;clear hS;go_enter Tryz.func7, Tryz.ntmps7;go_wp2_with fail;refine (drawNB bs vb p k w HS.out hk0 hk1).mono ?_;rintro e w1 ⟨r, rfl, hr, hs1, hc1⟩;go_wp2;go_ret;exact ⟨_, rfl, hr, hs1, hc1⟩
theorem XB (bs : List Int) (vb : Value) (p : Nat) (n : Nat) (w : World) (hS : SrcB bs vb p w) (hn : n <= 1048576) :
  Calls Tryz.prog 6 #[.pointer (some ⟨p, 0, none⟩), .int .i64 n] w fun e w' => ∃ g c zs, e = .returned (.slice (some ⟨g, 0, none⟩) n c) ∧ zs.length = n ∧ own32 w' w.heap.size (.slice (some ⟨g, 0, none⟩) n c) zs ∧ SrcB bs vb p w' ∧ Chg [p] w w' := by
 have HS := hide hS;clear hS;go_enter Tryz.func6, Tryz.ntmps6;go_wp2_with fail;refine (zD6 bs vb p n w HS.out hn).mono ?_;rintro e w1 ⟨g, c, zs, rfl, h1, h2, h3, h4⟩;go_wp2;go_ret;exact ⟨_, _, _, rfl, h1, h2, h3, h4⟩
structure BFr (S : List Int) (T : AT) : Prop where
 ok : T.ok
 bal : T.bal
 wp : T.wp S
 len : S.length <= 220000
theorem BFr.read {S : List Int} {T : AT} (h : BFr S T) : pRead S (T.told 0) = some T := zAb h.bal h.ok h.wp h.len
theorem BFr.its {S : List Int} {T : AT} (h : BFr S T) : (T.told 0).length <= 8192 := by
 have h1 : (T.told 0).length = T.its := AT.told_length T 0;have h2 := h.ok.bd;omega
theorem BFr.pcs {S : List Int} {T : AT} (h : BFr S T) : ∀ x ∈ T.told 0, WP S x.pc ∧ 1 <= x.pc.len := fun x hx => by
 have hm := Y8 hx;exact ⟨(zR S T).1 h.wp _ hm, yc h.ok _ hm⟩
theorem BFr.txl {S : List Int} {T : AT} (h : BFr S T) : ((T.tx S).length : Int) = T.rns := by
 rw [<- ZH S T 0, XJ (fun x hx => (h.pcs x hx).1), AT.rns_told]
theorem zt {w : World} {base g n cap : Nat} {zs : List Int} (h : own32 w base (.slice (some ⟨g, 0, none⟩) n cap) zs) : zs.length <= cap ∧ cap <= maxLen := by
 rcases h.2 with ⟨e, _⟩ | ⟨g', cap', cur, e, _, _, h2, h3, _⟩
 ·cases e
 ·simp only [Value.slice.injEq] at e
  obtain ⟨_, _, rfl⟩ := e;exact ⟨h2, h3⟩
theorem zD7 (w : World) :
  Calls Tryz.prog 10 #[.slice none 0 0] w fun e w' => ∃ b cap, e = .returned (.slice (some ⟨b, 0, none⟩) 0 cap) ∧ own32 w' w.heap.size (.slice (some ⟨b, 0, none⟩) 0 cap) [] ∧ Below w.heap.size w w' := by
 have O0 := hide (Y7 w);have B0 := hide ((Below.refl w.heap.size w).alloc lR (.cells #[] 21));go_enter Tryz.func10, Tryz.ntmps10;go_wp2;go_ret;exact ⟨_, _, rfl, O0.out, B0.out⟩
theorem cpTextR {base : Nat} {v : Value} {tx : List Int} {W : World} (h : own32 W base v tx) (hn : tx.length <= 1048576) :
  Calls Tryz.prog 10 #[v] W fun e w' => ∃ g c, e = .returned (.slice (some ⟨g, 0, none⟩) tx.length c) ∧ own32 w' W.heap.size (.slice (some ⟨g, 0, none⟩) tx.length c) tx ∧ Below W.heap.size W w' := by
 rcases h.2 with ⟨rfl, e⟩ | ⟨g, cap, cur, rfl, _⟩
 ·have e0 : tx = [] := List.eq_nil_of_length_eq_zero e
  subst e0;exact zD7 W
 ·exact Xa tx g 0 cap W (zw h) (yd h) hn
section
variable {base base' g c : Nat} {zs : List Int} {vi : Value} {T : AT} {W : World}
theorem valK (ho : own32 W base (.slice (some ⟨g, 0, none⟩) zs.length c) zs) (hi : OwI W base' vi (T.told 0)) (hF : BFr zs T) :
  Calls Tryz.prog 16 #[.agg #[.slice (some ⟨g, 0, none⟩) zs.length c, vi]] W fun e w' => e = .returned (.bool true) ∧ Below W.heap.size W w' := by
 have hc := zt ho;have hl := hF.len
 have h9 := pvalidS W.heap.size zs g 0 c vi _ W (zw ho) (yd ho) (by omega) hc.1 hc.2 hi.rd lR (by have := hF.its; omega)
 rw [hF.read] at h9;exact h9
theorem plK {k : Nat} (ho : own32 W base (.slice (some ⟨g, 0, none⟩) zs.length c) zs) (hi : OwI W base' vi (T.told 0)) (hF : BFr zs T) (hk : k <= (T.tx zs).length) (hg : W.cell? ⟨0, 0, none⟩ = some (.iface 207 (.agg #[.pointer (some ⟨1, 68, none⟩)]))) :
  Calls Tryz.prog 22 #[.agg #[.slice (some ⟨g, 0, none⟩) zs.length c, vi], .int .i64 k] W fun e w' => e = .returned (.tuple #[.int .i64 (lcL (T.tx zs) k), .int .i64 (lcC (T.tx zs) k), .int .i64 0]) ∧ Below W.heap.size W w' := by
 have hc := zt ho;have hl := hF.len
 have e : lcOut zs (T.told 0) k = (lcL (T.tx zs) k, lcC (T.tx zs) k, 0) := by
  unfold lcOut; rw [hF.read]; simp only; rw [if_pos (by omega), Int.toNat_natCast]
 have h9 := implLC W.heap.size zs g 0 c vi (T.told 0) k W (zw ho) (yd ho) (by omega) hc.1 hc.2 hi.rd lR (by have := hF.its; omega) hg (by rw [e])
 rw [e] at h9;exact h9
theorem slK (ho : own32 W base (.slice (some ⟨g, 0, none⟩) zs.length c) zs) (hi : OwI W base' vi (T.told 0)) (hF : BFr zs T) (hg : W.cell? ⟨0, 0, none⟩ = some (.iface 207 (.agg #[.pointer (some ⟨1, 68, none⟩)]))) :
  Calls Tryz.prog 20 #[.agg #[.slice (some ⟨g, 0, none⟩) zs.length c, vi], .int .i64 0, .int .i64 (T.tx zs).length] W fun e w' => ∃ v', e = .returned (.tuple #[v', .int .i64 0]) ∧ own32 w' W.heap.size v' (T.tx zs) ∧ Below W.heap.size W w' := by
 have hc := zt ho;have hl := hF.len
 have e1 : psTxt zs (T.told 0) 0 (T.tx zs).length = T.tx zs := by
  unfold psTxt; rw [hF.read]; simp only; rw [if_pos (by omega)]
  unfold cutT;simp
 have e2 : Yf zs (T.told 0) 0 (T.tx zs).length = 0 := by
  unfold Yf; rw [hF.read]; simp only; rw [if_pos (by omega)]
 have h9 := implPS W.heap.size zs g 0 c vi (T.told 0) 0 (T.tx zs).length W (zw ho) (yd ho) (by omega) hc.1 hc.2 hi.rd lR (by have := hF.its; omega) hg e2
 rw [e1, e2] at h9;exact h9
theorem jz {w : World} {base : Nat} {v : Value} {zs : List Int} (h : own32 w base v zs) (h0 : v ≠ .slice none 0 0) : ∃ g c, v = .slice (some ⟨g, 0, none⟩) zs.length c := by
 rcases h.2 with ⟨e, _⟩ | ⟨g', cap', cur, e, _⟩
 ·exact absurd e h0
 ·exact ⟨_, _, e⟩
theorem insK {ts : List Int} {off : Int} {gt ct base2 : Nat} (ho : own32 W base (.slice (some ⟨g, 0, none⟩) zs.length c) zs) (hi : OwI W base' vi (T.told 0)) (hF : BFr zs T) (ht : own32 W base2 (.slice (some ⟨gt, 0, none⟩) ts.length ct) ts) (h0 : 0 <= off) (h1 : off <= T.rns) (hm : 0 < ts.length) (hr : T.rns + ts.length <= 8192) (hS : zs.length + ts.length <= 220000) (hg : W.cell? ⟨0, 0, none⟩ = some (.iface 207 (.agg #[.pointer (some ⟨1, 68, none⟩)]))) :
  Calls Tryz.prog 12 #[.agg #[.slice (some ⟨g, 0, none⟩) zs.length c, vi], .int .i64 off, .slice (some ⟨gt, 0, none⟩) ts.length ct] W fun e w' => ∃ g' c' vi', e = .returned (.tuple #[.agg #[.slice (some ⟨g', 0, none⟩) (zs ++ ts).length c', vi'], .int .i64 0]) ∧ own32 w' W.heap.size (.slice (some ⟨g', 0, none⟩) (zs ++ ts).length c') (zs ++ ts) ∧ OwI w' W.heap.size vi' ((insP (zs ++ ts) zs.length T off).told 0) ∧ Below W.heap.size W w' := by
 have hc := zt ho;have hl := hF.len
 have eT : piT zs (T.told 0) off ts = some (insP (zs ++ ts) zs.length T off) := by
  unfold piT; rw [hF.read]; simp only; rw [if_pos ⟨⟨h0, h1⟩, hr, hS⟩, if_neg (by omega)]
 have eC : piC zs (T.told 0) off ts = 0 := by
  unfold piC; rw [hF.read]; simp only; rw [if_pos ⟨h0, h1⟩, if_pos ⟨hr, hS⟩]
 have eS : piS zs (T.told 0) off ts = zs ++ ts := by unfold piS; rw [eT]; rfl
 have eI : piI zs (T.told 0) off ts = (insP (zs ++ ts) zs.length T off).told 0 := by unfold piI; rw [eT]
 have h9 := implPI W.heap.size zs ts g 0 c vi (T.told 0) off gt 0 ct W (zw ho) (yd ho) (by omega) hc.1 hc.2 hi.rd lR (by have := hF.its; omega) (zw ht) (yd ht) (by omega) hg eC hm
 rw [eS, eI, eC] at h9;refine h9.mono ?_;rintro e w' ⟨vs, vi', rfl, h1, h2, h3, hnn⟩;obtain ⟨g', c', rfl⟩ := jz h1 (hnn rfl);exact ⟨g', c', vi', rfl, h1, h2, h3⟩
def delQ (zs : List Int) (T : AT) (lo hi : Int) : AT := if lo = hi then T else delP zs T lo hi
theorem delK {lo hi' : Int} (ho : own32 W base (.slice (some ⟨g, 0, none⟩) zs.length c) zs) (hi : OwI W base' vi (T.told 0)) (hF : BFr zs T) (h0 : 0 <= lo) (h1 : lo <= hi') (h2 : hi' <= T.rns) (hg : W.cell? ⟨0, 0, none⟩ = some (.iface 207 (.agg #[.pointer (some ⟨1, 68, none⟩)]))) :
  Calls Tryz.prog 14 #[.agg #[.slice (some ⟨g, 0, none⟩) zs.length c, vi], .int .i64 lo, .int .i64 hi'] W fun e w' => ∃ g' c' vi', e = .returned (.tuple #[.agg #[.slice (some ⟨g', 0, none⟩) zs.length c', vi'], .int .i64 0]) ∧ own32 w' W.heap.size (.slice (some ⟨g', 0, none⟩) zs.length c') zs ∧ OwI w' W.heap.size vi' ((delQ zs T lo hi').told 0) ∧ Below W.heap.size W w' := by
 have hc := zt ho;have hl := hF.len
 have eT : pdT zs (T.told 0) lo hi' = some (delQ zs T lo hi') := by
  unfold pdT delQ; rw [hF.read]; simp only; rw [if_pos ⟨h0, h1, h2⟩]
 have eC : pdC zs (T.told 0) lo hi' = 0 := by
  unfold pdC; rw [hF.read]; simp only; rw [if_pos ⟨h0, h1, h2⟩]
 have eS : pdS zs (T.told 0) lo hi' = zs := by unfold pdS; rw [eT]; rfl
 have eI : pdI zs (T.told 0) lo hi' = (delQ zs T lo hi').told 0 := by unfold pdI; rw [eT]
 have h9 := implPD W.heap.size zs g 0 c vi (T.told 0) lo hi' W (zw ho) (yd ho) (by omega) hc.1 hc.2 hi.rd lR (by have := hF.its; omega) hg eC
 rw [eS, eI, eC] at h9;refine h9.mono ?_;rintro e w' ⟨vs, vi', rfl, h1, h2, h3, hnn⟩;obtain ⟨g', c', rfl⟩ := jz h1 (hnn rfl);exact ⟨g', c', vi', rfl, h1, h2, h3⟩
theorem cpPieceK {a : Option Addr} {tl k : Nat} (ho : own32 W base (.slice (some ⟨g, 0, none⟩) zs.length c) zs) (hi : OwI W base' (.slice a tl k) (T.told 0)) (hF : BFr zs T) (htl : (T.told 0).length = tl) :
  Calls Tryz.prog 21 #[.agg #[.slice (some ⟨g, 0, none⟩) zs.length c, .slice a tl k]] W fun e w' => ∃ g' c' a' k', e = .returned (.agg #[.slice (some ⟨g', 0, none⟩) zs.length c', .slice a' tl k']) ∧ own32 w' W.heap.size (.slice (some ⟨g', 0, none⟩) zs.length c') zs ∧ OwI w' W.heap.size (.slice a' tl k') (T.told 0) ∧ Below W.heap.size W w' := by
 have hl := hF.len;have hit := hF.its
 have A0 := hide (((Below.refl W.heap.size W).alloc lR (.cells #[.slice (some ⟨g, 0, none⟩) zs.length c, .slice a tl k] 33)).alloc (by simp) (.cells #[.slice none 0 0, .slice none 0 0] 33))
 have KP := hide ((D2.new W (.slice (some ⟨g, 0, none⟩) zs.length c) (.slice a tl k) 33).below ((Below.refl _ _).alloc lR (.cells #[.slice none 0 0, .slice none 0 0] 33)) (by simp))
 have KR := hide (D2.new (W.alloc (.cells #[.slice (some ⟨g, 0, none⟩) zs.length c, .slice a tl k] 33)) (.slice none 0 0) (.slice none 0 0) 33)
 have es : (W.alloc (.cells #[.slice (some ⟨g, 0, none⟩) zs.length c, .slice a tl k] 33)).heap.size = W.heap.size + 1 := by simp
 rw [es] at KR
 have es2 : ((W.alloc (.cells #[.slice (some ⟨g, 0, none⟩) zs.length c, .slice a tl k] 33)).alloc (.cells #[.slice none 0 0, .slice none 0 0] 33)).heap.size = W.heap.size + 2 := by simp
 have CT := hide (fun (X : World) (hX : Below W.heap.size W X) => cpTextR (W := X) (zD ho hX lR) (by omega))
 have CR := hide (fun (X : World) (hX : Below W.heap.size W X) => cpTreeL (T.told 0) (.slice a tl k) base' X (OwI.below hi hX lR) (by omega))
 have HTL := hide htl;generalize hzl : zs.length = zl at *;clear ho hi es hzl htl;go_enter Tryz.func21, Tryz.ntmps21
 go_upto_region 1 with fail
 generalize hw0 : (W.alloc (.cells #[.slice (some ⟨g, 0, none⟩) zl c, .slice a tl k] 33)).alloc (.cells #[.slice none 0 0, .slice none 0 0] 33) = w0 at *;clear hw0;have p0 := KP.out.c.1;have p1 := KP.out.c.2
 have hsz : W.heap.size + 1 < w0.heap.size := by omega
 have hsz0 : W.heap.size < w0.heap.size := by omega
 clear es2
 go_region_with (first
  | (go_at_call 10; refine (CT.out _ (by exact (show Below W.heap.size W _ from ⟨A0.out.os, A0.out.tape, A0.out.output, A0.out.size, A0.out.block⟩))).mono ?_; rintro e x1 ⟨g1, c1, rfl, ho1, hb1⟩; have B1 : Hid (Below w0.heap.size w0 x1) := hide (show Below w0.heap.size w0 x1 from ⟨hb1.os, hb1.tape, hb1.output, hb1.size, hb1.block⟩); have s1 := B1.out.size; have P1 := KP.out.below B1.out hsz0; have u0 := P1.c.1; have u1 := P1.c.2; have O1 := hide (show own32 x1 w0.heap.size _ zs from ho1); clear ho1 hb1 P1)
  | (go_at_call 54; refine (CR.out _ (by first | exact (show Below W.heap.size W _ from ⟨(A0.out.trans (B1.out.mono (by omega))).os, (A0.out.trans (B1.out.mono (by omega))).tape, (A0.out.trans (B1.out.mono (by omega))).output, (A0.out.trans (B1.out.mono (by omega))).size, (A0.out.trans (B1.out.mono (by omega))).block⟩))).mono ?_; rintro e x2 ⟨v2, rfl, hi2, hb2⟩; have B2 : Hid (Below x1.heap.size x1 x2) := hide (show Below x1.heap.size x1 x2 from ⟨hb2.os, hb2.tape, hb2.output, hb2.size, hb2.block⟩); have s2 := B2.out.size; obtain ⟨a2, k2, hv2⟩ := yO hi2; rw [HTL.out] at hv2; subst hv2; have O2 := hide (show own32 x2 w0.heap.size _ zs from zD O1.out B2.out lR); have I2 := hide (show OwI x2 x1.heap.size _ (T.told 0) from hi2); have R2 := KR.out.below (B1.out.trans (B2.out.mono s1)) hsz; have e0 := R2.c.1; have e1 := R2.c.2; have f0 := R2.fz 0; have f1 := R2.fz 1; have BB := hide (A0.out.trans ((B1.out.trans (B2.out.mono s1)).mono (by omega))); have R3 := hide R2; clear hi2 hb2 R2))
 all_goals (
  go_wp2_with fail
  refine bodyPost_ret (v := .agg #[.slice (some ⟨g1, 0, none⟩) zl c1, .slice a2 tl k2]) (by simp [results, Tryz.results21, go_sem, e0, e1]) rfl ⟨_, _, _, _, rfl, ?_, ?_, ?_⟩
  ·refine zE (zC O2.out (fun q hq => ?_)) (by omega)
   have h9 := zx O2.out R3.out (by decide) hq
   rw [Go.heap_setCell_other _ _ _ _ (by show q ≠ W.heap.size + 1; exact h9), Go.heap_setCell_other _ _ _ _ (by show q ≠ W.heap.size + 1; exact h9)]
  ·refine zE (zC I2.out (fun q hq => ?_)) (by omega)
   have h9 := zx I2.out R3.out (by decide) hq
   rw [Go.heap_setCell_other _ _ _ _ (by show q ≠ W.heap.size + 1; exact h9), Go.heap_setCell_other _ _ _ _ (by show q ≠ W.heap.size + 1; exact h9)]
  ·exact (BB.out.setCell (by simp) _).setCell (by simp) _)
end
theorem ldK {base g c : Nat} {tx : List Int} {W : World} (h : own32 W base (.slice (some ⟨g, 0, none⟩) tx.length c) tx) (hn : tx.length <= 8192) (hg : W.cell? ⟨0, 0, none⟩ = some (.iface 207 (.agg #[.pointer (some ⟨1, 68, none⟩)]))) :
  Calls Tryz.prog 9 #[.slice (some ⟨g, 0, none⟩) tx.length c] W fun e w' => ∃ g' c' vi', e = .returned (.tuple #[.agg #[.slice (some ⟨g', 0, none⟩) tx.length c', vi'], .int .i64 0]) ∧ own32 w' W.heap.size (.slice (some ⟨g', 0, none⟩) tx.length c') tx ∧ OwI w' W.heap.size vi' ((ldT tx).told 0) ∧ Below W.heap.size W w' := by
 have hc := zt h
 have h9 := implLd base tx g c W h (by omega) hc hg hn
 unfold LdPost at h9
 rw [show ldS tx = tx by rw [ldS, if_pos hn], show ldI tx = (ldT tx).told 0 by rw [ldI, if_pos hn], show ldC tx = 0 by rw [ldC, if_pos hn]] at h9
 refine h9.mono ?_;rintro e w' ⟨vs, vi', rfl, h1, h2, h3, hnn⟩;obtain ⟨g', c', rfl⟩ := jz h1 (hnn rfl);exact ⟨g', c', vi', rfl, h1, h2, h3⟩
theorem ldF {tx : List Int} (hn : tx.length <= 8192) : BFr tx (ldT tx) := by
 have h := ldT_all tx hn
 exact ⟨h.1, h.2.1, h.2.2.1, by omega⟩
end Go.Proofs.YtbgngikejgihgafGreatDoor

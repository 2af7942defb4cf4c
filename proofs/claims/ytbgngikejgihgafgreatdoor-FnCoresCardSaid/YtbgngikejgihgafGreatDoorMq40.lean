import Derived.Test.YtbgngikejgihgafGreatDoorMq39
import Derived.Test.YtbgngikejgihgafGreatDoorMq35
namespace Go.Proofs.YtbgngikejgihgafGreatDoor
open Go Go.RowKit
set_option linter.unusedVariables false
set_option maxRecDepth 100000
set_option maxHeartbeats 8000000
def Cl3 (w : World) (g : Nat) (zs : List T3v) : Prop := ∀ j u, (fl3 zs)[j]? = some u -> w.cell? ⟨g, j, none⟩ = some u
theorem zB9 {w : World} {g : Nat} {zs : List T3v} {sp : List Value} {t : TypeId} (h : w.heap[g]? = some (.cells (fl3 zs ++ sp).toArray t (0, 0))) : Cl3 w g zs := by
 intro j u hj;rw [cell_of_row w g j _ _ _ h];have h9 := (List.getElem?_eq_some_iff.1 hj).1;simp only [List.getElem?_toArray];rw [List.getElem?_append_left h9];exact hj
theorem Cl3.app' {w : World} {g : Nat} {zs : List T3v} (h : Cl3 w g zs) (p l : Nat) (hp : p + l <= zs.length) : ∀ j u, (fl3 ((zs.drop p).take l))[j]? = some u -> w.cell? ((⟨g, p * 3, none⟩ : Addr).add j) = some u := by
 intro j u hj
 have hjl : j < l * 3 := by
  have h9 := (List.getElem?_eq_some_iff.1 hj).1;rw [zF, List.length_take] at h9;omega
 rw [show (⟨g, p * 3, none⟩ : Addr).add j = ⟨g, p * 3 + j, none⟩ from jJ _ _ _]
 rw [<- JY, <- JZ] at hj;rw [List.getElem?_take, if_pos hjl, List.getElem?_drop] at hj;exact h _ _ hj
theorem GB.rc {w : World} {B o : Nat} {cs : Array Value} {t : TypeId} {v : Value} {lo hi : Int} (h : GB w B o cs t v lo hi) : RC w B o v lo hi := ⟨h.gc.c0, h.gc.c1, h.gc.c2⟩
def RwR (w : World) (g : Nat) (zs : List T3v) (sp : List Value) : Prop := w.heap[g]? = some (.cells (fl3 zs ++ sp).toArray 136 (0, 0))
structure GPostR (w w' : World) (B o g : Nat) (cs : Array Value) (t : TypeId) (v : Value) (lo hi : Int) (zs : List T3v) (sp : List Value) : Prop where
 gb : GB w' B o (set3 cs o v (.int .i64 lo) (.int .i64 hi)) t v lo hi
 rw : RwR w' g zs sp
 chg : ChgP w w' (fun k => k = B ∨ k = g)
theorem Ky {w w1 : World} {B o g : Nat} {cs : Array Value} {t : TypeId} {v : Value} {lo hi : Int} {zs : List T3v} {sp : List Value} (h : GB w B o cs t v lo hi) (hBg : B ≠ g) (hr : Row1 w w1 g (fl3 zs ++ sp) 136) (a b : Int) :
  GPostR w ((w1.setCell ⟨B, o + 1, none⟩ (.int .i64 a)).setCell ⟨B, o + 2, none⟩ (.int .i64 b)) B o g cs t v a b zs sp := by
 refine ⟨GB.of_set3 (Kx h hBg hr a b) h.sz, ?_, ?_⟩
 ·show _ = _
  rw [zB (by show g ≠ B; exact hBg.symm), zB (by show g ≠ B; exact hBg.symm)]
  exact hr.row
 ·refine ⟨hr.os, hr.tape, hr.output, by simp [hr.size], fun k hk hn => ?_⟩
  rw [zB (by show k ≠ B; exact fun e => hn (.inl e)), zB (by show k ≠ B; exact fun e => hn (.inl e))]
  exact hr.block k (fun e => hn (.inr e))
theorem moveRG (B o g cap : Nat) (cs : Array Value) (t : TypeId) (zs : List T3v) (sp : List Value) (lo hi p : Nat) (w : World) (h : GB w B o cs t (.slice (some ⟨g, 0, none⟩) zs.length cap) lo hi) (hr : RwR w g zs sp) (hO : One3 zs) (hBg : B ≠ g)
  (hc : zs.length <= cap) (hv : GVA z3 zs lo hi) (hp : p + (hi - lo) <= zs.length) :
  Calls Tryz.prog 204 #[.pointer (some ⟨B, o, none⟩), .int .i64 p] w fun x w' => x = .returned (.tuple #[]) ∧ GPostR w w' B o g cs t (.slice (some ⟨g, 0, none⟩) zs.length cap) p ((p + (hi - lo) : Nat) : Int) (glayA z3 (zP zs lo hi) p zs.length) sp :=
 (moveRN B o g cap zs sp lo hi p w h.rc h.gf hr hO hBg hc hv hp).mono fun x w' ⟨hx, w1, hr1, hw⟩ => ⟨hx, by rw [hw]; exact Ky h hBg hr1 _ _⟩
theorem GPostR.trans {w w1 w2 : World} {B o g : Nat} {cs : Array Value} {t : TypeId} {v v' : Value} {lo hi lo' hi' : Int} {zs zs' : List T3v} {sp sp' : List Value} (h : GPostR w w1 B o g cs t v lo hi zs sp) (hs : o + 3 <= cs.size) (k : GPostR w1 w2 B o g (set3 cs o v (.int .i64 lo) (.int .i64 hi)) t v' lo' hi' zs' sp') : GPostR w w2 B o g cs t v' lo' hi' zs' sp' := by
 have e := Zf cs o v (.int .i64 lo) (.int .i64 hi) v' (.int .i64 lo') (.int .i64 hi') hs;have kg := k.gb;rw [e] at kg
 exact ⟨kg, k.rw, h.chg.trans k.chg (fun _ _ s => s) (fun _ _ s => s)⟩
theorem Yv {w w1 : World} {B o g : Nat} {cs : Array Value} {t : TypeId} {v : Value} {lo hi : Int} {zs : List T3v} {sp : List Value} (h : GB w B o cs t v lo hi) (hBg : B ≠ g) (hr : Row1 w w1 g (fl3 zs ++ sp) 136) (b : Int) :
  GPostR w (w1.setCell ⟨B, o + 2, none⟩ (.int .i64 b)) B o g cs t v lo b zs sp := by
 have h0 : w1.heap[B]? = some (.cells cs t (0, 0)) := (hr.block B hBg).trans h.blk;have h2 := heap_setCell_same w1 B (o + 2) _ _ (.int .i64 b) h0;have hs := h.sz;refine ⟨GB.of_set3 ?_ h.sz, ?_, ?_⟩
 ·rw [h2]
  congr 2
  apply zy (by simp) h.sz
  ·rw [Array.getElem?_setIfInBounds, if_neg (by omega)]; exact h.c0
  ·rw [Array.getElem?_setIfInBounds, if_neg (by omega)]; exact h.c1
  ·rw [Array.getElem?_setIfInBounds, if_pos rfl, if_pos (by omega)]
  ·intro j e0 e1 e2
   rw [Array.getElem?_setIfInBounds, if_neg (by omega)]
 ·show _ = _
  rw [zB (by show g ≠ B; exact hBg.symm)]
  exact hr.row
 ·refine ⟨hr.os, hr.tape, hr.output, by simp [hr.size], fun k hk hn => ?_⟩
  rw [zB (by show k ≠ B; exact fun e => hn (.inl e))]
  exact hr.block k (fun e => hn (.inr e))
theorem removeR (B o g cap : Nat) (cs : Array Value) (t : TypeId) (zs : List T3v) (sp : List Value) (lo hi a b : Nat) (w : World) (h : GB w B o cs t (.slice (some ⟨g, 0, none⟩) zs.length cap) lo hi) (hr : RwR w g zs sp) (hO : One3 zs) (hBg : B ≠ g)
  (hc : zs.length <= cap) (hv : GVA z3 zs lo hi) (hab : a <= b) (hb : b + (hi - lo) <= zs.length) :
  Calls Tryz.prog 200 #[.pointer (some ⟨B, o, none⟩), .int .i64 a, .int .i64 b] w fun x w' => x = .returned (.tuple #[]) ∧ GPostR w w' B o g cs t (.slice (some ⟨g, 0, none⟩) zs.length cap) a ((b + (hi - lo) : Nat) : Int) (glayA z3 ((zP zs lo hi).take a ++ (zP zs lo hi).drop b) a zs.length) sp := by
 have h1 := hv.a;have h2 := hv.b;have h3 := hv.c;have hL : (zP zs lo hi).length = zs.length - (hi - lo) := yB h1 h2;have hs := h.sz
 have HM := hide (moveRG B o g cap cs t zs sp lo hi a w h hr hO hBg hc hv (by omega))
 have HC := hide (zD0 (z := z3) (xs := zP zs lo hi) (p := a) (q := b) (n := zs.length) hab (by omega) (by omega))
 have hLg : (glayA z3 (zP zs lo hi) a zs.length).length = zs.length := zI (z := z3) (by omega) (by omega)
 have eE : a + (zs.length - (zP zs lo hi).length) = a + (hi - lo) := by omega
 rw [eE] at HC;generalize zP zs lo hi = tx at *;generalize glayA z3 tx a zs.length = gl at *
 have HCC := hide (show splice gl (a + (hi - lo)) (List.replicate (b - a) z3) = glayA z3 (tx.take a ++ tx.drop b) a zs.length from HC.out)
 generalize glayA z3 (tx.take a ++ tx.drop b) a zs.length = res at *;generalize hN : zs.length = n at *;obtain ⟨E, hE⟩ : ∃ E, E = a + (hi - lo) := ⟨_, rfl⟩;obtain ⟨F, hF⟩ : ∃ F, F = b + (hi - lo) := ⟨_, rfl⟩;rw [<- hE] at HM HCC;rw [<- hF]
 have hEF : F = E + (b - a) := by omega
 have hFn : F <= n := by omega
 have eF : (E : Int) + (b : Int) - (a : Int) = F := by omega
 have HLg := hide hLg
 have LS := hide (show (List.replicate (b - a) z3).length = b - a by simp)
 have i3 : b <= n := by omega
 have i4 : b <= 65536 := by omega
 have i5 : E <= 65536 := by omega
 clear hL eE HC hF hE hb hN hr hLg
 have i1 : E <= F := by omega
 have i2 : F <= cap := by omega
 have HEF := hide hEF;clear hEF
 by_cases hco : cap = E
 ·obtain rfl : E = F := by omega
  obtain rfl : a = b := by have := HEF.out; omega
  subst hco;go_enter Tryz.func200, Tryz.ntmps200;go_wp2_with fail;refine HM.out.mono ?_;rintro x w1 ⟨rfl, hp1⟩;have P1 := hide hp1;obtain ⟨d0, d1, d2⟩ := hp1.gb.rc;clear hp1 HM;go_wp2_with fail;go_still_tail 10, mixed
  refine zY rfl (.tmp 27) 131 rfl 136 Tryz.underlying131 (.agg #[.slice none 0 0, .int .i64 0, .int .i64 0]) (.slice none 0 0) (.int .i64 0) (.int .i64 0) YB rfl ⟨rfl, rfl, rfl⟩ (some ⟨g, 0, none⟩) 0 0 rfl g (cap * 3) _ 136 (by exact P1.out.rw) (fun hpos => absurd hpos (by omega)) (by rw [List.length_append, zF, HLg.out]; omega) ?_
  intro w3 rr3
  have R3 := hide (Row1.to (Row1.of_drew rr3.out) (zS (by rw [List.length_replicate, HLg.out]; omega)))
  obtain ⟨d0, d1, d2⟩ := (P1.out.gb.block (w' := w3) (rr3.out.block B hBg)).rc;obtain ⟨f0, f1, f2⟩ := (P1.out.gb.block (w' := w3) (rr3.out.block B hBg)).gf;clear rr3;go_wp2;go_end0;refine ⟨rfl, P1.out.trans hs ?_⟩;have hq := HCC.out;rw [Nat.sub_self] at hq;rw [<- hq];exact Yv P1.out.gb hBg R3.out _
 ·go_enter Tryz.func200, Tryz.ntmps200
  go_wp2_with fail;refine HM.out.mono ?_;rintro x w1 ⟨rfl, hp1⟩;have P1 := hide hp1;obtain ⟨d0, d1, d2⟩ := hp1.gb.rc;clear hp1 HM;go_wp2_with fail;go_still_tail 10, mixed
  refine zY rfl (.tmp 27) 131 rfl 136 Tryz.underlying131 (.agg #[.slice none 0 0, .int .i64 0, .int .i64 0]) (.slice none 0 0) (.int .i64 0) (.int .i64 0) YB rfl ⟨rfl, rfl, rfl⟩ (some ⟨g, E * 3, none⟩) (F - E) (cap - E) rfl g (E * 3) _ 136 (by exact P1.out.rw) (fun _ => rfl) (by rw [List.length_append, zF, HLg.out]; omega) ?_
  intro w3 rr3
  have R3 := hide (Row1.to (Row1.of_drew rr3.out) (zS (by rw [List.length_replicate, HLg.out]; omega)))
  obtain ⟨d0, d1, d2⟩ := (P1.out.gb.block (w' := w3) (rr3.out.block B hBg)).rc;obtain ⟨f0, f1, f2⟩ := (P1.out.gb.block (w' := w3) (rr3.out.block B hBg)).gf;clear rr3;go_wp2;go_end0;refine ⟨rfl, P1.out.trans hs ?_⟩;have hq := HCC.out
  rw [show b - a = F - E by have := HEF.out; omega] at hq
  rw [<- hq];exact Yv P1.out.gb hBg R3.out _
theorem RwR.of_owns {w : World} {base g n cap : Nat} {zs : List T3v} (h : w.ownsRow base 136 3 (.slice (some ⟨g, 0, none⟩) n cap) n (fl3 zs)) : base <= g ∧ n <= cap ∧ cap <= maxLen ∧ ∃ sp, RwR w g zs sp ∧ sp.length = cap * 3 - n * 3 := by
 have hl : zs.length = n := by have := h.1; rw [zF] at this; omega
 rcases h.2 with ⟨hv, hn⟩ | ⟨g', cap', cur, hv, hb, hh, hc, hm, hsz, htk⟩
 ·cases hv
 ·simp only [Value.slice.injEq, Option.some.injEq, Addr.mk.injEq, and_true, true_and] at hv
  obtain ⟨rfl, rfl⟩ := hv
  refine ⟨hb, hc, hm, cur.toList.drop (n * 3), ?_, by simp [hsz]⟩
  show _ = _
  rw [hh]
  congr 2
  have : cur.toList = fl3 zs ++ cur.toList.drop (n * 3) := by
   rw [<- htk, List.take_append_drop]
  exact Array.toList_inj.1 (by simpa using this)
theorem Yw {w : World} {base g n cap : Nat} {zs : List T3v} {sp : List Value} (h : RwR w g zs sp) (hN : zs.length = n) (hb : base <= g) (hc : n <= cap) (hm : cap <= maxLen) (hs : sp.length = cap * 3 - n * 3) : w.ownsRow base 136 3 (.slice (some ⟨g, 0, none⟩) n cap) n (fl3 zs) := by
 refine ⟨by rw [zF, hN], .inr ⟨g, cap, (fl3 zs ++ sp).toArray, rfl, hb, h, hc, hm, by have := zF zs; simp [hs]; omega, ?_⟩⟩
 have e := zF zs;rw [hN] at e;rw [<- e];simp
theorem Je (n : Nat) : (madeCells (Value.agg #[.slice none 0 0, .int .i64 0, .int .i64 0]).cells (n * 3)).toList = fl3 (List.replicate n z3) := by
 rw [YP]
 induction n with
 | zero => rfl
 | succ n ih => simp only [List.replicate_succ, grVs, fl3, ih]; rfl
theorem makeR_no (B o : Nat) (ao : Option Addr) (n0 cap : Nat) (lo hi n : Nat) (w : World) (h : RC w B o (.slice ao n0 cap) lo hi) (h1 : lo <= hi) (h2 : hi <= n0) (hn : n0 <= 1048576) (hg : n <= hi - lo) :
  Calls Tryz.prog 203 #[.pointer (some ⟨B, o, none⟩), .int .i64 n] w fun x w' => x = .returned (.tuple #[]) ∧ ∃ m, w' = w.drewN m := by
 have HK := hide (gapRN B o (.slice ao n0 cap) lo hi w h (by omega) (by omega) (by omega))
 have hge : (n : Int) <= (hi : Int) - (lo : Int) := by omega
 clear h;go_enter Tryz.func203, Tryz.ntmps203;go_wp2_with fail;refine HK.out.mono ?_;rintro x w0 ⟨rfl, mm0, rfl⟩;go_wp2
 refine bodyPost_ret (v := .tuple #[]) (by simp [results, Tryz.results203, go_sem]) rfl ⟨rfl, mm0, rfl⟩
theorem Jf {w : World} {g n : Nat} {base : Nat} (h : w.ownsRow base 136 3 (.slice (some ⟨g, 0, none⟩) n n) n (fl3 (List.replicate n z3))) : RwR w g (List.replicate n z3) [] := by
 obtain ⟨_, _, _, sp, hr, hs⟩ := RwR.of_owns h
 have : sp = [] := List.eq_nil_of_length_eq_zero (by omega)
 subst this;exact hr
structure je (w w' : World) (B o : Nat) (cs : Array Value) (t : TypeId) (lo hi R : Nat) (zs : List T3v) (g : Nat) : Prop where
 ge : w.heap.size <= g
 gb : GB w' B o (set3 cs o (.slice (some ⟨g, 0, none⟩) R R) (.int .i64 lo) (.int .i64 hi)) t (.slice (some ⟨g, 0, none⟩) R R) lo hi
 rw : RwR w' g zs []
 chg : ChgP w w' (fun k => k = B)
theorem Yj {w w1 w2 : World} {B o g : Nat} {cs : Array Value} {t : TypeId} {v : Value} {lo hi nh : Int} {zs zs' : List T3v} {R : Nat} (h : GB w B o cs t v lo hi) (hc : ChgP w w1 (fun _ => False)) (hg : w.heap.size <= g) (hr1 : RwR w1 g zs []) (hr : Row1 (w1.setCell ⟨B, o + 2, none⟩ (.int .i64 nh)) w2 g (fl3 zs' ++ []) 136) (lo' hi' : Nat) (e1 : lo = lo') (e2 : nh = hi') :
  je w (w2.setCell ⟨B, o, none⟩ (.slice (some ⟨g, 0, none⟩) R R)) B o cs t lo' hi' R zs' g := by
 subst e1;subst e2;have hBl := h.lt
 have hBg : B ≠ g := by omega
 have hs := h.sz
 have h0 : w1.heap[B]? = some (.cells cs t (0, 0)) := (hc.block B hBl (fun x => x)).trans h.blk
 have h1 := heap_setCell_same w1 B (o + 2) _ _ (.int .i64 (hi' : Int)) h0;have h2 : w2.heap[B]? = _ := (hr.block B hBg).trans h1;have h3 := heap_setCell_same w2 B o _ _ (.slice (some ⟨g, 0, none⟩) R R) h2;refine ⟨hg, GB.of_set3 ?_ h.sz, ?_, ?_⟩
 ·rw [h3]
  congr 2
  apply zy (by simp) h.sz
  ·rw [Array.getElem?_setIfInBounds, if_pos rfl, if_pos (by simp; omega)]
  ·rw [Array.getElem?_setIfInBounds, Array.getElem?_setIfInBounds, if_neg (by omega), if_neg (by omega)]; exact h.c1
  ·rw [Array.getElem?_setIfInBounds, Array.getElem?_setIfInBounds, if_neg (by omega), if_pos rfl, if_pos (by omega)]
  ·intro j e0 e1 e2
   rw [Array.getElem?_setIfInBounds, Array.getElem?_setIfInBounds, if_neg (by omega), if_neg (by omega)]
 ·show _ = _
  rw [zB (by show g ≠ B; exact hBg.symm)]
  exact hr.row
 ·refine ⟨by simpa [World.setCell] using hr.os.trans hc.os, by simpa [World.setCell] using hr.tape.trans hc.tape, by simpa [World.setCell] using hr.output.trans hc.output, ?_, fun k hk hn => ?_⟩
  ·simp only [World.size_setCell, hr.size]
   exact hc.size
  ·rw [zB (by show k ≠ B; exact hn), hr.block k (by omega), zB (by show k ≠ B; exact hn)]
   exact hc.block k hk (fun x => x)
theorem makeR_A (B o g cap n0 : Nat) (cs : Array Value) (t : TypeId) (zs : List T3v) (lo hi n c0 L M R NH : Nat) (w : World) (h : GB w B o cs t (.slice (some ⟨g, 0, none⟩) n0 cap) lo hi) (hz : Cl3 w g zs) (hg : g < w.heap.size) (hcap : n0 <= cap) (hN : zs.length = n0) (hO : One3 zs)
  (h1 : lo <= hi) (h2 : hi <= n0) (h3 : n0 <= 65536) (hno : hi - lo < n) (eL : (n0 : Int) - ((hi : Int) - (lo : Int)) = L) (hM : M = L + n) (hMb : M <= 16384) (mx : max (n0 : Int) 16 = c0) (hD : Dbl M c0 R) (hNH : (R : Int) - ((n0 - hi : Nat) : Int) = NH) (hA : hi < n0) (hgB : g ≠ B) :
  Calls Tryz.prog 203 #[.pointer (some ⟨B, o, none⟩), .int .i64 n] w fun x w' => x = .returned (.tuple #[]) ∧ ∃ g', je w w' B o cs t lo NH R (splice (splice (List.replicate R z3) 0 (zs.take lo)) NH (zs.drop hi)) g' := by
 obtain ⟨i0, hi', hz0, hz1, hz2⟩ := info_parts Tryz.infoGB
 have HK := hide (gapRN B o (.slice (some ⟨g, 0, none⟩) n0 cap) lo hi w h.rc (by omega) (by omega) (by omega))
 have HLN := hide (fun w h => Z0 B o (some ⟨g, 0, none⟩) n0 cap lo hi w h (by omega) (by omega) (by omega) (by omega))
 have H := hide h;have HC := hide h.rc;have HN := hide hN;have HD := hide hD;have bR := jA hD
 have hlt : ((hi : Int) - (lo : Int)) < (n : Int) := by omega
 have hR0 : n0 <= R := by omega
 have hRb : R <= 65536 := by omega
 have L1 := hide (show (zs.take lo).length = lo by rw [List.length_take]; omega)
 have L2 := hide (show (zs.drop hi).length = n0 - hi by rw [List.length_drop, hN])
 obtain ⟨d0, d1, d2⟩ := h.rc;obtain ⟨f0, f1, f2⟩ := h.gf;have HZ := hide hz;have HO1 := hide (hO.take lo);have HO2 := hide (hO.drop hi)
 have q1 : ¬ cap = hi := by omega
 have q2 : ¬ R = NH := by omega
 have q3 : NH <= R := by omega
 have i1 : lo <= cap := by omega
 have hNH0 := hNH;clear hz;clear hN hD h hNH0;go_enter Tryz.func203, Tryz.ntmps203;go_wp2_with fail;refine HK.out.mono ?_;rintro x w0 ⟨rfl, mm0, rfl⟩;go_wp2_with fail
 go_loopw [4] (fun s4 wr => ∃ c k : Nat, s4 = .int .i64 c ∧ Dbl M c R ∧ 16 <= c ∧ c <= 65536 ∧ wr = w.drewN k) (fun s4 _ => M - (intOf s4).toNat)
 case atStart => exact ⟨c0, mm0, rfl, HD.out, by omega, by omega, rfl⟩
 case round =>
  obtain ⟨c, k, rfl, hDc, hc16, hcb, rfl⟩ := hrel;have HDc := hide hDc;clear hDc;go_wp2_with fail;refine (HLN.out (w.drewN k) (HC.out.same rfl)).mono ?_;rintro x w1 ⟨rfl, m1, rfl⟩
  by_cases hcm : c < M
  ·have hlt2 : (c : Int) - (L : Int) < (n : Int) := by omega
   have HDn := hide (show Dbl M (c * 2) R from by
    cases HDc.out with
    | stop _ h => omega
    | more _ _ h k => exact k)
   have hc2 : c * 2 <= 65536 := by omega
   go_wp2;go_roundw
   case rel => exact ⟨c * 2, k + m1, by go_num, HDn.out, by omega, by omega, rfl⟩
   case measure => simp [intOf]; omega
  ·have hnl : ¬ (c : Int) - (L : Int) < (n : Int) := by omega
   obtain rfl : c = R := by
    cases HDc.out with
    | stop _ h => rfl
    | more _ _ h k => omega
   have HB1 := hide (show ChgP w ((w.drewN k).drewN m1) (fun _ => False) from ⟨rfl, rfl, rfl, lR, fun _ _ _ => rfl⟩)
   have H1 := hide (H.out.block (w' := (w.drewN k).drewN m1) rfl);have es1 : w.heap.size <= ((w.drewN k).drewN m1).heap.size := lR
   have HZ1 := hide (show Cl3 ((w.drewN k).drewN m1) g zs from HZ.out)
   clear d0 d1 d2 f0 f1 f2 HK HLN HD HDc;obtain ⟨d0, d1, d2⟩ := H1.out.rc;obtain ⟨f0, f1, f2⟩ := H1.out.gf;generalize (w.drewN k).drewN m1 = w1 at *
   go_upto_region 5 with (at_make; refine wpList_make_full _ rfl _ _ 131 rfl w1.heap.size 136 i0 (.agg #[.slice none 0 0, .int .i64 0, .int .i64 0]) 3 Tryz.underlying131 hi' hz0 hz1 .i64 .i64 _ _ c rfl rfl (by omega) (by omega) (by rw [hz2]; omega) (by unfold maxLen; omega) lR ?_; intro w2 hown hgrow)
   rw [Je] at hown;have R2 := hide (Jf hown)
   have C2 := hide (show ChgP w w2 (fun _ => False) from HB1.out.trans (show ChgP w1 w2 (fun _ => False) from ⟨hgrow.os, hgrow.tape, hgrow.output, hgrow.size, fun i hq _ => hgrow.block i hq (by simp)⟩) (fun _ _ s => s) (fun _ _ s => s))
   have es2 : w1.heap.size < w2.heap.size := (hown.lt _ rfl).2;have hBl := H1.out.lt
   have H2 := hide (H1.out.block (w' := w2) (hgrow.block B hBl (by simp)))
   have HZ2 := hide (show Cl3 w2 g zs from fun i u hu => (World.cell?_of_block (a := ⟨g, i, none⟩) (hgrow.block g (by omega) (by simp))).trans (HZ1.out i u hu))
   have hBg : B ≠ w1.heap.size := by omega
   clear hown hgrow d0 d1 d2 f0 f1 f2 H1 HB1;obtain ⟨d0, d1, d2⟩ := H2.out.rc;obtain ⟨f0, f1, f2⟩ := H2.out.gf;go_still_tail 10, mixed
   refine zQ rfl (.tmp 27) (.tmp 36) 131 131 rfl 136 Tryz.underlying131 zb (some ⟨w1.heap.size, 0, none⟩) (some ⟨g, 0, none⟩) c c lo cap rfl rfl w1.heap.size 0 (fl3 (List.replicate c z3) ++ []) 136 (by exact R2.out) lo (by show lo = min _ _; omega) (fl3 (zs.take lo)) (by rw [zF, L1.out]) (fun _ => ⟨rfl, _, rfl, by have := HZ2.out.app' 0 lo (by rw [HN.out]; omega); rw [List.drop_zero] at this; exact this⟩) (by rw [zF, L1.out, List.length_append, zF, List.length_replicate]; omega) (One3.fl (HO1.out)) ?_
   intro w3 rr3
   have R3 := hide (Row1.to (Row1.of_drew rr3.out) (zS (off := 0) (sp := []) (by rw [L1.out, List.length_replicate]; omega)))
   have H3 := hide (H2.out.block (w' := w3) (rr3.out.block B hBg))
   have C3 := hide (show ChgP w w3 (fun _ => False) from C2.out.trans (show ChgP w2 w3 (fun k => k = w1.heap.size) from ⟨rr3.out.os, rr3.out.tape, rr3.out.output, Nat.le_of_eq rr3.out.size.symm, fun k hk hn => rr3.out.block k hn⟩) (fun _ _ s => s) (fun i hq s => by omega))
   have es3 : w1.heap.size < w3.heap.size := by rw [rr3.out.size]; exact es2
   have HZ3 := hide (show Cl3 w3 g zs from fun i u hu => (World.cell?_of_block (a := ⟨g, i, none⟩) (rr3.out.block g (by omega))).trans (HZ2.out i u hu))
   clear rr3 d0 d1 d2 f0 f1 f2 H2 C2 R2;obtain ⟨d0, d1, d2⟩ := H3.out.rc;obtain ⟨f0, f1, f2⟩ := H3.out.gf;go_wp2_with fail;go_quiet (fail)
   have R4 := hide (show RwR (w3.drewN nq) w1.heap.size (splice (List.replicate c z3) 0 (zs.take lo)) [] from R3.out.row)
   have H4 := hide (H3.out.block (w' := w3.drewN nq) rfl)
   have C4 := hide (show ChgP w (w3.drewN nq) (fun _ => False) from C3.out.trans (show ChgP w3 (w3.drewN nq) (fun _ => False) from ⟨rfl, rfl, rfl, lR, fun _ _ _ => rfl⟩) (fun _ _ s => s) (fun _ _ s => s))
   have HZ4 := hide (show Cl3 (w3.drewN nq) g zs from HZ3.out)
   clear d0 d1 d2 f0 f1 f2 H3 C3 R3;obtain ⟨d0, d1, d2⟩ := H4.out.rc;obtain ⟨f0, f1, f2⟩ := H4.out.gf;generalize w3.drewN nq = w4 at *
   have HZ5 := hide (show Cl3 (w4.setCell ⟨B, o + 2, none⟩ (.int .i64 NH)) g zs from fun i u hu => (World.cell?_of_block (a := ⟨g, i, none⟩) (zB (by show g ≠ B; exact hgB))).trans (HZ4.out i u hu))
   have R5a := hide (show RwR (w4.setCell ⟨B, o + 2, none⟩ (.int .i64 NH)) w1.heap.size (splice (List.replicate c z3) 0 (zs.take lo)) [] from (zB (by show w1.heap.size ≠ B; exact hBg.symm)).trans R4.out)
   go_upto_region 8 with fail
   go_upto_region 9 with (refine zQ rfl (.tmp 59) (.tmp 60) 131 131 rfl 136 Tryz.underlying131 zb (some ⟨w1.heap.size, NH * 3, none⟩) (some ⟨g, hi * 3, none⟩) (c - NH) (c - NH) (n0 - hi) (cap - hi) rfl rfl w1.heap.size (NH * 3) (fl3 (splice (List.replicate c z3) 0 (zs.take lo)) ++ []) 136 (by exact R5a.out) (n0 - hi) (by show n0 - hi = min _ _; omega) (fl3 (zs.drop hi)) (by rw [zF, L2.out]) (fun _ => ⟨rfl, _, rfl, by have := HZ5.out.app' hi (n0 - hi) (by rw [HN.out]; omega); rw [List.take_of_length_le (by rw [L2.out]; exact lR)] at this; exact this⟩) (by rw [zF, L2.out, List.length_append, zF, length_splice _ _ _ (by rw [L1.out, List.length_replicate]; omega), List.length_replicate]; omega) (One3.fl (HO2.out)) ?_; intro w5 rr5)
   have R5 := hide (Row1.to rr5.out (zS (sp := []) (by rw [L2.out, length_splice _ _ _ (by rw [L1.out, List.length_replicate]; omega), List.length_replicate]; omega)))
   have y0 : w5.cell? ⟨B, o, none⟩ = some (.slice (some ⟨g, 0, none⟩) n0 cap) := (World.cell?_of_block (a := ⟨B, o, none⟩) (rr5.out.block B hBg)).trans ((World.cell?_setCell_other w4 ⟨B, o + 2, none⟩ ⟨B, o, none⟩ (.int .i64 NH) (by simp)).trans d0)
   have y1 : w5.frozen? ⟨B, o, none⟩ = false := (zK (p := ⟨B, o, none⟩) (rr5.out.block B hBg)).trans (by simpa using f0)
   clear rr5 d0 d1 d2 f0 f1 f2;go_wp2;go_end0;exact ⟨rfl, w1.heap.size, Yj H.out C4.out es1 R4.out R5.out lo NH rfl rfl⟩
theorem makeR_B (B o g cap n0 : Nat) (cs : Array Value) (t : TypeId) (zs : List T3v) (lo hi n c0 L M R NH : Nat) (w : World) (h : GB w B o cs t (.slice (some ⟨g, 0, none⟩) n0 cap) lo hi) (hz : Cl3 w g zs) (hg : g < w.heap.size) (hcap : n0 <= cap) (hN : zs.length = n0) (hO : One3 zs)
  (h1 : lo <= hi) (h2 : hi <= n0) (h3 : n0 <= 65536) (hno : hi - lo < n) (eL : (n0 : Int) - ((hi : Int) - (lo : Int)) = L) (hM : M = L + n) (hMb : M <= 16384) (mx : max (n0 : Int) 16 = c0) (hD : Dbl M c0 R) (hNH : (R : Int) - ((n0 - hi : Nat) : Int) = NH) (hB : hi = n0) (hB2 : cap = n0) (hgB : g ≠ B) :
  Calls Tryz.prog 203 #[.pointer (some ⟨B, o, none⟩), .int .i64 n] w fun x w' => x = .returned (.tuple #[]) ∧ ∃ g', je w w' B o cs t lo NH R (splice (splice (List.replicate R z3) 0 (zs.take lo)) NH (zs.drop hi)) g' := by
 obtain rfl : n0 = hi := by omega
 obtain rfl : n0 = cap := by omega
 obtain rfl : R = NH := by omega
 obtain ⟨i0, hi', hz0, hz1, hz2⟩ := info_parts Tryz.infoGB
 have HK := hide (gapRN B o (.slice (some ⟨g, 0, none⟩) n0 n0) lo n0 w h.rc (by omega) (by omega) (by omega))
 have HLN := hide (fun w h => Z0 B o (some ⟨g, 0, none⟩) n0 n0 lo n0 w h (by omega) (by omega) (by omega) (by omega))
 have H := hide h;have HC := hide h.rc;have HN := hide hN;have HD := hide hD;have bR := jA hD
 have hlt : ((n0 : Int) - (lo : Int)) < (n : Int) := by omega
 have hR0 : n0 <= R := by omega
 have hRb : R <= 65536 := by omega
 have L1 := hide (show (zs.take lo).length = lo by rw [List.length_take]; omega)
 have L2 := hide (show (zs.drop n0).length = n0 - n0 by rw [List.length_drop, hN])
 obtain ⟨d0, d1, d2⟩ := h.rc;obtain ⟨f0, f1, f2⟩ := h.gf;have HZ := hide hz;have HO1 := hide (hO.take lo);have HO2 := hide (hO.drop n0)
 have i1 : lo <= n0 := by omega
 have hNH0 := hNH;clear hz;clear hN hD h hNH0;go_enter Tryz.func203, Tryz.ntmps203;go_wp2_with fail;refine HK.out.mono ?_;rintro x w0 ⟨rfl, mm0, rfl⟩;go_wp2_with fail
 go_loopw [4] (fun s4 wr => ∃ c k : Nat, s4 = .int .i64 c ∧ Dbl M c R ∧ 16 <= c ∧ c <= 65536 ∧ wr = w.drewN k) (fun s4 _ => M - (intOf s4).toNat)
 case atStart => exact ⟨c0, mm0, rfl, HD.out, by omega, by omega, rfl⟩
 case round =>
  obtain ⟨c, k, rfl, hDc, hc16, hcb, rfl⟩ := hrel;have HDc := hide hDc;clear hDc;go_wp2_with fail;refine (HLN.out (w.drewN k) (HC.out.same rfl)).mono ?_;rintro x w1 ⟨rfl, m1, rfl⟩
  by_cases hcm : c < M
  ·have hlt2 : (c : Int) - (L : Int) < (n : Int) := by omega
   have HDn := hide (show Dbl M (c * 2) R from by
    cases HDc.out with
    | stop _ h => omega
    | more _ _ h k => exact k)
   have hc2 : c * 2 <= 65536 := by omega
   go_wp2;go_roundw
   case rel => exact ⟨c * 2, k + m1, by go_num, HDn.out, by omega, by omega, rfl⟩
   case measure => simp [intOf]; omega
  ·have hnl : ¬ (c : Int) - (L : Int) < (n : Int) := by omega
   obtain rfl : c = R := by
    cases HDc.out with
    | stop _ h => rfl
    | more _ _ h k => omega
   have HB1 := hide (show ChgP w ((w.drewN k).drewN m1) (fun _ => False) from ⟨rfl, rfl, rfl, lR, fun _ _ _ => rfl⟩)
   have H1 := hide (H.out.block (w' := (w.drewN k).drewN m1) rfl);have es1 : w.heap.size <= ((w.drewN k).drewN m1).heap.size := lR
   have HZ1 := hide (show Cl3 ((w.drewN k).drewN m1) g zs from HZ.out)
   clear d0 d1 d2 f0 f1 f2 HK HLN HD HDc;obtain ⟨d0, d1, d2⟩ := H1.out.rc;obtain ⟨f0, f1, f2⟩ := H1.out.gf;generalize (w.drewN k).drewN m1 = w1 at *
   go_upto_region 5 with (at_make; refine wpList_make_full _ rfl _ _ 131 rfl w1.heap.size 136 i0 (.agg #[.slice none 0 0, .int .i64 0, .int .i64 0]) 3 Tryz.underlying131 hi' hz0 hz1 .i64 .i64 _ _ c rfl rfl (by omega) (by omega) (by rw [hz2]; omega) (by unfold maxLen; omega) lR ?_; intro w2 hown hgrow)
   rw [Je] at hown;have R2 := hide (Jf hown)
   have C2 := hide (show ChgP w w2 (fun _ => False) from HB1.out.trans (show ChgP w1 w2 (fun _ => False) from ⟨hgrow.os, hgrow.tape, hgrow.output, hgrow.size, fun i hq _ => hgrow.block i hq (by simp)⟩) (fun _ _ s => s) (fun _ _ s => s))
   have es2 : w1.heap.size < w2.heap.size := (hown.lt _ rfl).2;have hBl := H1.out.lt
   have H2 := hide (H1.out.block (w' := w2) (hgrow.block B hBl (by simp)))
   have HZ2 := hide (show Cl3 w2 g zs from fun i u hu => (World.cell?_of_block (a := ⟨g, i, none⟩) (hgrow.block g (by omega) (by simp))).trans (HZ1.out i u hu))
   have hBg : B ≠ w1.heap.size := by omega
   clear hown hgrow d0 d1 d2 f0 f1 f2 H1 HB1;obtain ⟨d0, d1, d2⟩ := H2.out.rc;obtain ⟨f0, f1, f2⟩ := H2.out.gf;go_still_tail 10, mixed
   refine zQ rfl (.tmp 27) (.tmp 36) 131 131 rfl 136 Tryz.underlying131 zb (some ⟨w1.heap.size, 0, none⟩) (some ⟨g, 0, none⟩) c c lo n0 rfl rfl w1.heap.size 0 (fl3 (List.replicate c z3) ++ []) 136 (by exact R2.out) lo (by show lo = min _ _; omega) (fl3 (zs.take lo)) (by rw [zF, L1.out]) (fun _ => ⟨rfl, _, rfl, by have := HZ2.out.app' 0 lo (by rw [HN.out]; omega); rw [List.drop_zero] at this; exact this⟩) (by rw [zF, L1.out, List.length_append, zF, List.length_replicate]; omega) (One3.fl (HO1.out)) ?_
   intro w3 rr3
   have R3 := hide (Row1.to (Row1.of_drew rr3.out) (zS (off := 0) (sp := []) (by rw [L1.out, List.length_replicate]; omega)))
   have H3 := hide (H2.out.block (w' := w3) (rr3.out.block B hBg))
   have C3 := hide (show ChgP w w3 (fun _ => False) from C2.out.trans (show ChgP w2 w3 (fun k => k = w1.heap.size) from ⟨rr3.out.os, rr3.out.tape, rr3.out.output, Nat.le_of_eq rr3.out.size.symm, fun k hk hn => rr3.out.block k hn⟩) (fun _ _ s => s) (fun i hq s => by omega))
   have es3 : w1.heap.size < w3.heap.size := by rw [rr3.out.size]; exact es2
   have HZ3 := hide (show Cl3 w3 g zs from fun i u hu => (World.cell?_of_block (a := ⟨g, i, none⟩) (rr3.out.block g (by omega))).trans (HZ2.out i u hu))
   clear rr3 d0 d1 d2 f0 f1 f2 H2 C2 R2;obtain ⟨d0, d1, d2⟩ := H3.out.rc;obtain ⟨f0, f1, f2⟩ := H3.out.gf;go_wp2_with fail;go_quiet (fail)
   have R4 := hide (show RwR (w3.drewN nq) w1.heap.size (splice (List.replicate c z3) 0 (zs.take lo)) [] from R3.out.row)
   have H4 := hide (H3.out.block (w' := w3.drewN nq) rfl)
   have C4 := hide (show ChgP w (w3.drewN nq) (fun _ => False) from C3.out.trans (show ChgP w3 (w3.drewN nq) (fun _ => False) from ⟨rfl, rfl, rfl, lR, fun _ _ _ => rfl⟩) (fun _ _ s => s) (fun _ _ s => s))
   have HZ4 := hide (show Cl3 (w3.drewN nq) g zs from HZ3.out)
   clear d0 d1 d2 f0 f1 f2 H3 C3 R3;obtain ⟨d0, d1, d2⟩ := H4.out.rc;obtain ⟨f0, f1, f2⟩ := H4.out.gf;generalize w3.drewN nq = w4 at *
   have HZ5 := hide (show Cl3 (w4.setCell ⟨B, o + 2, none⟩ (.int .i64 c)) g zs from fun i u hu => (World.cell?_of_block (a := ⟨g, i, none⟩) (zB (by show g ≠ B; exact hgB))).trans (HZ4.out i u hu))
   have R5a := hide (show RwR (w4.setCell ⟨B, o + 2, none⟩ (.int .i64 c)) w1.heap.size (splice (List.replicate c z3) 0 (zs.take lo)) [] from (zB (by show w1.heap.size ≠ B; exact hBg.symm)).trans R4.out)
   go_upto_region 8 with fail
   go_upto_region 9 with (refine zQ rfl (.tmp 59) (.tmp 60) 131 131 rfl 136 Tryz.underlying131 zb (some ⟨w1.heap.size, 0, none⟩) (some ⟨g, 0, none⟩) 0 0 0 0 rfl rfl w1.heap.size (c * 3) (fl3 (splice (List.replicate c z3) 0 (zs.take lo)) ++ []) 136 (by exact R5a.out) 0 (by show 0 = min _ _; omega) (fl3 (zs.drop n0)) (by rw [zF, L2.out, Nat.sub_self]) (fun hpos => absurd hpos (by omega)) (by rw [zF, L2.out, List.length_append, zF, length_splice _ _ _ (by rw [L1.out, List.length_replicate]; omega), List.length_replicate]; omega) (One3.fl (HO2.out)) ?_; intro w5 rr5)
   have R5 := hide (Row1.to rr5.out (zS (sp := []) (by rw [L2.out, length_splice _ _ _ (by rw [L1.out, List.length_replicate]; omega), List.length_replicate]; omega)))
   have y0 : w5.cell? ⟨B, o, none⟩ = some (.slice (some ⟨g, 0, none⟩) n0 n0) := (World.cell?_of_block (a := ⟨B, o, none⟩) (rr5.out.block B hBg)).trans ((World.cell?_setCell_other w4 ⟨B, o + 2, none⟩ ⟨B, o, none⟩ (.int .i64 c) (by simp)).trans d0)
   have y1 : w5.frozen? ⟨B, o, none⟩ = false := (zK (p := ⟨B, o, none⟩) (rr5.out.block B hBg)).trans (by simpa using f0)
   clear rr5 d0 d1 d2 f0 f1 f2;go_wp2;go_end0;exact ⟨rfl, w1.heap.size, Yj H.out C4.out es1 R4.out R5.out lo c rfl rfl⟩
end Go.Proofs.YtbgngikejgihgafGreatDoor

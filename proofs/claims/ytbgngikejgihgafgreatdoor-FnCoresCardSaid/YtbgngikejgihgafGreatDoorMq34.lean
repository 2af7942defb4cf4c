import Derived.Test.YtbgngikejgihgafGreatDoorMq33
import Derived.StillTailTactics
namespace Go.Proofs.YtbgngikejgihgafGreatDoor
open Go Go.RowKit
set_option linter.unusedVariables false
set_option maxRecDepth 100000
set_option maxHeartbeats 8000000
theorem Yr (lo hi c g cap n a b : Nat) (sv : Value) (vs : List Value) (gs : List Gr) (rn : Int) (st : List Int) (w : World) (h : LCr w lo hi c (.slice (some ⟨g, 0, none⟩) n cap) sv vs gs a b rn st) (hN : gs.length = n) (h1 : 1 <= n) (h2 : n <= 1048576) (hab : a <= b) (hbn : b <= n) (hm : 1 <= a + (n - b)) (hh : hi <= w.heap.size) (hl : lo <= hi) (hch : c < hi) :
  Calls Tryz.prog 44 #[.pointer (some ⟨c, 0, none⟩), .nilIface] w fun e w' => ∃ vr vt, e = .returned (.tuple #[.agg #[vr, vt], .int .i64 0]) ∧ OwL w' lo w'.heap.size vr vt (cutG a b gs) st ∧ Below w.heap.size w w' := by
 have A0 := hide ((Below.refl w.heap.size w).alloc lR (.cells #[.slice none 0 0, .slice none 0 0] 40));have K0 := hide (D2.new w (.slice none 0 0) (.slice none 0 0) 40)
 have hs0 : (w.alloc (.cells #[.slice none 0 0, .slice none 0 0] 40)).heap.size = w.heap.size + 1 := by simp
 have TL := hide (tellL lo hi c g cap n a b sv vs gs rn st _ (h.below A0.out hh (by omega)) hN h1 h2 hab hbn (by omega) hl hm)
 generalize cutG a b gs = G at *;clear h hN;go_enter Tryz.func44, Tryz.ntmps44;go_wp2_with fail;generalize w.alloc (.cells #[.slice none 0 0, .slice none 0 0] 40) = w0 at *;refine TL.out.mono ?_;rintro e w3 ⟨vr, rfl, ho3, hb3⟩;obtain ⟨a1, c1', a2, c2', rfl, hvt⟩ := ho3.val;subst hvt;have s3 := hb3.size
 have K3 := hide (K0.out.below hb3 (by omega))
 have B3 := hide (A0.out.trans (hb3.mono (by omega)))
 have O3 := hide ho3;have e0 := K3.out.c.1;have e1 := K3.out.c.2;have f0 := K3.out.fz 0;have f1 := K3.out.fz 1;obtain ⟨vs3, G3⟩ := ho3.rows
 have hne : ∀ q, (Value.slice a1 G.length c1').ownBlock = some q ∨ (Value.slice a2 st.length c2').ownBlock = some q -> True := fun _ _ => trivial
 have FR := hide (show ∀ w', (∀ q, q ≠ w.heap.size -> w'.heap[q]? = w3.heap[q]?) -> OwL w' lo w3.heap.size (.slice a1 G.length c1') (.slice a2 st.length c2') G st from fun w' hw' => by
  have hr2 := Kt K3.out;refine ⟨⟨vs3, ⟨?_, G3.bl, ?_⟩⟩, ?_, ho3.bl⟩
  ·exact zC G3.row (fun q hq => hw' q (fun e => zO G3.row hr2 (by decide) hq (by simp [Value.ownBlock, e])))
  ·exact ⟨G3.nest.len, fun i u l hu hl => zC (G3.nest.own i u l hu hl) (fun q hq => hw' q (fun e => zO (G3.nest.own i u l hu hl) hr2 (by decide) hq (by simp [Value.ownBlock, e]))), G3.nest.bl, G3.nest.ne⟩
  ·exact zC ho3.starts (fun q hq => hw' q (fun e => zO ho3.starts hr2 (by decide) hq (by simp [Value.ownBlock, e]))))
 clear ho3 hb3 TL G3 hne;go_wp2
 refine bodyPost_ret (v := .tuple #[.agg #[.slice a1 G.length c1', .slice a2 st.length c2'], .int .i64 0]) (by simp [results, Tryz.results44, go_sem, e0, e1]) rfl ⟨_, _, rfl, ?_, ?_⟩
 ·refine (FR.out _ (fun q hq => ?_)).mono lR (by simp)
  rw [heap_setCell_other _ _ _ _ (by show q ≠ w.heap.size; exact hq), heap_setCell_other _ _ _ _ (by show q ≠ w.heap.size; exact hq)]
 ·exact (B3.out.setCell lR _).setCell lR _
theorem readCore (B o g cap n : Nat) (zs xs ys : List Int) (lo hi a b p1 q1 p2 q2 : Nat) (w : World) (h : GC w B o (.slice (some ⟨g, 0, none⟩) n cap) lo hi) (hg : g < w.heap.size) (h1 : lo <= hi) (h2 : hi <= n) (hn : n <= 1048576) (hc : n <= cap) (hcm : cap <= maxLen) (ha : a <= n) (hb : b <= n)
  (m1 : min (a : Int) lo = p1) (m2 : min (b : Int) lo = q1) (m3 : max ((a : Int) + (hi - lo)) hi = p2) (m4 : max ((b : Int) + (hi - lo)) hi = q2) (i1 : p1 <= q1) (i2 : q1 <= n) (i3 : p2 <= q2) (i4 : q2 <= n)
  (s7 : ∀ w' c, Below w.heap.size w w' -> Sl .i32 w' (.slice (some ⟨g, p1, none⟩) (q1 - p1) c) xs) (s8 : ∀ w' c, Below w.heap.size w w' -> Sl .i32 w' (.slice (some ⟨g, p2, none⟩) (q2 - p2) c) ys) (l7 : xs.length = q1 - p1) (l8 : ys.length = q2 - p2) :
  Calls Tryz.prog 195 #[.pointer (some ⟨B, o, none⟩), .int .i64 a, .int .i64 b] w fun e w' => ∃ v', e = .returned v' ∧ w'.ownsRow w.heap.size 21 1 v' (xs ++ ys).length (ints .i32 (xs ++ ys)) ∧ Below w.heap.size w w' := by
 have HK := hide (fun w h => gapN B o (.slice (some ⟨g, 0, none⟩) n cap) lo hi w h (by omega) (by omega) (by omega))
 have H := hide h;obtain ⟨c0, c1, c2⟩ := h;have X7 := hide s7;have X8 := hide s8;have L7 := hide l7;have L8 := hide l8
 have T7 := hide (show q1 - p1 <= 1048576 by omega)
 have T8 := hide (show q2 - p2 <= 1048576 by omega)
 clear s7 s8 l7 l8
 by_cases e7 : cap = p1
 ·by_cases e8 : cap = p2
  ·obtain rfl : q1 = p1 := by omega
   obtain rfl : q2 = p2 := by omega
   subst e7;subst e8;go_enter Tryz.func195, Tryz.ntmps195;go_wp2;go_quiet (fail);have H1 := hide (H.out.same (w' := w.drewN nq) rfl);have HB1 := hide (below_drewN (Below.refl w.heap.size w) nq);have es1 := HB1.out.size;obtain ⟨d0, d1, d2⟩ := H1.out;clear c0 c1 c2 H;generalize w.drewN nq = w1 at *;go_wp2;go_quiet ((go_at_call 139; exact Calls.quiet_of (HK.out _ (H1.out.same rfl))));have HB2 := hide (below_drewN HB1.out nq);have es2 := HB2.out.size;clear d0 d1 d2 H1 HB1 es1 HK m1 m2 m3 m4;generalize w1.drewN nq = w2 at *;go_wp2_with fail
   have HB3 := hide (HB2.out.alloc (by omega) (.cells #[.slice (some ⟨g, 0, none⟩) 0 0, .slice (some ⟨g, 0, none⟩) 0 0] 25))
   have k0 : (w2.alloc (.cells #[.slice (some ⟨g, 0, none⟩) 0 0, .slice (some ⟨g, 0, none⟩) 0 0] 25)).cell? ⟨w2.heap.size, 0, none⟩ = some (.slice (some ⟨g, 0, none⟩) 0 0) := by simp
   have k1 : (w2.alloc (.cells #[.slice (some ⟨g, 0, none⟩) 0 0, .slice (some ⟨g, 0, none⟩) 0 0] 25)).cell? ⟨w2.heap.size, 1, none⟩ = some (.slice (some ⟨g, 0, none⟩) 0 0) := by simp
   have S7 := hide ((Sl.empty (xs := xs) (w := w2.alloc (.cells #[.slice (some ⟨g, 0, none⟩) 0 0, .slice (some ⟨g, 0, none⟩) 0 0] 25)) (g := g) (c := 0) (by simp; omega) (by rw [L7.out]; omega)))
   have S8 := hide ((Sl.empty (xs := ys) (w := w2.alloc (.cells #[.slice (some ⟨g, 0, none⟩) 0 0, .slice (some ⟨g, 0, none⟩) 0 0] 25)) (g := g) (c := 0) (by simp; omega) (by rw [L8.out]; omega)))
   have hs3 : (w2.alloc (.cells #[.slice (some ⟨g, 0, none⟩) 0 0, .slice (some ⟨g, 0, none⟩) 0 0] 25)).heap.size = w2.heap.size + 1 := by simp
   generalize w2.alloc (.cells #[.slice (some ⟨g, 0, none⟩) 0 0, .slice (some ⟨g, 0, none⟩) 0 0] 25) = w3 at *
   refine (Yh xs ys _ _ _ w3 S7.out S8.out (by omega) k0 k1 (by rw [L7.out]; exact T7.out) (by rw [L8.out]; exact T8.out)).mono ?_
   rintro e w4 ⟨v4, rfl, ho4, hb4⟩
   have HO4 := hide (zE ho4 (base' := w.heap.size) (by omega))
   have HB4 := hide (HB3.out.trans (hb4.mono (by omega)))
   clear ho4 hb4;go_wp2;go_ret;exact ⟨_, rfl, HO4.out, HB4.out⟩
  ·exfalso; omega
 ·by_cases e8 : cap = p2
  ·obtain rfl : q2 = p2 := by omega
   subst e8;go_enter Tryz.func195, Tryz.ntmps195;go_wp2;go_quiet (fail);have H1 := hide (H.out.same (w' := w.drewN nq) rfl);have HB1 := hide (below_drewN (Below.refl w.heap.size w) nq);have es1 := HB1.out.size;obtain ⟨d0, d1, d2⟩ := H1.out;clear c0 c1 c2 H;generalize w.drewN nq = w1 at *;go_wp2;go_quiet ((go_at_call 139; exact Calls.quiet_of (HK.out _ (H1.out.same rfl))));have HB2 := hide (below_drewN HB1.out nq);have es2 := HB2.out.size;clear d0 d1 d2 H1 HB1 es1 HK m1 m2 m3 m4;generalize w1.drewN nq = w2 at *;go_wp2_with fail
   have HB3 := hide (HB2.out.alloc (by omega) (.cells #[.slice (some ⟨g, p1, none⟩) (q1 - p1) (cap - p1), .slice (some ⟨g, 0, none⟩) 0 0] 25))
   have k0 : (w2.alloc (.cells #[.slice (some ⟨g, p1, none⟩) (q1 - p1) (cap - p1), .slice (some ⟨g, 0, none⟩) 0 0] 25)).cell? ⟨w2.heap.size, 0, none⟩ = some (.slice (some ⟨g, p1, none⟩) (q1 - p1) (cap - p1)) := by simp
   have k1 : (w2.alloc (.cells #[.slice (some ⟨g, p1, none⟩) (q1 - p1) (cap - p1), .slice (some ⟨g, 0, none⟩) 0 0] 25)).cell? ⟨w2.heap.size, 1, none⟩ = some (.slice (some ⟨g, 0, none⟩) 0 0) := by simp
   have S7 := hide ((X7.out _ (cap - p1) HB3.out))
   have S8 := hide ((Sl.empty (xs := ys) (w := w2.alloc (.cells #[.slice (some ⟨g, p1, none⟩) (q1 - p1) (cap - p1), .slice (some ⟨g, 0, none⟩) 0 0] 25)) (g := g) (c := 0) (by simp; omega) (by rw [L8.out]; omega)))
   have hs3 : (w2.alloc (.cells #[.slice (some ⟨g, p1, none⟩) (q1 - p1) (cap - p1), .slice (some ⟨g, 0, none⟩) 0 0] 25)).heap.size = w2.heap.size + 1 := by simp
   generalize w2.alloc (.cells #[.slice (some ⟨g, p1, none⟩) (q1 - p1) (cap - p1), .slice (some ⟨g, 0, none⟩) 0 0] 25) = w3 at *
   refine (Yh xs ys _ _ _ w3 S7.out S8.out (by omega) k0 k1 (by rw [L7.out]; exact T7.out) (by rw [L8.out]; exact T8.out)).mono ?_
   rintro e w4 ⟨v4, rfl, ho4, hb4⟩
   have HO4 := hide (zE ho4 (base' := w.heap.size) (by omega))
   have HB4 := hide (HB3.out.trans (hb4.mono (by omega)))
   clear ho4 hb4;go_wp2;go_ret;exact ⟨_, rfl, HO4.out, HB4.out⟩
  ·go_enter Tryz.func195, Tryz.ntmps195
   go_wp2;go_quiet (fail);have H1 := hide (H.out.same (w' := w.drewN nq) rfl);have HB1 := hide (below_drewN (Below.refl w.heap.size w) nq);have es1 := HB1.out.size;obtain ⟨d0, d1, d2⟩ := H1.out;clear c0 c1 c2 H;generalize w.drewN nq = w1 at *;go_wp2;go_quiet ((go_at_call 139; exact Calls.quiet_of (HK.out _ (H1.out.same rfl))));have HB2 := hide (below_drewN HB1.out nq);have es2 := HB2.out.size;clear d0 d1 d2 H1 HB1 es1 HK m1 m2 m3 m4;generalize w1.drewN nq = w2 at *;go_wp2_with fail
   have HB3 := hide (HB2.out.alloc (by omega) (.cells #[.slice (some ⟨g, p1, none⟩) (q1 - p1) (cap - p1), .slice (some ⟨g, p2, none⟩) (q2 - p2) (cap - p2)] 25))
   have k0 : (w2.alloc (.cells #[.slice (some ⟨g, p1, none⟩) (q1 - p1) (cap - p1), .slice (some ⟨g, p2, none⟩) (q2 - p2) (cap - p2)] 25)).cell? ⟨w2.heap.size, 0, none⟩ = some (.slice (some ⟨g, p1, none⟩) (q1 - p1) (cap - p1)) := by simp
   have k1 : (w2.alloc (.cells #[.slice (some ⟨g, p1, none⟩) (q1 - p1) (cap - p1), .slice (some ⟨g, p2, none⟩) (q2 - p2) (cap - p2)] 25)).cell? ⟨w2.heap.size, 1, none⟩ = some (.slice (some ⟨g, p2, none⟩) (q2 - p2) (cap - p2)) := by simp
   have S7 := hide ((X7.out _ (cap - p1) HB3.out));have S8 := hide ((X8.out _ (cap - p2) HB3.out))
   have hs3 : (w2.alloc (.cells #[.slice (some ⟨g, p1, none⟩) (q1 - p1) (cap - p1), .slice (some ⟨g, p2, none⟩) (q2 - p2) (cap - p2)] 25)).heap.size = w2.heap.size + 1 := by simp
   generalize w2.alloc (.cells #[.slice (some ⟨g, p1, none⟩) (q1 - p1) (cap - p1), .slice (some ⟨g, p2, none⟩) (q2 - p2) (cap - p2)] 25) = w3 at *
   refine (Yh xs ys _ _ _ w3 S7.out S8.out (by omega) k0 k1 (by rw [L7.out]; exact T7.out) (by rw [L8.out]; exact T8.out)).mono ?_
   rintro e w4 ⟨v4, rfl, ho4, hb4⟩
   have HO4 := hide (zE ho4 (base' := w.heap.size) (by omega))
   have HB4 := hide (HB3.out.trans (hb4.mono (by omega)))
   clear ho4 hb4;go_wp2;go_ret;exact ⟨_, rfl, HO4.out, HB4.out⟩
theorem readN (B o g cap : Nat) (zs : List Int) (lo hi a b : Nat) (w : World) (h : GC w B o (.slice (some ⟨g, 0, none⟩) zs.length cap) lo hi) (hz : Cl w g zs) (hg : g < w.heap.size) (h1 : lo <= hi) (h2 : hi <= zs.length) (hn : zs.length <= 1048576) (hc : zs.length <= cap) (hcm : cap <= maxLen) (ha : a <= b) (hb : b <= zs.length - (hi - lo)) :
  Calls Tryz.prog 195 #[.pointer (some ⟨B, o, none⟩), .int .i64 a, .int .i64 b] w fun e w' => ∃ v', e = .returned v' ∧ w'.ownsRow w.heap.size 21 1 v' (b - a) (ints .i32 (((gtext zs lo hi).drop a).take (b - a))) ∧ Below w.heap.size w w' := by
 have he := gread h1 h2 ha (by rw [zM h1 h2]; exact hb)
 have hl : (((gtext zs lo hi).drop a).take (b - a)).length = b - a := by simp only [List.length_take, List.length_drop, zM h1 h2]; omega
 have hC := readCore B o g cap zs.length zs ((zs.drop (min a lo)).take (min b lo - min a lo)) ((zs.drop (max (a + (hi - lo)) hi)).take (max (b + (hi - lo)) hi - max (a + (hi - lo)) hi)) lo hi a b (min a lo) (min b lo) (max (a + (hi - lo)) hi) (max (b + (hi - lo)) hi) w h hg h1 h2 hn hc hcm (by omega) (by omega) (by omega) (by omega) (by omega) (by omega) (by omega) (by omega) (by omega) (by omega)
  (fun w' c hb' => (hz.below hb' hg).cut (Nat.lt_of_lt_of_le hg hb'.size) (by omega)) (fun w' c hb' => (hz.below hb' hg).cut (Nat.lt_of_lt_of_le hg hb'.size) (by omega))
  (by simp only [List.length_take, List.length_drop]; omega) (by simp only [List.length_take, List.length_drop]; omega)
 rw [he, hl] at hC;exact hC
theorem readNil (B o : Nat) (w : World) (h : GC w B o (.slice none 0 0) 0 0) :
  Calls Tryz.prog 195 #[.pointer (some ⟨B, o, none⟩), .int .i64 0, .int .i64 0] w fun e w' => ∃ v', e = .returned v' ∧ w'.ownsRow w.heap.size 21 1 v' 0 (ints .i32 []) ∧ Below w.heap.size w w' := by
 have HK := hide (fun w h => gapN B o (.slice none 0 0) 0 0 w h (by omega) (by omega) (by omega))
 have H := hide h;obtain ⟨c0, c1, c2⟩ := h;go_enter Tryz.func195, Tryz.ntmps195;go_wp2;go_quiet (fail);have H1 := hide (H.out.same (w' := w.drewN nq) rfl);have HB1 := hide (below_drewN (Below.refl w.heap.size w) nq);have es1 := HB1.out.size;obtain ⟨d0, d1, d2⟩ := H1.out;clear c0 c1 c2 H;generalize w.drewN nq = w1 at *;go_wp2;go_quiet ((go_at_call 139; exact Calls.quiet_of (HK.out _ (H1.out.same rfl))));have HB2 := hide (below_drewN HB1.out nq);have es2 := HB2.out.size;clear d0 d1 d2 H1 HB1 es1 HK;generalize w1.drewN nq = w2 at *;go_wp2_with fail
 have HB3 := hide (HB2.out.alloc (by omega) (.cells #[.slice none 0 0, .slice none 0 0] 25))
 have k0 : (w2.alloc (.cells #[.slice none 0 0, .slice none 0 0] 25)).cell? ⟨w2.heap.size, 0, none⟩ = some (.slice none 0 0) := by simp
 have k1 : (w2.alloc (.cells #[.slice none 0 0, .slice none 0 0] 25)).cell? ⟨w2.heap.size, 1, none⟩ = some (.slice none 0 0) := by simp
 have hs3 : (w2.alloc (.cells #[.slice none 0 0, .slice none 0 0] 25)).heap.size = w2.heap.size + 1 := by simp
 generalize w2.alloc (.cells #[.slice none 0 0, .slice none 0 0] 25) = w3 at *
 refine (Yh [] [] _ _ _ w3 (.inl ⟨rfl, rfl⟩) (.inl ⟨rfl, rfl⟩) (by omega) k0 k1 (by simp) (by simp)).mono ?_
 rintro e w4 ⟨v4, rfl, ho4, hb4⟩
 have HO4 := hide (zE ho4 (base' := w.heap.size) (by omega))
 have HB4 := hide (HB3.out.trans (hb4.mono (by omega)))
 clear ho4 hb4;go_wp2;go_ret;exact ⟨_, rfl, HO4.out, HB4.out⟩
structure GF (w : World) (B o : Nat) : Prop where
 f0 : w.frozen? ⟨B, o, none⟩ = false
 f1 : w.frozen? ⟨B, o + 1, none⟩ = false
 f2 : w.frozen? ⟨B, o + 2, none⟩ = false
theorem zK {w w' : World} {p : Addr} (h : w'.heap[p.block]? = w.heap[p.block]?) : w'.frozen? p = w.frozen? p := by
 unfold World.frozen?;rw [h]
theorem GF.same {w w' : World} {B o : Nat} (h : GF w B o) (hh : w'.heap[B]? = w.heap[B]?) : GF w' B o :=
 ⟨(zK (p := ⟨B, o, none⟩) hh).trans h.f0, (zK (p := ⟨B, o + 1, none⟩) hh).trans h.f1, (zK (p := ⟨B, o + 2, none⟩) hh).trans h.f2⟩
theorem GC.block {w w' : World} {B o : Nat} {v : Value} {lo hi : Int} (h : GC w B o v lo hi) (hh : w'.heap[B]? = w.heap[B]?) : GC w' B o v lo hi :=
 ⟨(World.cell?_of_block (w := w) (a := ⟨B, o, none⟩) hh).trans h.c0, (World.cell?_of_block (w := w) (a := ⟨B, o + 1, none⟩) hh).trans h.c1, (World.cell?_of_block (w := w) (a := ⟨B, o + 2, none⟩) hh).trans h.c2⟩
theorem Row1.trans {w w1 w2 : World} {g : Nat} {L L' : List Value} {t t' : TypeId} (h : Row1 w w1 g L t) (k : Row1 w1 w2 g L' t') : Row1 w w2 g L' t' :=
 ⟨k.row, k.os.trans h.os, k.tape.trans h.tape, k.output.trans h.output, k.size.trans h.size, fun i hi => (k.block i hi).trans (h.block i hi)⟩
theorem Row1.to {w w1 : World} {g : Nat} {L L' : List Value} {t : TypeId} (h : Row1 w w1 g L t) (e : L = L') : Row1 w w1 g L' t := e ▸ h
theorem Row1.of_drew {w w1 : World} {g : Nat} {L : List Value} {t : TypeId} (h : Row1 w.drew w1 g L t) : Row1 w w1 g L t := ⟨h.row, h.os, h.tape, h.output, h.size, h.block⟩
theorem zJ {zs cs : List Int} {sp : List Value} {off : Nat} (h : off + cs.length <= zs.length) : splice (ints .i32 zs ++ sp) off (ints .i32 cs) = ints .i32 (splice zs off cs) ++ sp := by
 unfold splice;simp only [ints, List.map_append, List.map_take, List.map_drop, List.length_map]
 rw [List.take_append_of_le_length (by simp; omega), List.drop_append_of_le_length (by simp; omega)]
 simp only [List.append_assoc]
theorem jR (n : Nat) : List.replicate n (Value.int .i32 0) = ints .i32 (List.replicate n 0) := by simp [ints]
theorem ja {w : World} {g : Nat} {zs : List Int} {sp : List Value} {t : TypeId} (h : w.heap[g]? = some (.cells (ints .i32 zs ++ sp).toArray t (0, 0))) : Cl w g zs := by
 intro i hi;rw [cell_of_row w g i _ _ _ h];simp [ints, hi, List.getElem?_append_left]
theorem zU : (Tryz.prog.info? 21).map (·.size) = some 1 := by kernel_rfl
theorem YA (w : World) : (zeroValue 21).run Tryz.prog w = .ok (.int .i32 0) w := by kernel_rfl
theorem mixed : Tryz.prog.follows .mixedOrders = true := by kernel_rfl
theorem Cl.app' {w : World} {g : Nat} {zs : List Int} (h : Cl w g zs) (p l : Nat) (hp : p + l <= zs.length) : ∀ j u, (ints .i32 ((zs.drop p).take l))[j]? = some u -> w.cell? ((⟨g, p, none⟩ : Addr).add j) = some u := by
 have := jH (k := .i32) (w := w) (b := g) (off := 0) (o := p) (l := l) (zs := zs) (fun i hi => by rw [Nat.zero_add]; exact h i hi)
 simpa using this
theorem Kw (B o g cap n : Nat) (zs : List Int) (sp : List Value) (lo hi p e m : Nat) (w : World) (h : GC w B o (.slice (some ⟨g, 0, none⟩) n cap) lo hi) (hf : GF w B o) (hr : w.heap[g]? = some (.cells (ints .i32 zs ++ sp).toArray 21 (0, 0))) (hN : zs.length = n) (hBg : B ≠ g)
  (hc : n <= cap) (h1 : lo <= hi) (h2 : hi <= n) (hn : n <= 1048576) (hp : p + (hi - lo) <= n) (ee : (p : Int) + ((hi : Int) - (lo : Int)) = e) (hlt : p < lo) (mm : min (lo : Int) (e : Int) = m) :
  Calls Tryz.prog 202 #[.pointer (some ⟨B, o, none⟩), .int .i64 p] w fun x w' => x = .returned (.tuple #[]) ∧ ∃ w1, Row1 w w1 g (ints .i32 (splice (splice zs e ((zs.drop p).take (lo - p))) p (List.replicate (m - p) 0)) ++ sp) 21 ∧ w' = (w1.setCell ⟨B, o + 1, none⟩ (.int .i64 p)).setCell ⟨B, o + 2, none⟩ (.int .i64 e) := by
 have HK := hide (gapN B o (.slice (some ⟨g, 0, none⟩) n cap) lo hi w h (by omega) (by omega) (by omega))
 have H := hide h;have HF := hide hf;have HR := hide hr;have HN := hide hN
 have hee : e = p + (hi - lo) := by omega
 have HEE := hide hee;obtain ⟨c0, c1, c2⟩ := h;clear hr hN hf hee
 have L1 := hide (show ((zs.drop p).take (lo - p)).length = lo - p by simp only [List.length_take, List.length_drop, HN.out]; omega)
 have i1 : e <= hi := by omega
 have i2 : hi <= cap := by omega
 have i3 : ¬ cap = e := by omega
 have i4 : p <= lo := by omega
 have i5 : lo <= cap := by omega
 have i6 : ¬ cap = p := by omega
 have i7 : p <= m := by omega
 have i8 : m <= cap := by omega
 go_enter Tryz.func202, Tryz.ntmps202;go_wp2_with fail;refine HK.out.mono ?_;rintro x w0 ⟨rfl, mm0, rfl⟩
 have R0 := hide (show Row1 w (w.drewN mm0) g (ints .i32 zs ++ sp) 21 from ⟨HR.out, rfl, rfl, rfl, rfl, fun _ _ => rfl⟩)
 have H0 := hide (H.out.same (w' := w.drewN mm0) rfl);have HF0 := hide (HF.out.same (w' := w.drewN mm0) rfl);obtain ⟨d0, d1, d2⟩ := H0.out;clear c0 c1 c2 H HF HR HK;generalize w.drewN mm0 = w0 at *;go_wp2_with fail;go_still_tail 20, mixed
 refine zN rfl (.tmp 24) (.tmp 34) 25 25 rfl 21 Tryz.underlying25 zU (some ⟨g, e, none⟩) (some ⟨g, p, none⟩) (hi - e) (cap - e) (lo - p) (cap - p) rfl rfl g e (ints .i32 zs ++ sp) 21 (by exact R0.out.row) (ints .i32 ((zs.drop p).take (lo - p))) (by rw [zA, L1.out]; show lo - p = min (lo - p) (hi - e); omega) (fun _ => ⟨rfl, _, rfl, (ja R0.out.row).app' p (lo - p) (by rw [HN.out]; omega)⟩) (by rw [zA, L1.out, List.length_append, zA, HN.out]; omega) (zG _ _) ?_
 intro w2 rr2
 have R2 := hide (Row1.to (R0.out.trans (Row1.of_drew rr2.out)) (zJ (by rw [L1.out, HN.out]; omega)))
 have H2 := hide (H0.out.block (w' := w2) (rr2.out.block B hBg));have HF2 := hide (HF0.out.same (w' := w2) (rr2.out.block B hBg));obtain ⟨d0, d1, d2⟩ := H2.out;clear rr2 R0 H0 HF0;go_wp2_with fail;go_still_tail 12, mixed
 refine za rfl (.tmp 47) 25 rfl 21 Tryz.underlying25 (.int .i32 0) YA rfl rfl (some ⟨g, p, none⟩) (m - p) (cap - p) rfl g p _ 21 (by exact R2.out.row) (fun _ => rfl) (by rw [List.length_append, zA, length_splice _ _ _ (by rw [L1.out, HN.out]; omega), HN.out]; omega) ?_
 intro w3 rr3;rw [jR] at rr3
 have R3 := hide (Row1.to (R2.out.trans (Row1.of_drew rr3.out)) (zJ (by rw [List.length_replicate, length_splice _ _ _ (by rw [L1.out, HN.out]; omega), HN.out]; omega)))
 have H3 := hide (H2.out.block (w' := w3) (rr3.out.block B hBg));have HF3 := hide (HF2.out.same (w' := w3) (rr3.out.block B hBg));obtain ⟨d0, d1, d2⟩ := H3.out;obtain ⟨f0, f1, f2⟩ := HF3.out;clear rr3 R2 H2 HF2;go_wp2;go_end0;exact ⟨rfl, w3, R3.out, rfl⟩
theorem zAw (B o g cap n : Nat) (zs : List Int) (sp : List Value) (lo hi p e m : Nat) (w : World) (h : GC w B o (.slice (some ⟨g, 0, none⟩) n cap) lo hi) (hf : GF w B o) (hr : w.heap[g]? = some (.cells (ints .i32 zs ++ sp).toArray 21 (0, 0))) (hN : zs.length = n) (hBg : B ≠ g)
  (hc : n <= cap) (h1 : lo <= hi) (h2 : hi <= n) (hn : n <= 1048576) (hp : p + (hi - lo) <= n) (ee : (p : Int) + ((hi : Int) - (lo : Int)) = e) (hge : lo <= p) (mm : max (hi : Int) (p : Int) = m) (q1 : ¬ cap = lo) (q2 : ¬ cap = hi) (q3 : ¬ cap = m) :
  Calls Tryz.prog 202 #[.pointer (some ⟨B, o, none⟩), .int .i64 p] w fun x w' => x = .returned (.tuple #[]) ∧ ∃ w1, Row1 w w1 g (ints .i32 (splice (splice zs lo ((zs.drop hi).take (e - hi))) m (List.replicate (e - m) 0)) ++ sp) 21 ∧ w' = (w1.setCell ⟨B, o + 1, none⟩ (.int .i64 p)).setCell ⟨B, o + 2, none⟩ (.int .i64 e) := by
 have HK := hide (gapN B o (.slice (some ⟨g, 0, none⟩) n cap) lo hi w h (by omega) (by omega) (by omega))
 have H := hide h;have HF := hide hf;have HR := hide hr;have HN := hide hN
 have hee : e = p + (hi - lo) := by omega
 have HEE := hide hee;obtain ⟨c0, c1, c2⟩ := h;clear hr hN hf hee
 have L1 := hide (show ((zs.drop hi).take (e - hi)).length = p - lo by simp only [List.length_take, List.length_drop, HN.out]; omega)
 have nlt : ¬ (p : Int) < (lo : Int) := by omega
 have i1 : lo <= p := by omega
 have i2 : p <= cap := by omega
 have i3 : hi <= e := by omega
 have i4 : e <= cap := by omega
 have i5 : m <= e := by omega
 go_enter Tryz.func202, Tryz.ntmps202;go_wp2_with fail;refine HK.out.mono ?_;rintro x w0 ⟨rfl, mm0, rfl⟩
 have R0 := hide (show Row1 w (w.drewN mm0) g (ints .i32 zs ++ sp) 21 from ⟨HR.out, rfl, rfl, rfl, rfl, fun _ _ => rfl⟩)
 have H0 := hide (H.out.same (w' := w.drewN mm0) rfl);have HF0 := hide (HF.out.same (w' := w.drewN mm0) rfl);obtain ⟨d0, d1, d2⟩ := H0.out;clear c0 c1 c2 H HF HR HK;generalize w.drewN mm0 = w0 at *;go_wp2_with fail;go_still_tail 20, mixed
 refine zN rfl (.tmp 57) (.tmp 67) 25 25 rfl 21 Tryz.underlying25 zU (some ⟨g, lo, none⟩) (some ⟨g, hi, none⟩) (p - lo) (cap - lo) (e - hi) (cap - hi) rfl rfl g lo (ints .i32 zs ++ sp) 21 (by exact R0.out.row) (ints .i32 ((zs.drop hi).take (e - hi))) (by rw [zA, L1.out]; show p - lo = min _ _; omega) (fun hpos => ⟨rfl, _, rfl, (ja R0.out.row).app' hi (e - hi) (by rw [HN.out]; omega)⟩) (by rw [zA, L1.out, List.length_append, zA, HN.out]; omega) (zG _ _) ?_
 intro w2 rr2
 have R2 := hide (Row1.to (R0.out.trans (Row1.of_drew rr2.out)) (zJ (by rw [L1.out, HN.out]; omega)))
 have H2 := hide (H0.out.block (w' := w2) (rr2.out.block B hBg));have HF2 := hide (HF0.out.same (w' := w2) (rr2.out.block B hBg));obtain ⟨d0, d1, d2⟩ := H2.out;clear rr2 R0 H0 HF0;go_wp2_with fail;go_still_tail 12, mixed
 refine za rfl (.tmp 80) 25 rfl 21 Tryz.underlying25 (.int .i32 0) YA rfl rfl (some ⟨g, m, none⟩) (e - m) (cap - m) rfl g m _ 21 (by exact R2.out.row) (fun hpos => rfl) (by rw [List.length_append, zA, length_splice _ _ _ (by rw [L1.out, HN.out]; omega), HN.out]; omega) ?_
 intro w3 rr3;rw [jR] at rr3
 have R3 := hide (Row1.to (R2.out.trans (Row1.of_drew rr3.out)) (zJ (by rw [List.length_replicate, length_splice _ _ _ (by rw [L1.out, HN.out]; omega), HN.out]; omega)))
 have H3 := hide (H2.out.block (w' := w3) (rr3.out.block B hBg));have HF3 := hide (HF2.out.same (w' := w3) (rr3.out.block B hBg));obtain ⟨d0, d1, d2⟩ := H3.out;obtain ⟨f0, f1, f2⟩ := HF3.out;clear rr3 R2 H2 HF2;go_wp2;go_end0;exact ⟨rfl, w3, R3.out, rfl⟩
end Go.Proofs.YtbgngikejgihgafGreatDoor

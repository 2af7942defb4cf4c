import Derived.Test.YtbgngikejgihgafGreatDoorMq16
import Derived.Laws.CopyOwn
namespace Go.Proofs.YtbgngikejgihgafGreatDoor
open Go Go.RowKit
set_option linter.unusedVariables false
set_option maxRecDepth 100000
set_option maxHeartbeats 8000000
def o32 (w : World) (base : Nat) (v : Value) (zs : List Int) : Prop := w.ownsRow base 21 1 v zs.length (ints .i32 zs)
def o64 (w : World) (base : Nat) (v : Value) (zs : List Int) : Prop := w.ownsRow base 3 1 v zs.length (ints .i64 zs)
theorem zn {w : World} {base : Nat} {v : Value} {zs : List Int} (h : o32 w base v zs) : ∃ ao cap, v = .slice ao zs.length cap := by
 rcases h.2 with ⟨rfl, h0⟩ | ⟨g, cap, cur, rfl, _⟩
 ·exact ⟨none, 0, by rw [h0]⟩
 ·exact ⟨_, _, rfl⟩
theorem yS {w : World} {base : Nat} {v : Value} {zs : List Int} (h : o64 w base v zs) : ∃ ao cap, v = .slice ao zs.length cap := by
 rcases h.2 with ⟨rfl, h0⟩ | ⟨g, cap, cur, rfl, _⟩
 ·exact ⟨none, 0, by rw [h0]⟩
 ·exact ⟨_, _, rfl⟩
def bel (hi : Nat) (v : Value) : Prop := ∀ q, v.ownBlock = some q -> q < hi
theorem yh {hi hi' : Nat} {v : Value} (h : bel hi v) (hh : hi <= hi') : bel hi' v := fun q hq => Nat.lt_of_lt_of_le (h q hq) hh
theorem Xc (hi : Nat) : bel hi (.slice none 0 0) := fun q hq => by simp [Value.ownBlock] at hq
theorem ju {w w' : World} {lo hi : Nat} {e : TypeId} {size : Nat} {v : Value} {n : Nat} {xs : List Value} (h : w.ownsRow lo e size v n xs) (hb : bel hi v) (hf : ∀ q, lo <= q -> q < hi -> w'.heap[q]? = w.heap[q]?) : w'.ownsRow lo e size v n xs :=
 zC h (fun q hq => hf q (h.lt q hq).1 (hb q hq))
theorem owns_one {w : World} {lo : Nat} {e : TypeId} {size : Nat} {v : Value} {n : Nat} {xs : List Value} (h : w.ownsRow lo e size v n xs) : v.oneCell' = true := by
 rcases h.2 with ⟨rfl, _⟩ | ⟨g, cap, cur, rfl, _⟩ <;> rfl
structure Gr where
 cells : List Int
 lo : Int
 hi : Int
def plG (l : List Int) : Gr := ⟨l, l.length, l.length⟩
def grVs : List Value -> List Gr -> List Value
 | v :: vs, g :: gs => v :: .int .i64 g.lo :: .int .i64 g.hi :: grVs vs gs
 | _, _ => []
theorem yZ {vs : List Value} {gs : List Gr} (h : vs.length = gs.length) : (grVs vs gs).length = gs.length * 3 := by
 induction vs generalizing gs with
 | nil => cases gs <;> simp_all [grVs]
 | cons v vs ih =>
  cases gs with
  | nil => simp at h
  | cons g gs => simp only [grVs, List.length_cons] at *; rw [ih (by omega)]; omega
theorem yx {vs : List Value} {gs : List Gr} {i k : Nat} {v : Value} {g : Gr} (hv : vs[i]? = some v) (hg : gs[i]? = some g) (hk : k < 3) : (grVs vs gs)[i * 3 + k]? = [v, .int .i64 g.lo, .int .i64 g.hi][k]? := by
 induction i generalizing vs gs with
 | zero =>
  cases vs with
  | nil => simp at hv
  | cons x vs =>
   cases gs with
   | nil => simp at hg
   | cons y gs =>
    simp at hv hg;subst hv hg
    match k, hk with
    | 0, _ => rfl
    | 1, _ => rfl
    | 2, _ => rfl
 | succ i ih =>
  cases vs with
  | nil => simp at hv
  | cons x vs =>
   cases gs with
   | nil => simp at hg
   | cons y gs =>
    simp at hv hg;have := ih hv hg
    rw [<- this, show (i + 1) * 3 + k = (i * 3 + k) + 1 + 1 + 1 by omega]
    simp only [grVs, List.getElem?_cons_succ]
theorem ZS {vs us : List Value} {gs hs : List Gr} (h : vs.length = gs.length) : grVs (vs ++ us) (gs ++ hs) = grVs vs gs ++ grVs us hs := by
 induction vs generalizing gs with
 | nil => cases gs <;> simp_all [grVs]
 | cons v vs ih =>
  cases gs with
  | nil => simp at h
  | cons g gs => simp only [List.cons_append, grVs]; rw [ih (by simpa using h)]
theorem grVs_one {vs : List Value} {gs : List Gr} (h : ∀ v ∈ vs, v.oneCell' = true) : ∀ u ∈ grVs vs gs, u.oneCell' = true := by
 induction vs generalizing gs with
 | nil => intro u hu; cases gs <;> simp [grVs] at hu
 | cons v vs ih =>
  cases gs with
  | nil => intro u hu; simp [grVs] at hu
  | cons g gs =>
   intro u hu;simp only [grVs, List.mem_cons] at hu
   rcases hu with rfl | rfl | rfl | hu
   ·exact h _ (by simp)
   ·rfl
   ·rfl
   ·exact ih (fun x hx => h x (by simp [hx])) u hu
theorem grVs_set {vs us : List Value} {gs hs : List Gr} {v u : Value} {g g' : Gr} (h : vs.length = gs.length) : (((grVs (vs ++ v :: us) (gs ++ g :: hs)).set (gs.length * 3) u).set (gs.length * 3 + 1) (.int .i64 g'.lo)).set (gs.length * 3 + 2) (.int .i64 g'.hi) = grVs (vs ++ u :: us) (gs ++ g' :: hs) := by
 rw [ZS h, ZS h];have e := yZ h;rw [<- e]
 rw [List.set_append_right _ _ (by omega), List.set_append_right _ _ (by omega), List.set_append_right _ _ (by omega)]
 simp [grVs]
structure Nest (w : World) (lo hi : Nat) (vs : List Value) (ls : List (List Int)) : Prop where
 len : vs.length = ls.length
 own : ∀ (i : Nat) v l, vs[i]? = some v -> ls[i]? = some l -> o32 w lo v l
 bl : ∀ v ∈ vs, bel hi v
 ne : ∀ (i j : Nat) u v q, i ≠ j -> vs[i]? = some u -> vs[j]? = some v -> u.ownBlock = some q -> v.ownBlock ≠ some q
theorem Nest.frame {w w' : World} {lo hi : Nat} {vs : List Value} {ls : List (List Int)} (h : Nest w lo hi vs ls) (hf : ∀ q, lo <= q -> q < hi -> w'.heap[q]? = w.heap[q]?) : Nest w' lo hi vs ls :=
 ⟨h.len, fun i v l hv hl => ju (h.own i v l hv hl) (h.bl v (List.mem_of_getElem? hv)) hf, h.bl, h.ne⟩
theorem Nest.mono {w : World} {lo hi lo' hi' : Nat} {vs : List Value} {ls : List (List Int)} (h : Nest w lo hi vs ls) (hl : lo' <= lo) (hh : hi <= hi') : Nest w lo' hi' vs ls :=
 ⟨h.len, fun i v l hv hl' => zE (h.own i v l hv hl') hl, fun v hv => yh (h.bl v hv) hh, h.ne⟩
theorem Nest.one {w : World} {lo hi : Nat} {vs : List Value} {ls : List (List Int)} (h : Nest w lo hi vs ls) : ∀ v ∈ vs, v.oneCell' = true := by
 intro v hv;obtain ⟨i, hi, rfl⟩ := List.getElem_of_mem hv
 have hl : i < ls.length := by rw [<- h.len]; exact hi
 exact owns_one (h.own i _ ls[i] (by simp [hi]) (by simp [hl]))
structure OwG (t : TypeId) (w : World) (lo hi : Nat) (v : Value) (vs : List Value) (gs : List Gr) : Prop where
 row : w.ownsRow lo t 3 v gs.length (grVs vs gs)
 bl : bel hi v
 nest : Nest w lo hi vs (gs.map Gr.cells)
theorem OwG.len {t : TypeId} {w : World} {lo hi : Nat} {v : Value} {vs : List Value} {gs : List Gr} (h : OwG t w lo hi v vs gs) : vs.length = gs.length := by have := h.nest.len; simpa using this
theorem OwG.frame {t : TypeId} {w w' : World} {lo hi : Nat} {v : Value} {vs : List Value} {gs : List Gr} (h : OwG t w lo hi v vs gs) (hf : ∀ q, lo <= q -> q < hi -> w'.heap[q]? = w.heap[q]?) : OwG t w' lo hi v vs gs :=
 ⟨ju h.row h.bl hf, h.bl, h.nest.frame hf⟩
theorem OwG.mono {t : TypeId} {w : World} {lo hi lo' hi' : Nat} {v : Value} {vs : List Value} {gs : List Gr} (h : OwG t w lo hi v vs gs) (hl : lo' <= lo) (hh : hi <= hi') : OwG t w lo' hi' v vs gs :=
 ⟨zE h.row hl, yh h.bl hh, h.nest.mono hl hh⟩
theorem OwG.val {t : TypeId} {w : World} {lo hi : Nat} {v : Value} {vs : List Value} {gs : List Gr} (h : OwG t w lo hi v vs gs) : ∃ ao cap, v = .slice ao gs.length cap := by
 rcases h.row.2 with ⟨rfl, h0⟩ | ⟨g, cap, cur, rfl, _⟩
 ·exact ⟨none, 0, by rw [h0]⟩
 ·exact ⟨_, _, rfl⟩
theorem OwG.cells {t : TypeId} {w : World} {lo hi : Nat} {g cap n : Nat} {vs : List Value} {gs : List Gr} (h : OwG t w lo hi (.slice (some ⟨g, 0, none⟩) n cap) vs gs) (hn : gs.length = n) {i : Nat} {x : Gr} {u : Value} (hx : gs[i]? = some x) (hu : vs[i]? = some u) :
  w.cell? ⟨g, i * 3, none⟩ = some u ∧ w.cell? ⟨g, i * 3 + 1, none⟩ = some (.int .i64 x.lo) ∧ w.cell? ⟨g, i * 3 + 2, none⟩ = some (.int .i64 x.hi) := by
 have hi : i < gs.length := (List.getElem?_eq_some_iff.1 hx).1;have hr := h.row;rw [hn] at hr hi;refine ⟨?_, ?_, ?_⟩
 ·have := hr.cellAt (i * 3 + 0) (by omega); rw [yx hu hx (by omega)] at this; exact this
 ·have := hr.cellAt (i * 3 + 1) (by omega); rw [yx hu hx (by omega)] at this; exact this
 ·have := hr.cellAt (i * 3 + 2) (by omega); rw [yx hu hx (by omega)] at this; exact this
theorem OwG.inner {t : TypeId} {w : World} {lo hi : Nat} {v : Value} {vs : List Value} {gs : List Gr} (h : OwG t w lo hi v vs gs) {i : Nat} {x : Gr} {u : Value} (hx : gs[i]? = some x) (hu : vs[i]? = some u) : o32 w lo u x.cells :=
 h.nest.own i u x.cells hu (by simp [hx])
theorem OwG.get {t : TypeId} {w : World} {lo hi : Nat} {v : Value} {vs : List Value} {gs : List Gr} (h : OwG t w lo hi v vs gs) {i : Nat} (hi : i < gs.length) : ∃ x u, gs[i]? = some x ∧ vs[i]? = some u :=
 ⟨gs[i], vs[i]'(by rw [h.len]; exact hi), by simp [hi], by simp [h.len, hi]⟩
structure OwL (w : World) (lo hi : Nat) (vr vt : Value) (gs : List Gr) (st : List Int) : Prop where
 rows : ∃ vs, OwG 92 w lo hi vr vs gs
 starts : o64 w lo vt st
 bl : bel hi vt
theorem OwL.frame {w w' : World} {lo hi : Nat} {vr vt : Value} {gs : List Gr} {st : List Int} (h : OwL w lo hi vr vt gs st) (hf : ∀ q, lo <= q -> q < hi -> w'.heap[q]? = w.heap[q]?) : OwL w' lo hi vr vt gs st := by
 obtain ⟨vs, h1⟩ := h.rows;exact ⟨⟨vs, h1.frame hf⟩, ju h.starts h.bl hf, h.bl⟩
theorem OwL.below {w w' : World} {lo hi : Nat} {vr vt : Value} {gs : List Gr} {st : List Int} (h : OwL w lo hi vr vt gs st) {B : Nat} (hb : Below B w w') (hh : hi <= B) : OwL w' lo hi vr vt gs st :=
 h.frame (fun q _ hq => hb.block q (by omega))
theorem OwL.mono {w : World} {lo hi lo' hi' : Nat} {vr vt : Value} {gs : List Gr} {st : List Int} (h : OwL w lo hi vr vt gs st) (hl : lo' <= lo) (hh : hi <= hi') : OwL w lo' hi' vr vt gs st := by
 obtain ⟨vs, h1⟩ := h.rows;exact ⟨⟨vs, h1.mono hl hh⟩, zE h.starts hl, yh h.bl hh⟩
theorem OwL.val {w : World} {lo hi : Nat} {vr vt : Value} {gs : List Gr} {st : List Int} (h : OwL w lo hi vr vt gs st) : ∃ a c a' c', vr = .slice a gs.length c ∧ vt = .slice a' st.length c' := by
 obtain ⟨vs, h1⟩ := h.rows;obtain ⟨a, c, e1⟩ := h1.val;obtain ⟨a', c', e2⟩ := yS h.starts;exact ⟨a, c, a', c', e1, e2⟩
def Q3 (w : World) (b : Nat) (x y z : Value) (t : TypeId) : Prop := w.heap[b]? = some (.cells #[x, y, z] t (0, 0))
theorem Q3.c {w : World} {b : Nat} {x y z : Value} {t : TypeId} (h : Q3 w b x y z t) : w.cell? ⟨b, 0, none⟩ = some x ∧ w.cell? ⟨b, 1, none⟩ = some y ∧ w.cell? ⟨b, 2, none⟩ = some z := by
 refine ⟨?_, ?_, ?_⟩ <;> rw [cell_of_row w b _ _ _ _ h] <;> rfl
theorem Q3.below {B : Nat} {w w' : World} {b : Nat} {x y z : Value} {t : TypeId} (h : Q3 w b x y z t) (hb : Below B w w') (hB : b < B) : Q3 w' b x y z t := (hb.block b hB).trans h
theorem Q3.new (w : World) (x y z : Value) (t : TypeId) : Q3 (w.alloc (.cells #[x, y, z] t)) w.heap.size x y z t := heap_alloc_new w (.cells #[x, y, z] t)
theorem zO {w : World} {B B' e e' size size' n n' q : Nat} {v v' : Value} {xs xs' : List Value} (h : w.ownsRow B e size v n xs) (h' : w.ownsRow B' e' size' v' n' xs') (hne : e ≠ e') (hq : v.ownBlock = some q) : v'.ownBlock ≠ some q := by
 intro hq'
 rcases h.2 with ⟨rfl, _⟩ | ⟨g, cap, cur, rfl, _, hgb, _⟩
 ·simp [Value.ownBlock] at hq
 ·simp only [Value.ownBlock, Option.some.injEq] at hq
  subst hq
  rcases h'.2 with ⟨rfl, _⟩ | ⟨g', cap', cur', rfl, _, hgb', _⟩
  ·simp [Value.ownBlock] at hq'
  ·simp only [Value.ownBlock, Option.some.injEq] at hq'
   subst hq';rw [hgb] at hgb';simp only [Option.some.injEq] at hgb'
   injection hgb' with _ h2 _
   exact hne h2
theorem ZT {w w' : World} {B B' e e' size size' n n' : Nat} {v v' : Value} {xs xs' : List Value} (h : w.ownsRow B e size v n xs) (h' : w.ownsRow B' e' size' v' n' xs') (hne : e ≠ e') (hg : w.grownBy w' v'.ownBlock) : w'.ownsRow B e size v n xs :=
 zC h (fun q hq => hg.block q (h.lt q hq).2 (fun eq => zO h h' hne hq eq.symm))
theorem OwG.kept {t : TypeId} {w w' : World} {lo hi B' e' size' n' : Nat} {v v' : Value} {vs : List Value} {gs : List Gr} {xs' : List Value} (h : OwG t w lo hi v vs gs) (h' : w.ownsRow B' e' size' v' n' xs') (h1 : t ≠ e') (h2 : 21 ≠ e') (hg : w.grownBy w' v'.ownBlock) : OwG t w' lo hi v vs gs :=
 ⟨ZT h.row h' h1 hg, h.bl, ⟨h.nest.len, fun i u l hu hl => ZT (h.nest.own i u l hu hl) h' h2 hg, h.nest.bl, h.nest.ne⟩⟩
theorem zk {α : Type} {a b : List α} {x : α} {j : Nat} (h : a.length = j) : (a ++ x :: b)[j]? = some x := by
 subst h; simp
def D2 (w : World) (b : Nat) (x y : Value) (t : TypeId) : Prop := w.heap[b]? = some (.cells #[x, y] t (0, 0))
theorem D2.c {w : World} {b : Nat} {x y : Value} {t : TypeId} (h : D2 w b x y t) : w.cell? ⟨b, 0, none⟩ = some x ∧ w.cell? ⟨b, 1, none⟩ = some y := by
 refine ⟨?_, ?_⟩ <;> rw [cell_of_row w b _ _ _ _ h] <;> rfl
theorem D2.fz {w : World} {b : Nat} {x y : Value} {t : TypeId} (h : D2 w b x y t) (j : Nat) : w.frozen? ⟨b, j, none⟩ = false := frozen_of_row w b j _ _ h
theorem D2.lt {w : World} {b : Nat} {x y : Value} {t : TypeId} (h : D2 w b x y t) : b < w.heap.size := (Array.getElem?_eq_some_iff.1 h).1
theorem D2.below {B : Nat} {w w' : World} {b : Nat} {x y : Value} {t : TypeId} (h : D2 w b x y t) (hb : Below B w w') (hB : b < B) : D2 w' b x y t := (hb.block b hB).trans h
theorem D2.new (w : World) (x y : Value) (t : TypeId) : D2 (w.alloc (.cells #[x, y] t)) w.heap.size x y t := heap_alloc_new w (.cells #[x, y] t)
theorem ZU (a b : List Int) (i : Nat) : (a ++ b).getD i 0 = if i < a.length then a.getD i 0 else b.getD (i - a.length) 0 := by
 simp only [List.getD_eq_getElem?_getD, List.getElem?_append]
 split <;> rfl
theorem yu (a : List Int) (n i : Nat) : (a.take n).getD i 0 = if i < n then a.getD i 0 else 0 := by
 simp only [List.getD_eq_getElem?_getD, List.getElem?_take]
 split <;> rfl
theorem yv (a : List Int) (n i : Nat) : (a.drop n).getD i 0 = a.getD (n + i) 0 := by
 simp only [List.getD_eq_getElem?_getD, List.getElem?_drop]
theorem Yb (n i : Nat) : (List.replicate n (0 : Int)).getD i 0 = 0 := by
 simp only [List.getD_eq_getElem?_getD, List.getElem?_replicate]
 split <;> rfl
theorem Yc {a b : List Int} (hl : a.length = b.length) (h : ∀ i, i < a.length -> a.getD i 0 = b.getD i 0) : a = b := by
 apply List.ext_getElem hl;intro i h1 h2;have := h i h1;simpa [List.getD_eq_getElem?_getD, h1, h2] using this
def gtext (zs : List Int) (lo hi : Nat) : List Int := zs.take lo ++ zs.drop hi
def glay (xs : List Int) (p n : Nat) : List Int := xs.take p ++ (List.replicate (n - xs.length) 0 ++ xs.drop p)
structure GV (zs : List Int) (lo hi : Nat) : Prop where
 a : lo <= hi
 b : hi <= zs.length
 z : ∀ i, lo <= i -> i < hi -> zs.getD i 0 = 0
 c : zs.length <= 65536
 t : zs.length - (hi - lo) <= 8192
theorem zM {zs : List Int} {lo hi : Nat} (h1 : lo <= hi) (h2 : hi <= zs.length) : (gtext zs lo hi).length = zs.length - (hi - lo) := by
 simp only [gtext, List.length_append, List.length_take, List.length_drop]; omega
theorem zT {xs : List Int} {p n : Nat} (h1 : p <= xs.length) (h2 : xs.length <= n) : (glay xs p n).length = n := by
 simp only [glay, List.length_append, List.length_take, List.length_drop, List.length_replicate]; omega
theorem gread {zs : List Int} {lo hi a b : Nat} (h1 : lo <= hi) (h2 : hi <= zs.length) (ha : a <= b) (hb : b <= (gtext zs lo hi).length) :
  (zs.drop (min a lo)).take (min b lo - min a lo) ++ (zs.drop (max (a + (hi - lo)) hi)).take (max (b + (hi - lo)) hi - max (a + (hi - lo)) hi) = ((gtext zs lo hi).drop a).take (b - a) := by
 rw [zM h1 h2] at hb;have hL : (gtext zs lo hi).length = zs.length - (hi - lo) := zM h1 h2;apply Yc
 ·simp only [List.length_append, List.length_take, List.length_drop, hL]; omega
 ·intro i hi'
  simp only [List.length_append, List.length_take, List.length_drop] at hi';simp only [ZU, yu, yv, gtext, List.length_take, List.length_drop]
  repeat' split
  all_goals first
   | omega
   | (congr 1; omega)
theorem ya (L : List Int) (off : Nat) (cs : List Int) (i : Nat) (h : off + cs.length <= L.length) : (splice L off cs).getD i 0 = if i < off then L.getD i 0 else if i < off + cs.length then cs.getD (i - off) 0 else L.getD i 0 := by
 simp only [splice, ZU, yu, yv, List.length_take]
 repeat' split
 all_goals first
  | omega
  | rfl
  | (congr 1; omega)
theorem zAd {zs : List Int} {lo hi p : Nat} (h : GV zs lo hi) (hp : p < lo) :
  splice (splice zs (p + (hi - lo)) ((zs.drop p).take (lo - p))) p (List.replicate (min lo (p + (hi - lo)) - p) 0) = glay (gtext zs lo hi) p zs.length := by
 have h1 := h.a;have h2 := h.b
 have e0 : ((zs.drop p).take (lo - p)).length = lo - p := by simp only [List.length_take, List.length_drop]; omega
 have e1 : (splice zs (p + (hi - lo)) ((zs.drop p).take (lo - p))).length = zs.length := length_splice _ _ _ (by rw [e0]; omega)
 have hL : (gtext zs lo hi).length = zs.length - (hi - lo) := zM h1 h2
 have e2 : (splice (splice zs (p + (hi - lo)) ((zs.drop p).take (lo - p))) p (List.replicate (min lo (p + (hi - lo)) - p) 0)).length = zs.length := by
  rw [length_splice _ _ _ (by rw [e1, List.length_replicate]; omega), e1]
 apply Yc
 ·rw [e2, zT (by omega) (by omega)]
 ·intro i hi'
  rw [e2] at hi'
  rw [ya _ _ _ _ (by rw [e1, List.length_replicate]; omega), ya _ _ _ _ (by rw [e0]; omega)]
  simp only [glay, ZU, yu, yv, Yb, gtext, List.length_take, List.length_drop, List.length_replicate, List.length_append]
  repeat' split
  all_goals first
   | omega
   | rfl
   | (congr 1; omega)
   | (apply h.z <;> omega)
   | (symm; apply h.z <;> omega)
theorem gmove_up {zs : List Int} {lo hi p : Nat} (h : GV zs lo hi) (hp : lo <= p) (hq : p + (hi - lo) <= zs.length) :
  splice (splice zs lo ((zs.drop hi).take (p + (hi - lo) - hi))) (max hi p) (List.replicate (p + (hi - lo) - max hi p) 0) = glay (gtext zs lo hi) p zs.length := by
 have h1 := h.a;have h2 := h.b
 have e0 : ((zs.drop hi).take (p + (hi - lo) - hi)).length = p - lo := by simp only [List.length_take, List.length_drop]; omega
 have e1 : (splice zs lo ((zs.drop hi).take (p + (hi - lo) - hi))).length = zs.length := length_splice _ _ _ (by rw [e0]; omega)
 have hL : (gtext zs lo hi).length = zs.length - (hi - lo) := zM h1 h2
 have e2 : (splice (splice zs lo ((zs.drop hi).take (p + (hi - lo) - hi))) (max hi p) (List.replicate (p + (hi - lo) - max hi p) 0)).length = zs.length := by
  rw [length_splice _ _ _ (by rw [e1, List.length_replicate]; omega), e1]
 apply Yc
 ·rw [e2, zT (by omega) (by omega)]
 ·intro i hi'
  rw [e2] at hi'
  rw [ya _ _ _ _ (by rw [e1, List.length_replicate]; omega), ya _ _ _ _ (by rw [e0]; omega)]
  simp only [glay, ZU, yu, yv, Yb, gtext, List.length_take, List.length_drop, List.length_replicate, List.length_append]
  repeat' split
  all_goals first
   | omega
   | rfl
   | (congr 1; omega)
   | (apply h.z <;> omega)
   | (symm; apply h.z <;> omega)
theorem ggrow {zs : List Int} {lo hi n : Nat} (h1 : lo <= hi) (h2 : hi <= zs.length) (hn : zs.length <= n) :
  splice (splice (List.replicate n 0) 0 (zs.take lo)) (n - (zs.length - hi)) (zs.drop hi) = glay (gtext zs lo hi) lo n := by
 have e0 : (splice (List.replicate n (0 : Int)) 0 (zs.take lo)).length = n := by
  rw [length_splice _ _ _ (by simp only [List.length_take, List.length_replicate]; omega), List.length_replicate]
 have hL : (gtext zs lo hi).length = zs.length - (hi - lo) := zM h1 h2
 have e2 : (splice (splice (List.replicate n 0) 0 (zs.take lo)) (n - (zs.length - hi)) (zs.drop hi)).length = n := by
  rw [length_splice _ _ _ (by rw [e0, List.length_drop]; omega), e0]
 apply Yc
 ·rw [e2, zT (by omega) (by omega)]
 ·intro i hi'
  rw [e2] at hi'
  rw [ya _ _ _ _ (by rw [e0, List.length_drop]; omega), ya _ _ _ _ (by simp only [List.length_take, List.length_replicate]; omega)]
  simp only [glay, ZU, yu, yv, Yb, gtext, List.length_take, List.length_drop, List.length_replicate, List.length_append]
  repeat' split
  all_goals first
   | omega
   | rfl
   | (congr 1; omega)
theorem jv {xs : List Int} {p n : Nat} (h1 : p <= xs.length) (h2 : xs.length <= n) (h3 : n <= 65536) (h4 : xs.length <= 8192) : GV (glay xs p n) p (p + (n - xs.length)) := by
 refine ⟨by omega, by rw [zT h1 h2]; omega, fun i a b => ?_, by rw [zT h1 h2]; exact h3, by rw [zT h1 h2]; omega⟩
 simp only [glay, ZU, yu, yv, Yb, List.length_take, List.length_replicate]
 repeat' split
 all_goals first | omega | rfl
theorem Zc {xs : List Int} {p n : Nat} (h1 : p <= xs.length) (h2 : xs.length <= n) : gtext (glay xs p n) p (p + (n - xs.length)) = xs := by
 unfold gtext
 rw [glay, List.take_append_of_le_length (by simp only [List.length_take]; omega), List.take_of_length_le (by simp only [List.length_take]; omega)]
 rw [<- List.append_assoc, List.drop_append_of_le_length (by simp only [List.length_append, List.length_take, List.length_replicate]; omega), List.drop_of_length_le (by simp only [List.length_append, List.length_take, List.length_replicate]; omega), List.nil_append, List.take_append_drop]
theorem glay_put {xs ts : List Int} {p n : Nat} (h1 : p <= xs.length) (h2 : xs.length + ts.length <= n) :
  splice (glay xs p n) p ts = glay (xs.take p ++ (ts ++ xs.drop p)) (p + ts.length) n := by
 have e0 : (glay xs p n).length = n := zT h1 (by omega)
 have e1 : (xs.take p ++ (ts ++ xs.drop p)).length = xs.length + ts.length := by simp only [List.length_append, List.length_take, List.length_drop]; omega
 apply Yc
 ·rw [length_splice _ _ _ (by omega), e0, zT (by omega) (by omega)]
 ·intro i hi
  rw [length_splice _ _ _ (by omega), e0] at hi
  rw [ya _ _ _ _ (by omega)]
  simp only [glay, ZU, yu, yv, Yb, List.length_take, List.length_drop, List.length_replicate, List.length_append]
  repeat' split
  all_goals first
   | omega
   | rfl
   | (congr 1; omega)
theorem glay_cut {xs : List Int} {p q n : Nat} (h1 : p <= q) (h2 : q <= xs.length) (h3 : xs.length <= n) :
  splice (glay xs p n) (p + (n - xs.length)) (List.replicate (q - p) 0) = glay (xs.take p ++ xs.drop q) p n := by
 have e0 : (glay xs p n).length = n := zT (by omega) (by omega)
 have e1 : (xs.take p ++ xs.drop q).length = xs.length - (q - p) := by simp only [List.length_append, List.length_take, List.length_drop]; omega
 apply Yc
 ·rw [length_splice _ _ _ (by rw [List.length_replicate]; omega), e0, zT (by omega) (by omega)]
 ·intro i hi
  rw [length_splice _ _ _ (by rw [List.length_replicate]; omega), e0] at hi
  rw [ya _ _ _ _ (by rw [List.length_replicate]; omega)]
  simp only [glay, ZU, yu, yv, Yb, List.length_take, List.length_drop, List.length_replicate, List.length_append]
  repeat' split
  all_goals first
   | omega
   | rfl
   | (congr 1; omega)
inductive Dbl (m : Nat) : Nat -> Nat -> Prop
 | stop (c : Nat) (h : m <= c) : Dbl m c c
 | more (c r : Nat) (h : c < m) (k : Dbl m (c * 2) r) : Dbl m c r
theorem dbl_ex (m : Nat) : ∀ k c : Nat, 1 <= c -> m - c <= k -> ∃ r, Dbl m c r := by
 intro k
 induction k with
 | zero => intro c h1 h2; exact ⟨c, .stop c (by omega)⟩
 | succ k ih =>
  intro c h1 h2
  by_cases h : c < m
  ·obtain ⟨r, hr⟩ := ih (c * 2) (by omega) (by omega)
   exact ⟨r, .more c r h hr⟩
  ·exact ⟨c, .stop c (by omega)⟩
theorem jA {m c r : Nat} (h : Dbl m c r) : c <= r ∧ m <= r ∧ (r = c ∨ r < 2 * m) := by
 induction h with
 | stop c h => exact ⟨lR, h, .inl rfl⟩
 | more c r h k ih => refine ⟨by omega, ih.2.1, .inr ?_⟩; rcases ih.2.2 with e | e <;> omega
def bdP (n : Nat) (lo hi : Int) : Prop := (n : Int) <= 65536 ∧ (0 <= hi ∧ hi <= n) ∧ (0 <= lo ∧ lo <= hi) ∧ n - (hi - lo) <= 8192
def gkP (zs : List Int) (lo hi : Int) : Prop := bdP zs.length lo hi ∧ ∀ i : Nat, lo <= i -> (i : Int) < hi -> zs.getD i 0 = 0
def grT (g : Gr) : List Int := gtext g.cells g.lo.toNat g.hi.toNat
def okG (g : Gr) : Prop := gkP g.cells g.lo g.hi ∧ 10 ∉ grT g
theorem jG {g : Gr} (h : gkP g.cells g.lo g.hi) : ((grT g).length : Int) = g.cells.length - (g.hi - g.lo) ∧ (grT g).length <= 8192 ∧ g.cells.length <= 65536 := by
 obtain ⟨⟨h1, ⟨h2, h3⟩, ⟨h4, h5⟩, h6⟩, _⟩ := h
 have := zM (zs := g.cells) (lo := g.lo.toNat) (hi := g.hi.toNat) (by omega) (by omega)
 unfold grT;omega
theorem gd_mem {zs : List Int} {z : Int} : z ∈ zs ↔ ∃ i, i < zs.length ∧ zs.getD i 0 = z := by
 constructor
 ·intro h
  obtain ⟨i, hi, rfl⟩ := List.getElem_of_mem h
  exact ⟨i, hi, by simp [List.getD_eq_getElem?_getD, hi]⟩
 ·rintro ⟨i, hi, rfl⟩
  simp [List.getD_eq_getElem?_getD, hi]
theorem zCt {g : Gr} (h : gkP g.cells g.lo g.hi) : 10 ∈ g.cells ↔ 10 ∈ grT g := by
 obtain ⟨⟨h1, ⟨h2, h3⟩, ⟨h4, h5⟩, h6⟩, hz⟩ := h;constructor
 ·intro hm
  obtain ⟨i, hi, he⟩ := gd_mem.1 hm;unfold grT gtext;rw [List.mem_append]
  by_cases a : i < g.lo.toNat
  ·left
   rw [gd_mem]
   exact ⟨i, by rw [List.length_take]; omega, by rw [yu, if_pos a]; exact he⟩
  ·by_cases b : g.hi.toNat <= i
   ·right
    rw [gd_mem]
    exact ⟨i - g.hi.toNat, by rw [List.length_drop]; omega, by rw [yv, show g.hi.toNat + (i - g.hi.toNat) = i by omega]; exact he⟩
   ·have := hz i (by omega) (by omega)
    rw [he] at this
    exact absurd this (by decide)
 ·intro hm
  unfold grT gtext at hm
  rcases List.mem_append.1 hm with q | q
  ·exact List.mem_of_mem_take q
  ·exact List.mem_of_mem_drop q
def jt : List (List Int) -> List Int
 | [] => []
 | l :: ls => 10 :: (l ++ jt ls)
def jn : List (List Int) -> List Int
 | [] => []
 | l :: ls => l ++ jt ls
theorem jt_snoc (ls : List (List Int)) (l : List Int) : jt (ls ++ [l]) = jt ls ++ 10 :: l := by
 induction ls with
 | nil => simp [jt]
 | cons a ls ih => simp [jt, ih]
theorem zBu {ls : List (List Int)} (h : ls ≠ []) (l : List Int) : jn (ls ++ [l]) = jn ls ++ 10 :: l := by
 cases ls with
 | nil => exact absurd rfl h
 | cons a ls => simp [jn, jt_snoc]
theorem jt_len (ls : List (List Int)) : (jt ls).length = smL ls + ls.length := by
 induction ls with
 | nil => rfl
 | cons a ls ih => simp only [jt, smL, List.length_cons, List.length_append, ih]; omega
theorem yH {ls : List (List Int)} (h : ls ≠ []) : (jn ls).length + 1 = smL ls + ls.length := by
 cases ls with
 | nil => exact absurd rfl h
 | cons a ls => simp only [jn, smL, List.length_cons, List.length_append, jt_len]; omega
theorem yA {ls : List (List Int)} {i : Nat} {l : List Int} (h : ls[i]? = some l) : smL (ls.take (i + 1)) = smL (ls.take i) + l.length := by
 rw [List.take_add_one, h, zBs];simp [smL]
theorem zm (ls : List (List Int)) (i : Nat) : smL (ls.take i) <= smL ls := by
 have := zBs (ls.take i) (ls.drop i);rw [List.take_append_drop] at this;omega
def stL (ls : List (List Int)) : List Int := (List.range ls.length).map fun i : Nat => ((smL (ls.take i) + i : Nat) : Int)
theorem zr (ls : List (List Int)) : (stL ls).length = ls.length := by simp [stL]
theorem Xd {ls : List (List Int)} {i : Nat} (h : i < ls.length) : (stL ls)[i]? = some ((smL (ls.take i) + i : Nat) : Int) := by simp [stL, h]
theorem YM {ls : List (List Int)} {i : Nat} (h : i < ls.length) : (stL ls).getD i 0 = ((smL (ls.take i) + i : Nat) : Int) := by simp [stL, List.getD_eq_getElem?_getD, h]
theorem yw {ls : List (List Int)} {i : Nat} (h : i < ls.length) : (stL ls).take (i + 1) = (stL ls).take i ++ [((smL (ls.take i) + i : Nat) : Int)] := by
 rw [List.take_add_one, Xd h]; rfl
def LV (gs : List Gr) (st : List Int) : Prop := (1 <= gs.length ∧ gs.length <= 8193 ∧ 1 <= st.length ∧ st.length <= gs.length) ∧ (∀ g ∈ gs, okG g) ∧ (jn (gs.map grT)).length <= 8192 ∧ st = (stL (gs.map grT)).take st.length
theorem Xe (zs : List Int) (t : Nat) : ls zs (t + 1) = bb zs t := by simp [ls]
theorem zAe (zs : List Int) (n : Nat) (h : n < bkn zs) : 0 < bb zs n := (ZG zs 0 n h).1 (by simp [bkn])
theorem bkn_ls (zs : List Int) (t : Nat) (h : t <= bkn zs) : bkn (zs.take (ls zs t)) = t := by
 cases t with
 | zero => simp [ls, bkn]
 | succ t =>
  rw [Xe]
  have h1 := ZG zs (bb zs t) t (by omega)
  have h2 := ZG zs (bb zs t - 1) t (by omega)
  have h3 := zAe zs t (by omega)
  have h4 := bb_le zs t
  have h5 := Zj zs (bb zs t - 1) (by omega)
  rw [show bb zs t - 1 + 1 = bb zs t by omega] at h5
  split at h5 <;> omega
theorem bb_step (zs : List Int) (t : Nat) (h : t < bkn zs) : bb zs t = ls zs t + bb (zs.drop (ls zs t)) 0 ∧ 0 < bkn (zs.drop (ls zs t)) ∧ ls zs t < zs.length := by
 have h1 := bkn_ls zs t (by omega)
 have h2 := yn (zs.take (ls zs t)) (zs.drop (ls zs t));rw [List.take_append_drop, h1] at h2;have h3 := XI (zs.drop (ls zs t));rw [List.length_drop] at h3
 have h4 := jN (zs.take (ls zs t)) (zs.drop (ls zs t)) t (by omega) (by omega)
 rw [List.take_append_drop, h1, Nat.sub_self, List.length_take] at h4
 exact ⟨by omega, by omega, by omega⟩
theorem bb_first (zs : List Int) (k : Nat) (h : 0 < bkn zs) (hk : k < bb zs 0) : (zs.getD k 0 = 10 -> bb zs 0 = k + 1) ∧ (¬ zs.getD k 0 = 10 -> k + 1 < bb zs 0) ∧ k < zs.length := by
 have h1 := bb_le zs 0;have h2 := ZG zs k 0 h;have h3 := ZG zs (k + 1) 0 h
 have h4 := Zj zs k (by omega)
 refine ⟨fun hz => ?_, fun hz => ?_, by omega⟩
 ·rw [if_pos hz] at h4; omega
 ·rw [if_neg hz] at h4; omega
theorem j2 (S : List Int) (m : Pc -> Int) : ∀ (T : AT) (k : Int), T.wp S -> 0 <= (seekT m T k).2.1 ∧ 0 <= (seekT m T k).2.2.1
 | .nil, _, _ => by simp [seekT]
 | .node l p r, k, hw => by
  obtain ⟨hl, hp, hr⟩ := hw;have e1 := AT.tx_len hl;have e2 := AT.tx_brk hl;have e3 := (Zr (l.tx S)).1;have e4 := hp.2.2.2;have e5 := (Zr (ptx S p)).1;have e6 := hp.2.1;have i1 := j2 S m l k hl;have i2 := j2 S m r (k - sumM m (l.told 0) - m p) hr;simp only [seekT]
  split
  ·exact i1
  ·split
   ·simp only; omega
   ·simp only; omega
theorem Yd (S : List Int) : ∀ (T : AT) (k : Int), T.wp S -> 0 <= k -> 0 < (seekP (fun p => p.len) T k).len ∨ (seekP (fun p => p.len) T k).off = 0
 | .nil, _, _, _ => .inr rfl
 | .node l p r, k, hw, h0 => by
  obtain ⟨hl, hp, hr⟩ := hw;have e1 := AT.tx_len hl
  have e0 : sumM (fun p => p.len) (l.told 0) = l.rns := by rw [YC, AT.rns_told]
  simp only [seekP, e0]
  split
  ·exact Yd S l k hl h0
  ·split
   ·left; omega
   ·exact Yd S r _ hr (by omega)
def lcL (zs : List Int) (k : Nat) : Int := (bkn (zs.take k) : Nat)
def lcC (zs : List Int) (k : Nat) : Int := (k : Int) - (ls zs (bkn (zs.take k)) : Nat)
theorem JU {zs : List Int} (h : 10 ∉ zs) : bkn zs = 0 := by
 induction zs with
 | nil => rfl
 | cons c zs ih =>
  rw [jM, if_neg (fun e => h (by simp [e])), ih (fun hm => h (List.mem_cons_of_mem _ hm))]
theorem Ke {l r : List Int} (h : 10 ∉ l) {c : Nat} (hc : c <= l.length) : lcL (l ++ r) c = 0 ∧ lcC (l ++ r) c = c := by
 have e : (l ++ r).take c = l.take c := List.take_append_of_le_length hc
 have b0 : bkn (l.take c) = 0 := JU (fun hm => h (List.mem_of_mem_take hm))
 unfold lcL lcC;rw [e, b0];simp [ls]
theorem ls_shift {l J : List Int} (h : 10 ∉ l) (b : Nat) (hb : b <= bkn J) : ls (l ++ 10 :: J) (b + 1) = l.length + 1 + ls J b := by
 unfold ls
 rw [if_neg (by omega), show b + 1 - 1 = b by omega]
 rw [jN l (10 :: J) b (by rw [JU h]; omega) (by rw [JU h, jM, if_pos rfl]; omega), JU h, Nat.sub_zero]
 rw [bb, if_pos rfl]
 by_cases hb0 : b = 0
 ·simp [hb0]
 ·simp [hb0]; omega
theorem lc_shift {l J : List Int} (h : 10 ∉ l) {k : Nat} (hk : k <= J.length) : lcL (l ++ 10 :: J) (l.length + 1 + k) = lcL J k + 1 ∧ lcC (l ++ 10 :: J) (l.length + 1 + k) = lcC J k := by
 have e : (l ++ 10 :: J).take (l.length + 1 + k) = l ++ 10 :: J.take k := by
  rw [show l.length + 1 + k = l.length + (k + 1) by omega, List.take_append, List.take_of_length_le (by omega)]
  simp
 have b0 : bkn (l ++ 10 :: J.take k) = bkn (J.take k) + 1 := by
  rw [yn, JU h, jM, if_pos rfl]; omega
 unfold lcL lcC;rw [e, b0, ls_shift h _ (JK J k)]
 constructor <;> omega
theorem jn_at : ∀ (L : List (List Int)) (h : ∀ l ∈ L, 10 ∉ l) (i c : Nat) (l : List Int), L[i]? = some l -> c <= l.length -> lcL (jn L) (smL (L.take i) + i + c) = i ∧ lcC (jn L) (smL (L.take i) + i + c) = c ∧ smL (L.take i) + i + c <= (jn L).length
 | [], _, i, c, l, h, _ => by simp at h
 | [a], hn, i, c, l, h, hc => by
  cases i with
  | zero =>
   simp at h; subst h
   have := Ke (r := []) (hn a (by simp)) hc
   simp only [List.append_nil] at this;simp [jn, jt, smL];exact ⟨this.1, this.2, hc⟩
  | succ i => simp at h
 | a :: b :: L, hn, i, c, l, h, hc => by
  have ej : jn (a :: b :: L) = a ++ 10 :: jn (b :: L) := by simp [jn, jt]
  cases i with
  | zero =>
   simp at h; subst h
   have := Ke (r := 10 :: jn (b :: L)) (hn a (by simp)) hc
   rw [ej];simp [smL]
   exact ⟨this.1, this.2, by omega⟩
  | succ i =>
   simp only [List.getElem?_cons_succ] at h
   have ih := jn_at (b :: L) (fun l hl => hn l (List.mem_cons_of_mem _ hl)) i c l h hc
   have sh := lc_shift (J := jn (b :: L)) (hn a (by simp)) ih.2.2
   rw [ej]
   have e1 : smL ((a :: b :: L).take (i + 1)) + (i + 1) + c = a.length + 1 + (smL ((b :: L).take i) + i + c) := by
    simp only [List.take_succ_cons, smL]; omega
   rw [e1, sh.1, sh.2, ih.1, ih.2.1]
   refine ⟨by omega, rfl, ?_⟩
   simp only [List.length_append, List.length_cons];omega
theorem jn_cov : ∀ (L : List (List Int)) (hne : L ≠ []) (k : Nat), k <= (jn L).length -> ∃ i c l, L[i]? = some l ∧ c <= l.length ∧ k = smL (L.take i) + i + c
 | [], h, _, _ => absurd rfl h
 | [a], _, k, hk => ⟨0, k, a, by simp, by simpa [jn, jt] using hk, by simp [smL]⟩
 | a :: b :: L, _, k, hk => by
  have ej : jn (a :: b :: L) = a ++ 10 :: jn (b :: L) := by simp [jn, jt]
  rw [ej, List.length_append, List.length_cons] at hk
  by_cases h : k <= a.length
  ·exact ⟨0, k, a, by simp, h, by simp [smL]⟩
  ·obtain ⟨i, c, l, h1, h2, h3⟩ := jn_cov (b :: L) (by simp) (k - a.length - 1) (by omega)
   refine ⟨i + 1, c, l, by simpa using h1, h2, ?_⟩
   simp only [List.take_succ_cons, smL];omega
theorem Tryz.infoG : (Tryz.prog.info? 21).map (fun i => (i.zero, i.size, i.bytes)) = some (some (.int .i32 0), 1, 4) := by kernel_rfl
def Sl (k : IntKind) (w : World) (v : Value) (zs : List Int) : Prop :=
 (v = .slice none 0 0 ∧ zs = []) ∨
 (∃ b off cap, v = .slice (some ⟨b, off, none⟩) zs.length cap ∧ b < w.heap.size ∧ ∀ i, i < zs.length -> w.cell? ⟨b, off + i, none⟩ = some (.int k (zs.getD i 0)))
theorem Sl.of_owns {k : IntKind} {w : World} {base : Nat} {e : TypeId} {v : Value} {n : Nat} {zs : List Int} (h : w.ownsRow base e 1 v n (ints k zs)) : Sl k w v zs := by
 have hl : zs.length = n := by have := h.1; simpa [ints] using this
 rcases h.2 with ⟨hv, hn⟩ | ⟨g, cap, cur, hv, _⟩
 ·left; exact ⟨hv, by apply List.eq_nil_of_length_eq_zero; omega⟩
 ·subst hv
  right
  exact ⟨g, 0, cap, by rw [hl], (h.lt g rfl).2, fun i hi => by rw [Nat.zero_add]; exact yJ h i (by omega)⟩
theorem Sl.below {k : IntKind} {w w' : World} {v : Value} {zs : List Int} (h : Sl k w v zs) (hb : Below w.heap.size w w') : Sl k w' v zs := by
 rcases h with h | ⟨b, off, cap, hv, hB, hc⟩
 ·exact .inl h
 ·exact .inr ⟨b, off, cap, hv, Nat.lt_of_lt_of_le hB hb.size, fun i hi => (hb.cell (p := ⟨b, off + i, none⟩) hB).trans (hc i hi)⟩
theorem Sl.rd {k : IntKind} {w : World} {v : Value} {zs : List Int} (h : Sl k w v zs) {b off cap : Nat} (hv : v = .slice (some ⟨b, off, none⟩) zs.length cap) : ∀ j u, (ints k zs)[j]? = some u -> w.cell? ((⟨b, off, none⟩ : Addr).add j) = some u := by
 rcases h with ⟨h, _⟩ | ⟨b', off', cap', hv', _, hc⟩
 ·rw [h] at hv; cases hv
 ·rw [hv] at hv'
  simp only [Value.slice.injEq, Option.some.injEq, Addr.mk.injEq, and_true, true_and] at hv';obtain ⟨⟨rfl, rfl⟩, _⟩ := hv';have := jH (o := 0) (l := zs.length) hc;simpa using this
end Go.Proofs.YtbgngikejgihgafGreatDoor

import Derived.Test.YtbgngikejgihgafGreatDoorMq45
import Derived.Test.YtbgngikejgihgafGreatDoorMq28
namespace Go.Proofs.YtbgngikejgihgafGreatDoor
open Go Go.RowKit
set_option linter.unusedVariables false
set_option maxRecDepth 100000
set_option maxHeartbeats 8000000
structure LT (gs : List Gr) (st tx : List Int) : Prop where
 v : LV gs st
 t : jn (gs.map grT) = tx
section
variable {gs : List Gr} {st tx ts : List Int}
theorem LT.n (h : LT gs st tx) : gs.length <= 8193 := h.v.1.2.1
theorem LT.p (h : LT gs st tx) : 1 <= gs.length := h.v.1.1
theorem LT.s (h : LT gs st tx) : st.length <= 8193 := by have h1 := h.v.1.2.2.2; have := h.n; omega
theorem LT.l (h : LT gs st tx) : tx.length <= 8192 := by have h1 := h.v.2.2.1; rw [h.t] at h1; exact h1
theorem LT.c (h : LT gs st tx) : ∀ x ∈ gs, x.cells.length <= 1048576 := fun x hx => by
 have h1 := (h.v.2.1 x hx).1.1.1;omega
theorem LT.ne (h : LT gs st tx) : gs.map grT ≠ [] := fun e => by
 have h1 := congrArg List.length e;have := h.p;simp at h1;rw [h1] at this;simp at this
theorem LT.sm (h : LT gs st tx) : smL (gs.map grT) + gs.length <= 4194304 := by
 have h1 := yH h.ne;have h2 := h.l;have h3 := h.p;rw [h.t, List.length_map] at h1;omega
theorem LT.load (hn : tx.length <= 8192) : LT ((lns tx).map plG) ((stL (lns tx)).take 1) tx :=
 ⟨LV_load hn lR (by have := yg tx; omega), by rw [Xo, Xn]⟩
theorem LT.ins (h : LT gs st tx) {off : Nat} (ho : off <= tx.length) (hm : 0 < ts.length) (hr : tx.length + ts.length <= 8192) : ∃ G S, LjAns gs st off ts G S 0 ∧ LT G S (tx.take off ++ (ts ++ tx.drop off)) := by
 have ht := h.t;subst ht;obtain ⟨G, S, hI⟩ := LjIns.ex gs off ts h.p
 refine ⟨G, S, .inl ⟨h.v, ⟨by omega, by omega⟩, hr, fun e => by rw [e] at hm; simp at hm, by rw [Int.toNat_natCast]; exact hI, rfl⟩, ?_⟩
 obtain ⟨k, x, l1, hx, rfl, rfl⟩ := hI;exact ⟨zBf hx h.v.2.1 l1 ho hr, (YX hx h.v.2.1 l1 ho hr).2⟩
theorem LT.del (h : LT gs st tx) {a b : Nat} (hab : a <= b) (hb : b <= tx.length) : ∃ G S, LdAns gs st a b G S 0 ∧ LT G S (tx.take a ++ tx.drop b) := by
 have hl := h.l;have ht := h.t;subst ht
 rcases Nat.lt_or_eq_of_le hab with hlt | rfl
 ·obtain ⟨G, S, hI⟩ := LdRem.ex gs a b h.p
  refine ⟨G, S, .inl ⟨h.v, ⟨by omega, by omega, by omega⟩, by omega, by rw [Int.toNat_natCast, Int.toNat_natCast]; exact hI, rfl⟩, ?_⟩
  obtain ⟨k, k2, x, y, l1, l2, hx, hy, rfl, rfl⟩ := hI;exact ⟨zBg hx hy h.v.2.1 l1 l2 hab hb hl, (YY hx hy h.v.2.1 l1 l2 hab hb hl).2⟩
 ·exact ⟨gs, st, .inr (.inl ⟨h.v, ⟨by omega, by omega, by omega⟩, rfl, rfl, rfl, rfl⟩), h.v, (List.take_append_drop _ _).symm⟩
theorem LT.lc (h : LT gs st tx) {off : Nat} (ho : off <= tx.length) : ∃ S, LcAns gs st off gs S (lcL tx off) (lcC tx off) 0 ∧ LT gs S tx := by
 have hl := h.l;have ht := h.t;subst ht
 obtain ⟨m, hm⟩ := Kn.ex (gs.map grT) st.length off (by rw [List.length_map]; exact h.v.1.2.2.2)
 have m1 := hm.1;have m2 := hm.2.1;rw [List.length_map] at m2;have := h.v.1.2.2.1
 refine ⟨(stL (gs.map grT)).take m, .inl ⟨h.v, ⟨by omega, by omega⟩, rfl, ⟨m, by rw [Int.toNat_natCast]; exact hm, rfl⟩, by rw [Int.toNat_natCast], by rw [Int.toNat_natCast], rfl⟩, LV_of h.v.2.1 hl (by omega) m2, rfl⟩
end
section
variable {gs : List Gr} {st tx ts : List Int} {vr vt : Value} {lo hi : Nat} {W : World}
theorem llK {base g c : Nat} (h : own32 W base (.slice (some ⟨g, 0, none⟩) tx.length c) tx) (hn : tx.length <= 8192) (hg : W.cell? ⟨0, 0, none⟩ = some (.iface 207 (.agg #[.pointer (some ⟨1, 68, none⟩)]))) :
  Calls Tryz.prog 11 #[.slice (some ⟨g, 0, none⟩) tx.length c] W (ZD W ((lns tx).map plG) ((stL (lns tx)).take 1) 0) := by
 refine (implLl base tx g c W h (by omega) (zt h) hg hn).mono ?_
 rintro e w' ⟨vr, vt, rfl, ho, hb⟩;rw [llG, llS, if_pos hn, if_pos hn] at ho;rw [stL_oneR (ZR tx)]
 exact ⟨vr, vt, by rw [llC, if_pos hn], ho, hb⟩
theorem lvK (h : OwL W lo hi vr vt gs st) (hh : hi <= W.heap.size) (hT : LT gs st tx) :
  Calls Tryz.prog 17 #[.agg #[vr, vt]] W fun e w' => e = .returned (.bool true) ∧ Below W.heap.size W w' :=
 validC gs st vr vt lo hi true W ⟨fun _ => hT.v, fun _ => rfl⟩ h hh (by have := hT.n; omega) (by have := hT.s; omega) hT.c (fun _ => hT.sm)
theorem ltK (h : OwL W lo hi vr vt gs st) (hh : hi <= W.heap.size) (hT : LT gs st tx) :
  Calls Tryz.prog 19 #[.agg #[vr, vt]] W fun e w' => ∃ v', e = .returned v' ∧ own32 w' W.heap.size v' tx ∧ Below W.heap.size W w' := by
 have h9 := XA gs st vr vt lo hi W h hh hT.n hT.p (fun x hx => (hT.v.2.1 x hx).1) hT.sm
 rw [hT.t] at h9;exact h9
theorem lcK {off : Int} {S : List Int} {L K : Int} (hA : LcAns gs st off gs S L K 0) (h : OwL W lo hi vr vt gs st) (hh : hi <= W.heap.size) (hT : LT gs st tx) (hg : W.cell? ⟨0, 0, none⟩ = some (.iface 207 (.agg #[.pointer (some ⟨1, 68, none⟩)]))) :
  Calls Tryz.prog 23 #[.agg #[vr, vt], .int .i64 off] W (zBe W gs S L K 0) :=
 implLc gs st off vr vt lo hi W gs S L K 0 hA h hh hT.c (by have := hT.n; omega) (by have := hT.s; omega) hg rfl
theorem ldrK {a b : Int} {G : List Gr} {S : List Int} (hA : LdAns gs st a b G S 0) (h : OwL W lo hi vr vt gs st) (hh : hi <= W.heap.size) (hT : LT gs st tx) (hg : W.cell? ⟨0, 0, none⟩ = some (.iface 207 (.agg #[.pointer (some ⟨1, 68, none⟩)]))) :
  Calls Tryz.prog 15 #[.agg #[vr, vt], .int .i64 a, .int .i64 b] W (ZD W G S 0) :=
 implLdr gs st a b vr vt lo hi W G S 0 hA h hh hT.c (by have := hT.n; omega) (by have := hT.s; omega) hg rfl
theorem ljK {off : Int} {G : List Gr} {S : List Int} {base g c : Nat} (hA : LjAns gs st off ts G S 0) (h : OwL W lo hi vr vt gs st) (hh : hi <= W.heap.size) (hT : LT gs st tx) (hx : own32 W base (.slice (some ⟨g, 0, none⟩) ts.length c) ts) (hl : ts.length <= 1048576) (hne : ts ≠ []) (hg : W.cell? ⟨0, 0, none⟩ = some (.iface 207 (.agg #[.pointer (some ⟨1, 68, none⟩)]))) :
  Calls Tryz.prog 13 #[.agg #[vr, vt], .int .i64 off, .slice (some ⟨g, 0, none⟩) ts.length c] W (ZD W G S 0) :=
 implLj gs st off ts _ vr vt lo hi W G S 0 hA h hh hT.c (by have := hT.n; omega) (by have := hT.s; omega) (Sl.of_owns hx) (fun ad n c' e => by simp only [Value.slice.injEq] at e; obtain ⟨_, rfl, rfl⟩ := e; exact zt hx) hl hg rfl hne
end
structure CQ (zs : List Int) (T : AT) (gs : List Gr) (st tx : List Int) (zl tl n s L : Nat) : Prop where
 f : BFr zs T
 x : T.tx zs = tx
 l : LT gs st tx
 e1 : zs.length = zl
 e2 : (T.told 0).length = tl
 e3 : gs.length = n
 e4 : st.length = s
 e5 : tx.length = L
theorem CQ.rns {zs : List Int} {T : AT} {gs : List Gr} {st tx : List Int} {zl tl n s L : Nat} (h : CQ zs T gs st tx zl tl n s L) : T.rns = (L : Int) := by
 have h1 := h.f.txl;rw [h.x, h.e5] at h1;exact h1.symm
structure CS (bs : List Int) (vb : Value) (p pb lb : Nat) (w : World) (zs : List Int) (T : AT) (vs vi : Value) (gs : List Gr) (st : List Int) (vr vt : Value) (lo hi : Nat) (tx : List Int) (vl : Value) (W : World) : Prop where
 src : SrcB bs vb p W
 kp : D2 W pb vs vi 33
 kl : D2 W lb vr vt 40
 o : own32 W (p + 1) vs zs
 i : OwI W (p + 1) vi (T.told 0)
 t : own32 W (p + 1) vl tx
 ol : OwL W lo hi vr vt gs st
 hh : hi <= W.heap.size
 a1 : p < lo
 a2 : pb < lo ∨ hi <= pb
 a3 : lb < lo ∨ hi <= lb
 b : Below w.heap.size w W
 l1 : p = w.heap.size
 l2 : p < pb
 l3 : p < lb
structure BX (w : World) (base X : Nat) (vs vi : Value) (S : List Int) (T : AT) : Prop where
 k : D2 w X vs vi 33
 o : own32 w base vs S
 i : OwI w base vi (T.told 0)
 b : base <= X
structure LX (w : World) (base X : Nat) (vr vt : Value) (G : List Gr) (S : List Int) (lo hi : Nat) : Prop where
 k : D2 w X vr vt 40
 o : OwL w lo hi vr vt G S
 b : base <= lo
 hh : hi <= w.heap.size
 bx : base <= X
section
variable {bs : List Int} {vb : Value} {p pb lb : Nat} {w W W' : World} {zs : List Int} {T : AT} {vs vi : Value} {gs : List Gr} {st : List Int} {vr vt : Value} {lo hi : Nat} {tx : List Int} {vl : Value}
theorem CS.ne (h : CS bs vb p pb lb w zs T vs vi gs st vr vt lo hi tx vl W) : pb ≠ lb := fun e => by
 have h1 := h.kp;have h2 := h.kl;subst e;unfold D2 at h1 h2;rw [h1] at h2;simp only [Option.some.injEq] at h2
 injection h2 with _ h3 _
 exact absurd h3 (by decide)
theorem CS.draw (h : CS bs vb p pb lb w zs T vs vi gs st vr vt lo hi tx vl W) (hs : SrcB bs vb p W') (hc : Chg [p] W W') : CS bs vb p pb lb w zs T vs vi gs st vr vt lo hi tx vl W' :=
 have h1 := h.l1;have h2 := h.l2;have h3 := h.l3;have h4 := h.a1;have h5 := h.hh
 ⟨hs, (hc.block pb h.kp.lt (by simp; omega)).trans h.kp, (hc.block lb h.kl.lt (by simp; omega)).trans h.kl, Z6 h.o h.src hc (by decide), Z6 h.i h.src hc (by decide), Z6 h.t h.src hc (by decide),
  h.ol.frame (fun q q1 q2 => hc.block q (by omega) (by simp; omega)), Nat.le_trans h5 hc.size, h4, h.a2, h.a3, h.b.trans (hc.below (B := w.heap.size) h.b.size (by simp; omega)), h1, h2, h3⟩
theorem CS.below (h : CS bs vb p pb lb w zs T vs vi gs st vr vt lo hi tx vl W) (hb : Below W.heap.size W W') : CS bs vb p pb lb w zs T vs vi gs st vr vt lo hi tx vl W' :=
 have h4 := h.b.size
 ⟨h.src.below hb (by have := h.kp.lt; have := h.l2; omega) lR, h.kp.below hb h.kp.lt, h.kl.below hb h.kl.lt, zD h.o hb lR, OwI.below h.i hb lR, zD h.t hb lR, h.ol.below hb h.hh, Nat.le_trans h.hh hb.size, h.a1, h.a2, h.a3, h.b.trans (hb.mono h4), h.l1, h.l2, h.l3⟩
theorem CS.cells (h : CS bs vb p pb lb w zs T vs vi gs st vr vt lo hi tx vl W) : W.cell? ⟨pb, 0, none⟩ = some vs ∧ W.cell? ⟨pb, 1, none⟩ = some vi ∧ W.cell? ⟨lb, 0, none⟩ = some vr ∧ W.cell? ⟨lb, 1, none⟩ = some vt :=
 ⟨h.kp.c.1, h.kp.c.2, h.kl.c.1, h.kl.c.2⟩
theorem CS.list (h : CS bs vb p pb lb w zs T vs vi gs st vr vt lo hi tx vl W) {tx' : List Int} {vl' : Value} {B : Nat} (ho : own32 W B vl' tx') (hB : p + 1 <= B) : CS bs vb p pb lb w zs T vs vi gs st vr vt lo hi tx' vl' W :=
 { h with t := zE ho hB }
theorem zd {X : Nat} {u v : Value} (q : Nat) (hq : q ≠ X) : ((W.setCell ⟨X, 0, none⟩ u).setCell ⟨X, 1, none⟩ v).heap[q]? = W.heap[q]? := by
 rw [Go.heap_setCell_other _ _ _ _ (by show q ≠ X; exact hq), Go.heap_setCell_other _ _ _ _ (by show q ≠ X; exact hq)]
theorem ZE {B X : Nat} {u v : Value} (h : B <= X) : Below B W ((W.setCell ⟨X, 0, none⟩ u).setCell ⟨X, 1, none⟩ v) := ((Below.refl B W).setCell h _).setCell h _
theorem CS.storeP (h : CS bs vb p pb lb w zs T vs vi gs st vr vt lo hi tx vl W) {B X : Nat} {vs' vi' : Value} {zs' : List Int} {T' : AT} (hx : BX W B X vs' vi' zs' T') (hB : pb < B) : CS bs vb p pb lb w zs' T' vs' vi' gs st vr vt lo hi tx vl ((W.setCell ⟨pb, 0, none⟩ vs').setCell ⟨pb, 1, none⟩ vi') := by
 have h1 := h.l1;have h2 := h.l2;have h3 := h.l3;have hs := h.kp.lt
 refine ⟨h.src.below (B := pb) (ZE lR) h2 (by omega), h.kp.set2E _ _, (zd _ (fun e => h.ne e.symm)).trans h.kl, ?_, ?_, ?_, h.ol.frame (fun q q1 q2 => zd q (by have := h.a2; omega)), by simp; exact h.hh, h.a1, h.a2, h.a3, h.b.trans (ZE (by omega)), h1, h2, h3⟩
 ·exact zC (zE hx.o (by omega)) (fun q hq => zd q (zx hx.o h.kp (by decide) hq))
 ·exact zC (zE hx.i (by omega)) (fun q hq => zd q (zx hx.i h.kp (by decide) hq))
 ·exact zC h.t (fun q hq => zd q (zx h.t h.kp (by decide) hq))
theorem CS.storeL (h : CS bs vb p pb lb w zs T vs vi gs st vr vt lo hi tx vl W) {B X lo' hi' : Nat} {vr' vt' : Value} {G : List Gr} {S : List Int} (hx : LX W B X vr' vt' G S lo' hi') (hB : lb < B) (hB2 : pb < B) : CS bs vb p pb lb w zs T vs vi G S vr' vt' lo' hi' tx vl ((W.setCell ⟨lb, 0, none⟩ vr').setCell ⟨lb, 1, none⟩ vt') := by
 have h1 := h.l1;have h2 := h.l2;have h3 := h.l3;have hs := h.kl.lt;have hb := hx.b
 refine ⟨h.src.below (B := lb) (ZE lR) h3 (by omega), (zd _ h.ne).trans h.kp, h.kl.set2E _ _, ?_, ?_, ?_, hx.o.frame (fun q q1 q2 => zd q (by omega)), by simp; exact hx.hh, by omega, .inl (by omega), .inl (by omega), h.b.trans (ZE (by omega)), h1, h2, h3⟩
 ·exact zC h.o (fun q hq => zd q (zx h.o h.kl (by decide) hq))
 ·exact zC h.i (fun q hq => zd q (zx h.i h.kl (by decide) hq))
 ·exact zC h.t (fun q hq => zd q (zx h.t h.kl (by decide) hq))
theorem D2.neD {X Y : Nat} {x y u v : Value} {t t' : TypeId} (h : D2 W X x y t) (k : D2 W Y u v t') (hne : t ≠ t') : X ≠ Y := fun e => by
 unfold D2 at h k;subst e;rw [h] at k;simp only [Option.some.injEq] at k
 injection k with _ h3 _
 exact hne h3
theorem LX.below {base X : Nat} {G : List Gr} {S : List Int} (h : LX W base X vr vt G S lo hi) (hb : Below W.heap.size W W') : LX W' base X vr vt G S lo hi :=
 ⟨h.k.below hb h.k.lt, h.o.below hb h.hh, h.b, Nat.le_trans h.hh hb.size, h.bx⟩
theorem BX.below {base X : Nat} {S : List Int} (h : BX W base X vs vi S T) (hb : Below W.heap.size W W') : BX W' base X vs vi S T :=
 ⟨h.k.below hb h.k.lt, zD h.o hb lR, OwI.below h.i hb lR, h.b⟩
theorem LX.off {base X Y : Nat} {G : List Gr} {S : List Int} {x y u v : Value} (h : LX W base X vr vt G S lo hi) (hY : D2 W Y x y 33) (hb : Y < base) : LX ((W.setCell ⟨Y, 0, none⟩ u).setCell ⟨Y, 1, none⟩ v) base X vr vt G S lo hi :=
 ⟨(zd _ (D2.neD h.k hY (by decide))).trans h.k, h.o.frame (fun q q1 q2 => zd q (by have := h.b; omega)), h.b, by simp; exact h.hh, h.bx⟩
theorem BX.new {base base' : Nat} {S : List Int} (ho : own32 W base' vs S) (hi : OwI W base' vi (T.told 0)) (hb : base <= base') (hw : base <= W.heap.size) : BX (W.alloc (.cells #[vs, vi] 33)) base W.heap.size vs vi S T :=
 have hB := (Below.refl W.heap.size W).alloc lR (.cells #[vs, vi] 33)
 ⟨D2.new _ _ _ _, zD (zE ho hb) hB lR, OwI.below (OwI.base hi hb) hB lR, hw⟩
theorem BX.set {base base' X : Nat} {S : List Int} {x y : Value} (hk : D2 W X x y 33) (ho : own32 W base' vs S) (hi : OwI W base' vi (T.told 0)) (hb : base <= base') (hX : base <= X) : BX ((W.setCell ⟨X, 0, none⟩ vs).setCell ⟨X, 1, none⟩ vi) base X vs vi S T :=
 ⟨hk.set2E _ _, zC (zE ho hb) (fun q hq => zd q (zx ho hk (by decide) hq)), zC (zE hi hb) (fun q hq => zd q (zx hi hk (by decide) hq)), hX⟩
theorem LX.new {base : Nat} {G : List Gr} {S : List Int} (ho : OwL W lo hi vr vt G S) (hh : hi <= W.heap.size) (hb : base <= lo) (hw : base <= W.heap.size) : LX (W.alloc (.cells #[vr, vt] 40)) base W.heap.size vr vt G S lo hi :=
 have hB := (Below.refl W.heap.size W).alloc lR (.cells #[vr, vt] 40)
 ⟨D2.new _ _ _ _, ho.below hB hh, hb, Nat.le_trans hh hB.size, hw⟩
theorem LX.set {base X : Nat} {G : List Gr} {S : List Int} {x y : Value} (hk : D2 W X x y 40) (ho : OwL W lo hi vr vt G S) (hh : hi <= W.heap.size) (hb : base <= lo) (hX : base <= X) (ha : X < lo ∨ hi <= X) : LX ((W.setCell ⟨X, 0, none⟩ vr).setCell ⟨X, 1, none⟩ vt) base X vr vt G S lo hi :=
 ⟨hk.set2E _ _, ho.frame (fun q q1 q2 => zd q (by omega)), hb, by simp; exact hh, hX⟩
end
theorem At32.part {w : World} {b : Nat} {zs : List Int} (h : At32 w b 0 zs) (q l : Nat) (hl : q + l <= zs.length) : At32 w b q ((zs.drop q).take l) := fun i hi => by
 rw [List.length_take, List.length_drop] at hi
 have h1 := h (q + i) (by omega)
 rw [Nat.zero_add] at h1
 rw [h1, List.getD_eq_getElem?_getD, List.getD_eq_getElem?_getD, List.getElem?_take_of_lt (by omega), List.getElem?_drop]
section
variable {bs : List Int} {vb : Value} {p pb lb lo hi g c tl k n s zl L gl cl cr cs : Nat} {w : World} {a ar as_ : Option Addr} {zs st tx : List Int} {T : AT} {gs : List Gr}
theorem insR (hQ : CQ zs T gs st tx zl tl n s L) {ts : List Int} {m off : Nat} (hm : ts.length = m) (h0 : 0 < m) (hmx : m <= 12) (ho : off <= L) (hz : zl <= 5000) (hl : L <= 5000) (HG : ∀ W, Below w.heap.size w W -> W.cell? ⟨0, 0, none⟩ = some (.iface 207 (.agg #[.pointer (some ⟨1, 68, none⟩)]))) :
  ∃ (S5 : List Int) (T1 : AT) (G : List Gr) (S : List Int) (n5 n1 nG nS : Nat), n5 = zl + m ∧ CQ S5 T1 G S (tx.take off ++ (ts ++ tx.drop off)) n5 n1 nG nS (L + m) ∧
   (∀ (x : World) (g5 c5 base : Nat), CS bs vb p pb lb w zs T (.slice (some ⟨g, 0, none⟩) zl c) (.slice a tl k) gs st (.slice ar n cr) (.slice as_ s cs) lo hi tx (.slice (some ⟨gl, 0, none⟩) L cl) x -> own32 x base (.slice (some ⟨g5, 0, none⟩) m c5) ts -> Calls Tryz.prog 12 #[.agg #[.slice (some ⟨g, 0, none⟩) zl c, .slice a tl k], .int .i64 off, .slice (some ⟨g5, 0, none⟩) m c5] x fun e w' => ∃ g' c' a' k', e = .returned (.tuple #[.agg #[.slice (some ⟨g', 0, none⟩) n5 c', .slice a' n1 k'], .int .i64 0]) ∧ own32 w' x.heap.size (.slice (some ⟨g', 0, none⟩) n5 c') S5 ∧ OwI w' x.heap.size (.slice a' n1 k') (T1.told 0) ∧ Below x.heap.size x w') ∧
   (∀ (x : World) (g5 c5 base : Nat), CS bs vb p pb lb w zs T (.slice (some ⟨g, 0, none⟩) zl c) (.slice a tl k) gs st (.slice ar n cr) (.slice as_ s cs) lo hi tx (.slice (some ⟨gl, 0, none⟩) L cl) x -> own32 x base (.slice (some ⟨g5, 0, none⟩) m c5) ts -> Calls Tryz.prog 13 #[.agg #[.slice ar n cr, .slice as_ s cs], .int .i64 off, .slice (some ⟨g5, 0, none⟩) m c5] x fun e w' => ∃ a1 c1 a2 c2, e = .returned (.tuple #[.agg #[.slice a1 nG c1, .slice a2 nS c2], .int .i64 0]) ∧ OwL w' x.heap.size w'.heap.size (.slice a1 nG c1) (.slice a2 nS c2) G S ∧ Below x.heap.size x w') := by
 have hrn := hQ.rns;obtain ⟨hF, hX, hL, rfl, rfl, rfl, rfl, rfl⟩ := hQ;subst hm
 obtain ⟨G, S, hA, hG⟩ := hL.ins (ts := ts) ho h0 (by omega)
 have h9 := Ka (ts := ts) hF.ok hF.wp (show 0 <= (off : Int) by omega) (by omega) h0
 have hSl : (zs ++ ts).length = zs.length + ts.length := List.length_append
 have f1 : BFr (zs ++ ts) (insP (zs ++ ts) zs.length T off) := ⟨zBi hF.ok (hF.wp.app ts) (by omega) (by omega) (by omega) (by omega) (by omega), insP_bal hF.bal, h9.1, by omega⟩
 have ht := insP_tx (ts := ts) hF.ok hF.wp (show 0 <= (off : Int) by omega) (by omega)
 rw [Int.toNat_natCast, hX] at ht
 refine ⟨zs ++ ts, insP (zs ++ ts) zs.length T off, G, S, _, _, _, _, rfl, ⟨f1, ht, hG, hSl, rfl, rfl, rfl, by simp; omega⟩, ?_, ?_⟩
 ·intro x g5 c5 base h hot
  have h8 := insK h.o h.i hF hot (show 0 <= (off : Int) by omega) (by omega) h0 (by omega) (by omega) (HG x h.b)
  rw [hSl] at h8;refine h8.mono ?_;rintro e w' ⟨g', c', vi', rfl, h1, h2, h3⟩;obtain ⟨a', k', rfl⟩ := yO h2;exact ⟨g', c', a', k', rfl, h1, h2, h3⟩
 ·intro x g5 c5 base h hot
  refine (ljK hA h.ol h.hh hL hot (by omega) (fun e => by rw [e] at h0; simp at h0) (HG x h.b)).mono ?_
  rintro e w' ⟨vr', vt', rfl, h1, h3⟩;obtain ⟨a1, c1, a2, c2, rfl, rfl⟩ := h1.val;exact ⟨a1, c1, a2, c2, rfl, h1, h3⟩
theorem delR (hQ : CQ zs T gs st tx zl tl n s L) {i j : Nat} (hij : i <= j) (ho : j <= L) (hz : zl <= 5000) (hl : L <= 5000) (HG : ∀ W, Below w.heap.size w W -> W.cell? ⟨0, 0, none⟩ = some (.iface 207 (.agg #[.pointer (some ⟨1, 68, none⟩)]))) :
  ∃ (T1 : AT) (G : List Gr) (S : List Int) (n1 nG nS : Nat), CQ zs T1 G S (tx.take i ++ tx.drop j) zl n1 nG nS (i + (L - j)) ∧
   (∀ (x : World), CS bs vb p pb lb w zs T (.slice (some ⟨g, 0, none⟩) zl c) (.slice a tl k) gs st (.slice ar n cr) (.slice as_ s cs) lo hi tx (.slice (some ⟨gl, 0, none⟩) L cl) x -> Calls Tryz.prog 14 #[.agg #[.slice (some ⟨g, 0, none⟩) zl c, .slice a tl k], .int .i64 i, .int .i64 j] x fun e w' => ∃ g' c' a' k', e = .returned (.tuple #[.agg #[.slice (some ⟨g', 0, none⟩) zl c', .slice a' n1 k'], .int .i64 0]) ∧ own32 w' x.heap.size (.slice (some ⟨g', 0, none⟩) zl c') zs ∧ OwI w' x.heap.size (.slice a' n1 k') (T1.told 0) ∧ Below x.heap.size x w') ∧
   (∀ (x : World), CS bs vb p pb lb w zs T (.slice (some ⟨g, 0, none⟩) zl c) (.slice a tl k) gs st (.slice ar n cr) (.slice as_ s cs) lo hi tx (.slice (some ⟨gl, 0, none⟩) L cl) x -> Calls Tryz.prog 15 #[.agg #[.slice ar n cr, .slice as_ s cs], .int .i64 i, .int .i64 j] x fun e w' => ∃ a1 c1 a2 c2, e = .returned (.tuple #[.agg #[.slice a1 nG c1, .slice a2 nS c2], .int .i64 0]) ∧ OwL w' x.heap.size w'.heap.size (.slice a1 nG c1) (.slice a2 nS c2) G S ∧ Below x.heap.size x w') := by
 have hrn := hQ.rns;obtain ⟨hF, hX, hL, rfl, rfl, rfl, rfl, rfl⟩ := hQ;obtain ⟨G, S, hA, hG⟩ := hL.del hij ho
 have hd : BFr zs (delQ zs T i j) ∧ (delQ zs T i j).tx zs = tx.take i ++ tx.drop j := by
  unfold delQ
  by_cases e : (i : Int) = j
  ·obtain rfl : i = j := by omega
   rw [if_pos rfl, List.take_append_drop];exact ⟨hF, hX⟩
  ·rw [if_neg e]
   have d9 := delP_all hF.ok hF.bal hF.wp hF.len (show 0 <= (i : Int) by omega) (show (i : Int) <= j by omega) (by omega)
   have ht := delP_tx hF.ok hF.bal hF.wp hF.len (show 0 <= (i : Int) by omega) (show (i : Int) <= j by omega) (by omega)
   rw [Int.toNat_natCast, Int.toNat_natCast, hX] at ht;exact ⟨⟨d9.1, d9.2.1, d9.2.2.1, hF.len⟩, ht⟩
 refine ⟨delQ zs T i j, G, S, _, _, _, ⟨hd.1, hd.2, hG, rfl, rfl, rfl, rfl, by simp; omega⟩, ?_, ?_⟩
 ·intro x h
  refine (delK h.o h.i hF (show 0 <= (i : Int) by omega) (show (i : Int) <= j by omega) (by omega) (HG x h.b)).mono ?_
  rintro e w' ⟨g', c', vi', rfl, h1, h2, h3⟩;obtain ⟨a', k', rfl⟩ := yO h2;exact ⟨g', c', a', k', rfl, h1, h2, h3⟩
 ·intro x h
  refine (ldrK hA h.ol h.hh hL (HG x h.b)).mono ?_;rintro e w' ⟨vr', vt', rfl, h1, h3⟩;obtain ⟨a1, c1, a2, c2, rfl, rfl⟩ := h1.val;exact ⟨a1, c1, a2, c2, rfl, h1, h3⟩
theorem seeR (hQ : CQ zs T gs st tx zl tl n s L) (HG : ∀ W, Below w.heap.size w W -> W.cell? ⟨0, 0, none⟩ = some (.iface 207 (.agg #[.pointer (some ⟨1, 68, none⟩)]))) :
  (∀ (x : World), CS bs vb p pb lb w zs T (.slice (some ⟨g, 0, none⟩) zl c) (.slice a tl k) gs st (.slice ar n cr) (.slice as_ s cs) lo hi tx (.slice (some ⟨gl, 0, none⟩) L cl) x -> Calls Tryz.prog 16 #[.agg #[.slice (some ⟨g, 0, none⟩) zl c, .slice a tl k]] x fun e w' => e = .returned (.bool true) ∧ Below x.heap.size x w') ∧
  (∀ (x : World), CS bs vb p pb lb w zs T (.slice (some ⟨g, 0, none⟩) zl c) (.slice a tl k) gs st (.slice ar n cr) (.slice as_ s cs) lo hi tx (.slice (some ⟨gl, 0, none⟩) L cl) x -> Calls Tryz.prog 17 #[.agg #[.slice ar n cr, .slice as_ s cs]] x fun e w' => e = .returned (.bool true) ∧ Below x.heap.size x w') ∧
  (∀ (x : World), CS bs vb p pb lb w zs T (.slice (some ⟨g, 0, none⟩) zl c) (.slice a tl k) gs st (.slice ar n cr) (.slice as_ s cs) lo hi tx (.slice (some ⟨gl, 0, none⟩) L cl) x -> Calls Tryz.prog 19 #[.agg #[.slice ar n cr, .slice as_ s cs]] x fun e w' => ∃ v', e = .returned v' ∧ own32 w' x.heap.size v' tx ∧ Below x.heap.size x w') ∧
  (∀ (x : World), CS bs vb p pb lb w zs T (.slice (some ⟨g, 0, none⟩) zl c) (.slice a tl k) gs st (.slice ar n cr) (.slice as_ s cs) lo hi tx (.slice (some ⟨gl, 0, none⟩) L cl) x -> Calls Tryz.prog 21 #[.agg #[.slice (some ⟨g, 0, none⟩) zl c, .slice a tl k]] x fun e w' => ∃ g' c' a' k', e = .returned (.agg #[.slice (some ⟨g', 0, none⟩) zl c', .slice a' tl k']) ∧ own32 w' x.heap.size (.slice (some ⟨g', 0, none⟩) zl c') zs ∧ OwI w' x.heap.size (.slice a' tl k') (T.told 0) ∧ Below x.heap.size x w') ∧
  (∀ (x : World) (base g c k : Nat) (a : Option Addr), own32 x base (.slice (some ⟨g, 0, none⟩) zl c) zs -> OwI x base (.slice a tl k) (T.told 0) -> Below w.heap.size w x -> Calls Tryz.prog 20 #[.agg #[.slice (some ⟨g, 0, none⟩) zl c, .slice a tl k], .int .i64 0, .int .i64 L] x fun e w' => ∃ v', e = .returned (.tuple #[v', .int .i64 0]) ∧ own32 w' x.heap.size v' tx ∧ Below x.heap.size x w') := by
 obtain ⟨hF, hX, hL, rfl, rfl, rfl, rfl, rfl⟩ := hQ;subst hX
 refine ⟨fun x h => valK h.o h.i hF, fun x h => lvK h.ol h.hh hL, fun x h => ltK h.ol h.hh hL, fun x h => cpPieceK h.o h.i hF rfl, fun x base g c k a h1 h2 h3 => slK h1 h2 hF (HG x h3)⟩
theorem placeR (hQ : CQ zs T gs st tx zl tl n s L) {off : Nat} (ho : off <= L) (HG : ∀ W, Below w.heap.size w W -> W.cell? ⟨0, 0, none⟩ = some (.iface 207 (.agg #[.pointer (some ⟨1, 68, none⟩)]))) :
  ∃ (S : List Int) (nS : Nat), CQ zs T gs S tx zl tl n nS L ∧
  (∀ (x : World) (base g c k : Nat) (a : Option Addr), own32 x base (.slice (some ⟨g, 0, none⟩) zl c) zs -> OwI x base (.slice a tl k) (T.told 0) -> Below w.heap.size w x -> Calls Tryz.prog 22 #[.agg #[.slice (some ⟨g, 0, none⟩) zl c, .slice a tl k], .int .i64 off] x fun e w' => e = .returned (.tuple #[.int .i64 (lcL tx off), .int .i64 (lcC tx off), .int .i64 0]) ∧ Below x.heap.size x w') ∧
  (∀ (x : World), CS bs vb p pb lb w zs T (.slice (some ⟨g, 0, none⟩) zl c) (.slice a tl k) gs st (.slice ar n cr) (.slice as_ s cs) lo hi tx (.slice (some ⟨gl, 0, none⟩) L cl) x -> Calls Tryz.prog 23 #[.agg #[.slice ar n cr, .slice as_ s cs], .int .i64 off] x fun e w' => ∃ a1 c1 a2 c2, e = .returned (.tuple #[.agg #[.slice a1 n c1, .slice a2 nS c2], .int .i64 (lcL tx off), .int .i64 (lcC tx off), .int .i64 0]) ∧ OwL w' x.heap.size w'.heap.size (.slice a1 n c1) (.slice a2 nS c2) gs S ∧ Below x.heap.size x w') := by
 obtain ⟨hF, hX, hL, rfl, rfl, rfl, rfl, rfl⟩ := hQ;obtain ⟨S, hA, hG⟩ := hL.lc ho;refine ⟨S, _, ⟨hF, hX, hG, rfl, rfl, rfl, rfl, rfl⟩, ?_, ?_⟩
 ·intro x base g c k a h1 h2 h3
  subst hX;exact plK h1 h2 hF ho (HG x h3)
 ·intro x h
  refine (lcK hA h.ol h.hh hL (HG x h.b)).mono ?_;rintro e w' ⟨vr', vt', rfl, h1, h3⟩;obtain ⟨a1, c1, a2, c2, rfl, rfl⟩ := h1.val;exact ⟨a1, c1, a2, c2, rfl, h1, h3⟩
end
end Go.Proofs.YtbgngikejgihgafGreatDoor

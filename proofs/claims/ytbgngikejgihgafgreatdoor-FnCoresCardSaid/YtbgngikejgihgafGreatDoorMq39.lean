import Derived.Test.YtbgngikejgihgafGreatDoorMq26
import Derived.Test.YtbgngikejgihgafGreatDoorMq34
namespace Go.Proofs.YtbgngikejgihgafGreatDoor
open Go Go.RowKit
set_option linter.unusedVariables false
set_option maxRecDepth 100000
set_option maxHeartbeats 8000000
def trs : List Value -> List Gr -> List T3v
 | v :: vs, g :: gs => (v, .int .i64 g.lo, .int .i64 g.hi) :: trs vs gs
 | _, _ => []
theorem jd : ∀ (vs : List Value) (gs : List Gr), grVs vs gs = fl3 (trs vs gs)
 | [], gs => by cases gs <;> rfl
 | v :: vs, [] => rfl
 | v :: vs, g :: gs => by simp only [grVs, trs, fl3]; rw [jd vs gs]
theorem ZB : ∀ {vs : List Value} {gs : List Gr}, vs.length = gs.length -> (trs vs gs).length = gs.length
 | [], [], _ => rfl
 | [], g :: gs, h => by simp at h
 | v :: vs, [], h => by simp at h
 | v :: vs, g :: gs, h => by simp only [trs, List.length_cons] at *; rw [ZB (by omega)]
theorem Zi : ∀ {vs us : List Value} {gs hs : List Gr}, vs.length = gs.length -> trs (vs ++ us) (gs ++ hs) = trs vs gs ++ trs us hs
 | [], us, [], hs, _ => rfl
 | [], us, g :: gs, hs, h => by simp at h
 | v :: vs, us, [], hs, h => by simp at h
 | v :: vs, us, g :: gs, hs, h => by
  simp only [List.length_cons] at h;simp only [List.cons_append, trs]
  rw [Zi (by omega)]
theorem YU : ∀ {vs : List Value} {gs : List Gr} (n : Nat), (trs vs gs).take n = trs (vs.take n) (gs.take n)
 | vs, gs, 0 => by simp [trs]
 | [], gs, n + 1 => by simp [trs]
 | v :: vs, [], n + 1 => by simp [trs]
 | v :: vs, g :: gs, n + 1 => by simp only [trs, List.take_succ_cons]; rw [YU n]
theorem YV : ∀ {vs : List Value} {gs : List Gr} (n : Nat), (trs vs gs).drop n = trs (vs.drop n) (gs.drop n)
 | vs, gs, 0 => by simp
 | [], gs, n + 1 => by simp [trs]
 | v :: vs, [], n + 1 => by
  simp [trs]
 | v :: vs, g :: gs, n + 1 => by simp only [trs, List.drop_succ_cons]; rw [YV n]
theorem JI : ∀ {vs : List Value} {gs : List Gr}, (∀ v ∈ vs, v.oneCell' = true) -> One3 (trs vs gs)
 | [], gs, _ => fun x hx => by simp [trs] at hx
 | v :: vs, [], _ => fun x hx => by simp [trs] at hx
 | v :: vs, g :: gs, h => fun x hx => by
  simp only [trs, List.mem_cons] at hx
  rcases hx with rfl | hx
  ·exact ⟨h v (by simp), rfl, rfl⟩
  ·exact JI (fun u hu => h u (List.mem_cons_of_mem _ hu)) x hx
theorem trs_rep (n : Nat) : trs (List.replicate n (.slice none 0 0)) (List.replicate n nilG) = List.replicate n (.slice none 0 0, .int .i64 0, .int .i64 0) := by
 induction n with
 | zero => rfl
 | succ n ih => simp only [List.replicate_succ, trs, ih]; rfl
theorem zC6 {vs : List Value} {gs : List Gr} (p N : Nat) (h : vs.length = gs.length) : glayA (.slice none 0 0, .int .i64 0, .int .i64 0) (trs vs gs) p N = trs (glayA (.slice none 0 0) vs p N) (glayA nilG gs p N) := by
 unfold glayA
 rw [YU, YV, ZB h, h, Zi (by simp [h]), Zi (by simp), trs_rep]
theorem Nest.app {w : World} {lo hi : Nat} {A B : List Value} {la lb : List (List Int)} (h : Nest w lo hi A la) (k : Nest w lo hi B lb) (hd : ∀ u ∈ A, ∀ v ∈ B, ∀ q, u.ownBlock = some q -> v.ownBlock ≠ some q) : Nest w lo hi (A ++ B) (la ++ lb) := by
 have part : ∀ {α : Type} {xs ys : List α} {i : Nat} {y : α}, (xs ++ ys)[i]? = some y -> (i < xs.length ∧ xs[i]? = some y) ∨ (xs.length <= i ∧ ys[i - xs.length]? = some y) := by
  intro α xs ys i y hy
  rcases Nat.lt_or_ge i xs.length with q | q
  ·rw [List.getElem?_append_left q] at hy; exact .inl ⟨q, hy⟩
  ·rw [List.getElem?_append_right q] at hy; exact .inr ⟨q, hy⟩
 refine ⟨by simp [h.len, k.len], ?_, ?_, ?_⟩
 ·intro i v l hv hl
  have e := h.len
  rcases part hv with ⟨q, a⟩ | ⟨q, a⟩
  ·rcases part hl with ⟨q', b⟩ | ⟨q', b⟩
   ·exact h.own i v l a b
   ·omega
  ·rcases part hl with ⟨q', b⟩ | ⟨q', b⟩
   ·omega
   ·rw [<- e] at b; exact k.own _ v l a b
 ·intro v hv
  rcases List.mem_append.1 hv with q | q
  ·exact h.bl v q
  ·exact k.bl v q
 ·intro i j u v q hij hu hv hq
  rcases part hu with ⟨i1, a⟩ | ⟨i1, a⟩
  ·rcases part hv with ⟨j1, b⟩ | ⟨j1, b⟩
   ·exact h.ne i j u v q hij a b hq
   ·exact hd u (List.mem_of_getElem? a) v (List.mem_of_getElem? b) q hq
  ·rcases part hv with ⟨j1, b⟩ | ⟨j1, b⟩
   ·exact fun hq' => hd v (List.mem_of_getElem? b) u (List.mem_of_getElem? a) q hq' hq
   ·exact k.ne _ _ u v q (by omega) a b hq
theorem Nest.take {w : World} {lo hi : Nat} {A : List Value} {la : List (List Int)} (h : Nest w lo hi A la) (n : Nat) : Nest w lo hi (A.take n) (la.take n) := by
 have g : ∀ {α : Type} {xs : List α} {i : Nat} {y : α}, (xs.take n)[i]? = some y -> xs[i]? = some y := by
  intro α xs i y hy;rw [List.getElem?_take] at hy
  split at hy
  ·exact hy
  ·cases hy
 exact ⟨by simp [h.len], fun i v l a b => h.own i v l (g a) (g b), fun v hv => h.bl v (List.mem_of_mem_take hv), fun i j u v q hij a b => h.ne i j u v q hij (g a) (g b)⟩
theorem Nest.drop {w : World} {lo hi : Nat} {A : List Value} {la : List (List Int)} (h : Nest w lo hi A la) (n : Nat) : Nest w lo hi (A.drop n) (la.drop n) := by
 have g : ∀ {α : Type} {xs : List α} {i : Nat} {y : α}, (xs.drop n)[i]? = some y -> xs[n + i]? = some y := by
  intro α xs i y hy;rw [List.getElem?_drop] at hy; exact hy
 exact ⟨by simp [h.len], fun i v l a b => h.own _ v l (g a) (g b), fun v hv => h.bl v (List.mem_of_mem_drop hv), fun i j u v q hij a b => h.ne _ _ u v q (by omega) (g a) (g b)⟩
theorem Nest.parts {w : World} {lo hi : Nat} {A : List Value} {la : List (List Int)} (h : Nest w lo hi A la) (n m : Nat) (hnm : n <= m) : ∀ u ∈ A.take n, ∀ v ∈ A.drop m, ∀ q, u.ownBlock = some q -> v.ownBlock ≠ some q := by
 intro u hu v hv q hq;obtain ⟨i, hi⟩ := List.getElem?_of_mem hu;obtain ⟨j, hj⟩ := List.getElem?_of_mem hv;rw [List.getElem?_take] at hi
 split at hi
 ·rw [List.getElem?_drop] at hj
  exact h.ne i (m + j) u v q (by omega) hi hj hq
 ·cases hi
abbrev z3 : T3v := (.slice none 0 0, .int .i64 0, .int .i64 0)
theorem RC.block {w w' : World} {B o : Nat} {v : Value} {lo hi : Int} (h : RC w B o v lo hi) (hh : w'.heap[B]? = w.heap[B]?) : RC w' B o v lo hi :=
 ⟨(World.cell?_of_block (w := w) (a := ⟨B, o, none⟩) hh).trans h.c0, (World.cell?_of_block (w := w) (a := ⟨B, o + 1, none⟩) hh).trans h.c1, (World.cell?_of_block (w := w) (a := ⟨B, o + 2, none⟩) hh).trans h.c2⟩
theorem zb : (Tryz.prog.info? 136).map (·.size) = some 3 := by kernel_rfl
theorem YB (w : World) : (zeroValue 136).run Tryz.prog w = .ok (.agg #[.slice none 0 0, .int .i64 0, .int .i64 0]) w := by kernel_rfl
theorem zB7 {w : World} {g : Nat} {zs : List T3v} {sp : List Value} {t : TypeId} (h : w.heap[g]? = some (.cells (fl3 zs ++ sp).toArray t (0, 0))) (p l : Nat) (hp : p + l <= zs.length) : ∀ j u, (fl3 ((zs.drop p).take l))[j]? = some u -> w.cell? ((⟨g, p * 3, none⟩ : Addr).add j) = some u := by
 intro j u hj
 have hjl : j < l * 3 := by
  have h9 := (List.getElem?_eq_some_iff.1 hj).1;rw [zF, List.length_take] at h9;omega
 rw [show (⟨g, p * 3, none⟩ : Addr).add j = ⟨g, p * 3 + j, none⟩ from jJ _ _ _, cell_of_row w g _ _ _ _ h]
 have hl := zF zs;rw [<- JY, <- JZ] at hj;rw [List.getElem?_take, if_pos hjl, List.getElem?_drop] at hj;simp only [List.getElem?_toArray]
 rw [List.getElem?_append_left (by omega)]
 exact hj
theorem zB8 (B o g cap n : Nat) (zs : List T3v) (sp : List Value) (lo hi p e m : Nat) (w : World) (h : RC w B o (.slice (some ⟨g, 0, none⟩) n cap) lo hi) (hf : GF w B o) (hr : w.heap[g]? = some (.cells (fl3 zs ++ sp).toArray 136 (0, 0))) (hN : zs.length = n) (hO : One3 zs) (hBg : B ≠ g)
  (hc : n <= cap) (h1 : lo <= hi) (h2 : hi <= n) (hn : n <= 1048576) (hp : p + (hi - lo) <= n) (ee : (p : Int) + ((hi : Int) - (lo : Int)) = e) (hlt : p < lo) (mm : min (lo : Int) (e : Int) = m) :
  Calls Tryz.prog 204 #[.pointer (some ⟨B, o, none⟩), .int .i64 p] w fun x w' => x = .returned (.tuple #[]) ∧ ∃ w1, Row1 w w1 g (fl3 (splice (splice zs e ((zs.drop p).take (lo - p))) p (List.replicate (m - p) z3)) ++ sp) 136 ∧ w' = (w1.setCell ⟨B, o + 1, none⟩ (.int .i64 p)).setCell ⟨B, o + 2, none⟩ (.int .i64 e) := by
 have HK := hide (gapRN B o (.slice (some ⟨g, 0, none⟩) n cap) lo hi w h (by omega) (by omega) (by omega))
 have H := hide h;have HF := hide hf;have HR := hide hr;have HN := hide hN
 have hee : e = p + (hi - lo) := by omega
 have HEE := hide hee;obtain ⟨c0, c1, c2⟩ := h;clear hr hN hf hee
 have L1 := hide (show ((zs.drop p).take (lo - p)).length = lo - p by simp only [List.length_take, List.length_drop, HN.out]; omega)
 have i1 : e <= hi := by omega
 have i2 : hi <= cap := by omega
 have i3 : ¬ cap = e := by omega
 have i4 : p <= lo := by omega
 have i5 : lo <= cap := by omega
 have i6 : ¬ cap = p := by omega
 have i7 : p <= m := by omega
 have i8 : m <= cap := by omega
 go_enter Tryz.func204, Tryz.ntmps204;go_wp2_with fail;refine HK.out.mono ?_;rintro x w0 ⟨rfl, mm0, rfl⟩
 have R0 := hide (show Row1 w (w.drewN mm0) g (fl3 zs ++ sp) 136 from ⟨HR.out, rfl, rfl, rfl, rfl, fun _ _ => rfl⟩)
 have H0 := hide (H.out.same (w' := w.drewN mm0) rfl);have HF0 := hide (HF.out.same (w' := w.drewN mm0) rfl);obtain ⟨d0, d1, d2⟩ := H0.out;clear c0 c1 c2 H HF HR HK;generalize w.drewN mm0 = w0 at *;go_wp2_with fail;go_still_tail 20, mixed
 refine zQ rfl (.tmp 24) (.tmp 34) 131 131 rfl 136 Tryz.underlying131 zb (some ⟨g, e * 3, none⟩) (some ⟨g, p * 3, none⟩) (hi - e) (cap - e) (lo - p) (cap - p) rfl rfl g (e * 3) (fl3 zs ++ sp) 136 (by exact R0.out.row) (lo - p) (by show lo - p = min _ _; omega) (fl3 ((zs.drop p).take (lo - p))) (by rw [zF, L1.out]) (fun _ => ⟨rfl, _, rfl, zB7 R0.out.row p (lo - p) (by rw [HN.out]; omega)⟩) (by rw [zF, L1.out, List.length_append, zF, HN.out]; omega) (One3.fl (One3.take (One3.drop hO _) _)) ?_
 intro w2 rr2
 have R2 := hide (Row1.to (R0.out.trans (Row1.of_drew rr2.out)) (zS (by rw [L1.out, HN.out]; omega)))
 have H2 := hide (H0.out.block (w' := w2) (rr2.out.block B hBg));have HF2 := hide (HF0.out.same (w' := w2) (rr2.out.block B hBg));obtain ⟨d0, d1, d2⟩ := H2.out;clear rr2 R0 H0 HF0;go_wp2_with fail;go_still_tail 12, mixed
 refine zY rfl (.tmp 47) 131 rfl 136 Tryz.underlying131 (.agg #[.slice none 0 0, .int .i64 0, .int .i64 0]) (.slice none 0 0) (.int .i64 0) (.int .i64 0) YB rfl ⟨rfl, rfl, rfl⟩ (some ⟨g, p * 3, none⟩) (m - p) (cap - p) rfl g (p * 3) _ 136 (by exact R2.out.row) (fun _ => rfl) (by rw [List.length_append, zF, length_splice _ _ _ (by rw [L1.out, HN.out]; omega), HN.out]; omega) ?_
 intro w3 rr3
 have R3 := hide (Row1.to (R2.out.trans (Row1.of_drew rr3.out)) (zS (by rw [List.length_replicate, length_splice _ _ _ (by rw [L1.out, HN.out]; omega), HN.out]; omega)))
 have H3 := hide (H2.out.block (w' := w3) (rr3.out.block B hBg));have HF3 := hide (HF2.out.same (w' := w3) (rr3.out.block B hBg));obtain ⟨d0, d1, d2⟩ := H3.out;obtain ⟨f0, f1, f2⟩ := HF3.out;clear rr3 R2 H2 HF2;go_wp2;go_end0;exact ⟨rfl, w3, R3.out, rfl⟩
theorem zDh (B o g cap n : Nat) (zs : List T3v) (sp : List Value) (lo hi p e m : Nat) (w : World) (h : RC w B o (.slice (some ⟨g, 0, none⟩) n cap) lo hi) (hf : GF w B o) (hr : w.heap[g]? = some (.cells (fl3 zs ++ sp).toArray 136 (0, 0))) (hN : zs.length = n) (hO : One3 zs) (hBg : B ≠ g)
  (hc : n <= cap) (h1 : lo <= hi) (h2 : hi <= n) (hn : n <= 1048576) (hp : p + (hi - lo) <= n) (ee : (p : Int) + ((hi : Int) - (lo : Int)) = e) (hge : lo <= p) (mm : max (hi : Int) (p : Int) = m) (q1 : ¬ cap = lo) (q2 : ¬ cap = hi) (q3 : ¬ cap = m) :
  Calls Tryz.prog 204 #[.pointer (some ⟨B, o, none⟩), .int .i64 p] w fun x w' => x = .returned (.tuple #[]) ∧ ∃ w1, Row1 w w1 g (fl3 (splice (splice zs lo ((zs.drop hi).take (e - hi))) m (List.replicate (e - m) z3)) ++ sp) 136 ∧ w' = (w1.setCell ⟨B, o + 1, none⟩ (.int .i64 p)).setCell ⟨B, o + 2, none⟩ (.int .i64 e) := by
 have HK := hide (gapRN B o (.slice (some ⟨g, 0, none⟩) n cap) lo hi w h (by omega) (by omega) (by omega))
 have H := hide h;have HF := hide hf;have HR := hide hr;have HN := hide hN
 have hee : e = p + (hi - lo) := by omega
 have HEE := hide hee;obtain ⟨c0, c1, c2⟩ := h;clear hr hN hf hee
 have L1 := hide (show ((zs.drop hi).take (e - hi)).length = p - lo by simp only [List.length_take, List.length_drop, HN.out]; omega)
 have nlt : ¬ (p : Int) < (lo : Int) := by omega
 have i1 : lo <= p := by omega
 have i2 : p <= cap := by omega
 have i3 : hi <= e := by omega
 have i4 : e <= cap := by omega
 have i5 : m <= e := by omega
 go_enter Tryz.func204, Tryz.ntmps204;go_wp2_with fail;refine HK.out.mono ?_;rintro x w0 ⟨rfl, mm0, rfl⟩
 have R0 := hide (show Row1 w (w.drewN mm0) g (fl3 zs ++ sp) 136 from ⟨HR.out, rfl, rfl, rfl, rfl, fun _ _ => rfl⟩)
 have H0 := hide (H.out.same (w' := w.drewN mm0) rfl);have HF0 := hide (HF.out.same (w' := w.drewN mm0) rfl);obtain ⟨d0, d1, d2⟩ := H0.out;clear c0 c1 c2 H HF HR HK;generalize w.drewN mm0 = w0 at *;go_wp2_with fail;go_still_tail 20, mixed
 refine zQ rfl (.tmp 57) (.tmp 67) 131 131 rfl 136 Tryz.underlying131 zb (some ⟨g, lo * 3, none⟩) (some ⟨g, hi * 3, none⟩) (p - lo) (cap - lo) (e - hi) (cap - hi) rfl rfl g (lo * 3) (fl3 zs ++ sp) 136 (by exact R0.out.row) (p - lo) (by show p - lo = min _ _; omega) (fl3 ((zs.drop hi).take (e - hi))) (by rw [zF, L1.out]) (fun _ => ⟨rfl, _, rfl, zB7 R0.out.row hi (e - hi) (by rw [HN.out]; omega)⟩) (by rw [zF, L1.out, List.length_append, zF, HN.out]; omega) (One3.fl (One3.take (One3.drop hO _) _)) ?_
 intro w2 rr2
 have R2 := hide (Row1.to (R0.out.trans (Row1.of_drew rr2.out)) (zS (by rw [L1.out, HN.out]; omega)))
 have H2 := hide (H0.out.block (w' := w2) (rr2.out.block B hBg));have HF2 := hide (HF0.out.same (w' := w2) (rr2.out.block B hBg));obtain ⟨d0, d1, d2⟩ := H2.out;clear rr2 R0 H0 HF0;go_wp2_with fail;go_still_tail 12, mixed
 refine zY rfl (.tmp 80) 131 rfl 136 Tryz.underlying131 (.agg #[.slice none 0 0, .int .i64 0, .int .i64 0]) (.slice none 0 0) (.int .i64 0) (.int .i64 0) YB rfl ⟨rfl, rfl, rfl⟩ (some ⟨g, m * 3, none⟩) (e - m) (cap - m) rfl g (m * 3) _ 136 (by exact R2.out.row) (fun hpos => rfl) (by rw [List.length_append, zF, length_splice _ _ _ (by rw [L1.out, HN.out]; omega), HN.out]; omega) ?_
 intro w3 rr3
 have R3 := hide (Row1.to (R2.out.trans (Row1.of_drew rr3.out)) (zS (by rw [List.length_replicate, length_splice _ _ _ (by rw [L1.out, HN.out]; omega), HN.out]; omega)))
 have H3 := hide (H2.out.block (w' := w3) (rr3.out.block B hBg));have HF3 := hide (HF2.out.same (w' := w3) (rr3.out.block B hBg));obtain ⟨d0, d1, d2⟩ := H3.out;obtain ⟨f0, f1, f2⟩ := HF3.out;clear rr3 R2 H2 HF2;go_wp2;go_end0;exact ⟨rfl, w3, R3.out, rfl⟩
theorem zDi (B o g cap n : Nat) (zs : List T3v) (sp : List Value) (lo hi p e m : Nat) (w : World) (h : RC w B o (.slice (some ⟨g, 0, none⟩) n cap) lo hi) (hf : GF w B o) (hr : w.heap[g]? = some (.cells (fl3 zs ++ sp).toArray 136 (0, 0))) (hN : zs.length = n) (hO : One3 zs) (hBg : B ≠ g)
  (hc : n <= cap) (h1 : lo <= hi) (h2 : hi <= n) (hn : n <= 1048576) (hp : p + (hi - lo) <= n) (ee : (p : Int) + ((hi : Int) - (lo : Int)) = e) (hge : lo <= p) (mm : max (hi : Int) (p : Int) = m) (q1 : cap = lo) :
  Calls Tryz.prog 204 #[.pointer (some ⟨B, o, none⟩), .int .i64 p] w fun x w' => x = .returned (.tuple #[]) ∧ ∃ w1, Row1 w w1 g (fl3 (splice (splice zs lo ((zs.drop hi).take (e - hi))) m (List.replicate (e - m) z3)) ++ sp) 136 ∧ w' = (w1.setCell ⟨B, o + 1, none⟩ (.int .i64 p)).setCell ⟨B, o + 2, none⟩ (.int .i64 e) := by
 obtain rfl : n = cap := by omega
 obtain rfl : n = lo := by omega
 obtain rfl : n = hi := by omega
 obtain rfl : n = p := by omega
 obtain rfl : n = e := by omega
 obtain rfl : n = m := by omega
 have HK := hide (gapRN B o (.slice (some ⟨g, 0, none⟩) n n) n n w h (by omega) (by omega) (by omega))
 have H := hide h;have HF := hide hf;have HR := hide hr;have HN := hide hN
 have hee : n = n + (n - n) := by omega
 have HEE := hide hee;obtain ⟨c0, c1, c2⟩ := h;clear hr hN hf hee
 have L1 := hide (show ((zs.drop n).take (n - n)).length = n - n by simp only [List.length_take, List.length_drop, HN.out]; omega)
 have nlt : ¬ (n : Int) < (n : Int) := by omega
 go_enter Tryz.func204, Tryz.ntmps204;go_wp2_with fail;refine HK.out.mono ?_;rintro x w0 ⟨rfl, mm0, rfl⟩
 have R0 := hide (show Row1 w (w.drewN mm0) g (fl3 zs ++ sp) 136 from ⟨HR.out, rfl, rfl, rfl, rfl, fun _ _ => rfl⟩)
 have H0 := hide (H.out.same (w' := w.drewN mm0) rfl);have HF0 := hide (HF.out.same (w' := w.drewN mm0) rfl);obtain ⟨d0, d1, d2⟩ := H0.out;clear c0 c1 c2 H HF HR HK;generalize w.drewN mm0 = w0 at *;go_wp2_with fail;go_still_tail 20, mixed
 refine zQ rfl (.tmp 57) (.tmp 67) 131 131 rfl 136 Tryz.underlying131 zb (some ⟨g, 0, none⟩) (some ⟨g, 0, none⟩) 0 0 0 0 rfl rfl g (n * 3) (fl3 zs ++ sp) 136 (by exact R0.out.row) (n - n) (by show n - n = min _ _; omega) (fl3 ((zs.drop n).take (n - n))) (by rw [zF, L1.out]) (fun hpos => absurd hpos (by omega)) (by rw [zF, L1.out, List.length_append, zF, HN.out]; omega) (One3.fl (One3.take (One3.drop hO _) _)) ?_
 intro w2 rr2
 have R2 := hide (Row1.to (R0.out.trans (Row1.of_drew rr2.out)) (zS (by rw [L1.out, HN.out]; omega)))
 have H2 := hide (H0.out.block (w' := w2) (rr2.out.block B hBg));have HF2 := hide (HF0.out.same (w' := w2) (rr2.out.block B hBg));obtain ⟨d0, d1, d2⟩ := H2.out;clear rr2 R0 H0 HF0;go_wp2_with fail;go_still_tail 12, mixed
 refine zY rfl (.tmp 80) 131 rfl 136 Tryz.underlying131 (.agg #[.slice none 0 0, .int .i64 0, .int .i64 0]) (.slice none 0 0) (.int .i64 0) (.int .i64 0) YB rfl ⟨rfl, rfl, rfl⟩ (some ⟨g, 0, none⟩) 0 0 rfl g (n * 3) _ 136 (by exact R2.out.row) (fun hpos => absurd hpos (by omega)) (by rw [List.length_append, zF, length_splice _ _ _ (by rw [L1.out, HN.out]; omega), HN.out]; omega) ?_
 intro w3 rr3
 have R3 := hide (Row1.to (R2.out.trans (Row1.of_drew rr3.out)) (zS (by rw [List.length_replicate, length_splice _ _ _ (by rw [L1.out, HN.out]; omega), HN.out]; omega)))
 have H3 := hide (H2.out.block (w' := w3) (rr3.out.block B hBg));have HF3 := hide (HF2.out.same (w' := w3) (rr3.out.block B hBg));obtain ⟨d0, d1, d2⟩ := H3.out;obtain ⟨f0, f1, f2⟩ := HF3.out;clear rr3 R2 H2 HF2;go_wp2;go_end0
 exact ⟨rfl, w3, by rw [show List.replicate (n - n) z3 = List.replicate 0 z3 by rw [Nat.sub_self]]; exact R3.out, rfl⟩
theorem zDj (B o g cap n : Nat) (zs : List T3v) (sp : List Value) (lo hi p e m : Nat) (w : World) (h : RC w B o (.slice (some ⟨g, 0, none⟩) n cap) lo hi) (hf : GF w B o) (hr : w.heap[g]? = some (.cells (fl3 zs ++ sp).toArray 136 (0, 0))) (hN : zs.length = n) (hO : One3 zs) (hBg : B ≠ g)
  (hc : n <= cap) (h1 : lo <= hi) (h2 : hi <= n) (hn : n <= 1048576) (hp : p + (hi - lo) <= n) (ee : (p : Int) + ((hi : Int) - (lo : Int)) = e) (hge : lo <= p) (mm : max (hi : Int) (p : Int) = m) (q1 : ¬ cap = lo) (q2 : cap = hi) :
  Calls Tryz.prog 204 #[.pointer (some ⟨B, o, none⟩), .int .i64 p] w fun x w' => x = .returned (.tuple #[]) ∧ ∃ w1, Row1 w w1 g (fl3 (splice (splice zs lo ((zs.drop hi).take (e - hi))) m (List.replicate (e - m) z3)) ++ sp) 136 ∧ w' = (w1.setCell ⟨B, o + 1, none⟩ (.int .i64 p)).setCell ⟨B, o + 2, none⟩ (.int .i64 e) := by
 obtain rfl : n = cap := by omega
 obtain rfl : n = hi := by omega
 obtain rfl : lo = p := by omega
 obtain rfl : n = e := by omega
 obtain rfl : n = m := by omega
 have HK := hide (gapRN B o (.slice (some ⟨g, 0, none⟩) n n) lo n w h (by omega) (by omega) (by omega))
 have H := hide h;have HF := hide hf;have HR := hide hr;have HN := hide hN
 have hee : n = lo + (n - lo) := by omega
 have HEE := hide hee;obtain ⟨c0, c1, c2⟩ := h;clear hr hN hf hee
 have L1 := hide (show ((zs.drop n).take (n - n)).length = lo - lo by simp only [List.length_take, List.length_drop, HN.out]; omega)
 have nlt : ¬ (lo : Int) < (lo : Int) := by omega
 have i9 : lo <= n := by omega
 go_enter Tryz.func204, Tryz.ntmps204;go_wp2_with fail;refine HK.out.mono ?_;rintro x w0 ⟨rfl, mm0, rfl⟩
 have R0 := hide (show Row1 w (w.drewN mm0) g (fl3 zs ++ sp) 136 from ⟨HR.out, rfl, rfl, rfl, rfl, fun _ _ => rfl⟩)
 have H0 := hide (H.out.same (w' := w.drewN mm0) rfl);have HF0 := hide (HF.out.same (w' := w.drewN mm0) rfl);obtain ⟨d0, d1, d2⟩ := H0.out;clear c0 c1 c2 H HF HR HK;generalize w.drewN mm0 = w0 at *;go_wp2_with fail;go_still_tail 20, mixed
 refine zQ rfl (.tmp 57) (.tmp 67) 131 131 rfl 136 Tryz.underlying131 zb (some ⟨g, lo * 3, none⟩) (some ⟨g, 0, none⟩) 0 (n - lo) 0 0 rfl rfl g (lo * 3) (fl3 zs ++ sp) 136 (by exact R0.out.row) (lo - lo) (by show lo - lo = min _ _; omega) (fl3 ((zs.drop n).take (n - n))) (by rw [zF, L1.out]) (fun hpos => absurd hpos (by omega)) (by rw [zF, L1.out, List.length_append, zF, HN.out]; omega) (One3.fl (One3.take (One3.drop hO _) _)) ?_
 intro w2 rr2
 have R2 := hide (Row1.to (R0.out.trans (Row1.of_drew rr2.out)) (zS (by rw [L1.out, HN.out]; omega)))
 have H2 := hide (H0.out.block (w' := w2) (rr2.out.block B hBg));have HF2 := hide (HF0.out.same (w' := w2) (rr2.out.block B hBg));obtain ⟨d0, d1, d2⟩ := H2.out;clear rr2 R0 H0 HF0;go_wp2_with fail;go_still_tail 12, mixed
 refine zY rfl (.tmp 80) 131 rfl 136 Tryz.underlying131 (.agg #[.slice none 0 0, .int .i64 0, .int .i64 0]) (.slice none 0 0) (.int .i64 0) (.int .i64 0) YB rfl ⟨rfl, rfl, rfl⟩ (some ⟨g, 0, none⟩) 0 0 rfl g (n * 3) _ 136 (by exact R2.out.row) (fun hpos => absurd hpos (by omega)) (by rw [List.length_append, zF, length_splice _ _ _ (by rw [L1.out, HN.out]; omega), HN.out]; omega) ?_
 intro w3 rr3
 have R3 := hide (Row1.to (R2.out.trans (Row1.of_drew rr3.out)) (zS (by rw [List.length_replicate, length_splice _ _ _ (by rw [L1.out, HN.out]; omega), HN.out]; omega)))
 have H3 := hide (H2.out.block (w' := w3) (rr3.out.block B hBg));have HF3 := hide (HF2.out.same (w' := w3) (rr3.out.block B hBg));obtain ⟨d0, d1, d2⟩ := H3.out;obtain ⟨f0, f1, f2⟩ := HF3.out;clear rr3 R2 H2 HF2;go_wp2;go_end0
 exact ⟨rfl, w3, by rw [show List.replicate (n - n) z3 = List.replicate 0 z3 by rw [Nat.sub_self]]; exact R3.out, rfl⟩
theorem zDk (B o g cap n : Nat) (zs : List T3v) (sp : List Value) (lo hi p e m : Nat) (w : World) (h : RC w B o (.slice (some ⟨g, 0, none⟩) n cap) lo hi) (hf : GF w B o) (hr : w.heap[g]? = some (.cells (fl3 zs ++ sp).toArray 136 (0, 0))) (hN : zs.length = n) (hO : One3 zs) (hBg : B ≠ g)
  (hc : n <= cap) (h1 : lo <= hi) (h2 : hi <= n) (hn : n <= 1048576) (hp : p + (hi - lo) <= n) (ee : (p : Int) + ((hi : Int) - (lo : Int)) = e) (hge : lo <= p) (mm : max (hi : Int) (p : Int) = m) (q1 : ¬ cap = lo) (q2 : ¬ cap = hi) (q3 : cap = m) :
  Calls Tryz.prog 204 #[.pointer (some ⟨B, o, none⟩), .int .i64 p] w fun x w' => x = .returned (.tuple #[]) ∧ ∃ w1, Row1 w w1 g (fl3 (splice (splice zs lo ((zs.drop hi).take (e - hi))) m (List.replicate (e - m) z3)) ++ sp) 136 ∧ w' = (w1.setCell ⟨B, o + 1, none⟩ (.int .i64 p)).setCell ⟨B, o + 2, none⟩ (.int .i64 e) := by
 obtain rfl : n = cap := by omega
 obtain rfl : n = m := by omega
 obtain rfl : n = p := by omega
 obtain rfl : n = e := by omega
 obtain rfl : lo = hi := by omega
 have HK := hide (gapRN B o (.slice (some ⟨g, 0, none⟩) n n) lo lo w h (by omega) (by omega) (by omega))
 have H := hide h;have HF := hide hf;have HR := hide hr;have HN := hide hN
 have hee : n = n + (lo - lo) := by omega
 have HEE := hide hee;obtain ⟨c0, c1, c2⟩ := h;clear hr hN hf hee
 have L1 := hide (show ((zs.drop lo).take (n - lo)).length = n - lo by simp only [List.length_take, List.length_drop, HN.out]; omega)
 have nlt : ¬ (n : Int) < (lo : Int) := by omega
 have i9 : lo <= n := by omega
 go_enter Tryz.func204, Tryz.ntmps204;go_wp2_with fail;refine HK.out.mono ?_;rintro x w0 ⟨rfl, mm0, rfl⟩
 have R0 := hide (show Row1 w (w.drewN mm0) g (fl3 zs ++ sp) 136 from ⟨HR.out, rfl, rfl, rfl, rfl, fun _ _ => rfl⟩)
 have H0 := hide (H.out.same (w' := w.drewN mm0) rfl);have HF0 := hide (HF.out.same (w' := w.drewN mm0) rfl);obtain ⟨d0, d1, d2⟩ := H0.out;clear c0 c1 c2 H HF HR HK;generalize w.drewN mm0 = w0 at *;go_wp2_with fail;go_still_tail 20, mixed
 refine zQ rfl (.tmp 57) (.tmp 67) 131 131 rfl 136 Tryz.underlying131 zb (some ⟨g, lo * 3, none⟩) (some ⟨g, lo * 3, none⟩) (n - lo) (n - lo) (n - lo) (n - lo) rfl rfl g (lo * 3) (fl3 zs ++ sp) 136 (by exact R0.out.row) (n - lo) (by show n - lo = min _ _; omega) (fl3 ((zs.drop lo).take (n - lo))) (by rw [zF, L1.out]) (fun _ => ⟨rfl, _, rfl, zB7 R0.out.row lo (n - lo) (by rw [HN.out]; omega)⟩) (by rw [zF, L1.out, List.length_append, zF, HN.out]; omega) (One3.fl (One3.take (One3.drop hO _) _)) ?_
 intro w2 rr2
 have R2 := hide (Row1.to (R0.out.trans (Row1.of_drew rr2.out)) (zS (by rw [L1.out, HN.out]; omega)))
 have H2 := hide (H0.out.block (w' := w2) (rr2.out.block B hBg));have HF2 := hide (HF0.out.same (w' := w2) (rr2.out.block B hBg));obtain ⟨d0, d1, d2⟩ := H2.out;clear rr2 R0 H0 HF0;go_wp2_with fail;go_still_tail 12, mixed
 refine zY rfl (.tmp 80) 131 rfl 136 Tryz.underlying131 (.agg #[.slice none 0 0, .int .i64 0, .int .i64 0]) (.slice none 0 0) (.int .i64 0) (.int .i64 0) YB rfl ⟨rfl, rfl, rfl⟩ (some ⟨g, 0, none⟩) 0 0 rfl g (n * 3) _ 136 (by exact R2.out.row) (fun hpos => absurd hpos (by omega)) (by rw [List.length_append, zF, length_splice _ _ _ (by rw [L1.out, HN.out]; omega), HN.out]; omega) ?_
 intro w3 rr3
 have R3 := hide (Row1.to (R2.out.trans (Row1.of_drew rr3.out)) (zS (by rw [List.length_replicate, length_splice _ _ _ (by rw [L1.out, HN.out]; omega), HN.out]; omega)))
 have H3 := hide (H2.out.block (w' := w3) (rr3.out.block B hBg));have HF3 := hide (HF2.out.same (w' := w3) (rr3.out.block B hBg));obtain ⟨d0, d1, d2⟩ := H3.out;obtain ⟨f0, f1, f2⟩ := HF3.out;clear rr3 R2 H2 HF2;go_wp2;go_end0
 exact ⟨rfl, w3, by rw [show List.replicate (n - n) z3 = List.replicate 0 z3 by rw [Nat.sub_self]]; exact R3.out, rfl⟩
theorem moveRN (B o g cap : Nat) (zs : List T3v) (sp : List Value) (lo hi p : Nat) (w : World) (h : RC w B o (.slice (some ⟨g, 0, none⟩) zs.length cap) lo hi) (hf : GF w B o) (hr : w.heap[g]? = some (.cells (fl3 zs ++ sp).toArray 136 (0, 0))) (hO : One3 zs) (hBg : B ≠ g)
  (hc : zs.length <= cap) (hv : GVA z3 zs lo hi) (hp : p + (hi - lo) <= zs.length) :
  Calls Tryz.prog 204 #[.pointer (some ⟨B, o, none⟩), .int .i64 p] w fun x w' => x = .returned (.tuple #[]) ∧ ∃ w1, Row1 w w1 g (fl3 (glayA z3 (zP zs lo hi) p zs.length) ++ sp) 136 ∧ w' = (w1.setCell ⟨B, o + 1, none⟩ (.int .i64 p)).setCell ⟨B, o + 2, none⟩ (.int .i64 ((p + (hi - lo) : Nat) : Int)) := by
 have h1 := hv.a;have h2 := hv.b;have h3 := hv.c
 by_cases hlt : p < lo
 ·rw [<- Kj hv hlt]
  exact zB8 B o g cap zs.length zs sp lo hi p (p + (hi - lo)) (min lo (p + (hi - lo))) w h hf hr rfl hO hBg hc h1 h2 (by omega) hp (by omega) hlt (by omega)
 ·have hge : lo <= p := by omega
  have e1 := zCy hv hge hp;rw [<- e1]
  by_cases q1 : cap = lo
  ·exact zDi B o g cap zs.length zs sp lo hi p (p + (hi - lo)) (max hi p) w h hf hr rfl hO hBg hc h1 h2 (by omega) hp (by omega) hge (by omega) q1
  ·by_cases q2 : cap = hi
   ·exact zDj B o g cap zs.length zs sp lo hi p (p + (hi - lo)) (max hi p) w h hf hr rfl hO hBg hc h1 h2 (by omega) hp (by omega) hge (by omega) q1 q2
   ·by_cases q3 : cap = max hi p
    ·exact zDk B o g cap zs.length zs sp lo hi p (p + (hi - lo)) (max hi p) w h hf hr rfl hO hBg hc h1 h2 (by omega) hp (by omega) hge (by omega) q1 q2 q3
    ·exact zDh B o g cap zs.length zs sp lo hi p (p + (hi - lo)) (max hi p) w h hf hr rfl hO hBg hc h1 h2 (by omega) hp (by omega) hge (by omega) q1 q2 q3
end Go.Proofs.YtbgngikejgihgafGreatDoor

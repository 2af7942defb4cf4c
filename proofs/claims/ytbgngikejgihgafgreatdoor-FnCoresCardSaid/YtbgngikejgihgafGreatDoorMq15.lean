import Derived.Test.YtbgngikejgihgafGreatDoorMq14
import Derived.Lib.Hide
namespace Go.Proofs.YtbgngikejgihgafGreatDoor
open Go Go.RowKit
set_option linter.unusedVariables false
set_option maxRecDepth 100000
set_option maxHeartbeats 8000000
theorem Y8 {T : AT} {d : Int} {x : It} (h : x ∈ T.told d) : x.pc ∈ T.flat := by
 rw [<- AT.flat_of T d]; exact List.mem_map.2 ⟨x, h, rfl⟩
theorem KZ (T : AT) (hb : T.bal) (hok : T.ok) : readT (T.told 0) = some T := by
 have hits : (T.told 0).length = T.its := AT.told_length T 0;have bd := hok.bd
 have hp := yb T 8200 0 [] hb (by have := AT.bal_low T hb (by omega); omega) (fun y yt h => by cases h)
 rw [List.append_nil] at hp;unfold readT;rw [if_pos, hp];simp only [okI, Bool.and_eq_true, decide_eq_true_eq]
 refine ⟨List.all_eq_true.2 fun x hx => ?_, by rw [AT.rns_told]; exact hok.2⟩
 have h1 := hok.1 x.pc (Y8 hx);have h2 := AT.told_lv T 0 x hx;have h3 := AT.ht_its T;simp only [Bool.and_eq_true, decide_eq_true_eq]
 exact ⟨h1, by omega, by omega⟩
theorem zAb {S : List Int} {T : AT} (hb : T.bal) (hok : T.ok) (hw : T.wp S) (hS : S.length <= 220000) : pRead S (T.told 0) = some T := by
 unfold pRead;rw [KZ T hb hok];simp only;rw [if_pos]
 refine ⟨hS, List.all_eq_true.2 fun x hx => ?_⟩
 have hm := Y8 hx;exact (zBo (hok.1 _ hm)).2 ((zR S T).1 hw _ hm)
theorem jF (S : List Int) : ∀ T : AT, T.tx S = T.flat.flatMap (ptx S)
 | .nil => rfl
 | .node l p r => by simp only [AT.tx, AT.flat, List.flatMap_append, List.flatMap_cons, jF S l, jF S r]
theorem XY {S : List Int} {p q : Pc} (hp : WP S p) (hq : WP S q) (hm : p.off + p.len = q.off) : ptx S (pcAt S p.off (p.len + q.len)) = ptx S p ++ ptx S q := by
 obtain ⟨a1, a2, a3, _⟩ := hp;obtain ⟨b1, b2, b3, _⟩ := hq;unfold ptx pcAt;simp only
 rw [show (p.len + q.len).toNat = p.len.toNat + q.len.toNat by omega, List.take_add, List.drop_drop, show p.off.toNat + p.len.toNat = q.off.toNat by omega]
theorem Back.wp {S : List Int} {T R : AT} (h : Back S T.flat R.flat) (hw : T.wp S) : R.wp S := by
 have hwf := (zR S T).1 hw
 refine (zR S R).2 fun x hx => ?_
 rcases h with e | ⟨r, p, q, hp, hq, hm, e⟩
 ·rw [e] at hx; exact hwf x hx
 ·rw [e] at hx
  simp only [List.mem_append, List.mem_cons] at hx
  rcases hx with hx | rfl | hx
  ·exact hwf x (List.mem_of_mem_take hx)
  ·have a := hwf _ (List.mem_of_getElem? hp)
   have b := hwf _ (List.mem_of_getElem? hq)
   exact jC a.1 (by have := a.2.1; have := b.2.1; omega) (by have := b.2.2.1; omega)
  ·exact hwf x (List.mem_of_mem_drop hx)
theorem ptx_app {zs : List Int} {p : Pc} (h : WP zs p) (ts : List Int) : ptx (zs ++ ts) p = ptx zs p := by
 obtain ⟨h1, h2, h3, h4⟩ := h;unfold ptx
 rw [List.drop_append_of_le_length (by omega), List.take_append_of_le_length (by rw [List.length_drop]; omega)]
theorem tx_app {zs : List Int} {T : AT} (h : T.wp zs) (ts : List Int) : T.tx (zs ++ ts) = T.tx zs := by
 rw [jF, jF];have hwf := (zR zs T).1 h
 have : ∀ F : List Pc, (∀ p ∈ F, WP zs p) -> F.flatMap (ptx (zs ++ ts)) = F.flatMap (ptx zs) := by
  intro F
  induction F with
  | nil => intro _; rfl
  | cons p F ih => intro hF; rw [List.flatMap_cons, List.flatMap_cons, ptx_app (hF p (by simp)) ts, ih (fun q hq => hF q (by simp [hq]))]
 exact this _ hwf
theorem Ka {zs ts : List Int} {T : AT} {off : Int} (h : T.ok) (hw : T.wp zs) (h0 : 0 <= off) (h1 : off <= T.rns) (hm : 0 < ts.length) :
  (insP (zs ++ ts) zs.length T off).wp (zs ++ ts) ∧ (insP (zs ++ ts) zs.length T off).rns = T.rns + ts.length ∧ (insP (zs ++ ts) zs.length T off).its <= T.its + 2 := by
 have hSl : (zs ++ ts).length = zs.length + ts.length := List.length_append;have hwS := hw.app ts
 have hmS : ((zs ++ ts).length : Int) - (zs.length : Int) = (ts.length : Int) := by omega
 have hwz := (zR zs T).1 hw;have hwf := (zR (zs ++ ts) T).1 hwS
 by_cases hcase : ∃ r y, cutN T off = r + 1 ∧ (T.told 0)[r]? = some y ∧ total ((T.told 0).take (cutN T off)) = off ∧ y.pc.off + y.pc.len = (zs.length : Int)
 ·obtain ⟨r, y, hR, hy, ht, hme⟩ := hcase
  have hI := zCn (S := zs ++ ts) h h0 h1 hR hy ht hme;rw [hmS] at hI
  have hf : T.flat[r]? = some y.pc := by rw [<- AT.flat_of T 0, List.getElem?_map, hy]; rfl
  have fI := yL T r (pcAt (zs ++ ts) y.pc.off (y.pc.len + (ts.length : Int))) _ hf;have hpl := yc h _ (List.mem_of_getElem? hf);rw [hI]
  refine ⟨?_, ?_, by rw [AT.put_its]; omega⟩
  ·refine (zR _ _).2 fun p hp => ?_
   rw [fI] at hp;simp only [List.mem_append, List.mem_cons] at hp
   rcases hp with hp | rfl | hp
   ·exact hwf _ (List.mem_of_mem_take hp)
   ·have := (hwf _ (List.mem_of_getElem? hf)).1
    exact jC this (by omega) (by omega)
   ·exact hwf _ (List.mem_of_mem_drop hp)
  ·rw [AT.rns_lsum, AT.rns_lsum, fI, zL, zH]
   have e := (zX hf).1
   have : lsum T.flat = lsum (T.flat.take r) + (y.pc.len + lsum (T.flat.drop (r + 1))) := by
    conv => lhs; rw [e]
    rw [zL, zH]
   simp only [pcAt];omega
 ·have hI := zCo (S := zs ++ ts) h (fun p hp => (hwz p hp).2.2.1) h0 h1 hcase
  rw [hmS] at hI;obtain ⟨hA1, hA2⟩ := jD (S := zs ++ ts) h h0 h1
  have fI : (insP (zs ++ ts) zs.length T off).flat = (cutP (zs ++ ts) T off).flat.take (cutN T off) ++ pcAt (zs ++ ts) (zs.length : Int) (ts.length : Int) :: (cutP (zs ++ ts) T off).flat.drop (cutN T off) := by rw [hI, AT.ins_flat _ _ _ hA1]
  have wpC := (zR _ _).1 (jj (S := zs ++ ts) h hwS h0 h1);refine ⟨?_, ?_, ?_⟩
  ·refine (zR _ _).2 fun p hp => ?_
   rw [fI] at hp;simp only [List.mem_append, List.mem_cons] at hp
   rcases hp with hp | rfl | hp
   ·exact wpC _ (List.mem_of_mem_take hp)
   ·exact jC (by omega) (by omega) (by omega)
   ·exact wpC _ (List.mem_of_mem_drop hp)
  ·rw [AT.rns_lsum, fI, zL, zH]
   have e1 := ZL (S := zs ++ ts) h h0 h1
   have e2 : lsum (cutP (zs ++ ts) T off).flat = lsum ((cutP (zs ++ ts) T off).flat.take (cutN T off)) + lsum ((cutP (zs ++ ts) T off).flat.drop (cutN T off)) := by rw [<- zL, List.take_append_drop]
   rw [AT.rns_lsum];simp only [pcAt];omega
  ·have e3 : (cutP (zs ++ ts) T off).its <= T.its + 1 := by
    by_cases hi : skI T off = 0
    ·rw [cutP, if_pos hi]; omega
    ·rw [<- AT.flat_its, yY h h0 h1 hi, List.length_append, List.length_cons, List.length_cons, List.length_take, List.length_drop, AT.flat_its]
     obtain ⟨c0, s, c⟩ := sk_at h h0 h1;have := (zX (c.resolve_left hi).2.2).2;rw [AT.flat_its] at this;omega
   have e4 : (cutP (zs ++ ts) T off).flat.length = (cutP (zs ++ ts) T off).its := AT.flat_its _;rw [<- AT.flat_its, fI, List.length_append, List.length_cons, List.length_take, List.length_drop]; omega
theorem zCp {S : List Int} {T : AT} {R : Nat} (h : T.bal) : (healP S T R).bal := by
 cases hb : healB T R with
 | false => rw [healP, if_neg (by rw [hb]; simp)]; exact h
 | true =>
  rw [healP, if_pos hb];simp only [healB, decide_eq_true_eq] at hb
  exact (AT.rem_bal _ _ (AT.put_bal _ _ _ h) (by rw [AT.put_its]; exact hb.1.2)).1
theorem delP_all {S : List Int} {T : AT} {lo hi : Int} (h : T.ok) (hb : T.bal) (hw : T.wp S) (hS : S.length <= 220000) (h0 : 0 <= lo) (hlh : lo <= hi) (h1 : hi <= T.rns) :
  (delP S T lo hi).ok ∧ (delP S T lo hi).bal ∧ (delP S T lo hi).wp S ∧ (delP S T lo hi).rns <= T.rns := by
 have F := delF h hb hw hS h0 hlh h1;have hwJ := (zR S _).1 F.wpJ
 have rJ : (dlJ S T lo hi).rns <= T.rns := by
  have sf := AT.split_flat (dl2 S T lo hi) (cutN T lo) F.a2;have fX : (dlX S T lo hi).flat = (dl2 S T lo hi).flat.take (cutN T lo) := sf.1;have fY : (dlY S T lo hi).flat = (dl2 S T lo hi).flat.drop (cutN T lo) := sf.2
  have sf2 := AT.split_flat (dlY S T lo hi) (dlZ S T lo hi - cutN T lo) (by have := F.yits; have := F.z2; omega)
  have fW : (dlW S T lo hi).flat = (dlY S T lo hi).flat.drop (dlZ S T lo hi - cutN T lo) := sf2.2
  have r2 : (dl2 S T lo hi).rns = T.rns := by rw [dl2, KG F.ok1 (by omega) (by rw [F.rn1]; exact h1), F.rn1]
  have e1 : lsum (dl2 S T lo hi).flat = lsum ((dl2 S T lo hi).flat.take (cutN T lo)) + lsum ((dl2 S T lo hi).flat.drop (cutN T lo)) := by rw [<- zL, List.take_append_drop]
  have e2 : lsum (dlY S T lo hi).flat = lsum ((dlY S T lo hi).flat.take (dlZ S T lo hi - cutN T lo)) + lsum ((dlY S T lo hi).flat.drop (dlZ S T lo hi - cutN T lo)) := by rw [<- zL, List.take_append_drop]
  have e3 := jk (F := (dlY S T lo hi).flat.take (dlZ S T lo hi - cutN T lo)) (fun q hq => yc F.okY q (List.mem_of_mem_take hq))
  rw [AT.rns_lsum] at r2;rw [AT.rns_lsum, dlJ, AT.join_flat, zL, fX, fW];rw [fY] at e2 e3 |-;omega
 refine ⟨F.okR, zCp F.balJ, ?_, ?_⟩
 ·cases hhb : healB (dlJ S T lo hi) (cutN T lo) with
  | false => rw [delP, healP, if_neg (by rw [hhb]; simp)]; exact F.wpJ
  | true =>
   have h9 := hhb;simp only [healB, decide_eq_true_eq] at h9
   have ha := zu (T := dlJ S T lo hi) (R := cutN T lo) h9.1.1 (by omega)
   have hq := Y3 (T := dlJ S T lo hi) (R := cutN T lo) h9.1.2
   refine (zR S _).2 fun x hx => ?_
   rw [delP, jl hhb] at hx;simp only [List.mem_append, List.mem_cons] at hx
   rcases hx with hx | rfl | hx
   ·exact hwJ x (List.mem_of_mem_take hx)
   ·have a := hwJ _ (List.mem_of_getElem? ha)
    have b := hwJ _ (List.mem_of_getElem? hq)
    exact jC a.1 (by have := a.2.1; have := b.2.1; omega) (by have := b.2.2.1; omega)
   ·exact hwJ x (List.mem_of_mem_drop hx)
 ·refine Int.le_trans ?_ rJ
  cases hhb : healB (dlJ S T lo hi) (cutN T lo) with
  | false => rw [delP, healP, if_neg (by rw [hhb]; simp)]; exact Int.le_refl _
  | true =>
   have h9 := hhb;simp only [healB, decide_eq_true_eq] at h9
   have ha := zu (T := dlJ S T lo hi) (R := cutN T lo) h9.1.1 (by omega)
   have hq := Y3 (T := dlJ S T lo hi) (R := cutN T lo) h9.1.2;have e := XR h9.1.1 ha hq;rw [AT.rns_lsum, AT.rns_lsum, delP, jl hhb, zL, zH]
   have : lsum (dlJ S T lo hi).flat = lsum ((dlJ S T lo hi).flat.take (cutN T lo - 1)) + ((ahead (dlJ S T lo hi) (cutN T lo)).len + ((atP (dlJ S T lo hi) (cutN T lo)).len + lsum ((dlJ S T lo hi).flat.drop (cutN T lo + 1)))) := by
    conv => lhs; rw [e]
    rw [zL, zH, zH]
   simp only [pcAt];omega
theorem OwI.shape {w : World} {base : Nat} {v : Value} {xs : List It} (h : OwI w base v xs) : (v = .slice none 0 0 ∧ xs = []) ∨ ∃ g cap, v = .slice (some ⟨g, 0, none⟩) xs.length cap ∧ xs.length <= cap ∧ cap <= maxLen ∧ base <= g ∧ g < w.heap.size := by
 rcases h.2 with ⟨h1, h2⟩ | ⟨g, cap, cur, h1, h2, h3, h4, h5, _⟩
 ·exact .inl ⟨h1, List.eq_nil_of_length_eq_zero h2⟩
 ·exact .inr ⟨g, cap, h1, h4, h5, h2, (h.lt g (by rw [h1]; rfl)).2⟩
theorem OwI.cells {w : World} {base g cap : Nat} {xs : List It} (h : OwI w base (.slice (some ⟨g, 0, none⟩) xs.length cap) xs) : ∀ j u, (itVs xs)[j]? = some u -> w.cell? ((⟨g, 0, none⟩ : Addr).add j) = some u := by
 intro j u hj
 have h1 := h.cellAt j (by have := (List.getElem?_eq_some_iff.1 hj).1; rw [Yn] at this; omega)
 rw [Addr.add_lit, Nat.zero_add, h1, hj]
theorem itVs_one (xs : List It) : ∀ u ∈ itVs xs, u.oneCell' = true := by
 intro u hu;simp only [itVs, itV, List.mem_flatMap, List.mem_cons, List.not_mem_nil, or_false] at hu
 obtain ⟨x, _, h | h | h | h⟩ := hu <;> subst h <;> rfl
theorem own_row2 {w : World} {base : Nat} {e : TypeId} {size : Nat} {v : Value} {n : Nat} {xs : List Value} (h : w.ownsRow base e size v n xs) : ∀ q, v.ownBlock = some q -> base <= q := fun q hq => (h.lt q hq).1
theorem own_sl {w : World} {base : Nat} {e : TypeId} {size : Nat} {v : Value} {n : Nat} {xs : List Value} (h : w.ownsRow base e size v n xs) : ∃ ao m cap, v = .slice ao m cap := by
 rcases h.2 with ⟨rfl, _⟩ | ⟨g, cap, cur, rfl, _⟩
 ·exact ⟨_, _, _, rfl⟩
 ·exact ⟨_, _, _, rfl⟩
theorem Kb {w : World} {base b n : Nat} {e t : TypeId} {size : Nat} {v : Value} {xs : List Value} {cs : Array Value} {fz : Nat × Nat} (ho : w.ownsRow base e size v n xs) (hb : w.heap[b]? = some (.cells cs t fz)) (hne : e ≠ t) : some b ≠ v.ownBlock := by
 rcases ho.2 with ⟨rfl, _⟩ | ⟨g', cap', cur, rfl, _, hg, _⟩
 ·simp [Value.ownBlock]
 ·intro h
  simp only [Value.ownBlock, Option.some.injEq] at h;subst h;rw [hb] at hg;cases hg;exact hne rfl
def pcC (q : Pc) : List Value := [.int .i64 q.off, .int .i64 q.len, .int .i64 q.brk]
def pcCs (qs : List Pc) : List Value := qs.flatMap pcC
theorem Kc (a b : List Pc) : pcCs (a ++ b) = pcCs a ++ pcCs b := by simp [pcCs]
theorem JQ (qs : List Pc) (i k : Nat) (q : Pc) (h : qs[i]? = some q) (hk : k < 3) : (pcCs qs)[i * 3 + k]? = (pcC q)[k]? := by
 induction qs generalizing i with
 | nil => simp at h
 | cons a t ih =>
  have e : pcCs (a :: t) = pcC a ++ pcCs t := by simp [pcCs]
  rw [e]
  cases i with
  | zero => simp at h; subst h; rw [List.getElem?_append_left (by simp [pcC]; omega)]; simp
  | succ i =>
   rw [List.getElem?_append_right (by simp [pcC]; omega)]
   have := ih i (by simpa using h)
   rw [<- this]
   congr 1
   simp [pcC]; omega
theorem Tryz.infoPC : (Tryz.prog.info? 87).map (fun i => (i.zero, i.size, i.bytes)) = some (some (.agg #[.int .i64 0, .int .i64 0, .int .i64 0]), 3, 24) := by kernel_rfl
def OwP (w : World) (base : Nat) (v : Value) (qs : List Pc) : Prop := w.ownsRow base 87 3 v qs.length (pcCs qs)
def PcAt (w : World) (b o : Nat) (q : Pc) : Prop :=
 w.cell? ⟨b, o, none⟩ = some (.int .i64 q.off) ∧ w.cell? ⟨b, o + 1, none⟩ = some (.int .i64 q.len) ∧ w.cell? ⟨b, o + 2, none⟩ = some (.int .i64 q.brk)
def RdP (B : Nat) (w : World) (v : Value) (qs : List Pc) : Prop :=
 (∃ ao cap, v = .slice ao 0 cap ∧ qs = []) ∨
 (∃ b off cap, v = .slice (some ⟨b, off, none⟩) qs.length cap ∧ (0 < qs.length ∧ qs.length <= cap ∧ cap <= maxLen) ∧ b < B ∧ ∀ i q, qs[i]? = some q -> PcAt w b (off + i * 3) q)
theorem RdP.below {B B' : Nat} {w w' : World} {v : Value} {qs : List Pc} (h : RdP B w v qs) (hb : Below B' w w') (hB : B <= B') : RdP B w' v qs := by
 rcases h with h | ⟨b, off, cap, hv, hp, hl, hc⟩
 ·exact .inl h
 ·refine .inr ⟨b, off, cap, hv, hp, hl, fun i q hq => ?_⟩
  obtain ⟨a0, a1, a2⟩ := hc i q hq
  exact ⟨(hb.cell (p := ⟨b, off + i * 3, none⟩) (by show b < B'; omega)).trans a0, (hb.cell (p := ⟨b, off + i * 3 + 1, none⟩) (by show b < B'; omega)).trans a1, (hb.cell (p := ⟨b, off + i * 3 + 2, none⟩) (by show b < B'; omega)).trans a2⟩
theorem OwP.rd {w : World} {base : Nat} {v : Value} {qs : List Pc} (h : OwP w base v qs) : RdP w.heap.size w v qs := by
 unfold OwP at h
 rcases h.2 with ⟨rfl, h0⟩ | ⟨g, cap, cur, rfl, hb, _, hc, hm, _⟩
 ·exact .inl ⟨_, _, rfl, List.eq_nil_of_length_eq_zero h0⟩
 ·rcases Nat.eq_zero_or_pos qs.length with h0 | h0
  ·exact .inl ⟨_, _, by rw [h0], List.eq_nil_of_length_eq_zero h0⟩
  ·refine .inr ⟨g, 0, cap, rfl, ⟨h0, hc, hm⟩, (h.lt g rfl).2, fun i q hq => ?_⟩
   have hi : i < qs.length := (List.getElem?_eq_some_iff.1 hq).1;refine ⟨?_, ?_, ?_⟩
   ·have := h.cellAt (0 + i * 3) (by omega)
    rw [this, Nat.zero_add]; exact (JQ qs i 0 q hq (by omega)).trans rfl
   ·have := h.cellAt (0 + i * 3 + 1) (by omega)
    rw [this, Nat.zero_add]; exact (JQ qs i 1 q hq (by omega)).trans rfl
   ·have := h.cellAt (0 + i * 3 + 2) (by omega)
    rw [this, Nat.zero_add]; exact (JQ qs i 2 q hq (by omega)).trans rfl
def midT : Nat -> List Pc -> AT
 | 0, _ => .nil
 | f + 1, ps => match ps[ps.length / 2]? with
  | none => .nil
  | some p => .node (midT f (ps.take (ps.length / 2))) p (midT f (ps.drop (ps.length / 2 + 1)))
theorem JR (f : Nat) : midT f [] = .nil := by cases f <;> simp [midT]
theorem Y9 {f : Nat} {ps : List Pc} {p : Pc} (h : ps[ps.length / 2]? = some p) : midT (f + 1) ps = .node (midT f (ps.take (ps.length / 2))) p (midT f (ps.drop (ps.length / 2 + 1))) := by
 simp only [midT, h]
theorem jI : ∀ (f : Nat) (ps : List Pc), ps.length <= f -> (midT f ps).flat = ps
 | 0, ps, h => by
  obtain rfl : ps = [] := List.eq_nil_of_length_eq_zero (by omega)
  rfl
 | f + 1, ps, h => by
  rcases Nat.eq_zero_or_pos ps.length with h0 | h0
  ·obtain rfl : ps = [] := List.eq_nil_of_length_eq_zero h0
   rw [JR]; rfl
  ·have hl : ps.length / 2 < ps.length := by omega
   have hp : ps[ps.length / 2]? = some ps[ps.length / 2] := List.getElem?_eq_getElem hl;rw [Y9 hp]
   show (midT f _).flat ++ _ :: (midT f _).flat = ps
   rw [jI f _ (by rw [List.length_take]; omega), jI f _ (by rw [List.length_drop]; omega)]
   rw [<- List.drop_eq_getElem_cons hl, List.take_append_drop]
theorem RdP.cutL {B b o cap : Nat} {w : World} {ps : List Pc} (h : RdP B w (.slice (some ⟨b, o, none⟩) ps.length cap) ps) (m : Nat) (hm : m <= ps.length) : RdP B w (.slice (some ⟨b, o, none⟩) m cap) (ps.take m) := by
 have hl : (ps.take m).length = m := by rw [List.length_take]; omega
 rcases Nat.eq_zero_or_pos m with h0 | h0
 ·subst h0; exact .inl ⟨_, _, rfl, by simp⟩
 ·rcases h with ⟨_, _, e1, e2⟩ | ⟨b', o', c', e1, hp, hb, hc⟩
  ·rw [e2] at hm; simp at hm; omega
  ·simp only [Value.slice.injEq, Option.some.injEq, Addr.mk.injEq, and_true] at e1
   obtain ⟨⟨rfl, rfl⟩, _, rfl⟩ := e1
   refine .inr ⟨b, o, cap, by rw [hl], ⟨by omega, by omega, hp.2.2⟩, hb, fun i q hq => hc i q ?_⟩
   rw [List.getElem?_take] at hq
   split at hq
   ·exact hq
   ·cases hq
theorem RdP.cutR {B b o cap : Nat} {w : World} {ps : List Pc} {ao : Option Addr} (h : RdP B w (.slice (some ⟨b, o, none⟩) ps.length cap) ps) (m : Nat) (hm : m <= ps.length) (ha : m < ps.length -> ao = some ⟨b, o + m * 3, none⟩) : RdP B w (.slice ao (ps.length - m) (cap - m)) (ps.drop m) := by
 have hl : (ps.drop m).length = ps.length - m := by rw [List.length_drop]
 rcases Nat.eq_or_lt_of_le hm with h0 | h0
 ·refine .inl ⟨ao, cap - m, by rw [h0, Nat.sub_self], List.drop_eq_nil_of_le (by omega)⟩
 ·rcases h with ⟨_, _, e1, e2⟩ | ⟨b', o', c', e1, hp, hb, hc⟩
  ·rw [e2] at h0; simp at h0
  ·simp only [Value.slice.injEq, Option.some.injEq, Addr.mk.injEq, and_true] at e1
   obtain ⟨⟨rfl, rfl⟩, _, rfl⟩ := e1
   refine .inr ⟨b, o + m * 3, cap - m, by rw [hl, ha h0], ⟨by omega, by omega, by omega⟩, hb, fun i q hq => ?_⟩
   rw [List.getElem?_drop] at hq;have := hc (m + i) q hq
   rw [show o + m * 3 + i * 3 = o + (m + i) * 3 by omega]
   exact this
def cln (n i : Nat) : Nat := min 16 (n - 16 * i)
def chP (zs : List Int) (i : Nat) : Pc := ⟨((16 * i : Nat) : Int), ((cln zs.length i : Nat) : Int), brk ((zs.drop (16 * i)).take (cln zs.length i))⟩
def chs (zs : List Int) (j : Nat) : List Pc := (List.range j).map (chP zs)
theorem yU (zs : List Int) (j : Nat) : (chs zs j).length = j := by simp [chs]
theorem YL (zs : List Int) (j : Nat) : chs zs (j + 1) = chs zs j ++ [chP zs j] := by simp [chs, List.range_succ]
def ldT (zs : List Int) : AT := midT 8192 (chs zs ((zs.length + 15) / 16))
theorem Yo {w : World} {base g cap : Nat} {zs : List Int} (h : own32 w base (.slice (some ⟨g, 0, none⟩) zs.length cap) zs) : ∀ i, i < zs.length -> w.cell? ⟨g, 0 + i, none⟩ = some (.int .i32 (zs.getD i 0)) := by
 intro i hi
 have h1 := h.cellAt i (by omega)
 rw [Nat.zero_add, h1];simp [ints, List.getD_eq_getElem?_getD, hi]
theorem zCq {W : World} {base : Nat} {v : Value} {E F : List Pc} {n m : Nat} (hn : E.length = n) (hm : F.length = m) (h : W.ownsRow base 87 3 v (n + m) (pcCs E ++ pcCs F)) : OwP W base v (E ++ F) := by
 subst hn hm; unfold OwP; rw [List.length_append, Kc]; exact h
theorem zCr (zs : List Int) (j : Nat) (l : Int) (hl : l = (cln zs.length j : Nat)) : pcCs [chP zs j] = [.int .i64 (16 * (j : Int)), .int .i64 l, .int .i64 (brk ((zs.drop (16 * (j : Int)).toNat).take l.toNat))] := by
 have h1 : (16 * (j : Int)).toNat = 16 * j := by omega
 have h2 : l.toNat = cln zs.length j := by omega
 rw [h1, h2, hl];simp [pcCs, pcC, chP]
theorem XZ : ∀ (f : Nat) (ps : List Pc), ps.length <= f -> (midT f ps).bal ∧ ps.length < 2 ^ (midT f ps).ht ∧ ((midT f ps).ht = 0 ∨ 2 ^ ((midT f ps).ht - 1) <= ps.length)
 | 0, ps, h => by
  obtain rfl : ps = [] := List.eq_nil_of_length_eq_zero (by omega)
  exact ⟨trivial, by simp [midT, AT.ht], .inl rfl⟩
 | f + 1, ps, h => by
  rcases Nat.eq_zero_or_pos ps.length with h0 | h0
  ·obtain rfl : ps = [] := List.eq_nil_of_length_eq_zero h0
   rw [JR]
   exact ⟨trivial, by simp [AT.ht], .inl rfl⟩
  ·have hl : ps.length / 2 < ps.length := by omega
   have hp : ps[ps.length / 2]? = some ps[ps.length / 2] := List.getElem?_eq_getElem hl
   have l1 : (ps.take (ps.length / 2)).length = ps.length / 2 := by rw [List.length_take]; omega
   have l2 : (ps.drop (ps.length / 2 + 1)).length = ps.length - (ps.length / 2 + 1) := by rw [List.length_drop]
   obtain ⟨a1, a2, a3⟩ := XZ f (ps.take (ps.length / 2)) (by omega)
   obtain ⟨b1, b2, b3⟩ := XZ f (ps.drop (ps.length / 2 + 1)) (by omega)
   rw [Y9 hp];rw [l1] at a2 a3;rw [l2] at b2 b3;generalize (midT f (ps.take (ps.length / 2))) = A at *;generalize (midT f (ps.drop (ps.length / 2 + 1))) = B at *
   have c1 : B.ht <= A.ht := by
    rcases b3 with b3 | b3
    ·omega
    ·rcases Nat.lt_or_ge A.ht B.ht with q | q
     ·have := Nat.pow_le_pow_right (show 0 < 2 by omega) (show A.ht <= B.ht - 1 by omega)
      omega
     ·exact q
   have c2 : A.ht <= B.ht + 1 := by
    rcases a3 with a3 | a3
    ·omega
    ·rcases Nat.lt_or_ge (B.ht + 1) A.ht with q | q
     ·have e1 := Nat.pow_le_pow_right (show 0 < 2 by omega) (show B.ht + 1 <= A.ht - 1 by omega)
      have e2 : 2 ^ (B.ht + 1) = 2 ^ B.ht * 2 := Nat.pow_succ ..;omega
     ·exact q
   have hpw := Nat.pow_le_pow_right (show 0 < 2 by omega) c1
   refine ⟨⟨a1, b1, by omega, by omega⟩, ?_, .inr ?_⟩
   ·simp only [AT.ht]
    have e : max A.ht B.ht = A.ht := by omega
    rw [e];have e2 : 2 ^ (A.ht + 1) = 2 ^ A.ht * 2 := Nat.pow_succ ..
    rw [show 1 + A.ht = A.ht + 1 by omega] <;> omega
   ·simp only [AT.ht]
    have e : max A.ht B.ht = A.ht := by omega
    rw [e]
    rcases a3 with a3 | a3
    ·rw [a3]; simp; omega
    ·have e2 : 2 ^ A.ht = 2 ^ (A.ht - 1) * 2 := by
      rcases Nat.eq_zero_or_pos A.ht with q | q
      ·rw [q] at a3 a2; simp at a3 a2; omega
      ·rw [<- Nat.pow_succ, Nat.succ_eq_add_one, Nat.sub_add_cancel q]
     have e3 : 1 + A.ht - 1 = A.ht := by omega
     first | (rw [e3, e2]; omega) | (simp only [Nat.add_sub_cancel]; rw [e2]; omega)
theorem Kd (zs : List Int) : ∀ j, 16 * j < zs.length + 16 -> lsum (chs zs j) = ((min (16 * j) zs.length : Nat) : Int)
 | 0, _ => by simp [chs, lsum]
 | j + 1, h => by
  rw [YL, zL, Kd zs j (by omega), zH, ZJ]
  simp only [chP, cln];omega
theorem chP_wp (zs : List Int) (i : Nat) (hi : 16 * i < zs.length) : WP zs (chP zs i) ∧ 1 <= (chP zs i).len ∧ (chP zs i).len <= 16 := by
 have hc : cln zs.length i <= 16 ∧ 1 <= cln zs.length i ∧ 16 * i + cln zs.length i <= zs.length := by unfold cln; omega
 refine ⟨⟨?_, ?_, ?_, ?_⟩, ?_, ?_⟩
 ·simp only [chP]; omega
 ·simp only [chP]; omega
 ·simp only [chP]; omega
 ·simp only [chP, ptx, Int.toNat_natCast]
 ·simp only [chP]; omega
 ·simp only [chP]; omega
theorem ldT_all (zs : List Int) (hn : zs.length <= 8192) : (ldT zs).ok ∧ (ldT zs).bal ∧ (ldT zs).wp zs ∧ (ldT zs).rns = zs.length := by
 have hj : (chs zs ((zs.length + 15) / 16)).length <= 8192 := by rw [yU]; omega
 have hf : (ldT zs).flat = chs zs ((zs.length + 15) / 16) := jI 8192 _ hj
 have hr : (ldT zs).rns = zs.length := by rw [AT.rns_lsum, hf, Kd zs _ (by omega)]; omega
 have hq : ∀ p ∈ (ldT zs).flat, WP zs p ∧ 1 <= p.len ∧ p.len <= 16 := by
  intro p hp;rw [hf] at hp;obtain ⟨i, hi, rfl⟩ := List.mem_map.1 hp
  exact chP_wp zs i (by have := List.mem_range.1 hi; omega)
 refine ⟨⟨fun p hp => ?_, by rw [hr]; omega⟩, (XZ 8192 _ hj).1, (zR zs _).2 fun p hp => (hq p hp).1, hr⟩
 obtain ⟨⟨a1, a2, a3, a4⟩, a5, a6⟩ := hq p hp;have hb := XL (ptx zs p);have hl : ((ptx zs p).length : Int) = p.len := jB ⟨a1, a2, a3, a4⟩;simp only [pcOk, decide_eq_true_eq];omega
def fx (S : List Int) (F : List Pc) : List Int := F.flatMap (ptx S)
theorem fx_nil (S : List Int) : fx S [] = [] := rfl
theorem ye (S : List Int) (p : Pc) (F : List Pc) : fx S (p :: F) = ptx S p ++ fx S F := List.flatMap_cons
theorem j6 (S : List Int) (F G : List Pc) : fx S (F ++ G) = fx S F ++ fx S G := by simp [fx]
theorem fx_len {S : List Int} : ∀ {F : List Pc}, (∀ p ∈ F, WP S p) -> ((fx S F).length : Int) = lsum F
 | [], _ => rfl
 | p :: F, h => by
  rw [ye, zH, List.length_append]
  have h1 := jB (h p (by simp))
  have h2 := fx_len (F := F) (fun q hq => h q (by simp [hq]))
  omega
theorem fx_at {S : List Int} {F : List Pc} {a n : Nat} (h : ∀ p ∈ F, WP S p) (hl : lsum (F.take a) = (n : Int)) : fx S (F.take a) = (fx S F).take n ∧ fx S (F.drop a) = (fx S F).drop n := by
 have h1 := fx_len (S := S) (F := F.take a) (fun p hp => h p (List.mem_of_mem_take hp))
 have h2 : (fx S (F.take a)).length = n := by omega
 have h3 : fx S F = fx S (F.take a) ++ fx S (F.drop a) := by rw [<- j6, List.take_append_drop]
 rw [h3];exact ⟨(List.take_left' h2).symm, (List.drop_left' h2).symm⟩
theorem zBq {S : List Int} {T : AT} {off : Int} (h : T.ok) (hw : T.wp S) (h0 : 0 <= off) (h1 : off <= T.rns) : fx S (cutP S T off).flat = fx S T.flat := by
 by_cases hi : skI T off = 0
 ·rw [cutP, if_pos hi]
 ·rw [yY h h0 h1 hi]
  obtain ⟨a, b, c⟩ := sk_at h h0 h1;obtain ⟨c1, c2, c3⟩ := c.resolve_left hi;have hp := (zR S T).1 hw _ (List.mem_of_getElem? c3);obtain ⟨p1, p2, p3, p4⟩ := hp
  have e := XY (S := S) (p := pcAt S (skP T off).off (skI T off)) (q := pcAt S ((skP T off).off + skI T off) ((skP T off).len - skI T off)) (jC p1 (by omega) (by omega)) (jC (by omega) (by omega) (by omega)) rfl
  have e2 : pcAt S (pcAt S (skP T off).off (skI T off)).off ((pcAt S (skP T off).off (skI T off)).len + (pcAt S ((skP T off).off + skI T off) ((skP T off).len - skI T off)).len) = skP T off := by
   have : (pcAt S (skP T off).off (skI T off)).len + (pcAt S ((skP T off).off + skI T off) ((skP T off).len - skI T off)).len = (skP T off).len := by show skI T off + ((skP T off).len - skI T off) = _; omega
   rw [this];exact pcAt_of ⟨p1, p2, p3, p4⟩
  rw [e2] at e
  conv => rhs; rw [(zX c3).1]
  rw [j6, j6, ye, ye, ye, e, List.append_assoc]
theorem X9 {S : List Int} {T : AT} {off : Int} (h : T.ok) (hw : T.wp S) (h0 : 0 <= off) (h1 : off <= T.rns) : fx S ((cutP S T off).flat.take (cutN T off)) = (fx S T.flat).take off.toNat ∧ fx S ((cutP S T off).flat.drop (cutN T off)) = (fx S T.flat).drop off.toNat := by
 have hA := jD (S := S) h h0 h1;have hW := (zR S _).1 (jj h hw h0 h1)
 have e := fx_at (S := S) (F := (cutP S T off).flat) (a := cutN T off) (n := off.toNat) hW (by rw [hA.2]; omega)
 rw [zBq h hw h0 h1] at e;exact e
theorem insP_tx {zs ts : List Int} {T : AT} {off : Int} (h : T.ok) (hw : T.wp zs) (h0 : 0 <= off) (h1 : off <= T.rns) : (insP (zs ++ ts) zs.length T off).tx (zs ++ ts) = (T.tx zs).take off.toNat ++ (ts ++ (T.tx zs).drop off.toNat) := by
 have hwS := hw.app ts;have hSl : (zs ++ ts).length = zs.length + ts.length := List.length_append
 have hmS : ((zs ++ ts).length : Int) - (zs.length : Int) = (ts.length : Int) := by omega
 have hC := X9 (S := zs ++ ts) h hwS h0 h1;have hA := jD (S := zs ++ ts) h h0 h1;have hWC := (zR _ _).1 (jj (S := zs ++ ts) h hwS h0 h1)
 have hpt : ptx (zs ++ ts) (pcAt (zs ++ ts) zs.length ts.length) = ts := by
  unfold ptx pcAt;simp
 rw [<- tx_app hw ts, jF, jF]
 show fx (zs ++ ts) _ = (fx (zs ++ ts) T.flat).take _ ++ (ts ++ (fx (zs ++ ts) T.flat).drop _)
 rw [<- hC.1, <- hC.2, insP, addP, hmS]
 by_cases hm : meetB zs.length (cutP (zs ++ ts) T off) (cutN T off) = true
 ·rw [if_pos hm]
  simp only [meetB, decide_eq_true_eq] at hm;have ha := zu (T := cutP (zs ++ ts) T off) (R := cutN T off) hm.1 hA.1;rw [yL _ _ _ _ ha];have hWa := hWC _ (List.mem_of_getElem? ha)
  have e := XY (S := zs ++ ts) (p := ahead (cutP (zs ++ ts) T off) (cutN T off)) (q := pcAt (zs ++ ts) zs.length ts.length) hWa (jC (by omega) (by omega) (by omega)) hm.2
  have e' : ptx (zs ++ ts) (pcAt (zs ++ ts) (ahead (cutP (zs ++ ts) T off) (cutN T off)).off ((ahead (cutP (zs ++ ts) T off) (cutN T off)).len + (ts.length : Int))) = ptx (zs ++ ts) (ahead (cutP (zs ++ ts) T off) (cutN T off)) ++ ts := by rw [hpt] at e; exact e
  have hr : cutN T off - 1 + 1 = cutN T off := by omega
  rw [j6, ye, e', hr]
  have et : (cutP (zs ++ ts) T off).flat.take (cutN T off) = (cutP (zs ++ ts) T off).flat.take (cutN T off - 1) ++ [ahead (cutP (zs ++ ts) T off) (cutN T off)] := by
   conv => lhs; rw [<- hr]
   rw [List.take_add_one, ha]; rfl
  rw [et, j6, ye, fx_nil];simp only [List.append_assoc, List.append_nil]
 ·rw [if_neg hm, AT.ins_flat _ _ _ hA.1, j6, ye, hpt]
theorem delP_tx {S : List Int} {T : AT} {lo hi : Int} (h : T.ok) (hb : T.bal) (hw : T.wp S) (hS : S.length <= 220000) (h0 : 0 <= lo) (hlh : lo <= hi) (h1 : hi <= T.rns) : (delP S T lo hi).tx S = (T.tx S).take lo.toNat ++ (T.tx S).drop hi.toNat := by
 have F := delF h hb hw hS h0 hlh h1
 have hA := jD (S := S) h h0 (by omega : lo <= T.rns)
 have h1' : hi <= (cutP S T lo).rns := by rw [F.rn1]; exact h1
 have hK := KH (S := S) F.ok1 (by omega) h1' hA.1 hA.2 hlh
 have hc1 := X9 (S := S) h hw h0 (by omega : lo <= T.rns)
 have hc2 := X9 (S := S) F.ok1 F.wp1 (by omega : 0 <= hi) h1'
 rw [zBq h hw h0 (by omega : lo <= T.rns)] at hc2
 have sf := AT.split_flat (dl2 S T lo hi) (cutN T lo) F.a2;have fX : (dlX S T lo hi).flat = (dl2 S T lo hi).flat.take (cutN T lo) := sf.1;have fY : (dlY S T lo hi).flat = (dl2 S T lo hi).flat.drop (cutN T lo) := sf.2
 have sf2 := AT.split_flat (dlY S T lo hi) (dlZ S T lo hi - cutN T lo) (by have := F.yits; have := F.z2; omega)
 have fW : (dlW S T lo hi).flat = (dl2 S T lo hi).flat.drop (dlZ S T lo hi) := by
  have e : (dlW S T lo hi).flat = (dlY S T lo hi).flat.drop (dlZ S T lo hi - cutN T lo) := sf2.2;rw [e, fY, List.drop_drop]
  congr 1
  have := F.az;omega
 have hJ : fx S (dlJ S T lo hi).flat = (fx S T.flat).take lo.toNat ++ (fx S T.flat).drop hi.toNat := by
  rw [dlJ, AT.join_flat, j6, fX, fW];have e1 : (dl2 S T lo hi).flat.take (cutN T lo) = (cutP S T lo).flat.take (cutN T lo) := hK.2;rw [e1, hc1.1];have e2 : fx S ((dl2 S T lo hi).flat.drop (dlZ S T lo hi)) = (fx S T.flat).drop hi.toNat := hc2.2;rw [e2]
 rw [jF, jF]
 show fx S _ = (fx S T.flat).take _ ++ (fx S T.flat).drop _
 rw [<- hJ, delP]
 cases hhb : healB (dlJ S T lo hi) (cutN T lo) with
 | false => rw [healP, if_neg (by rw [hhb]; simp)]
 | true =>
  have h9 := hhb;simp only [healB, decide_eq_true_eq] at h9;have hwJ := (zR S _).1 F.wpJ
  have ha := zu (T := dlJ S T lo hi) (R := cutN T lo) h9.1.1 (by omega)
  have hq := Y3 (T := dlJ S T lo hi) (R := cutN T lo) h9.1.2;have e := XY (hwJ _ (List.mem_of_getElem? ha)) (hwJ _ (List.mem_of_getElem? hq)) h9.2;rw [jl hhb]
  conv => rhs; rw [XR h9.1.1 ha hq]
  rw [j6, j6, ye, ye, ye, e, List.append_assoc]
theorem chs_tx (zs : List Int) : ∀ j, fx zs (chs zs j) = zs.take (16 * j)
 | 0 => rfl
 | j + 1 => by
  rw [YL, j6, chs_tx zs j, ye, fx_nil, List.append_nil]
  have e : ptx zs (chP zs j) = (zs.drop (16 * j)).take (cln zs.length j) := by
   unfold ptx chP;simp only [Int.toNat_natCast]
  rw [e]
  have h1 : (zs.drop (16 * j)).take (cln zs.length j) = (zs.drop (16 * j)).take 16 := by
   unfold cln
   by_cases h : 16 <= zs.length - 16 * j
   ·rw [Nat.min_eq_left h]
   ·rw [Nat.min_eq_right (by omega), List.take_of_length_le (by rw [List.length_drop]; omega), List.take_of_length_le (by rw [List.length_drop]; omega)]
  rw [h1, show 16 * (j + 1) = 16 * j + 16 by omega, List.take_add]
theorem ldT_tx (zs : List Int) (hn : zs.length <= 8192) : (ldT zs).tx zs = zs := by
 rw [jF]
 show fx zs _ = zs
 rw [ldT, jI _ _ (by rw [yU]; omega), chs_tx, List.take_of_length_le (by omega)]
end Go.Proofs.YtbgngikejgihgafGreatDoor

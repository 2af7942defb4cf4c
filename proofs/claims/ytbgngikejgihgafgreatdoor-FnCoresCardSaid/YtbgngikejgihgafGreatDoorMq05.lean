import Derived.Test.YtbgngikejgihgafGreatDoorMq04
namespace Go.Proofs.YtbgngikejgihgafGreatDoor
open Go Go.RowKit
set_option linter.unusedVariables false
set_option maxRecDepth 100000
set_option maxHeartbeats 8000000
theorem YH {F : List Pc} (h : ∀ p ∈ F, 1 <= p.len) {i j : Nat} (hij : i <= j) : lsum (F.take i) <= lsum (F.take j) := by
 have e : F.take j = F.take i ++ (F.take j).drop i := by
  rw [show F.take i = (F.take j).take i by rw [List.take_take, Nat.min_eq_left hij], List.take_append_drop]
 rw [e, zL]
 have := jk (F := (F.take j).drop i) (fun p hp => h p (List.mem_of_mem_take (List.mem_of_mem_drop hp)))
 omega
theorem XQ {F : List Pc} (h : ∀ p ∈ F, 1 <= p.len) {i j : Nat} (hij : i < j) (hj : j <= F.length) : lsum (F.take i) < lsum (F.take j) := by
 have h1 := YH h (show i + 1 <= j from hij)
 have h2 : F[i]? = some F[i] := List.getElem?_eq_getElem (by omega)
 have h3 := h _ (List.mem_of_getElem? h2)
 have e : F.take (i + 1) = F.take i ++ [F[i]] := (List.take_append_getElem (by omega)).symm
 rw [e, zL, zH, ZJ] at h1;omega
theorem KG {S : List Int} {T : AT} {off : Int} (h : T.ok) (h0 : 0 <= off) (h1 : off <= T.rns) : (cutP S T off).rns = T.rns := by
 rw [AT.rns_lsum, ZL h h0 h1, <- AT.rns_lsum]
theorem KH {S : List Int} {T : AT} {a : Nat} {lo hi : Int} (h : T.ok) (h0 : 0 <= hi) (h1 : hi <= T.rns) (ha : a <= T.its) (hl : lsum (T.flat.take a) = lo) (hlh : lo <= hi) :
  a <= cutN T hi ∧ (cutP S T hi).flat.take a = T.flat.take a := by
 obtain ⟨r1, r2, r3⟩ := sk_at h h0 h1;have hp := yc h;have hfl := AT.flat_its T
 by_cases hi0 : skI T hi = 0
 ·rw [cutN, if_pos hi0, cutP, if_pos hi0]
  refine ⟨?_, rfl⟩
  rcases Nat.lt_or_ge (skR T hi) a with q | q
  ·have := XQ hp q (by omega)
   omega
  ·omega
 ·obtain ⟨c1, c2, c3⟩ := r3.resolve_left hi0
  have hr := (zX c3).2
  have e1 : lsum (T.flat.take (skR T hi + 1)) = hi - skI T hi + (skP T hi).len := by
   conv => lhs; rw [(zX c3).1]
   rw [ZK _ _ _ _ (by rw [List.length_take]; omega), zL, zH, ZJ, r2]
   omega
  have hle : a <= skR T hi := by
   rcases Nat.lt_or_ge (skR T hi) a with q | q
   ·have := YH hp (show skR T hi + 1 <= a from q)
    omega
   ·exact q
  refine ⟨by rw [cutN, if_neg hi0]; omega, ?_⟩
  rw [yY h h0 h1 hi0, List.take_append_of_le_length (by rw [List.length_take]; omega), List.take_take, Nat.min_eq_left hle]
def atP (T : AT) (R : Nat) : Pc := T.flat.getD R ⟨0, 0, 0⟩
theorem Y3 {T : AT} {R : Nat} (h : R < T.its) : T.flat[R]? = some (atP T R) := by
 have := AT.flat_its T
 rw [atP, List.getD_eq_getElem?_getD, List.getElem?_eq_getElem (by omega)]
 rfl
def healB (T : AT) (R : Nat) : Bool := decide ((0 < R ∧ R < T.its) ∧ (ahead T R).off + (ahead T R).len = (atP T R).off)
def healP (S : List Int) (T : AT) (R : Nat) : AT :=
 if healB T R = true then (T.put (R - 1) (pcAt S (ahead T R).off ((ahead T R).len + (atP T R).len))).rem R else T
theorem XR {F : List Pc} {R : Nat} {p q : Pc} (h0 : 0 < R) (hp : F[R - 1]? = some p) (hq : F[R]? = some q) : F = F.take (R - 1) ++ p :: q :: F.drop (R + 1) := by
 have h1 := (zX hp).1;have h2 := (zX hq)
 rw [show R - 1 + 1 = R by omega] at h1
 have e : F.drop R = q :: F.drop (R + 1) := by
  rw [List.drop_eq_getElem_cons h2.2]
  congr 1
  rw [List.getElem?_eq_getElem h2.2] at hq;exact Option.some.inj hq
 rw [e] at h1;exact h1
theorem zBk {S : List Int} {T : AT} {R : Nat} (h : T.ok) (hw : T.wp S) (hS : S.length <= 220000) (hb : healB T R = true) (hov : T.rns + (atP T R).len <= 16384) :
  (∀ p ∈ (T.put (R - 1) (pcAt S (ahead T R).off ((ahead T R).len + (atP T R).len))).flat, pcOk p = true) := by
 simp only [healB, decide_eq_true_eq] at hb
 have hp := zu (T := T) (R := R) hb.1.1 (by omega)
 have hq := Y3 (T := T) (R := R) hb.1.2;have kp := h.1 _ (List.mem_of_getElem? hp);have kq := h.1 _ (List.mem_of_getElem? hq);simp only [pcOk, decide_eq_true_eq] at kp kq;have wq := ((zR S T).1 hw _ (List.mem_of_getElem? hq)).2.2.1;have e := XR hb.1.1 hp hq
 have hsum : (ahead T R).len + (atP T R).len <= lsum T.flat := by
  conv => rhs; rw [e]
  rw [zL, zH, zH]
  have h1 := jk (F := T.flat.take (R - 1)) (fun q hq => yc h q (List.mem_of_mem_take hq))
  have h2 := jk (F := T.flat.drop (R + 1)) (fun q hq => yc h q (List.mem_of_mem_drop hq))
  omega
 have h2 := h.2;rw [AT.rns_lsum] at h2;intro x hx;rw [yL T (R - 1) _ _ hp] at hx;simp only [List.mem_append, List.mem_cons] at hx
 rcases hx with hx | rfl | hx
 ·exact h.1 x (List.mem_of_mem_take hx)
 ·exact Z9 (by omega) (by omega) (by omega) (by omega) hS
 ·exact h.1 x (List.mem_of_mem_drop hx)
theorem jl {S : List Int} {T : AT} {R : Nat} (hb : healB T R = true) : (healP S T R).flat = T.flat.take (R - 1) ++ pcAt S (ahead T R).off ((ahead T R).len + (atP T R).len) :: T.flat.drop (R + 1) := by
 have hb' := hb;simp only [healB, decide_eq_true_eq] at hb
 have hp := zu (T := T) (R := R) hb.1.1 (by omega)
 have hfl := AT.flat_its T
 have hl : (T.flat.take (R - 1)).length = R - 1 := by rw [List.length_take]; omega
 rw [healP, if_pos hb', AT.rem_flat _ _ (by rw [AT.put_its]; exact hb.1.2), yL T (R - 1) _ _ hp, show R - 1 + 1 = R by omega]
 have e1 : (T.flat.take (R - 1) ++ pcAt S (ahead T R).off ((ahead T R).len + (atP T R).len) :: T.flat.drop R).take R = T.flat.take (R - 1) ++ [pcAt S (ahead T R).off ((ahead T R).len + (atP T R).len)] := by
  have := ZK (T.flat.take (R - 1)) (T.flat.drop R) (pcAt S (ahead T R).off ((ahead T R).len + (atP T R).len)) (R - 1) hl
  rw [show R - 1 + 1 = R by omega] at this; exact this
 have e2 : (T.flat.take (R - 1) ++ pcAt S (ahead T R).off ((ahead T R).len + (atP T R).len) :: T.flat.drop R).drop (R + 1) = T.flat.drop (R + 1) := by
  rw [List.drop_append, List.drop_eq_nil_of_le (by omega), hl, List.nil_append, show R + 1 - (R - 1) = 2 by omega, List.drop_succ_cons, List.drop_drop]
 rw [e1, e2, List.append_assoc];rfl
theorem KI {S : List Int} {T : AT} {R : Nat} (h : T.ok) (hw : T.wp S) (hS : S.length <= 220000) : (healP S T R).ok := by
 cases hb : healB T R with
 | false => rw [healP, if_neg (by rw [hb]; simp)]; exact h
 | true =>
  have hf := jl (S := S) hb;have h9 := hb;simp only [healB, decide_eq_true_eq] at h9
  have hp := zu (T := T) (R := R) h9.1.1 (by omega)
  have hq := Y3 (T := T) (R := R) h9.1.2;have bd := h.bd;have kq := h.1 _ (List.mem_of_getElem? hq);simp only [pcOk, decide_eq_true_eq] at kq
  have hpo := zBk h hw hS hb (by omega)
  rw [yL T (R - 1) _ _ hp, show R - 1 + 1 = R by omega] at hpo
  have e := XR h9.1.1 hp hq
  refine ⟨fun x hx => ?_, ?_⟩
  ·rw [hf] at hx
   refine hpo x ?_;simp only [List.mem_append, List.mem_cons] at hx |-
   rcases hx with hx | hx | hx
   ·exact .inl hx
   ·exact .inr (.inl hx)
   ·exact .inr (.inr ((List.drop_sublist_drop_left T.flat (show R <= R + 1 by omega)).subset hx))
  ·have h2 := h.2
   rw [AT.rns_lsum] at h2 |-;rw [e, zL, zH, zH] at h2;rw [hf, zL, zH];simp only [pcAt];omega
def dl2 (S : List Int) (T : AT) (lo hi : Int) : AT := cutP S (cutP S T lo) hi
def dlZ (S : List Int) (T : AT) (lo hi : Int) : Nat := cutN (cutP S T lo) hi
def dlX (S : List Int) (T : AT) (lo hi : Int) : AT := ((dl2 S T lo hi).split (cutN T lo)).1
def dlY (S : List Int) (T : AT) (lo hi : Int) : AT := ((dl2 S T lo hi).split (cutN T lo)).2
def dlW (S : List Int) (T : AT) (lo hi : Int) : AT := ((dlY S T lo hi).split (dlZ S T lo hi - cutN T lo)).2
def dlJ (S : List Int) (T : AT) (lo hi : Int) : AT := AT.join (dlX S T lo hi) (dlW S T lo hi)
def delP (S : List Int) (T : AT) (lo hi : Int) : AT := healP S (dlJ S T lo hi) (cutN T lo)
structure DelF (S : List Int) (T : AT) (lo hi : Int) : Prop where
 ok1 : (cutP S T lo).ok
 bal1 : (cutP S T lo).bal
 wp1 : (cutP S T lo).wp S
 rn1 : (cutP S T lo).rns = T.rns
 ok2 : (dl2 S T lo hi).ok
 bal2 : (dl2 S T lo hi).bal
 wp2 : (dl2 S T lo hi).wp S
 a2 : cutN T lo <= (dl2 S T lo hi).its
 az : cutN T lo <= dlZ S T lo hi
 z2 : dlZ S T lo hi <= (dl2 S T lo hi).its
 ra : rankL ((dl2 S T lo hi).told 0) lo = cutN T lo
 rz : rankL ((dl2 S T lo hi).told 0) hi = dlZ S T lo hi
 balX : (dlX S T lo hi).bal
 balY : (dlY S T lo hi).bal
 balW : (dlW S T lo hi).bal
 okX : (dlX S T lo hi).ok
 okY : (dlY S T lo hi).ok
 okW : (dlW S T lo hi).ok
 yits : (dlY S T lo hi).its = (dl2 S T lo hi).its - cutN T lo
 sum : (dlX S T lo hi).rns + (dlW S T lo hi).rns <= 8192
 its : (dlX S T lo hi).its + (dlW S T lo hi).its <= 8192
 okJ : (dlJ S T lo hi).ok
 balJ : (dlJ S T lo hi).bal
 wpJ : (dlJ S T lo hi).wp S
 okR : (delP S T lo hi).ok
theorem delF {S : List Int} {T : AT} {lo hi : Int} (h : T.ok) (hb : T.bal) (hw : T.wp S) (hS : S.length <= 220000) (h0 : 0 <= lo) (hlh : lo <= hi) (h1 : hi <= T.rns) : DelF S T lo hi := by
 have ok1 := Za h hw hS h0 (by omega : lo <= T.rns)
 have wp1 := jj h hw h0 (by omega : lo <= T.rns)
 have rn1 := KG (S := S) h h0 (by omega : lo <= T.rns)
 have bal1 := YE (S := S) (off := lo) hb
 have hA := jD (S := S) h h0 (by omega : lo <= T.rns)
 have h1' : hi <= (cutP S T lo).rns := by omega
 have ok2 : (dl2 S T lo hi).ok := Za ok1 wp1 hS (by omega) h1'
 have wp2 : (dl2 S T lo hi).wp S := jj ok1 wp1 (by omega) h1'
 have bal2 : (dl2 S T lo hi).bal := YE bal1
 have hK := KH (S := S) ok1 (by omega) h1' hA.1 hA.2 hlh
 have hZ := jD (S := S) ok1 (by omega : 0 <= hi) h1'
 have az : cutN T lo <= dlZ S T lo hi := hK.1;have z2 : dlZ S T lo hi <= (dl2 S T lo hi).its := hZ.1;have a2 : cutN T lo <= (dl2 S T lo hi).its := Nat.le_trans az z2
 have ra : rankL ((dl2 S T lo hi).told 0) lo = cutN T lo := Zu _ _ _ (KD ok2) (by rw [AT.told_length]; exact a2) (by rw [ji]; show lsum ((cutP S (cutP S T lo) hi).flat.take _) = lo; rw [hK.2]; exact hA.2)
 have rz : rankL ((dl2 S T lo hi).told 0) hi = dlZ S T lo hi := cut_rank ok1 wp1 hS (by omega) h1'
 have sf := AT.split_flat (dl2 S T lo hi) (cutN T lo) a2;have sb := AT.split_bal (dl2 S T lo hi) (cutN T lo) bal2;have fX : (dlX S T lo hi).flat = (dl2 S T lo hi).flat.take (cutN T lo) := sf.1;have fY : (dlY S T lo hi).flat = (dl2 S T lo hi).flat.drop (cutN T lo) := sf.2;have hfl := AT.flat_its (dl2 S T lo hi)
 have yits : (dlY S T lo hi).its = (dl2 S T lo hi).its - cutN T lo := by rw [<- AT.flat_its, fY, List.length_drop, hfl]
 have sf2 := AT.split_flat (dlY S T lo hi) (dlZ S T lo hi - cutN T lo) (by omega)
 have sb2 := AT.split_bal (dlY S T lo hi) (dlZ S T lo hi - cutN T lo) sb.2
 have fW : (dlW S T lo hi).flat = (dl2 S T lo hi).flat.drop (dlZ S T lo hi) := by
  have : (dlW S T lo hi).flat = (dlY S T lo hi).flat.drop (dlZ S T lo hi - cutN T lo) := sf2.2
  rw [this, fY, List.drop_drop, show cutN T lo + (dlZ S T lo hi - cutN T lo) = dlZ S T lo hi by omega]
 have fJ : (dlJ S T lo hi).flat = (dl2 S T lo hi).flat.take (cutN T lo) ++ (dl2 S T lo hi).flat.drop (dlZ S T lo hi) := by
  rw [dlJ, AT.join_flat, fX, fW]
 have subJ : (dlJ S T lo hi).flat.Sublist (dl2 S T lo hi).flat := by
  rw [fJ]
  conv => rhs; rw [<- List.take_append_drop (cutN T lo) (dl2 S T lo hi).flat]
  refine List.Sublist.append (List.Sublist.refl _) ?_;exact List.drop_sublist_drop_left _ az
 have okX : (dlX S T lo hi).ok := ok2.sub (by rw [fX]; exact List.take_sublist _ _)
 have okY : (dlY S T lo hi).ok := ok2.sub (by rw [fY]; exact List.drop_sublist _ _)
 have okW : (dlW S T lo hi).ok := ok2.sub (by rw [fW]; exact List.drop_sublist _ _)
 have okJ : (dlJ S T lo hi).ok := ok2.sub subJ
 have wpJ : (dlJ S T lo hi).wp S := (zR S _).2 fun p hp => (zR S _).1 wp2 p (subJ.subset hp)
 have sum : (dlX S T lo hi).rns + (dlW S T lo hi).rns <= 8192 := by
  have h9 := okJ.2;rw [AT.rns_lsum, dlJ, AT.join_flat, zL, <- AT.rns_lsum, <- AT.rns_lsum] at h9;exact h9
 have hits : (dlX S T lo hi).its + (dlW S T lo hi).its <= 8192 := by
  have h9 := okJ.bd.1;rw [<- AT.flat_its, dlJ, AT.join_flat, List.length_append, AT.flat_its, AT.flat_its] at h9;omega
 exact ⟨ok1, bal1, wp1, rn1, ok2, bal2, wp2, a2, az, z2, ra, rz, sb.1, sb.2, sb2.2, okX, okY, okW, yits, sum, hits, okJ, AT.join_bal _ _ sb.1 sb2.2, wpJ, KI okJ wpJ hS⟩
theorem Tryz.fld0 (a b c : Value) (w : World) : (Instr.field 159 (.agg #[a, b, c]) 0).run Tryz.prog w = .ok a w := by kernel_rfl
theorem Tryz.fld1 (a b c : Value) (w : World) : (Instr.field 159 (.agg #[a, b, c]) 1).run Tryz.prog w = .ok b w := by kernel_rfl
theorem AT.rem_lt (l : AT) (p : Pc) (r : AT) (k : Nat) (h : k < l.its) : (AT.node l p r).rem k = AT.rep (l.rem k) p r := by
 rw [AT.rem.eq_def]; simp only [if_pos h]
theorem AT.rem_gt (l : AT) (p : Pc) (r : AT) (k : Nat) (h : ¬ k < l.its) (h2 : l.its < k) : (AT.node l p r).rem k = AT.rep l p (r.rem (k - l.its - 1)) := by
 rw [AT.rem.eq_def]; simp only [if_neg h, if_pos h2]
theorem zi (l : AT) (p : Pc) (r : AT) : (AT.node l p r).flat = l.flat ++ p :: r.flat := rfl
theorem AT.bal_hts {l : AT} {p : Pc} {r : AT} (h : (AT.node l p r).bal) : l.bal ∧ r.bal ∧ l.ht <= r.ht + 1 ∧ r.ht <= l.ht + 1 := h
theorem jm {base : Nat} {T : AT} {bs cs : List Nat} {w w3 w4 : World} {e : Ending} (hc : Chg bs w w3) (hsub : ∀ x ∈ cs, x ∈ bs ∨ w.heap.size <= x) (hnd : cs.Nodup) (h : RepPost base T cs w3 e w4) : MutPost base T bs w e w4 := by
 obtain ⟨u', bs', rfl, h1, h2, h3⟩ := h
 refine ⟨u', bs', rfl, h1, h2.nodup_iff.2 hnd, fun x hx => hsub x (h2.mem_iff.1 hx), hc.trans h3 (fun _ h _ => h) (fun x hx hl => ?_)⟩
 rcases hsub x hx with h | h
 ·exact h
 ·omega
theorem KJ : ∀ (T : AT) (k : Nat) (u : Option Addr) (bs : List Nat) (base : Nat) (w : World), T.bal -> T.okw -> k < T.its -> Lies w base T u bs -> bs.Nodup ->
  Calls Tryz.prog 184 #[.pointer u, .int .i64 k] w (MutPost base (T.rem k) bs w) := by
 intro T
 induction T with
 | nil => intro k u bs base w _ _ hk; simp [AT.its] at hk
 | node l p r ihl ihr =>
  intro k u bs base w hbal hok hk hT hnd;have hTlt := hT.lt;obtain ⟨b, ul, ur, bl, br, rfl, hbase, hb, hL, hR, rfl⟩ := hT;obtain ⟨bl_, br_, ht1, ht2⟩ := AT.bal_hts hbal;have hnd' := hnd;simp only [List.nodup_cons, List.nodup_append, List.mem_append, not_or] at hnd';obtain ⟨⟨nbl, nbr⟩, ndl, ndr, ndlr⟩ := hnd'
  have dlr : ∀ x ∈ br, x ∉ bl := fun x hx hm => ndlr x hm x hx rfl
  have drl : ∀ x ∈ bl, x ∉ br := fun x hx hm => ndlr x hx x hm rfl
  have bT := hok.bd
  have hits : ((AT.node l p r).its : Int) = l.its + 1 + r.its := by simp only [AT.its]; omega
  have hits' : (AT.node l p r).its = l.its + 1 + r.its := rfl;have c3 := hb.c3;have lb := hb.lt;have HK := hide (allN l ul bl base w hL)
  have HX := hide (show (AT.node l p r).rem k = _ from rfl)
  generalize hres : (AT.node l p r).rem k = res;have HRES := hide hres;have HL := hide hL;have HR := hide hR;have HB := hide hb;have HND := hide hnd;have HOK := hide hok;have HLT := hide hTlt;have HD := hide (And.intro nbl (And.intro nbr (And.intro ndl (And.intro ndr (And.intro dlr drl)))));have IHL := hide ihl;have IHR := hide ihr;have HBB := hide (And.intro bl_ br_);have f0 := Tryz.fld0;clear hb hL hR hres HX hnd hok hTlt nbl nbr ndl ndr ndlr dlr drl ihl ihr hbal bl_ br_;go_enter Tryz.func184, Tryz.ntmps184;go_wp2_with fail;refine HK.out.mono ?_;rintro e w1 ⟨rfl, hb1⟩;have s1 := hb1.size;have HL1 := hide (HL.out.below hb1 lR);have HR1 := hide (HR.out.below hb1 lR)
  have HB1 := hide (Nd.chg (cs := []) HB.out (Chg.of_below hb1) (by simp))
  have CH1 := hide (Chg.of_below (bs := b :: (bl ++ br)) hb1)
  have HLT1 := hide (fun x hx => Nat.lt_of_lt_of_le (HLT.out x hx).2 s1)
  clear hb1 HK HL HR HB c3;have c3 := HB1.out.c3;have c4 := HB1.out.c4;have lb1 := HB1.out.lt;unfold cnt
  by_cases hk1 : k < l.its
  ·have hk1' : (k : Int) < l.its := by omega
   have HREP : Hid (res = AT.rep (l.rem k) p r) := by
    rw [<- HRES.out, AT.rem_lt _ _ _ _ hk1]; exact rfl
   have rb := AT.rem_bal l k HBB.out.1 hk1;have IH := hide (IHL.out k ul bl base w1 HBB.out.1 HOK.out.left hk1 HL1.out HD.out.2.2.1);clear HRES;go_wp2_with fail;refine IH.out.mono ?_;rintro e w2 ⟨u2, bl2, rfl, hT2, nd2, sub2, ch2⟩;have HB2 := hide (HB1.out.chg ch2 HD.out.1);have HR2 := hide (HR1.out.chg ch2 HD.out.2.2.2.2.1);have ND2 := hide (XP HND.out HLT1.out nd2 sub2)
   have nb2 : b ∉ bl2 := fun hm => (List.nodup_cons.1 ND2.out).1 (List.mem_append_left _ hm)
   have b3 := HB2.out.c3;have fb3 := HB2.out.fz 3;have lb2 := HB2.out.lt
   have CH2 := hide (CH1.out.trans ch2 (fun _ h _ => h) (fun x h _ => by simp [h]) (ds := b :: (bl ++ br)))
   have HB3 := hide (HB2.out.set3 u2);have HT3 := hide (hT2.other ⟨b, 3, none⟩ (.pointer u2) nb2);have HR3 := hide (HR2.out.other ⟨b, 3, none⟩ (.pointer u2) HD.out.2.1)
   have CH3 := hide (CH2.out.setCell ⟨b, 3, none⟩ (.pointer u2) (.inl (by simp)))
   have SUB := hide (show ∀ x ∈ b :: (bl2 ++ br), x ∈ b :: (bl ++ br) ∨ w.heap.size <= x from fun x hx => by
    simp only [List.mem_cons, List.mem_append] at hx |-
    rcases hx with h | h | h
    ·exact .inl (.inl h)
    ·rcases sub2 x h with h | h
     ·exact .inl (.inr (.inl h))
     ·exact .inr (by omega)
    ·exact .inl (.inr (.inr h)))
   have HOK3 := hide (show (AT.node (l.rem k) p r).okw from HOK.out.sub (by rw [zi, zi]; exact (AT.rem_sub l k hk1).append_right _))
   have HK3 := hide (YF (l.rem k) p r b u2 ur bl2 br base _ _ _ _ _ HB3.out HT3.out HR3.out hbase ND2.out HOK3.out (by omega) (by omega))
   clear hT2 nd2 sub2 ch2 nb2 IH HB2 HR2 CH2 HB1 HL1 HR1 CH1 c3 c4 HB3 HT3 HR3;go_wp2_with fail;generalize w2.setCell ⟨b, 3, none⟩ (.pointer u2) = w3 at *;refine HK3.out.mono ?_;intro e w4 hrp;have HM := hide (jm CH3.out SUB.out ND2.out hrp);obtain ⟨u4, bs4, rfl, _⟩ := hrp;clear HK3;go_wp2;go_ret;rw [HREP.out];exact HM.out
  ·by_cases hk2 : l.its < k
   ·have hk1' : ¬ (k : Int) < l.its := by omega
    have hk2' : (k : Int) > l.its := by omega
    have HREP : Hid (res = AT.rep l p (r.rem (k - l.its - 1))) := by
     rw [<- HRES.out, AT.rem_gt _ _ _ _ hk1 hk2]; exact rfl
    have hkr : k - l.its - 1 < r.its := by omega
    have rb := AT.rem_bal r (k - l.its - 1) HBB.out.2 hkr;have IH := hide (IHR.out (k - l.its - 1) ur br base w1 HBB.out.2 HOK.out.right hkr HR1.out HD.out.2.2.2.1)
    have ecast : ((k - l.its - 1 : Nat) : Int) = (k : Int) - l.its - 1 := by omega
    rw [ecast] at IH;clear HRES ecast;go_wp2_with fail;refine IH.out.mono ?_;rintro e w2 ⟨u2, br2, rfl, hT2, nd2, sub2, ch2⟩;have HB2 := hide (HB1.out.chg ch2 HD.out.2.1);have HL2 := hide (HL1.out.chg ch2 HD.out.2.2.2.2.2);have ND2 := hide (YG HND.out HLT1.out nd2 sub2)
    have nb2 : b ∉ br2 := fun hm => (List.nodup_cons.1 ND2.out).1 (List.mem_append_right _ hm)
    have b4 := HB2.out.c4;have fb4 := HB2.out.fz 4;have lb2 := HB2.out.lt
    have CH2 := hide (CH1.out.trans ch2 (fun _ h _ => h) (fun x h _ => by simp [h]) (ds := b :: (bl ++ br)))
    have HB3 := hide (HB2.out.set4 u2);have HT3 := hide (hT2.other ⟨b, 4, none⟩ (.pointer u2) nb2);have HL3 := hide (HL2.out.other ⟨b, 4, none⟩ (.pointer u2) HD.out.1)
    have CH3 := hide (CH2.out.setCell ⟨b, 4, none⟩ (.pointer u2) (.inl (by simp)))
    have SUB := hide (show ∀ x ∈ b :: (bl ++ br2), x ∈ b :: (bl ++ br) ∨ w.heap.size <= x from fun x hx => by
     simp only [List.mem_cons, List.mem_append] at hx |-
     rcases hx with h | h | h
     ·exact .inl (.inl h)
     ·exact .inl (.inr (.inl h))
     ·rcases sub2 x h with h | h
      ·exact .inl (.inr (.inr h))
      ·exact .inr (by omega))
    have HOK3 := hide (show (AT.node l p (r.rem (k - l.its - 1))).okw from HOK.out.sub (by rw [zi, zi]; exact ((AT.rem_sub r _ hkr).cons_cons p).append_left _))
    have HK3 := hide (YF l p (r.rem (k - l.its - 1)) b ul u2 bl br2 base _ _ _ _ _ HB3.out HL3.out HT3.out hbase ND2.out HOK3.out (by omega) (by omega))
    clear hT2 nd2 sub2 ch2 nb2 IH HB2 HL2 CH2 HB1 HL1 HR1 CH1 c3 c4 HB3 HT3 HL3;go_wp2_with fail;generalize w2.setCell ⟨b, 4, none⟩ (.pointer u2) = w3 at *;refine HK3.out.mono ?_;intro e w4 hrp;have HM := hide (jm CH3.out SUB.out ND2.out hrp);obtain ⟨u4, bs4, rfl, _⟩ := hrp;clear HK3;go_wp2;go_ret;rw [HREP.out];exact HM.out
   ·have hke : k = l.its := by omega
    have hk1' : ¬ (k : Int) < l.its := by omega
    have hk2' : ¬ (k : Int) > l.its := by omega
    cases l with
    | nil =>
     obtain ⟨rfl, rfl⟩ := HL1.out
     have HREP : Hid (res = r) := by
      rw [<- HRES.out, AT.rem, if_neg hk1, if_neg hk2]; exact rfl
     clear HRES;go_wp2;go_ret;rw [HREP.out]
     exact ⟨ur, br, rfl, HR1.out, HD.out.2.2.2.1, fun x hx => .inl (by simp [hx]), CH1.out⟩
    | node A q S =>
     have HLL := hide HL1.out;obtain ⟨c, ua, us, ba, bs, rfl, _⟩ := HL1.out
     cases r with
     | nil =>
      obtain ⟨rfl, rfl⟩ := HR1.out
      have HREP : Hid (res = AT.node A q S) := by
       rw [<- HRES.out, AT.rem, if_neg hk1, if_neg hk2]; exact rfl
      clear HRES;go_wp2;go_ret;rw [HREP.out]
      exact ⟨_, bl, rfl, HLL.out, HD.out.2.2.1, fun x hx => .inl (by simp [hx]), CH1.out⟩
     | node C s D =>
      have HRR := hide HR1.out;obtain ⟨g, uc, ud, bc, bd, rfl, _⟩ := HR1.out
      have HREP : Hid (res = AT.rep (AT.node A q S) (AT.first (AT.node C s D)) ((AT.node C s D).rem 0)) := by
       rw [<- HRES.out, AT.rem, if_neg hk1, if_neg hk2]; exact rfl
      have hr0 : 0 < (AT.node C s D).its := by simp only [AT.its]; omega
      have rb := AT.rem_bal (AT.node C s D) 0 HBB.out.2 hr0
      have HKF := hide (firstN (AT.node C s D) _ br base w1 HRR.out (by simp))
      obtain ⟨ft, hft⟩ := AT.first_flat (AT.node C s D) (by simp)
      have HFT := hide hft
      generalize hF : (AT.node C s D).first = F at *
      clear HRES hft;go_wp2_with fail;refine HKF.out.mono ?_;rintro e w2 ⟨rfl, hb2⟩;have s2 := hb2.size
      have HB2 := hide (Nd.chg (cs := []) HB1.out (Chg.of_below hb2) (by simp))
      have HLL2 := hide (HLL.out.below hb2 lR);have HRR2 := hide (HRR.out.below hb2 lR)
      have CH2 := hide (CH1.out.trans (Chg.of_below (bs := b :: (bl ++ br)) hb2) (fun _ h _ => h) (fun _ h _ => h))
      have e0 := HB2.out.c0;have e1 := HB2.out.c1;have e2 := HB2.out.c2;have fe0 := HB2.out.fz 0;have fe1 := HB2.out.fz 1;have fe2 := HB2.out.fz 2;have lb2 := HB2.out.lt;have HB3 := hide (HB2.out.set012 F);have HLL3 := hide (((HLL2.out.other ⟨b, 0, none⟩ (.int .i64 F.off) HD.out.1).other ⟨b, 1, none⟩ (.int .i64 F.len) HD.out.1).other ⟨b, 2, none⟩ (.int .i64 F.brk) HD.out.1);have HRR3 := hide (((HRR2.out.other ⟨b, 0, none⟩ (.int .i64 F.off) HD.out.2.1).other ⟨b, 1, none⟩ (.int .i64 F.len) HD.out.2.1).other ⟨b, 2, none⟩ (.int .i64 F.brk) HD.out.2.1)
      have CH3 := hide (((CH2.out.setCell ⟨b, 0, none⟩ (.int .i64 F.off) (.inl (by simp))).setCell ⟨b, 1, none⟩ (.int .i64 F.len) (.inl (by simp))).setCell ⟨b, 2, none⟩ (.int .i64 F.brk) (.inl (by simp)))
      have g4 := HB3.out.c4;have lb3 := HB3.out.lt;have IH := hide (IHR.out 0 _ br base _ HBB.out.2 HOK.out.right hr0 HRR3.out HD.out.2.2.2.1)
      have s3 : w1.heap.size <= (((w2.setCell ⟨b, 0, none⟩ (.int .i64 F.off)).setCell ⟨b, 1, none⟩ (.int .i64 F.len)).setCell ⟨b, 2, none⟩ (.int .i64 F.brk)).heap.size := by simpa using s2
      simp only [Int.natCast_zero] at IH;clear hb2 HKF HB1 HB2 HLL2 HRR2 CH2 HLL HRR CH1 c3 c4;unfold pcV;go_wp2_with fail;generalize ((w2.setCell ⟨b, 0, none⟩ (.int .i64 F.off)).setCell ⟨b, 1, none⟩ (.int .i64 F.len)).setCell ⟨b, 2, none⟩ (.int .i64 F.brk) = w3 at *;refine IH.out.mono ?_;rintro e w4 ⟨u4, br4, rfl, hT4, nd4, sub4, ch4⟩;have HB4 := hide (HB3.out.chg ch4 HD.out.2.1);have HL4 := hide (HLL3.out.chg ch4 HD.out.2.2.2.2.2)
      have sub4' : ∀ x ∈ br4, x ∈ br ∨ w1.heap.size <= x := fun x hx => by
       rcases sub4 x hx with h | h
       ·exact .inl h
       ·exact .inr (by omega)
      have ND4 := hide (YG HND.out HLT1.out nd4 sub4')
      have nb4 : b ∉ br4 := fun hm => (List.nodup_cons.1 ND4.out).1 (List.mem_append_right _ hm)
      have b4 := HB4.out.c4;have fb4 := HB4.out.fz 4;have lb4 := HB4.out.lt
      have CH4 := hide (CH3.out.trans ch4 (fun _ h _ => h) (fun x h _ => by simp [h]) (ds := b :: (bl ++ br)))
      have HB5 := hide (HB4.out.set4 u4);have HT5 := hide (hT4.other ⟨b, 4, none⟩ (.pointer u4) nb4);have HL5 := hide (HL4.out.other ⟨b, 4, none⟩ (.pointer u4) HD.out.1)
      have CH5 := hide (CH4.out.setCell ⟨b, 4, none⟩ (.pointer u4) (.inl (by simp)))
      have SUB := hide (show ∀ x ∈ b :: (bl ++ br4), x ∈ b :: (bl ++ br) ∨ w.heap.size <= x from fun x hx => by
       simp only [List.mem_cons, List.mem_append] at hx |-
       rcases hx with h | h | h
       ·exact .inl (.inl h)
       ·exact .inl (.inr (.inl h))
       ·rcases sub4' x h with h | h
        ·exact .inl (.inr (.inr h))
        ·exact .inr (by omega))
      have HOK5 := hide (show (AT.node (AT.node A q S) F ((AT.node C s D).rem 0)).okw from HOK.out.sub (by
       rw [zi, zi (AT.node A q S), AT.rem_flat _ 0 hr0, HFT.out];simp only [List.take_zero, List.nil_append, Nat.zero_add, List.drop_succ_cons, List.drop_zero]
       exact ((List.Sublist.refl _).cons p).append_left _))
      have HK5 := hide (YF (AT.node A q S) F ((AT.node C s D).rem 0) b _ u4 bl br4 base _ _ _ _ _ HB5.out HL5.out HT5.out hbase ND4.out HOK5.out (by omega) (by omega))
      clear hT4 nd4 sub4 sub4' ch4 nb4 IH HB4 HL4 CH4 HB3 HLL3 HRR3 CH3 HB5 HT5 HL5 g4;go_wp2_with fail;generalize w4.setCell ⟨b, 4, none⟩ (.pointer u4) = w5 at *;refine HK5.out.mono ?_;intro e w6 hrp;have HM := hide (jm CH5.out SUB.out ND4.out hrp);obtain ⟨u6, bs6, rfl, _⟩ := hrp;clear HK5;go_wp2;go_ret;rw [HREP.out];exact HM.out
theorem removeN : ∀ (T : AT) (k : Nat) (u : Option Addr) (bs : List Nat) (base : Nat) (w : World), T.bal -> T.ok -> k < T.its -> Lies w base T u bs -> bs.Nodup ->
  Calls Tryz.prog 184 #[.pointer u, .int .i64 k] w (MutPost base (T.rem k) bs w) :=
 fun T k u bs base w a b c d e => KJ T k u bs base w a b.w c d e
theorem AT.spl_gt (l : AT) (p : Pc) (r : AT) (e : Pc) (B : AT) (h : (AT.node l p r).ht > B.ht + 1) : AT.spl (.node l p r) e B = AT.rep l p (AT.spl r e B) := by
 rw [AT.spl.eq_def]; simp only [if_pos h]
theorem AT.spl_lt (A : AT) (e : Pc) (l : AT) (p : Pc) (r : AT) (h1 : ¬ A.ht > (AT.node l p r).ht + 1) (h : (AT.node l p r).ht > A.ht + 1) : AT.spl A e (.node l p r) = AT.rep (AT.spl A e l) p r := by
 rw [AT.spl.eq_def]; simp only [if_neg h1, if_pos h]
theorem AT.spl_eq (A : AT) (e : Pc) (B : AT) (h1 : ¬ A.ht > B.ht + 1) (h : ¬ B.ht > A.ht + 1) : AT.spl A e B = .node A e B := by
 rw [AT.spl.eq_def]; simp only [if_neg h1, if_neg h]
def CutR (base b m : Nat) (l : AT) (p : Pc) (S : AT) (ul : Option Addr) (bl cs ds : List Nat) (h i n k : Int) (w wc : World) : Prop :=
 ∃ u2 bs2, Nd wc b p ul u2 h i n k ∧ Lies wc base S u2 bs2 ∧ Lies wc base l ul bl ∧ (b :: (bl ++ bs2)).Nodup ∧ (∀ x ∈ bs2, x ∈ cs ∨ m <= x) ∧ Chg ds w wc
def CutL (base b m : Nat) (r : AT) (p : Pc) (S : AT) (ur : Option Addr) (br cs ds : List Nat) (h i n k : Int) (w wc : World) : Prop :=
 ∃ u2 bs2, Nd wc b p u2 ur h i n k ∧ Lies wc base S u2 bs2 ∧ Lies wc base r ur br ∧ (b :: (bs2 ++ br)).Nodup ∧ (∀ x ∈ bs2, x ∈ cs ∨ m <= x) ∧ Chg ds w wc
theorem Lies.heap {w w' : World} {base : Nat} {T : AT} {u : Option Addr} {bs : List Nat} (h : Lies w base T u bs) (e : w'.heap = w.heap) : Lies w' base T u bs := h.frame (fun _ _ => by rw [e])
theorem MutPost.drawn {base : Nat} {T : AT} {bs : List Nat} {W w : World} {e : Ending} {w' : World} (h : MutPost base T bs W e w') (e1 : W.os = w.os) (e2 : W.tape = w.tape) (e3 : W.output = w.output) (e4 : W.heap = w.heap) : MutPost base T bs w e w' := by
 obtain ⟨u', bs', h1, h2, h3, h4, h5⟩ := h
 exact ⟨u', bs', h1, h2, h3, by rw [<- e4]; exact h4, h5.os.trans e1, h5.tape.trans e2, h5.output.trans e3, by rw [<- e4]; exact h5.size, by rw [<- e4]; exact h5.block⟩
end Go.Proofs.YtbgngikejgihgafGreatDoor

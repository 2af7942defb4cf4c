import Derived.Test.YtibbhecojkehfaaGreatDoorMq08
import Derived.Lib.QuietBelow
set_option linter.all false
set_option maxRecDepth 100000
set_option maxHeartbeats 16000000
namespace Go.Proofs.YtibbhecojkehfaaGreatDoor
open Go Go.RowKit
def cutT (U:List Int) (a b:Int):List Int:=(U.drop a.toNat).take (b.toNat - a.toNat)
theorem Zc (A B:List Int) (a b:Int) (h:a<=b):cutT (A++B) a b=cutT A a b++cutT B (a - A.length) (b - A.length):=by
 unfold cutT;rw [List.drop_append,List.take_append,List.length_drop]
 congr 1
 rw [show(a - (A.length:Int)).toNat=a.toNat - A.length by omega]
 congr 1
 omega
theorem Ja (U:List Int) (a b:Int) (h:b<=0):cutT U a b= []:=by
 unfold cutT;rw [show b.toNat - a.toNat=0 by omega,List.take_zero]
theorem Y8 (U:List Int) (a b:Int) (h:(U.length:Int)<=a):cutT U a b= []:=by
 unfold cutT;rw [List.drop_of_length_le (by omega),List.take_nil]
def acr (lo hi:Int):AT->Int->List (Int×Pc)
 | .nil,_=>[]
 | .node l p r,s=>if hi<=s∨s+(AT.node l p r).rns<=lo then []else
  acr lo hi l s++((if s+l.rns<hi∧lo<s+l.rns+p.len then [(s+l.rns,p)]else [])++acr lo hi r (s+l.rns+p.len))
def txA (zs:List Int) (lo hi:Int):List (Int×Pc)->List Int
 | []=>[]
 | y::ys=>cutT (ptx zs y.2) (lo - y.1) (hi - y.1)++txA zs lo hi ys
theorem jj (zs:List Int) (lo hi:Int) (a b:List (Int×Pc)):txA zs lo hi (a++b)=txA zs lo hi a++txA zs lo hi b:=by
 induction a with
 | nil=>rfl
 | cons x a ih=>simp [txA,ih]
theorem XN (zs:List Int) (lo hi:Int) (hlh:lo<=hi):∀ (T:AT) (s:Int),T.wp zs->txA zs lo hi (acr lo hi T s)=cutT (T.tx zs) (lo - s) (hi - s)
 | .nil,s,_=>by simp [acr,txA,cutT,AT.tx]
 | .node l p r,s,hw=>by
  have hw':=hw;obtain⟨hl,hp,hr⟩:=hw;have el:=AT.tx_len hl;have ep:=jw hp;have ea:=AT.tx_len hw';unfold acr
  split
  ·rename_i hc
   rcases hc with hc | hc
   ·rw [Ja _ _ _ (by omega)];rfl
   rw [Y8 _ _ _ (by omega)];rfl
  simp only [AT.tx]
  rw [jj,jj,XN zs lo hi hlh l s hl,XN zs lo hi hlh r _ hr,Zc _ _ _ _ (by omega),Zc _ _ _ _ (by omega),el,ep]
  congr 1
  rw [show lo - s - l.rns - p.len=lo - (s+l.rns+p.len)by omega,show hi - s - l.rns - p.len=hi - (s+l.rns+p.len)by omega]
  congr 1
  split
  ·simp only [txA,List.append_nil]
   rw [show lo - s - l.rns=lo - (s+l.rns)by omega,show hi - s - l.rns=hi - (s+l.rns)by omega]
  rename_i hn
  by_cases h1:s+l.rns<hi
  ·rw [Y8 _ _ _ (by omega)];rfl
  rw [Ja _ _ _ (by omega)];rfl
def AT.pos:AT->Prop
 | .nil=>True
 | .node l p r=>l.pos∧1<=p.len∧r.pos
def AcQ (zs:List Int) (lo hi:Int) (y:Int×Pc):Prop:=WP zs y.2∧0<=y.1∧y.1<=8192∧y.1<hi∧lo<y.1+y.2.len∧y.2.len<=8192∧1<=y.2.len
theorem acr_q (zs:List Int) (lo hi:Int):∀ (T:AT) (s:Int),T.wp zs->T.pos->0<=s->s+T.rns<=8192->∀y∈acr lo hi T s,AcQ zs lo hi y
 | .nil,s,_,_,_,_=>by simp [acr]
 | .node l p r,s,hw,hps,h0,h1=>by
  obtain⟨hl,hp,hr⟩:=hw;obtain⟨pl,pp,pr⟩:=hps;have el:=AT.tx_len hl;have er:=AT.tx_len hr;have hp2:=hp.2.1;simp only [AT.rns]at h1;intro y hy;unfold acr at hy
  split at hy
  ·cases hy
  rcases List.mem_append.1 hy with hy | hy
  ·exact acr_q zs lo hi l s hl pl h0 (by omega) y hy
  rcases List.mem_append.1 hy with hy | hy
  ·split at hy
   ·rename_i hc
    obtain rfl:y=(s+l.rns,p):=by simpa using hy
    exact⟨hp,by simp only;omega,by simp only;omega,hc.1,hc.2,by simp only;omega,pp⟩
   cases hy
  exact acr_q zs lo hi r _ hr pr (by omega) (by omega) y hy
theorem JA (lo hi:Int):∀ (T:AT) (s:Int),(acr lo hi T s).length<=T.its
 | .nil,_=>by simp [acr]
 | .node l p r,s=>by
  have h1:=JA lo hi l s;have h2:=JA lo hi r (s+l.rns+p.len);unfold acr;simp only [AT.its]
  split
  ·simp
  split
  ·simp only [List.length_append,List.length_cons,List.length_nil];omega
  simp only [List.length_append,List.length_nil];omega
end Go.Proofs.YtibbhecojkehfaaGreatDoor
namespace Go.Proofs.YtibbhecojkehfaaGreatDoor
open Go Go.RowKit Go.Shelf
attribute [local go_sem] Oper.semAt_some
theorem IsT.more {n₀:Nat} {W:World} {p:Option Addr} {l:AT} {q:Pc} {r:AT} (h:IsT n₀ W p (.node l q r)):∃b pl pr base bl,p=some ⟨b,0,none⟩∧b<n₀∧W.cell? ⟨b,0,none⟩=some (.int .i64 q.off)∧W.cell? ⟨b,1,none⟩=some (.int .i64 q.len)∧W.cell? ⟨b,2,none⟩=some (.int .i64 q.brk)∧
  W.cell? ⟨b,3,none⟩=some (.pointer pl)∧W.cell? ⟨b,4,none⟩=some (.pointer pr)∧W.cell? ⟨b,7,none⟩=some (.int .i64 (AT.node l q r).rns)∧Lies W base l pl bl∧(∀x∈bl,x<n₀)∧IsT n₀ W pl l∧IsT n₀ W pr r:=by
 obtain⟨base,bs,⟨b,ul,ur,bl,br,rfl,hb,hn,hl,hr,rfl⟩,h2⟩:=h
 exact⟨b,ul,ur,base,bl,rfl,h2 b (by simp),hn.c0,hn.c1,hn.c2,hn.c3,hn.c4,hn.c7,hl,fun x hx=>h2 x (by simp [hx]),⟨base,bl,hl,fun x hx=>h2 x (by simp [hx])⟩,⟨base,br,hr,fun x hx=>h2 x (by simp [hx])⟩⟩
theorem Jb (Q:Int×Pc->Prop) (lo hi:Int) (hlo:0<=lo∧lo<=8192) (hhi:0<=hi∧hi<=8192) (l n₀ N:Nat) (J Jx:List (Int×Pc)->World->Prop)
  (hJb:∀pre W W',J pre W->Below W.heap.size W W'->J pre W')
  (hY:∀m pre (y:Int×Pc) W,J pre W->pre.length<N->Q y->YieldAt Fence.wide m Tryz.prog l #[.int .i64 y.1,.agg #[.int .i64 y.2.off,.int .i64 y.2.len,.int .i64 y.2.brk]] W fun e W'=>
   (e= .returned (.bool true)∧J (pre++ [y]) W'∧Below n₀ W W')∨(e= .returned (.bool false)∧Jx (pre++ [y]) W')) (T:AT):
  ∀ (n:Nat) (p:Option Addr) (s:Int) (pre:List (Int×Pc)) (W:World),IsT n₀ W p T->T.ok->0<=s->s+T.rns<=8192->J pre W->pre.length+T.its<=N->(∀y∈acr lo hi T s,Q y)->n₀<=W.heap.size->
   CallsIn Fence.wide n Tryz.prog 214 #[.pointer p,.int .i64 s,.int .i64 lo,.int .i64 hi,.func (.yield l) #[] #[]] W fun e W'=>
    (e= .returned (.bool true)∧J (pre++acr lo hi T s) W'∧Below n₀ W W')∨(e= .returned (.bool false)∧∃q,q<+:acr lo hi T s∧Jx (pre++q) W'):=by
 induction T with
 | nil=>
  intro n p s pre W ht _ h0 h1 hJ _ _ _;obtain⟨base,bs,⟨rfl,rfl⟩,_⟩:=ht;refine callsIn_of_wp Tryz.func214 rfl trivial ?_ rfl;simp only [Tryz.ntmps214,List.size_toArray,List.length_cons,List.length_nil,Nat.reduceAdd,Nat.reduceSub,Array.replicate_succ,Array.replicate_zero,List.push_toArray,List.append_toArray,List.nil_append,List.cons_append]
  gi_wp2_with fail
  go_ret
  exact .inl ⟨rfl,by simpa [acr]using hJ,Below.refl _ _⟩
 | node tl v tr ihl ihr=>
  intro n p s pre W ht hok h0 h1 hJ hN hQ hnW;obtain⟨b,pl,pr,base,bl,rfl,hb,c0,c1,c2,c3,c4,c7,hLl,hbl,hl,hr⟩:=ht.more;have bL:=hok.left.bd;have bR:=hok.right.bd;have bP:=hok.piece;have hrn:(AT.node tl v tr).rns=tl.rns+v.len+tr.rns:=rfl;have hok1:=hok.left;have hok2:=hok.right
  have hrnI:s+tl.rns+v.len+tr.rns<=8192∧s+tl.rns<=8192:=by omega
  generalize hRN:(AT.node tl v tr).rns=rn at *
  have hsn:IntKind.i64.wrap (s+rn)=s+rn:=by rw [IntKind.wrap_i64];omega
  have hlv:=JA lo hi tl s;have hlen1:(acr lo hi tl s).length<=tl.its:=hlv
  have HAC:=hide (show acr lo hi (AT.node tl v tr) s=(if hi<=s∨s+(AT.node tl v tr).rns<=lo then []else acr lo hi tl s++((if s+tl.rns<hi∧lo<s+tl.rns+v.len then [(s+tl.rns,v)]else [])++acr lo hi tr (s+tl.rns+v.len)))from rfl)
  rw [hRN]at HAC;generalize acr lo hi (AT.node tl v tr) s=TD at HAC hQ |-;simp only [AT.its]at hN
  by_cases k1:hi<=s
  ·rw [if_pos (.inl k1)]at HAC
   refine callsIn_of_wp Tryz.func214 rfl trivial ?_ rfl;simp only [Tryz.ntmps214,List.size_toArray,List.length_cons,List.length_nil,Nat.reduceAdd,Nat.reduceSub,Array.replicate_succ,Array.replicate_zero,List.push_toArray,List.append_toArray,List.nil_append,List.cons_append]
   gi_wp2_with fail
   go_ret
   exact .inl ⟨rfl,by rw [HAC.out];simpa using hJ,Below.refl _ _⟩
  by_cases k2:s+rn<=lo
  ·rw [if_pos (.inr k2)]at HAC
   have k1':¬s>=hi:=by omega
   refine callsIn_of_wp Tryz.func214 rfl trivial ?_ rfl;simp only [Tryz.ntmps214,List.size_toArray,List.length_cons,List.length_nil,Nat.reduceAdd,Nat.reduceSub,Array.replicate_succ,Array.replicate_zero,List.push_toArray,List.append_toArray,List.nil_append,List.cons_append]
   gi_wp2_with fail
   go_ret
   exact .inl ⟨rfl,by rw [HAC.out];simpa using hJ,Below.refl _ _⟩
  rw [if_neg (by omega)]at HAC
  have k1':¬s>=hi:=by omega
  have hQl:∀y∈acr lo hi tl s,Q y:=fun y hy=>hQ y (by rw [HAC.out];simp [hy])
  have hQr:∀y∈acr lo hi tr (s+tl.rns+v.len),Q y:=fun y hy=>hQ y (by rw [HAC.out];simp [hy])
  have hQm:(s+tl.rns<hi∧lo<s+tl.rns+v.len)->Q (s+tl.rns,v):=fun hc=>hQ _ (by rw [HAC.out,if_pos hc];simp)
  clear hQ;have HQR:=hide hQr;have HQM:=hide hQm;have mR:=Tryz.methodRunes;have fl1:=Tryz.fld1
  have HAll:=hide (fun W' (hW:Below n₀ W W')=>allN tl pl bl base W' (hLl.frame fun x hx=>hW.block x (hbl x hx)))
  have HRn:=hide (fun W'=>pRunes v W')
  have HIL:=hide (fun W' (hW:Below W.heap.size W W')=>ihl (n - 1) pl s pre W' (hl.below (hW.mono hnW)) hok1 h0 (by omega) (hJb pre W W' hJ hW) (by omega) hQl (Nat.le_trans hnW hW.size))
  have HC:=hide (And.intro c0 (And.intro c1 (And.intro c2 (And.intro c3 c4))));clear hQr hQm hLl hQl hok hok1 hrn ihl
  have hbW:b<W.heap.size:=by omega
  by_cases hc:s+tl.rns<hi∧lo<s+tl.rns+v.len
  ·rw [if_pos hc]at HAC
   have hcA:=hc.1;have hcB:=hc.2
   have HYY:=hide (fun W' (h:J (pre++acr lo hi tl s) W')=>hY (n - 1) (pre++acr lo hi tl s) (s+tl.rns,v) W' h (by rw [List.length_append];omega) (HQM.out hc))
   have HIR:=hide (fun W' (hW:Below n₀ W W') (hJ':J (pre++acr lo hi tl s++ [(s+tl.rns,v)]) W')=>ihr (n - 1) pr (s+tl.rns+v.len) (pre++acr lo hi tl s++ [(s+tl.rns,v)]) W' (hr.below hW) hok2 (by omega) (by omega) hJ' (by simp only [List.length_append,List.length_cons,List.length_nil];omega) HQR.out (Nat.le_trans hnW hW.size))
   clear ihr hY hc;refine callsIn_of_wp Tryz.func214 rfl trivial ?_ rfl;simp only [Tryz.ntmps214,List.size_toArray,List.length_cons,List.length_nil,Nat.reduceAdd,Nat.reduceSub,Array.replicate_succ,Array.replicate_zero,List.push_toArray,List.append_toArray,List.nil_append,List.cons_append]
   gi_wp2_with (first
    | (refine⟨trivial,fun h=>(by cases h),?_⟩;refine(callsIn_wide.2 (HAll.out W (Below.refl _ _))).mono ?_;rintro e W1 ⟨rfl,hb1⟩;have B1:=hide hb1;have s1:=hb1.size;obtain⟨c0',c1',c2',c3',c4'⟩:=HC.out;have e0:=(hb1.cell (p:=⟨b,0,none⟩) hbW).trans c0';have e1:=(hb1.cell (p:=⟨b,1,none⟩) hbW).trans c1';have e2:=(hb1.cell (p:=⟨b,2,none⟩) hbW).trans c2';clear hb1 c0' c1' c2' c3' c4' c0 c1 c2 c3 c4 c7;simp only [cnt])
    | (refine⟨trivial,fun h=>(by cases h),?_⟩;refine(callsIn_wide.2 (HRn.out _)).mono ?_;rintro e W2 ⟨rfl,hb2⟩;have B2:=hide (B1.out.trans (hb2.mono s1));have s2:=B2.out.size;obtain⟨c0',c1',c2',c3',c4'⟩:=HC.out;have e3:=(B2.out.cell (p:=⟨b,3,none⟩) hbW).trans c3';clear hb2 c0' c1' c2' c3' c4' e0 e1 e2)
    | (refine⟨trivial,fun h=>(by cases h),?_⟩;refine(HIL.out _ B2.out).mono ?_;clear HIL;rintro e W3 (⟨rfl,hJ3,hb3⟩ | ⟨rfl,q,hq,hx3⟩);rotate_left;skip;rotate_left;have B3:=hide ((B2.out.mono hnW).trans hb3);have J3:=hide hJ3;obtain⟨c0',c1',c2',c3',c4'⟩:=HC.out;have g0:=(B3.out.cell (p:=⟨b,0,none⟩) hb).trans c0';have g1:=(B3.out.cell (p:=⟨b,1,none⟩) hb).trans c1';have g2:=(B3.out.cell (p:=⟨b,2,none⟩) hb).trans c2';have g4:=(B3.out.cell (p:=⟨b,4,none⟩) hb).trans c4';clear hb3 hJ3 c0' c1' c2' c3' c4' e3;obtain⟨fn,tmps,assign,body,hy,hR⟩:=HYY.out W3 J3.out;have HR:=hide hR;clear hR)
    | ((try refine⟨trivial,?_⟩);(try refine⟨fun h=>(by cases h),?_⟩);refine HR.out.mono ?_;clear HR;rintro e W4 (⟨rfl,hJ4,hb4⟩ | ⟨rfl,hx4⟩);rotate_left;skip;rotate_left;have B4:=hide (B3.out.trans hb4);have J4:=hide hJ4;obtain⟨c0',c1',c2',c3',c4'⟩:=HC.out;have h4:=(B4.out.cell (p:=⟨b,4,none⟩) hb).trans c4';clear hb4 hJ4 c0' c1' c2' c3' c4' g0 g1 g2 g4)
    | (refine⟨trivial,fun h=>(by cases h),?_⟩;refine(HIR.out _ B4.out J4.out).mono ?_;rintro e W5 (⟨rfl,hJ5,hb5⟩ | ⟨rfl,q,hq,hx5⟩)))
   all_goals first
    | (go_ret;exact .inl ⟨rfl,by rw [HAC.out];simpa [List.append_assoc]using hJ5,B4.out.trans hb5⟩)
    | (go_ret;obtain⟨r',hr'⟩:=hq;exact .inr ⟨rfl,acr lo hi tl s++((s+tl.rns,v)::q),⟨r',by rw [HAC.out];simp [<- hr']⟩,by simpa [List.append_assoc]using hx5⟩)
    | (go_ret;exact .inr ⟨rfl,acr lo hi tl s++ [(s+tl.rns,v)],⟨acr lo hi tr (s+tl.rns+v.len),by rw [HAC.out];simp⟩,by simpa [List.append_assoc]using hx4⟩)
    | (go_ret;exact .inr ⟨rfl,q,hq.trans (by rw [HAC.out];simp),hx3⟩)
    | done
  rw [if_neg hc,List.nil_append]at HAC
  have HIR:=hide (fun W' (hW:Below n₀ W W') (hJ':J (pre++acr lo hi tl s) W')=>ihr (n - 1) pr (s+tl.rns+v.len) (pre++acr lo hi tl s) W' (hr.below hW) hok2 (by omega) (by omega) hJ' (by simp only [List.length_append];omega) HQR.out (Nat.le_trans hnW hW.size))
  clear ihr hY
  have hnf:∀f:FuncId,(none:Option FuncId)=some f->Fence.wide.fn f:=fun f h=>by cases h
  by_cases hcA:s+tl.rns<hi
  ·have hcB:¬lo<s+tl.rns+v.len:=fun h=>hc ⟨hcA,h⟩
   clear hc;refine callsIn_of_wp Tryz.func214 rfl trivial ?_ rfl;simp only [Tryz.ntmps214,List.size_toArray,List.length_cons,List.length_nil,Nat.reduceAdd,Nat.reduceSub,Array.replicate_succ,Array.replicate_zero,List.push_toArray,List.append_toArray,List.nil_append,List.cons_append]
   gi_wp2_with (first
   | (refine⟨trivial,fun h=>(by cases h),?_⟩;refine(callsIn_wide.2 (HAll.out W (Below.refl _ _))).mono ?_;rintro e W1 ⟨rfl,hb1⟩;have B1:=hide hb1;have s1:=hb1.size;obtain⟨c0',c1',c2',c3',c4'⟩:=HC.out;have e0:=(hb1.cell (p:=⟨b,0,none⟩) hbW).trans c0';have e1:=(hb1.cell (p:=⟨b,1,none⟩) hbW).trans c1';have e2:=(hb1.cell (p:=⟨b,2,none⟩) hbW).trans c2';clear hb1 c0' c1' c2' c3' c4' c0 c1 c2 c3 c4 c7;simp only [cnt])
   | (refine⟨trivial,fun h=>(by cases h),?_⟩;refine(callsIn_wide.2 (HRn.out _)).mono ?_;rintro e W2 ⟨rfl,hb2⟩;have B2:=hide (B1.out.trans (hb2.mono s1));have s2:=B2.out.size;obtain⟨c0',c1',c2',c3',c4'⟩:=HC.out;have e3:=(B2.out.cell (p:=⟨b,3,none⟩) hbW).trans c3';clear hb2 c0' c1' c2' c3' c4' e0 e1 e2)
   | (refine⟨trivial,fun h=>(by cases h),?_⟩;refine(HIL.out _ B2.out).mono ?_;clear HIL;rintro e W3 (⟨rfl,hJ3,hb3⟩ | ⟨rfl,q,hq,hx3⟩);rotate_left;skip;rotate_left;have B3:=hide ((B2.out.mono hnW).trans hb3);have J3:=hide hJ3;obtain⟨c0',c1',c2',c3',c4'⟩:=HC.out;have g0:=(B3.out.cell (p:=⟨b,0,none⟩) hb).trans c0';have g1:=(B3.out.cell (p:=⟨b,1,none⟩) hb).trans c1';have g2:=(B3.out.cell (p:=⟨b,2,none⟩) hb).trans c2';have g4:=(B3.out.cell (p:=⟨b,4,none⟩) hb).trans c4';clear hb3 hJ3 c0' c1' c2' c3' c4' e3)
    | fail)
   all_goals first
    | (go_ret;exact .inr ⟨rfl,q,hq.trans (by rw [HAC.out];simp),hx3⟩)
    | skip
   refine⟨hnf,?_⟩
   gi_wp2_with (refine⟨trivial,fun h=>(by cases h),?_⟩;refine(HIR.out _ B3.out J3.out).mono ?_;rintro e W5 (⟨rfl,hJ5,hb5⟩ | ⟨rfl,q,hq,hx5⟩))
   all_goals first
    | (go_ret;exact .inl ⟨rfl,by rw [HAC.out];simpa [List.append_assoc]using hJ5,B3.out.trans hb5⟩)
    | (go_ret;obtain⟨r',hr'⟩:=hq;exact .inr ⟨rfl,acr lo hi tl s++q,⟨r',by rw [HAC.out];simp [<- hr']⟩,by simpa [List.append_assoc]using hx5⟩)
    | done
  clear hc;refine callsIn_of_wp Tryz.func214 rfl trivial ?_ rfl;simp only [Tryz.ntmps214,List.size_toArray,List.length_cons,List.length_nil,Nat.reduceAdd,Nat.reduceSub,Array.replicate_succ,Array.replicate_zero,List.push_toArray,List.append_toArray,List.nil_append,List.cons_append]
  gi_wp2_with (first
  | (refine⟨trivial,fun h=>(by cases h),?_⟩;refine(callsIn_wide.2 (HAll.out W (Below.refl _ _))).mono ?_;rintro e W1 ⟨rfl,hb1⟩;have B1:=hide hb1;have s1:=hb1.size;obtain⟨c0',c1',c2',c3',c4'⟩:=HC.out;have e0:=(hb1.cell (p:=⟨b,0,none⟩) hbW).trans c0';have e1:=(hb1.cell (p:=⟨b,1,none⟩) hbW).trans c1';have e2:=(hb1.cell (p:=⟨b,2,none⟩) hbW).trans c2';clear hb1 c0' c1' c2' c3' c4' c0 c1 c2 c3 c4 c7;simp only [cnt])
  | (refine⟨trivial,fun h=>(by cases h),?_⟩;refine(callsIn_wide.2 (HRn.out _)).mono ?_;rintro e W2 ⟨rfl,hb2⟩;have B2:=hide (B1.out.trans (hb2.mono s1));have s2:=B2.out.size;obtain⟨c0',c1',c2',c3',c4'⟩:=HC.out;have e3:=(B2.out.cell (p:=⟨b,3,none⟩) hbW).trans c3';clear hb2 c0' c1' c2' c3' c4' e0 e1 e2)
  | (refine⟨trivial,fun h=>(by cases h),?_⟩;refine(HIL.out _ B2.out).mono ?_;clear HIL;rintro e W3 (⟨rfl,hJ3,hb3⟩ | ⟨rfl,q,hq,hx3⟩);rotate_left;skip;rotate_left;have B3:=hide ((B2.out.mono hnW).trans hb3);have J3:=hide hJ3;obtain⟨c0',c1',c2',c3',c4'⟩:=HC.out;have g0:=(B3.out.cell (p:=⟨b,0,none⟩) hb).trans c0';have g1:=(B3.out.cell (p:=⟨b,1,none⟩) hb).trans c1';have g2:=(B3.out.cell (p:=⟨b,2,none⟩) hb).trans c2';have g4:=(B3.out.cell (p:=⟨b,4,none⟩) hb).trans c4';clear hb3 hJ3 c0' c1' c2' c3' c4' e3)
   | fail)
  all_goals first
   | (go_ret;exact .inr ⟨rfl,q,hq.trans (by rw [HAC.out];simp),hx3⟩)
   | skip
  refine⟨hnf,?_⟩
  gi_wp2_with (refine⟨trivial,fun h=>(by cases h),?_⟩;refine(HIR.out _ B3.out J3.out).mono ?_;rintro e W5 (⟨rfl,hJ5,hb5⟩ | ⟨rfl,q,hq,hx5⟩))
  all_goals first
   | (go_ret;exact .inl ⟨rfl,by rw [HAC.out];simpa [List.append_assoc]using hJ5,B3.out.trans hb5⟩)
   | (go_ret;obtain⟨r',hr'⟩:=hq;exact .inr ⟨rfl,acr lo hi tl s++q,⟨r',by rw [HAC.out];simp [<- hr']⟩,by simpa [List.append_assoc]using hx5⟩)
   | done
theorem XO (Q:Int×Pc->Prop) (lo hi:Int) (hlo:0<=lo∧lo<=8192) (hhi:0<=hi∧hi<=8192) (n:Nat) (l Bt Bl Bh n₀:Nat) (p0:Option Addr) (T:AT) (hok:T.ok) (hQ:∀y∈acr lo hi T 0,Q y) (J Jx:List {y:Int×Pc //Q y}->World->Prop) (hJb:∀pre W W',J pre W->Below W.heap.size W W'->J pre W')
  (hY:∀pre (y:{y:Int×Pc //Q y}) W,J pre W->pre.length<T.its->YieldAt Fence.wide (n - 1) Tryz.prog l #[.int .i64 y.1.1,.agg #[.int .i64 y.1.2.off,.int .i64 y.1.2.len,.int .i64 y.1.2.brk]] W fun e W'=>
   (e= .returned (.bool true)∧J (pre++ [y]) W'∧Below n₀ W W')∨(e= .returned (.bool false)∧Jx (pre++ [y]) W'))
  (W:World) (hBt:W.cell? ⟨Bt,0,none⟩=some (.pointer p0)) (hBl:W.cell? ⟨Bl,0,none⟩=some (.int .i64 lo)) (hBh:W.cell? ⟨Bh,0,none⟩=some (.int .i64 hi)) (hT:IsT n₀ W p0 T) (hnW:n₀<=W.heap.size) (h0:J [] W):
  CallsIn Fence.wide n Tryz.prog 213 #[.func (.yield l) #[] #[],.pointer (some ⟨Bt,0,none⟩),.pointer (some ⟨Bl,0,none⟩),.pointer (some ⟨Bh,0,none⟩)] W fun e W'=>(∃v,e= .returned v)∧
   ((∃ys:List {y:Int×Pc //Q y},ys.map (·.1)=acr lo hi T 0∧J ys W')∨(∃pre:List {y:Int×Pc //Q y},pre.map (·.1)<+:acr lo hi T 0∧Jx pre W')):=by
 have bT:=hok.bd
 have hp:=Jb Q lo hi hlo hhi l n₀ T.its (fun pre W=>∃p:List {y:Int×Pc //Q y},p.map (·.1)=pre∧J p W) (fun pre W=>∃p:List {y:Int×Pc //Q y},p.map (·.1)=pre∧Jx p W) (fun pre W W' ⟨p,hp,hj⟩ hb=>⟨p,hp,hJb p W W' hj hb⟩) (fun m pre x W hj hl hq=>by
   obtain⟨p,hp,hj⟩:=hj;subst hp
   refine Zb rfl m (YieldAt.mono (hY p ⟨x,hq⟩ W hj (by simpa using hl)) fun e W' h=>h.elim (fun⟨he,h1,h2⟩=>.inl ⟨he,⟨_,by simp,h1⟩,h2⟩) (fun⟨he,h1⟩=>.inr ⟨he,⟨_,by simp,h1⟩⟩))) T (n - 1) p0 0 [] W hT hok (by omega) (by omega) ⟨[],rfl,h0⟩ (by simp) hQ hnW
 refine callsIn_of_wp Tryz.func213 rfl trivial ?_ rfl;simp only [Tryz.ntmps213,List.size_toArray,List.length_cons,List.length_nil,Nat.reduceAdd,Nat.reduceSub,Array.replicate_succ,Array.replicate_zero,List.push_toArray,List.append_toArray,List.nil_append,List.cons_append]
 gi_wp2_with (refine⟨trivial,fun h=>(by cases h),?_⟩;refine hp.mono ?_;clear hp;rintro e W1 (⟨rfl,⟨ys,hys,hJ1⟩,_⟩ | ⟨rfl,q,hq,ys,hys,hx⟩))
 ·go_end0
  exact⟨⟨_,rfl⟩,.inl ⟨ys,by simpa using hys,hJ1⟩⟩
 go_end0
 exact⟨⟨_,rfl⟩,.inr ⟨ys,by rw [hys];simpa using hq,hx⟩⟩
theorem JC (Q:Int×Pc->Prop) (lo hi:Int) (hlo:0<=lo∧lo<=8192) (hhi:0<=hi∧hi<=8192) (n:Nat) (Bt Bl Bh n₀:Nat) (p0:Option Addr) (T:AT) (hok:T.ok) (hQ:∀y∈acr lo hi T 0,Q y) (w:World) (hBt:Bt<w.heap.size) (hBl:Bl<w.heap.size) (hBh:Bh<w.heap.size) (hn₀:n₀<=w.heap.size)
  (hc:w.cell? ⟨Bt,0,none⟩=some (.pointer p0)) (hc2:w.cell? ⟨Bl,0,none⟩=some (.int .i64 lo)) (hc3:w.cell? ⟨Bh,0,none⟩=some (.int .i64 hi)) (hT:IsT n₀ w p0 T):
  SeqStopsK Fence.wide n Tryz.prog 213 #[.pointer (some ⟨Bt,0,none⟩),.pointer (some ⟨Bl,0,none⟩),.pointer (some ⟨Bh,0,none⟩)] (fun y:{y:Int×Pc //Q y}=>#[Value.int .i64 y.1.1,.agg #[.int .i64 y.1.2.off,.int .i64 y.1.2.len,.int .i64 y.1.2.brk]]) (Below n₀) (fun ys=>ys.map (·.1)=acr lo hi T 0) (fun pre=>pre.map (·.1)<+:acr lo hi T 0) T.its w:=fun l J Jx W hW hJ _ hY h0=>
 XO Q lo hi hlo hhi n l Bt Bl Bh n₀ p0 T hok hQ J Jx (fun pre A B hj hb=>hJ pre A B none hj ⟨hb.os,hb.tape,hb.output,hb.size,fun k hk _=>hb.block k hk⟩ (fun r e=>by cases e)) hY W ((hW.cell (p:=⟨Bt,0,none⟩) hBt).trans hc) ((hW.cell (p:=⟨Bl,0,none⟩) hBl).trans hc2) ((hW.cell (p:=⟨Bh,0,none⟩) hBh).trans hc3) (hT.below (hW.mono hn₀)) (Nat.le_trans hn₀ hW.size) h0
theorem zA1 (n:Nat) (p0:Option Addr) (lo hi:Int) (w:World):
  CallsIn Fence.wide n Tryz.prog 205 #[.pointer p0,.int .i64 lo,.int .i64 hi] w fun e w'=>e= .returned (.func (.func 213) #[] #[.pointer (some ⟨w.heap.size,0,none⟩),.pointer (some ⟨w.heap.size+1,0,none⟩),.pointer (some ⟨w.heap.size+1+1,0,none⟩)])∧w'=((w.alloc (.cells #[.pointer p0] 84)).alloc (.cells #[.int .i64 lo] 3)).alloc (.cells #[.int .i64 hi] 3):=by
 refine callsIn_of_wp Tryz.func205 rfl trivial ?_ rfl;simp only [Tryz.ntmps205,List.size_toArray,List.length_cons,List.length_nil,Nat.reduceAdd,Nat.reduceSub,Array.replicate_succ,Array.replicate_zero,List.push_toArray,List.append_toArray,List.nil_append,List.cons_append]
 gi_wp2
 go_ret;exact⟨rfl,rfl⟩
end Go.Proofs.YtibbhecojkehfaaGreatDoor
namespace Go.Proofs.YtibbhecojkehfaaGreatDoor
open Go Go.RowKit Go.Sort
structure PCore (w:World) (base c b o cap:Nat) (zs:List Int) (T:AT):Prop where
 k:∃u bs,PK w c b o zs.length cap u∧Lies w base T u bs
 a:At32 w b o zs
 b:b<w.heap.size
 ok:T.ok
 wp:T.wp zs
 n:zs.length<=1048576∧zs.length<=cap∧cap<=maxLen
theorem textN (c b o n cap q m:Nat) (pb:Int) (u:Option Addr) (w:World) (hk:PK w c b o n cap u) (h:q+m<=n) (h0:0<m∨q=0) (hcap:n<=cap) (hm:cap<=maxLen):
  Calls Tryz.prog 200 #[.pointer (some ⟨c,0,none⟩),.agg #[.int .i64 (q:Int),.int .i64 (m:Int),.int .i64 pb]] w fun e w'=>e= .returned (.slice (some ⟨b,o+q,none⟩) m (cap - q))∧Below w.heap.size w w':=by
 have HB0:=hide ((Below.refl w.heap.size w).alloc lR (.cells #[.int .i64 (q:Int),.int .i64 (m:Int),.int .i64 pb] 89));have c0:=(HB0.out.cell (p:=⟨c,0,none⟩) hk.lt).trans hk.c0;have KA:(w.alloc (.cells #[.int .i64 (q:Int),.int .i64 (m:Int),.int .i64 pb] 89)).heap[w.heap.size]? =some (.cells #[.int .i64 (q:Int),.int .i64 (m:Int),.int .i64 pb] 89 (0,0)):=heap_alloc_new _ _
 have d0:(w.alloc (.cells #[.int .i64 (q:Int),.int .i64 (m:Int),.int .i64 pb] 89)).cell? ⟨w.heap.size,0,none⟩=some (.int .i64 (q:Int)):=by rw [cell_of_row _ _ 0 _ _ _ KA];rfl
 have d1:(w.alloc (.cells #[.int .i64 (q:Int),.int .i64 (m:Int),.int .i64 pb] 89)).cell? ⟨w.heap.size,1,none⟩=some (.int .i64 (m:Int)):=by rw [cell_of_row _ _ 1 _ _ _ KA];rfl
 have hs0:(w.alloc (.cells #[.int .i64 (q:Int),.int .i64 (m:Int),.int .i64 pb] 89)).heap.size=w.heap.size+1:=by simp
 unfold maxLen at hm
 have g1:(q:Int)<=(q:Int)+(m:Int):=by omega
 have g2:(q:Int)+(m:Int)<=(cap:Int):=by omega
 have g4:(0:Int)<=(q:Int)+(m:Int):=by omega
 clear hk KA
 by_cases hco:cap=q
 ·obtain rfl:q=0:=by omega
  obtain rfl:m=0:=by omega
  subst hco;go_enter Tryz.func200,Tryz.ntmps200;go_wp2_with fail;generalize w.alloc (.cells #[.int .i64 ((0:Nat):Int),.int .i64 ((0:Nat):Int),.int .i64 pb] 89)=w0 at *;go_quiet (fail)
  have HBN:=hide (show Below w.heap.size w (w0.drewN nq)from HB0.out.trans (Y7 _ _ _))
  go_wp2;go_ret;exact⟨rfl,HBN.out⟩
 have HQM:=hide (show Ending.returned (.slice (some ⟨b,o+q,none⟩) (q+m - q) (cap - q))=Ending.returned (.slice (some ⟨b,o+q,none⟩) m (cap - q))by rw [show q+m - q=m by omega])
 go_enter Tryz.func200,Tryz.ntmps200;go_wp2_with fail;generalize w.alloc (.cells #[.int .i64 (q:Int),.int .i64 (m:Int),.int .i64 pb] 89)=w0 at *;go_quiet (fail)
 have HBN:=hide (show Below w.heap.size w (w0.drewN nq)from HB0.out.trans (Y7 _ _ _))
 go_wp2;go_ret;exact⟨Eq.trans rfl HQM.out,HBN.out⟩
end Go.Proofs.YtibbhecojkehfaaGreatDoor

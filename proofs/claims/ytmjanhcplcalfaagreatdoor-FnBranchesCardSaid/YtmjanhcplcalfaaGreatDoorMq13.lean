import Derived.Test.YtmjanhcplcalfaaGreatDoorMq06
import Derived.ArgAppend
import Derived.Deep.AppendLies
set_option linter.all false
set_option maxRecDepth 100000
set_option maxHeartbeats 8000000
namespace Go.Proofs.YtmjanhcplcalfaaGreatDoor
open Go Go.RowKit Go.Proofs.Tryz
theorem AT.rem_lt (l:AT) (p:Pc) (r:AT) (k:Nat) (a:k<l.its):(AT.node l p r).rem k=AT.rep (l.rem k) p r:=by
 rw [AT.rem.eq_def];simp only [xd a]
theorem AT.rem_gt (l:AT) (p:Pc) (r:AT) (k:Nat) (a:¬k<l.its) (b:l.its<k):(AT.node l p r).rem k=AT.rep l p (r.rem (k - l.its - 1)):=by
 rw [AT.rem.eq_def];simp only [qZ a,xd b]
theorem yB (l:AT) (p:Pc) (r:AT):(AT.node l p r).flat=l.flat++p::r.flat:=rfl
theorem AT.qz {l:AT} {p:Pc} {r:AT} (a:(AT.node l p r).bal):l.bal∧r.bal∧l.ht<=r.ht+1∧r.ht<=l.ht+1:=a
theorem ZU {base:Nat} {T:AT} {bs cs:List Nat} {w c d:World} {e:Ending} (h:Chg bs w c) (f:∀x∈cs,x∈bs∨w.heap.size<=x) (i:cs.Nodup) (a:RepPost base T cs c e d):MutPost base T bs w e d:=by
 obtain⟨j,k,rfl,l,g,m⟩:=a;refine⟨j,k,rfl,l,g.nodup_iff.2 i,fun x b=>f x (g.mem_iff.1 b),h.trans m (fun _ a _=>a) (fun x b n=>?_)⟩;rcases f x b with a | a
 ·exact a
 omega
theorem zBh:∀ (T:AT) (k:Nat) (ab:Option Addr) (bs:List Nat) (base:Nat) (w:World),T.bal->T.okw->k<T.its->Lies w base T ab bs->bs.Nodup->
  Calls prog 187 #[.pointer ab,.int .i64 k] w (MutPost base (T.rem k) bs w):=by
 intro T
 induction T with
 | nil=>intro k ab bs base w _ _ b0;simp [AT.its]at b0
 | node l p r cg ch=>
  intro k ab bs base w b1 aq b0 b2 ar;have a2:=b2.lt;obtain⟨b,av,aw,bl,br,rfl,ax,ad,ay,cb,rfl⟩:=b2;obtain⟨b7,b8,dg,dh⟩:=AT.qz b1;have a3:=ar;simp only [vd,xG,xb,not_or]at a3;obtain⟨⟨b3,b4⟩,b5,b6,az⟩:=a3
  have a4:∀x∈br,x∉bl:=fun x h t=>az x t x h rfl
  have a5:∀x∈bl,x∉br:=fun x h t=>az x h x t rfl
  have cw:=aq.bd
  have cx:((AT.node l p r).its:Int)=l.its+1+r.its:=by simp only [AT.its];omega
  have cy:(AT.node l p r).its=l.its+1+r.its:=rfl;have P:=ad.c3;have lb:=ad.lt;have a6:=qG (allN l av bl base w ay)
  have ci:=qG (show(AT.node l p r).rem k=_ from rfl)
  generalize b9:(AT.node l p r).rem k=Y;have i:=qG b9;have a7:=qG ay;have a8:=qG cb;have a9:=qG ad;have ag:=qG ar;have J:=qG aq;have cj:=qG a2;have f:=qG (And.intro b3 (And.intro b4 (And.intro b5 (And.intro b6 (And.intro a4 a5)))));have ck:=qG cg;have ba:=qG ch;have K:=qG (And.intro b7 b8);have cz:=Tryz.fld0;clear ad ay cb b9 ci ar aq a2 b3 b4 b5 b6 az a4 a5 cg ch b1 b7 b8;go_enter func187,ntmps187;go_wp2_with fail;refine a6.out.mono ?_;rintro e w1 ⟨rfl,M⟩;have cl:=M.size;have G:=qG (a7.out.below M lR);have v:=qG (a8.out.below M lR)
  have n:=qG (Nd.chg (cs:=[]) a9.out (Chg.qa M) (by simp))
  have y:=qG (Chg.qa (bs:=b::(bl++br)) M)
  have ah:=qG (fun x h=>xq (cj.out x h).2 cl)
  clear M a6 a7 a8 a9 P;have P:=n.out.c3;have ai:=n.out.c4;have c0:=n.out.lt;unfold cnt
  by_cases E:k<l.its
  ·have bc:(k:Int)<l.its:=by omega
   have o:Hid (Y=AT.rep (l.rem k) p r):=by
    rw [<- i.out,AT.rem_lt _ _ _ _ E];exact rfl
   have bd:=AT.rem_bal l k K.out.1 E;have j:=qG (ck.out k av bl base w1 K.out.1 J.out.left E G.out f.out.2.2.1);clear i;go_wp2_with fail;refine j.out.mono ?_;rintro e N ⟨u2,a0,rfl,Z,aa,I,u⟩;have d:=qG (n.out.chg u f.out.1);have be:=qG (v.out.chg u f.out.2.2.2.2.1);have H:=qG (zA8 ag.out ah.out aa I)
   have Q:b∉a0:=fun t=>(vd.1 H.out).1 (vB _ t)
   have c1:=d.out.c3;have c2:=d.out.fz 3;have bf:=d.out.lt
   have z:=qG (y.out.trans u (fun _ a _=>a) (fun x a _=>by simp [a]) (ds:=b::(bl++br)))
   have m:=qG (d.out.set3 u2);have R:=qG (Z.other ⟨b,3,none⟩ (.pointer u2) Q);have bg:=qG (be.out.other ⟨b,3,none⟩ (.pointer u2) f.out.2.1)
   have L:=qG (z.out.setCell ⟨b,3,none⟩ (.pointer u2) (.inl (by simp)))
   have U:=qG (show ∀x∈b::(a0++br),x∈b::(bl++br)∨w.heap.size<=x from fun x h=>by
    simp only [xC,xb]at h |-
    rcases h with a | a | a
    ·exact .inl (.inl a)
    ·rcases I x a with a | a
     ·exact .inl (.inr (.inl a))
     exact .inr (by omega)
    exact .inl (.inr (.inr a)))
   have aj:=qG (show(AT.node (l.rem k) p r).okw from J.out.sub (by rw [yB,yB];exact(AT.rem_sub l k E).append_right _))
   have V:=qG (Yk (l.rem k) p r b u2 aw a0 br base _ _ _ _ _ m.out R.out bg.out ax H.out aj.out (by omega) (by omega))
   clear Z aa I u Q j d be z n G v y P ai m R bg;go_wp2_with fail;generalize N.setCell ⟨b,3,none⟩ (.pointer u2)=ca at *;refine V.out.mono ?_;intro e au B;have W:=qG (ZU L.out U.out H.out B);obtain⟨u4,cv,rfl,_⟩:=B;clear V;go_wp2;go_ret;rw [o.out];exact W.out
  by_cases ac:l.its<k
  ·have bc:¬ (k:Int)<l.its:=by omega
   have cm:(k:Int) > l.its:=by omega
   have o:Hid (Y=AT.rep l p (r.rem (k - l.its - 1))):=by
    rw [<- i.out,AT.rem_gt _ _ _ _ E ac];exact rfl
   have ak:k - l.its - 1<r.its:=by omega
   have bd:=AT.rem_bal r (k - l.its - 1) K.out.2 ak;have j:=qG (ba.out (k - l.its - 1) aw br base w1 K.out.2 J.out.right ak v.out f.out.2.2.2.1)
   have bh:((k - l.its - 1:Nat):Int)=(k:Int) - l.its - 1:=by omega
   rw [bh]at j;clear i bh;go_wp2_with fail;refine j.out.mono ?_;rintro e N ⟨u2,a1,rfl,Z,aa,I,u⟩;have d:=qG (n.out.chg u f.out.2.1);have bi:=qG (G.out.chg u f.out.2.2.2.2.2);have H:=qG (Yl ag.out ah.out aa I)
   have Q:b∉a1:=fun t=>(vd.1 H.out).1 (vo _ t)
   have cn:=d.out.c4;have co:=d.out.fz 4;have bf:=d.out.lt
   have z:=qG (y.out.trans u (fun _ a _=>a) (fun x a _=>by simp [a]) (ds:=b::(bl++br)))
   have m:=qG (d.out.set4 u2);have R:=qG (Z.other ⟨b,4,none⟩ (.pointer u2) Q);have bj:=qG (bi.out.other ⟨b,4,none⟩ (.pointer u2) f.out.1)
   have L:=qG (z.out.setCell ⟨b,4,none⟩ (.pointer u2) (.inl (by simp)))
   have U:=qG (show ∀x∈b::(bl++a1),x∈b::(bl++br)∨w.heap.size<=x from fun x h=>by
    simp only [xC,xb]at h |-
    rcases h with a | a | a
    ·exact .inl (.inl a)
    ·exact .inl (.inr (.inl a))
    rcases I x a with a | a
    ·exact .inl (.inr (.inr a))
    exact .inr (by omega))
   have aj:=qG (show(AT.node l p (r.rem (k - l.its - 1))).okw from J.out.sub (by rw [yB,yB];exact((AT.rem_sub r _ ak).cons_cons p).append_left _))
   have V:=qG (Yk l p (r.rem (k - l.its - 1)) b av u2 bl a1 base _ _ _ _ _ m.out bj.out R.out ax H.out aj.out (by omega) (by omega))
   clear Z aa I u Q j d bi z n G v y P ai m R bj;go_wp2_with fail;generalize N.setCell ⟨b,4,none⟩ (.pointer u2)=ca at *;refine V.out.mono ?_;intro e au B;have W:=qG (ZU L.out U.out H.out B);obtain⟨u4,cv,rfl,_⟩:=B;clear V;go_wp2;go_ret;rw [o.out];exact W.out
  have c3:k=l.its:=by omega
  have bc:¬ (k:Int)<l.its:=by omega
  have cm:¬ (k:Int) > l.its:=by omega
  cases l with
  | nil=>
   obtain⟨rfl,rfl⟩:=G.out
   have o:Hid (Y=r):=by
    rw [<- i.out,AT.rem,qZ E,qZ ac];exact rfl
   clear i;go_wp2;go_ret;rw [o.out]
   exact⟨aw,br,rfl,v.out,f.out.2.2.2.1,fun x h=>.inl (by simp [h]),y.out⟩
  | node A q S=>
   have al:=qG G.out;obtain⟨c,di,dj,dk,bs,rfl,_⟩:=G.out
   cases r with
   | nil=>
    obtain⟨rfl,rfl⟩:=v.out
    have o:Hid (Y=AT.node A q S):=by
     rw [<- i.out,AT.rem,qZ E,qZ ac];exact rfl
    clear i;go_wp2;go_ret;rw [o.out]
    exact⟨_,bl,rfl,al.out,f.out.2.2.1,fun x h=>.inl (by simp [h]),y.out⟩
   | node C s D=>
    have am:=qG v.out;obtain⟨g,dl,dm,dn,dp,rfl,_⟩:=v.out
    have o:Hid (Y=AT.rep (AT.node A q S) (AT.first (AT.node C s D)) ((AT.node C s D).rem 0)):=by
     rw [<- i.out,AT.rem,qZ E,qZ ac];exact rfl
    have an:0<(AT.node C s D).its:=by simp only [AT.its];omega
    have bd:=AT.rem_bal (AT.node C s D) 0 K.out.2 an
    have bk:=qG (firstN (AT.node C s D) _ br base w1 am.out (by simp))
    obtain⟨dq,cc⟩:=AT.first_flat (AT.node C s D) (by simp)
    have cp:=qG cc
    generalize de:(AT.node C s D).first=F at *
    clear i cc;go_wp2_with fail;refine bk.out.mono ?_;rintro e N ⟨rfl,O⟩;have cq:=O.size
    have d:=qG (Nd.chg (cs:=[]) n.out (Chg.qa O) (by simp))
    have bm:=qG (al.out.below O lR);have bn:=qG (am.out.below O lR)
    have z:=qG (y.out.trans (Chg.qa (bs:=b::(bl++br)) O) (fun _ a _=>a) (fun _ a _=>a))
    have c4:=d.out.c0;have c5:=d.out.c1;have c6:=d.out.c2;have c7:=d.out.fz 0;have c8:=d.out.fz 1;have c9:=d.out.fz 2;have bf:=d.out.lt;have m:=qG (d.out.set012 F);have bo:=qG (((bm.out.other ⟨b,0,none⟩ (.int .i64 F.off) f.out.1).other ⟨b,1,none⟩ (.int .i64 F.len) f.out.1).other ⟨b,2,none⟩ (.int .i64 F.brk) f.out.1);have bp:=qG (((bn.out.other ⟨b,0,none⟩ (.int .i64 F.off) f.out.2.1).other ⟨b,1,none⟩ (.int .i64 F.len) f.out.2.1).other ⟨b,2,none⟩ (.int .i64 F.brk) f.out.2.1)
    have L:=qG (((z.out.setCell ⟨b,0,none⟩ (.int .i64 F.off) (.inl (by simp))).setCell ⟨b,1,none⟩ (.int .i64 F.len) (.inl (by simp))).setCell ⟨b,2,none⟩ (.int .i64 F.brk) (.inl (by simp)))
    have cr:=m.out.c4;have da:=m.out.lt;have j:=qG (ba.out 0 _ br base _ K.out.2 J.out.right an bp.out f.out.2.2.2.1)
    have db:w1.heap.size<=(((N.setCell ⟨b,0,none⟩ (.int .i64 F.off)).setCell ⟨b,1,none⟩ (.int .i64 F.len)).setCell ⟨b,2,none⟩ (.int .i64 F.brk)).heap.size:=by simpa using cq
    simp only [Int.natCast_zero]at j;clear O bk n d bm bn z al am y P ai;unfold pcV;go_wp2_with fail;generalize ((N.setCell ⟨b,0,none⟩ (.int .i64 F.off)).setCell ⟨b,1,none⟩ (.int .i64 F.len)).setCell ⟨b,2,none⟩ (.int .i64 F.brk)=ca at *;refine j.out.mono ?_;rintro e au ⟨u4,ae,rfl,cd,ce,cf,af⟩;have X:=qG (m.out.chg af f.out.2.1);have bq:=qG (bo.out.chg af f.out.2.2.2.2.2)
    have ao:∀x∈ae,x∈br∨w1.heap.size<=x:=fun x h=>by
     rcases cf x h with a | a
     ·exact .inl a
     exact .inr (by omega)
    have ap:=qG (Yl ag.out ah.out ce ao)
    have bt:b∉ae:=fun t=>(vd.1 ap.out).1 (vo _ t)
    have cn:=X.out.c4;have co:=X.out.fz 4;have dc:=X.out.lt
    have bu:=qG (L.out.trans af (fun _ a _=>a) (fun x a _=>by simp [a]) (ds:=b::(bl++br)))
    have bv:=qG (X.out.set4 u4);have bw:=qG (cd.other ⟨b,4,none⟩ (.pointer u4) bt);have bx:=qG (bq.out.other ⟨b,4,none⟩ (.pointer u4) f.out.1)
    have ct:=qG (bu.out.setCell ⟨b,4,none⟩ (.pointer u4) (.inl (by simp)))
    have U:=qG (show ∀x∈b::(bl++ae),x∈b::(bl++br)∨w.heap.size<=x from fun x h=>by
     simp only [xC,xb]at h |-
     rcases h with a | a | a
     ·exact .inl (.inl a)
     ·exact .inl (.inr (.inl a))
     rcases ao x a with a | a
     ·exact .inl (.inr (.inr a))
     exact .inr (by omega))
    have cu:=qG (show(AT.node (AT.node A q S) F ((AT.node C s D).rem 0)).okw from J.out.sub (by
     rw [yB,yB (AT.node A q S),AT.rem_flat _ 0 an,cp.out];simp only [kn,xH,xP,vU,vH]
     exact((List.Sublist.refl _).cons p).append_left _))
    have bz:=qG (Yk (AT.node A q S) F ((AT.node C s D).rem 0) b _ u4 bl ae base _ _ _ _ _ bv.out bx.out bw.out ax ap.out cu.out (by omega) (by omega))
    clear cd ce cf ao af bt j X bq bu m bo bp L bv bw bx cr;go_wp2_with fail;generalize au.setCell ⟨b,4,none⟩ (.pointer u4)=df at *;refine bz.out.mono ?_;intro e dd B;have W:=qG (ZU ct.out U.out ap.out B);obtain⟨u6,dr,rfl,_⟩:=B;clear bz;go_wp2;go_ret;rw [o.out];exact W.out
theorem removeN:∀ (T:AT) (k:Nat) (f:Option Addr) (bs:List Nat) (base:Nat) (w:World),T.bal->T.ok->k<T.its->Lies w base T f bs->bs.Nodup->
  Calls prog 187 #[.pointer f,qJ k] w (MutPost base (T.rem k) bs w):=
 fun T k f bs base w a b c d e=>zBh T k f bs base w a b.w c d e
theorem AT.spl_gt (l:AT) (p:Pc) (r:AT) (e:Pc) (B:AT) (a:(AT.node l p r).ht > B.ht+1):AT.spl (.node l p r) e B=AT.rep l p (AT.spl r e B):=by
 rw [AT.spl.eq_def];simp only [xd a]
theorem AT.spl_lt (A:AT) (e:Pc) (l:AT) (p:Pc) (r:AT) (a:¬A.ht > (AT.node l p r).ht+1) (b:(AT.node l p r).ht > A.ht+1):AT.spl A e (.node l p r)=AT.rep (AT.spl A e l) p r:=by
 rw [AT.spl.eq_def];simp only [qZ a,xd b]
theorem AT.spl_eq (A:AT) (e:Pc) (B:AT) (a:¬A.ht > B.ht+1) (b:¬B.ht > A.ht+1):AT.spl A e B= .node A e B:=by
 rw [AT.spl.eq_def];simp only [qZ a,qZ b]
def CutR (base b m:Nat) (l:AT) (p:Pc) (S:AT) (c:Option Addr) (bl cs ds:List Nat) (d i n k:Int) (w wc:World):Prop:=
 ∃u2 a,Nd wc b p c u2 d i n k∧Lies wc base S u2 a∧Lies wc base l c bl∧(b::(bl++a)).Nodup∧(∀x∈a,x∈cs∨m<=x)∧Chg ds w wc
def CutL (base b m:Nat) (r:AT) (p:Pc) (S:AT) (c:Option Addr) (br cs ds:List Nat) (d i n k:Int) (w wc:World):Prop:=
 ∃u2 a,Nd wc b p u2 c d i n k∧Lies wc base S u2 a∧Lies wc base r c br∧(b::(a++br)).Nodup∧(∀x∈a,x∈cs∨m<=x)∧Chg ds w wc
theorem Lies.heap {w w':World} {base:Nat} {T:AT} {a:Option Addr} {bs:List Nat} (b:Lies w base T a bs) (e:w'.heap=w.heap):Lies w' base T a bs:=b.frame (fun _ _=>by rw [e])
theorem MutPost.drawn {base:Nat} {T:AT} {bs:List Nat} {a w:World} {e:Ending} {w':World} (d:MutPost base T bs a e w') (f:a.os=w.os) (g:a.tape=w.tape) (h:a.output=w.output) (c:a.heap=w.heap):MutPost base T bs w e w':=by
 obtain⟨i,j,k,l,m,n,b⟩:=d;exact⟨i,j,k,l,m,by rw [<- c];exact n,b.os.trans f,b.tape.trans g,b.output.trans h,by rw [<- c];exact b.size,by rw [<- c];exact b.block⟩
theorem AT.ins_le (l:AT) (p:Pc) (r:AT) (k:Nat) (e:Pc) (a:k<=l.its):(AT.node l p r).ins k e=AT.rep (l.ins k e) p r:=by
 rw [AT.ins.eq_def];simp only [xd a]
theorem AT.ins_gt (l:AT) (p:Pc) (r:AT) (k:Nat) (e:Pc) (a:¬k<=l.its):(AT.node l p r).ins k e=AT.rep l p (r.ins (k - l.its - 1) e):=by
 rw [AT.ins.eq_def];simp only [qZ a]
theorem AT.sub_ins (T:AT) (k:Nat) (e:Pc) (b:k<=T.its):T.flat.Sublist (T.ins k e).flat:=by
 rw [AT.ins_flat T k e b];have a:(T.flat.take k++T.flat.drop k).Sublist (T.flat.take k++e::T.flat.drop k):=List.Sublist.append_left (List.sublist_cons_self _ _) _
 rwa [xw]at a
theorem zEb:∀ (T:AT) (k:Nat) (e:Pc) (u:Option Addr) (bs:List Nat) (base:Nat) (w:World),T.bal->(T.ins k e).ok->k<=T.its->Lies w base T u bs->bs.Nodup->base<=w.heap.size->
  Calls prog 175 #[.pointer u,.int .i64 k,pcV e] w (MutPost base (T.ins k e) bs w):=by
 intro T
 induction T with
 | nil=>
  intro k e u bs base w _ hok _ hT _ hbase;obtain⟨rfl,rfl⟩:=hT
  have HOK:=qG (show(AT.node .nil e .nil).ok from hok)
  have HB0:=qG ((qO w.heap.size w).alloc lR (.cells #[.int .i64 e.off,.int .i64 e.len,.int .i64 e.brk] 63));have hk0:(w.alloc (.cells #[.int .i64 e.off,.int .i64 e.len,.int .i64 e.brk] 63)).heap[w.heap.size]? =some (.cells #[.int .i64 e.off,.int .i64 e.len,.int .i64 e.brk] 63 (0,0)):=xg _ _
  have hs0:(w.alloc (.cells #[.int .i64 e.off,.int .i64 e.len,.int .i64 e.brk] 63)).heap.size=w.heap.size+1:=by simp
  clear hok;unfold pcV;go_enter func175,ntmps175;go_wp2_with fail;generalize w.alloc (.cells #[.int .i64 e.off,.int .i64 e.len,.int .i64 e.brk] 63)=w0 at *
  refine(zCt .nil e .nil none none [] [] base w0 ⟨rfl,rfl⟩ ⟨rfl,rfl⟩ HOK.out (by omega)).mono ?_
  rintro e5 w5 ⟨nb,rfl,hnb,hT5,hb5⟩;have HT5:=qG hT5
  have CH5:=qG ((Chg.qa (bs:=[]) HB0.out).trans (Chg.qa (bs:=[]) hb5) (fun _ h _=>h) (fun _ h _=>h))
  clear hT5 hb5;go_wp2;go_ret
  exact⟨_,nb::([]++ []),rfl,HT5.out,by simp,fun x hx=>.inr (by simp at hx;omega),CH5.out⟩
 | node l p r ihl ihr=>
  intro k e u bs base w hbal hok hk hT hnd hbase;have hTlt:=hT.lt;have HB0:=qG ((qO w.heap.size w).alloc lR (.cells #[.int .i64 e.off,.int .i64 e.len,.int .i64 e.brk] 63));have hk0:(w.alloc (.cells #[.int .i64 e.off,.int .i64 e.len,.int .i64 e.brk] 63)).heap[w.heap.size]? =some (.cells #[.int .i64 e.off,.int .i64 e.len,.int .i64 e.brk] 63 (0,0)):=xg _ _
  have hs0:(w.alloc (.cells #[.int .i64 e.off,.int .i64 e.len,.int .i64 e.brk] 63)).heap.size=w.heap.size+1:=by simp
  have HT0:=qG (hT.below HB0.out lR);obtain⟨hbl,hbr,ht1,ht2⟩:=AT.qz hbal;have okT':(AT.node l p r).ok:=hok.sub (AT.sub_ins _ k e hk);have bT:=okT'.bd
  have hits:((AT.node l p r).its:Int)=l.its+1+r.its:=by simp only [AT.its];omega
  have hits':(AT.node l p r).its=l.its+1+r.its:=rfl;have CH0:=qG (Chg.qa (bs:=bs) HB0.out);have HND:=qG hnd;have HOK:=qG hok;have HLT:=qG hTlt;have IHL:=qG ihl;have IHR:=qG ihr;have HBB:=qG (And.intro hbl hbr);generalize hres:(AT.node l p r).ins k e=res at *;have HRES:=qG hres;have f0:=Tryz.fld0;clear hT hnd hok hTlt hbal ihl ihr hres hbl hbr;obtain⟨b,ul,ur,bl,br,rfl,hbb,hb,hl,hr,rfl⟩:=HT0.out;have c3:=hb.c3;have lb:=hb.lt;unfold pcV;go_enter func175,ntmps175;go_wp2_with fail;generalize w.alloc (.cells #[.int .i64 e.off,.int .i64 e.len,.int .i64 e.brk] 63)=w0 at *;refine(allN l ul bl base w0 hl).mono ?_;rintro e1 w1 ⟨rfl,hb1⟩;have s1:=hb1.size
  have k0':=(hb1.block w.heap.size (by omega)).trans hk0
  have k0:w1.cell? ⟨w.heap.size,0,none⟩=some (.int .i64 e.off):=by rw [qP w1 _ 0 _ _ _ k0'];rfl
  have k1:w1.cell? ⟨w.heap.size,1,none⟩=some (.int .i64 e.len):=by rw [qP w1 _ 1 _ _ _ k0'];rfl
  have k2:w1.cell? ⟨w.heap.size,2,none⟩=some (.int .i64 e.brk):=by rw [qP w1 _ 2 _ _ _ k0'];rfl
  have lk:w.heap.size<w1.heap.size:=by omega
  have HBN:=qG (Nd.chg (cs:=[]) hb (Chg.qa hb1) (by simp))
  have HL1:=qG (hl.below hb1 lR);have HR1:=qG (hr.below hb1 lR)
  have CH1:=qG (CH0.out.trans (Chg.qa (bs:=b::(bl++br)) hb1) (fun _ h _=>h) (fun _ h _=>h))
  have HLT1:=qG (show ∀x∈b::(bl++br),x<w1.heap.size from fun x hx=>by have:=(HLT.out x hx).2;omega)
  have hnd0:=HND.out;simp only [vd,xG,xb,not_or]at hnd0;obtain⟨⟨nbl,nbr⟩,ndl,ndr,ndlr⟩:=hnd0
  have dlr:∀x∈br,x∉bl:=fun x hx hm=>ndlr x hm x hx rfl
  have drl:∀x∈bl,x∉br:=fun x hx hm=>ndlr x hx x hm rfl
  have HD:=qG (And.intro nbl (And.intro nbr (And.intro ndl (And.intro ndr (And.intro dlr drl)))));clear hb hl hr hb1 k0' hk0 nbl nbr ndl ndr ndlr dlr drl c3 CH0 HB0 HT0 lb;have c3:=HBN.out.c3;have c4:=HBN.out.c4;have lb:=HBN.out.lt;unfold cnt
  by_cases hkl:k<=l.its
  ·have hkl':(k:Int)<=l.its:=by omega
   have HREP:Hid (res=AT.rep (l.ins k e) p r):=by
    rw [<- HRES.out,AT.ins_le _ _ _ _ _ hkl];exact rfl
   have ib:=AT.ins_bal l k e HBB.out.1
   have okn:(AT.node (l.ins k e) p r).ok:=HOK.out.of_flat (by rw [HREP.out,AT.flat_rep];rfl)
   have I1:=qG (fun(W:World) (eW:W.heap=w1.heap)=>IHL.out k e ul bl base W HBB.out.1 okn.left hkl (HL1.out.heap eW) HD.out.2.2.1 (by rw [eW];omega))
   have HOKN:=qG okn;clear HRES okn
   have hdec:decide ((k:Int)<=(l.its:Int))=true:=by simp;omega
   go_upto_region 5 with fail
   go_cut [] (fun wc=>CutL base b w1.heap.size r p (l.ins k e) ur br bl (b::bl) (1+max (l.ht:Int) r.ht) (l.its+1+r.its) (l.rns+p.len+r.rns) (l.bks+p.brk+r.bks) w1 wc)
   case first=>
    unfold pcV at I1
    go_region_with (go_at_call 175;refine(I1.out _ (by exact rfl)).mono ?_;intro e5 w5 hp5;obtain⟨u5,bs5,rfl,hT5,nd5,sub5,ch5⟩:=hp5.drawn (w:=w1) rfl rfl rfl rfl;have HB5:=qG (HBN.out.chg ch5 HD.out.1);have HT5:=qG hT5;have HO5:=qG (HR1.out.chg ch5 HD.out.2.2.2.2.1);have ND5:=qG nd5;have SB5:=qG sub5;have CH5:=qG ch5;have d5:=HB5.out.c3;have f5:=HB5.out.fz 3;have l5:=HB5.out.lt;clear hp5 hT5 nd5 sub5 ch5)
    all_goals (
     go_wp2_with fail;go_meet;have ndn:(b::(bs5++br)).Nodup:=zA8 HND.out HLT1.out ND5.out SB5.out
     have nbs:b∉bs5:=fun hm=>(vd.1 ndn).1 (vB _ hm)
     exact⟨u5,bs5,(HB5.out.set3 u5).heap rfl,(HT5.out.other ⟨b,3,none⟩ (.pointer u5) nbs).heap rfl,(HO5.out.other ⟨b,3,none⟩ (.pointer u5) HD.out.2.1).heap rfl,ndn,SB5.out,((CH5.out.trans (Chg.refl [] _) (fun x h _=>by simp;exact .inr h) (fun x h _=>by simp at h) (ds:=b::bl)).setCell ⟨b,3,none⟩ (.pointer u5) (.inl (by simp))).drawn rfl rfl rfl rfl⟩)
   obtain⟨u5,bs5,hb5,hT5,hO5,nd5,sub5,ch5⟩:=hcut
   have HK5:=qG (XL (l.ins k e) p r b u5 ur bs5 br base _ _ _ _ wc hb5 hT5 hO5 hbb nd5 HOKN.out (by omega) (by omega))
   have CH5:=qG (CH1.out.trans ch5 (fun _ h _=>h) (fun x h _=>by simp at h |-;rcases h with h | h<;>simp [h]) (ds:=b::(bl++br)))
   have SUB:=qG (show ∀x∈b::(bs5++br),x∈b::(bl++br)∨w.heap.size<=x from fun x hx=>by
    simp only [xC,xb]at hx |-
    rcases hx with h | h | h
    ·exact .inl (.inl h)
    ·rcases sub5 x h with h | h
     ·exact .inl (.inr (.inl h))
     exact .inr (by omega)
    exact .inl (.inr (.inr h)))
   have ND5:=qG nd5;clear hb5 hT5 hO5 nd5 sub5 ch5;go_wp2_with fail;refine HK5.out.mono ?_;intro e9 w6 hrp;have HM:=qG (ZU CH5.out SUB.out ND5.out hrp);obtain⟨u6,bs6,rfl,_⟩:=hrp;clear HK5;go_wp2;go_ret;rw [HREP.out];exact HM.out
  have hkl':¬ (k:Int)<=l.its:=by omega
  have HREP:Hid (res=AT.rep l p (r.ins (k - l.its - 1) e)):=by
   rw [<- HRES.out,AT.ins_gt _ _ _ _ _ hkl];exact rfl
  have ib:=AT.ins_bal r (k - l.its - 1) e HBB.out.2
  have okn:(AT.node l p (r.ins (k - l.its - 1) e)).ok:=HOK.out.of_flat (by rw [HREP.out,AT.flat_rep];rfl)
  have hkr:k - l.its - 1<=r.its:=by omega
  have I1:=qG (fun(W:World) (eW:W.heap=w1.heap)=>IHR.out (k - l.its - 1) e ur br base W HBB.out.2 okn.right hkr (HR1.out.heap eW) HD.out.2.2.2.1 (by rw [eW];omega))
  have ecast:((k - l.its - 1:Nat):Int)=(k:Int) - l.its - 1:=by omega
  rw [ecast]at I1;have HOKN:=qG okn
  have hw1:IntKind.i64.wrap ((k:Int) - l.its)=(k:Int) - l.its:=i64w _ (by omega) (by omega)
  have hw2:IntKind.i64.wrap ((k:Int) - l.its - 1)=(k:Int) - l.its - 1:=i64w _ (by omega) (by omega)
  clear HRES okn ecast
  have hdec:decide ((k:Int)<=(l.its:Int))=false:=by simp;omega
  go_upto_region 6 with fail
  go_cut [] (fun wc=>CutR base b w1.heap.size l p (r.ins (k - l.its - 1) e) ul bl br (b::br) (1+max (l.ht:Int) r.ht) (l.its+1+r.its) (l.rns+p.len+r.rns) (l.bks+p.brk+r.bks) w1 wc)
  case first=>
   unfold pcV at I1
   go_region_with (go_at_call 175;refine(I1.out _ (by exact rfl)).mono ?_;intro e5 w5 hp5;obtain⟨u5,bs5,rfl,hT5,nd5,sub5,ch5⟩:=hp5.drawn (w:=w1) rfl rfl rfl rfl;have HB5:=qG (HBN.out.chg ch5 HD.out.2.1);have HT5:=qG hT5;have HO5:=qG (HL1.out.chg ch5 HD.out.2.2.2.2.2);have ND5:=qG nd5;have SB5:=qG sub5;have CH5:=qG ch5;have d5:=HB5.out.c4;have f5:=HB5.out.fz 4;have l5:=HB5.out.lt;clear hp5 hT5 nd5 sub5 ch5)
   all_goals (
    go_wp2_with fail;go_meet;have ndn:(b::(bl++bs5)).Nodup:=Yl HND.out HLT1.out ND5.out SB5.out
    have nbs:b∉bs5:=fun hm=>(vd.1 ndn).1 (vo _ hm)
    exact⟨u5,bs5,(HB5.out.set4 u5).heap rfl,(HT5.out.other ⟨b,4,none⟩ (.pointer u5) nbs).heap rfl,(HO5.out.other ⟨b,4,none⟩ (.pointer u5) HD.out.1).heap rfl,ndn,SB5.out,((CH5.out.trans (Chg.refl [] _) (fun x h _=>by simp;exact .inr h) (fun x h _=>by simp at h) (ds:=b::br)).setCell ⟨b,4,none⟩ (.pointer u5) (.inl (by simp))).drawn rfl rfl rfl rfl⟩)
  obtain⟨u5,bs5,hb5,hT5,hO5,nd5,sub5,ch5⟩:=hcut
  have HK5:=qG (XL l p (r.ins (k - l.its - 1) e) b ul u5 bl bs5 base _ _ _ _ wc hb5 hO5 hT5 hbb nd5 HOKN.out (by omega) (by omega))
  have CH5:=qG (CH1.out.trans ch5 (fun _ h _=>h) (fun x h _=>by simp at h |-;rcases h with h | h<;>simp [h]) (ds:=b::(bl++br)))
  have SUB:=qG (show ∀x∈b::(bl++bs5),x∈b::(bl++br)∨w.heap.size<=x from fun x hx=>by
   simp only [xC,xb]at hx |-
   rcases hx with h | h | h
   ·exact .inl (.inl h)
   ·exact .inl (.inr (.inl h))
   rcases sub5 x h with h | h
   ·exact .inl (.inr (.inr h))
   exact .inr (by omega))
  have ND5:=qG nd5;clear hb5 hT5 hO5 nd5 sub5 ch5;go_wp2_with fail;refine HK5.out.mono ?_;intro e9 w6 hrp;have HM:=qG (ZU CH5.out SUB.out ND5.out hrp);obtain⟨u6,bs6,rfl,_⟩:=hrp;clear HK5;go_wp2;go_ret;rw [HREP.out];exact HM.out
theorem AT.put_lt (l:AT) (p:Pc) (r:AT) (k:Nat) (e:Pc) (a:k<l.its):(AT.node l p r).put k e= .node (l.put k e) p r:=by rw [AT.put,xd a]
theorem AT.put_gt (l:AT) (p:Pc) (r:AT) (k:Nat) (e:Pc) (a:l.its<k):(AT.node l p r).put k e= .node l p (r.put (k - l.its - 1) e):=by rw [AT.put,qZ (by omega),xd a]
theorem AT.put_eq (l:AT) (p:Pc) (r:AT) (e:Pc):(AT.node l p r).put l.its e= .node l e r:=by rw [AT.put,qZ (by omega),qZ (by omega)]
theorem Kf:∀ (T:AT) (k:Nat) (e:Pc) (G:Option Addr) (bs:List Nat) (base:Nat) (w:World),T.okw->(T.put k e).okw->k<T.its->Lies w base T G bs->bs.Nodup->
  Calls prog 173 #[.pointer G,.int .i64 (k:Int),.agg #[.int .i64 e.off,.int .i64 e.len,.int .i64 e.brk]] w fun y w'=>y= .returned (.tuple #[])∧Lies w' base (T.put k e) G bs∧Chg bs w w':=by
 intro T
 induction T with
 | nil=>intro k e G bs base w _ _ S;simp [AT.its]at S
 | node l p r ay az=>
  intro k e G bs base w U ak S al am;have ab:=al.lt;obtain⟨b,q,t,bl,br,rfl,Y,av,aw,ax,rfl⟩:=al;have ac:=am;simp only [vd,xG,xb,not_or]at ac;obtain⟨⟨an,ao⟩,ap,aq,Z⟩:=ac;have ad:∀x∈br,x∉bl:=fun x f W=>Z x W x f rfl
  have ae:∀x∈bl,x∉br:=fun x f W=>Z x f x W rfl
  have a2:=U.bd;have a3:((AT.node l p r).its:Int)<=l.its+1+r.its∧(l.its:Int)+1+r.its<=(AT.node l p r).its:=(by simp only [AT.its];omega);have B:=qG ((qO w.heap.size w).alloc lR (.cells #[.int .i64 e.off,.int .i64 e.len,.int .i64 e.brk] 63));have af:=qG (show(w.alloc (.cells #[.int .i64 e.off,.int .i64 e.len,.int .i64 e.brk] 63)).heap[w.heap.size]? =some (.cells #[.int .i64 e.off,.int .i64 e.len,.int .i64 e.brk] 63 (0,0))from xg _ _);have a4:w.heap.size+1<=(w.alloc (.cells #[.int .i64 e.off,.int .i64 e.len,.int .i64 e.brk] 63)).heap.size:=(by simp);have J:=qG (Nd.chg (cs:=[]) av (Chg.qa B) (by simp));have O:=qG (aw.below B lR);have ag:=qG (ax.below B lR);generalize au:(AT.node l p r).put k e=V at *
  have A:=qG au;have m:=qG (And.intro U ak);have c:=qG (And.intro an (And.intro ao (And.intro ap (And.intro aq (And.intro ad ae)))));have a5:=qG ab;have ah:=J.c3;have lb:=J.lt;have a6:=Tryz.fld0;have K:=qG ay;have L:=qG az;have a7:k<l.its+1+r.its:=S;clear au av aw ax U ak an ao ap aq Z ad ae am ab ay az;go_enter func173,ntmps173;go_wp2_with fail;generalize w.alloc (.cells #[.int .i64 e.off,.int .i64 e.len,.int .i64 e.brk] 63)=a1 at *
  refine(allN l q bl base a1 O).mono ?_;rintro y w1 ⟨rfl,z⟩;have a8:=z.size;have j:=qG (Nd.chg (cs:=[]) J (Chg.qa z) (by simp));have P:=qG (O.below z lR);have Q:=qG (ag.below z lR);have R:=qG (B.trans (z.mono (by omega)));have M:=(z.block w.heap.size (by omega)).trans af;have a9:w1.cell? ⟨w.heap.size,0,none⟩=some (.int .i64 e.off):=(by rw [qP w1 _ 0 _ _ _ M];rfl);have ba:w1.cell? ⟨w.heap.size,1,none⟩=some (.int .i64 e.len):=(by rw [qP w1 _ 1 _ _ _ M];rfl);have bc:w1.cell? ⟨w.heap.size,2,none⟩=some (.int .i64 e.brk):=(by rw [qP w1 _ 2 _ _ _ M];rfl);have le:w.heap.size<w1.heap.size:=(by omega);clear z M J O ag B af ah lb;have ah:=j.c3;have bd:=j.c4;have lb:=j.lt;unfold cnt;by_cases ar:k<l.its
  ·have ai:(k:Int)<l.its:=by omega
   have s:=qG (show V=AT.node (l.put k e) p r from A.symm.trans (AT.put_lt l p r k e ar));rw [s.out]at m;have N:=qG (fun X a=>K k e q bl base X m.1.left m.2.left ar a c.2.2.1);clear A K L;go_upto_block 0 with fail;go_cut [] (fun wc=>Lies wc base (l.put k e) q bl∧Chg bl w1 wc)
   case first=>
    go_upto_region 4 with fail;go_region_with (go_at_call 173;refine(N _ (by exact P.frame (fun _ _=>rfl))).mono ?_;rintro y aa ⟨rfl,H,i⟩;have n:=qG H;have h:=qG (show Chg bl w1 aa from⟨i.os,i.tape,i.output,i.size,i.block⟩);clear H i)
    all_goals (go_wp2_with fail;go_meet;exact⟨n,h⟩)
   have n:=qG hcut.1;have h:=qG hcut.2;clear hcut;have C:=qG (j.chg h c.1);have o:=qG (Q.chg h c.2.2.2.2.1);have D:=qG (yc (l.put k e) p r b q t bl br base _ _ _ _ _ C n o c.1 c.2.1 m.2);go_wp2_with fail;refine D.mono ?_;rintro y I ⟨rfl,u,g⟩;have E:=qG (show Lies I base (AT.node (l.put k e) p r) (some ⟨b,0,none⟩) (b::(bl++br))from⟨b,q,t,bl,br,rfl,Y,u,n.chg g (fun x f d=>c.1 (by simp at d;exact d▸f)),o.chg g (fun x f d=>c.2.1 (by simp at d;exact d▸f)),rfl⟩);have F:=qG (((Chg.qa (bs:=b::(bl++br)) R).trans h (fun _ a _=>a) (fun x a _=>by simp [a]) (ds:=b::(bl++br))).trans g (fun _ a _=>a) (fun x a _=>by simp at a;simp [a]) (ds:=b::(bl++br)));clear u g;go_wp2;refine kO (v:=.tuple #[]) (by simp [results,results173]) rfl ⟨rfl,by rw [s.out];exact E,F⟩
  by_cases a0:l.its<k
  ·have ai:¬ (k:Int)<l.its:=by omega
   have be:(l.its:Int)<(k:Int):=(by omega);have s:=qG (show V=AT.node l p (r.put (k - l.its - 1) e)from A.symm.trans (AT.put_gt l p r k e a0));rw [s.out]at m;have N:=qG (fun X a=>L (k - l.its - 1) e t br base X m.1.right m.2.right (by omega) a c.2.2.2.1);have aj:(k:Int) - (l.its:Int) - 1=((k - l.its - 1:Nat):Int):=(by omega);rw [<- aj]at N;have bf:IntKind.i64.wrap ((k:Int) - l.its)=(k:Int) - l.its:=i64w _ (by omega) (by omega);have bg:IntKind.i64.wrap ((k:Int) - l.its - 1)=(k:Int) - l.its - 1:=i64w _ (by omega) (by omega);clear A K L aj;go_upto_block 0 with fail;go_cut [] (fun wc=>Lies wc base (r.put (k - l.its - 1) e) t br∧Chg br w1 wc)
   case first=>
    go_upto_region 6 with fail;go_region_with (go_at_call 173;refine(N _ (by exact Q.frame (fun _ _=>rfl))).mono ?_;rintro y aa ⟨rfl,H,i⟩;have o:=qG H;have h:=qG (show Chg br w1 aa from⟨i.os,i.tape,i.output,i.size,i.block⟩);clear H i)
    all_goals (go_wp2_with fail;go_meet;exact⟨o,h⟩)
   have o:=qG hcut.1;have h:=qG hcut.2;clear hcut;have C:=qG (j.chg h c.2.1);have n:=qG (P.chg h c.2.2.2.2.2);have D:=qG (yc l p (r.put (k - l.its - 1) e) b q t bl br base _ _ _ _ _ C n o c.1 c.2.1 m.2);go_wp2_with fail;refine D.mono ?_;rintro y I ⟨rfl,u,g⟩;have E:=qG (show Lies I base (AT.node l p (r.put (k - l.its - 1) e)) (some ⟨b,0,none⟩) (b::(bl++br))from⟨b,q,t,bl,br,rfl,Y,u,n.chg g (fun x f d=>c.1 (by simp at d;exact d▸f)),o.chg g (fun x f d=>c.2.1 (by simp at d;exact d▸f)),rfl⟩);have F:=qG (((Chg.qa (bs:=b::(bl++br)) R).trans h (fun _ a _=>a) (fun x a _=>by simp [a]) (ds:=b::(bl++br))).trans g (fun _ a _=>a) (fun x a _=>by simp at a;simp [a]) (ds:=b::(bl++br)));clear u g;go_wp2;refine kO (v:=.tuple #[]) (by simp [results,results173]) rfl ⟨rfl,by rw [s.out];exact E,F⟩
  obtain rfl:k=l.its:=(by omega);have ai:¬ ((l.its:Nat):Int)<((l.its:Nat):Int):=(by omega);have s:=qG (show V=AT.node l e r from A.symm.trans (AT.put_eq l p r e));rw [s.out]at m;have C:=qG (j.set012 e);have n:=qG (((P.other ⟨b,0,none⟩ (.int .i64 e.off) c.1).other ⟨b,1,none⟩ (.int .i64 e.len) c.1).other ⟨b,2,none⟩ (.int .i64 e.brk) c.1);have o:=qG (((Q.other ⟨b,0,none⟩ (.int .i64 e.off) c.2.1).other ⟨b,1,none⟩ (.int .i64 e.len) c.2.1).other ⟨b,2,none⟩ (.int .i64 e.brk) c.2.1);have h:=qG ((((Chg.refl [b] w1).setCell ⟨b,0,none⟩ (.int .i64 e.off) (.inl (by simp))).setCell ⟨b,1,none⟩ (.int .i64 e.len) (.inl (by simp))).setCell ⟨b,2,none⟩ (.int .i64 e.brk) (.inl (by simp)));have D:=qG (yc l e r b q t bl br base _ _ _ _ _ C n o c.1 c.2.1 m.2);have bh:=j.c0;have bi:=j.c1;have bj:=j.c2;have bk:=j.fz 0;have bm:=j.fz 1;have bn:=j.fz 2;clear A K L;go_wp2_with fail;refine D.mono ?_;rintro y I ⟨rfl,u,g⟩;have E:=qG (show Lies I base (AT.node l e r) (some ⟨b,0,none⟩) (b::(bl++br))from⟨b,q,t,bl,br,rfl,Y,u,n.chg g (fun x f d=>c.1 (by simp at d;exact d▸f)),o.chg g (fun x f d=>c.2.1 (by simp at d;exact d▸f)),rfl⟩);have F:=qG (((Chg.qa (bs:=b::(bl++br)) R).trans h (fun _ a _=>a) (fun x a _=>by simp at a;simp [a]) (ds:=b::(bl++br))).trans g (fun _ a _=>a) (fun x a _=>by simp at a;simp [a]) (ds:=b::(bl++br)));clear u g;go_wp2;refine kO (v:=.tuple #[]) (by simp [results,results173]) rfl ⟨rfl,by rw [s.out];exact E,F⟩
theorem zBi:∀ (T:AT) (k:Nat) (e:Pc) (g:Option Addr) (bs:List Nat) (base:Nat) (w:World),T.ok->(T.put k e).ok->k<T.its->Lies w base T g bs->bs.Nodup->
  Calls prog 173 #[.pointer g,qJ (k:Int),.agg #[qJ e.off,qJ e.len,qJ e.brk]] w fun h w'=>h= .returned (.tuple #[])∧Lies w' base (T.put k e) g bs∧Chg bs w w':=
 fun T k e g bs base w a b c d f=>Kf T k e g bs base w a.w b.w c d f
end Go.Proofs.YtmjanhcplcalfaaGreatDoor
namespace Go.Proofs.YtmjanhcplcalfaaGreatDoor
open Go Go.RowKit Go.Shelf Go.Sort Go.Proofs.Tryz
structure PM (w:World) (base c b o cap:Nat) (S:List Int) (T:AT) (a:Option Addr) (bs:List Nat):Prop where
 k:PK w c b o S.length cap a
 t:Lies w base T a bs
 nd:bs.Nodup
 cb:c∉bs
 bb:b∉bs
 bc:b≠c
 rt:At32' w b o S
 lb:b<w.heap.size
 cap1:S.length<=cap
 cap2:cap<=maxLen
 n:S.length<=220000
theorem PK.chg {w w':World} {c b o n cap:Nat} {a:Option Addr} {bs:List Nat} (d:PK w c b o n cap a) (e:Chg bs w w') (f:c∉bs):PK w' c b o n cap a:=(e.block c d.lt f).trans d
theorem PK.set1 {w:World} {c b o n cap:Nat} {e:Option Addr} (a:PK w c b o n cap e) (d:Option Addr):PK (w.setCell ⟨c,1,none⟩ (.pointer d)) c b o n cap d:=by
 unfold PK at a |-;rw [xD w c 1 _ _ _ a];rfl
theorem PK.fz {w:World} {c b o n cap:Nat} {a:Option Addr} (d:PK w c b o n cap a) (j:Nat):w.frozen? ⟨c,j,none⟩=false:=xp w c j _ _ d
theorem At32'.chg {w w':World} {b o:Nat} {zs:List Int} {bs:List Nat} (a:At32' w b o zs) (c:Chg bs w w') (d:b<w.heap.size) (e:b∉bs):At32' w' b o zs:=fun i hi=>by
 have:=a i hi;unfold World.cell? at this |-;rw [c.block b d e];exact this
def CutPost (w:World) (base c b o n cap:Nat) (T:AT) (bs:List Nat) (w':World):Prop:=
 ∃d a,PK w' c b o n cap d∧Lies w' base T d a∧a.Nodup∧(∀x∈a,x∈bs∨w.heap.size<=x)∧Chg (c::bs) w w'
theorem cutA (c b o n cap q m j h base:Nat) (off t u v y:Int) (z:Option Addr) (an ao:AT) (bs:List Nat) (A B:Pc) (w:World) (M:PK w c b o n cap z) (N:c∉bs) (be:∀x∈bs,x<w.heap.size) (bp:0<=off∧off<=8192) (bq:0<j) (br:j<m) (bt:m<=8192) (bu:q<=220000) (bv:h<=8192) (bw:base<=w.heap.size)
  (ap:Hid (Calls prog 181 #[.pointer z,qJ off,.func (.func 182) #[] #[]] w fun e w'=>e= .returned (fndV (q:Int) (m:Int) t (h,u,v,(j:Int),y))∧Below w.heap.size w w'))
  (aq:Hid (∀f,Below w.heap.size w f->Calls prog 94 #[.pointer (qK c 0),qJ (q:Int),qJ (j:Int)] f fun e w'=>e= .returned (.agg #[qJ A.off,qJ A.len,qJ A.brk])∧Below f.heap.size f w'))
  (ar:Hid (∀f,Below w.heap.size w f->Calls prog 173 #[.pointer z,qJ (h:Int),.agg #[qJ A.off,qJ A.len,qJ A.brk]] f fun e w'=>e= .returned (.tuple #[])∧Lies w' base an z bs∧Chg bs f w'))
  (au:Hid (∀f,Chg bs w f->Calls prog 94 #[.pointer (qK c 0),qJ ((q:Int)+(j:Int)),qJ ((m:Int) - (j:Int))] f fun e w'=>e= .returned (.agg #[qJ B.off,qJ B.len,qJ B.brk])∧Below f.heap.size f w'))
  (av:Hid (∀f,Lies f base an z bs->base<=f.heap.size->Calls prog 175 #[.pointer z,qJ ((h:Int)+1),.agg #[qJ B.off,qJ B.len,qJ B.brk]] f (MutPost base ao bs f))):
  Calls prog 170 #[.pointer (qK c 0),qJ off] w fun e w'=>e= .returned (qJ ((h:Int)+1))∧CutPost w base c b o n cap ao bs w':=by
 have l:=M.c1;have a1:=M.lt;have T:=qG M;clear M;go_enter func170,ntmps170;go_wp2_with fail;refine ap.mono ?_;rintro e I ⟨rfl,O⟩;have C:=qG (O.alloc O.size (.cells #[qJ (q:Int),qJ (m:Int),qJ t,qJ (h:Int),qJ u,qJ v,qJ (j:Int),qJ y] 245));have ae:(I.alloc (.cells #[qJ (q:Int),qJ (m:Int),qJ t,qJ (h:Int),qJ u,qJ v,qJ (j:Int),qJ y] 245)).heap[I.heap.size]? =some (.cells #[qJ (q:Int),qJ (m:Int),qJ t,qJ (h:Int),qJ u,qJ v,qJ (j:Int),qJ y] 245 (0,0)):=xg _ _;have i:=qG ae;have af:w.heap.size<=(I.alloc (.cells #[qJ (q:Int),qJ (m:Int),qJ t,qJ (h:Int),qJ u,qJ v,qJ (j:Int),qJ y] 245)).heap.size:=C.size;have bf:=O.size;clear O ap l ae;unfold fndV;simp only;go_upto_region 2 with fail;generalize I.alloc (.cells #[qJ (q:Int),qJ (m:Int),qJ t,qJ (h:Int),qJ u,qJ v,qJ (j:Int),qJ y] 245)=g at *
 generalize I.heap.size=fb at *
 have U:fb<g.heap.size:=(xO.1 i).1;have l:=(C.cell (p:=⟨c,1,none⟩) a1).trans T.c1;have D:g.cell? ⟨fb,0,none⟩=some (qJ (q:Int)):=by rw [qP g _ 0 _ _ _ i.out];rfl
 have a2:g.cell? ⟨fb,3,none⟩=some (qJ (h:Int)):=by rw [qP g _ 3 _ _ _ i.out];rfl
 have E:g.cell? ⟨fb,6,none⟩=some (qJ (j:Int)):=by rw [qP g _ 6 _ _ _ i.out];rfl
 have bg:¬ (j:Int)=0:=by omega
 have bh:¬j=0:=by omega
 go_upto_region 5 with fail;have V:=fun d os=>cell_regrown l d os
 have W:=fun d os=>cell_regrown D d os
 have X:=fun d os=>cell_regrown E d os
 have s:=qG (fun d os=>CallsIn.regrown_of (F:=Fence.wide) (r:=5) (w:=g) (d:=d) (os:=os) (xf.2 (aq _ (C.trans ((below_regrown g d os).mono af)))));refine kD.1 (yR (n:=6) 12 (by kernel_rfl) (by kernel_rfl) ?_);simp only [vQ,kn,vU,vH]
 repeat (refine wpQuietIn_step (fun _ _ _ _=>trivial) (fun H k=>?_);go_simp;first | (refine k _ ?_;clear k H) | (apply Exists.intro;refine⟨fun _=>?_,k _ ?_⟩;(first | exact⟨xn,s _ _⟩ | exact s _ _);clear k H))
 refine wpQuietIn_nil ?_;intro _ Z;obtain⟨⟨P,Q⟩,aa⟩:=Z;subst aa;have J:=qG (C.trans ((below_regrown g P Q).mono af));have ag:=qG (((below_regrown g P Q).block fb U).trans i);have ah:=xq U (below_regrown g P Q).size;clear W V X s D a2 E l i U;generalize grow (redrawn g P) Q=wc at *
 have bi:=J.size;gi_wp2_with fail;refine⟨xn,(xf.2 (ar _ J)).mono ?_⟩;rintro e wd ⟨rfl,aw,R⟩;have ai:=qG aw;have G:=qG ((Chg.qa (bs:=bs) J).trans R (fun _ a _=>a) (fun _ a _=>a) (ds:=bs));have a3:fb∉bs:=fun a=>by have:=be fb a;omega
 have aj:=qG (T.chg G N);have K:=(R.block fb ah a3).trans ag;have bj:fb<wd.heap.size:=xq ah R.size;have D:wd.cell? ⟨fb,0,none⟩=some (qJ (q:Int)):=by rw [qP wd _ 0 _ _ _ K];rfl
 have ak:wd.cell? ⟨fb,1,none⟩=some (qJ (m:Int)):=by rw [qP wd _ 1 _ _ _ K];rfl
 have E:wd.cell? ⟨fb,6,none⟩=some (qJ (j:Int)):=by rw [qP wd _ 6 _ _ _ K];rfl
 have l:=aj.c1;have bk:=G.size;clear aw R K ag J ar aq C;gi_wp2_with fail;go_upto_region 6 with fail;have V:=fun d os=>cell_regrown l d os
 have W:=fun d os=>cell_regrown D d os
 have a4:=fun d os=>cell_regrown ak d os
 have X:=fun d os=>cell_regrown E d os
 have w1:IntKind.i64.wrap ((h:Int)+1)=(h:Int)+1:=i64w _ (by omega) (by omega);have a5:IntKind.i64.wrap ((q:Int)+(j:Int))=(q:Int)+(j:Int):=i64w _ (by omega) (by omega);have a6:IntKind.i64.wrap ((m:Int) - (j:Int))=(m:Int) - (j:Int):=i64w _ (by omega) (by omega);have s:=qG (fun d os=>CallsIn.regrown_of (F:=Fence.wide) (r:=5) (w:=wd) (d:=d) (os:=os) (xf.2 (au _ (G.trans (Chg.qa (bs:=[]) (below_regrown wd d os)) (fun _ a _=>a) (fun _ a _=>by cases a)))));refine(kD (n:=6)).1 ?_;refine jy 20 (.pointer (qK c 0)) (by kernel_rfl) (by kernel_rfl) (fun _ _ _ a=>a) ⟨Or.inl ⟨by rfl,?_⟩,fun w=>by rfl⟩ ?_
 ·intro w;go_simp
 simp only [vQ,kn,vU,vH]
 repeat (refine wpQuietIn_step (fun _ _ _ _=>trivial) (fun H k=>?_);go_simp;first | (refine k _ ?_;clear k H) | (apply Exists.intro;refine⟨fun _=>?_,k _ ?_⟩;(first | exact⟨xn,s _ _⟩ | exact s _ _);clear k H))
 refine wpQuietIn_nil ?_;intro _ Z;obtain⟨⟨ax,ay⟩,aa⟩:=Z;subst aa;have Y:=qG (below_regrown wd ax ay);clear W V a4 X s D ak E l a5 a6 au;generalize grow (redrawn wd ax) ay=bo at *
 have al:=qG (ai.below Y lR);have L:=qG (G.trans (Chg.qa (bs:=[]) Y) (fun _ a _=>a) (fun _ a _=>by cases a) (ds:=bs));have bl:=L.size;have am:=qG (T.chg L N);clear ai G Y aj;gi_wp2_with fail;refine⟨xn,(xf.2 (av _ al (by omega))).mono ?_⟩;rintro e bx ⟨S,ab,rfl,az,a0,ac,ad⟩;have i:=qG (am.chg ad N);have a7:=qG az
 have a8:c∉ab:=fun a=>by
  rcases ac c a with a | a
  ·exact N a
  omega
 have a9:=qG (show ∀x∈ab,x∈bs∨w.heap.size<=x from fun x bd=>(ac x bd).imp id (fun a=>by omega));have ba:=qG (L.trans ad (fun _ a _=>a) (fun _ a _=>a) (ds:=bs));have bc:=qG a0;have bm:=i.c1;have bn:=i.fz 1;clear az a0 ac ad L al am av;gi_wp2_with fail;go_wp2;go_ret;exact⟨rfl,S,ab,i.set1 S,a7.other ⟨c,1,none⟩ (.pointer S) a8,bc,a9,(ba.trans (Chg.refl [] _) (fun x a _=>by simp [a]) (fun x a _=>by cases a) (ds:=c::bs)).setCell ⟨c,1,none⟩ (.pointer S) (.inl (by simp))⟩
theorem cutB (c b o n cap a:Nat) (off x y d f g h:Int) (p:Option Addr) (w:World) (q:PK w c b o n cap p)
  (r:Hid (Calls prog 181 #[.pointer p,qJ off,.func (.func 182) #[] #[]] w fun e w'=>e= .returned (fndV x y d (a,f,g,0,h))∧Below w.heap.size w w')):
  Calls prog 170 #[.pointer (qK c 0),qJ off] w fun e w'=>e= .returned (qJ (a:Int))∧Below w.heap.size w w':=by
 have s:=q.c1;clear q;go_enter func170,ntmps170;go_wp2_with fail;refine r.mono ?_;rintro e j ⟨rfl,k⟩;have t:=qG (k.alloc k.size (.cells #[qJ x,qJ y,qJ d,qJ (a:Int),qJ f,qJ g,qJ 0,qJ h] 245));have l:(j.alloc (.cells #[qJ x,qJ y,qJ d,qJ (a:Int),qJ f,qJ g,qJ 0,qJ h] 245)).heap[j.heap.size]? =some (.cells #[qJ x,qJ y,qJ d,qJ (a:Int),qJ f,qJ g,qJ 0,qJ h] 245 (0,0)):=xg _ _;have m:=qG l;clear k r s l;unfold fndV;simp only;go_upto_region 2 with fail;generalize j.alloc (.cells #[qJ x,qJ y,qJ d,qJ (a:Int),qJ f,qJ g,qJ 0,qJ h] 245)=i at *
 generalize j.heap.size=fb at *
 have u:i.cell? ⟨fb,3,none⟩=some (qJ (a:Int)):=by rw [qP i _ 3 _ _ _ m.out];rfl
 have v:i.cell? ⟨fb,6,none⟩=some (qJ 0):=by rw [qP i _ 6 _ _ _ m.out];rfl
 go_wp2;go_ret;exact⟨rfl,t⟩
theorem PM.below {w w':World} {base c b o cap:Nat} {S:List Int} {T:AT} {e:Option Addr} {bs:List Nat} (a:PM w base c b o cap S T e bs) (d:Below w.heap.size w w'):PM w' base c b o cap S T e bs:=
 ⟨a.k.below d a.k.lt,a.t.below d lR,a.nd,a.cb,a.bb,a.bc,fun i hi=>(d.cell (p:=⟨b,o+i,none⟩) a.lb).trans (a.rt i hi),xq a.lb d.size,a.cap1,a.cap2,a.n⟩
theorem cutI (S:List Int) (T:AT) (k:Option Addr) (bs:List Nat) (base c b o cap:Nat) (off:Int) (w:World) (d:PM w base c b o cap S T k bs) (l:T.ok) (ab:T.bal) (J:T.wp S) (K:0<=off) (L:off<=T.rns) (ac:base<=w.heap.size):
  Calls prog 170 #[.pointer (qK c 0),qJ off] w fun e w'=>e= .returned (qJ (cutN T off:Nat))∧∃y u,PM w' base c b o cap S (cutP S T off) y u∧(∀x∈u,x∈bs∨w.heap.size<=x)∧Chg (c::bs) w w':=by
 have ag:=l.bd;obtain⟨a,ai,cc⟩:=sk_at l K L;have C:=seekER T k bs base off w d.t l (by omega);have D:=d.n;by_cases hi:skI T off=0
 ·have v:Calls prog 181 #[.pointer k,qJ off,.func (.func 182) #[] #[]] w fun e w'=>e= .returned (fndV (seekP (fun p=>p.len) T off).off (seekP (fun p=>p.len) T off).len (seekP (fun p=>p.len) T off).brk (skR T off,(seekT (fun p=>p.len) T off).2.1,(seekT (fun p=>p.len) T off).2.2.1,0,(seekT (fun p=>p.len) T off).2.2.2.2))∧Below w.heap.size w w':=by
   have e:seekT (fun p=>p.len) T off=(skR T off,(seekT (fun p=>p.len) T off).2.1,(seekT (fun p=>p.len) T off).2.2.1,0,(seekT (fun p=>p.len) T off).2.2.2.2):=(by rw [<- hi];rfl);rw [<- e];exact C
  refine(cutB c b o S.length cap (skR T off) off _ _ _ _ _ _ k w d.k (qG v)).mono ?_;rintro e w' ⟨rfl,M⟩;refine⟨by rw [cutN,xd hi];rfl,k,bs,?_,fun x s=>.inl s,Chg.qa M⟩;rw [cutP,xd hi];exact d.below M
 obtain⟨aj,ak,t⟩:=cc.resolve_left hi;have O:=(zR S T).1 J _ (qT t);have P:=l.1 _ (qT t);simp only [pcOk,qU]at P;have ah:=O.2.2.1;have E:=(zW t).2;rw [AT.qh]at E;have F:=ZR l J D K L
 have Q:(T.put (skR T off) (pcAt S (skP T off).off (skI T off))).ok:=by
  have G:=yd T (skR T off) (pcAt S (skP T off).off (skI T off)) _ t;refine⟨fun q g=>?_,?_⟩
  ·rw [G]at g
   simp only [xb,xC]at g;rcases g with g | rfl | g
   ·exact l.1 q (xJ g)
   ·exact YG (by omega) (by omega) (by omega) (by omega) D
   exact l.1 q (xT g)
  have f:=l.2;rw [AT.qe]at f |-;rw [G,zK,zJ]
  have:lsum T.flat=lsum (T.flat.take (skR T off))+((skP T off).len+lsum (T.flat.drop (skR T off+1))):=by
   conv=>lhs;rw [(zW t).1]
   rw [zK,zJ]
  simp only [pcAt];omega
 obtain⟨q,g⟩:∃q:Nat,(skP T off).off=q:=⟨(skP T off).off.toNat,by omega⟩
 obtain⟨m,N⟩:∃m:Nat,(skP T off).len=m:=⟨(skP T off).len.toNat,by omega⟩
 obtain⟨j,z⟩:∃j:Nat,skI T off=j:=⟨(skI T off).toNat,by omega⟩
 have v:Calls prog 181 #[.pointer k,qJ off,.func (.func 182) #[] #[]] w fun e w'=>e= .returned (fndV (q:Int) (m:Int) (skP T off).brk (skR T off,(seekT (fun p=>p.len) T off).2.1,(seekT (fun p=>p.len) T off).2.2.1,(j:Int),(seekT (fun p=>p.len) T off).2.2.2.2))∧Below w.heap.size w w':=by
  have e:seekT (fun p=>p.len) T off=(skR T off,(seekT (fun p=>p.len) T off).2.1,(seekT (fun p=>p.len) T off).2.2.1,(j:Int),(seekT (fun p=>p.len) T off).2.2.2.2):=(by rw [<- z];rfl);rw [<- e,<- g,<- N];exact C
 have H:∀x∈bs,x<w.heap.size:=fun x s=>(d.t.lt x s).2
 have R:=cutA c b o S.length cap q m j (skR T off) base off (skP T off).brk _ _ _ k (T.put (skR T off) (pcAt S (skP T off).off (skI T off))) (cutP S T off) bs (pcAt S (skP T off).off (skI T off)) (pcAt S ((skP T off).off+skI T off) ((skP T off).len - skI T off)) w d.k d.cb H (by omega) (by omega) (by omega) (by omega) (by omega) (by omega) ac (qG v)
  (qG fun n h=>by
   have:=Yq S c b o cap q j n (fun i hi=>(h.cell (p:=⟨b,o+i,none⟩) d.lb).trans (d.rt i hi)) ((h.cell (p:=⟨c,0,none⟩) d.k.lt).trans d.k.c0) (xq d.lb h.size) (xq d.k.lt h.size) (by omega) (by omega) d.cap1 d.cap2 (by omega);simp only [pcAt,g,z,vg]
   exact this)
  (qG fun n h=>zBi T (skR T off) _ k bs base n l Q E (d.t.frame fun x s=>h.block x (H x s)) d.nd)
  (qG fun n h=>by
   have I:PK n c b o S.length cap k:=d.k.chg h d.cb;have U:=d.rt.chg h d.lb d.bb;have:=Yq S c b o cap (q+j) (m - j) n U I.c0 (xq d.lb h.size) I.lt (by omega) (by omega) d.cap1 d.cap2 (by omega);have V:((q+j:Nat):Int)=(q:Int)+(j:Int):=(by omega);have W:((m - j:Nat):Int)=(m:Int) - (j:Int):=(by omega);rw [V,W]at this;simp only [pcAt,g,z,N];rw [show((q:Int)+(j:Int)).toNat=q+j by omega,show((m:Int) - (j:Int)).toNat=m - j by omega]
   exact this)
  (qG fun n Z aa=>by
   have X:((skR T off+1:Nat):Int)=(skR T off:Int)+1:=(by omega);rw [<- X];have Y:cutP S T off=(T.put (skR T off) (pcAt S (skP T off).off (skI T off))).ins (skR T off+1) (pcAt S ((skP T off).off+skI T off) ((skP T off).len - skI T off)):=(by rw [cutP,qZ hi]);rw [Y]at F |-
   exact zEb (T.put (skR T off) (pcAt S (skP T off).off (skI T off))) (skR T off+1) _ k bs base n (AT.qk _ _ _ ab) F (by rw [AT.qi];omega) Z d.nd aa)
 refine R.mono ?_;rintro e w' ⟨rfl,y,u,ad,ae,af,A,B⟩;refine⟨by rw [cutN,qZ hi];rfl,y,u,⟨ad,ae,af,?_,?_,d.bc,d.rt.chg B d.lb ?_,xq d.lb B.size,d.cap1,d.cap2,d.n⟩,A,B⟩
 ·intro r
  rcases A c r with f | f
  ·exact d.cb f
  have:=d.k.lt;omega
 ·intro r
  rcases A b r with f | f
  ·exact d.bb f
  have:=d.lb;omega
 intro r;rcases xC.1 r with f | f
 ·exact d.bc f
 exact d.bb f
theorem Tryz.fldE (x y z r s a b v:Value) (w:World):(Instr.field 245 (.agg #[x,y,z,r,s,a,b,v]) 0).run prog w= .ok (.agg #[x,y,z]) w:=by kernel_rfl
theorem zAf (T:AT) (g:Option Addr) (bs:List Nat) (base c b o n cap k:Nat) (p:Pc) (w:World) (h:PK w c b o n cap g) (ht:Lies w base T g bs) (q:T.ok) (i:T.flat[k]? =some p):
  Calls prog 171 #[.pointer (qK c 0),qJ (k:Int)] w fun e w'=>e= .returned (.agg #[qJ p.off,qJ p.len,qJ p.brk])∧Below w.heap.size w w':=by
 have B:=q.bd;have r:=(zW i).2;rw [AT.qh]at r;have l:=J1 T k p i;have f:=qG ((qO w.heap.size w).alloc lR (.cells #[qJ 0,qJ 0,qJ 0] 63));have d:=qG (seekEI T g bs base (k:Int) (w.alloc (.cells #[qJ 0,qJ 0,qJ 0] 63)) (ht.below f lR) q (by omega));rw [l]at d;generalize seekT (fun _=>1) T (k:Int)=G at d;have s:=(f.cell (p:=⟨c,1,none⟩) h.lt).trans h.c1;have m:(w.alloc (.cells #[qJ 0,qJ 0,qJ 0] 63)).heap[w.heap.size]? =some (.cells #[qJ 0,qJ 0,qJ 0] 63 (0,0)):=xg _ _;have t:=qG m;have u:w.heap.size<(w.alloc (.cells #[qJ 0,qJ 0,qJ 0] 63)).heap.size:=by simp
 clear m ht h i l;go_enter func171,ntmps171;go_wp2_with fail;generalize w.alloc (.cells #[qJ 0,qJ 0,qJ 0] 63)=H at *
 refine d.mono ?_;rintro e w1 ⟨rfl,j⟩;have a:=(j.block w.heap.size u).trans t;have x:w1.cell? ⟨w.heap.size,0,none⟩=some (qJ 0):=by rw [qP w1 _ 0 _ _ _ a];rfl
 have y:w1.cell? ⟨w.heap.size,1,none⟩=some (qJ 0):=by rw [qP w1 _ 1 _ _ _ a];rfl
 have z:w1.cell? ⟨w.heap.size,2,none⟩=some (qJ 0):=by rw [qP w1 _ 2 _ _ _ a];rfl
 have C:=xp w1 w.heap.size 0 _ _ a;have D:=xp w1 w.heap.size 1 _ _ a;have E:=xp w1 w.heap.size 2 _ _ a;have A:=qG (f.trans (j.mono (by omega)));clear d j a s;unfold fndV;simp only;have F:=Tryz.fldE;go_wp2;refine xr (v:=.agg #[qJ p.off,qJ p.len,qJ p.brk]) (by simp [results,results171,go_sem,x,y,z]) rfl ⟨rfl,?_⟩;exact((A.setCell (by simp) _).setCell (by simp) _).setCell (by simp) _
theorem meetsN (p q:Pc) (w:World) (d:0<=p.off∧p.off<=220000∧0<=p.len∧p.len<=8192):
  Calls prog 172 #[.agg #[qJ p.off,qJ p.len,qJ p.brk],.agg #[qJ q.off,qJ q.len,qJ q.brk]] w fun e w'=>e= .returned (.bool (decide (p.off+p.len=q.off)))∧Below w.heap.size w w':=by
 obtain⟨a,b,f⟩:=p;obtain⟨g,h,i⟩:=q;simp only at *
 have c:IntKind.i64.wrap (a+b)=a+b:=i64w _ (by omega) (by omega);go_enter func172,ntmps172;go_wp2;go_ret;refine⟨?_,((qO _ _).alloc lR _).alloc (by simp) _⟩
 first | rfl | simp [Int.beq_eq]
theorem withN (p q:Pc) (w:World) (h:0<=p.len∧p.len<=8192∧0<=p.brk∧p.brk<=8192) (i:0<=q.len∧q.len<=8192∧0<=q.brk∧q.brk<=8192):
  Calls prog 174 #[.agg #[qJ p.off,qJ p.len,qJ p.brk],.agg #[qJ q.off,qJ q.len,qJ q.brk]] w fun e w'=>e= .returned (.agg #[qJ p.off,qJ (p.len+q.len),qJ (p.brk+q.brk)])∧Below w.heap.size w w':=by
 obtain⟨f,a,b⟩:=p;obtain⟨j,c,d⟩:=q;simp only at *
 have w1:IntKind.i64.wrap (a+c)=a+c:=i64w _ (by omega) (by omega);have g:IntKind.i64.wrap (b+d)=b+d:=i64w _ (by omega) (by omega);go_enter func174,ntmps174;go_wp2;refine xr (v:=.agg #[qJ f,qJ (a+c),qJ (b+d)]) (by simp [results,results174,go_sem]) rfl ⟨rfl,?_⟩;exact(((qO _ _).alloc lR _).alloc (by simp) _).alloc (by simp;omega) _
theorem PK.set0 {w:World} {c b o n cap:Nat} {a:Option Addr} (d:PK w c b o n cap a) (e f g h:Nat):PK (w.setCell ⟨c,0,none⟩ (.slice (qK e f) g h)) c e f g h a:=by
 unfold PK at d |-;rw [xD w c 0 _ _ _ d];rfl
def InsPM (w:World) (base c:Nat) (S:List Int) (T:AT) (bs:List Nat) (w':World):Prop:=
 ∃b a g d,PM w' base c g 0 d S T b a∧(∀x∈a,x∈bs∨w.heap.size<=x)∧Chg (c::bs) w w'
theorem insertI (zs ts:List Int) (T:AT) (aw:Option Addr) (bs:List Nat) (base c b o cf:Nat) (off:Int) (bl:Addr) (w:World) (u:PM w base c b o zs.length zs T aw bs) (bm:T.ok) (cg:T.bal) (ch:T.wp zs) (ah:0<=off) (ai:off<=T.rns) (eh:base<=w.heap.size) (ei:0<ts.length) (ej:T.rns+ts.length<=8192) (ek:zs.length+ts.length<=220000)
  (ci:∀j v,(ints .i32 ts)[j]? =some v->w.cell? (bl.add j)=some v):
  Calls prog 165 #[.pointer (qK c 0),qJ off,.slice (some bl) ts.length cf] w fun e w'=>e= .returned (.tuple #[])∧InsPM w base c (zs++ts) (insP (zs++ts) zs.length T off) bs w':=by
 obtain⟨dm,dn,dp,dq,dr⟩:=vc Tryz.qv;have U:=qG u;have cn:=u.k.c0;have du:=u.k.fz 0;have bo:=u.k.lt;have dv:=bm.bd;have V:=qG bm;have a0:=qG cg;have bp:(zs++ts).length=zs.length+ts.length:=qM;have an:=qG (ch.app ts)
 have bq:=qG (show ∀j v,(ints .i32 zs)[j]? =some v->w.cell? ((⟨b,o,none⟩:Addr).add j)=some v from(by
  have a:=j9 (o:=0) (l:=zs.length) u.rt
  simpa using a))
 have br:=qG ci;have bt:∀x∈bs,x<w.heap.size:=fun x O=>(u.t.lt x O).2
 have bu:=qG (fun(t:World) (v:Value) (dl:t.ownsRow w.heap.size 21 1 v (zs.length+ts.length) (ints .i32 zs++ints .i32 ts))=>show own32 t w.heap.size v (zs++ts)from YH rfl rfl dl);have bv:=qG (show(ints .i32 zs).length=zs.length*1 by rw [zC,vP]);have bw:=qG (show(ints .i32 ts).length=ts.length*1 by rw [zC,vP]);have bx:=qG (show insP (zs++ts) zs.length T off=addP (zs++ts) zs.length (cutP (zs++ts) T off) (cutN T off)from rfl);generalize db:zs++ts=S at *
 generalize dc:zs.length=n at *
 generalize dd:ts.length=m at *
 generalize de:insP S n T off=X at *
 clear u bm cg ch ci db dc dd de;go_enter func165,ntmps165;go_wp2_with (at_builtin;refine wpList_append_grows _ rfl _ _ 25 rfl 21 dm (.int .i32 0) 1 4 underlying25 dn dp dq dr rfl (by decide) (qK b o) n n (ints .i32 zs) rfl (by intro u;cases u) bv (by intro x O;cases O;exact bq) bl m cf (ints .i32 ts) rfl bw br (zG _ _) (by omega) (by unfold maxLen;omega) (by omega) ?_;intro ee w1 bi ce;have bz:=qG (bu _ _ bi);rcases bi.2 with ⟨rfl,el⟩ | ⟨g,cp,em,rfl,en,cj,dt,ck,_,_⟩;(exfalso;omega);have Z:=qG ((qO w.heap.size w).grown ce lR (fun q dj=>by cases dj));have co:=(Z.cell (p:=⟨c,0,none⟩) bo).trans cn;have a1:=qG (U.k.below Z bo);have cq:=a1.fz 0;clear bi ce);have cr:g<w1.heap.size:=(xO.1 cj).1;have ao:g≠c:=by omega
 have cs:g∉bs:=fun a=>by have:=bt g a;omega
 have dw:=Z.size;have b0:=qG (a1.set0 g 0 (n+m) cp);have a2:=qG ((Chg.qa (bs:=[c]) Z).setCell ⟨c,0,none⟩ (.slice (qK g 0) (n+m) cp) (.inl (by simp)));have b1:At32' w1 g 0 S:=yX (base:=w.heap.size) (cap:=cp) (by rw [bp];exact bz)
 have G:=qG (show PM (w1.setCell ⟨c,0,none⟩ (.slice (qK g 0) (n+m) cp)) base c g 0 cp S T aw bs from
  ⟨by rw [bp];exact b0,(U.t.below Z lR).other ⟨c,0,none⟩ _ U.cb,U.nd,U.cb,cs,ao,
   fun i hi=>by rw [<- b1 i hi];unfold World.cell?;rw [xm w1 ⟨c,0,none⟩ g _ ao],xq cr (kM (by simp)),by omega,ck,by omega⟩)
 have dx:=a2.size;have b2:=qG (jR (S:=S) V ah ai);have H:=qG (ZR V an (by omega) ah ai);have ct:=qG (Zl (S:=S) (off:=off) a0);have a3:=qG (ZQ V an ah ai);have b3:=qG (show(cutP S T off).rns=T.rns by rw [AT.qe,Zk V.out ah ai,<- AT.qe]);have b4:=qG (fun t (dk:PM t base c g 0 cp S T aw bs) bj=>cutI S T aw bs base c g 0 cp off t dk V a0 an ah ai bj);have b5:=qG (Yq S c g 0 cp n m _ G.rt G.k.c0 G.lb G.k.lt (by omega) (by omega) G.cap1 G.cap2 (by omega));have cu:=XK ((S.drop n).take m);have cv:((S.drop n).take m).length<=m:=by rw [qN];omega
 have cw:=qG (show pcAt S (n:Int) ((S.length:Int) - n)=⟨(n:Int),(m:Int),brk ((S.drop n).take m)⟩from(by
  unfold pcAt
  rw [show((S.length:Int) - n)=(m:Int)by omega,vg,vg]))
 generalize df:brk ((S.drop n).take m)=k at *
 have cx:0<=k∧k<=8192:=by omega
 have ap:=qG (show X=addP S n (cutP S T off) (cutN T off)from bx);generalize dg:cutP S T off=f at *
 generalize dh:cutN T off=R at *
 have aa:=b2.1;have dy:=H.bd;clear dg dh cu cv U V a0 an bq br bv bw bu bx b2 a1 b0 b1 bz co cq cj dt ck;generalize w1.setCell ⟨c,0,none⟩ (.slice (qK g 0) (n+m) cp)=ef at *
 refine b5.mono ?_;rintro e J ⟨rfl,aj⟩;have b6:=qG ((G.below aj).below ((qO J.heap.size J).alloc lR (.cells #[qJ (n:Int),qJ (m:Int),qJ k] 63)));have b7:=qG (aj.alloc aj.size (.cells #[qJ (n:Int),qJ (m:Int),qJ k] 63));have b8:=qG (show(J.alloc (.cells #[qJ (n:Int),qJ (m:Int),qJ k] 63)).heap[J.heap.size]? =some (.cells #[qJ (n:Int),qJ (m:Int),qJ k] 63 (0,0))from xg _ _);have dz:=aj.size;have b9:J.heap.size<(J.alloc (.cells #[qJ (n:Int),qJ (m:Int),qJ k] 63)).heap.size:=by simp
 clear aj b5 G;go_wp2_with fail;generalize J.alloc (.cells #[qJ (n:Int),qJ (m:Int),qJ k] 63)=eg at *
 generalize J.heap.size=fb at *
 refine(b4 _ b6 (by omega)).mono ?_;rintro e s ⟨rfl,u5,B,cl,bn,ak⟩;have P5:=qG cl
 have ca:fb∉c::bs:=fun a=>by
  rcases xC.1 a with a | a
  ·omega
  have:=bt fb a;omega
 have a4:=qG ((ak.block fb b9 ca).trans b8);have cb:fb<s.heap.size:=xq b9 ak.size;have a5:=qG (((a2.trans (Chg.qa (bs:=[]) b7) (fun x a _=>by simp at a;simp [a]) (fun x a _=>by cases a) (ds:=c::bs)).trans ak (fun _ a _=>a) (fun _ a _=>a) (ds:=c::bs)));have aq:=qG (show ∀x∈B,x∈bs∨w.heap.size<=x from fun x O=>(bn x O).imp id (fun a=>by omega))
 have d0:fb∉B:=fun a=>by
  rcases bn fb a with A | A
  ·exact ca (vF _ A)
  omega
 have d1:=ak.size;have d2:=a5.size;clear cl bn ak b4 b6 b8 b7 a2;have d3:IntKind.i64.wrap ((R:Int) - 1)=(R:Int) - 1:=i64w _ (by omega) (by omega);go_upto_region 4 with fail;go_cut [40] (fun x wc=>x= .bool (meetB n f R)∧Below s.heap.size s wc)
 case first=>
  have ab:=a4;have K:s.cell? ⟨fb,0,none⟩=some (qJ (n:Int)):=(by rw [qP s _ 0 _ _ _ ab];rfl);have L:s.cell? ⟨fb,1,none⟩=some (qJ (m:Int)):=(by rw [qP s _ 1 _ _ _ ab];rfl);have M:s.cell? ⟨fb,2,none⟩=some (qJ k):=(by rw [qP s _ 2 _ _ _ ab];rfl);have a6:=fun d os=>cell_regrown K d os
  have a7:=fun d os=>cell_regrown L d os
  have a8:=fun d os=>cell_regrown M d os
  by_cases da:R=0
  ·subst da
   have cy:decide ((0:Int)<((0:Nat):Int))=false:=(by simp);clear K L M ab;refine wp_region_quiet_below (by kernel_rfl) (by kernel_rfl) ?_
   repeat (quiet_step (fail))
   refine wpQuiet_nil ?_;intro _ P;obtain⟨⟨D,E⟩,Q⟩:=P;subst Q;go_wp2_with fail;go_meet;exact⟨by simp [meetB],below_regrown s D E⟩
  have cy:decide ((0:Int)<(R:Int))=true:=(by simp;omega);have d4:decide (0<R)=true:=(by simp;omega);have d5:0<R:=(by omega);have I:=yH (T:=f) (R:=R) (by omega) aa;have a9:=H.1 _ (qT I);simp only [pcOk,qU]at a9;have W:(((R - 1:Nat)):Int)=(R:Int) - 1:=(by omega);have N:=qG (fun d os=>Calls.regrown_of (w:=s) (d:=d) (os:=os) (zAf f u5 B base c g 0 S.length cp (R - 1) (ahead f R) (grow (redrawn s d) os) (P5.k.below (below_regrown s d os) P5.k.lt) (P5.t.below (below_regrown s d os) lR) H I));have cz:=qG (fun d os=>Calls.regrown_of (w:=s) (d:=d) (os:=os) (meetsN (ahead f R) ⟨(n:Int),(m:Int),k⟩ (grow (redrawn s d) os) (by omega)));rw [W]at N;have c0:=qG (show meetB n f R=decide ((ahead f R).off+(ahead f R).len=(n:Int))by simp only [meetB];congr 1;simp;omega);generalize ahead f R=p at *
  clear K L M ab I W;refine wp_region_quiet_below (by kernel_rfl) (by kernel_rfl) ?_
  repeat (quiet_step (first | exact N _ _ | exact cz _ _))
  refine wpQuiet_nil ?_;intro _ P;obtain⟨⟨D,E⟩,Q⟩:=P;subst Q;go_wp2_with fail;go_meet;exact⟨by rw [c0.out],below_regrown s D E⟩
 obtain⟨rfl,Y⟩:=hcut;have z:=qG (P5.below Y);have ba:=qG ((Y.block fb cb).trans a4);have d6:fb<wc.heap.size:=xq cb Y.size;have ac:=qG (a5.trans (Chg.qa (bs:=[]) Y) (fun _ a _=>a) (fun _ a _=>by cases a) (ds:=c::bs));have d7:=Y.size;have d8:=ac.size;clear Y P5 a4 a5;have ar:=ba;have K:wc.cell? ⟨fb,0,none⟩=some (qJ (n:Int)):=by rw [qP wc _ 0 _ _ _ ar];rfl
 have L:wc.cell? ⟨fb,1,none⟩=some (qJ (m:Int)):=by rw [qP wc _ 1 _ _ _ ar];rfl
 have M:wc.cell? ⟨fb,2,none⟩=some (qJ k):=by rw [qP wc _ 2 _ _ _ ar];rfl
 have bc:=z.k.c1;have a6:=fun d os=>cell_regrown K d os
 have a7:=fun d os=>cell_regrown L d os
 have a8:=fun d os=>cell_regrown M d os
 have cc:=fun d os=>cell_regrown bc d os
 clear ar;cases hmb:meetB n f R with
 | true=>
  have bd:=hmb;simp only [meetB,qU]at bd;have I:=yH (T:=f) (R:=R) bd.1 aa;have c1:=(zR S f).1 a3 _ (qT I);have a9:=H.1 _ (qT I);simp only [pcOk,qU]at a9;have W:(((R - 1:Nat)):Int)=(R:Int) - 1:=by omega
  have c2:=qG (show(⟨(ahead f R).off,(ahead f R).len+(m:Int),(ahead f R).brk+k⟩:Pc)=pcAt S (ahead f R).off ((ahead f R).len+((S.length:Int) - n))by
   rw [show((S.length:Int) - n)=(m:Int)by omega,<- Kb c1 bd.2 (by omega),vg,vg,df])
  have ad:=qG (show X=f.put (R - 1) ⟨(ahead f R).off,(ahead f R).len+(m:Int),(ahead f R).brk+k⟩by rw [ap.out,addP,xd hmb,c2.out]);have be:=qG (show X.ok by rw [ap.out];exact zA3 H a3 aa (by omega) (by omega) (by rw [b3.out];omega));have N:=qG (fun d os=>CallsIn.regrown_of (F:=Fence.wide) (r:=5) (w:=wc) (d:=d) (os:=os) (xf.2 (zAf f u5 B base c g 0 S.length cp (R - 1) (ahead f R) (grow (redrawn wc d) os) (z.k.below (below_regrown wc d os) z.k.lt) (z.t.below (below_regrown wc d os) lR) H I)));have bf:=qG (fun d os=>CallsIn.regrown_of (F:=Fence.wide) (r:=5) (w:=wc) (d:=d) (os:=os) (xf.2 (withN (ahead f R) ⟨(n:Int),(m:Int),k⟩ (grow (redrawn wc d) os) (by omega) ⟨by simp only;omega,by simp only;omega,cx⟩)));rw [W]at N;have au:=qG (fun t (bk:Lies t base f u5 B)=>zBi f (R - 1) ⟨(ahead f R).off,(ahead f R).len+(m:Int),(ahead f R).brk+k⟩ u5 B base t H (by rw [<- ad.out];exact be) (by omega) bk z.nd);rw [W]at au;rw [<- ad.out]at au;generalize ahead f R=p at *
  clear K L M bc I hmb W;go_upto_region 5 with fail;refine(kD (n:=6)).1 ?_;refine yR 12 (by kernel_rfl) (by kernel_rfl) ?_;simp only [vQ,kn,vU,vH]
  repeat (refine wpQuietIn_step (fun _ _ _ _=>trivial) (fun ag C=>?_);go_simp;first | (refine C _ ?_;clear C ag) | (apply Exists.intro;refine⟨fun _=>?_,C _ ?_⟩;(first | exact⟨xn,N _ _⟩ | exact N _ _ | exact⟨xn,bf _ _⟩ | exact bf _ _);clear C ag))
  refine wpQuietIn_nil ?_;intro _ P;obtain⟨⟨D,E⟩,Q⟩:=P;subst Q;have ae:=qG (below_regrown wc D E);clear a6 a7 a8 cc N bf;generalize grow (redrawn wc D) E=di at *
  have h:=qG (z.below ae);have af:=qG (ac.trans (Chg.qa (bs:=[]) ae) (fun _ a _=>a) (fun _ a _=>by cases a) (ds:=c::bs));clear z ac ba;gi_wp2_with fail;refine⟨xn,(xf.2 (au _ h.t)).mono ?_⟩;rintro e ax ⟨rfl,al,y⟩;have c3:=qG (show PM ax base c g 0 cp S X u5 B from⟨h.k.chg y h.cb,al,h.nd,h.cb,h.bb,h.bc,h.rt.chg y h.lb h.bb,xq h.lb y.size,h.cap1,h.cap2,h.n⟩)
  have bg:=qG (af.trans y (fun _ a _=>a) (fun x a A=>by
   rcases aq x a with am | am
   ·exact vF _ am
   omega) (ds:=c::bs))
  clear al y h af au;gi_wp2_with fail;go_wp2;refine xr (v:=.tuple #[]) (by simp [results,results165]) rfl ⟨rfl,u5,B,g,cp,c3,aq,bg⟩
 | false=>
  have ad:=qG (show X=f.ins R ⟨(n:Int),(m:Int),k⟩by rw [ap.out,addP,qZ (by rw [hmb];simp),cw.out]);have be:=qG (show X.ok by rw [ap.out];exact zA3 H a3 aa (by omega) (by omega) (by rw [b3.out];omega));have av:=qG (fun t (bk:Lies t base f u5 B) (bj:base<=t.heap.size)=>zEb f R ⟨(n:Int),(m:Int),k⟩ u5 B base t ct (by rw [<- ad.out];exact be) aa bk z.nd bj);rw [<- ad.out]at av;unfold pcV at av;clear K L M bc hmb;go_upto_region 6 with fail;refine(kD (n:=6)).1 ?_;refine jy 6 (.pointer (qK c 0)) (by kernel_rfl) (by kernel_rfl) (fun _ _ _ u=>u) ⟨Or.inl ⟨by rfl,?_⟩,fun w=>by rfl⟩ ?_
  ·intro w;go_simp
  simp only [vQ,kn,vU,vH]
  repeat (refine wpQuietIn_step (fun _ _ _ _=>trivial) (fun ag C=>?_);go_simp;first | (refine C _ ?_;clear C ag) | (apply Exists.intro;refine⟨fun _=>?_,C _ ?_⟩;(fail);clear C ag))
  refine wpQuietIn_nil ?_;intro _ P;obtain⟨⟨D,E⟩,Q⟩:=P;subst Q;have ae:=qG (below_regrown wc D E);clear a6 a7 a8 cc;generalize grow (redrawn wc D) E=di at *
  have h:=qG (z.below ae);have af:=qG (ac.trans (Chg.qa (bs:=[]) ae) (fun _ a _=>a) (fun _ a _=>by cases a) (ds:=c::bs));have d9:=af.size;clear z ac ba;gi_wp2_with fail;refine⟨xn,(xf.2 (av _ h.t (by omega))).mono ?_⟩;rintro e ax ⟨u8,ay,rfl,al,cm,az,y⟩
  have c4:=qG (show ∀x∈ay,x∈bs∨w.heap.size<=x from fun x O=>by
   rcases az x O with a | a
   ·exact aq x a
   exact .inr (by omega))
  have ea:=h.k.lt;have eb:=h.lb
  have cd:c∉ay:=fun a=>by
   rcases az c a with A | A
   ·exact h.cb A
   omega
  have c5:g∉ay:=fun a=>by
   rcases az g a with A | A
   ·exact h.bb A
   omega
  have bh:=qG (h.k.chg y h.cb);have c6:=qG (h.rt.chg y h.lb h.bb);have c7:g<ax.heap.size:=xq h.lb y.size;have c8:=qG al
  have bg:=qG (af.trans y (fun _ a _=>a) (fun x a A=>by
   rcases aq x a with am | am
   ·exact vF _ am
   omega) (ds:=c::bs))
  have c9:=qG cm;have ec:=bh.c1;have ed:=bh.fz 1;clear al y cm az av;gi_wp2_with fail;go_wp2;refine kO (v:=.tuple #[]) (by simp [results,results165]) rfl ⟨rfl,u8,ay,g,cp,⟨bh.set1 u8,c8.other ⟨c,1,none⟩ (.pointer u8) cd,c9,cd,c5,ao,fun i hi=>by rw [<- c6.out i hi];unfold World.cell?;rw [xm ax ⟨c,1,none⟩ g _ ao],xq c7 (kM (by simp)),h.cap1,h.cap2,h.n⟩,c4,bg.setCell ⟨c,1,none⟩ (.pointer u8) (.inl (by simp))⟩
theorem XM (T:AT) (a:Option Addr) (bs:List Nat) (base c b o n cap:Nat) (w:World) (d:PK w c b o n cap a) (ht:Lies w base T a bs):
  Calls prog 166 #[.pointer (qK c 0)] w fun e w'=>e= .returned (qJ T.rns)∧Below w.heap.size w w':=by
 have i:=d.c1;have g:=qG (allN T a bs base w ht);clear d ht;go_enter func166,ntmps166;go_wp2_with fail;refine g.mono ?_;rintro e w1 ⟨rfl,f⟩;have h:=qG f;have j:=Tryz.fld1;unfold cnt;clear f;go_wp2;go_ret;exact⟨rfl,h⟩
def roomV (r:Int) (n:Nat):Int:=if 220000 - (n:Int)<8192 - r then 220000 - (n:Int)else 8192 - r
theorem roomV_le {r:Int} {n m:Nat}:((m:Int)<=roomV r n)↔r+m<=8192∧n+m<=220000:=by
 unfold roomV;split<;>omega
theorem roomN (T:AT) (f:Option Addr) (bs:List Nat) (base c b o n cap:Nat) (w:World) (a:PK w c b o n cap f) (ht:Lies w base T f bs) (g:T.ok) (s:n<=220000):
  Calls prog 168 #[.pointer (qK c 0)] w fun e w'=>e= .returned (qJ (roomV T.rns n))∧Below w.heap.size w w':=by
 have m:=g.bd;have h:=qG (fun d os=>Calls.regrown_of (w:=w) (d:=d) (os:=os) (XM T f bs base c b o n cap (grow (redrawn w d) os) (a.below (below_regrown w d os) a.lt) (ht.below (below_regrown w d os) lR)));have p:=fun d os=>cell_regrown a.c0 d os
 have w1:IntKind.i64.wrap (8192 - T.rns)=8192 - T.rns:=i64w _ (by omega) (by omega);have q:IntKind.i64.wrap (220000 - (n:Int))=220000 - (n:Int):=i64w _ (by omega) (by omega);unfold roomV;clear a ht g;generalize T.rns=r at *
 go_enter func168,ntmps168;go_upto_region 1 with fail;refine wp_region_quiet_below (by kernel_rfl) (by kernel_rfl) ?_
 repeat (quiet_step (first | exact h _ _))
 refine wpQuiet_nil ?_;intro _ i;obtain⟨⟨j,k⟩,l⟩:=i;subst l;go_wp2
 all_goals (go_ret;exact⟨rfl,below_regrown w j k⟩)
theorem Tryz.mLengthI (c : Option Addr) (w : World) : (Go.method 369 73 (.pointer c) "loop.example/s01685/impl.length").run prog w = .ok (166, .pointer c) w := by kernel_rfl
theorem Tryz.mRoomI (c : Option Addr) (w : World) : (Go.method 369 73 (.pointer c) "loop.example/s01685/impl.room").run prog w = .ok (168, .pointer c) w := by kernel_rfl
theorem Tryz.mInsertI (c : Option Addr) (w : World) : (Go.method 369 73 (.pointer c) "loop.example/s01685/impl.insert").run prog w = .ok (165, .pointer c) w := by kernel_rfl
theorem insTextI (zs ts:List Int) (T:AT) (k:Option Addr) (bs:List Nat) (base c b o y:Nat) (off:Int) (i:Addr) (w:World) (f:PM w base c b o zs.length zs T k bs) (l:T.ok) (z:T.bal) (A:T.wp zs) (n:0<=off∧off<=T.rns) (R:base<=w.heap.size) (U:0<ts.length) (B:T.rns+ts.length<=8192) (C:zs.length+ts.length<=220000)
  (V:i.block<w.heap.size) (D:∀j v,(ints .i32 ts)[j]? =some v->w.cell? (i.add j)=some v):
  Calls prog 35 #[.iface 73 (.pointer (qK c 0)),qJ off,.slice (some i) ts.length y] w fun e w'=>e= .returned .nilIface∧InsPM w base c (zs++ts) (insP (zs++ts) zs.length T off) bs w':=by
 have ad:=Tryz.mLengthI;have ae:=Tryz.mRoomI;have af:=Tryz.mInsertI;have H:=l.bd;have I:=qG (XM T k bs base c b o zs.length zs.length w f.k f.t);have J:=qG (fun d (a:Below w.heap.size w d)=>roomN T k bs base c b o zs.length zs.length d (f.k.below a f.k.lt) (f.t.below a lR) l (by omega));have q:=qG (fun w=>jS off 0 T.rns 2 w);rw [show decide (0<=off∧off<=T.rns)=true by simpa using n]at q;simp only [errV,kA]at q;have s:=qG (fun w=>jS (ts.length:Int) 0 (roomV T.rns zs.length) 10 w);rw [show decide (0<=(ts.length:Int)∧(ts.length:Int)<=roomV T.rns zs.length)=true by rw [qU,roomV_le];omega]at s;simp only [errV,kA]at s;have K:=qG (fun d (a:Below w.heap.size w d)=>insertI zs ts T k bs base c b o y off i d (f.below a) l z A n.1 n.2 (vK R a.size) U B C (fun j v P=>(a.cell (p:=i.add j) (by unfold Addr.add;split<;>exact V)).trans (D j v P)))
 have L:=qG (fun d W' (a:Below w.heap.size w d) (hi:InsPM d base c (zs++ts) (insP (zs++ts) zs.length T off) bs W')=>show InsPM w base c (zs++ts) (insP (zs++ts) zs.length T off) bs W' from(by
  obtain⟨W,X,g,cp,Y,Z,aa⟩:=hi
  exact⟨W,X,g,cp,Y,fun x Q=>(Z x Q).imp id (fun h=>vK a.size h),(Chg.qa (bs:=[]) a).trans aa (fun _ h _=>by cases h) (fun _ h _=>h)⟩))
 clear f n l H z A B C D;generalize insP (zs++ts) zs.length T off=ah at *
 generalize roomV T.rns zs.length=ai at *
 generalize T.rns=r at *
 generalize zs++ts=S at *
 generalize ts.length=m at *
 have ag:(0:Int)<(m:Int):=by omega
 go_enter func35,ntmps35;go_wp2_with fail;refine I.mono ?_;rintro e w1 ⟨rfl,E⟩;have t:=qG E;clear E;go_wp2_with fail;refine(q _).mono ?_;rintro e wx ⟨rfl,ab⟩;have M:=ab.symm;subst M;go_wp2_with fail;refine(J _ t).mono ?_;rintro e aj ⟨rfl,F⟩;have u:=qG (t.trans (F.mono t.size));clear F;go_wp2_with fail;refine(s _).mono ?_;rintro e wy ⟨rfl,ac⟩;have N:=ac.symm;subst N;go_wp2_with fail;refine(K _ u).mono ?_;rintro e ak ⟨rfl,G⟩;have O:=qG (L _ _ u G);clear G;go_wp2;go_ret;exact⟨rfl,O⟩
end Go.Proofs.YtmjanhcplcalfaaGreatDoor
namespace Go.Proofs.YtmjanhcplcalfaaGreatDoor
open Go Go.RowKit Go.Proofs.Tryz
def piT (zs:List Int) (xs:List It) (off:Int) (ts:List Int):Option AT:=
 match pRead zs xs with
 | none=>none
 | some T=>if(0<=off∧off<=T.rns)∧T.rns+ts.length<=8192∧zs.length+ts.length<=220000 then some (if ts.length=0 then T else insP (zs++ts) zs.length T off)else none
def piC (zs:List Int) (xs:List It) (off:Int) (ts:List Int):Int:=
 match pRead zs xs with
 | none=>1
 | some T=>if 0<=off∧off<=T.rns then(if T.rns+ts.length<=8192∧zs.length+ts.length<=220000 then 0 else 10)else 2
def piS (zs:List Int) (xs:List It) (off:Int) (ts:List Int):List Int:=if(piT zs xs off ts).isSome then zs++ts else []
def piI (zs:List Int) (xs:List It) (off:Int) (ts:List Int):List It:=match piT zs xs off ts with | none=>[] | some T=>T.told 0
def ji (w:World) (zs:List Int) (xs:List It) (k:Int) (e:Ending) (w':World):Prop:=
 ∃a b,e= .returned (.tuple #[.agg #[a,b],qJ k])∧own32 w' w.heap.size a zs∧OwI w' w.heap.size b xs∧Below w.heap.size w w'∧(k=0->a≠ .slice none 0 0)
theorem ansOk (zs:List Int) (T:AT) (q:Option Addr) (bs:List Nat) (base c b o cap:Nat) (w:World) (g:PM w base c b o cap zs T q bs) (r:T.ok):
  Calls prog 36 #[.pointer (qK c 0),.nilIface] w (ji w zs (T.told 0) 0):=by
 have I:=g.n;have l:=qG ((qO w.heap.size w).alloc lR (.cells #[.slice none 0 0,.slice none 0 0] 30));have t:=qG (show(w.alloc (.cells #[.slice none 0 0,.slice none 0 0] 30)).heap[w.heap.size]? =some (.cells #[.slice none 0 0,.slice none 0 0] 30 (0,0))from xg _ _);have a:=g.below l;have m:=qG (tellPM zs T q bs base c b o cap _ a.rt a.lb (by omega) a.t r a.k);have u:w.heap.size<(w.alloc (.cells #[.slice none 0 0,.slice none 0 0] 30)).heap.size:=by simp
 clear g a r;go_enter func36,ntmps36;go_wp2_with fail;generalize w.alloc (.cells #[.slice none 0 0,.slice none 0 0] 30)=L at *
 refine m.mono ?_;rintro e w1 ⟨M,N,rfl,h,i,j,s⟩;obtain⟨E,F,rfl⟩:=zi h;have x:=qG s;clear s;obtain⟨G,H,rfl⟩:=zb i;have n:=qG h;have p:=qG i;have d:=(j.block w.heap.size u).trans t;have y:w1.cell? ⟨w.heap.size,0,none⟩=some (.slice none 0 0):=by rw [qP w1 _ 0 _ _ _ d];rfl
 have z:w1.cell? ⟨w.heap.size,1,none⟩=some (.slice none 0 0):=by rw [qP w1 _ 1 _ _ _ d];rfl
 have J:=xp w1 w.heap.size 0 _ _ d;have K:=xp w1 w.heap.size 1 _ _ d;have A:=qG (l.trans (j.mono (by omega)));clear m j d h i;generalize zs.length=C at *
 generalize (T.told 0).length=D at *
 go_wp2;refine xr (v:=.tuple #[.agg #[.slice E C F,.slice G D H],qJ 0]) (by simp [results,results36,go_sem,y,z]) rfl ⟨_,_,rfl,?_,?_,?_,fun _=>x⟩
 ·exact zA (zD n (by omega)) (fun k f=>by have B:=n.lt k f;rw [xo _ _ _ _ (by simp;omega),xo _ _ _ _ (by simp;omega)];try rfl)
 ·exact zA (zD p (by omega)) (fun k f=>by have B:=p.lt k f;rw [xo _ _ _ _ (by simp;omega),xo _ _ _ _ (by simp;omega)];try rfl)
 exact(A.setCell lR _).setCell lR _
theorem XN {T:AT} {r:Nat} {p:Pc} (a:T.flat[r]? =some p):∃y,(T.told 0)[r]? =some y∧y.pc=p:=by
 rw [<- AT.qj T 0,xU]at a;cases hy:(T.told 0)[r]? with
 | none=>rw [hy]at a;cases a
 | some y=>rw [hy]at a;exact⟨y,rfl,by simpa using a⟩
theorem zFl {S:List Int} {n:Nat} {T:AT} {off:Int} {r:Nat} {y:It} (g:T.ok) (h:0<=off) (i:off<=T.rns) (j:cutN T off=r+1) (k:(T.told 0)[r]? =some y) (ht:total ((T.told 0).take (cutN T off))=off) (l:y.pc.off+y.pc.len=(n:Int)):
  insP S n T off=T.put r (pcAt S y.pc.off (y.pc.len+((S.length:Int) - n))):=by
 obtain⟨a,s,c⟩:=sk_at g h i
 have hi:skI T off=0:=by
  rcases Decidable.em (skI T off=0)with hi | hi
  ·exact hi
  exfalso;obtain⟨m,o,d⟩:=c.resolve_left hi;rw [cutN,qZ hi,yV]at ht;have e:=(zW d).1;rw [e,jg _ _ _ _ (by rw [qN];have:=(zW d).2;omega),zK,zJ,jf,s]at ht;omega
 have f:T.flat[r]? =some y.pc:=by rw [<- AT.qj T 0,xU,k];rfl
 have b:ahead T (r+1)=y.pc:=by rw [ahead,vN,q9,f];rfl
 rw [insP,j,cutP,xd hi,addP,xd (by rw [meetB,qU,b];exact⟨by omega,l⟩),b,vN]
theorem zFm {S:List Int} {n:Nat} {T:AT} {off:Int} (g:T.ok) (l:∀p∈T.flat,p.off+p.len<=(n:Int)) (h:0<=off) (i:off<=T.rns) (m:¬ (∃r y,cutN T off=r+1∧(T.told 0)[r]? =some y∧total ((T.told 0).take (cutN T off))=off∧y.pc.off+y.pc.len=(n:Int))):
  insP S n T off=(cutP S T off).ins (cutN T off) (pcAt S n ((S.length:Int) - n)):=by
 obtain⟨a,s,c⟩:=sk_at g h i;rw [insP,addP,qZ];intro f;simp only [meetB,qU]at f;obtain⟨o,b⟩:=f;by_cases hi:skI T off=0
 ·refine m ?_
  have d:cutN T off=skR T off:=(by rw [cutN,xd hi];omega);rw [cutP,xd hi]at b;obtain⟨r,j⟩:∃r,cutN T off=r+1:=⟨cutN T off - 1,by omega⟩
  have e:=yH (T:=T) (R:=cutN T off) o (by omega);obtain⟨y,q,t⟩:=XN e;refine⟨r,y,j,by rw [<- q,j];rfl,?_,by rw [t];exact b⟩;rw [yV,d,s,hi];omega
 obtain⟨v,w,k⟩:=c.resolve_left hi;have d:cutN T off=skR T off+1:=by rw [cutN,qZ hi]
 have u:=l _ (qT k)
 have e:ahead (cutP S T off) (cutN T off)=pcAt S (skP T off).off (skI T off):=by
  rw [ahead,d,vN,q9,yN g h i hi,xa (by rw [qN];omega)];have:skR T off - (T.flat.take (skR T off)).length=0:=(by rw [qN];have:=(zW k).2;omega);rw [this];rfl
 rw [e]at b;simp only [pcAt]at b;omega
def Back (S:List Int) (F a:List Pc):Prop:=a=F∨∃r p q,F[r]? =some p∧F[r+1]? =some q∧p.off+p.len=q.off∧a=F.take r++pcAt S p.off (p.len+q.len)::F.drop (r+2)
theorem J9 {T:AT} {d:Int} {x:It} (a:x∈T.told d):x.pc∈T.flat:=by
 rw [<- AT.qj T d];exact kL.2 ⟨x,a,rfl⟩
theorem zBo (T:AT) (d:T.bal) (a:T.ok):readT (T.told 0)=some T:=by
 have g:(T.told 0).length=T.its:=AT.told_length T 0;have h:=a.bd;have b:=jB T 8200 0 [] d (by have:=AT.bal_low T d (by omega);omega) (fun y k f=>by cases f);rw [jd]at b;unfold readT;rw [xd,b];simp only [okI,xL,qU];refine⟨xV.2 fun x c=>?_,by rw [AT.rns_told];exact a.2⟩;have e:=a.1 x.pc (J9 c);have i:=AT.told_lv T 0 x c;have j:=AT.ht_its T;simp only [xL,qU];exact⟨e,by omega,by omega⟩
theorem zD1 {S:List Int} {T:AT} (d:T.bal) (b:T.ok) (e:T.wp S) (f:S.length<=220000):pRead S (T.told 0)=some T:=by
 unfold pRead;rw [zBo T d b];simp only;rw [xd];refine⟨f,xV.2 fun x c=>?_⟩;have a:=J9 c;exact(zEd (b.1 _ a)).2 ((zR S T).1 e _ a)
theorem ZA (S:List Int):∀T:AT,T.tx S=T.flat.flatMap (ptx S)
 | .nil=>rfl
 | .node l p r=>by simp only [AT.tx,AT.flat,List.flatMap_append,kN,ZA S l,ZA S r]
theorem zAi {S:List Int} {p q:Pc} (a:WP S p) (b:WP S q) (c:p.off+p.len=q.off):ptx S (pcAt S p.off (p.len+q.len))=ptx S p++ptx S q:=by
 obtain⟨d,e,f,_⟩:=a;obtain⟨g,h,i,_⟩:=b;unfold ptx pcAt;simp only;rw [show(p.len+q.len).toNat=p.len.toNat+q.len.toNat by omega,List.take_add,ze,show p.off.toNat+p.len.toNat=q.off.toNat by omega]
theorem Back.wp {S:List Int} {T R:AT} (f:Back S T.flat R.flat) (g:T.wp S):R.wp S:=by
 have d:=(zR S T).1 g;refine(zR S R).2 fun x c=>?_
 rcases f with e | ⟨r,p,q,h,i,j,e⟩
 ·rw [e]at c;exact d x c
 rw [e]at c;simp only [xb,xC]at c;rcases c with c | rfl | c
 ·exact d x (xJ c)
 ·have a:=d _ (qT h)
  have b:=d _ (qT i);exact jQ a.1 (by have:=a.2.1;have:=b.2.1;omega) (by have:=b.2.2.1;omega)
 exact d x (xT c)
theorem ptx_app {zs:List Int} {p:Pc} (a:WP zs p) (ts:List Int):ptx (zs++ts) p=ptx zs p:=by
 obtain⟨b,c,d,e⟩:=a;unfold ptx;rw [xS (by omega),xI (by rw [qR];omega)]
theorem tx_app {zs:List Int} {T:AT} (d:T.wp zs) (ts:List Int):T.tx (zs++ts)=T.tx zs:=by
 rw [ZA,ZA];have b:=(zR zs T).1 d
 have:∀F:List Pc,(∀p∈F,WP zs p)->F.flatMap (ptx (zs++ts))=F.flatMap (ptx zs):=by
  intro F
  induction F with
  | nil=>intro _;rfl
  | cons p F e=>intro a;rw [kN,kN,ptx_app (a p (by simp)) ts,e (fun q c=>a q (by simp [c]))]
 exact this _ b
theorem Jt {zs ts:List Int} {T:AT} {off:Int} (b:T.ok) (o:T.wp zs) (d:0<=off) (f:off<=T.rns) (E:0<ts.length):
  (insP (zs++ts) zs.length T off).wp (zs++ts)∧(insP (zs++ts) zs.length T off).rns=T.rns+ts.length∧(insP (zs++ts) zs.length T off).its<=T.its+2:=by
 have x:(zs++ts).length=zs.length+ts.length:=qM;have k:=o.app ts;have l:((zs++ts).length:Int) - (zs.length:Int)=(ts.length:Int):=by omega
 have t:=(zR zs T).1 o;have j:=(zR (zs++ts) T).1 k;by_cases n:∃r y,cutN T off=r+1∧(T.told 0)[r]? =some y∧total ((T.told 0).take (cutN T off))=off∧y.pc.off+y.pc.len=(zs.length:Int)
 ·obtain⟨r,y,u,q,ht,v⟩:=n
  have h:=zFl (S:=zs++ts) b d f u q ht v;rw [l]at h;have i:T.flat[r]? =some y.pc:=(by rw [<- AT.qj T 0,xU,q];rfl);have g:=yd T r (pcAt (zs++ts) y.pc.off (y.pc.len+(ts.length:Int))) _ i;have z:=jC b _ (qT i);rw [h];refine⟨?_,?_,by rw [AT.qi];omega⟩
  ·refine(zR _ _).2 fun p a=>?_
   rw [g]at a;simp only [xb,xC]at a;rcases a with a | rfl | a
   ·exact j _ (xJ a)
   ·have:=(j _ (qT i)).1
    exact jQ this (by omega) (by omega)
   exact j _ (xT a)
  rw [AT.qe,AT.qe,g,zK,zJ];have e:=(zW i).1
  have:lsum T.flat=lsum (T.flat.take r)+(y.pc.len+lsum (T.flat.drop (r+1))):=by
   conv=>lhs;rw [e]
   rw [zK,zJ]
  simp only [pcAt];omega
 have h:=zFm (S:=zs++ts) b (fun p a=>(t p a).2.2.1) d f n;rw [l]at h;obtain⟨w,F⟩:=jR (S:=zs++ts) b d f;have g:(insP (zs++ts) zs.length T off).flat=(cutP (zs++ts) T off).flat.take (cutN T off)++pcAt (zs++ts) (zs.length:Int) (ts.length:Int)::(cutP (zs++ts) T off).flat.drop (cutN T off):=by rw [h,AT.ins_flat _ _ _ w]
 have m:=(zR _ _).1 (ZQ (S:=zs++ts) b k d f);refine⟨?_,?_,?_⟩
 ·refine(zR _ _).2 fun p a=>?_
  rw [g]at a;simp only [xb,xC]at a;rcases a with a | rfl | a
  ·exact m _ (xJ a)
  ·exact jQ (by omega) (by omega) (by omega)
  exact m _ (xT a)
 ·rw [AT.qe,g,zK,zJ]
  have A:=Zk (S:=zs++ts) b d f;have B:lsum (cutP (zs++ts) T off).flat=lsum ((cutP (zs++ts) T off).flat.take (cutN T off))+lsum ((cutP (zs++ts) T off).flat.drop (cutN T off)):=(by rw [<- zK,xw]);rw [AT.qe];simp only [pcAt];omega
 have C:(cutP (zs++ts) T off).its<=T.its+1:=by
  by_cases hi:skI T off=0
  ·rw [cutP,xd hi];omega
  rw [<- AT.qh,yN b d f hi,qM,xe,xe,qN,qR,AT.qh];obtain⟨G,s,c⟩:=sk_at b d f;have:=(zW (c.resolve_left hi).2.2).2;rw [AT.qh]at this;omega
 have D:(cutP (zs++ts) T off).flat.length=(cutP (zs++ts) T off).its:=AT.qh _;rw [<- AT.qh,g,qM,xe,qN,qR];omega
theorem zFn {S:List Int} {T:AT} {R:Nat} (a:T.bal):(healP S T R).bal:=by
 cases hb:healB T R with
 | false=>rw [healP,qZ (by rw [hb];simp)];exact a
 | true=>
  rw [healP,xd hb];simp only [healB,qU]at hb;exact(AT.rem_bal _ _ (AT.qk _ _ _ a) (by rw [AT.qi];exact hb.1.2)).1
theorem zBp {S:List Int} {T:AT} {lo hi:Int} (t:T.ok) (u:T.bal) (v:T.wp S) (w:S.length<=220000) (y:0<=lo) (z:lo<=hi) (j:hi<=T.rns):
  (delP S T lo hi).ok∧(delP S T lo hi).bal∧(delP S T lo hi).wp S∧(delP S T lo hi).rns<=T.rns:=by
 have F:=delF t u v w y z j;have g:=(zR S _).1 F.wpJ
 have k:(dlJ S T lo hi).rns<=T.rns:=by
  have i:=AT.split_flat (dl2 S T lo hi) (cutN T lo) F.a2;have l:(dlX S T lo hi).flat=(dl2 S T lo hi).flat.take (cutN T lo):=i.1;have m:(dlY S T lo hi).flat=(dl2 S T lo hi).flat.drop (cutN T lo):=i.2;have n:=AT.split_flat (dlY S T lo hi) (dlZ S T lo hi - cutN T lo) (by have:=F.yits;have:=F.z2;omega);have o:(dlW S T lo hi).flat=(dlY S T lo hi).flat.drop (dlZ S T lo hi - cutN T lo):=n.2;have p:(dl2 S T lo hi).rns=T.rns:=(by rw [dl2,zBe F.ok1 (by omega) (by rw [F.rn1];exact j),F.rn1]);have A:lsum (dl2 S T lo hi).flat=lsum ((dl2 S T lo hi).flat.take (cutN T lo))+lsum ((dl2 S T lo hi).flat.drop (cutN T lo)):=(by rw [<- zK,xw]);have r:lsum (dlY S T lo hi).flat=lsum ((dlY S T lo hi).flat.take (dlZ S T lo hi - cutN T lo))+lsum ((dlY S T lo hi).flat.drop (dlZ S T lo hi - cutN T lo)):=(by rw [<- zK,xw]);have s:=ZS (F:=(dlY S T lo hi).flat.take (dlZ S T lo hi - cutN T lo)) (fun q f=>jC F.okY q (xJ f));rw [AT.qe]at p;rw [AT.qe,dlJ,AT.join_flat,zK,l,o];rw [m]at r s |-;omega
 refine⟨F.okR,zFn F.balJ,?_,?_⟩
 ·cases hhb:healB (dlJ S T lo hi) (cutN T lo)with
  | false=>rw [delP,healP,qZ (by rw [hhb];simp)];exact F.wpJ
  | true=>
   have c:=hhb;simp only [healB,qU]at c;have h:=yH (T:=dlJ S T lo hi) (R:=cutN T lo) c.1.1 (by omega);have f:=J2 (T:=dlJ S T lo hi) (R:=cutN T lo) c.1.2;refine(zR S _).2 fun x d=>?_
   rw [delP,ZT hhb]at d;simp only [xb,xC]at d;rcases d with d | rfl | d
   ·exact g x (xJ d)
   ·have a:=g _ (qT h)
    have b:=g _ (qT f);exact jQ a.1 (by have:=a.2.1;have:=b.2.1;omega) (by have:=b.2.2.1;omega)
   exact g x (xT d)
 refine Int.le_trans ?_ k;cases hhb:healB (dlJ S T lo hi) (cutN T lo)with
 | false=>rw [delP,healP,qZ (by rw [hhb];simp)];exact kY _
 | true=>
  have c:=hhb;simp only [healB,qU]at c;have h:=yH (T:=dlJ S T lo hi) (R:=cutN T lo) c.1.1 (by omega);have f:=J2 (T:=dlJ S T lo hi) (R:=cutN T lo) c.1.2;have e:=zAa c.1.1 h f;rw [AT.qe,AT.qe,delP,ZT hhb,zK,zJ]
  have:lsum (dlJ S T lo hi).flat=lsum ((dlJ S T lo hi).flat.take (cutN T lo - 1))+((ahead (dlJ S T lo hi) (cutN T lo)).len+((atP (dlJ S T lo hi) (cutN T lo)).len+lsum ((dlJ S T lo hi).flat.drop (cutN T lo+1)))):=by
   conv=>lhs;rw [e]
   rw [zK,zJ,zJ]
  simp only [pcAt];omega
def fx (S:List Int) (F:List Pc):List Int:=F.flatMap (ptx S)
theorem fx_nil (S:List Int):fx S []= []:=rfl
theorem jT (S:List Int) (p:Pc) (F:List Pc):fx S (p::F)=ptx S p++fx S F:=kN
theorem ZX (S:List Int) (F a:List Pc):fx S (F++a)=fx S F++fx S a:=by simp [fx]
theorem fx_len {S:List Int}:∀ {F:List Pc},(∀p∈F,WP S p)->((fx S F).length:Int)=lsum F
 | [],_=>rfl
 | p::F,a=>by
  rw [jT,zJ,qM];have c:=YF (a p (by simp));have d:=fx_len (F:=F) (fun q b=>a q (by simp [b]));omega
theorem fx_at {S:List Int} {F:List Pc} {a n:Nat} (e:∀p∈F,WP S p) (g:lsum (F.take a)=(n:Int)):fx S (F.take a)=(fx S F).take n∧fx S (F.drop a)=(fx S F).drop n:=by
 have f:=fx_len (S:=S) (F:=F.take a) (fun p d=>e p (xJ d));have b:(fx S (F.take a)).length=n:=by omega
 have c:fx S F=fx S (F.take a)++fx S (F.drop a):=by rw [<- ZX,xw]
 rw [c];exact⟨(ku b).symm,(kG b).symm⟩
theorem zEg {S:List Int} {T:AT} {off:Int} (d:T.ok) (l:T.wp S) (f:0<=off) (g:off<=T.rns):fx S (cutP S T off).flat=fx S T.flat:=by
 by_cases hi:skI T off=0
 ·rw [cutP,xd hi]
 rw [yN d f g hi];obtain⟨a,b,c⟩:=sk_at d f g;obtain⟨r,s,h⟩:=c.resolve_left hi;have j:=(zR S T).1 l _ (qT h);obtain⟨i,m,n,o⟩:=j;have e:=zAi (S:=S) (p:=pcAt S (skP T off).off (skI T off)) (q:=pcAt S ((skP T off).off+skI T off) ((skP T off).len - skI T off)) (jQ i (by omega) (by omega)) (jQ (by omega) (by omega) (by omega)) rfl
 have k:pcAt S (pcAt S (skP T off).off (skI T off)).off ((pcAt S (skP T off).off (skI T off)).len+(pcAt S ((skP T off).off+skI T off) ((skP T off).len - skI T off)).len)=skP T off:=by
  have:(pcAt S (skP T off).off (skI T off)).len+(pcAt S ((skP T off).off+skI T off) ((skP T off).len - skI T off)).len=(skP T off).len:=(by show skI T off+((skP T off).len - skI T off)=_;omega);rw [this];exact pcAt_of ⟨i,m,n,o⟩
 rw [k]at e
 conv=>rhs;rw [(zW h).1]
 rw [ZX,ZX,jT,jT,jT,e,xj]
theorem zAk {S:List Int} {T:AT} {off:Int} (b:T.ok) (f:T.wp S) (c:0<=off) (d:off<=T.rns):fx S ((cutP S T off).flat.take (cutN T off))=(fx S T.flat).take off.toNat∧fx S ((cutP S T off).flat.drop (cutN T off))=(fx S T.flat).drop off.toNat:=by
 have g:=jR (S:=S) b c d;have h:=(zR S _).1 (ZQ b f c d);have e:=fx_at (S:=S) (F:=(cutP S T off).flat) (a:=cutN T off) (n:=off.toNat) h (by rw [g.2];omega);rw [zEg b f c d]at e;exact e
theorem insP_tx {zs ts:List Int} {T:AT} {off:Int} (c:T.ok) (l:T.wp zs) (d:0<=off) (f:off<=T.rns):(insP (zs++ts) zs.length T off).tx (zs++ts)=(T.tx zs).take off.toNat++(ts++(T.tx zs).drop off.toNat):=by
 have g:=l.app ts;have t:(zs++ts).length=zs.length+ts.length:=qM;have m:((zs++ts).length:Int) - (zs.length:Int)=(ts.length:Int):=by omega
 have h:=zAk (S:=zs++ts) c g d f;have i:=jR (S:=zs++ts) c d f;have n:=(zR _ _).1 (ZQ (S:=zs++ts) c g d f)
 have j:ptx (zs++ts) (pcAt (zs++ts) zs.length ts.length)=ts:=by
  unfold ptx pcAt;simp
 rw [<- tx_app l ts,ZA,ZA]
 show fx (zs++ts) _=(fx (zs++ts) T.flat).take _++(ts++(fx (zs++ts) T.flat).drop _)
 rw [<- h.1,<- h.2,insP,addP,m];by_cases a:meetB zs.length (cutP (zs++ts) T off) (cutN T off)=true
 ·rw [xd a]
  simp only [meetB,qU]at a;have b:=yH (T:=cutP (zs++ts) T off) (R:=cutN T off) a.1 i.1;rw [yd _ _ _ _ b];have o:=n _ (qT b);have e:=zAi (S:=zs++ts) (p:=ahead (cutP (zs++ts) T off) (cutN T off)) (q:=pcAt (zs++ts) zs.length ts.length) o (jQ (by omega) (by omega) (by omega)) a.2;have r:ptx (zs++ts) (pcAt (zs++ts) (ahead (cutP (zs++ts) T off) (cutN T off)).off ((ahead (cutP (zs++ts) T off) (cutN T off)).len+(ts.length:Int)))=ptx (zs++ts) (ahead (cutP (zs++ts) T off) (cutN T off))++ts:=(by rw [j]at e;exact e);have k:cutN T off - 1+1=cutN T off:=(by omega);rw [ZX,jT,r,k]
  have s:(cutP (zs++ts) T off).flat.take (cutN T off)=(cutP (zs++ts) T off).flat.take (cutN T off - 1)++ [ahead (cutP (zs++ts) T off) (cutN T off)]:=by
   conv=>lhs;rw [<- k]
   rw [vT,b];rfl
  rw [s,ZX,jT,fx_nil];simp only [xj,jd]
 rw [qZ a,AT.ins_flat _ _ _ i.1,ZX,jT,j]
theorem delP_tx {S:List Int} {T:AT} {lo hi:Int} (b:T.ok) (x:T.bal) (d:T.wp S) (y:S.length<=220000) (c:0<=lo) (m:lo<=hi) (n:hi<=T.rns):(delP S T lo hi).tx S=(T.tx S).take lo.toNat++(T.tx S).drop hi.toNat:=by
 have F:=delF b x d y c m n;have f:=jR (S:=S) b c (by omega:lo<=T.rns);have g:hi<=(cutP S T lo).rns:=by rw [F.rn1];exact n
 have o:=zBf (S:=S) F.ok1 (by omega) g f.1 f.2 m;have p:=zAk (S:=S) b d c (by omega:lo<=T.rns);have h:=zAk (S:=S) F.ok1 F.wp1 (by omega:0<=hi) g;rw [zEg b d c (by omega:lo<=T.rns)]at h;have i:=AT.split_flat (dl2 S T lo hi) (cutN T lo) F.a2;have q:(dlX S T lo hi).flat=(dl2 S T lo hi).flat.take (cutN T lo):=i.1;have r:(dlY S T lo hi).flat=(dl2 S T lo hi).flat.drop (cutN T lo):=i.2;have s:=AT.split_flat (dlY S T lo hi) (dlZ S T lo hi - cutN T lo) (by have:=F.yits;have:=F.z2;omega)
 have t:(dlW S T lo hi).flat=(dl2 S T lo hi).flat.drop (dlZ S T lo hi):=by
  have e:(dlW S T lo hi).flat=(dlY S T lo hi).flat.drop (dlZ S T lo hi - cutN T lo):=s.2;rw [e,r,ze]
  congr 1
  have:=F.az;omega
 have u:fx S (dlJ S T lo hi).flat=(fx S T.flat).take lo.toNat++(fx S T.flat).drop hi.toNat:=by
  rw [dlJ,AT.join_flat,ZX,q,t];have v:(dl2 S T lo hi).flat.take (cutN T lo)=(cutP S T lo).flat.take (cutN T lo):=o.2;rw [v,p.1];have w:fx S ((dl2 S T lo hi).flat.drop (dlZ S T lo hi))=(fx S T.flat).drop hi.toNat:=h.2;rw [w]
 rw [ZA,ZA]
 show fx S _=(fx S T.flat).take _++(fx S T.flat).drop _
 rw [<- u,delP];cases hhb:healB (dlJ S T lo hi) (cutN T lo)with
 | false=>rw [healP,qZ (by rw [hhb];simp)]
 | true=>
  have a:=hhb;simp only [healB,qU]at a;have j:=(zR S _).1 F.wpJ;have k:=yH (T:=dlJ S T lo hi) (R:=cutN T lo) a.1.1 (by omega);have l:=J2 (T:=dlJ S T lo hi) (R:=cutN T lo) a.1.2;have e:=zAi (j _ (qT k)) (j _ (qT l)) a.2;rw [ZT hhb]
  conv=>rhs;rw [zAa a.1.1 k l]
  rw [ZX,ZX,jT,jT,jT,e,xj]
theorem faceI (q:Option Addr) (n cap:Nat) (ao:Option Addr) (m a:Nat) (off:Int) (tx:Option Addr) (x y:Nat) (RS:List Int) (l:List It) (o:Int) (z:Nat->World->Prop) (A:Nat->Value->World->Prop) (w:World)
  (B:Hid (Calls prog 34 #[.agg #[.slice q n cap,.slice ao m a]] ((w.alloc (.cells #[.slice q n cap,.slice ao m a] 30)).alloc (.cells #[.slice none 0 0,.slice none 0 0] 30)) fun e w1=>∃c,e= .returned (.tuple #[.pointer (qK c 0),.nilIface])∧z c w1))
  (C:Hid (∀c w1,z c w1->Calls prog 35 #[.iface 73 (.pointer (qK c 0)),qJ off,.slice tx x y] w1 fun e b=>∃d,e= .returned d∧A c d b))
  (D:Hid (∀c d b,A c d b->Below (w.heap.size+2) ((w.alloc (.cells #[.slice q n cap,.slice ao m a] 30)).alloc (.cells #[.slice none 0 0,.slice none 0 0] 30)) b∧Calls prog 36 #[.pointer (qK c 0),d] b (ji b RS l o))):
  Calls prog 11 #[.agg #[.slice q n cap,.slice ao m a],qJ off,.slice tx x y] w (ji w RS l o):=by
 have I:=qG (((qO w.heap.size w).alloc lR (.cells #[.slice q n cap,.slice ao m a] 30)).alloc (by simp) (.cells #[.slice none 0 0,.slice none 0 0] 30))
 have r:=qG (show((w.alloc (.cells #[.slice q n cap,.slice ao m a] 30)).alloc (.cells #[.slice none 0 0,.slice none 0 0] 30)).heap[w.heap.size+1]? =some (.cells #[.slice none 0 0,.slice none 0 0] 30 (0,0))by
  have:=xg (w.alloc (.cells #[.slice q n cap,.slice ao m a] 30)) (.cells #[.slice none 0 0,.slice none 0 0] 30)
  rw [show(w.alloc (.cells #[.slice q n cap,.slice ao m a] 30)).heap.size=w.heap.size+1 by simp]at this;exact this)
 go_enter func11,ntmps11;go_wp2_with fail;generalize (w.alloc (.cells #[.slice q n cap,.slice ao m a] 30)).alloc (.cells #[.slice none 0 0,.slice none 0 0] 30)=O at *
 refine B.mono ?_;rintro e w1 ⟨c,rfl,E⟩;have s:=qG (C c w1 E);clear B C E;go_wp2_with fail;refine s.mono ?_;rintro e b ⟨d,rfl,F⟩;have h:=qG (D c d b F);clear s D F;go_wp2_with fail;refine h.2.mono ?_;rintro e f ⟨Z,aa,rfl,p,hi,G,H⟩;have J:=qG H;clear H;obtain⟨R,S,rfl⟩:=zi p;obtain⟨T,U,rfl⟩:=zb hi;have t:=qG p;have u:=qG hi;have V:=h.1.size;have W:w.heap.size+1<O.heap.size:=(xO.1 r).1;have i:=h.1.trans (G.mono (by omega));have g:=(i.block (w.heap.size+1) (by omega)).trans r;have K:f.cell? ⟨w.heap.size+1,0,none⟩=some (.slice none 0 0):=by rw [qP f _ 0 _ _ _ g];rfl
 have L:f.cell? ⟨w.heap.size+1,1,none⟩=some (.slice none 0 0):=by rw [qP f _ 1 _ _ _ g];rfl
 have X:=xp f (w.heap.size+1) 0 _ _ g;have Y:=xp f (w.heap.size+1) 1 _ _ g;have M:=qG (I.trans (i.mono (by omega)));clear h G g p hi i;generalize RS.length=P at *
 generalize l.length=Q at *
 go_wp2;refine xr (v:=.tuple #[.agg #[.slice R P S,.slice T Q U],qJ o]) (by simp [results,results11,go_sem,K,L]) rfl ⟨_,_,rfl,?_,?_,?_,J⟩
 ·exact zA (zD t (by omega)) (fun k j=>by have N:=t.lt k j;rw [xo _ _ _ _ (by simp;omega),xo _ _ _ _ (by simp;omega)];try rfl)
 ·exact zA (zD u (by omega)) (fun k j=>by have N:=u.lt k j;rw [xo _ _ _ _ (by simp;omega),xo _ _ _ _ (by simp;omega)];try rfl)
 exact(M.setCell (by simp) _).setCell (by simp) _
theorem zAp {w:World} {b o:Nat} {ts:List Int} (d:At32 w b o ts):∀j v,(ints .i32 ts)[j]? =some v->w.cell? ((⟨b,o,none⟩:Addr).add j)=some v:=by
 intro j v a;unfold ints at a;rw [xU]at a;cases hj:ts[j]? with
 | none=>rw [hj]at a;cases a
 | some z=>
  rw [hj]at a;have c:=(xA.1 hj).1;have:=d j c;rw [q9,hj]at this;simp only [kV,xz]at a;subst a;rw [zP];exact this
theorem implPI (B:Nat) (zs ts:List Int) (b o cap:Nat) (v:Value) (xs:List It) (off:Int) (u E K:Nat) (w:World) (L:At32 w b o zs) (M:b<w.heap.size) (Z:zs.length<=1048576) (aa:zs.length<=cap) (ab:cap<=maxLen) (N:RdI B w v xs) (ac:B<=w.heap.size) (ad:xs.length<=1048576) (ht:At32 w u E ts) (ae:u<w.heap.size) (al:ts.length<=1048576) (O:w.cell? ⟨0,0,none⟩=some (.iface 184 (.agg #[.pointer (qK 1 67)]))) (F:piC zs xs off ts=0) (am:0<ts.length):
  Calls prog 11 #[.agg #[.slice (qK b o) zs.length cap,v],qJ off,.slice (qK u E) ts.length K] w (ji w (piS zs xs off ts) (piI zs xs off ts) (piC zs xs off ts)):=by
 obtain⟨ao,m,rfl⟩:=N.val;have Q:0<w.heap.size:=xQ w _ O;have q:=((qO w.heap.size w).alloc lR (.cells #[.slice (qK b o) zs.length cap,.slice ao xs.length m] 30)).alloc (by simp) (.cells #[.slice none 0 0,.slice none 0 0] 30);have z:((w.alloc (.cells #[.slice (qK b o) zs.length cap,.slice ao xs.length m] 30)).alloc (.cells #[.slice none 0 0,.slice none 0 0] 30)).heap.size=w.heap.size+2:=by simp
 have A:=Js B zs b o cap _ xs _ (L.below q M) (by omega) Z aa ab (N.below q ac) (by omega) ad;have ak:=(q.cell (p:=⟨0,0,none⟩) Q).trans O;have R:=L.below q M;have S:=ht.below q ae;cases hT:pRead zs xs with
 | none=>
  rw [hT]at A;have r:piT zs xs off ts=none:=(by unfold piT;rw [hT]);have j:piC zs xs off ts=1:=(by unfold piC;rw [hT]);exact absurd (j.symm.trans F) (by decide)
 | some T=>
  rw [hT]at A;obtain⟨af,ag,P,an⟩:=Xh hT;have U:=(jJ af).2.1
  have V:∀c a bs w1,((w.alloc (.cells #[.slice (qK b o) zs.length cap,.slice ao xs.length m] 30)).alloc (.cells #[.slice none 0 0,.slice none 0 0] 30)).heap.size<=c->PK w1 c b o zs.length zs.length a->Lies w1 ((w.alloc (.cells #[.slice (qK b o) zs.length cap,.slice ao xs.length m] 30)).alloc (.cells #[.slice none 0 0,.slice none 0 0] 30)).heap.size T a bs->bs.Nodup->c∉bs->Below ((w.alloc (.cells #[.slice (qK b o) zs.length cap,.slice ao xs.length m] 30)).alloc (.cells #[.slice none 0 0,.slice none 0 0] 30)).heap.size ((w.alloc (.cells #[.slice (qK b o) zs.length cap,.slice ao xs.length m] 30)).alloc (.cells #[.slice none 0 0,.slice none 0 0] 30)) w1->PM w1 (w.heap.size+2) c b o zs.length zs T a bs:=by
   intro c a bs w1 f h d s y l;rw [z]at f d l;have x:=l.size;exact⟨h,d,s,y,fun Y=>by have:=(d.lt _ Y).1;omega,by omega,R.below l (by omega),by omega,lR,by unfold maxLen;omega,ag⟩
  generalize H:(w.alloc (.cells #[.slice (qK b o) zs.length cap,.slice ao xs.length m] 30)).alloc (.cells #[.slice none 0 0,.slice none 0 0] 30)=I at *
  by_cases i:0<=off∧off<=T.rns
  ·by_cases n:T.rns+ts.length<=8192∧zs.length+ts.length<=220000
   ·have r:piT zs xs off ts=some (if ts.length=0 then T else insP (zs++ts) zs.length T off):=by unfold piT;rw [hT];exact xd ⟨i,n⟩
    have j:piC zs xs off ts=0:=(by unfold piC;rw [hT];exact(xd i).trans (xd n));rw [show piS zs xs off ts=zs++ts by unfold piS;rw [r];rfl,show piI zs xs off ts=(if ts.length=0 then T else insP (zs++ts) zs.length T off).told 0 by unfold piI;rw [r],j];by_cases G:ts.length=0
    ·exact absurd G (by omega)
    rw [qZ G];have W:T.wp (zs++ts):=P.app ts;refine faceI _ _ _ _ _ _ _ _ _ _ _ _ _ (fun c w1=>∃a bs,PM w1 (w.heap.size+2) c b o zs.length zs T a bs∧T.ok∧Below (w.heap.size+2) I w1∧w.heap.size+2<=c) (fun c J t=>J= .nilIface∧∃g a bs cp,PM t (w.heap.size+2) c g 0 cp (zs++ts) (insP (zs++ts) zs.length T off) a bs∧(insP (zs++ts) zs.length T off).ok∧Below (w.heap.size+2) I t) w (qG ?_) (qG ?_) (qG ?_)
    ·rw [H]
     refine A.mono ?_;rintro e w1 ⟨c,a,bs,rfl,f,h,d,s,y,l,x⟩;exact⟨c,rfl,a,bs,V c a bs w1 f h d s y x,l,z▸x,z▸f⟩
    ·rintro c w1 ⟨a,bs,f,h,d,s⟩
     have y:=d.size;refine(insTextI zs ts T a bs _ c b o K off ⟨u,E,none⟩ w1 f h U P i (by omega) (by omega) n.1 n.2 (by show u<_;omega) (zAp (S.below d (by omega)))).mono ?_;rintro e t ⟨rfl,ah,ai,g,cp,l,x,aj⟩;have X:=f.t;refine⟨_,rfl,rfl,g,ah,ai,cp,l,zA4 h W i.1 i.2 (by rw [qM];omega) (by rw [qM];omega) (by rw [qM];omega),d.trans (aj.below (by omega) (fun k C=>?_))⟩;rcases xC.1 C with rfl | C
     ·exact s
     exact(X.lt k C).1
    rintro c J t ⟨rfl,g,a,bs,cp,f,h,d⟩;rw [H];exact⟨d,ansOk _ _ a bs _ c g 0 cp t f h⟩
   have r:piT zs xs off ts=none:=(by unfold piT;rw [hT];exact qZ (fun D=>n D.2));have j:piC zs xs off ts=10:=(by unfold piC;rw [hT];exact(xd i).trans (qZ n));exact absurd (j.symm.trans F) (by decide)
  have r:piT zs xs off ts=none:=(by unfold piT;rw [hT];exact qZ (fun D=>i D.1));have j:piC zs xs off ts=2:=(by unfold piC;rw [hT];exact qZ i);exact absurd (j.symm.trans F) (by decide)
end Go.Proofs.YtmjanhcplcalfaaGreatDoor
namespace Go.Proofs.YtmjanhcplcalfaaGreatDoor
open Go Go.RowKit Go.Shelf Go.Sort Go.Proofs.Tryz
def Xp (w:World) (base c b o cap:Nat) (S:List Int) (T:AT) (bs:List Nat) (w':World):Prop:=
 ∃d a,PM w' base c b o cap S T d a∧(∀x∈a,x∈bs∨w.heap.size<=x)∧Chg (c::bs) w w'
theorem healN (S:List Int) (T:AT) (m:Option Addr) (bs:List Nat) (base c b o cap R:Nat) (w:World) (g:PM w base c b o cap S T m bs) (k:T.ok) (ab:T.bal) (y:T.wp S) (c7:R<=8192):
  Calls prog 178 #[.pointer (qK c 0),qJ (R:Int)] w fun e w'=>e= .returned (.tuple #[])∧Xp w base c b o cap S (healP S T R) bs w':=by
 have az:=g.k.c1;have cp:=k.bd;have a0:=qG (allN T m bs base w g.t);have E:=qG (fun w=>yg (R:Int) 1 ((T.its:Int) - 1) w);have h:=qG g;have cq:=qG k;have cr:=qG ab;have cs:=qG y;have ct:=g.k.lt;have wi:IntKind.i64.wrap ((T.its:Int) - 1)=(T.its:Int) - 1:=i64w _ (by omega) (by omega);have wr:IntKind.i64.wrap ((R:Int) - 1)=(R:Int) - 1:=i64w _ (by omega) (by omega);have cu:=qG (zBg (R:=R) k y g.n);have G:=qG (show healP S T R=if healB T R=true then(T.put (R - 1) (pcAt S (ahead T R).off ((ahead T R).len+(atP T R).len))).rem R else T from rfl);generalize healP S T R=ar at *
 by_cases C:0<R∧R<T.its
 ·rw [show decide ((1:Int)<=(R:Int)∧(R:Int)<=(T.its:Int) - 1)=true by rw [qU];omega]at E
  have z:=yH (T:=T) (R:=R) C.1 (by omega);have N:=J2 (T:=T) (R:=R) C.2;have b7:=k.1 _ (qT z);have b8:=k.1 _ (qT N);simp only [pcOk,qU]at b7 b8;have ae:(((R - 1:Nat)):Int)=(R:Int) - 1:=(by omega);have af:=qG (fun a (I:Below w.heap.size w a)=>zAf T m bs base c b o S.length cap (R - 1) (ahead T R) a (g.k.below I g.k.lt) (g.t.below I lR) k z);have a1:=qG (fun a (I:Below w.heap.size w a)=>zAf T m bs base c b o S.length cap R (atP T R) a (g.k.below I g.k.lt) (g.t.below I lR) k N);rw [ae]at af;have a2:=qG (fun a=>meetsN (ahead T R) (atP T R) a (by omega));have O:=qG (show healB T R=decide ((ahead T R).off+(ahead T R).len=(atP T R).off)by simp only [healB];congr 1;simp only [C,kt]);have a3:=qG (fun a=>withN (ahead T R) (atP T R) a (by omega) (by omega));have a4:=(zR S T).1 y _ (qT z);have a5:=(zR S T).1 y _ (qT N)
  have P:=qG (fun(t:(ahead T R).off+(ahead T R).len=(atP T R).off)=>show(⟨(ahead T R).off,(ahead T R).len+(atP T R).len,(ahead T R).brk+(atP T R).brk⟩:Pc)=pcAt S (ahead T R).off ((ahead T R).len+(atP T R).len)by
   rw [<- Kb a4 t (by omega)]
   rw [show(atP T R).brk=brk ((S.drop (atP T R).off.toNat).take (atP T R).len.toNat)from a5.2.2.2])
  have a6:=qG (fun Z=>zEa (S:=S) (R:=R) k y g.n Z (by omega));have Q:=qG (fun(a:World) (e:Pc) (au:(T.put (R - 1) e).okw) (u:Lies a base T m bs)=>Kf T (R - 1) e m bs base a k.w au (by omega) u g.nd);rw [ae]at Q;have ag:=qG (fun(a:World) (e:Pc) (au:(T.put (R - 1) e).okw) (u:Lies a base (T.put (R - 1) e) m bs)=>zBh (T.put (R - 1) e) R m bs base a (AT.qk _ _ _ ab) au (by rw [AT.qi];exact C.2) u g.nd)
  have a7:=qG (fun e=>show(T.put (R - 1) e).rns=T.rns - (ahead T R).len+e.len by
   rw [AT.qe,AT.qe,yd T (R - 1) e _ z,zK,zJ];have b9:=(zW z).1
   have:lsum T.flat=lsum (T.flat.take (R - 1))+((ahead T R).len+lsum (T.flat.drop (R - 1+1))):=by
    conv=>lhs;rw [b9]
    rw [zK,zJ]
   omega)
  generalize healB T R=Z at *
  generalize ahead T R=p at *
  generalize atP T R=q at *
  have ah:=qG (fun(cm:Z=true) (t:p.off+p.len=q.off)=>show(T.put (R - 1) ⟨p.off,p.len+q.len,p.brk+q.brk⟩).okw from⟨by rw [P.out t];exact a6 cm,by rw [a7.out];simp only;omega⟩);clear g k ab y z N ae a4 a5 a6 a7;generalize aq:T.its=cl at *
  clear aq;go_enter func178,ntmps178;go_wp2_with fail;refine a0.mono ?_;rintro e w1 ⟨rfl,D⟩;have A:=qG D;have ca:=D.size;have cb:=Tryz.fld0;unfold cnt;clear D az;go_wp2_with fail;refine(E _).mono ?_;rintro e wx ⟨rfl,av⟩;have ai:=av.symm;subst ai;clear E;go_wp2_with fail;refine(af _ A).mono ?_;rintro e c8 ⟨rfl,aw⟩;have U:=qG (A.trans (aw.mono ca));have cv:=aw.size;clear aw af;go_wp2_with fail;refine(a1 _ U).mono ?_;rintro e l ⟨rfl,ax⟩;have V:=qG (U.trans (ax.mono U.size));have cw:=ax.size;clear ax a1;have aj:=qG ((V.alloc V.size (.cells #[qJ p.off,qJ p.len,qJ p.brk] 63)).alloc (by have:=V.size;simp;omega) (.cells #[qJ q.off,qJ q.len,qJ q.brk] 63))
  have W:=qG (show((l.alloc (.cells #[qJ p.off,qJ p.len,qJ p.brk] 63)).alloc (.cells #[qJ q.off,qJ q.len,qJ q.brk] 63)).heap[l.heap.size]? =some (.cells #[qJ p.off,qJ p.len,qJ p.brk] 63 (0,0))by
   rw [vV _ _ _ (by simp)];exact xg _ _)
  have X:=qG (show((l.alloc (.cells #[qJ p.off,qJ p.len,qJ p.brk] 63)).alloc (.cells #[qJ q.off,qJ q.len,qJ q.brk] 63)).heap[l.heap.size+1]? =some (.cells #[qJ q.off,qJ q.len,qJ q.brk] 63 (0,0))by
   have:=xg (l.alloc (.cells #[qJ p.off,qJ p.len,qJ p.brk] 63)) (.cells #[qJ q.off,qJ q.len,qJ q.brk] 63)
   rw [show(l.alloc (.cells #[qJ p.off,qJ p.len,qJ p.brk] 63)).heap.size=l.heap.size+1 by simp]at this;exact this)
  have cx:l.heap.size+2<=((l.alloc (.cells #[qJ p.off,qJ p.len,qJ p.brk] 63)).alloc (.cells #[qJ q.off,qJ q.len,qJ q.brk] 63)).heap.size:=(by simp);go_upto_region 2 with fail;generalize (l.alloc (.cells #[qJ p.off,qJ p.len,qJ p.brk] 63)).alloc (.cells #[qJ q.off,qJ q.len,qJ q.brk] 63)=j at *
  generalize l.heap.size=fb at *
  have a8:j.cell? ⟨fb,0,none⟩=some (qJ p.off):=(by rw [qP j _ 0 _ _ _ W.out];rfl);have a9:j.cell? ⟨fb,1,none⟩=some (qJ p.len):=(by rw [qP j _ 1 _ _ _ W.out];rfl);have ba:j.cell? ⟨fb,2,none⟩=some (qJ p.brk):=(by rw [qP j _ 2 _ _ _ W.out];rfl);have bc:j.cell? ⟨fb+1,0,none⟩=some (qJ q.off):=(by rw [qP j _ 0 _ _ _ X.out];rfl);have bd:j.cell? ⟨fb+1,1,none⟩=some (qJ q.len):=(by rw [qP j _ 1 _ _ _ X.out];rfl);have be:j.cell? ⟨fb+1,2,none⟩=some (qJ q.brk):=(by rw [qP j _ 2 _ _ _ X.out];rfl);clear A U V;go_wp2_with fail;refine(a2 _).mono ?_;rintro e ac ⟨rfl,s⟩;have cy:=s.size;have Y:=qG (aj.trans (s.mono aj.size));have P5:=qG (h.below Y);have bf:=P5.k.c1;have bg:=(s.cell (p:=⟨fb,0,none⟩) (by show fb<_;omega)).trans a8;have ak:=(s.cell (p:=⟨fb,1,none⟩) (by show fb<_;omega)).trans a9;have bh:=(s.cell (p:=⟨fb,2,none⟩) (by show fb<_;omega)).trans ba;have bi:=(s.cell (p:=⟨fb+1,0,none⟩) (by show fb+1<_;omega)).trans bc;have bj:=(s.cell (p:=⟨fb+1,1,none⟩) (by show fb+1<_;omega)).trans bd;have bk:=(s.cell (p:=⟨fb+1,2,none⟩) (by show fb+1<_;omega)).trans be;have bl:=fun d os=>cell_regrown bg d os
  have bm:=fun d os=>cell_regrown ak d os
  have bn:=fun d os=>cell_regrown bh d os
  have bo:=fun d os=>cell_regrown bi d os
  have bp:=fun d os=>cell_regrown bj d os
  have bq:=fun d os=>cell_regrown bk d os
  have br:=fun d os=>cell_regrown bf d os
  clear s a8 a9 ba bc bd be bg ak bh bi bj bk bf W X aj a2;rw [<- O.out];cases hbc:Z with
  | true=>
   have t:p.off+p.len=q.off:=(by have f:=O;rw [hbc]at f;simpa using f.symm);have bt:=qG (ah hbc t);have H:=qG (show ar=(T.put (R - 1) ⟨p.off,p.len+q.len,p.brk+q.brk⟩).rem R by rw [G.out,xd hbc,P.out t]);have al:=qG (fun a u=>Q a ⟨p.off,p.len+q.len,p.brk+q.brk⟩ bt u);have am:=qG (fun a u=>ag a ⟨p.off,p.len+q.len,p.brk+q.brk⟩ bt u);rw [<- H.out]at am;have an:=qG (fun d os=>CallsIn.regrown_of (F:=Fence.wide) (r:=5) (w:=ac) (d:=d) (os:=os) (xf.2 (a3 (grow (redrawn ac d) os))));simp only at al;generalize T.put (R - 1) ⟨p.off,p.len+q.len,p.brk+q.brk⟩=c5 at *
   clear t hbc ah P Q ag O G;go_upto_region 3 with fail;refine(kD (n:=6)).1 ?_;refine yR 9 (by kernel_rfl) (by kernel_rfl) ?_;simp only [vQ,kn,vU,vH]
   repeat (refine wpQuietIn_step (fun _ _ _ _=>trivial) (fun b0 aa=>?_);go_simp;first | (refine aa _ ?_;clear aa b0) | (apply Exists.intro;refine⟨fun _=>?_,aa _ ?_⟩;(first | exact⟨xn,an _ _⟩ | exact an _ _);clear aa b0))
   refine wpQuietIn_nil ?_;intro _ ck;obtain⟨⟨b1,b2⟩,cn⟩:=ck;subst cn;have bu:=qG (below_regrown ac b1 b2);clear bl bm bn bo bp bq br an;generalize grow (redrawn ac b1) b2=c6 at *
   have B:=qG (P5.below bu);have bv:=qG (Y.trans (bu.mono Y.size));have cz:=bv.size;clear P5;gi_wp2_with fail;refine⟨xn,(xf.2 (al _ B.t)).mono ?_⟩;rintro e co ⟨rfl,b3,K⟩;have bw:=qG (B.k.chg K B.cb);have cc:=qG (B.rt.chg K B.lb B.bb);have cd:=qG (show Chg (c::bs) w co from(Chg.qa (bs:=c::bs) bv).trans K (fun _ f _=>f) (fun _ f _=>vF _ f));have c0:=K.size;have ce:=bw.c1;have bx:=qG (am _ b3);clear b3 K al am;gi_wp2_with fail;go_wp2_with fail;refine bx.mono ?_;rintro e ay ⟨u9,ad,rfl,b4,b5,b6,L⟩;have c1:=L.size;have c2:=h.k.lt;have c3:=h.lb;have ao:=qG (show ∀x∈ad,x∈bs∨w.heap.size<=x from fun x J=>(b6 x J).imp id (fun f=>by omega))
   have bz:c∉ad:=fun f=>by
    rcases ao c f with M | M
    ·exact h.cb M
    omega
   have cf:b∉ad:=fun f=>by
    rcases ao b f with M | M
    ·exact h.bb M
    omega
   have ap:=qG (bw.chg L h.cb);have cg:=qG (cc.chg L (by omega) h.bb);have ch:=qG (show Chg (c::bs) w ay from cd.trans L (fun _ f _=>f) (fun _ f _=>vF _ f));have ci:=qG b4;have cj:=qG b5;have ak:=ap.c1;have c4:=ap.fz 1;clear b4 b5 b6 L bx ce;go_wp2;refine kO (v:=.tuple #[]) (by simp [results,results178]) rfl ⟨rfl,u9,ad,⟨ap.set1 u9,ci.other ⟨c,1,none⟩ (.pointer u9) bz,cj,bz,cf,h.bc,fun i hi=>by rw [<- cg.out i hi];unfold World.cell?;rw [xm ay ⟨c,1,none⟩ b _ h.out.bc],xq (show b<ay.heap.size by omega) (kM (by simp)),h.cap1,h.cap2,h.n⟩,ao,ch.setCell ⟨c,1,none⟩ (.pointer u9) (.inl (by simp))⟩
  | false=>
   have H:=qG (show ar=T by rw [G.out,qZ (by rw [hbc];simp)]);clear hbc ah P Q ag O G a3 bl bm bn bo bp bq br;go_wp2;refine kO (v:=.tuple #[]) (by simp [results,results178]) rfl ⟨rfl,m,bs,?_,fun x J=>.inl J,Chg.qa Y⟩;rw [H.out];exact P5
 have H:=qG (show ar=T by
  rw [G.out,qZ];simp only [healB,qU]
  exact fun f=>C f.1)
 rw [show decide ((1:Int)<=(R:Int)∧(R:Int)<=(T.its:Int) - 1)=false by rw [vC];omega]at E;clear g k ab y C;generalize aq:T.its=cl at *
 clear aq;go_enter func178,ntmps178;go_wp2_with fail;refine a0.mono ?_;rintro e w1 ⟨rfl,D⟩;have A:=qG D;have cb:=Tryz.fld0;unfold cnt;clear D az;go_wp2_with fail;refine(E _).mono ?_;rintro e wx ⟨rfl,av⟩;have ai:=av.symm;subst ai;go_wp2;refine xr (v:=.tuple #[]) (by simp [results,results178]) rfl ⟨rfl,m,bs,?_,fun x J=>.inl J,Chg.qa A⟩;rw [H.out];exact h.below A
end Go.Proofs.YtmjanhcplcalfaaGreatDoor

import Derived.Test.YtmjanhcplcalfaaGreatDoorMq13
import Derived.Test.YtmjanhcplcalfaaGreatDoorMq11
set_option linter.all false
set_option maxRecDepth 100000
set_option maxHeartbeats 8000000
namespace Go.Proofs.YtmjanhcplcalfaaGreatDoor
open Go Go.RowKit Go.Proofs.Tryz
theorem zAq:∀ (m:Nat) (A:AT) (e:Pc) (B:AT) (j k:Option Addr) (c bb:List Nat) (base:Nat) (w:World),A.its+B.its<m->A.bal->B.bal->(AT.node A e B).ok->Lies w base A j c->Lies w base B k bb->(c++bb).Nodup->base<=w.heap.size->
  Calls prog 185 #[.pointer j,pcV e,.pointer k] w (MutPost base (AT.spl A e B) (c++bb) w):=by
 intro m
 induction m with
 | zero=>
  intro A e B j k c bb base w d;omega
 | succ m bu=>
  intro A e B j k c bb base w d bi bj ah a0 a1 bk cv;have ce:=ah.left.bd;have cf:=ah.right.bd;have cg:(A.ht:Int)<=8192:=(by have:=zk A;omega);have ch:(B.ht:Int)<=8192:=(by have:=zk B;omega);have a6:=a0.lt;have a7:=a1.lt;have ak:=qG ((qO w.heap.size w).alloc lR (.cells #[qJ e.off,qJ e.len,qJ e.brk] 63));have al:(w.alloc (.cells #[qJ e.off,qJ e.len,qJ e.brk] 63)).heap[w.heap.size]? =some (.cells #[qJ e.off,qJ e.len,qJ e.brk] 63 (0,0)):=xg _ _;have ci:(w.alloc (.cells #[qJ e.off,qJ e.len,qJ e.brk] 63)).heap.size=w.heap.size+1:=(by simp);have C:=qG (a0.below ak lR);have D:=qG (a1.below ak lR);have am:=qG (Chg.qa (bs:=c++bb) ak);have an:=qG bk;have L:=qG ah;have bv:=qG a6;have bw:=qG a7;have E:=qG (And.intro bi bj);have M:=qG bu;generalize bo:AT.spl A e B=a3;have F:=qG bo;clear a0 a1 bk ah a6 a7 bi bj bu bo;unfold pcV;go_enter func185,ntmps185;go_wp2_with fail;generalize w.alloc (.cells #[qJ e.off,qJ e.len,qJ e.brk] 63)=n at *
  have cj:n.cell? ⟨w.heap.size,0,none⟩=some (qJ e.off):=(by rw [qP n _ 0 _ _ _ al];rfl);have ck:n.cell? ⟨w.heap.size,1,none⟩=some (qJ e.len):=(by rw [qP n _ 1 _ _ _ al];rfl);have k2:n.cell? ⟨w.heap.size,2,none⟩=some (qJ e.brk):=(by rw [qP n _ 2 _ _ _ al];rfl);have cl:w.heap.size<n.heap.size:=(by omega);refine(jv A j c base n C).mono ?_;rintro cx w1 ⟨rfl,rfl⟩;go_wp2_with fail;refine(jv B k bb base _ D).mono ?_;rintro cy Y ⟨rfl,rfl⟩;by_cases hgt:A.ht > B.ht+1
  ·have bx:(A.ht:Int) > B.ht+1:=by omega
   cases A with
   | nil=>simp [AT.ht]at hgt
   | node l p r=>
    obtain⟨b,ai,aj,bl,br,rfl,a5,i,t,u,rfl⟩:=C
    have N:Hid (a3=AT.rep l p (AT.spl r e B)):=by
     rw [<- F.out,AT.spl_gt _ _ _ _ _ hgt];exact rfl
    obtain⟨Z,aa,cc,cd⟩:=AT.qz E.1;have bz:=AT.spl_bal r e B aa E.2;have b0:(AT.node l p r).ht=1+max l.ht r.ht:=rfl
    have O:(AT.node r e B).ok:=L.sub (by
     simp only [AT.flat,xj,xv]
     exact((List.Sublist.refl _).cons p).trans (List.sublist_append_right _ _))
    have P:(AT.node l p (AT.spl r e B)).ok:=L.of_flat (by simp only [AT.flat,AT.spl_flat,xj,xv]);have Q:=an;simp only [xv,vd,xj]at Q;obtain⟨nb,h⟩:=Q;have q:(br++bb).Nodup:=(xG.1 h).2.1;have a8:bl.Nodup:=(xG.1 h).1;have a9:∀x∈bl,x∉br++bb:=fun x f d=>(xG.1 h).2.2 x f x d rfl
    have R:b∉br++bb:=fun d=>nb (vo _ d)
    have S:b∉bl:=fun d=>nb (vB _ d)
    have T:=qG (fun(X:World) (s:X.heap=Y.heap)=>M r e B aj k br bb base X (by have:(AT.node l p r).its=l.its+1+r.its:=rfl;omega) aa E.2 O (u.heap s) (D.heap s) q (by rw [s];omega));have g:=qG (And.intro R (And.intro S (And.intro q (And.intro a8 a9))));have ao:=qG P;have ap:=qG i;have b1:=qG t;have cm:=i.c4;have lb:=i.lt
    have aq:=qG (show ∀x∈b::(bl++(br++bb)),x<Y.heap.size from fun x f=>by
     simp only [xC,xb]at f;rcases f with a | a | a | a
     ·omega
     ·exact(t.lt x a).2
     ·exact(u.lt x a).2
     exact(D.lt x a).2)
    clear i t u Z aa O P nb h q a8 a9 R S F M;have b2:decide ((B.ht:Int)+1<1+((max l.ht r.ht:Nat):Int))=true:=(by simp;omega);go_upto_region 2 with fail;go_cut [] (fun wc=>CutR base b Y.heap.size l p (AT.spl r e B) ai bl (br++bb) (b::(br++bb)) (1+max (l.ht:Int) r.ht) (l.its+1+r.its) (l.rns+p.len+r.rns) (l.bks+p.brk+r.bks) Y wc)
    case first=>
     unfold pcV at T;go_region_with (go_at_call 185;refine(T _ (by exact rfl)).mono ?_;intro b8 b9 bm;obtain⟨u3,H,rfl,ab,I,ac,v⟩:=bm.drawn (w:=Y) rfl rfl rfl rfl;have af:=qG (ap.chg v g.1);have b3:=qG ab;have b4:=qG (b1.chg v g.2.2.2.2);have ar:=qG I;have ba:=qG ac;have au:=qG v;have cn:=af.c4;have co:=af.fz 4;have cp:=af.lt;clear bm ab I ac v)
     all_goals (
      go_wp2_with fail;go_meet
      have U:(b::(bl++H)).Nodup:=Yl (bl:=bl) (br:=br++bb) (by
       rw [vd,xG]
       exact⟨fun d=>(xb.1 d).elim g.2.1 g.1,g.2.2.2.1,g.2.2.1,fun x f y a4 e=>g.2.2.2.2 x f (e▸a4)⟩) aq ar ba
      have av:b∉H:=fun d=>(vd.1 U).1 (vo _ d)
      exact⟨u3,H,(af.set4 u3).heap rfl,(b3.other ⟨b,4,none⟩ (.pointer u3) av).heap rfl,(b4.other ⟨b,4,none⟩ (.pointer u3) g.2.1).heap rfl,U,ba,((au.trans (Chg.refl [] _) (fun x a _=>by simp at a |-;exact .inr a) (fun x a _=>by simp at a) (ds:=b::(br++bb))).setCell ⟨b,4,none⟩ (.pointer u3) (.inl (by simp))).drawn rfl rfl rfl rfl⟩)
    obtain⟨u3,H,bp,ab,bq,I,ac,v⟩:=hcut;have bc:=qG (XL l p (AT.spl r e B) b ai u3 bl H base _ _ _ _ wc bp bq ab a5 I ao (by omega) (by omega));have au:=qG (am.trans v (fun _ a _=>a) (fun x a _=>by simp at a |-;rcases a with a | a | a<;>simp [a]) (ds:=(b::(bl++br))++bb))
    have aw:=qG (show ∀x∈b::(bl++H),x∈(b::(bl++br))++bb∨w.heap.size<=x from fun x f=>by
     simp only [xC,xb]at f |-;rcases f with a | a | a
     ·exact .inl (.inl (.inl a))
     ·exact .inl (.inl (.inr (.inl a)))
     rcases ac x a with a | a
     ·simp only [xb]at a
      rcases a with a | a
      ·exact .inl (.inl (.inr (.inr a)))
      exact .inl (.inr a)
     exact .inr (by omega))
    have ar:=qG I;clear bp ab bq I ac v;go_wp2_with fail;refine bc.mono ?_;intro e G W;have ax:=qG (ZU au aw ar W);obtain⟨u4,cz,rfl,_⟩:=W;clear bc;go_wp2;go_ret;rw [N.out];exact ax
  have bx:¬ (A.ht:Int) > B.ht+1:=(by omega);go_wp2_with fail;refine(jv B k bb base _ D).mono ?_;rintro b8 b9 ⟨rfl,rfl⟩;go_wp2_with fail;refine(jv A j c base _ C).mono ?_;rintro c0 G ⟨rfl,rfl⟩;by_cases a2:B.ht > A.ht+1
  ·have b5:(B.ht:Int) > A.ht+1:=by omega
   cases B with
   | nil=>simp [AT.ht]at a2
   | node l p r=>
    obtain⟨b,ai,aj,bl,br,rfl,a5,i,t,u,rfl⟩:=D
    have N:Hid (a3=AT.rep (AT.spl A e l) p r):=by
     rw [<- F.out,AT.spl_lt _ _ _ _ _ hgt a2];exact rfl
    obtain⟨Z,aa,cc,cd⟩:=AT.qz E.2;have bz:=AT.spl_bal A e l E.1 Z;have b0:(AT.node l p r).ht=1+max l.ht r.ht:=rfl
    have O:(AT.node A e l).ok:=L.sub (by
     simp only [AT.flat]
     exact((List.sublist_append_left _ _).cons_cons e).append_left _)
    have P:(AT.node (AT.spl A e l) p r).ok:=L.of_flat (by simp only [AT.flat,AT.spl_flat,xj,xv]);have Q:=an;have bd:(b::(c++(bl++br))).Nodup:=List.perm_middle.nodup_iff.1 Q;simp only [vd]at bd;obtain⟨nb,h⟩:=bd;rw [<- xj]at nb h;have q:(c++bl).Nodup:=(xG.1 h).1;have be:br.Nodup:=(xG.1 h).2.1;have bf:∀x∈br,x∉c++bl:=fun x f d=>(xG.1 h).2.2 x d x f rfl
    have R:b∉c++bl:=fun d=>nb (vB _ d)
    have S:b∉br:=fun d=>nb (vo _ d)
    have T:=qG (fun(X:World) (s:X.heap=G.heap)=>M A e l j ai c bl base X (by have:(AT.node l p r).its=l.its+1+r.its:=rfl;omega) E.1 Z O (C.heap s) (t.heap s) q (by rw [s];omega));have g:=qG (And.intro R (And.intro S (And.intro q (And.intro be bf))));have ao:=qG P;have ap:=qG i;have b6:=qG u;have cq:=i.c3;have lb:=i.lt
    have aq:=qG (show ∀x∈b::((c++bl)++br),x<G.heap.size from fun x f=>by
     simp only [xC,xb]at f;rcases f with a | (a | a) | a
     ·omega
     ·exact(C.lt x a).2
     ·exact(t.lt x a).2
     exact(u.lt x a).2)
    clear i t u Z aa O P nb h q be bf R S F M Q;have b2:decide ((A.ht:Int)+1<1+((max l.ht r.ht:Nat):Int))=true:=(by simp;omega);have cr:decide (1+((max l.ht r.ht:Nat):Int)+1<(A.ht:Int))=false:=(by simp;omega);go_upto_region 5 with fail;go_cut [] (fun wc=>CutL base b G.heap.size r p (AT.spl A e l) aj br (c++bl) (b::(c++bl)) (1+max (l.ht:Int) r.ht) (l.its+1+r.its) (l.rns+p.len+r.rns) (l.bks+p.brk+r.bks) G wc)
    case first=>
     unfold pcV at T;go_region_with (go_at_call 185;refine(T _ (by exact rfl)).mono ?_;intro ca cb bn;obtain⟨u5,J,rfl,o,K,ad,z⟩:=bn.drawn (w:=G) rfl rfl rfl rfl;have ag:=qG (ap.chg z g.1);have ay:=qG o;have b7:=qG (b6.chg z g.2.2.2.2);have az:=qG K;have bg:=qG ad;have V:=qG z;have cs:=ag.c3;have ct:=ag.fz 3;have cu:=ag.lt;clear bn o K ad z)
     all_goals (
      go_wp2_with fail;go_meet
      have U:(b::(J++br)).Nodup:=zA8 (bl:=c++bl) (br:=br) (by
       rw [vd,xG]
       exact⟨fun d=>(xb.1 d).elim g.1 g.2.1,g.2.2.1,g.2.2.2.1,fun x f y a4 e=>g.2.2.2.2 y a4 (e▸f)⟩) aq az bg
      have av:b∉J:=fun d=>(vd.1 U).1 (vB _ d)
      exact⟨u5,J,(ag.set3 u5).heap rfl,(ay.other ⟨b,3,none⟩ (.pointer u5) av).heap rfl,(b7.other ⟨b,3,none⟩ (.pointer u5) g.2.1).heap rfl,U,bg,((V.trans (Chg.refl [] _) (fun x a _=>by simp at a |-;exact .inr a) (fun x a _=>by simp at a) (ds:=b::(c++bl))).setCell ⟨b,3,none⟩ (.pointer u5) (.inl (by simp))).drawn rfl rfl rfl rfl⟩)
    obtain⟨u5,J,ae,o,bt,K,ad,z⟩:=hcut;have bh:=qG (XL (AT.spl A e l) p r b u5 aj J br base _ _ _ _ wc ae o bt a5 K ao (by omega) (by omega));have V:=qG (am.trans z (fun _ a _=>a) (fun x a _=>by simp at a |-;rcases a with a | a | a<;>simp [a]) (ds:=c++(b::(bl++br))))
    have aw:=qG (show ∀x∈b::(J++br),x∈c++(b::(bl++br))∨w.heap.size<=x from fun x f=>by
     simp only [xC,xb]at f |-;rcases f with a | a | a
     ·exact .inl (.inr (.inl a))
     ·rcases ad x a with a | a
      ·simp only [xb]at a
       rcases a with a | a
       ·exact .inl (.inl a)
       exact .inl (.inr (.inr (.inl a)))
      exact .inr (by omega)
     exact .inl (.inr (.inr (.inr a))))
    have az:=qG K;clear ae o bt K ad z;go_wp2_with fail;refine bh.mono ?_;intro e cw W;have ax:=qG (ZU V aw az W);obtain⟨u6,c1,rfl,_⟩:=W;clear bh;go_wp2;go_ret;rw [N.out];exact ax
  have b5:¬ (B.ht:Int) > A.ht+1:=by omega
  have N:Hid (a3=AT.node A e B):=by
   rw [<- F.out,AT.spl_eq _ _ _ hgt a2];exact rfl
  clear F M;go_wp2_with fail;refine(zCt A e B j k c bb base _ C D L (by omega)).mono ?_;rintro ca cb ⟨nb,rfl,c2,o,ae⟩;have ay:=qG o;have V:=qG (am.trans (Chg.qa (bs:=c++bb) ae) (fun _ a _=>a) (fun _ a _=>a));clear o ae;go_wp2;go_ret;rw [N.out];refine⟨_,nb::(c++bb),rfl,ay,?_,fun x f=>?_,V⟩
  ·rw [vd]
   refine⟨fun d=>?_,an⟩;rcases xb.1 d with a | a
   ·have:=(bv nb a).2;omega
   have:=(bw nb a).2;omega
  rcases xC.1 f with a | a
  ·exact .inr (by omega)
  exact .inl a
def Km (base:Nat) (X Y:AT) (bs:List Nat) (w:World) (e:Ending) (w':World):Prop:=
 ∃c d a b,e= .returned (.tuple #[.pointer c,.pointer d])∧Lies w' base X c a∧Lies w' base Y d b∧(a++b).Nodup∧(∀x∈a++b,x∈bs∨w.heap.size<=x)∧Chg bs w w'
theorem AT.split_le (l:AT) (p:Pc) (r:AT) (k:Nat) (a:k<=l.its):AT.split (.node l p r) k=((l.split k).1,AT.spl (l.split k).2 p r):=by
 rw [AT.split,xd a]
theorem AT.split_gt (l:AT) (p:Pc) (r:AT) (k:Nat) (a:¬k<=l.its):AT.split (.node l p r) k=(AT.spl l p (r.split (k - l.its - 1)).1,(r.split (k - l.its - 1)).2):=by
 rw [AT.split,qZ a]
theorem splitN:∀ (T:AT) (k:Nat) (W:Option Addr) (bs:List Nat) (base:Nat) (w:World),T.bal->T.ok->k<=T.its->Lies w base T W bs->bs.Nodup->base<=w.heap.size->
  Calls prog 176 #[.pointer W,.int .i64 k] w (Km base (T.split k).1 (T.split k).2 bs w):=by
 intro T
 induction T with
 | nil=>
  intro k W bs base w _ _ b1 Z ai b2;obtain⟨rfl,rfl⟩:=Z;go_enter func176,ntmps176;go_wp2_with fail;go_ret2
  exact⟨none,none,[],[],rfl,⟨rfl,rfl⟩,⟨rfl,rfl⟩,by simp,by simp,Chg.refl _ _⟩
 | node l p r bm bn=>
  intro k W bs base w a9 aj b1 Z ai b2;have av:=Z.lt;obtain⟨b,ak,bj,bl,br,rfl,ce,ab,al,bk,rfl⟩:=Z;obtain⟨bf,bg,cf,cg⟩:=AT.qz a9;have aw:=ai;simp only [vd,xG,xb,not_or]at aw;obtain⟨⟨ba,bc⟩,bd,be,am⟩:=aw
  have ax:∀x∈br,x∉bl:=fun x c h=>am x h x c rfl
  have ay:∀x∈bl,x∉br:=fun x c h=>am x c x h rfl
  have b7:=aj.bd;have b8:(AT.node l p r).its=l.its+1+r.its:=rfl;have M:=ab.c3;have lb:=ab.lt;have az:=qG (allN l ak bl base w al);generalize bh:(AT.node l p r).split k=bi;have N:=qG bh;have a0:=qG al;have a1:=qG bk;have a2:=qG ab;have O:=qG aj;have P:=qG av;have d:=qG (And.intro ba (And.intro bc (And.intro bd (And.intro be (And.intro ax ay)))));have bo:=qG bm;have bp:=qG bn;have z:=qG (And.intro bf bg);have b9:=Tryz.fld0;clear ab al bk bh ai aj av ba bc bd be am ax ay bm bn a9 bf bg;go_enter func176,ntmps176;go_wp2_with fail;refine az.out.mono ?_;rintro e w1 ⟨rfl,B⟩;have ca:=B.size;have Q:=qG (a0.out.below B lR);have R:=qG (a1.out.below B lR)
  have u:=qG (Nd.chg (cs:=[]) a2.out (Chg.qa B) (by simp))
  have S:=qG (Chg.qa (bs:=b::(bl++br)) B);clear B az a0 a1 a2 M;have M:=u.out.c3;have a3:=u.out.c4;have cb:=u.out.lt;unfold cnt
  by_cases aa:k<=l.its
  ·have bq:(k:Int)<=l.its:=by omega
   have ac:Hid (bi=((l.split k).1,AT.spl (l.split k).2 p r)):=by
    rw [<- N.out,AT.split_le _ _ _ _ aa];exact rfl
   have ad:=AT.split_bal l k z.out.1;have C:=AT.split_flat l k aa
   have A:=qG (bo.out k ak bl base w1 z.out.1 O.out.left aa Q.out d.out.2.2.1 (by omega))
   clear N;generalize (l.split k).1=X at *;generalize (l.split k).2=Y at *;go_wp2_with fail;refine A.out.mono ?_
   rintro e H ⟨an,ao,j,m,rfl,I,J,s,t,i⟩
   have bt:=i.size;have f:=qG (u.out.chg i d.out.1);have bu:=qG (R.out.chg i d.out.2.2.2.2.1);have bv:=f.out.c0;have bw:=f.out.c1;have bx:=f.out.c2;have cc:=f.out.c4;have bz:=f.out.lt
   have ae:=qG (S.out.trans i (fun _ a _=>a) (fun x a _=>by simp [a]) (ds:=b::(bl++br)))
   have U:=qG I;have V:=qG J;have v:=qG t;have D:j.Nodup:=(xG.1 s).1
   have E:m.Nodup:=(xG.1 s).2.1
   have F:∀x∈j,x∉m:=fun x c h=>(xG.1 s).2.2 x c x h rfl
   have a4:(m++br).Nodup:=xG.2 ⟨E,d.out.2.2.2.1,fun x c y o e=>by
    subst e
    rcases t x (vo _ c)with a | a
    ·exact d.out.2.2.2.2.1 x o a
    have:=(P.out x (by simp [o])).2;omega⟩
   have a5:∀x∈j,x∉m++br:=fun x c h=>by
    rcases xb.1 h with a | a
    ·exact F x c a
    rcases t x (vB _ c)with g | g
    ·exact d.out.2.2.2.2.1 x a g
    have:=(P.out x (by simp [a])).2;omega
   have af:(AT.node Y p r).ok:=O.out.sub (by
    rw [yB,yB]
    exact List.Sublist.append_right (by rw [C.2];exact List.drop_sublist _ _) _)
   have n:=qG (And.intro D (And.intro a4 a5));have ag:=qG af;clear I J s t i D E F a4 a5 A u Q R S M a3 C
   go_upto_region 6 with fail
   go_region_with (go_at_call 185;refine(zAq _ Y p r ao bj m br base _ (by exact Nat.lt_succ_self _) (by exact ad.2) (by exact z.out.2) (by exact ag.out) (by exact V.out.heap rfl) (by exact bu.out.heap rfl) (by exact n.out.2.1) (by show base<=H.heap.size;omega)).mono ?_;intro b3 b4 G;have ah:=qG (G.drawn (w:=H) rfl rfl rfl rfl);obtain⟨u4,b6,rfl,_⟩:=G)
   all_goals (
    go_wp2;go_ret2;obtain⟨u5,ap,aq,ar,au,K,L⟩:=ah.out;cases aq;rw [ac.out]
    refine⟨an,u4,j,ap,rfl,U.out.chg L n.out.2.2,ar,xG.2 ⟨n.out.1,au,fun x c y o e=>?_⟩,fun x c=>?_,ae.out.trans L (fun _ a _=>a) (fun x c b5=>?_)⟩
    ·subst e
     rcases K x o with a | a
     ·exact n.out.2.2 x c a
     have:=(U.out.lt x c).2;omega
    ·rcases xb.1 c with a | a
     ·rcases v.out x (vB _ a)with g | g
      ·exact .inl (by simp [g])
      exact .inr (by omega)
     rcases K x a with g | g
     ·rcases xb.1 g with g | g
      ·rcases v.out x (vo _ g)with q | q
       ·exact .inl (by simp [q])
       exact .inr (by omega)
      exact .inl (by simp [g])
     exact .inr (by omega)
    rcases xb.1 c with g | g
    ·rcases v.out x (vo _ g)with q | q
     ·simp [q]
     omega
    simp [g])
  have bq:¬ (k:Int)<=l.its:=by omega
  have ac:Hid (bi=(AT.spl l p (r.split (k - l.its - 1)).1,(r.split (k - l.its - 1)).2)):=by
   rw [<- N.out,AT.split_gt _ _ _ _ aa];exact rfl
  have ad:=AT.split_bal r (k - l.its - 1) z.out.2
  have C:=AT.split_flat r (k - l.its - 1) (by omega)
  have A:=qG (bp.out (k - l.its - 1) bj br base w1 z.out.2 O.out.right (by omega) R.out d.out.2.2.2.1 (by omega))
  have a6:((k - l.its - 1:Nat):Int)=(k:Int) - l.its - 1:=by omega
  rw [a6]at A;clear N a6;generalize (r.split (k - l.its - 1)).1=X at *;generalize (r.split (k - l.its - 1)).2=Y at *;go_wp2_with fail;refine A.out.mono ?_
  rintro e H ⟨an,ao,j,m,rfl,I,J,s,t,i⟩
  have bt:=i.size;have f:=qG (u.out.chg i d.out.2.1);have b0:=qG (Q.out.chg i d.out.2.2.2.2.2);have bv:=f.out.c0;have bw:=f.out.c1;have bx:=f.out.c2;have cd:=f.out.c3;have bz:=f.out.lt
  have ae:=qG (S.out.trans i (fun _ a _=>a) (fun x a _=>by simp [a]) (ds:=b::(bl++br)))
  have U:=qG I;have V:=qG J;have v:=qG t;have D:j.Nodup:=(xG.1 s).1
  have E:m.Nodup:=(xG.1 s).2.1
  have F:∀x∈j,x∉m:=fun x c h=>(xG.1 s).2.2 x c x h rfl
  have a7:(bl++j).Nodup:=xG.2 ⟨d.out.2.2.1,D,fun x c y o e=>by
   subst e
   rcases t x (vB _ o)with a | a
   ·exact d.out.2.2.2.2.2 x c a
   have:=(P.out x (by simp [c])).2;omega⟩
  have a8:∀x∈m,x∉bl++j:=fun x c h=>by
   rcases xb.1 h with a | a
   ·rcases t x (vo _ c)with g | g
    ·exact d.out.2.2.2.2.2 x a g
    have:=(P.out x (by simp [a])).2;omega
   exact F x a c
  have af:(AT.node l p X).ok:=O.out.sub (by
   rw [yB,yB]
   exact List.Sublist.append_left (List.Sublist.cons_cons p (by rw [C.1];exact List.take_sublist _ _)) _)
  have n:=qG (And.intro E (And.intro a7 a8));have ag:=qG af;clear I J s t i D E F a7 a8 A u Q R S M a3 C
  go_upto_region 8 with fail
  go_region_with (go_at_call 185;refine(zAq _ l p X ak an bl j base _ (by exact Nat.lt_succ_self _) (by exact z.out.1) (by exact ad.1) (by exact ag.out) (by exact b0.out.heap rfl) (by exact U.out.heap rfl) (by exact n.out.2.1) (by show base<=H.heap.size;omega)).mono ?_;intro b3 b4 G;have ah:=qG (G.drawn (w:=H) rfl rfl rfl rfl);obtain⟨u4,b6,rfl,_⟩:=G)
  all_goals (
   go_wp2;go_ret2;obtain⟨u5,ap,aq,ar,au,K,L⟩:=ah.out;cases aq;rw [ac.out]
   refine⟨u4,ao,ap,m,rfl,ar,V.out.chg L n.out.2.2,xG.2 ⟨au,n.out.1,fun x c y o e=>?_⟩,fun x c=>?_,ae.out.trans L (fun _ a _=>a) (fun x c b5=>?_)⟩
   ·subst e
    rcases K x c with a | a
    ·exact n.out.2.2 x o a
    have:=(V.out.lt x o).2;omega
   ·rcases xb.1 c with a | a
    ·rcases K x a with g | g
     ·rcases xb.1 g with g | g
      ·exact .inl (by simp [g])
      rcases v.out x (vB _ g)with q | q
      ·exact .inl (by simp [q])
      exact .inr (by omega)
     exact .inr (by omega)
    rcases v.out x (vo _ a)with g | g
    ·exact .inl (by simp [g])
    exact .inr (by omega)
   rcases xb.1 c with g | g
   ·simp [g]
   rcases v.out x (vB _ g)with q | q
   ·simp [q]
   omega)
theorem joinN (A B:AT) (af O:Option Addr) (h bb:List Nat) (base:Nat) (w:World) (ab:A.bal) (L:B.bal) (ag:A.ok) (P:B.ok) (a3:A.rns+B.rns<=8192) (Q:Lies w base A af h) (u:Lies w base B O bb) (k:(h++bb).Nodup) (bo:base<=w.heap.size):
  Calls prog 177 #[.pointer af,.pointer O] w (MutPost base (AT.join A B) (h++bb) w):=by
 generalize m:AT.join A B=M;cases A with
 | nil=>
  obtain⟨rfl,rfl⟩:=Q;have s:=qG (show M=B from m.symm);have l:=qG u;have H:=qG k;clear u k m;go_enter func177,ntmps177;go_wp2_with fail;go_ret;rw [s.out];exact⟨O,bb,rfl,l.out,by simpa using H.out,fun x d=>.inl (by simpa using d),Chg.refl _ _⟩
 | node o q r=>
  have z:=qG Q;obtain⟨a,u1,u2,bp,bq,rfl,_⟩:=Q;cases B with
  | nil=>
   obtain⟨rfl,rfl⟩:=u;have s:=qG (show M=AT.node o q r from m.symm);have H:=qG k;clear k m;go_enter func177,ntmps177;go_wp2_with fail;go_ret;rw [s.out];exact⟨_,h,rfl,z.out,by simpa using H.out,fun x d=>.inl (by simpa using d),Chg.refl _ _⟩
  | node lb f g=>
   have l:=qG u;obtain⟨b,br,bt,bu,bv,rfl,_⟩:=u;have I:0<(AT.node lb f g).its:=(by simp only [AT.its];omega);have s:=qG (show M=AT.spl (AT.node o q r) (AT.node lb f g).first ((AT.node lb f g).rem 0)from m.symm);obtain⟨a4,G⟩:=AT.first_flat (AT.node lb f g) (by simp);have T:=AT.rem_bal (AT.node lb f g) 0 L I;have J:((AT.node lb f g).rem 0).flat=a4:=by rw [AT.rem_flat _ 0 I,G];simp
   have ak:=qG (show(AT.node (AT.node o q r) (AT.node lb f g).first ((AT.node lb f g).rem 0)).ok from by
    refine⟨fun p n=>?_,?_⟩
    ·rw [yB,J,<- G,xb]at n
     rcases n with n | n
     ·exact ag.1 p n
     exact P.1 p n
    have e:(AT.node (AT.node o q r) (AT.node lb f g).first ((AT.node lb f g).rem 0)).flat=(AT.node o q r).flat++(AT.node lb f g).flat:=by rw [yB,J,<- G]
    rw [AT.rns_of_flat,e,vz,List.sum_append,<- AT.rns_of_flat,<- AT.rns_of_flat];exact a3)
   have U:=qG (firstN (AT.node lb f g) _ bb base w l.out (by simp));have V:h.Nodup:=(xG.1 k).1;have W:bb.Nodup:=(xG.1 k).2.1;have X:∀x∈h,x∉bb:=fun x d N=>(xG.1 k).2.2 x d x N rfl
   have C:=qG (And.intro V (And.intro W X));have K:=qG (And.intro ab (And.intro L T.1));have al:=qG P;generalize (AT.node lb f g).first=F at *
   clear k m V W X ab L T ag P G J;go_enter func177,ntmps177;go_wp2_with fail;refine U.out.mono ?_;rintro e w1 ⟨rfl,R⟩;have am:=R.size;have D:=qG (R.alloc am (.cells #[qJ F.off,qJ F.len,qJ F.brk] 63));have t:(w1.alloc (.cells #[qJ F.off,qJ F.len,qJ F.brk] 63)).heap[w1.heap.size]? =some (.cells #[qJ F.off,qJ F.len,qJ F.brk] 63 (0,0)):=xg _ _;have bc:(w1.alloc (.cells #[qJ F.off,qJ F.len,qJ F.brk] 63)).heap.size=w1.heap.size+1:=(by simp);clear R U;unfold pcV;go_upto_region 6 with fail;generalize w1.alloc (.cells #[qJ F.off,qJ F.len,qJ F.brk] 63)=j at *
   have an:=qG (z.out.below D.out lR);have ao:=qG (l.out.below D.out lR);have bd:j.cell? ⟨w1.heap.size,0,none⟩=some (qJ F.off):=(by rw [qP j _ 0 _ _ _ t];rfl);have be:j.cell? ⟨w1.heap.size,1,none⟩=some (qJ F.len):=(by rw [qP j _ 1 _ _ _ t];rfl);have k2:j.cell? ⟨w1.heap.size,2,none⟩=some (qJ F.brk):=(by rw [qP j _ 2 _ _ _ t];rfl);have ap:w1.heap.size<j.heap.size:=(by omega);have aq:=qG (fun x d=>(z.out.lt x d).2);have ar:=qG (fun x d=>(l.out.lt x d).2);have au:=qG t;have Y:=qG (fun(ae:World) (a1:ae.heap=j.heap)=>removeN (AT.node lb f g) 0 _ bb base ae K.out.2.1 al.out I (ao.out.heap a1) C.out.2.1);simp only [Int.natCast_zero]at Y;have av:=qG (Chg.qa (bs:=h++bb) D.out);clear t z l D
   go_region_with (first
    | (go_at_call 187;refine(Y.out _ (by exact rfl)).mono ?_;intro bk i ac;obtain⟨u3,ah,rfl,ai,aj,S,v⟩:=ac.drawn (w:=j) rfl rfl rfl rfl;have bf:=v.size;have aw:=qG (an.out.chg v C.out.2.2);have ax:=qG ai;have ay:=qG (show(h++ah).Nodup from(xG.2 ⟨C.out.1,aj,fun x d y a2 e=>(by subst e;rcases S x a2 with c | c;exact C.out.2.2 x d c;have:=aq.out x d;omega)⟩));have Z:=qG S;have az:=qG (av.out.trans v (fun _ c _=>c) (fun x c _=>(by simp [c])) (ds:=h++bb));have aa:w1.heap.size∉bb:=(fun N=>(by have:=ar.out _ N;omega));have E:=(v.block w1.heap.size ap aa).trans au.out;have bg:i.cell? ⟨w1.heap.size,0,none⟩=some (qJ F.off):=(by rw [qP i _ 0 _ _ _ E];rfl);have bh:i.cell? ⟨w1.heap.size,1,none⟩=some (qJ F.len):=(by rw [qP i _ 1 _ _ _ E];rfl);have bi:i.cell? ⟨w1.heap.size,2,none⟩=some (qJ F.brk):=(by rw [qP i _ 2 _ _ _ E];rfl);have bj:w1.heap.size<i.heap.size:=(by omega);clear ac ai aj S v aa E)
    | (go_at_call 185;refine(zAq _ (AT.node o q r) F ((AT.node lb f g).rem 0) _ u3 h ah base _ (by exact Nat.lt_succ_self _) (by exact K.out.1) (by exact K.out.2.2) (by exact ak.out) (by exact aw.out.heap rfl) (by exact ax.out.heap rfl) (by exact ay.out) (by show base<=i.heap.size;omega)).mono ?_;intro bl bm ad;have a0:=qG (ad.drawn (w:=i) rfl rfl rfl rfl);obtain⟨u4,bw,rfl,_⟩:=ad))
   all_goals (
    go_wp2;go_ret;obtain⟨u5,a5,a6,a7,a8,a9,ba⟩:=a0.out;rw [s.out];refine⟨u5,a5,a6,a7,a8,fun x d=>?_,az.out.trans ba (fun _ c _=>c) (fun x d bn=>?_)⟩
    ·rcases a9 x d with c | c
     ·rcases xb.1 c with c | c
      ·exact .inl (vB _ c)
      rcases Z.out x c with c | c
      ·exact .inl (vo _ c)
      exact .inr (by omega)
     exact .inr (by omega)
    rcases xb.1 d with c | c
    ·exact vB _ c
    rcases Z.out x c with c | c
    ·exact vo _ c
    omega)
end Go.Proofs.YtmjanhcplcalfaaGreatDoor
namespace Go.Proofs.YtmjanhcplcalfaaGreatDoor
open Go Go.RowKit Go.Shelf Go.Sort Go.Proofs.Tryz
theorem chgT {c:Nat} {bs ds:List Nat} {w w1 b:World} (C:Chg (c::bs) w w1) (D:Chg ds w1 b) (e:∀x∈ds,x∈bs∨w.heap.size<=x):Chg (c::bs) w b:=
 C.trans D (fun _ a _=>a) (fun x a f=>by
  rcases e x a with d | d
  ·exact vF _ d
  omega)
theorem notIn {x m:Nat} {bs ds:List Nat} (c:∀y∈ds,y∈bs∨m<=y) (d:x∉bs) (e:x<m):x∉ds:=fun b=>by
 rcases c x b with a | a
 ·exact d a
 omega
theorem zG5 {A B C:List Nat} {m:Nat} (a:(A++B).Nodup) (f:∀x∈A,x<m) (g:C.Nodup) (h:∀x∈C,x∈B∨m<=x):(A++C).Nodup:=by
 rw [xG]at a |-;refine⟨a.1,g,fun x b y d e=>?_⟩;subst e;rcases h x d with c | c
 ·exact a.2.2 x b x c rfl
 have:=f x b;omega
theorem removeC (S:List Int) (T:AT) (be:Option Addr) (bs:List Nat) (base c b o cap m b8:Nat) (ao:Option Addr) (off:Int) (w:World) (h:PM w base c b o cap S T be bs) (M:T.ok) (ae:T.bal) (af:T.wp S) (bf:0<=off) (bg:off+m<=T.rns) (b9:base<=w.heap.size):
  Calls prog 167 #[.pointer (qK c 0),qJ off,.slice ao m b8] w fun e w'=>e= .returned (.tuple #[])∧Xp w base c b o cap S (delP S T off (off+m)) bs w':=by
 have b1:=M.bd;have d:=qG (delF M ae af h.n bf (show off<=off+m by omega) bg);have ak:=qG (cutI S T be bs base c b o cap off w h M ae af bf (by omega) b9);have U:=qG (fun W u1 N (ag:PM W base c b o cap S (cutP S T off) u1 N) hb=>cutI S (cutP S T off) u1 N base c b o cap (off+m) W ag d.ok1 d.bal1 d.wp1 (by omega) (by rw [d.out.rn1];exact bg) hb);have E:=qG (fun W u2 j (y:Lies W base (dl2 S T off (off+m)) u2 j) hnd hb=>splitN (dl2 S T off (off+m)) (cutN T off) u2 j base W d.bal2 d.ok2 d.a2 y hnd hb);have ce:=d.az;have al:(((dlZ S T off (off+m) - cutN T off:Nat)):Int)=(dlZ S T off (off+m):Int) - (cutN T off:Int):=by omega
 have s:=qG (fun W u2 j (y:Lies W base (dlY S T off (off+m)) u2 j) hnd hb=>splitN (dlY S T off (off+m)) (dlZ S T off (off+m) - cutN T off) u2 j base W d.balY d.okY (by rw [d.out.yits];have:=d.z2;omega) y hnd hb);rw [al]at s;have V:=qG (fun W O Q p q (g:Lies W base (dlX S T off (off+m)) O p) (y:Lies W base (dlW S T off (off+m)) Q q) hnd hb=>joinN (dlX S T off (off+m)) (dlW S T off (off+m)) O Q p q base W d.balX d.balW d.okX d.okW d.sum g y hnd hb);have X:=qG (fun W u5 C (ag:PM W base c b o cap S (dlJ S T off (off+m)) u5 C)=>healN S (dlJ S T off (off+m)) u5 C base c b o cap (cutN T off) W ag d.okJ d.balJ d.wpJ (by have f:=d.a2;have k:=d.ok2.bd;omega));have cf:cutN T off<=8192:=by have f:=d.a2;have k:=d.ok2.bd;omega
 have cg:dlZ S T off (off+m)<=8192:=by have f:=d.z2;have k:=d.ok2.bd;omega
 have ch:IntKind.i64.wrap (off+(m:Int))=off+(m:Int):=i64w _ (by omega) (by omega);have wz:IntKind.i64.wrap ((dlZ S T off (off+m):Int) - (cutN T off:Int))=(dlZ S T off (off+m):Int) - (cutN T off:Int):=i64w _ (by omega) (by omega);have F:=h.cb;have G:=h.bb;have am:=h.bc;have H:=h.k.lt;have I:=h.lb;have Y:=qG (And.intro h.cap1 (And.intro h.cap2 h.n));have an:=qG (show healP S (dlJ S T off (off+m)) (cutN T off)=delP S T off (off+m)from rfl);rw [an.out]at X;unfold Km at E s;rw [show((dl2 S T off (off+m)).split (cutN T off)).1=dlX S T off (off+m)from rfl,show((dl2 S T off (off+m)).split (cutN T off)).2=dlY S T off (off+m)from rfl]at E;rw [show((dlY S T off (off+m)).split (dlZ S T off (off+m) - cutN T off)).2=dlW S T off (off+m)from rfl]at s;rw [show AT.join (dlX S T off (off+m)) (dlW S T off (off+m))=dlJ S T off (off+m)from rfl]at V;have ap:=qG (show dlZ S T off (off+m)=cutN (cutP S T off) (off+m)from rfl);rw [<- ap.out,show cutP S (cutP S T off) (off+m)=dl2 S T off (off+m)from rfl]at U;generalize ((dlY S T off (off+m)).split (dlZ S T off (off+m) - cutN T off)).1=cq at *
 clear ap an;generalize delP S T off (off+m)=cr at *
 generalize dlJ S T off (off+m)=b7 at *
 generalize dlW S T off (off+m)=cs at *
 generalize dlX S T off (off+m)=ct at *
 generalize dlY S T off (off+m)=cu at *
 generalize dlZ S T off (off+m)=z at *
 generalize dl2 S T off (off+m)=cv at *
 generalize cutN T off=a at *
 generalize cutP S T off=cw at *
 clear h M ae af d al b1;go_enter func167,ntmps167;go_wp2_with fail;refine ak.mono ?_;rintro e w1 ⟨rfl,u1,N,bh,bi,ah⟩;have aq:=qG ah;have Z:=qG bi;have ci:=ah.size;have ar:=qG (U w1 u1 N bh (by omega));clear bh bi ah ak U;go_wp2_with fail;refine ar.mono ?_;rintro e bj ⟨rfl,u2,j,n,bk,ai⟩;have cj:=ai.size;have J:=qG (show ∀x∈j,x∈bs∨w.heap.size<=x from fun x g=>(bk x g).elim (Z x) (fun f=>.inr (by omega)))
 have au:=qG (show Chg (c::bs) w bj from aq.trans ai (fun _ f _=>f) (fun x f k=>by
  rcases xC.1 f with l | l
  ·rw [l];exact List.mem_cons_self
  rcases Z x l with A | A
  ·exact vF _ A
  omega))
 have b2:=n.k.c1;have av:=qG n.k;have aw:=qG n.rt;have ax:=qG (E bj u2 j n.t n.nd (by omega));clear n bk ai ar E aq Z;go_wp2_with fail;refine ax.mono ?_;rintro e bl ⟨O,ca,p,P,rfl,bm,bn,aj,bo,B⟩;have ck:=B.size;have aa:=qG (show ∀x∈p++P,x∈bs∨w.heap.size<=x from fun x g=>(bo x g).elim (J x) (fun f=>.inr (by omega)));have ay:=qG (chgT au B J);have az:=qG (av.chg B (notIn J F H));have a0:=qG (aw.chg B (by omega) (notIn J G I));have ab:=qG bm;have ac:=qG aj;have a1:=qG (s bl ca P bn (xG.1 aj).2.1 (by omega));clear bm bn aj bo B b2 ax s au av aw;go_wp2_with fail;refine a1.mono ?_;rintro e cb ⟨cy,Q,cz,q,rfl,cc,bp,bq,br,r⟩;have cl:=r.size;have t:=qG (show ∀x∈P,x∈bs∨w.heap.size<=x from fun x g=>aa x (vo _ g));have ad:=qG (show ∀x∈q,x∈P∨bl.heap.size<=x from fun x g=>br x (vo _ g));have a2:=qG (zG5 ac (fun x g=>(ab.lt x g).2) (xG.1 bq).2.1 ad)
 have u:=qG (show ∀x∈p++q,x∈bs∨w.heap.size<=x from fun x g=>by
  rcases xb.1 g with f | f
  ·exact aa x (vB _ f)
  rcases ad x f with k | k
  ·exact t x k
  exact .inr (by omega))
 have a3:=qG (chgT ay r t);have a4:=qG (az.chg r (notIn t F H));have a5:=qG (a0.chg r (by omega) (notIn t G I));have a6:=qG (ab.chg r (fun x g f=>(xG.1 ac).2.2 x g x f rfl));have a7:=qG (V cb O Q p q a6 bp a2 (by omega));clear cc bp bq br r a1 V ay az a0 ab a6 ac aa ad;go_wp2_with fail;refine a7.mono ?_;rintro e R ⟨u5,C,rfl,bt,bu,bv,D⟩;have cm:=D.size;have K:=qG (show ∀x∈C,x∈bs∨w.heap.size<=x from fun x g=>(bv x g).elim (u x) (fun f=>.inr (by omega)));have a8:=qG (chgT a3 D u);have L:=qG (a4.chg D (notIn u F H));have a9:=qG (a5.chg D (by omega) (notIn u G I));have ba:=notIn K F H;have cn:=L.c1;have co:=L.fz 1
 have b3:=qG (show PM (R.setCell ⟨c,1,none⟩ (.pointer u5)) base c b o cap S b7 u5 C from
  ⟨L.set1 u5,bt.other ⟨c,1,none⟩ (.pointer u5) ba,bu,ba,notIn K G I,am,fun i hi=>by rw [<- a9.out i hi];unfold World.cell?;rw [xm R ⟨c,1,none⟩ b _ am],xq (show b<R.heap.size by omega) (kM (by simp)),Y.1,Y.2.1,Y.2.2⟩)
 have bc:=qG (a8.setCell ⟨c,1,none⟩ (.pointer u5) (.inl (by simp)));have bd:=qG (X _ _ _ b3);clear bt bu bv D a7 X a3 a4 a5 a8 L a9 a2 u t;go_wp2_with fail;generalize R.setCell ⟨c,1,none⟩ (.pointer u5)=cx at *
 refine bd.mono ?_;rintro e cd ⟨rfl,u7,bw,bx,bz,b0⟩;have cp:=bc.size;have b4:=qG bx;have b5:=qG (show ∀x∈bw,x∈bs∨w.heap.size<=x from fun x g=>(bz x g).elim (K x) (fun f=>.inr (by omega)))
 have b6:=qG (show Chg (c::bs) w cd from bc.trans b0 (fun _ f _=>f) (fun x f k=>by
  rcases xC.1 f with l | l
  ·rw [l];exact List.mem_cons_self
  rcases K x l with A | A
  ·exact vF _ A
  omega))
 clear bx bz b0 bd;go_wp2;refine kO (v:=.tuple #[]) (by simp [results,results167]) rfl ⟨rfl,u7,bw,b4,b5,b6⟩
theorem Tryz.mSliceI (c : Option Addr) (w : World) : (Go.method 369 73 (.pointer c) "loop.example/s01685/impl.slice").run prog w = .ok (169, .pointer c) w := by kernel_rfl
theorem Tryz.mRemoveI (c : Option Addr) (w : World) : (Go.method 369 73 (.pointer c) "loop.example/s01685/impl.remove").run prog w = .ok (167, .pointer c) w := by kernel_rfl
theorem Tryz.nRemoveI (c : Addr) (w : World) : (Go.nilAhead 369 73 (.pointer (some c)) "loop.example/s01685/impl.remove").run prog w = .ok (some false) w := by kernel_rfl
theorem delText0 (T:AT) (d:Option Addr) (bs:List Nat) (base c b o n cap:Nat) (lo:Int) (w:World) (f:PK w c b o n cap d) (ht:Lies w base T d bs) (k:0<=lo∧lo<=T.rns):
  Calls prog 39 #[.iface 73 (.pointer (qK c 0)),qJ lo,qJ lo] w fun e w'=>e= .returned .nilIface∧Below w.heap.size w w':=by
 have m:=Tryz.mLengthI;have h:=qG (XM T d bs base c b o n cap w f ht);have a:=qG (fun w=>ZC lo lo T.rns w);rw [show decide ((0<=lo∧lo<=T.rns)∧(0<=lo∧lo<=lo))=true by rw [qU];omega]at a;simp only [errV,kA]at a;clear f ht k;generalize T.rns=r at *
 go_enter func39,ntmps39;go_wp2_with fail;refine h.mono ?_;rintro e w1 ⟨rfl,g⟩;have i:=qG g;clear g;go_wp2_with fail;refine(a _).mono ?_;rintro e wx ⟨rfl,l⟩;have j:=l.symm;subst j;go_wp2;go_ret;exact⟨rfl,i⟩
theorem delTextI (zs:List Int) (T:AT) (u:Option Addr) (bs:List Nat) (base c b o cap:Nat) (lo hi:Int) (w:World) (h:PM w base c b o cap zs T u bs) (hok:T.ok) (hbal:T.bal) (hw:T.wp zs) (hr:0<=lo∧lo<hi∧hi<=T.rns) (hbase:base<=w.heap.size):
  Calls prog 39 #[.iface 73 (.pointer (some ⟨c,0,none⟩)),.int .i64 lo,.int .i64 hi] w fun e w'=>e= .returned .nilIface∧Xp w base c b o cap zs (delP zs T lo hi) bs w':=by
 have mL:=Tryz.mLengthI;have mS:=Tryz.mSliceI;have mR:=Tryz.mRemoveI;have nR:=Tryz.nRemoveI;have bT:=hok.bd;have HL:=qG (XM T u bs base c b o zs.length cap w h.k h.t);have HKB:=qG (fun w=>ZC lo hi T.rns w);rw [show decide ((0<=hi∧hi<=T.rns)∧(0<=lo∧lo<=hi))=true by rw [qU];omega]at HKB;simp only [errV,kA]at HKB;have HCO:∀W,Below w.heap.size w W->PCore W base c b o cap zs T:=fun W hW=>⟨⟨u,bs,(h.below hW).k,(h.below hW).t⟩,(h.below hW).rt,(h.below hW).lb,hok,hw,⟨by have:=h.n;omega,h.cap1,h.cap2⟩⟩
 have HSL:=qG (fun W (hW:Below w.heap.size w W)=>sliceN T base c b o cap zs lo hi W (HCO W hW) ⟨by omega,by omega,by omega⟩)
 have hcl:(cutT (T.tx zs) lo hi).length=(hi - lo).toNat:=by
  have h9:=AT.qE hw;unfold cutT;rw [qN,qR];omega
 obtain⟨m,hm⟩:∃m:Nat,(hi - lo).toNat=m:=⟨_,rfl⟩
 rw [hm]at hcl
 have HSV:=qG (fun W base' v (ho:own32 W base' v (cutT (T.tx zs) lo hi))=>show ∃ao ct,v= .slice ao m ct from(by
  obtain⟨a1,c1,e1⟩:=zi ho
  exact⟨a1,c1,by rw [e1,hcl]⟩))
 have hhi:lo+(m:Int)=hi:=by omega
 have HRM:=qG (fun W ao ct (hW:Below w.heap.size w W)=>removeC zs T u bs base c b o cap m ct ao lo W (h.below hW) hok hbal hw hr.1 (by omega) (by have:=hW.size;omega));rw [hhi]at HRM
 have HFI:=qG (fun W W' (hW:Below w.heap.size w W) (hi':Xp W base c b o cap zs (delP zs T lo hi) bs W')=>show Xp w base c b o cap zs (delP zs T lo hi) bs W' from(by
  obtain⟨u',bs',hp,hs,hc⟩:=hi'
  exact⟨u',bs',hp,fun x hx=>(hs x hx).imp id (fun h9=>vK hW.size h9),(Chg.qa (bs:=[]) hW).trans hc (fun _ h9 _=>by cases h9) (fun _ h9 _=>h9)⟩))
 have hlt:lo<hi:=hr.2.1;clear HCO hcl hhi hm h hok hbal hw hr bT;generalize delP zs T lo hi=RES at *
 generalize cutT (T.tx zs) lo hi=tx at *
 generalize T.rns=r at *
 go_enter func39,ntmps39;go_wp2_with fail;refine HL.out.mono ?_;rintro e w1 ⟨rfl,h1⟩;have B1:=qG h1;clear h1;go_wp2_with fail;refine(HKB.out _).mono ?_;rintro e wx ⟨rfl,hwx⟩;have hw2:=hwx.symm;subst hw2;go_upto_region 5 with fail;refine(kD (n:=6)).1 ?_;refine wpIn_region_any (by kernel_rfl) ?_;refine wpAnyIn_take (i:=0) (fuel:=9) (v:=.iface 73 (.pointer (some ⟨c,0,none⟩))) rfl rfl (by kernel_rfl) (by kernel_rfl) (by kernel_rfl) (fun _ _ _ h=>h) ⟨Or.inl ⟨by rfl,?_⟩,fun w=>by rfl⟩ ?_
 ·intro w;go_simp
 refine wpAnyIn_take (i:=1) (fuel:=8) (v:=.int .i64 lo) rfl rfl (by kernel_rfl) (by kernel_rfl) (by kernel_rfl) (fun _ _ _ h=>h) ⟨Or.inl ⟨by rfl,?_⟩,fun w=>by rfl⟩ ?_
 ·intro w;go_simp
 refine wpAnyIn_take (i:=2) (fuel:=7) (v:=.iface 73 (.pointer (some ⟨c,0,none⟩))) rfl rfl (by kernel_rfl) (by kernel_rfl) (by kernel_rfl) (fun _ _ _ h=>h) ⟨Or.inl ⟨by rfl,?_⟩,fun w=>by rfl⟩ ?_
 ·intro w;go_simp
 refine wpAnyIn_take (i:=3) (fuel:=6) (v:=.int .i64 lo) rfl rfl (by kernel_rfl) (by kernel_rfl) (by kernel_rfl) (fun _ _ _ h=>h) ⟨Or.inl ⟨by rfl,?_⟩,fun w=>by rfl⟩ ?_
 ·intro w;go_simp
 refine wpAnyIn_take (i:=4) (fuel:=5) (v:=.int .i64 hi) rfl rfl (by kernel_rfl) (by kernel_rfl) (by kernel_rfl) (fun _ _ _ h=>h) ⟨Or.inl ⟨by rfl,?_⟩,fun w=>by rfl⟩ ?_
 ·intro w;go_simp
 refine wpAnyIn_take (i := 6) (fuel := 4) (v := .func (.method "loop.example/s01685/impl.remove") #[.iface 73 (.pointer (some ⟨c, 0, none⟩))] #[]) rfl rfl (by kernel_rfl) (by kernel_rfl) (by kernel_rfl) (fun _ _ _ h => h) ⟨Or.inl ⟨by rfl, ?_⟩, fun w => by rfl⟩ ?_
 ·intro w;go_simp
 refine wpAnyIn_take (i := 7) (fuel := 3) (v := .func (.method "loop.example/s01685/impl.remove") #[.iface 73 (.pointer (some ⟨c, 0, none⟩))] #[]) rfl rfl (by kernel_rfl) (by kernel_rfl) (by kernel_rfl) (fun _ _ _ h => h) ⟨Or.inl ⟨by rfl, ?_⟩, fun w => by rfl⟩ ?_
 ·intro w;go_simp
 refine wpAnyIn_take (i:=8) (fuel:=2) (v:=.iface 73 (.pointer (some ⟨c,0,none⟩))) rfl rfl (by kernel_rfl) (by kernel_rfl) (by kernel_rfl) (fun _ _ _ h=>h) ⟨Or.inl ⟨by rfl,?_⟩,fun w=>by rfl⟩ ?_
 ·intro w;go_simp
 refine Zs (i:=5) (j:=9) rfl rfl (by kernel_rfl) ?_;have B2:=qG (show RowKit.Below w.heap.size w {w1 with drawn:=w1.drawn+1} from⟨B1.out.os,B1.out.tape,B1.out.output,B1.out.size,B1.out.block⟩);generalize ({w1 with drawn:=w1.drawn+1}:World)=w2 at *
 clear B1 HKB HL;gi_wp2_with fail;refine⟨xn,(xf.2 (HSL.out _ B2.out)).mono ?_⟩;rintro e w3 ⟨v3,rfl,ho3,hb3⟩;obtain⟨a3,c3,rfl⟩:=HSV.out _ _ _ ho3;have B3:=qG (B2.out.trans (hb3.mono B2.out.size));clear hb3 ho3 HSL HSV;gi_wp2_with fail;refine⟨xn,(xf.2 (HRM.out _ _ _ B3.out)).mono ?_⟩;rintro e w4 ⟨rfl,hc4⟩;have C4:=qG (HFI.out _ _ B3.out hc4);clear hc4 HRM;gi_wp2_with fail;go_wp2;go_ret;exact⟨rfl,C4.out⟩
end Go.Proofs.YtmjanhcplcalfaaGreatDoor
namespace Go.Proofs.YtmjanhcplcalfaaGreatDoor
open Go Go.RowKit Go.Proofs.Tryz
def pdT (zs:List Int) (xs:List It) (lo hi:Int):Option AT:=
 match pRead zs xs with
 | none=>none
 | some T=>if 0<=lo∧lo<=hi∧hi<=T.rns then some (if lo=hi then T else delP zs T lo hi)else none
def pdC (zs:List Int) (xs:List It) (lo hi:Int):Int:=
 match pRead zs xs with
 | none=>1
 | some T=>if 0<=lo∧lo<=hi∧hi<=T.rns then 0 else 2
def pdS (zs:List Int) (xs:List It) (lo hi:Int):List Int:=if(pdT zs xs lo hi).isSome then zs else []
def pdI (zs:List Int) (xs:List It) (lo hi:Int):List It:=match pdT zs xs lo hi with | none=>[] | some T=>T.told 0
theorem faceID (q:Option Addr) (n cap:Nat) (ao:Option Addr) (m a:Nat) (lo hi:Int) (RS:List Int) (l:List It) (o:Int) (x:Nat->World->Prop) (y:Nat->Value->World->Prop) (w:World)
  (z:Hid (Calls prog 34 #[.agg #[.slice q n cap,.slice ao m a]] ((w.alloc (.cells #[.slice q n cap,.slice ao m a] 30)).alloc (.cells #[.slice none 0 0,.slice none 0 0] 30)) fun e w1=>∃c,e= .returned (.tuple #[.pointer (qK c 0),.nilIface])∧x c w1))
  (A:Hid (∀c w1,x c w1->Calls prog 39 #[.iface 73 (.pointer (qK c 0)),qJ lo,qJ hi] w1 fun e b=>∃d,e= .returned d∧y c d b))
  (B:Hid (∀c d b,y c d b->Below (w.heap.size+2) ((w.alloc (.cells #[.slice q n cap,.slice ao m a] 30)).alloc (.cells #[.slice none 0 0,.slice none 0 0] 30)) b∧Calls prog 36 #[.pointer (qK c 0),d] b (ji b RS l o))):
  Calls prog 13 #[.agg #[.slice q n cap,.slice ao m a],qJ lo,qJ hi] w (ji w RS l o):=by
 have G:=qG (((qO w.heap.size w).alloc lR (.cells #[.slice q n cap,.slice ao m a] 30)).alloc (by simp) (.cells #[.slice none 0 0,.slice none 0 0] 30))
 have r:=qG (show((w.alloc (.cells #[.slice q n cap,.slice ao m a] 30)).alloc (.cells #[.slice none 0 0,.slice none 0 0] 30)).heap[w.heap.size+1]? =some (.cells #[.slice none 0 0,.slice none 0 0] 30 (0,0))by
  have:=xg (w.alloc (.cells #[.slice q n cap,.slice ao m a] 30)) (.cells #[.slice none 0 0,.slice none 0 0] 30)
  rw [show(w.alloc (.cells #[.slice q n cap,.slice ao m a] 30)).heap.size=w.heap.size+1 by simp]at this;exact this)
 go_enter func13,ntmps13;go_wp2_with fail;generalize (w.alloc (.cells #[.slice q n cap,.slice ao m a] 30)).alloc (.cells #[.slice none 0 0,.slice none 0 0] 30)=M at *
 refine z.mono ?_;rintro e w1 ⟨c,rfl,C⟩;have s:=qG (A c w1 C);clear z A C;go_wp2_with fail;refine s.mono ?_;rintro e b ⟨d,rfl,D⟩;have h:=qG (B c d b D);clear s B D;go_wp2_with fail;refine h.2.mono ?_;rintro e f ⟨X,Y,rfl,p,hi,E,F⟩;have H:=qG F;clear F;obtain⟨P,Q,rfl⟩:=zi p;obtain⟨R,S,rfl⟩:=zb hi;have t:=qG p;have u:=qG hi;have T:=h.1.size;have U:w.heap.size+1<M.heap.size:=(xO.1 r).1;have i:=h.1.trans (E.mono (by omega));have g:=(i.block (w.heap.size+1) (by omega)).trans r;have I:f.cell? ⟨w.heap.size+1,0,none⟩=some (.slice none 0 0):=by rw [qP f _ 0 _ _ _ g];rfl
 have J:f.cell? ⟨w.heap.size+1,1,none⟩=some (.slice none 0 0):=by rw [qP f _ 1 _ _ _ g];rfl
 have V:=xp f (w.heap.size+1) 0 _ _ g;have W:=xp f (w.heap.size+1) 1 _ _ g;have K:=qG (G.trans (i.mono (by omega)));clear h E g p hi i;generalize RS.length=N at *
 generalize l.length=O at *
 go_wp2;refine xr (v:=.tuple #[.agg #[.slice P N Q,.slice R O S],qJ o]) (by simp [results,results13,go_sem,I,J]) rfl ⟨_,_,rfl,?_,?_,?_,H⟩
 ·exact zA (zD t (by omega)) (fun k j=>by have L:=t.lt k j;rw [xo _ _ _ _ (by simp;omega),xo _ _ _ _ (by simp;omega)];try rfl)
 ·exact zA (zD u (by omega)) (fun k j=>by have L:=u.lt k j;rw [xo _ _ _ _ (by simp;omega),xo _ _ _ _ (by simp;omega)];try rfl)
 exact(K.setCell (by simp) _).setCell (by simp) _
theorem implPD (B:Nat) (zs:List Int) (b o cap:Nat) (v:Value) (xs:List It) (lo hi:Int) (w:World) (G:At32 w b o zs) (H:b<w.heap.size) (S:zs.length<=1048576) (U:zs.length<=cap) (V:cap<=maxLen) (I:RdI B w v xs) (W:B<=w.heap.size) (X:xs.length<=1048576) (J:w.cell? ⟨0,0,none⟩=some (.iface 184 (.agg #[.pointer (qK 1 67)]))) (K:pdC zs xs lo hi=0):
  Calls prog 13 #[.agg #[.slice (qK b o) zs.length cap,v],qJ lo,qJ hi] w (ji w (pdS zs xs lo hi) (pdI zs xs lo hi) (pdC zs xs lo hi)):=by
 obtain⟨ao,n,rfl⟩:=I.val;have O:0<w.heap.size:=xQ w _ J;have t:=((qO w.heap.size w).alloc lR (.cells #[.slice (qK b o) zs.length cap,.slice ao xs.length n] 30)).alloc (by simp) (.cells #[.slice none 0 0,.slice none 0 0] 30);have u:((w.alloc (.cells #[.slice (qK b o) zs.length cap,.slice ao xs.length n] 30)).alloc (.cells #[.slice none 0 0,.slice none 0 0] 30)).heap.size=w.heap.size+2:=by simp
 have x:=Js B zs b o cap _ xs _ (G.below t H) (by omega) S U V (I.below t W) (by omega) X;have ac:=(t.cell (p:=⟨0,0,none⟩) O).trans J;have P:=G.below t H;cases hT:pRead zs xs with
 | none=>
  rw [hT]at x;have y:pdT zs xs lo hi=none:=(by unfold pdT;rw [hT]);have r:pdC zs xs lo hi=1:=(by unfold pdC;rw [hT]);exact absurd (r.symm.trans K) (by decide)
 | some T=>
  rw [hT]at x;obtain⟨Y,L,M,ad⟩:=Xh hT;have D:=(jJ Y).2.1
  have E:∀c a bs w1,((w.alloc (.cells #[.slice (qK b o) zs.length cap,.slice ao xs.length n] 30)).alloc (.cells #[.slice none 0 0,.slice none 0 0] 30)).heap.size<=c->PK w1 c b o zs.length zs.length a->Lies w1 ((w.alloc (.cells #[.slice (qK b o) zs.length cap,.slice ao xs.length n] 30)).alloc (.cells #[.slice none 0 0,.slice none 0 0] 30)).heap.size T a bs->bs.Nodup->c∉bs->Below ((w.alloc (.cells #[.slice (qK b o) zs.length cap,.slice ao xs.length n] 30)).alloc (.cells #[.slice none 0 0,.slice none 0 0] 30)).heap.size ((w.alloc (.cells #[.slice (qK b o) zs.length cap,.slice ao xs.length n] 30)).alloc (.cells #[.slice none 0 0,.slice none 0 0] 30)) w1->PM w1 (w.heap.size+2) c b o zs.length zs T a bs:=by
   intro c a bs w1 d g f m q j;rw [u]at d f j;have l:=j.size;exact⟨g,f,m,q,fun R=>by have:=(f.lt _ R).1;omega,by omega,P.below j (by omega),by omega,lR,by unfold maxLen;omega,L⟩
  generalize z:(w.alloc (.cells #[.slice (qK b o) zs.length cap,.slice ao xs.length n] 30)).alloc (.cells #[.slice none 0 0,.slice none 0 0] 30)=A at *
  by_cases h:0<=lo∧lo<=hi∧hi<=T.rns
  ·have y:pdT zs xs lo hi=some (if lo=hi then T else delP zs T lo hi):=by unfold pdT;rw [hT];exact xd h
   have r:pdC zs xs lo hi=0:=(by unfold pdC;rw [hT];exact xd h);rw [show pdS zs xs lo hi=zs by unfold pdS;rw [y];rfl,show pdI zs xs lo hi=(if lo=hi then T else delP zs T lo hi).told 0 by unfold pdI;rw [y],r];by_cases F:lo=hi
   ·subst F
    rw [xd rfl];refine faceID _ _ _ _ _ _ _ _ _ _ _ (fun c w1=>∃a bs,PM w1 (w.heap.size+2) c b o zs.length zs T a bs∧T.ok∧Below (w.heap.size+2) A w1) (fun c s i=>s= .nilIface∧∃a bs,PM i (w.heap.size+2) c b o zs.length zs T a bs∧T.ok∧Below (w.heap.size+2) A i) w (qG ?_) (qG ?_) (qG ?_)
    ·rw [z]
     refine x.mono ?_;rintro e w1 ⟨c,a,bs,rfl,d,g,f,m,q,j,l⟩;exact⟨c,rfl,a,bs,E c a bs w1 d g f m q l,j,u▸l⟩
    ·rintro c w1 ⟨a,bs,d,g,f⟩
     refine(delText0 T a bs _ c b o zs.length zs.length lo w1 d.k d.t ⟨h.1,h.2.2⟩).mono ?_;rintro e i ⟨rfl,N⟩;have:=f.size;exact⟨_,rfl,rfl,a,bs,d.below N,g,f.trans (N.mono (by omega))⟩
    rintro c s i ⟨rfl,a,bs,d,g,f⟩;rw [z];exact⟨f,ansOk zs T a bs _ c b o zs.length i d g⟩
   rw [qZ F];refine faceID _ _ _ _ _ _ _ _ _ _ _ (fun c w1=>∃a bs,PM w1 (w.heap.size+2) c b o zs.length zs T a bs∧T.ok∧Below (w.heap.size+2) A w1∧w.heap.size+2<=c) (fun c s i=>s= .nilIface∧∃a bs,PM i (w.heap.size+2) c b o zs.length zs (delP zs T lo hi) a bs∧(delP zs T lo hi).ok∧Below (w.heap.size+2) A i) w (qG ?_) (qG ?_) (qG ?_)
   ·rw [z]
    refine x.mono ?_;rintro e w1 ⟨c,a,bs,rfl,d,g,f,m,q,j,l⟩;exact⟨c,rfl,a,bs,E c a bs w1 d g f m q l,j,u▸l,u▸d⟩
   ·rintro c w1 ⟨a,bs,d,g,f,m⟩
    have q:=f.size;refine(delTextI zs T a bs _ c b o zs.length lo hi w1 d g D M ⟨h.1,by omega,h.2.2⟩ (by omega)).mono ?_;rintro e i ⟨rfl,Z,aa,j,l,ab⟩;have Q:=d.t;refine⟨_,rfl,rfl,Z,aa,j,(delF g D M L h.1 h.2.1 h.2.2).okR,f.trans (ab.below (by omega) (fun k C=>?_))⟩;rcases xC.1 C with rfl | C
    ·exact m
    exact(Q.lt k C).1
   rintro c s i ⟨rfl,a,bs,d,g,f⟩;rw [z];exact⟨f,ansOk _ _ a bs _ c b o zs.length i d g⟩
  have y:pdT zs xs lo hi=none:=(by unfold pdT;rw [hT];exact qZ h);have r:pdC zs xs lo hi=2:=(by unfold pdC;rw [hT];exact qZ h);exact absurd (r.symm.trans K) (by decide)
end Go.Proofs.YtmjanhcplcalfaaGreatDoor

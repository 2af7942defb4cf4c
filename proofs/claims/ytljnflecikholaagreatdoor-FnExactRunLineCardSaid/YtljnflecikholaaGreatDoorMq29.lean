import Derived.Test.YtljnflecikholaaGreatDoorMq28
import Derived.Test.YtljnflecikholaaGreatDoorMq22
import Derived.Test.YtljnflecikholaaGreatDoorMq06
set_option linter.all false
set_option maxRecDepth 100000
set_option maxHeartbeats 8000000
namespace Go.Proofs.YtljnflecikholaaGreatDoor
open Go Go.RowKit Go.Proofs.Tryz
section
variable {S:Nat->Prop} {w0 w w':World} {c g cap n a b:Nat} {sv:Value} {vs:List Value} {gs:List Gr} {rn:Int} {st:List Int} {LS:List (List Int)}
def remF{mm i m ct aT}(an:LF S w w c g cap n a b sv vs gs rn ((jL LS).take mm))(l:LP vs gs n a b LS)(ao:1<=mm/\mm<=LS.length)(b0:i+m<=(jn LS).length)(eh:m<=rn/\rn<=8192):
  Calls prog 236 #[qO c 0,qC i,qM aT m ct] w λj w'=>j=qQ (.tuple #[])/\∃d e s t,Ln LS i d/\Ln LS (i+m) e/\(lg gs a b)[d]?=some s/\(lg gs a b)[e]?=some t/\LEd S w w' c (jI (lg gs a b) d e s t (i-zq LS d) (i+m-zq LS e)) (rn-m) ((jL LS).take (d+1)):=by
 have a8:=zC (an.find (off:=i) l ao (by have:=l.j;omega));have a9:=zC (λak al am(E:LF S w am c g cap n a b al vs gs rn _)(dl:1<=ak)bd=>E.find (off:=i+m) l ⟨dl,bd⟩ (by have:=l.j;omega));have X:=zC (l.sb an.cr.rows.len);have f:=zC l;have ba:=zC b0;obtain⟨ei,ej,ek,dn⟩:=l.ll;have Y:=l.n;have v:=l.ab;have cn:=ao.1;have d2:i+m<=8192:=by have:=l.j;omega
 clear an l b0 dn ao;have co:IntKind.i64.wrap (i+m)=((i+m:Nat)):=by rw[KJ _ qF qF];omega
 go_enter func236,ntmps236;go_wp2_with fail;refine a8.mono ?_;rintro j am ⟨d,ak,al,rfl,I,aq,b2⟩;have cq:=I.1;obtain⟨s,bz,ar,T,D,au⟩:=X.out d cq;have cr:Zq a b d<n:=by rw[<- f.out.len];exact(xp.1 ar).1
 have Z:=I.colF (by have:=ba.out;omega) D;obtain⟨q,av⟩:∃q,q=i-zq LS d:=⟨_,rfl⟩
 rw[<- av]at Z;rw[show(i:Int)-(zq LS d)=q by omega];have L:=aq.ltF I cn;have x:=aq.2.1;have aa:=zC I;have y:=zC ar;have r:=zC T;have cs:=zC D;have M:=zC au;have ab:=zC av;have N:=zC Z;have d3:=(ZR au.1).2.1;have bc:=zC (a9 ak al am b2 qF x);clear b2 I aq ar T D au av Z a8 a9;go_wp2_with fail;refine bc.mono ?_;rintro j b3 ⟨e,U,dp,rfl,J,aw,b4⟩;have cu:=J.1;obtain⟨t,u2,ax,b5,G,ay⟩:=X.out e cu;have cv:Zq a b e<n:=by rw[<- f.out.len];exact(xp.1 ax).1
 have O:=J.colF ba G;obtain⟨A,az⟩:∃A,A=i+m-zq LS e:=⟨_,rfl⟩
 rw[<- az]at O;rw[show((i+m:Nat):Int)-(zq LS e)=A by omega]
 have d4:d<=e:=by
  rcases vV e d with h | h
  ·have bd:=J.2.2 qF
   have d5:=J0 LS (show e+1<=d by omega);have d6:=aa.2.1;omega
  exact h
 have d7:d<U:=by have:=aw.1;omega
 have d8:=aw.2.1;have AT:=zC (λW h o(E:LF S w W c g cap n a b dp vs gs rn ((jL LS).take U))=>atF c g cap n h a b W ⟨E.cr.cells.1,E.cr.cells.2.1,E.cr.cells.2.2.1⟩ v o (E.capN f.len) qF);have ac:=zC b4;have bf:=zC J;have F:=zC ax;have bg:=zC b5;have cw:=zC G;have bh:=zC ay;have ad:=zC az;have bi:=zC O;have d9:=(ZR ay.1).2.1;have ea:A<=8192:=by have:=O.1;omega
 clear b4 J aw ax b5 G ay az O bc X co L x
 rename d<U=>L
 rename U<=LS.length=>x
 go_wp2_with fail;refine(AT b3 d cr ac).mono ?_;rintro j wx ⟨rfl,nq,rfl⟩;have B:=zC (ac.drew nq);generalize b3.drewN nq=bv at *;clear ac;have bj:b<=gs.length:=by rw[f.out.len];exact v.2
 have eb:=f.len;have cx:=xH r;by_cases bt:d=e
 ·subst bt
  have cy:=(by have bk:=y.out;rw[F.out]at bk;exact vU bk);have cz:q<=A:=(by rw[ab.out,ad.out];omega);have C:=zC (Ub B.cr.rows f.len y r lR M.1 cz (by rw[<- cy];exact bi.1));clear AT;go_wp2_with fail;refine C.mono ?_;rintro j bw ⟨rfl,u4,b6,el,b7⟩;have k:=zC (B.row r b6 b7 (λh o=>.inl (by simp_all)));clear b6 b7 C B;have p:=zC (k.setN (rn-m));obtain⟨dq,dr,ds,dt,du⟩:=k.out.cr.cells;have c0:=k.cr.fz 3;have z:=zC (p.forget (by rw[TI x];exact L) (by rw[TI x];omega));rw[ky,vu qF]at z;clear k p;go_wp2_with fail;refine z.mono ?_;rintro j b8 ⟨rfl,a0,K⟩;have ae:=zC K;clear K z;go_wp2;go_end0;refine⟨rfl,d,d,s,t,aa,bf,f.at y,f.at F,g,cap,n,a,b,a0,_,_,ae,by simp_all,⟨v.1,v.2,Y⟩,f.gz.set _ _,?_⟩;rw[U9 _ v.1 bj qF,jI,xS rfl,ab.out,ad.out]
 have c1:d<e:=qF
 have ec:((d:Int)==e)=false:=qJ
 have c2:=zC (Mg c1 cs cw f.j);go_wp2_with fail;refine(AT bv e cv B).mono ?_;rintro j wx ⟨rfl,b9,rfl⟩;have k:=zC (B.drew b9);generalize bv.drewN b9=bw at *;have LE:=zC (Jp k.cr.rows f.len F bg bh.1);clear AT B;go_wp2_with fail;refine LE.mono ?_;rintro j wy ⟨rfl,ca,rfl⟩;have p:=zC (k.drew ca);generalize bw.drewN ca=dk at *;clear k LE;have c3:=bi.1;have RR:=zC (Ha p.cr.rows f.len F bg bh.1 c3 lR);rw[xU qH]at RR;obtain⟨u,V⟩:∃u,u=(zK t).drop A:=⟨_,rfl⟩
 rw[<- V]at RR;have c4:=zC V;have c5:u.length=(zK t).length-A:=by rw[V,xz]
 obtain⟨R,cb⟩:∃R,R=u.length:=⟨_,rfl⟩
 have bl:=zC cb;have ed:q+R<=8192:=by have:=c2.out;have:=N.1;omega
 clear V c5 cb;generalize G:(zK t).length=ee at *;clear G;go_wp2_with fail;refine RR.mono ?_;rintro j cc ⟨em,rfl,a2,a3⟩;obtain⟨dv,dw,cd⟩:=yw a2;rw[<- bl.out]at cd;subst cd;have c6:=a3.size;have af:=zC (λh(o:dk.heap.size<=h)=>p.far cx o);have ag:=zC (p.below a3);have bn:=zC a2;have bp:=zC (Jp ag.cr.rows f.len y r M.1);clear a2 a3 RR p;go_wp2_with fail;refine bp.mono ?_;rintro j wz ⟨rfl,a4,rfl⟩;have ah:=zC (ag.drew a4);have P:=zC (show jU (cc.drewN a4) _ _ u from zD bn (λh _=>rfl));generalize cc.drewN a4=ef at *;clear ag bn bp c6;have C:=zC (Ub ah.cr.rows f.len y r lR M.1 N.1 lR);have ai:=zC (j7 M.1 N.1 lR);obtain⟨H,a5⟩:∃H,H=delG s q (zK s).length:=⟨_,rfl⟩
 rw[<- a5]at C ai;have da:=zC a5;have db:=zC N.1;clear a5;generalize D:(zK s).length=eg at *;have bq:=zC D;go_wp2_with fail;refine C.mono ?_;rintro j dx ⟨rfl,u8,ce,dy,a6⟩;have aj:=zC (ah.row r ce a6 (λh o=>.inl (by simp_all)));have Q:=zC (show jU dx _ _ u from zD P (λh o=>a6.block h (P.lt h o).2 (af h (P.lt h o).1)));have dc:(gs.set (Zq a b d) H).length=n:=by rw[kC,f.out.len]
 have dd:(zK H).length=q:=by rw[ai.out.2];have:=db.out;have:=bq.out;simp only[xg,xi,xz];omega
 have br:=zC (Uc (p:=q) (ts:=u) (ap:=dv) (m:=R) (cp:=dw) aj.cr.rows dc (ZN y) (ZN r) lR ai.1 qF bl qF (λw' dm=>Sl.qa (zD Q (λh o=>dm.block h (Q.lt h o).2 (by rw[dy];exact af h (Q.lt h o).1)))));clear ce a6 C ah P D dd;go_wp2_with fail;refine br.mono ?_;rintro j b8 ⟨rfl,u9,cf,cg,ch⟩;have LB:=zC (aj.row (ZN r) cf cg ch);simp at LB;generalize bu:jh H q u=bx at *;have de:=zC bu;have df:(gs.set (Zq a b d) bx).length=n:=by rw[kC,f.out.len]
 have bs:=zC (So (a1:=d+1) (b1:=e+1) LB.cr df v (f.gz.set u9 bx) ⟨Y,qF⟩ lR qF qF);have dg:IntKind.i64.wrap (d+1)=((d+1:Nat)):=by rw[KJ _ qF qF];omega
 have dh:IntKind.i64.wrap (e+1)=((e+1:Nat)):=by rw[KJ _ qF qF];omega
 clear cf cg ch br aj Q af bu;go_wp2_with fail;refine bs.mono ?_;rintro j en ⟨rfl,dz,d0,ci,d1,cj,ck,cl,cm⟩
 have k:=zC (LB.rows ci cl (.inl rfl) (λbz T=>by
  rcases cm bz T with a7 | a7
  ·exact .inl a7
  exact .inr (.inl a7)))
 have di:=zC cj;have dj:=zC ck;clear ci cj ck cl cm bs LB dg dh;have p:=zC (k.setN (rn-m));obtain⟨dq,dr,ds,dt,du⟩:=k.out.cr.cells;have c0:=k.cr.fz 3;have z:=zC (p.forget (by rw[TI x];exact L) (by rw[TI x];omega));rw[ky,vu qF]at z;clear k p;go_wp2_with fail;refine z.mono ?_;rintro j b8 ⟨rfl,a0,K⟩;have ae:=zC K;clear K z;go_wp2;go_end0;refine⟨rfl,d,e,s,t,aa,bf,f.at y,f.at F,g,cap,n,_,_,a0,dz,d0,ae,d1,⟨qF,qF,Y⟩,di,?_⟩;rw[dj.out,U9 _ v.1 bj qF,jI,xJ bt,<- ab.out,<- ad.out,<- c4.out,bq.out,<- da.out,de.out,List.drop_set_of_lt qF]
end
def sliceF(c g cap n nl ga gb e d mm)(sv)(vs)(gs)(LS)(rn)(w)(Z:jQ w 0 w.heap.size c (qM (qD g 0) n cap) sv vs gs ga gb rn ((jL LS).take mm))(bi:gs.length=n)(df:ga<=gb/\gb<=n)(eh:n<=1048576)(ei:nl+(gb-ga)=n)(bj:LS.length=nl)(dg:nl<=8193)(bk:∀C,C<nl->∃L t,gs[Zq ga gb C]?=some L/\vs[Zq ga gb C]?=some t/\LS[C]?=some (zK L)/\Pm L)(dh:1<=mm)(di:mm<=nl)(bh:(jn LS).length<=8192)(ej:e<=d)(bl:d<=(jn LS).length):
  Calls prog 237 #[qO c 0,qC e,qC d] w λb bd=>∃bf,b=qQ bf/\jU bd w.heap.size bf (((jn LS).take d).drop e)/\qY w bd:=by
 obtain⟨an,ao,bn,bp,bq⟩:=vw Tryz.qc;have D:=zC (λq(u:Below _ w q)=>Z.below u lR Z.lt);have ae:=zC bi
 have b4:n<=cap:=by
  have j:=Z.rows.row;rw[bi]at j;rcases j.2 with ⟨b,_⟩ | ⟨_,_,_,b,_,_,ek,_⟩
  ·cases b
  simp_all
 have b5:=zC bk;have k:=zC bj;clear Z bk bj;obtain⟨M,dj⟩:∃M,M=d-e:=⟨_,rfl⟩
 have dz:d-(e:Int)=M:=qF
 have d0:M<=8192:=qF
 clear dj;have KN:=zC (λq u=>Gz 0 _ c mm e _ sv vs gs ga gb rn LS q (D q u) (by rw[k.out];exact di) dh (by rw[k.out];exact dg) qF);go_enter func237,ntmps237;go_wp2_with (at_make;refine wpList_make_own _ rfl _ _ 48 rfl _ 21 an _ 1 underlying48 ao bn bp _ _ _ M rfl rfl qF (by rw[bq];omega) qK lR ?_;intro U a3 A);have af:=zC (show Below _ w U from⟨A.os,A.tape,A.output,A.size,λC c5=>A.block C c5 qH⟩);have b6:=zC a3;clear a3 A;refine(KN U af).mono ?_;rintro b el ⟨r,rfl,br,dk,_,bs⟩;have b7:=bs.symm;subst b7;clear bs;have Q:=D U af;have aw:=zC (show((jL LS).take mm).length=mm by rw[xi,ji,k.out];omega);obtain⟨em,en,bt⟩:=ju Q.starts;rw[aw.out]at bt;have hst:=Q.starts;unfold Zr at hst;rw[aw.out]at hst;subst bt;rcases hst.2 with ⟨_,h⟩ | ⟨dl,eo,ep,h,_,_,eq,er,_⟩
 ·omega
 simp at h;obtain⟨rfl,rfl⟩:=h
 have ax:U.cell? (qP dl r)=some (qC ((zq LS r):Int)):=by
  have:=yL hst r br;rw[this];have j:=Y7 (ls:=LS) (i:=r) (by rw[k.out];omega);simp only[xP]at j |-;rw[vf,xS br,j];rfl
 obtain⟨_,_,_,_,dm⟩:=Q.cells;have d1:(r:Int)<mm:=qF
 have b8:=zC (λX(eg:X<=nl)=>(show zq LS X<=20000 from by
  have:=jl (ls:=LS) (by intro b;have:=k.out;rw[b]at this;simp at this;omega);have:=jB LS X;have:=k.out
  unfold zq;omega))
 have b9:=zC (show(jn LS).length<zq LS nl from by
  have:=jl (ls:=LS) (by intro b;have:=k.out;rw[b]at this;simp at this;omega);unfold zq;rw[xU (by rw[k.out];omega)];have:=k.out
  omega)
 have ca:=zC (λa=>(show(((jn LS).take (min d (zq LS a))).drop e).length<=8192 from by rw[xz,xi];omega));have SS:=zC (λa aj(v:LS[a]?=some aj)c6=>IE (lo:=e) v c6 bl);have SX:=zC (λa aj(v:LS[a]?=some aj)=>KL v);have cb:=zC (show((jn LS).take (min d (zq LS r))).drop e= []from kN (by rw[xi];omega));have d2:=zC bl;clear Q hst dk KN;generalize a9:zq LS r=ee at ax;have cc:=zC a9;clear a9;go_wp2_with fail;clear ax dm;go_loopw [7,8,9] (λbg ak da wr=>∃a:Nat,a<=nl/\ak=qC a/\da=qC ((zq LS a):Int)/\qY w wr/\jU wr w.heap.size bg (((jn LS).take (min d (zq LS a))).drop e)/\bg≠ .slice none 0 0) (λ_ ak _ _=>nl+1-(intOf ak).toNat)
 case atStart=>exact⟨r,qF,rfl,by rw[cc.out],af,by rw[cb.out];exact b6,qH⟩
 obtain⟨a,bu,rfl,rfl,aa,ab,ap⟩:=hrel;have y:=zC aa;have E:=zC ab;have NN:=zC ap;have d3:=b8 a bu;have d4:=ca a;obtain⟨dn,dp,rfl⟩:=yw ab;by_cases c0:zq LS a<d
 ·have cd:a<nl:=by
   rcases Nat.eq_or_lt_of_le bu with b | b
   ·have:=b9.out;rw[<- b]at this;omega
   exact b
  obtain⟨L,t,ac,aq,v,bv⟩:=b5 a cd;have ce:Zq ga gb a<n:=(by rw[<- ae.out];exact(xp.1 ac).1);have hst:=SS a _ v c0;have ay:=SX a _ v;have R:=D wr aa;have AT:=zC (atF c g cap n a ga gb wr ⟨R.cells.1,R.cells.2.1,R.cells.2.2.1⟩ df ce b4 qF);have S:=bv.1;have LE:=zC (λq u=>Jp (D q u).rows ae ac aq S);have RR:=zC (fun(db h) q u dc p=>Ha (a:=db) (b:=h) (D q u).rows ae ac aq S dc p);have d5:=(ZR S).2.1;generalize c1:zK L=bc at *;generalize c2:((jn LS).take (min d (zq LS a))).drop e=W at *;have T:=zC hst;have UU:=zC ay;generalize ba:bc.length=l at *;have cf:=zC ba;generalize c3:zq LS a=f at *;generalize V:W.length=B at *;have ag:=zC V;have cg:(f:Int)<d:=qF;clear aa ab ap ac aq v hst ay R S bv c1 c2 ba c3 V;generalize Zq ga gb a=ef at *;go_wp2_with fail;refine AT.mono ?_;rintro b wx ⟨rfl,ar,rfl⟩;have y:=zC (Zp y ar);have E:=zC (show jU (wr.drewN ar) _ _ W from zD E (λh _=>rfl));generalize wr.drewN ar=wr at *;have LE:=zC (LE wr y);clear AT;go_wp2_with fail;refine LE.mono ?_;rintro b wy ⟨rfl,nq,rfl⟩;have s:=zC (Zp y nq);have F:=zC (show jU (wr.drewN nq) _ _ W from zD E (λh _=>rfl));generalize wr.drewN nq=c4 at *;clear y E LE;by_cases a8:e<=f+l
  ·have ch:e<=(f:Int)+l:=qF
   obtain⟨m,bw⟩:∃m,m=e-f:=⟨_,rfl⟩
   obtain⟨N,bx⟩:∃N,N=min d (f+l):=⟨_,rfl⟩
   obtain⟨i,bz⟩:∃i,i=N-f:=⟨_,rfl⟩
   have d6:max (e-(f:Int)) 0=m:=qF;have d7:min (d:Int) (f+l)=N:=qF;have d8:N-(f:Int)=i:=qF;have ci:m<=i:=qF;have cj:i<=l:=qF;have hst:=T.1 a8;rw[<- bw,<- bx,<- bz]at hst;have G:=zC hst;have H:=zC (RR m i c4 s ci cj);clear hst T RR bw bx bz;have d9:i<=8192:=qF;obtain⟨O,au⟩:∃O,O=(bc.drop m).take (i-m):=⟨_,rfl⟩
   rw[<- au]at H G;have az:O.length=i-m:=(by rw[au,xi,xz,cf.out];omega);have z:=zC az;obtain⟨o,b0⟩:∃o,o=i-m:=⟨_,rfl⟩
   rw[<- b0]at z;have ea:o<=8192:=qF;have ck:=s.size;clear au az b0;go_upto_region 9 with fail;go_cut [7]from 26 to 63 (λdd wc=>∃Y al,dd= .slice Y (B+o) al/\wc.ownsRow w.heap.size 21 1 (qM Y (B+o) al) (B+o) (zI .i32 (W++O))/\(Y=none->B+o=0->False)/\qY w wc)
   case first=>
    go_wp2_with fail;refine H.mono ?_;rintro b dq ⟨es,rfl,ad,P⟩;have eb:=P.size;have a0:=zC (s.trans (P.mono ck))
    have I:=zC (by
     have j:=zE F P lR;unfold jU at j;rw[ag.out]at j
     exact j)
    rcases Jn ad with ⟨rfl,b1⟩ | ⟨dr,ds,rfl⟩
    ·have cl:o=0:=by have:=z.out;rw[b1]at this;simpa using this.symm
     subst b1 cl;clear ad P H F s;go_wp2_with (at_builtin;refine wpList_append_own_none rfl _ _ 48 rfl _ 21 an 1 underlying48 ao _ _ _ rfl I rfl ?_);go_meet;refine⟨dn,dp,qH,by simpa using I.out,λam de=>NN ?_,a0⟩;subst am;have:B=0:=qF;subst this;rcases I.out.2 with ⟨x,_⟩ | ⟨dt,du,dv,x,_⟩
     ·exact x
     simp at x
    have cm:=zC (show ∀a t,(zI _ O)[a]?=some t->dq.cell? (((qP dr 0):Addr).add a)=some t from λa t bh=>World.ownsRow.cells ad rfl a t bh);rw[z.out];clear ad P H F s;go_wp2_with (at_builtin;refine xM _ rfl _ _ 48 rfl _ 21 an _ 1 4 underlying48 ao bn bp bq rfl qG _ _ _ rfl I _ o ds _ rfl (by rw[zG,Qm,z.out]) cm (zJ _ _) qK qF qF ?_;intro cx ec ai a4 a5);have cn:=zC (show cx≠ .slice none 0 0 from λb=>NN (a5.1 b).1);have co:=zC (a0.grown a4 qF (λh p=>(I.lt h p).1));have a1:=zC ai;obtain⟨dw,dx,dy⟩:=jC ai;subst dy;clear ai a4 a5;go_wp2_with fail;go_meet;refine⟨dw,dx,rfl,by rw[zm];exact a1,λam de=>cn ?_,co⟩;subst am;rcases a1.2 with ⟨x,_⟩ | ⟨dt,du,dv,x,_⟩
    ·exact x
    simp at x
   obtain⟨Y,al,rfl,b2,b3,av⟩:=hcut;have ah:=zC b2;have a2:=zC av;have cp:=zC b3;have cq:=av.size;clear b2 av b3 H F s NN;by_cases p:f+l<d
   ·have cr:f+(l:Int)<d:=qF
    have hst2:=G.out;rw[xS p]at hst2;have J:=zC hst2;have cs:=zC (zV wc 21 [.int .i32 10]);clear hst2 G;go_wp2_with (at_builtin;refine a48 _ rfl _ _ rfl w.heap.size _ _ _ rfl (ah.alloc _) _ 1 1 [.int .i32 10] rfl rfl cs (zJ .i32 [10]) qK qF qJ ?_;intro cy ed a6 a7 cz)
    have ct:=zC (show cy≠ .slice none 0 0 from λb=>by
     simp_all)
    have cu:=zC ((a2.alloc cq (qR #[.int .i32 10] 21)).grown a7 qJ (λh p=>(ah.lt h p).1));have cv:=zC a6;clear a6 a7 cz;have K:a+1<=nl:=qF;go_wp2;go_roundw
    case rel=>
     refine⟨a+1,K,qL,by rw[UU.out];go_num,cu,?_,ct⟩;rw[UU.out,<- J.out];unfold jU;rw[xg,xg,ag.out,z.out,zm];exact cv
    simp[intOf];omega
   have cr:¬f+(l:Int)<d:=qF;have hst2:=G.out;rw[xJ p,vT]at hst2;have J:=zC hst2;have K:a+1<=nl:=qF;clear hst2 G;go_wp2;go_roundw
   case rel=>
    refine⟨a+1,K,qL,by rw[UU.out];go_num,a2,?_,λb=>?_⟩
    ·rw[UU.out,<- J.out]
     unfold jU;rw[xg,ag.out,z.out];exact ah
    simp only[jW]at b;exact cp b.1 b.2.1
   simp[intOf];omega
  have ch:¬e<=(f:Int)+l:=qF;have J:=zC (T.2 a8);have K:a+1<=nl:=qF;clear T RR;go_wp2;go_roundw
  case rel=>
   refine⟨_,K,qL,by rw[UU.out];go_num,s,?_,NN⟩;rw[UU.out,J.out];exact F
  simp[intOf];omega
 have cg:¬ ((zq LS a):Int)<d:=qF
 have cw:=zC (show((jn LS).take (min d (zq LS a))).drop e=((jn LS).take d).drop e by simp_all);generalize zq LS a=f at *;generalize V:(((jn LS).take _).drop e).length=B at *;clear ab aa V ap;go_wp2;go_ret;refine⟨_,rfl,?_,y⟩;rw[<- cw.out];exact E
def Ku(b:List (qV)):qV:=b.flatMap (λa=>a++ [10])
def FH(b:List (qV)):qV:=b.flatMap (λa=>10::a)
def Ud(a Y)(e:Y≠ []):jn (a++Y)=Ku a++jn Y:=by
 induction a with
 | nil=>simp[Ku]
 | cons b a f=>
  have c:a++Y≠ []:=by simp[e]
  have d:jn (b::(a++Y))=b++10::jn (a++Y):=by
   cases hA:a++Y with
   | nil=>exact absurd hA c
   | cons g h=>rfl
  rw[vI,d,f];simp[Ku]
def Hb(b):∀(a),a≠ []->jn (a++b)=jn a++FH b:=by
 induction b with
 | nil=>intro a _;simp[FH]
 | cons c b f=>
  intro a e;have d:a++c::b=(a++ [c])++b:=qH;rw[d,f _ qH,jn_snoc e];simp[FH]
def Sq(a):(Ku a).length=jR a+a.length:=by
 induction a with
 | nil=>rfl
 | cons b a d=>
  have c:Ku (b::a)=b++ [10]++Ku a:=(by simp[Ku]);rw[c];simp only[xg,vh,ke,d,jR];omega
def Hc{LS k T}(b:LS[k]?=some T):jn LS=Ku (LS.take k)++(T++FH (LS.drop (k+1)))/\(Ku (LS.take k)).length=zq LS k:=by
 have c:=(xp.1 b).1
 have d:LS=LS.take k++([T]++LS.drop (k+1)):=by
  have a:=vy k LS
  have e:LS.drop k=T::LS.drop (k+1):=by
   rw[vN c];have:=(xp.1 b).2;rw[this]
  rw[e]at a;exact a.symm
 refine⟨?_,?_⟩
 ·conv=>lhs;rw[d]
  rw[Ud _ _ qH,Hb _ _ qH];simp[jn,jt]
 rw[Sq];unfold zq;simp;omega
def FJ{L M k}(c:L.take k=M.take k)(e:k<L.length)(f:k<M.length):(jL L).take (k+1)=(jL M).take (k+1):=by
 apply kZ;intro b;rw[vf,vf]
 split
 ·rename_i d
  rw[UV qF,UV qF]
  have a:=by
   have:=ko (List.take b) c;rw[ky,ky,vu qF]at this;exact this
  rw[a]
 rfl
def Hd:∀a:qV,jn (yI a)=a
 | []=>by rfl
 | e::a=>by
  have b:=Hd a;have c:=YK a;rw[c]at b;simp only[jn]at b;by_cases d:e=10
  ·subst d
   rw[XE,c];simp only[jn,jt,vq];rw[b]
  simp only[yI,xJ d,jn,vI];rw[b]
def He:∀(e)(b),b∈yI e->10∉b
 | [],b,a=>by simp[yI]at a;subst a;simp
 | h::e,b,a=>by
  have d:=He e;have g:=YK e;rw[g]at d;by_cases f:h=10
  ·subst f
   rw[XE,g]at a;rcases kS.1 a with a | a
   ·subst a;simp
   exact d b a
  simp only[yI,xJ f]at a;rcases kS.1 a with a | a
  ·subst a
   intro c;rcases kS.1 c with c | c
   ·exact f c.symm
   exact d _ qH c
  exact d b (kM _ a)
def Yw(l):zK (Y4 l)=l:=by
 simp[zK,Y4,zW]
def Oc(a:List (qV)):(a.map Y4).map zK=a:=by
 rw[List.map_map]
 conv=>rhs;rw[<- List.map_id a]
 exact List.map_congr_left (λb _=>Yw b)
def Od(a b):js (a++b)=js a+js b:=by unfold js;rw[List.filter_append,xg];omega
def Sr{a}(d:10∉a):js a=0:=by
 unfold js;rw[List.filter_eq_nil_iff.2 (λe c=>by simp;intro b;subst b;exact d c)];rfl
def Kw:∀{a},a≠ []->(∀d∈a,10∉d)->js (jn a)=a.length-1
 | [],b,_=>absurd rfl b
 | [c],_,b=>by have:=Sr (b c qH);simp[jn,jt];exact this
 | c::e::a,_,b=>by
  have f:jn (c::e::a)=c++([10]++jn (e::a)):=(by simp[jn,jt]);rw[f,Od,Od,Sr (b c qH),Kw qH (λd g=>b d (by simp_all))];have:js [10]=1:=rfl;rw[this];simp;omega
def jQ.keep{w w' hi hi' c g cap n sv vs gs a b rn st}(e:jQ w 0 hi c (qM (qD g 0) n cap) sv vs gs a b rn st)(j:∀d,zAu c g sv vs d->w'.heap[d]? =w.heap[d]?)(k:hi<=hi'):jQ w' 0 hi' c (qM (qD g 0) n cap) sv vs gs a b rn st:=
 ⟨(j c (.inl rfl)).trans e.blk,⟨zD e.rows.row (λd f=>j d (.inr (.inl (by simp only[Value.ownBlock,xE]at f;exact f.symm)))),yW e.rows.bl k,
  ⟨e.rows.nest.len,λl h m i o=>zD (e.rows.nest.own l h m i o) (λd f=>j d (.inr (.inr (.inr ⟨h,xH i,f⟩)))),λh i=>yW (e.rows.nest.bl h i) k,e.rows.nest.ne⟩⟩,
  zD e.starts (λd f=>j d (.inr (.inr (.inl f)))),yW e.sbl k⟩
def jQ.cos{w f c g cap n sv vs gs a b rn st}(d:jQ w 0 f c (qM (qD g 0) n cap) sv vs gs a b rn st){q}(e:zAu c g sv vs q):q<w.heap.size:=by
 rcases e with rfl | rfl | e | ⟨j,k,e⟩
 ·exact d.lt
 ·exact(d.rows.row.lt _ rfl).2
 ·exact(d.starts.lt q e).2
 obtain⟨h,f⟩:=kH k;have i:h<(gs.map Gr.cells).length:=by rw[<- d.rows.nest.len];exact(xp.1 f).1
 exact((d.rows.nest.own h j _ f (xw i)).lt q e).2
structure CL(w:qS)(F:Nat->Prop)(c:Nat)(e:qV)(g cap n a b mm:Nat)(f:qT)(vs:qU)(d:List Gr):Prop where
 cr:jQ w 0 w.heap.size c (qM (qD g 0) n cap) f vs d a b e.length ((jL ((lg d a b).map zK)).take mm)
 len:d.length=n
 ab:a<=b/\b<=n
 n:n<=1048576
 ok:∀x∈lg d a b,Pm x
 te:jn ((lg d a b).map zK)=e
 bd:e.length<=8192
 mm:1<=mm/\mm<=(lg d a b).length
 off:∀q,zAu c g f vs q->¬F q
def CL.ll{w F c tx g cap n a b mm sv vs ps}(d:CL w F c tx g cap n a b mm sv vs ps):(lg ps a b).length+(b-a)=n/\((lg ps a b).map zK).length=(lg ps a b).length/\(lg ps a b).length<=8193:=by
 have i:=XZ d.ab.1 (by rw[d.len];exact d.ab.2);have:=d.len;have:=d.ab;refine⟨qF,qH,?_⟩;have e:=jl (ls:=(lg ps a b).map zK) (by intro h;have:=d.mm;have f:=ko List.length h;simp at f;simp[f]at this;omega);rw[d.te]at e;have:=d.bd;simp at e;omega
def CL.sb{w F c tx g cap n a b mm sv vs ps}(e:CL w F c tx g cap n a b mm sv vs ps):∀d,d<(lg ps a b).length->∃f m,ps[Zq a b d]?=some f/\vs[Zq a b d]?=some m/\((lg ps a b).map zK)[d]?=some (zK f)/\Pm f:=by
 intro d l;have j:=Ev d e.ab.1 (by rw[e.len];exact e.ab.2);have h:=xw l;have i:ps[Zq a b d]?=some (lg ps a b)[d]:=by rw[<- j];exact h
 have k:Zq a b d<vs.length:=by rw[e.cr.rows.len];exact(xp.1 i).1
 exact⟨_,_,i,xw k,by simp_all,e.ok _ (xH h)⟩
def CrL(j:qS)(n k:Nat->Prop)(l o:Nat)(m:qV):Prop:=∃a b c d e f g h i,CL j k l m a b c d e f g h i
def lenL:∀(a)(d e)b f c,CrL a d e b f c->Calls prog 231 #[qO b 0] a λh i=>h=qQ (qC c.length)/\qY a i:=by
 rintro a d e b j c ⟨k,l,f,m,n,o,p,q,r,g⟩;obtain⟨s,t,u,v,w⟩:=g.cr.cells;clear g;go_enter func231,ntmps231;go_wp2;go_ret;exact⟨rfl,xe _ _⟩
def brkL:∀(b)(h i)d e f,CrL b h i d e f->Calls prog 229 #[qO d 0] b λc m=>c=qQ (qC (js f))/\qY b m:=by
 rintro b h i d x f ⟨y,o,e,j,k,z,A,B,C,a⟩;obtain⟨D,g,E⟩:=a.ll;obtain⟨p,q,r,F,G⟩:=a.cr.cells;have u:=a.ab;have v:=a.n;have LE:=zC (Yd d 0 _ e o j k b ⟨p,q,r⟩ qF qF qF qF)
 have l:=zC (show js f=e-(k-j)-1 from by
  rw[<- a.te,Kw (by intro c;have:=a.mm;rw[c]at g;simp at g;omega) (λw n=>by
   obtain⟨s,t,rfl⟩:=Qt.1 n
   exact(a.ok s t).2),g]
  omega)
 clear a;go_enter func229,ntmps229;go_wp2_with fail;refine LE.mono ?_;rintro c H ⟨rfl,I,rfl⟩;go_wp2;go_ret;exact⟨by rw[l.out];rfl,⟨rfl,rfl,rfl,lR,λ_ _=>rfl⟩⟩
def plG_okF{l}(c:10∉l)(e:l.length<=8192):Pm (Y4 l):=by
 refine⟨⟨⟨by simp[Y4];omega,by simp[Y4],by simp[Y4],by simp[Y4];omega⟩,λd a b=>?_⟩,by rw[Yw];exact c⟩;simp[Y4]at a b;omega
def cutL0(w):Calls prog 47 #[qN] w λf g=>∃a h,f=qQ a/\g.ownsRow w.heap.size 48 1 a 1 h/\Kr w h [[]]/\qY w g:=by
 obtain⟨r,s,t,u,v⟩:=vw Tryz.infoS;go_enter func47,ntmps47;go_wp2_with fail;go_loopw [0,3] (λp ls wr=>p= .slice none 0 0/\ls= .slice none 0 0/\wr=w) (λ_ _ _=>0)
 case atStart=>simp
 obtain⟨rfl,rfl,rfl⟩:=hrel;go_wp2_with fail;refine(RE _).mono ?_;rintro f C ⟨rfl,k⟩;have l:=k.symm;subst l;clear k;have m:=zC (zV wr 48 [qN]);go_wp2_with (at_builtin;refine xM _ rfl _ _ 83 rfl wr.heap.size 48 r _ 1 24 underlying83 s t u v rfl qG _ _ _ rfl (xR _ _ _ _) _ 1 1 _ rfl rfl m (by intro x c;simp at c;subst c;rfl) qK qF qH ?_;intro y z d e _);have n:=zC (((xe wr.heap.size wr).alloc qF _).grown e qH (λA q=>by cases q));have o:=zC d;clear d e;go_wp2;go_ret;refine⟨_,[qN],rfl,o,⟨rfl,λi a B b j=>?_⟩,n⟩;cases i with
 | zero=>
  simp at b j;subst b j;exact .inl ⟨rfl,rfl⟩
 | succ i=>simp at b
def loadLn(w):
  Calls prog 21 #[qN] w λd e=>∃f A B j,d=qQ (qO f 0)/\w.heap.size<=f/\f<e.heap.size/\jQ e w.heap.size e.heap.size f (qM (qD A 0) 1 1) B j [Y4 []] 1 1 0 [0]/\qY w e:=by
 have m:=zC (cutL0 w);go_enter func21,ntmps21;go_wp2_with fail;refine m.mono ?_;rintro d g ⟨J,C,rfl,k,q,h⟩;rcases k.2 with ⟨_,b⟩ | ⟨gl,D,K,rfl,_⟩
 ·omega
 have n:=zC (plainRowsN _ [] _ gl D C _ g 0 rfl k (q.below h) (.inl ⟨rfl,rfl⟩) qF (λH I=>by simp_all) qH);have s:=zC h;have t:=h.size;clear k q h m;go_wp2_with fail;refine n.mono ?_;rintro d E ⟨j,rfl,r,l⟩;have o:=zC r;have u:=zC (s.trans (l.mono t));have F:=l.size;clear r l n;go_wp2_with fail;refine(plainRN _ _ _ E).mono ?_;rintro d a ⟨rfl,i⟩;have v:=zC (o.frame (λb _ c=>i.block b c));have x:=zC (u.trans (i.mono qF));have G:=i.size;clear i o;have y:=zC ((xe _ a).alloc lR (qR #[qC 0] 3));have p:=zC (y.alloc qH (qR #[qM (qD g.heap.size 0) 1 1,qC 1,qC 1,qC 0,qM (qD a.heap.size 0) 1 1] 103));go_wp2;go_ret;refine⟨_,g.heap.size,qM (qD a.heap.size 0) 1 1,j,rfl,?_,?_,⟨?_,?_,?_,?_⟩,?_⟩
 ·first | omega
 ·first | simp
 ·have z:=xI (a.alloc (qR #[qC 0] 3)) (qR #[qM (qD g.heap.size 0) 1 1,qC 1,qC 1,qC 0,qM (qD a.heap.size 0) 1 1] 103)
  first | simpa using z
 ·exact(v.frame (λb _ c=>p.block b qF)).mono qF qJ
 ·exact(World.ownsRow_lit a _ 1 qF qF rfl).alloc _
 ·intro b c
  simp only[Value.ownBlock,xE]at c;simp;omega
 exact x.trans (p.mono qF)
noncomputable def X9 (k k2:Nat) (x y:Gr) (c1 c2:Nat):Gr:=if k=k2 then delG x c1 c2 else jh (delG x c1 (zK x).length) c1 ((zK y).drop c2)
def Ln.mono{L a b k k2}(c:Ln L a k)(e:Ln L b k2)(i:a<=b):k<=k2:=by
 rcases vV k2 k with d | d
 ·have f:=e.2.2 (by have:=c.1;omega)
  have g:=J0 L (show k2+1<=k by omega);have h:=c.2.1;omega
 exact d
def Xa{LS}{d c:Nat}{a b}(i:d<c)(j:LS[d]?=some a)(f:LS[c]?=some b)(o:(jn LS).length<=8192):a.length+b.length<=8192:=by
 have g:(LS.take c)[d]?=some a:=by rw[vf,xS i];exact j
 have k:=Yj g;have l:=jf f;have m:=jB LS (c+1);have e:=(xp.1 f).1;have n:=jl (ls:=LS) (by intro h;rw[h]at e;simp at e);omega
def Pz{α:Type}{b:List α}{k}(a)(c:k<b.length):b.set k a=b.take k++ [a]++b.drop (k+1):=by
 rw[List.set_eq_take_append_cons_drop,xS c];simp
def YS{gs k k2 x y c1 c2}(a:k<gs.length):jI gs k k2 x y c1 c2=gs.take k++ [X9 k k2 x y c1 c2]++gs.drop (k2+1):=by
 unfold jI X9
 split
 ·rename_i b;subst b;exact Pz _ a
 rw[Pz _ a,vB qJ];rw[xU qJ]
def lns_gl(a z)(c:10∉a):yI (a++z)=(a++(yI z).headD [])::(yI z).tail:=by
 induction a with
 | nil=>exact YK z
 | cons f a g=>
  have d:f≠10:=λb=>c (by simp[b])
  have e:10∉a:=λb=>c (by simp[b])
  have:=g e;simp only[vI,yI,xJ d,this];simp
def Sv(a t)(f:10∉t):yI (a++t)=(yI a).dropLast++ [(yI a).getLastD []++t]:=by
 induction a with
 | nil=>simp[yI,TJ f]
 | cons g a e=>
  by_cases d:g=10
  ·subst d
   rw[vI,XE,XE,e];have c:=Kc a;cases hz:yI a with
   | nil=>exact absurd hz c
   | cons h b=>simp
  have c:=Kc a;simp only[vI,yI,xJ d,e];cases hz:yI a with
  | nil=>rfl
  | cons h b=>
   cases b with
   | nil=>simp
   | cons i b=>simp
def plG_ok{l}(a:10∉l)(e:l.length<=8192):Pm (Y4 l):=by
 refine⟨?_,by rw[Yw];exact a⟩;exact Ua ⟨lR,lR,λb c d=>qF,by show l.length<=65536;omega,by show l.length-(l.length-l.length)<=8192;omega⟩ rfl rfl
def plR_map(L)(t):(Us L t).map zK=L.dropLast++ [L.getLastD []++t]:=by
 unfold Us;rw[vX,List.map_map];have a:(zK∘Y4)=id:=by funext l;exact Yw l
 rw[a];simp[Yw]
def Oe{x cc ts}(f:Pm x)(j:cc<=(zK x).length)(q:(zK x).length+ts.length<=8192):(if(yI ts).length=1 then [jh x cc ts]else Ey x cc (yI ts)).map zK=yI ((zK x).take cc++(ts++(zK x).drop cc)):=by
 have g:10∉(zK x).take cc:=λa=>f.2 (vO a)
 have k:10∉(zK x).drop cc:=λa=>f.2 (vS a)
 split
 ·rename_i d
  have r:=lns_one d;have:=(YD f.1 j q).2;simp only[QV,List.map_nil,this];rw[TJ];intro a;rcases vD.1 a with a | a
  ·exact g a
  simp_all
 rename_i d;obtain⟨e,b,c⟩:∃e b,yI ts=e::b:=⟨_,_,YK ts⟩
 have l:b≠ []:=by
  intro a;rw[a]at c;rw[c]at d;exact d rfl
 have s:e.length<=ts.length:=ZU (by rw[c];simp);have h:=j7 f.1 j lR;have i:zK (delG x cc (zK x).length)=(zK x).take cc:=by rw[h.2];simp
 have t:(zK (delG x cc (zK x).length)).length=cc:=by rw[i];simp;omega
 have m:=(YD (p:=cc) (ts:=e) h.1 qF qF).2;unfold Ey;rw[vX,plR_map,c];simp only[List.headD_cons,List.tail_cons,QV,List.map_nil,m,i];rw[lns_gl _ _ g,Sv _ _ k,c];have n:((zK x).take cc).take cc=(zK x).take cc:=by rw[ky,Nat.min_self]
 have o:((zK x).take cc).drop cc= []:=vx qJ;rw[n,o];cases b with
 | nil=>exact absurd rfl l
 | cons u b=>simp
def KO{gs k off x ts}(e:gs[k]?=some x)(l:∀g∈gs,Pm g)(m:Ln (gs.map zK) off k)(n:off<=(jn (gs.map zK)).length)(v:(jn (gs.map zK)).length+ts.length<=8192):
  (jJ gs k x (off-zq (gs.map zK) k) ts).map zK=(gs.map zK).take k++yI ((zK x).take (off-zq (gs.map zK) k)++(ts++(zK x).drop (off-zq (gs.map zK) k)))++(gs.map zK).drop (k+1)/\
  jn ((jJ gs k x (off-zq (gs.map zK) k) ts).map zK)=(jn (gs.map zK)).take off++(ts++(jn (gs.map zK)).drop off):=by
 have a:(gs.map zK)[k]?=some (zK x):=by rw[xZ,e];rfl
 have c:=m.colF n a;have f:=l x (xH e)
 have r:(zK x).length<=(jn (gs.map zK)).length:=by
  have s:=Yj a;have t:=jl (ls:=gs.map zK) (by intro j;rw[j]at a;simp at a);have u:1<=(gs.map zK).length:=(by have:=(xp.1 a).1;omega);omega
 obtain⟨b,o⟩:∃b,b=off-zq (gs.map zK) k:=⟨_,rfl⟩
 rw[<- o]at c |-;have h:=Oe (ts:=ts) f c.1 qF
 have d:(jJ gs k x b ts).map zK=(gs.map zK).take k++yI ((zK x).take b++(ts++(zK x).drop b))++(gs.map zK).drop (k+1):=by
  unfold jJ;rw[vX,vX,h,Qw,Qn]
 refine⟨d,?_⟩;obtain⟨p,q⟩:=Hc a;rw[d,vK,Ud _ _ (by simp[Kc]),Hb _ _ (Kc _),Hd,p];have i:off=(Ku ((gs.map zK).take k)).length+b:=by rw[q];omega
 rw[i,QJ,QK];rw[vB c.1,ki c.1];simp
def UA{k k2 x y c1 c2}(e:Pm x)(g:c1<=(zK x).length)(h:c2<=(zK y).length)(i:k=k2->x=y/\c1<=c2)(j:k≠k2->(zK x).length+(zK y).length<=8192):Kq (X9 k k2 x y c1 c2).cells (X9 k k2 x y c1 c2).lo (X9 k k2 x y c1 c2).hi/\zK (X9 k k2 x y c1 c2)=(zK x).take c1++(zK y).drop c2:=by
 unfold X9
 split
 ·rename_i a
  obtain⟨rfl,l⟩:=i a;exact j7 e.1 l h
 rename_i a;have b:=j7 e.1 g lR;have c:zK (delG x c1 (zK x).length)=(zK x).take c1:=by rw[b.2];simp
 have f:(zK (delG x c1 (zK x).length)).length=c1:=by rw[c];simp;omega
 have m:=j a;have d:=YD (p:=c1) (ts:=(zK y).drop c2) b.1 qF (by rw[f,xz];omega);refine⟨d.1,?_⟩;rw[d.2,c];have n:((zK x).take c1).take c1=(zK x).take c1:=by rw[ky,Nat.min_self]
 have o:((zK x).take c1).drop c1= []:=vx qJ
 simp_all
def KQ{gs k k2 a b x y}(l:gs[k]?=some x)(B:gs[k2]?=some y)(C:∀g∈gs,Pm g)(n:Ln (gs.map zK) a k)(o:Ln (gs.map zK) b k2)(D:a<=b)(E:b<=(jn (gs.map zK)).length)(F:(jn (gs.map zK)).length<=8192):
  (jI gs k k2 x y (a-zq (gs.map zK) k) (b-zq (gs.map zK) k2)).map zK=(gs.map zK).take k++ [(zK x).take (a-zq (gs.map zK) k)++(zK y).drop (b-zq (gs.map zK) k2)]++(gs.map zK).drop (k2+1)/\
  jn ((jI gs k k2 x y (a-zq (gs.map zK) k) (b-zq (gs.map zK) k2)).map zK)=(jn (gs.map zK)).take a++(jn (gs.map zK)).drop b:=by
 have e:(gs.map zK)[k]?=some (zK x):=by rw[xZ,l];rfl
 have f:(gs.map zK)[k2]?=some (zK y):=by rw[xZ,B];rfl
 have h:=n.colF qF e;have i:=o.colF E f;have K:=n.mono o D;have r:=C x (xH l);have s:=(xp.1 l).1;obtain⟨c,p⟩:∃j,j=a-zq (gs.map zK) k:=⟨_,rfl⟩
 obtain⟨d,q⟩:∃j,j=b-zq (gs.map zK) k2:=⟨_,rfl⟩
 rw[<- p]at h;rw[<- q]at i;rw[<- p,<- q]
 have t:=(UA (k:=k) (k2:=k2) r h.1 i.1 (λA=>by
  simp_all) (λA=>Xa qF e f F)).2
 have m:(jI gs k k2 x y c d).map zK=(gs.map zK).take k++ [(zK x).take c++(zK y).drop d]++(gs.map zK).drop (k2+1):=by
  rw[YS s,vX,vX,Qw,Qn];simp[t]
 refine⟨m,?_⟩;obtain⟨G,H⟩:=Hc e;obtain⟨I,J⟩:=Hc f;rw[m,vK,Ud _ _ qH,Hb _ _ qH];have u:a=(Ku ((gs.map zK).take k)).length+c:=by rw[H];omega
 have v:b=(Ku ((gs.map zK).take k2)).length+d:=by rw[J];omega
 have w:(jn (gs.map zK)).take a=Ku ((gs.map zK).take k)++(zK x).take c:=by
  rw[G,u,QJ,vB h.1]
 have z:(jn (gs.map zK)).drop b=(zK y).drop d++FH ((gs.map zK).drop (k2+1)):=by
  rw[I,v,QK,ki i.1]
 rw[w,z];simp[jn,jt]
def zBm{G m}(e:∀g∈G,Pm g)(f:(jn (G.map zK)).length<=8192)(i:1<=m)(b:m<=G.length):LV G ((jL (G.map zK)).take m):=by
 have a:(G.map zK).length=G.length:=xO _;have c:((jL (G.map zK)).take m).length=m:=by rw[xi,ji,a];omega
 have h:=jl (by intro d;have:=ko List.length d;rw[a]at this;simp at this;rw[this]at b;simp at b;omega);refine⟨⟨qF,qF,qF,qF⟩,e,f,?_⟩;rw[c]
def Sw{l}(d:l.length<=8192):Kq (Y4 l).cells (Y4 l).lo (Y4 l).hi:=
 Ua ⟨lR,lR,λa b c=>qF,by show l.length<=65536;omega,by show l.length-(l.length-l.length)<=8192;omega⟩ rfl rfl
def mid_ok{x cc ts}(c:Pm x)(d:cc<=(zK x).length)(h:(zK x).length+ts.length<=8192):∀b∈(if(yI ts).length=1 then [jh x cc ts]else Ey x cc (yI ts)),Pm b:=by
 have i:=Oe c d h;intro b a
 have e:zK b∈yI ((zK x).take cc++(ts++(zK x).drop cc)):=by
  rw[<- i];exact List.mem_map_of_mem a
 have f:=ZU e;refine⟨?_,He _ _ e⟩
 split at a
 ·rw[kR]at a
  subst a;exact(YD c.1 d h).1
 unfold Ey at a;rcases vD.1 a with a | a
 ·rw[kR]at a
  subst a;have g:=j7 c.1 d lR;have j:(zK (delG x cc (zK x).length)).length=cc:=by rw[g.2];simp;omega
  have k:((yI ts).headD []).length<=ts.length:=by
   cases hL:yI ts with
   | nil=>simp
   | cons n o=>exact ZU (by rw[hL];simp)
  exact(YD g.1 qF qF).1
 unfold Us at a;have l:((zK x).take cc++(ts++(zK x).drop cc)).length=(zK x).length+ts.length:=by simp only[xg,xi,xz];omega
 rcases vD.1 a with a | a
 ·obtain⟨m,_,rfl⟩:=Qt.1 a
  rw[Yw]at f;exact Sw qF
 rw[kR]at a;subst a;rw[Yw]at f;exact Sw qF
def IF{gs k off x ts}(e:gs[k]?=some x)(f:∀d∈gs,Pm d)(i:Ln (gs.map zK) off k)(j:off<=(jn (gs.map zK)).length)(q:(jn (gs.map zK)).length+ts.length<=8192):
  LV (jJ gs k x (off-zq (gs.map zK) k) ts) ((jL (gs.map zK)).take (k+1)):=by
 have c:(gs.map zK)[k]?=some (zK x):=by rw[xZ,e];rfl
 have h:=i.colF j c;have m:=f x (xH e);have s:=(xp.1 e).1
 have t:(zK x).length<=(jn (gs.map zK)).length:=by
  have u:=Yj c;have v:=jl (ls:=gs.map zK) (by intro p;rw[p]at c;simp at c);have w:1<=(gs.map zK).length:=(by have:=(xp.1 c).1;omega);omega
 obtain⟨g,l⟩:=KO e f i j q;obtain⟨b,r⟩:∃b,b=off-zq (gs.map zK) k:=⟨_,rfl⟩
 rw[<- r]at h g l |-;have n:=mid_ok (ts:=ts) m h.1 qF
 have o:k<(jJ gs k x b ts).length:=by
  have:=ko List.length g;rw[xO]at this;have y:=(j9 ((zK x).take b++(ts++(zK x).drop b))).1;simp only[xg,xi,xO]at this;omega
 have hst:(jL (gs.map zK)).take (k+1)=(jL ((jJ gs k x b ts).map zK)).take (k+1):=by
  refine FJ ?_ (by simp_all) (by rw[xO];exact o);rw[g,vK,vB qJ,ky,Nat.min_self]
 rw[hst];refine zBm (λd a=>?_) ?_ qF qF
 ·unfold jJ at a
  rcases vD.1 a with a | a
  ·rcases vD.1 a with a | a
   ·exact f d (vO a)
   exact n d a
  exact f d (vS a)
 rw[l];simp;omega
def IH{gs k k2 a b x y}(g:gs[k]?=some x)(i:gs[k2]?=some y)(e:∀f∈gs,Pm f)(j:Ln (gs.map zK) a k)(l:Ln (gs.map zK) b k2)(t:a<=b)(u:b<=(jn (gs.map zK)).length)(v:(jn (gs.map zK)).length<=8192):
  LV (jI gs k k2 x y (a-zq (gs.map zK) k) (b-zq (gs.map zK) k2)) ((jL (gs.map zK)).take (k+1)):=by
 have m:(gs.map zK)[k]?=some (zK x):=by rw[xZ,g];rfl
 have n:(gs.map zK)[k2]?=some (zK y):=by rw[xZ,i];rfl
 have o:=j.colF qF m;have p:=l.colF u n;have I:=j.mono l t;have q:=e x (xH g);have E:=e y (xH i);have r:=(xp.1 g).1;obtain⟨w,z⟩:=KQ g i e j l t u v;obtain⟨A,B⟩:∃h,h=a-zq (gs.map zK) k:=⟨_,rfl⟩
 obtain⟨C,D⟩:∃h,h=b-zq (gs.map zK) k2:=⟨_,rfl⟩
 rw[<- B]at o;rw[<- D]at p;rw[<- B,<- D]at w z |-
 have s:=UA (k:=k) (k2:=k2) q o.1 p.1 (λd=>by
  simp_all) (λd=>Xa qF m n v)
 have F:=s.1;have G:=s.2
 have H:(jI gs k k2 x y A C).length=k+1+(gs.length-(k2+1)):=by
  rw[YS r];simp;omega
 have hst:(jL (gs.map zK)).take (k+1)=(jL ((jI gs k k2 x y A C).map zK)).take (k+1):=by
  refine FJ ?_ (by simp_all) (by rw[xO,H];omega);rw[w,vK,vB qJ,ky,Nat.min_self]
 rw[hst];refine zBm (λf c=>?_) ?_ qF qF
 ·rw[YS r]at c
  rcases vD.1 c with c | c
  ·rcases vD.1 c with c | c
   ·exact e f (vO c)
   rw[kR]at c;subst c;refine⟨F,?_⟩;rw[G];intro d;rcases vD.1 d with d | d
   ·exact q.2 (vO d)
   exact E.2 (vS d)
  exact e f (vS c)
 rw[z];simp;omega
noncomputable def Mi (LS:List (List Int)) (off:Nat):Nat:=open Classical in if h:∃k,Ln LS off k then h.choose else 0
noncomputable def mAt (LS:List (List Int)) (s0 off:Nat):Nat:=open Classical in if h:∃m,Kn LS s0 off m then h.choose else 0
def Ln.at{LS off a}(c:Ln LS off a):Mi LS off=a:=by
 have b:∃a,Ln LS off a:=⟨a,c⟩
 unfold Mi;rw[dif_pos b];exact b.choose_spec.uniq c
def Kn.at{LS s0 off a}(c:Kn LS s0 off a):mAt LS s0 off=a:=by
 have b:∃a,Kn LS s0 off a:=⟨a,c⟩
 unfold mAt;rw[dif_pos b];exact b.choose_spec.uniq c
abbrev LB:=List Gr×qV
def LB.ls(a:LB):List (qV):=a.1.map zK
noncomputable def J2 (s:LB) (off:Nat) (ts:List Int):LB:=(jJ s.1 (Mi s.ls off) (s.1.getD (Mi s.ls off) YJ) (off - zq s.ls (Mi s.ls off)) ts,(jL s.ls).take (Mi s.ls off+1))
noncomputable def Ju (s:LB) (off m:Nat):LB:=(jI s.1 (Mi s.ls off) (Mi s.ls (off+m)) (s.1.getD (Mi s.ls off) YJ) (s.1.getD (Mi s.ls (off+m)) YJ) (off - zq s.ls (Mi s.ls off)) (off+m - zq s.ls (Mi s.ls (off+m))),(jL s.ls).take (Mi s.ls off+1))
def jw(a:qV):LB:=((yI a).map Y4,[0])
noncomputable def Yx (s:LB) (off:Nat):LB:=(s.1,(jL s.ls).take (mAt s.ls s.2.length off))
def KS(a:LB)(b:Nat):LB:=(a.1,(jL a.ls).take (max a.2.length (b+1)))
def J3(j:qS)(m:Nat->Prop)(k:Nat)(b:LB):Prop:=∃g l c d a h f e,jQ j 0 j.heap.size k (qM (qD g 0) c l) h f e d a (jn b.ls).length b.2/\e.length=c/\(d<=a/\a<=c/\c<=65536)/\GZ f e d a/\lg e d a=b.1/\LV b.1 b.2/\∀i,zAu k g h f i->¬m i
def jQ.cty{w j c g cap n a b sv vs gs rn st}(f:jQ w 0 j c (qM (qD g 0) n cap) sv vs gs a b rn st){q}(h:zAu c g sv vs q):∃(d:qX)(k:TypeId)(e:Nat×Nat),w.heap[q]?=some (qR d k e)/\k∉WL:=by
 rcases h with rfl | rfl | h | ⟨o,p,h⟩
 ·exact⟨_,_,_,f.blk,qG⟩
 ·obtain⟨d,e,i⟩:=jr f.rows.row (q:=q) rfl
  exact⟨d,_,e,i,qG⟩
 ·obtain⟨d,e,i⟩:=jr f.starts h
  exact⟨d,_,e,i,qG⟩
 obtain⟨l,j⟩:=kH p;have m:l<(gs.map Gr.cells).length:=by rw[<- f.rows.nest.len];exact(xp.1 j).1
 obtain⟨d,e,i⟩:=jr (f.rows.nest.own l o _ j (xw m)) h;exact⟨d,_,e,i,qG⟩
section
variable {w w':World} {Z Z':Nat->Prop} {c:Nat} {s:LB}
def LV.lp{vs gs n a b}(d:LV s.1 s.2)(h:gs.length=n)(e:a<=b/\b<=n/\n<=65536)(i:GZ vs gs a b)(f:lg gs a b=s.1):LP vs gs n a b s.ls:=
 ⟨h,⟨e.1,e.2.1⟩,e.2.2,i,by rw[f];exact d.2.1,by rw[f];rfl,d.2.2.1,by intro g;have c:=ko List.length g;unfold LB.ls at c;rw[xO]at c;simp at c;have:=d.1.1;rw[c]at this;simp at this⟩
def LB.lsl(a:LB):a.ls.length=a.1.length:=by unfold LB.ls;simp
def J3.step(h:J3 w Z c s)(e:KN WL w w')(i:∀a,Z' a->Z a\/w.heap.size<=a):J3 w' Z' c s:=by
 obtain⟨j,k,l,m,n,o,p,q,d,r,t,u,v,x,y⟩:=h;refine⟨j,k,l,m,n,o,p,q,d.keep (λa b=>?_) e.size,r,t,u,v,x,λa b g=>?_⟩
 ·obtain⟨A,B,C,z,ht⟩:=d.cty b
  exact e.ty z ht
 rcases i a g with f | f
 ·exact y a b f
 have:=d.cos b;omega
def J3.turn(f:J3 w Z c s)(a:KA w w'):J3 w' Z c s:=by
 obtain⟨g,h,i,j,k,l,m,n,b,o,p,q,r,t,u⟩:=f;refine⟨g,h,i,j,k,l,m,n,b.keep (λd e=>?_) a.size,o,p,q,r,t,u⟩;obtain⟨v,x,y,z,ht⟩:=b.cty e;exact a.block d v x y z
def J3.cl(e:J3 w Z c s):CrL w Z Z c 0 (jn s.ls):=by
 obtain⟨f,g,h,i,j,k,l,m,n,o,d,q,b,a,p⟩:=e;refine⟨f,g,h,i,j,_,k,l,m,?_,o,⟨d.1,d.2.1⟩,qF,by rw[b];exact a.2.1,by rw[b];rfl,a.2.2.1,by rw[b];exact⟨a.1.2.2.1,a.1.2.2.2⟩,p⟩;rw[b];have:=a.2.2.2;unfold LB.ls at *;rw[<- this];exact n
def J3.lf(v:J3 w Z c s):∃(j:Nat->Prop)(k l h b d:Nat)(m:qT)(i:qU)(e:List Gr),LF j w w c k l h b d m i e (jn s.ls).length ((jL s.ls).take s.2.length)/\LP i e h b d s.ls/\(1<=s.2.length/\s.2.length<=s.ls.length)/\lg e b d=s.1/\LV s.1 s.2/\(∀a,j a->¬Z a)/\∀a,j a->∃(q:qX)(n:TypeId)(r:Nat×Nat),w.heap[a]?=some (qR q n r)/\n∉WL:=by
 obtain⟨k,l,h,b,d,m,i,e,o,x,y,z,p,g,A⟩:=v;refine⟨_,k,l,h,b,d,m,i,e,⟨?_,zQ.reflS _ _,.inl rfl,.inl (.inr (.inl rfl)),λa f=>.inl (.inr (.inr (.inl f))),λt u a f=>.inl (.inr (.inr (.inr ⟨t,u,f⟩)))⟩,g.lp x y z p,by rw[LB.lsl];exact⟨g.1.2.2.1,g.1.2.2.2⟩,p,g,A,λa f=>o.cty f⟩;have:=g.2.2.2;unfold LB.ls at *;rw[<- this];exact o
def Of{S}(g:zQ w w' S)(h:∀a,S a->¬Z a)(i:∀a,S a->∃(c:qX)(b:TypeId)(d:Nat×Nat),w.heap[a]?=some (qR c b d)/\b∉WL):KK WL Z w w':=KK.chg g (λa k f e=>by
 obtain⟨c,b,d,l,ht⟩:=i a e;rcases f with j | ⟨m,n,o,p,q⟩
 ·exact h a e j
 simp_all)
def LEd.cr{S X rn st}(h:LEd S w w' c X rn st)(i:LV X st)(j:rn=(jn (X.map zK)).length)(g:∀a,S a->¬Z a)(k:∀a,Z a->a<w.heap.size):J3 w' Z c (X,st):=by
 obtain⟨l,m,n,o,p,q,r,s,f,t,u,v,x⟩:=h;refine⟨l,m,n,o,p,q,r,s,by unfold LB.ls;rw[<- j];exact f.cr,t,u,v,x,i,λa d e=>?_⟩;have A:=k a e;rcases d with rfl | rfl | d | ⟨y,z,d⟩
 ·exact g a f.sc e
 ·rcases f.sg with b | b
  ·exact g a b e
  omega
 ·rcases f.ss a d with b | b
  ·exact g a b e
  omega
 rcases f.su y z a d with b | b
 ·exact g a b e
 omega
def LF.led{S g cap n a b sv vs gs rn st}(e:LF S w w' c g cap n a b sv vs gs rn st)(d:LP vs gs n a b s.ls)(f:lg gs a b=s.1):LEd S w w' c s.1 rn st:=⟨g,cap,n,a,b,sv,vs,gs,e,d.len,⟨d.ab.1,d.ab.2,d.n⟩,d.gz,f⟩
def LV.at{k}(a:LV s.1 s.2)(c:1<=k/\k<=s.1.length):LV s.1 ((jL s.ls).take k):=by
 have b:=TI (by rw[LB.lsl];exact c.2);exact⟨⟨a.1.1,a.1.2.1,by rw[b];exact c.1,by rw[b];exact c.2⟩,a.2.1,a.2.2.1,by rw[b];rfl⟩
def Ue{k x}{a:List Gr}(b:a[k]?=some x):a.getD k YJ=x:=by simp_all
def tx_held{v ts}(d:TX w Z v ts)(k:0<ts.length):∃b c,v= .slice (qD b 0) ts.length c/\b<w.heap.size/\Z b/\(ts.length<=c/\c<=maxLen)/\∀a,a<ts.length->w.cell? (qP b (0+a))=some (.int .i32 (ts.getD a 0)):=by
 rcases id d.1.2 with ⟨l,m⟩ | ⟨e,g,n,rfl,_,h,i,j,_⟩
 ·omega
 exact⟨e,g,rfl,(qZ.1 h).1,d.2 e rfl,⟨i,j⟩,λa f=>by rw[xX];exact yL d.1 a f⟩
def Wj{off k x ts}(c:LV s.1 s.2)(a:Ln s.ls off k)(b:s.1[k]?=some x)(d:off<=(jn s.ls).length)(e:(jn s.ls).length+ts.length<=8192):J2 s off ts=(jJ s.1 k x (off-zq s.ls k) ts,(jL s.ls).take (k+1))/\LV (J2 s off ts).1 (J2 s off ts).2/\jn (J2 s off ts).ls=(jn s.ls).take off++(ts++(jn s.ls).drop off):=by
 have f:J2 s off ts=(jJ s.1 k x (off-zq s.ls k) ts,(jL s.ls).take (k+1)):=by unfold J2;rw[a.at,Ue b]
 rw[f];exact⟨rfl,IF b c.2.1 a d e,(KO b c.2.1 a d e).2⟩
def Wk{off m k k2 x y}(a:LV s.1 s.2)(b:Ln s.ls off k)(c:Ln s.ls (off+m) k2)(d:s.1[k]?=some x)(e:s.1[k2]?=some y)(f:off+m<=(jn s.ls).length):Ju s off m=(jI s.1 k k2 x y (off-zq s.ls k) (off+m-zq s.ls k2),(jL s.ls).take (k+1))/\LV (Ju s off m).1 (Ju s off m).2/\jn (Ju s off m).ls=(jn s.ls).take off++(jn s.ls).drop (off+m):=by
 have g:Ju s off m=(jI s.1 k k2 x y (off-zq s.ls k) (off+m-zq s.ls k2),(jL s.ls).take (k+1)):=by unfold Ju;rw[b.at,c.at,Ue d,Ue e]
 rw[g];exact⟨rfl,IH d e a.2.1 b c qF f a.2.2.1,(KQ d e a.2.1 b c qF f a.2.2.1).2⟩
def Ln.ex{off}(k:LV s.1 s.2):∃b j,Ln s.ls off b/\s.1[b]?=some j:=by
 have g:0<s.ls.length:=by rw[LB.lsl];have:=k.1.1;omega
 have h:∀a,a<s.ls.length->zq s.ls a<=off->∃b,Ln s.ls off b:=by
  intro a;generalize m:s.ls.length-a=e
  induction e generalizing a with
  | zero=>intro c;omega
  | succ e l=>
   intro c i;by_cases d:a+1<s.ls.length/\zq s.ls (a+1)<=off
   ·exact l _ qF d.1 d.2
   exact⟨a,c,i,λn=>qF⟩
 obtain⟨b,f⟩:=h 0 g (by simp[zq,jR]);have c:=f.1;rw[LB.lsl]at c;exact⟨b,_,f,xw c⟩
end
section
variable {w w':World} {Z Z':Nat->Prop} {c:Nat} {s:LB}
def cInsX{v ts off}(m:J3 w Z c s)(n:∀e,Z e->e<w.heap.size)(o:TX w Z v ts)(p:0<ts.length)(g:off<=(jn s.ls).length)(h:(jn s.ls).length+ts.length<=8192):
  Calls prog 230 #[qO c 0,qC off,v] w λf w'=>f=qQ (.tuple #[])/\J3 w' Z c (J2 s off ts)/\KK WL Z w w':=by
 obtain⟨J,K,L,M,N,O,P,Q,R,q,r,t,u,x,a,y⟩:=m.lf;obtain⟨z,S,rfl,A,B,i,C⟩:=tx_held o p;refine(insF q r t g h rfl A (λl=>a z l B) i.1 i.2 qF C).mono ?_;rintro f w' ⟨rfl,D,E,F,j,b⟩;rw[u]at j b;obtain⟨G,k,H⟩:=Wj x F j g h;have d:(jn (J2 s off ts).ls).length=(jn s.ls).length+ts.length:=by rw[H];simp only[xg,xi,xz];omega
 rw[G]at k d |-;refine⟨rfl,b.cr k (by rw[show(List.map zK _)=LB.ls (jJ s.1 D E _ ts,(jL _).take _)from rfl,d];omega) a n,?_⟩;obtain⟨_,_,_,_,_,_,_,_,I,_⟩:=b;exact Of I.ch a y
def cRemX{off m ct aT}(n:J3 w Z c s)(o:∀e,Z e->e<w.heap.size)(D:0<m)(g:off+m<=(jn s.ls).length):
  Calls prog 236 #[qO c 0,qC off,qM aT m ct] w λf w'=>f=qQ (.tuple #[])/\J3 w' Z c (Ju s off m)/\KK WL Z w w':=by
 obtain⟨E,F,G,H,I,J,K,L,M,p,h,q,r,t,i,u⟩:=n.lf;refine(remF p h q g (by have:=h.j;omega)).mono ?_;rintro f w' ⟨rfl,v,x,y,a,z,A,j,k,b⟩;rw[r]at j k b;obtain⟨B,l,C⟩:=Wk t z A j k g;have d:(jn (Ju s off m).ls).length=(jn s.ls).length-m:=by rw[C];simp only[xg,xi,xz];omega
 rw[B]at l d |-;refine⟨rfl,b.cr l (by rw[show(List.map zK _)=LB.ls (jI s.1 v x y a _ _,(jL _).take _)from rfl,d];omega) i o,?_⟩;obtain⟨_,_,_,_,_,_,_,_,a,_⟩:=b;exact Of a.ch i u
def cColX{off}(l:J3 w Z c s)(m:∀e,Z e->e<w.heap.size)(n:off<=(jn s.ls).length):
  Calls prog 232 #[qO c 0,qC off] w λf w'=>f=qQ (.tuple #[qC (Yi (jn s.ls) off),qC (JD (jn s.ls) off)])/\J3 w' Z c (Yx s off)/\KK WL Z w w':=by
 obtain⟨z,A,B,C,D,E,F,G,H,o,a,p,q,h,i,r⟩:=l.lf;refine(o.find a p (by have:=a.j;omega)).mono ?_;rintro f w' ⟨I,t,J,rfl,u,b,j⟩;have d:=u.lc (λy g=>by unfold LB.ls at g;obtain⟨v,x,rfl⟩:=Qt.1 g;exact(h.2.1 v x).2) n;have k:Yx s off=(s.1,(jL s.ls).take t):=by unfold Yx;rw[b.at]
 refine⟨by rw[d.1,d.2.1],?_,Of j.ch i r⟩;rw[k];exact(j.led a q).cr (h.at ⟨by have:=b.1;omega,by have:=b.2.1;rw[LB.lsl]at this;exact this⟩) rfl i m
def cLenX(b:J3 w Z c s):Calls prog 231 #[qO c 0] w λa w'=>a=qQ (qC ((jn s.ls).length))/\qY w w':=lenL w Z Z c 0 _ b.cl
def cBrkX(b:J3 w Z c s):Calls prog 229 #[qO c 0] w λa w'=>a=qQ (qC (js (jn s.ls)))/\qY w w':=brkL w Z Z c 0 _ b.cl
def cSliX{lo hi}(a:J3 w Z c s)(e:lo<=hi)(f:hi<=(jn s.ls).length):Calls prog 237 #[qO c 0,qC lo,qC hi] w λd w'=>∃b,d=qQ b/\zT w' w.heap.size b (((jn s.ls).take hi).drop lo)/\qY w w':=by
 obtain⟨g,h,i,j,k,l,m,n,o,a⟩:=a.cl;obtain⟨p,q,r⟩:=a.ll;have:=sliceF c g h i _ j k lo hi l m n o _ _ w a.cr a.len a.ab a.n p q r a.sb a.mm.1 a.mm.2 (by rw[a.te];exact a.bd) e (by rw[a.te];exact f);rw[a.te]at this;exact this
def LV.ne10(c:LV s.1 s.2):∀a∈s.ls,10∉a:=λa b=>by unfold LB.ls at b;obtain⟨d,e,rfl⟩:=Qt.1 b;exact(c.2.1 d e).2
def LV.lne(c:LV s.1 s.2):s.ls≠ []:=λb=>by have a:=s.lsl;rw[b]at a;have:=c.1.1;simp at a;omega
def zBn{line col}(d:J3 w Z c s)(b:0<=Zd (jn s.ls) line col):0<=line/\line<=js (jn s.ls):=by
 obtain⟨e,f,g,h,i,j,k,l,m,n,o,p,q,a,r⟩:=d;rw[UW a.lne a.ne10,RF]at b;rw[Kw a.lne a.ne10]
 split at b<;>omega
def cLinX{b:Nat}(m:J3 w Z c s)(n:b<=js (jn s.ls)):Calls prog 233 #[qO c 0,qC b] w λh w'=>∃f:Nat,h=qQ (qC f)/\f<=8192/\(∀a:Int,0<=Zd (jn s.ls) b a↔0<=a/\a<=f)/\qY w w':=by
 obtain⟨F,z,A,f,o,p,G,H,I,d,e,B,C,g,D,E⟩:=m.lf;rw[Kw g.lne g.ne10]at n;obtain⟨j,J,k,q,r,l⟩:=e.sb d.cr.rows.len b qF;have t:Zq o p b<f:=by rw[<- e.len];exact(xp.1 k).1
 have AT:=zC (atF c z A f b o p w ⟨d.cr.cells.1,d.cr.cells.2.1,d.cr.cells.2.2.1⟩ e.ab t (d.capN e.len) (by have:=e.n;omega));have LE:=zC (λi=>Jp (d.drew i).cr.rows e.len k q l.1);have u:=(ZR l.1).2.1
 have v:=zC (show ∀a:Int,0<=Zd (jn s.ls) b a↔0<=a/\a<=((zK j).length)from λa=>by
  rw[UW g.lne g.ne10,RF];have x:(s.ls.getD (b:Int).toNat [])=zK j:=(by rw[kI,xP,r];rfl);rw[x]
  split<;>omega)
 generalize (zK j).length=y at *;clear m d e B C g D E k q r l n;go_enter func233,ntmps233;go_wp2_with fail;refine AT.mono ?_;rintro h K ⟨rfl,i,rfl⟩;go_wp2_with fail;refine(LE i).mono ?_;rintro h L ⟨rfl,M,rfl⟩;go_wp2;go_ret;exact⟨y,rfl,u,v,rfl,rfl,rfl,lR,λ_ _=>rfl⟩
def LF.learn{S w0 g cap n a b m k sv vs gs rn LS}(d:LF S w0 w c g cap n a b sv vs gs rn ((jL LS).take m))(e:LP vs gs n a b LS)(p:1<=m/\m<=LS.length)(q:k<=LS.length):
  Calls prog 245 #[qO c 0,qC k] w λo w'=>∃j,o=qQ (.tuple #[])/\LF S w0 w' c g cap n a b j vs gs rn ((jL LS).take (max m k)):=by
 obtain⟨x,r,y,z⟩:=e.ll;have l:=TI p.2;have f:=Sg c g cap n _ a b k sv vs gs LS rn _ w d.cr e.len e.ab (by have:=e.n;omega) rfl r (e.sb d.cr.rows.len) qF (by rw[l]) qF q e.j;rw[l]at f;have v:=d.ch.size;refine f.mono ?_;rintro o w' ⟨j,rfl,s,t,u⟩;refine⟨j,rfl,s,d.ch.qo t (λi h=>?_),d.sc,d.sg,λi h=>?_,d.su⟩
 ·rcases h with rfl | h
  ·exact .inl d.sc
  exact d.ss i h
 rcases u i h with (rfl | f) | f
 ·exact .inl d.sc
 ·exact d.ss i f
 omega
def cOffX{a q:Nat}{col}(r:J3 w Z c s)(K:∀d,Z d->d<w.heap.size)(l:Zd (jn s.ls) a col=q):Calls prog 235 #[qO c 0,qC a,qC col] w λz w'=>z=qQ (qC q)/\J3 w' Z c (KS s a)/\KK WL Z w w':=by
 have x:=zBn r (line:=a) (col:=col) qF;obtain⟨L,M,N,O,P,Q,ae,R,S,t,e,B,C,f,u,D⟩:=r.lf;rw[Kw f.lne f.ne10]at x;have m:a<s.ls.length:=qF
 have F:(0<=col/\col<=8192)/\((jR (s.ls.take a)+a:Nat))+col=q/\jR (s.ls.take a)+a<=20000:=by
  rw[UW f.lne f.ne10,RF]at l
  split at l
  ·rename_i h
   rw[kI]at l h;obtain⟨T,af,ag,ah,U,V⟩:=e.sb t.cr.rows.len a m;have G:s.ls.getD a []=zK T:=(by rw[xP,U];rfl);rw[G]at h;have:=(ZR V.1).2.1;have aa:=jB s.ls a;have:=e.ll;have:=e.j;omega
  omega
 have n:=zC (t.learn (k:=a+1) e B m);have SG:=zC (Y7 m);have i:max s.2.length (a+1)<=s.ls.length:=qF
 have o:=zC (show ∀(w':qS)(A:qT),LF L w w' c M N O P Q A R S (jn s.ls).length ((jL s.ls).take (max s.2.length (a+1)))->J3 w' Z c (KS s a)/\KK WL Z w w' from λ_ _ b=>⟨(b.led e C).cr (f.at ⟨qF,by rw[LB.lsl]at i;exact i⟩) rfl u K,Of b.ch u D⟩);have p:=zC (TI i);obtain⟨j,E⟩:∃j,j=max s.2.length (a+1):=⟨_,rfl⟩
 have y:a<j:=qF
 rw[<- E]at n o p i;obtain⟨ai,aj,ak⟩:=F;generalize ad:jR (s.ls.take a)+a=J at *;clear r t e B C f u D l x E;go_enter func235,ntmps235;go_wp2_with fail;refine n.mono ?_;rintro z W ⟨A,rfl,b⟩;have H:=zC (o _ _ b);obtain⟨al,am,v⟩:=ju b.cr.starts;rw[p.out]at v;have I:=b.cr.cells.2.2.2.2;have g:=b.cr.starts;unfold Zr at g;rw[p.out,v]at g;rcases g.2 with ⟨_,d⟩ | ⟨X,an,ao,d,_,_,ap,Y,_⟩
 ·omega
 simp at d;obtain⟨rfl,rfl⟩:=d
 have ab:W.cell? (qP X a)=some (qC J):=by
  have:=yL g a y;rw[this];have h:=SG.out;simp only[xP]at h |-;rw[vf,xS y,h]
 rw[v]at I;unfold maxLen at Y;have ac:(a:Int)<j:=qF
 clear b g n o;go_wp2;go_ret;exact⟨rfl,H⟩
def Uf(ts)(d:ts.length<=8192):LV (jw ts).1 (jw ts).2/\jn (jw ts).ls=ts:=by
 have f:=j9 ts;have a:(jw ts).ls=yI ts:=Oc _;refine⟨⟨⟨by simp[jw];omega,by simp[jw];omega,by simp[jw],by simp[jw];omega⟩,λg c=>?_,?_,?_⟩,by rw[a,Hd]⟩
 ·obtain⟨e,b,rfl⟩:=Qt.1 c
  exact plG_okF (He ts e b) (by have:=ZU b;omega)
 ·show(jn (jw ts).ls).length<=8192
  rw[a,Hd];exact d
 show [0]=(jL (jw ts).ls).take 1
 have:=YZ (ls:=yI ts) (i:=0) qF;rw[a,this];simp[jR]
def Sx{v ts}(k:zT w 0 v ts)(n:ts.length<=8192):Calls prog 21 #[v] w λf w'=>∃g a b d,f=qQ (qO g 0)/\w.heap.size<=g/\jQ w' w.heap.size w'.heap.size g (qM (qD a 0) (yI ts).length (yI ts).length) b d (jw ts).1 (yI ts).length (yI ts).length ts.length [0]/\qY w w':=by
 rcases id k.2 with ⟨rfl,o⟩ | ⟨p,q,s,rfl,_,r,h,e,_⟩
 ·have:=xL o
  subst this;refine(loadLn w).mono ?_;rintro f w' ⟨c,a,b,d,rfl,i,h,e,j⟩;exact⟨c,a,b,d,rfl,i,e,j⟩
 refine(loadL ts p 0 q w (λl m=>by rw[xX];exact yL k l m) (qZ.1 r).1 n h e).mono ?_;rintro f w' ⟨c,a,b,d,rfl,i,h,e,j⟩;exact⟨c,a,b,d,rfl,i,e,j⟩
def zBo{v:qT}{ts c' g sv vs}(c:jQ w' w.heap.size w'.heap.size c' (qM (qD g 0) (yI ts).length (yI ts).length) sv vs (jw ts).1 (yI ts).length (yI ts).length ts.length [0])(s:w.heap.size<=c')(k:ts.length<=8192)(l:∀a,Z a->a<w.heap.size):J3 w' Z c' (jw ts):=by
 have h:(jw ts).1.length=(yI ts).length:=by simp[jw]
 have e:=Uf ts k;refine⟨g,_,_,_,_,sv,vs,_,by rw[e.2];exact c.mono (xK _) lR,h,⟨lR,lR,by have:=j9 ts;omega⟩,λd q r=>qF,?_,e.1,λa b j=>?_⟩
 ·unfold lg
  simp
 have o:=l a j;rcases b with rfl | rfl | b | ⟨m,n,b⟩
 ·omega
 ·have p:w.heap.size<=a:=(c.rows.row.lt _ rfl).1
  omega
 ·have:=(c.starts.lt a b).1;omega
 obtain⟨d,f⟩:=kH n;have i:d<((jw ts).1.map Gr.cells).length:=by rw[<- c.rows.nest.len];exact(xp.1 f).1
 have:=((c.rows.nest.own d m _ f (xw i)).lt a b).1;omega
def jQ.movd{c' g a b rn cap n sv vs gs st W}(f:jQ w' 0 w'.heap.size c' (qM (qD g 0) n cap) sv vs gs a b rn st)(o:W.heap[c]?=some (qR #[qM (qD g 0) n cap,qC a,qC b,qC rn,sv] 103 (0,0)))(p:∀d,d≠c->W.heap[d]? =w'.heap[d]?)(q:∀d,zAu c' g sv vs d->d≠c)(r:w'.heap.size=W.heap.size):jQ W 0 W.heap.size c (qM (qD g 0) n cap) sv vs gs a b rn st:=by
 have h:=λd e=>p d (q d e)
 rw[<- r]
 exact⟨o,⟨zD f.rows.row (λd e=>h d (.inr (.inl (by simp only[Value.ownBlock,xE]at e;exact e.symm)))),f.rows.bl,
  ⟨f.rows.nest.len,λk i l j m=>zD (f.rows.nest.own k i l j m) (λd e=>h d (.inr (.inr (.inr ⟨i,xH j,e⟩)))),f.rows.nest.bl,f.rows.nest.ne⟩⟩,
  zD f.starts (λd e=>h d (.inr (.inr (.inl e)))),f.sbl⟩
def cLodX{r:qT}{b:qV}(O:J3 w Z c s)(P:∀a,Z a->a<w.heap.size)(t:TX w Z r b)(C:b.length<=8192):
  Calls prog 234 #[qO c 0,r] w λf w'=>f=qQ (.tuple #[])/\J3 w' Z c (jw b)/\KK WL Z w w':=by
 have v:=zC (Sx t.1 C);obtain⟨ao,ap,aq,ar,au,av,aw,ax,u,Q,R,S,T,U,D⟩:=O;have I:=u.lt;have o:=D c (.inl rfl);have p:=zC u.blk;obtain⟨V,W,X⟩:=zX t.1;subst X
 have x:=zC (show ∀(w' e:qS)(i j:Nat)(k:qT)(l:qU),w.heap.size<=i->jQ w' w.heap.size w'.heap.size i (qM (qD j 0) (yI b).length (yI b).length) k l (jw b).1 (yI b).length (yI b).length b.length [0]->qY w w'->e.heap[c]?=some (qR #[qM (qD j 0) (yI b).length (yI b).length,qC (yI b).length,qC (yI b).length,qC b.length,k] 103 (0,0))->(∀a,a≠c->e.heap[a]? =w'.heap[a]?)->w'.heap.size=e.heap.size->e.os=w'.os/\e.tape=w'.tape/\e.output=w'.output->J3 e Z c (jw b)/\KK WL Z w e from λw' e i j k l m h g L B M q=>by
  obtain⟨E,Y,aa,ab,ac,F,G,ad,H,ae,af,ag,ah,ai,aj⟩:=zBo (v:=.slice V b.length W) (Z:=λa=>a<w.heap.size) h m C (λa d=>d);have y:∀a,zAu i E F G a->w.heap.size<=a:=λa d=>Nat.le_of_not_lt (aj a d)
  refine⟨⟨E,Y,aa,ab,ac,F,G,ad,H.movd ?_ B (λa d f=>by have:=y a d;omega) M,ae,af,ag,ah,ai,λa d n=>?_⟩,?_⟩
  ·have z:=H.blk
   rw[h.blk]at z;rw[L,<- z]
  ·rcases d with rfl | d
   ·exact o n
   have:=y a (.inr d);have:=P a n;omega
  refine⟨q.1.trans g.os,q.2.1.trans g.tape,q.2.2.trans g.output,by have:=g.size;omega,λa d N=>?_⟩
  have J:a≠c:=λf=>by
   subst f;rcases N with n | ⟨ay,az,a0,f,ht⟩
   ·exact o n
   rw[p.out]at f;simp at f;rw[<- f.2.1]at ht;exact absurd ht qG
  exact(B a J).trans (g.block a d))
 clear u Q R S T U D t o;go_enter func234,ntmps234;go_wp2_with fail;refine v.mono ?_;rintro f ak ⟨i,j,k,l,rfl,m,h,g⟩;have K:=zC (λe=>x ak e i j k l m h g);have A:=zC ((g.block c I).trans p);obtain⟨a1,a2,a3,a4,a5⟩:=h.cells;obtain⟨al,am,an⟩:=ju h.starts;subst an;clear m h g v x p;go_wp2_with (refine yM rfl 103 _ _ rfl c _ #[qM (qD j 0) (yI b).length (yI b).length,qC (yI b).length,qC (yI b).length,qC b.length,qM al [(0:Int)].length am] 103 rfl rfl A qI rfl (by simp[Value.oneCell']) ?_);go_end0;exact⟨rfl,K _ (kT _ _ _ _ _ _ A) (λa d=>vG _ _ a _ d) qH ⟨rfl,rfl,rfl⟩⟩
end
noncomputable def KLX:KX where
 ty:=65
 σ:=LB
 tx:=fun s=>jn s.ls
 nil:=jw []
 ins:=J2
 rem:=Ju
 lod:=jw
 see:=Yx
 kno:=KS
 Cr:=J3
 fLen:=231
 fBrk:=229
 fIns:=230
 fRem:=236
 fSli:=237
 fLod:=234
 fCol:=232
 fOff:=235
 fLin:=233
 mth:=fun c w=>⟨by kernel_rfl,by kernel_rfl,by kernel_rfl,by kernel_rfl,by kernel_rfl,by kernel_rfl,by kernel_rfl,by kernel_rfl,by kernel_rfl⟩
 ent:=fun f hf=>by
  simp at hf;rcases hf with rfl | rfl | rfl | rfl | rfl | rfl | rfl | rfl | rfl
  ·simp
  ·simp
  ·simp
  ·simp
  ·simp
  ·simp
  ·simp
  ·simp
  simp
 lt:=fun h=>by
  obtain⟨g,cap,n,a,b,sv,vs,gs,h1,h2,h3,h4,h5,h6,h7⟩:=h;exact⟨h1.lt,h6.2.2.1⟩
 step:=fun h hk hz=>J3.step h hk hz
 turn:=fun h hk=>J3.turn h hk
 more:=fun h hz=>by
  obtain⟨g,cap,n,a,b,sv,vs,gs,h1,h2,h3,h4,h5,h6,h7⟩:=h;refine⟨g,cap,n,a,b,sv,vs,gs,h1,h2,h3,h4,h5,h6,fun q hq h9=>?_⟩;rcases hz q h9 with h8 | ⟨cs,t,f,e,ht⟩
  ·exact h7 q hq h8
  obtain⟨cs',t',f',e',ht'⟩:=h1.cty hq;rw [e]at e';simp at e';rw [<- e'.2.1]at ht';exact ht' ht
 cLen:=fun h=>cLenX h
 cBrk:=fun h=>cBrkX h
 cIns:=fun h hz hT h0 ho hr=>cInsX h hz hT h0 ho hr
 tIns:=fun {w Z c s ts off} h ho hr=>by
  obtain⟨g,cap,n,a,b,sv,vs,gs,h1,h2,h3,h4,h5,h6,h7⟩:=h;obtain⟨k,x,k1,k2⟩:=Ln.ex (off:=off) h6;exact(Wj h6 k1 k2 ho hr).2.2
 cRem:=fun h hz h0 ho=>cRemX h hz h0 ho
 tRem:=fun {w Z c s off m} h ho=>by
  obtain⟨g,cap,n,a,b,sv,vs,gs,h1,h2,h3,h4,h5,h6,h7⟩:=h;obtain⟨k,x,k1,k2⟩:=Ln.ex (off:=off) h6;obtain⟨k',y,k3,k4⟩:=Ln.ex (off:=off+m) h6;exact(Wk h6 k1 k3 k2 k4 ho).2.2
 cSli:=fun h h1 h2=>cSliX h h1 h2
 cLod:=fun h hz hT hn=>cLodX h hz hT hn
 tLod:=fun ts=>by show jn _=ts;rw [show(jw ts).ls=yI ts from Oc _,Hd]
 cCol:=fun h hz ho=>cColX h hz ho
 tSee:=fun h ho=>rfl
 cLin:=fun h hl=>cLinX h hl
 cOff:=fun h hz ho=>cOffX h hz ho
 brkO:=fun h ho=>zBn h ho
 tKno:=fun h hl=>rfl

import Derived.Test.YtljnflecikholaaGreatDoorMq20
import Derived.Test.YtljnflecikholaaGreatDoorMq21
import Derived.Test.YtljnflecikholaaGreatDoorMq23
set_option linter.all false
set_option maxRecDepth 100000
set_option maxHeartbeats 8000000
namespace Go.Proofs.YtljnflecikholaaGreatDoor
open Go Go.RowKit Go.Proofs.Tryz
def jj{a:qS}{c v0 v1 v2 v3 v4 e}(b:a.heap[c]?=some (qR #[v0,v1,v2,v3,v4] e (0,0))):a.ownsRow c e 5 (qM (qD c 0) 1 1) 1 [v0,v1,v2,v3,v4]:=
 ⟨rfl,.inr ⟨c,1,_,rfl,lR,b,lR,qK,rfl,rfl⟩⟩
def jQ.setS{w lo hi c rv sv sv' vs gs a b rn st st'}(d:jQ w lo hi c rv sv vs gs a b rn st)(j:Zr w lo sv' st')(k:bel hi sv'):jQ (w.setCell (qP c 4) sv') lo hi c rv sv' vs gs a b rn st':=by
 have e:=jj d.blk;have f:w.grownBy (w.setCell _ sv') (Value.slice (qD c 0) 1 1).ownBlock:=⟨rfl,rfl,rfl,qH,λg _ h=>xj w (qP c 4) g sv' (λi=>h (by simp[Value.ownBlock,i]))⟩
 exact⟨xN w c 4 _ _ _ d.blk,d.rows.kept e qG qG f,yX j e qG f,k⟩
def jQ.app{w w' lo hi hi' c rv sv sv' vs gs a b rn st st'}(d:jQ w lo hi c rv sv vs gs a b rn st)(j:w.grownBy w' sv.ownBlock)(m:Zr w' lo sv' st')(n:bel hi' sv')(o:hi<=hi'):jQ (w'.setCell (qP c 4) sv') lo hi' c rv sv' vs gs a b rn st'/\w'.heap[c]?=some (qR #[rv,qC a,qC b,qC rn,sv] 103 (0,0)):=by
 have g:=jj d.blk;have e:=j.block c (g.lt c rfl).2 (λf=>zj g d.starts qG rfl f.symm);have h:=jj (e.trans d.blk);have i:w'.grownBy (w'.setCell _ sv') (Value.slice (qD c 0) 1 1).ownBlock:=⟨rfl,rfl,rfl,qH,λk _ l=>xj w' (qP c 4) k sv' (λf=>l (by simp[Value.ownBlock,f]))⟩
 exact⟨⟨xN w' c 4 _ _ _ (e.trans d.blk),((d.rows.kept d.starts qG qG j).mono lR o).kept h qG qG i,yX m h qG i,n⟩,e.trans d.blk⟩
def jQ.mono{w lo hi lo' hi' c rv sv vs gs a b rn st}(d:jQ w lo hi c rv sv vs gs a b rn st)(e:lo'<=lo)(f:hi<=hi'):jQ w lo' hi' c rv sv vs gs a b rn st:=
 ⟨d.blk,d.rows.mono e f,zF d.starts e,yW d.sbl f⟩
def jQ.cells{w lo hi c rv sv vs gs a b rn st}(d:jQ w lo hi c rv sv vs gs a b rn st):w.cell? (qP c 0)=some rv/\w.cell? (qP c 1)=some (qC a)/\w.cell? (qP c 2)=some (qC b)/\w.cell? (qP c 3)=some (qC rn)/\w.cell? (qP c 4)=some sv:=by
 refine⟨?_,?_,?_,?_,?_⟩<;>rw[xF _ _ _ _ _ _ d.blk]<;>rfl
def jQ.fz{w lo hi c rv sv vs gs a b rn st}(d:jQ w lo hi c rv sv vs gs a b rn st)(j):w.frozen? (qP c j)=false:=xY w c j _ _ d.blk
def jQ.lt{w lo hi c rv sv vs gs a b rn st}(d:jQ w lo hi c rv sv vs gs a b rn st):c<w.heap.size:=(qZ.1 d.blk).1
def jQ.same{w w' lo hi c rv sv vs gs a b rn st}(d:jQ w lo hi c rv sv vs gs a b rn st)(e:w'.heap=w.heap):jQ w' lo hi c rv sv vs gs a b rn st:=
 ⟨by rw[e];exact d.blk,d.rows.frame (λf _ _=>by rw[e]),zD d.starts (λf _=>by rw[e]),d.sbl⟩
def jQ.below{w w' lo hi c B rv sv vs gs a b rn st}(d:jQ w lo hi c rv sv vs gs a b rn st)(f:Below B w w')(i:hi<=B)(h:c<B):jQ w' lo hi c rv sv vs gs a b rn st:=
 ⟨(f.block c h).trans d.blk,d.rows.frame (λe _ g=>f.block e qF),Zg d.starts d.sbl (λe _ g=>f.block e qF),d.sbl⟩
def Sf{ls:List (qV)}{i l}(a:ls[i]?=some l):((jR (ls.take i)+i:Nat))+l.length+1=((jR (ls.take (i+1))+(i+1):Nat):Int):=by
 rw[jf a];omega
def zd.keep{w w1 lo hi A la S}(e:zd w lo hi A la)(i:zQ w w1 S)(j:∀(b:Nat)a c d,A[b]?=some a->la[b]?=some c->jU w lo a c->a.ownBlock=some d->¬S d):zd w1 lo hi A la:=
 ⟨e.len,λb a c f g=>zD (e.own b a c f g) (λd h=>i.block d ((e.own b a c f g).lt d h).2 (j b a c d f g (e.own b a c f g) h)),e.bl,e.ne⟩
def jQ.gb{w lo hi c rv sv vs gs a b rn st}(d:jQ w lo hi c rv sv vs gs a b rn st):GB w c 0 #[rv,qC a,qC b,qC rn,sv] 103 rv a b:=
 ⟨d.blk,qH,rfl,rfl,rfl⟩
def Sc(b c:Nat):Nat->Prop:=λa=>a=b\/a=c
theorem jQ.other {w w1} {lo hi c g cap n} {sv} {vs vs'} {gs G} {a b a' b'} {rn} {st} {v'} (d:jQ w lo hi c (.slice (some ⟨g,0,none⟩) n cap) sv vs gs a b rn st) (j:hi<=w.heap.size)
  (h:w1.heap[c]? =some (.cells #[v',.int .i64 a',.int .i64 b',.int .i64 rn,sv] 103 (0,0))) (hc:zQ w w1 (Sc c g)) (i:yt 100 w1 lo w1.heap.size v' vs' G):jQ w1 lo w1.heap.size c v' sv vs' G a' b' rn st:=by
 refine⟨h,i,?_,yW d.sbl (by have:=hc.size;omega)⟩
 refine zD d.starts (fun q f=>hc.block q (d.starts.lt q f).2 (fun e=>?_))
 rcases e with e | e
 ·exact zj d.starts (jj d.blk) (by decide) f (by simp [Value.ownBlock,e])
 exact zj d.starts d.rows.row (by decide) f (by simp [Value.ownBlock,e])
def jQ.apart{w lo lo2 hi c g cap n sv vs gs a b rn st}(e:jQ w lo hi c (qM (qD g 0) n cap) sv vs gs a b rn st){v l q}(f:jU w lo2 v l)(h:v.ownBlock=some q):¬Sc c g q:=by
 rintro (d | d)
 ·exact zj f (jj e.blk) qG h (by simp[Value.ownBlock,d])
 exact zj f e.rows.row qG h (by simp[Value.ownBlock,d])
def Zq(b c a:Nat):Nat:=if a<b then a else a+(c-b)
def lg(a:List Gr)(b c:Nat):List Gr:=a.take b++a.drop c
def Ev{ps a b}(i)(d:a<=b)(e:b<=ps.length):(lg ps a b)[i]? =ps[Zq a b i]?:=by
 unfold lg Zq;have c:(ps.take a).length=a:=by rw[xi];omega
 split
 ·rw[xW qF,vf,xS (by assumption)]
 rw[vb qF,c,vJ]
 congr 1;omega
def XZ{ps a b}(c:a<=b)(d:b<=ps.length):(lg ps a b).length=ps.length-(b-a):=by
 unfold lg;rw[xg,xi,xz];omega
def phi_lt{a b i n}(c:a<=b)(d:b<=n)(e:i<n-(b-a)):Zq a b i<n:=by unfold Zq;split<;>omega
def U9{ps a b i}(x)(d:a<=b)(e:b<=ps.length)(g:i<ps.length-(b-a)):lg (ps.set (Zq a b i) x) a b=(lg ps a b).set i x:=by
 apply kZ;intro c;rw[Ev c d (by simp_all),Qk,Qk,Ev c d e,XZ d e];have h:=phi_lt d e g;by_cases f:i=c
 ·simp_all
 have:¬Zq a b i=Zq a b c:=by unfold Zq;split<;>split<;>omega
 simp[f,this]
def atF(g h i c b a d:Nat)(w)(e:RC w g 0 (qM (qD h 0) c i) a d)(u:a<=d/\d<=c)(j:Zq a d b<c)(v:c<=i)(x:c<=1048576):
  Calls prog 238 #[qO g 0,qC b] w λp q=>p=qQ (qO h (Zq a d b*3))/\∃r,q=w.drewN r:=by
 have HG:=zC (λs e=>JX g 0 (qM (qD h 0) c i) a d s e qF qF qF);have m:=zC e;obtain⟨y,z,A⟩:=e;unfold Zq at *;by_cases k:b<a
 ·rw[xS k]at j |-
  have n:(b:Int)<a:=qF;have o:(b:Int)<c:=qF;go_enter func238,ntmps238;go_wp2;go_ret;exact⟨rfl,0,rfl⟩
 rw[xJ k]at j |-;have n:¬ (b:Int)<a:=qF
 obtain⟨f,l⟩:∃f,f=b+(d-a):=⟨_,rfl⟩
 rw[<- l]at j |-;have t:(b:Int)+(d-a)=f:=qF
 have o:(f:Int)<c:=qF
 clear l;go_enter func238,ntmps238;go_wp2_with fail;go_quiet ((go_at_call 81;exact Calls.quiet_of (HG _ (m.drew _))));go_wp2;go_ret;exact⟨rfl,_,rfl⟩
def Tryz.info64F:(prog.info? 3).map (λa=>(a.zero,a.size,a.bytes))=some (some (qC 0),1,8):=qI
def Sg(e A B n s j g x:Nat)(O:qT)(P:qU)(J:List Gr)(LS:List (qV))(Q:Int)(E:qV)(k:qS)(K:jQ k 0 k.heap.size e (qM (qD A 0) n B) O P J j g Q E)(al:J.length=n)(cc:j<=g/\g<=n)(dl:n<=1048576)(F:LS.length=s)(dm:s<=8193)(a8:∀q,q<s->∃f af,J[Zq j g q]?=some f/\P[Zq j g q]?=some af/\LS[q]?=some (zK f)/\Pm f)(a9:1<=E.length)(hst:E=(jL LS).take E.length)(ba:E.length<=s)(dn:x<=s)(M:(jn LS).length<=8192):
  Calls prog 245 #[qO e 0,qC x] k λC ag=>∃ah,C=qQ (.tuple #[])/\jQ ag 0 ag.heap.size e (qM (qD A 0) n B) ah P J j g Q ((jL LS).take (max E.length x))/\zQ k ag (λq=>q=e\/O.ownBlock=some q)/\(∀b,ah.ownBlock=some b->(b=e\/O.ownBlock=some b)\/k.heap.size<=b):=by
 obtain⟨ce,cf,cg,ch,ci⟩:=vw Tryz.info64F;have au:=zC a8;generalize V:(λq=>q=e\/O.ownBlock=some q)=z at *;have bg:=zC V;have bh:=zC (λb(r:O.ownBlock=some b)=>(show z b\/k.heap.size<=b from .inl (by rw[<- V];exact .inr r)));have bi:=zC (show z e from by rw[<- V];exact .inl rfl)
 have av:=zC (show jR LS+s<=8193 from by
  have:=jl (ls:=LS) (by intro C;rw[C]at F;simp at F;omega)
  rw[F]at this;omega)
 have aw:=zC (fun(c:Nat) (cb:qV) (W:LS[c]?=some cb)=>Sf W);have SG:=zC (fun(c:Nat) (M:c<s)=>Y7 (ls:=LS) (i:=c) (by rw[F];exact M));have ax:=zC (fun(c:Nat) (M:c<s)=>YZ (ls:=LS) (i:=c) (by rw[F];exact M));have R:=zC (show(jL LS).length=s by rw[ji,F]);have ay:=zC (λc=>jB LS c)
 have bj:n<=B/\B<=maxLen:=by
  have o:=K.rows.row;rw[al]at o;rcases o.2 with ⟨b,_⟩ | ⟨dp,dq,cj,b,_,_,ck,cl,_⟩
  ·cases b
  simp only[jW,xE,Addr.mk.injEq,and_true,true_and]at b;obtain⟨_,rfl⟩:=b;exact⟨ck,cl⟩
 have Z:=zC al;obtain⟨D,bc⟩:∃D,D=E.length:=⟨_,rfl⟩
 rw[<- bc]at hst a9 ba |-;rw[hst]at K;have az:=zC K;obtain⟨dr,ds,bd⟩:=ju K.starts;rw[xi,R.out,vu ba]at bd;subst bd;have cv:=K.cells.2.2.2.2;obtain⟨cm,cn⟩:=bj;unfold maxLen at cn;clear K al a8 M hst bc F V;go_enter func245,ntmps245;go_wp2_with fail
 go_loopw [4] (λai wr=>∃c:Nat,D<=c/\c<=max D x/\ai=qC c/\zQ k wr z/\∃aj w,jQ wr 0 wr.heap.size e (qM (qD A 0) n B) (qM aj c w) P J j g Q ((jL LS).take c)/\∀b,(Value.slice aj c w).ownBlock=some b->z b\/k.heap.size<=b)
  (λai _=>max D x-(intOf ai).toNat)
 case atStart=>exact⟨D,lR,qF,rfl,zQ.reflS _ _,_,_,az,bh⟩
 obtain⟨c,dt,du,rfl,X,aj,w,h,am⟩:=hrel;have aa:=zC am;have G:=zC X;have a0:=zC h;have cw:=X.size;by_cases dj:c<x
 ·have bk:c<s:=qF
  obtain⟨a,rfl⟩:∃a,c=a+1:=⟨c-1,qF⟩
  obtain⟨f,af,Y,an,W,ao⟩:=au.out a qF;have bl:Zq j g a<n:=(by rw[<- Z.out];exact(xp.1 Y).1);have ab:=aw a _ W;have ac:=SG a qF;have S:=h.rows.cells Z Y an;have T:=ZR ao.1;obtain⟨co,cp,cq,ap,aq⟩:=h.cells;have cx:=h.fz 4;have cy:=h.lt;obtain⟨cr,cs,bf⟩:=yw (h.rows.inner Y an);have AT:=zC (fun(N:qS) (ak:N.heap=wr.heap)=>atF e A B n a j g N (RC.same (w:=wr) ⟨co,cp,cq⟩ ak) cc bl cm qF);have a1:=zC (show GC wr A (Zq j g a*3) af f.lo f.hi from⟨S.1,S.2.1,S.2.2⟩)
  have ad:0<=f.lo/\f.lo<=f.hi/\f.hi<=f.cells.length:=by
   obtain⟨⟨_,⟨_,ap⟩,⟨aq,ct⟩,_⟩,_⟩:=ao.1;exact⟨aq,ct,ap⟩
  have LE:=zC (fun(N:qS) (ak:N.heap=wr.heap)=>Jb A (Zq j g a*3) cr f.cells.length cs f.lo f.hi N (by have:=a1.same ak;rw[bf]at this;exact this) ad.1 ad.2.1 ad.2.2 qF);have o:=h.starts;unfold Zr at o;rw[xi,R.out,vu qF]at o;have bn:=ay a;have bp:=av.out;have bq:=zC o;rcases o.2 with ⟨_,b⟩ | ⟨y,dv,cj,b,_,_,dw,cu,_⟩
  ·omega
  simp only[jW,true_and]at b;obtain⟨rfl,rfl⟩:=b
  have br:wr.cell? (qP y a)=some (qC ((jR (LS.take a)+a:Nat):Int)):=by
   have:=yL o a qF;rw[this];simp only[xP]at ac |-;rw[vf,xS qF,ac]
  unfold maxLen at cu;have a2:=zC (ax (a+1) bk);have bs:=zC ab;have bt:=zC T.1;generalize b7:((jR (LS.take a)+a:Nat):Int)=l at *;have cz:0<=l/\l<=20000:=qF;generalize b8:f.cells.length=p at *;generalize b9:f.lo=u at *;generalize ca:f.hi=v at *;have c0:p<=65536:=T.2.2;have bu:=zC h;have c1:e<wr.heap.size:=h.lt;have bv:((a+1:Nat):Int)<x:=qF
  have c2:some y≠some e:=by
   intro C;cases C;exact zj (jj h.blk) o qG rfl rfl
  have a3:l+((p:Int)-(v-u))+1=((jR (LS.take (a+1))+(a+1):Nat):Int):=by rw[<- T.1];exact ab
  have bw:=zC (fun(d:qS) (t:d.heap=wr.heap) (ae:zQ k d z) (i:qS) (m H:Nat) (I:(d.alloc (qR #[qC (l+((p:Int)-(v-u))+1)] 3)).grownBy i (Value.slice (qD y 0) (a+1) w).ownBlock) (U:i.ownsRow 0 3 1 (qM (qD m 0) (a+1+1) H) (a+1+1) (zI .i64 ((jL LS).take (a+1))++ [qC (l+((p:Int)-(v-u))+1)])) (cd:(Value.slice (qD y 0) (a+1) w).ownBlock=some m\/m=d.heap.size+1) (a7:m<i.heap.size)=>(show jQ (i.setCell (qP e 4) (qM (qD m 0) (a+1+1) H)) 0 i.heap.size e (qM (qD A 0) n B) (qM (qD m 0) (a+1+1) H) P J j g Q ((jL LS).take (a+1+1))/\i.heap[e]?=some (qR #[qM (qD A 0) n B,qC j,qC g,qC Q,qM (qD y 0) (a+1) w] 103 (0,0))/\zQ k i z/\(z m\/k.heap.size<=m)from by
   have c3:d.heap.size=wr.heap.size:=(by rw[t]);have bx:=(xe d.heap.size d).alloc lR (qR #[qC (l+((p:Int)-(v-u))+1)] 3);have bz:=(h.same t).below bx qF (by have:=h.lt;omega);have b0:=I.size;simp at b0
   have a4:=bz.app (hi':=i.heap.size) I (sv':=.slice (qD m 0) (a+1+1) H) (st':=(jL LS).take (a+1+1)) (by
    unfold Zr;rw[xi,R.out,vu qF,a2.out,zm,<- a3]
    exact U) (λb r=>by simp only[Value.ownBlock,xE]at r;omega) qF
   exact⟨a4.1,a4.2,(ae.allocS _).grownS I (λb r=>aa b r),by
    rcases cd with b | b
    ·exact aa _ b
    exact .inr qF⟩))
  clear h o X ab ac S T a3 ao W Y an bf b7 b8 b9 ca a1 ap am;have c4:IntKind.i64.wrap (a:Int)=a:=IntWalk.i64_in _ qF;have c5:IntKind.i64.wrap (l+((p:Int)-(v-u)))=l+((p:Int)-(v-u)):=IntWalk.i64_in _ qF;have c6:IntKind.i64.wrap (l+((p:Int)-(v-u))+1)=l+((p:Int)-(v-u))+1:=IntWalk.i64_in _ qF;have da:(0:Int)<=(a:Int)/\(a:Int)<(a:Int)+1:=qF;have db:(a:Int)<(a:Int)+1:=qF;clear az au av aw SG ax ay R Z a0 a2 bs bt bu a9 bn bp;generalize Zq j g a=dk at *;go_upto_region 3 with fail
  go_region_law (first
   |(refine step_append_lies _ rfl _ _ 26 rfl 0 3 ce (qC 0) 1 8 underlying26 cf cg ch ci rfl qG _ _ _ rfl (by exact(b4.alloc _)) (qP d.heap.size 0) 1 1 [qC (l+((p:Int)-(v-u))+1)] rfl rfl (by exact zV d _ _) (by simp[Value.oneCell']) qF qK qF (xK _) (d.heap.size+1) qH ?_;intro m H i U I b6 a7;have L:=b5 i m H I U b6 a7;have a5:=zC L.2.1;have dc:i.cell? (qP e 4)=some (qM (qD y 0) (a+1) w):=(by rw[xF i _ 4 _ _ _ a5.out];rfl);have dd:=xY i e 4 _ _ a5;have b1:=zC L.1;have b2:=zC L.2.2.1;have b3:=zC L.2.2.2;clear U I L)
   |(go_simp;go_wp2_with (first | (go_at_call 238;refine(AT _ (by exact rfl)).mono ?_;rintro C dx ⟨rfl,dy,rfl⟩) | (go_at_call 241;refine(LE _ (by exact rfl)).mono ?_;rintro C d ⟨rfl,nq,ar⟩;have t:d.heap=wr.heap:=(by rw[ar];rfl);have S7:d.heap.size=wr.heap.size:=(by rw[t]);have de:d.cell? (qP e 4)=some (qM (qD y 0) (a+1) w):=(xq (by rw[t])).trans aq;have df:d.cell? (qP y a)=some (qC l):=(xq (by rw[t])).trans br;have dg:e<d.heap.size:=qF;have dh:e≠d.heap.size:=qF;have b4:=zC (show d.ownsRow 0 3 1 (qM (qD y 0) (a+1) w) (a+1) (zI .i64 ((jL LS).take (a+1)))from zD bq (λb _=>by rw[t]));have ae:=zC (show zQ k d z from(by rw[ar];exact⟨G.os,G.tape,G.output,G.size,G.block⟩));have b5:=zC (bw d t ae);clear ar t S7))))
  all_goals (
   go_wp2_with fail;go_roundw
   case rel=>
    exact⟨a+1+1,qF,qF,qL,b2.setS _ _ (.inl bi),_,_,b1.mono lR qH,λb r=>by simp only[Value.ownBlock,xE]at r;subst r;exact b3⟩
   simp[intOf];omega)
 have di:max D x=c:=qF
 have bv:¬ (c:Int)<x:=qF
 clear h X am;go_wp2;go_end0;exact⟨rfl,⟨_,a0,G,λb r=>by have a6:=aa b r;rw[<- bg.out]at a6;exact a6⟩⟩
def zq(ls:List (qV))(a:Nat):Nat:=jR (ls.take a)+a
def Gy(ls){i j}(a:i<j):zq ls i<zq ls j:=by
 unfold zq
 have:=by
  have:=jB (ls.take j) i;rw[ky,vu qF]at this;exact this
 omega
def Kn(ls:List (qV))(c d a:Nat):Prop:=c<=a/\a<=ls.length/\(∀b,c<=b->b<a->zq ls (b-1)<=d)/\(a<ls.length->d<zq ls (a-1))
def Ln(ls:List (qV))(b a:Nat):Prop:=a<ls.length/\zq ls a<=b/\(a+1<ls.length->b<zq ls (a+1))
def Gz(E F u e f:Nat)(rv sv)(vs)(gs)(a b)(rn)(ls)(w)(m:jQ w E F u rv sv vs gs a b rn ((jL ls).take e))(v:e<=ls.length)(O:1<=e)(P:ls.length<=8193)(Q:f<=20000):
  Calls prog 246 #[qO u 0,qC f] w λs B=>∃c:Nat,s=qQ (qC c)/\c<e/\zq ls c<=f/\(c+1<e->f<zq ls (c+1))/\B=w:=by
 have o:=ji ls;obtain⟨R,G,n⟩:=ju m.starts;rw[xi,o,vu v]at n;have z:=m.cells.2.2.2.2;have i:=m.starts;unfold Zr at i;rw[xi,o,vu v,n]at i;have HR:=zC i;rcases i.2 with ⟨_,d⟩ | ⟨H,S,T,d,_,_,I,J,_⟩
 ·omega
 simp at d;obtain⟨rfl,rfl⟩:=d;rw[n]at z;unfold maxLen at J
 have p:=zC (RJ H G e f (λk=>((zq ls k):Int)) w (λk t=>by
  have:=yL HR k t;rw[this];have q:=Y7 (ls:=ls) (i:=k) qF;simp only[xP]at q |-;rw[vf,xS t,q]
  rfl) I qF (λC k D _=>by have:=Gy ls D;omega))
 clear m i n;go_enter func246,ntmps246;go_wp2_with fail;refine p.mono ?_;rintro s U ⟨c,rfl,V,x,y,K⟩;subst K;have A:=zC x;have r:=zC y;clear x y p;by_cases h:c<e/\((zq ls c):Int)=f
 ·have g:=zC h
  have j:decide (c<e/\((zq ls c):Int)=f)=true:=(by simpa using h);rw[j];clear h j;go_wp2_with fail;go_ret;exact⟨c,rfl,g.1,by have:=g.2;omega,λd=>by have:=Gy ls (show c<c+1 by omega);have:=g.2;omega,rfl⟩
 have g:=zC h;have j:decide (c<e/\((zq ls c):Int)=f)=false:=by simpa using h
 rw[j];clear h j
 have L:1<=c:=by
  rcases Nat.eq_zero_or_pos c with d | d
  ·subst d
   have:=r 0 lR qF;have M:zq ls 0=0:=(by simp[zq,jR]);exact absurd ⟨qF,qF⟩ g
  exact d
 obtain⟨l,rfl⟩:∃l,c=l+1:=⟨c-1,qF⟩
 go_wp2_with fail;go_ret;refine⟨l,qL,qF,by have:=A l qF;omega,λd=>?_,rfl⟩;have N:=r _ lR d;rcases vV f (zq ls (l+1))with q2 | q2
 ·exact q2
 exact absurd ⟨d,qF⟩ g
def KL{L i l}(a:L[i]?=some l):zq L (i+1)=zq L i+l.length+1:=by
 unfold zq;rw[jf a];omega
def J0(L){i j}(b:i<=j):zq L i<=zq L j:=by
 rcases Nat.eq_or_lt_of_le b with a | a
 ·simp_all
 exact kG (Gy L a)
def Ln.lc{L off k}(j:∀c∈L,10∉c)(b:Ln L off k)(l:off<=(jn L).length):Yi (jn L) off=k/\JD (jn L) off=off-zq L k/\zq L k<=off:=by
 have h:L≠ []:=by intro i;rw[i]at b;exact absurd b.1 qH
 obtain⟨a,f,c,d,m,g⟩:=GP L h off l;have n:=(xp.1 d).1;have o:=KL d;have p:off=zq L a+f:=g
 obtain rfl:a=k:=by
  rcases kU a k with e | e | e
  ·have:=J0 L (show a+1<=k by omega);have:=b.2.1;omega
  ·exact e
  have:=J0 L (show k+1<=a by omega);have:=b.2.2 qF;omega
 have:=Ip L j a f c d m;rw[<- g]at this;omega
def Kn.uniq{L s0 off m m'}(b:Kn L s0 off m)(c:Kn L s0 off m'):m=m':=by
 rcases kU m m' with a | a | a
 ·have d:=b.2.2.2 (by have:=c.2.1;omega)
  have e:=c.2.2.1 m b.1 a;omega
 ·exact a
 have d:=c.2.2.2 (by have:=b.2.1;omega);have e:=b.2.2.1 m' c.1 a;omega
def Ln.uniq{L off k k'}(a:Ln L off k)(b:Ln L off k'):k=k':=by
 rcases kU k k' with c | c | c
 ·have d:=a.2.2 (by have:=b.1;omega)
  have:=J0 L (show k+1<=k' by omega);have:=b.2.1;omega
 ·exact c
 have d:=b.2.2 (by have:=a.1;omega);have:=J0 L (show k'+1<=k by omega);have:=a.2.1;omega
def Kn.ex(L)(s0 off)(g:s0<=L.length):∃b,Kn L s0 off b:=by
 obtain⟨a,o⟩:∃a,a=L.length-s0:=⟨_,rfl⟩
 induction a generalizing s0 with
 | zero=>exact⟨s0,lR,g,λc f d=>qF,λn=>qF⟩
 | succ a m=>
  by_cases h:zq L (s0-1)<=off
  ·obtain⟨b,f,d,k,l⟩:=m (s0+1) qF qF
   refine⟨b,qF,d,λc i j=>?_,l⟩;rcases Nat.eq_or_lt_of_le i with e | e
   ·rw[<- e];exact h
   exact k c e j
  exact⟨s0,lR,g,λc f d=>qF,λ_=>qF⟩
def Si(m Q M s i o n e:Nat)(y)(vs)(gs)(LS)(rn)(st)(w)(N:jQ w 0 w.heap.size m (.slice (qD Q 0) s M) y vs gs o n rn st)(ax:gs.length=s)(bz:o<=n/\n<=s)(b0:s<=1048576)(cg:i+(n-o)=s)(B:LS.length=i)(aw:i<=8193)(ay:∀a,a<i->∃ae bv,gs[Zq o n a]?=some ae/\vs[Zq o n a]?=some bv/\LS[a]?=some (zK ae)/\Pm ae)(b1:1<=st.length)(hst:st=(jL LS).take st.length)(ai:st.length<=i)(az:(jn LS).length<=8192)(a0:e<=20000):
  Calls prog 232 #[.pointer (qD m 0),qC e] w λt L=>∃(a ar:Nat)(au:Value),t= .returned (.tuple #[qC a,qC (e-zq LS a)])/\Ln LS e a/\Kn LS st.length e ar/\jQ L 0 L.heap.size m (.slice (qD Q 0) s M) au vs gs o n rn ((jL LS).take ar)/\zQ w L (λa=>a=m\/y.ownBlock=some a)/\(∀c,au.ownBlock=some c->(c=m\/y.ownBlock=some c)\/w.heap.size<=c):=by
 have bc:=zC (λg y av(bw:jQ av 0 _ m _ y vs gs o n rn _)(af:1<=g)(cc:g<i)=>(by
  have am:((jL LS).take g).length=g:=(by rw[xi,ji,B];omega);have:=Sg m Q M s i o n (g+1) y vs gs LS rn ((jL LS).take g) av bw ax bz b0 B aw ay (by omega) (by rw[am]) (by omega) (by omega) az;rw[am,Nat.max_eq_right (by omega)]at this
  exact this))
 generalize O:(λa=>a=m\/y.ownBlock=some a)=v at *;have an:=zC O;have bd:=zC (λc z=>(show v c\/w.heap.size<=c from .inl (by rw[<- O];exact .inr z)));have bf:=zC (show v m from by rw[<- O];exact .inl rfl);have S:=zC (show(jL LS).length=i by rw[ji,B])
 have bg:=zC (λb(cd:b<i)=>(show zq LS b<=20000 from by
  have:=jl (ls:=LS) (by intro t;rw[t]at B;simp at B;omega);have:=jB LS b
  unfold zq;omega))
 have p:=zC B;obtain⟨A,a1⟩:∃A,A=st.length:=⟨_,rfl⟩
 rw[<- a1]at hst b1 ai |-;rw[hst]at N;have ao:=zC N;obtain⟨ch,ci,a2⟩:=ju N.starts;rw[xi,S.out,vu ai]at a2;subst a2;have b7:=N.cells.2.2.2.2;clear N ax ay az hst a1 B O;go_enter func232,ntmps232;go_wp2_with fail
 go_loopw [6] (λag wr=>∃g:Nat,A<=g/\g<=i/\ag=qC g/\zQ w wr v/\(∃ah P,jQ wr 0 wr.heap.size m (.slice (qD Q 0) s M) (.slice ah g P) vs gs o n rn ((jL LS).take g)/\∀c,(Value.slice ah g P).ownBlock=some c->v c\/w.heap.size<=c)/\∀b,A<=b->b<g->zq LS (b-1)<=e)
  (λag _=>i-(intOf ag).toNat)
 case atStart=>exact⟨A,lR,ai,rfl,zQ.reflS _ _,⟨_,_,ao,bd⟩,λb ce aw=>by omega⟩
 obtain⟨g,af,cj,rfl,aj,⟨ah,P,R,a3⟩,a4⟩:=hrel;have T:=zC a3;have h:=zC aj;have U:=zC R;have V:=zC a4;have b8:=aj.size;obtain⟨a5,a6,a7,b2,E⟩:=R.cells;have LE:=zC (Yd m 0 _ s M o n wr ⟨a5,a6,a7⟩ (by omega) (by omega) (by omega) (by omega));rw[show(s:Int)-(n-o)=i by omega]at LE;have F:=R.starts;unfold Zr at F;rw[xi,S.out,vu (by omega)]at F;have HR:=zC F;rcases F.2 with ⟨_,c⟩ | ⟨ck,cl,cm,c,_,_,cn,b3,_⟩
 ·omega
 simp only[jW,true_and]at c;obtain⟨rfl,rfl⟩:=c;unfold maxLen at b3
 have C:=zC (λa f=>(show wr.cell? _=some (.int _ ((zq LS a:Nat)))from by
  have:=yL HR a f;rw[this];have q:=Y7 (i:=a) (by rw[p.out];omega);simp only[xP]at q |-;rw[vf,xS f,q]
  rfl))
 obtain⟨b,b4⟩:∃b,b=g-1:=⟨_,rfl⟩
 have bh:g=b+1:=by omega
 have D:=C b (by omega);have b9:=bg b (by omega);generalize aq:zq LS b=ad at *;have W:=zC aq;clear R a4 F aq aj a5 a6 a7 b2 ao HR a3;subst bh;clear b4;by_cases br:(b+1)<i
 ·have bi:((b+1:Nat):Int)<i:=by omega
  by_cases bs:ad<=e
  ·have bj:(ad:Int)<=e:=by omega
   go_wp2_with fail;refine LE.mono ?_;rintro t j ⟨rfl,c,k⟩;have d:j.heap=wr.heap:=(by rw[k];rfl);have l:=zC (show zQ w j v from by rw[k];exact⟨h.os,h.tape,h.output,h.size,h.block⟩);have X:=(xq (by rw[d])).trans E;have G:=(xq (by rw[d])).trans D;have ap:=zC (bc _ _ j ((U.same d).mono lR (by rw[d];exact lR)) (by omega) br);clear k d LE C D E;go_wp2_with fail;refine ap.mono ?_;rintro t a8 ⟨co,rfl,ak,a9,ba⟩;obtain⟨b5,b6,al⟩:=ju ak.starts;rw[xi,S.out,vu (by omega)]at al
   have SK:=zC (show ∀a,(a=m\/(Value.slice _ _ P).ownBlock=some a)->v a\/w.heap.size<=a from λa f=>by
    rcases f with rfl | f
    ·exact .inl bf
    exact T a f)
   have ca:=l.size
   have bk:=zC (λc z=>by
    rcases ba c z with q | q
    ·exact SK c q
    exact .inr (by omega))
   have bl:=zC (l.qo a9 SK);have bn:=zC ak;clear ak a9 ap X G ba;go_wp2_with fail;go_roundw
   case rel=>
    refine⟨b+1+1,by omega,by omega,by go_num,bl,⟨b5,b6,by rw[<- al];exact bn,by rw[<- al];exact bk⟩,λr bx cf=>?_⟩;by_cases bt:r<b+1
    ·exact V r bx bt
    obtain rfl:r=b+1:=by omega
    show zq LS b<=e
    rw[W.out];exact bs
   simp[intOf];omega
  have bj:¬ (ad:Int)<=e:=(by omega);have Y:=zC (show Kn LS A e _ from⟨af,by rw[p.out];omega,V,λ_=>by show e<zq LS b;rw[W.out];omega⟩)
  have Z:=zC (λa(f:a<(b+1))x(u:a+1<(b+1)->e<zq LS _)=>(show Ln LS e a from⟨by rw[p.out];omega,x,λ_=>by
   rcases vV (a+1) (b+1)with r | r
   ·exact u r
   have:a=b:=by omega
   rw[this,W.out]at x;omega⟩))
  have cb:(b:Int)<b+1:=(by omega);go_wp2_with fail;refine LE.mono ?_;rintro t j ⟨rfl,c,k⟩;have d:j.heap=wr.heap:=(by rw[k];rfl);have l:=zC (show zQ w j v from by rw[k];exact⟨h.os,h.tape,h.output,h.size,h.block⟩);have H:=zC (U.same d);have aa:j.heap.size=wr.heap.size:=(by rw[d]);have X:=(xq (by rw[d])).trans E;have G:=(xq (by rw[d])).trans D;have KN:=zC (Gz 0 _ m _ e _ _ vs gs o n rn LS j H (by rw[p.out];omega) (by omega) (by rw[p.out];omega) a0);have I:=zC (λa f=>(xq (by rw[d])).trans (C a f));clear k d LE D E C;go_wp2_with fail;refine KN.mono ?_;rintro t a8 ⟨a,rfl,f,x,u,k⟩;have ab:=k.symm;subst ab;have bp:=I a f;have bq:(a:Int)<(b+1):=(by omega);have ac:=zC u;generalize K:zq LS a=bu at *;have J:=zC K;clear u K KN I G;go_wp2_with fail;go_quiet (fail);go_wp2_with fail;go_ret2;refine⟨a,(b+1),_,by rw[J.out];rfl,?_,?_,?_,?_,λc z=>by have q:=T c z;rw[<- an.out]at q;exact q⟩
  ·exact Z a f (by rw[J.out];exact x) ac
  ·exact Y
  ·exact(H.same (w':=j.drewN nq) rfl).mono lR (by rw[<- aa];exact lR)
  exact⟨l.os,l.tape,l.output,l.size,l.block⟩
 have bi:¬ ((b+1:Nat):Int)<i:=by omega
 have Y:=zC (show Kn LS A e _ from⟨af,by rw[p.out];omega,V,λr=>by rw[p.out]at r;omega⟩);have Z:=zC (λa(f:a<(b+1))x(u:a+1<(b+1)->e<zq LS _)=>(show Ln LS e a from⟨by rw[p.out];omega,x,λr=>u (by rw[p.out]at r;omega)⟩));go_wp2_with fail;refine LE.mono ?_;rintro t j ⟨rfl,c,k⟩;have d:j.heap=wr.heap:=by rw[k];rfl
 have l:=zC (show zQ w j v from by rw[k];exact⟨h.os,h.tape,h.output,h.size,h.block⟩);have H:=zC (U.same d);have aa:j.heap.size=wr.heap.size:=by rw[d]
 have X:=(xq (by rw[d])).trans E;have G:=(xq (by rw[d])).trans D;have KN:=zC (Gz 0 _ m _ e _ _ vs gs o n rn LS j H (by rw[p.out];omega) (by omega) (by rw[p.out];omega) a0);have I:=zC (λa f=>(xq (by rw[d])).trans (C a f));clear k d LE D E C;go_wp2_with fail;refine KN.mono ?_;rintro t a8 ⟨a,rfl,f,x,u,k⟩;have ab:=k.symm;subst ab;have bp:=I a f;have bq:(a:Int)<(b+1):=by omega
 have ac:=zC u;generalize K:zq LS a=bu at *;have J:=zC K;clear u K KN I G;go_wp2_with fail;go_quiet (fail);go_wp2_with fail;go_ret2;refine⟨a,(b+1),_,by rw[J.out];rfl,?_,?_,?_,?_,λc z=>by have q:=T c z;rw[<- an.out]at q;exact q⟩
 ·exact Z a f (by rw[J.out];exact x) ac
 ·exact Y
 ·exact(H.same (w':=j.drewN nq) rfl).mono lR (by rw[<- aa];exact lR)
 exact⟨l.os,l.tape,l.output,l.size,l.block⟩
def jQ.rowed{w w1}{g p i h l m n:Nat}{sv u vs vs' gs G a b rn st}(d:jQ w g p i (qM (qD h 0) m l) sv vs gs a b rn st)(y:p<=w.heap.size)(q:vs[n]?=some u)(z:g<=i)
  (t:yt 100 w1 g w1.heap.size (qM (qD h 0) m l) vs' G) (e:zQ w w1 (λf=>f=h\/u.ownBlock=some f)):
  jQ w1 g w1.heap.size i (qM (qD h 0) m l) sv vs' G a b rn st/\Below g w w1:=by
 have r:n<(gs.map Gr.cells).length:=by rw[<- d.rows.nest.len];exact(xp.1 q).1
 have j:=d.rows.nest.own n u _ q (xw r);have s:=d.lt;have v:=d.rows.row.lt h rfl;refine⟨⟨(e.block i s (λc=>?_)).trans d.blk,t,?_,yW d.sbl (by have:=e.size;omega)⟩,e.os,e.tape,e.output,e.size,λf x=>e.block f qF (λc=>?_)⟩
 ·rcases c with c | c
  ·exact zj (jj d.blk) d.rows.row qG rfl (by simp[Value.ownBlock,c])
  exact zj (jj d.blk) j qG rfl c
 ·refine zD d.starts (λo k=>e.block o (d.starts.lt o k).2 (λc=>?_))
  rcases c with c | c
  ·exact zj d.starts d.rows.row qG k (by simp[Value.ownBlock,c])
  exact zj d.starts j qG k c
 rcases c with c | c
 ·omega
 have:=(j.lt f c).1;omega
def jQ.setN{w lo hi c rv sv vs gs a b rn st}(d:jQ w lo hi c rv sv vs gs a b rn st)(r):jQ (w.setCell (qP c 3) (qC r)) lo hi c rv sv vs gs a b r st:=by
 have e:=jj d.blk;have f:w.grownBy (w.setCell _ (qC r)) (Value.slice (qD c 0) 1 1).ownBlock:=⟨rfl,rfl,rfl,qH,λg _ h=>xj w (qP c 3) g _ (λi=>h (by simp[Value.ownBlock,i]))⟩
 exact⟨xN w c 3 _ _ _ d.blk,d.rows.kept e qG qG f,yX d.starts e qG f,d.sbl⟩
def IB{w lo ao n cap k st}(e:Zr w lo (qM ao n cap) st)(m:1<=k)(o:k<=st.length):Zr w lo (qM ao k cap) (st.take k):=by
 unfold Zr at *;rcases e.2 with ⟨b,p⟩ | ⟨f,q,c,b,g,h,r,i,j,l⟩
 ·omega
 simp at b;obtain⟨rfl,s,rfl⟩:=b;have a:(st.take k).length=k:=by rw[xi];omega
 refine⟨by rw[zG,a,Qm],.inr ⟨f,cap,c,by rw[a],g,h,qF,i,j,?_⟩⟩;rw[a];have d:List.take (k*1) c.toList=(List.take (st.length*1) c.toList).take (k*1):=by rw[ky,vu qF]
 rw[d,l];simp[zI]
def zAu(b c:Nat)(d:qT)(e:qU)(a:Nat):Prop:=a=b\/a=c\/d.ownBlock=some a\/∃u∈e,u.ownBlock=some a
def Ln.colF{L off k l}(a:Ln L off k)(j:off<=(jn L).length)(f:L[k]?=some l):off-zq L k<=l.length/\zq L k<=off:=by
 have b:=a.1;have c:=a.2.1;refine⟨?_,c⟩;have g:=KL f;by_cases e:k+1<L.length
 ·have:=a.2.2 e;omega
 have h:=jl (ls:=L) (by intro d;rw[d]at b;simp at b);have i:jR (L.take (k+1))=jR L:=by rw[xU qF]
 unfold zq at *;omega
def Kn.ltF{L s0 off m k}(c:Kn L s0 off m)(a:Ln L off k)(f:1<=s0):k<m:=by
 rcases vV k m with b | b
 ·exact b
 have d:=c.2.2.2 (by have:=a.1;omega);have e:=J0 L (show m-1<=k by omega);have:=a.2.1;omega
def ID{w w' ts b o m ct S}(f:∀a,a<ts.length->w.cell? (qP b (o+a))=some (.int .i32 (ts.getD a 0)))(c:zQ w w' S)(d:b<w.heap.size)(g:¬S b)(h:ts.length=m):Sl .i32 w' (qM (qD b o) m ct) ts:=
 .inr ⟨b,o,ct,by rw[h],ve d c.size,λa e=>(xq (c.block b d g)).trans (f a e)⟩
def Sj{c:qS}{d e f:Nat}{v n xs}(g:c.ownsRow d e f v n xs):∃b a,v= .slice b n a:=by
 rcases g.2 with ⟨rfl,h⟩ | ⟨i,a,j,rfl,_⟩
 ·simp_all
 simp
def forgetF{w lo hi c rv as_ m cs vs gs a b rn st}(d)(e:jQ w lo hi c rv (qM as_ m cs) vs gs a b rn st)(o:st.length=m)(s:d<m)(t:m<=1048576):
  Calls prog 244 #[qO c 0,qC d] w λg h=>g=qQ (.tuple #[])/\jQ h lo hi c rv (qM as_ (d+1) cs) vs gs a b rn (st.take (d+1))/\h=w.setCell (qP c 4) (qM as_ (d+1) cs):=by
 have j:=zC (IB e.starts (k:=d+1) qF qF);have k:=zC e
 have p:m<=cs:=by
  have f:=e.starts;unfold Zr at f;rw[o]at f;rcases f.2 with ⟨g,u⟩ | ⟨v,x,y,g,_,_,z,_⟩
  ·omega
  simp_all
 obtain⟨A,B,C,D,E⟩:=e.cells;have q:=e.fz 4;have r:(d:Int)+1<=cs:=qF
 have l:=zC (show bel hi (qM as_ (d+1) cs)from λn i=>by
  cases as_ with
  | none=>simp[Value.ownBlock]at i
  | some F=>exact e.sbl n i)
 clear e;go_enter func244,ntmps244;go_wp2;go_end0;exact⟨rfl,k.setS j l,rfl⟩
def GZ(b:qU)(c:List Gr)(d e:Nat):Prop:=∀a,d<=a->a<e->b[a]?=some qN/\c[a]?=some YJ
def Sk:∀{vs gs}{c:Nat}{v g},vs[c]?=some v->gs[c]?=some g->(ZS vs gs)[c]?=some (v,qC g.lo,qC g.hi)
 | _::_,_::_,0,_,_,a,b=>by simp at a b;subst a b;rfl
 | _::_,_::_,c+1,_,_,a,b=>by simpa[ZS]using Sk (by simpa using a) (by simpa using b)
 | [],_,_,_,_,a,_=>by simp at a
 | _::_,[],_,_,_,_,b=>by simp at b
def OS{α}{a:α}{xs p n i}(c:p<=xs.length)(d:p<=i)(e:i<p+(n-xs.length)):(ze a xs p n)[i]?=some a:=by
 have b:(xs.take p).length=p:=by rw[xi];omega
 unfold ze;rw[vb qF,b,xW (by rw[xD];omega),Qd,xS qF]
def GZ.lay{vs gs p N}(e:vs.length=gs.length)(c:p<=gs.length):GZ (ze qN vs p N) (ze YJ gs p N) p (p+(N-gs.length)):=λd a b=>⟨OS qF a qF,OS c a b⟩
def OV{α}{c b:α}{xs p n}(a:b∈ze c xs p n):b=c\/b∈xs:=by
 unfold ze at a;rcases vD.1 a with a | a
 ·exact .inr (vO a)
 rcases vD.1 a with a | a
 ·simp_all
 exact .inr (vS a)
def Sm{X p N}(b:p<=X.length)(c:X.length<=N):lg (ze YJ X p N) p (p+(N-X.length))=X:=by
 have a:(X.take p).length=p:=by rw[xi];omega
 unfold lg ze;rw[Ql a,<- vK,QG (by simp_all),vy]
def KM{a:qT}{q}(b:a= .slice none 0 0):a.ownBlock≠some q:=by rw[b];simp[Value.ownBlock]
section
variable {w:World} {lo hi c g cap n a b:Nat} {sv:Value} {vs:List Value} {gs:List Gr} {rn:Int} {st:List Int}
def jQ.gva(i:jQ w lo hi c (qM (qD g 0) n cap) sv vs gs a b rn st)(m:gs.length=n)(j:a<=b/\b<=n)(k:GZ vs gs a b)(o:n<=65536/\n-(b-a)<=16384):zB3 z3 (ZS vs gs) a b:=by
 have l:=ZT i.rows.len;refine⟨j.1,qF,λe f h=>?_,qF,qF⟩;have d:=k e f h;rw[xP,Sk d.1 d.2];rfl
def Sn{p k gn ck lo2 hi2 us hs}(h:jQ w lo hi c (qM (qD g 0) n cap) sv vs gs a b rn st)(J:gs.length=n)(ab:a<=b/\b<=n)(bc:GZ vs gs a b)(bd:n<=65536/\n-(b-a)<=16384)(bf:hi<=w.heap.size)
  (z:yt 100 w lo2 hi2 (qM (qD gn 0) k ck) us hs) (al:hs.length=k) (bv:1<=k) (bw:hi<=lo2) (bx:hi2<=w.heap.size) (bz:p<=n-(b-a)) (b0:n-(b-a)+k<=16384) (bg:lo<=lo2):
  Calls prog 243 #[qO c 0,qC p,qM (qD gn 0) k ck] w λy f=>y=qQ (.tuple #[])/\∃t Y e Z H,jQ f lo f.heap.size c (qM (qD t 0) e Y) sv Z H (p+k) (p+(e-(n-(b-a)))) rn st/\(H.length=e/\n-(b-a)+k<=e/\e<=65536)/\GZ Z H (p+k) (p+(e-(n-(b-a))))/\lg H (p+k) (p+(e-(n-(b-a))))=(lg gs a b).take p++(hs++(lg gs a b).drop p)/\zQ w f (Sc c g)/\(t=g\/w.heap.size<=t)/\∀d∈Z,d= .slice none 0 0\/d∈vs\/d∈us:=by
 have N:=h.rows.len;have bp:=h.lt;have x:=h.gva J ab bc bd;have O:=h.rows.row;rw[J,Y9]at O;have P:(ZS vs gs).length=n:=by rw[ZT N,J]
 have an:=(O.lt g rfl)
 obtain⟨_,b1,bh,bi,bj,b2⟩:=Ur.qa O;have ao:yD (ZS vs gs):=Xz h.rows.nest.one;have ap:c≠g:=λy=>zj (jj h.blk) h.rows.row qG rfl (by simp[Value.ownBlock,y])
 obtain⟨l,K⟩:∃l,l=vs.take a++vs.drop b:=⟨_,rfl⟩
 obtain⟨o,D⟩:∃o,o=lg gs a b:=⟨_,rfl⟩
 have Q:l.length=o.length:=by rw[K,D];unfold lg;simp[N]
 have aq:o.length=n-(b-a):=by rw[D,XZ ab.1 qF,J]
 have F:∀d∈l,d∈vs:=λd m=>by
  rw[K]at m;rcases vD.1 m with i | i
  ·exact vO i
  exact vS i
 have R:yH (ZS vs gs) a b=ZS l o:=by
  unfold yH;rw[Ya,Yb,K,D,lg,YQ (by simp[N])]
 have ac:(ZS l o).length=n-(b-a):=by rw[ZT Q,aq]
 have S:=z.len;have ar:(ZS us hs).length=k:=by rw[ZT S,al]
 have au:yD (ZS us hs):=Xz z.nest.one;have av:yD (ZS l o):=Xz (λd m=>h.rows.nest.one d (F d m))
 obtain⟨e,bk,bl,bn⟩:∃e,((k<=b-a/\e=(ZS vs gs).length)\/(b-a<k/\XJ ((yH _ a b).length+k) (max (ZS vs gs).length 16) e))/\n-(b-a)+k<=e/\e<=65536:=by
  by_cases a8:k<=b-a
  ·exact⟨n,.inl ⟨a8,P.symm⟩,qF,qF⟩
  obtain⟨e,am⟩:=Ts (n-(b-a)+k) (n-(b-a)+k) (max n 16) qF qF;have bq:=JO am;exact⟨e,.inr ⟨qF,by rw[R,P,ac];exact am⟩,qF,qF⟩
 have HR:=zC (MZ c 0 g cap _ 103 _ bi a b k e (Sc c g) w (by rw[P];exact h.gb) bj ao ap an.2 qF bh qF x (by rw[R];omega) (.inr rfl) (.inl rfl) bk);rw[R]at HR;have T:=z.row;rw[al,Y9]at T
 have aw:∀f,zQ w f (Sc c g)->0<k->∃ak,(some (qP gn 0):qW)=some ak/\∀C d,(jD (ZS us hs))[C]?=some d->f.cell? (ak.add C)=some d:=by
  intro f a7 _;refine⟨_,rfl,λC d a9=>?_⟩;have ax:=T.lt gn rfl
  have ay:f.heap[gn]? =w.heap[gn]?:=a7.block gn ax.2 (λu=>by
   rcases u with u | u
   ·exact zj z.row (jj h.blk) qG rfl (by simp[Value.ownBlock,u])
   have:=h.rows.bl g rfl;omega)
  exact(xq (a:=((qP gn 0):Addr).add C) (by rw[yF];exact ay)).trans (T.cells rfl C d a9)
 have az:=Dz c 0 _ 103 _ _ _ k ck e p _ w qH ar.symm qF av qF (.inl rfl) aw au HR;refine az.mono ?_;rintro y f ⟨rfl,t,Y,b3,r⟩;have br:=r.chg.size;obtain⟨A,L⟩:∃A,A=l.take p++(us++l.drop p):=⟨_,rfl⟩
 obtain⟨v,E⟩:∃v,v=o.take p++(hs++o.drop p):=⟨_,rfl⟩
 have a0:(ZS l o).take p++(ZS us hs++(ZS l o).drop p)=ZS A v:=by
  rw[Ya,Yb,L,E,YQ (by simp[Q]),YQ S]
 have U:A.length=v.length:=by rw[L,E];simp[Q,S]
 have bs:v.length=n-(b-a)+k:=by rw[E];simp only[xg,xi,xz];omega
 have ad:(t=g\/w.heap.size<=t)/\lo<=t:=by
  by_cases j:t<w.heap.size
  ·rcases r.low j with y | y
   ·exact absurd y.symm r.ne
   omega
  omega
 have ae:=r.rw;rw[a0,OJ _ e U]at ae;have G:(ze YJ v (p+k) e).length=e:=z8 qF qF;have a1:(ze (Value.slice none 0 0) A (p+k) e).length=e:=z8 qF qF;have V:=WS ae (by rw[ZT (by rw[G,a1]),G]) ad.2 r.cap.1 r.cap.2.1 r.cap.2.2;rw[<- Y9]at V;have W:zd f lo f.heap.size vs _:=(h.rows.nest.keep r.chg (λI s ba j _ _ aa q=>h.apart aa q)).mono lR qF
 have X:zd f lo f.heap.size l (o.map Gr.cells):=by
  rw[K,D,lg,vX,Qw,Qn];exact zd.app (W.take a) (W.drop b) (W.parts a b ab.1)
 have a2:zd f lo f.heap.size us _:=(z.nest.keep r.chg (λI s ba j _ _ aa q=>h.apart aa q)).mono bg qF
 have af:∀d∈l,∀s∈us,∀j,d.ownBlock=some j->s.ownBlock≠some j:=by
  intro d m s x j q B;have bt:=h.rows.nest.bl d (F d m) j q;obtain⟨I,hi⟩:=kH x;have a3:I<(hs.map Gr.cells).length:=(by rw[<- z.nest.len];exact(xp.1 hi).1);have bu:=((z.nest.own I s _ hi (xw a3)).lt j B).1;omega
 have ag:(l.take p++us).length=p+k:=by simp only[xg,xi];omega
 have ah:(o.take p++hs).length=p+k:=by simp only[xg,xi];omega
 have a4:zd f lo f.heap.size (ze qN A (p+k) e) ((ze YJ v (p+k) e).map Gr.cells):=by
  unfold ze;rw[U,L,E,<- vK (l.take p) us,<- vK (o.take p) hs,Ql ag,QG ag,Ql ah,QG ah];simp only[vX,Qw,Qn];refine zd.app (zd.app (X.take p) a2 (λd m s x=>af d (vO m) s x)) (zd.app (zd.nils f lo f.heap.size _) (X.drop p) (λd m s _ j q=>absurd q (KM (Qi m)))) ?_;intro d m s x j q B;rcases vD.1 x with M | M
  ·exact KM (Qi M) B
  rcases vD.1 m with u | u
  ·exact X.parts p p lR d u s M j q B
  exact af s (vS M) d u j B q
 have a5:bel _ _:=λj q=>(V.lt j q).2
 have a6:yt 100 f lo _ _ _ _:=⟨by rw[G];exact V,a5,a4⟩
 have ai:=r.gb.blk;rw[ac]at ai;have aj:p+(e-(n-(b-a)))=p+k+(e-v.length):=qF
 refine⟨rfl,t,Y,e,_,_,h.other bf (by first | exact ai) r.chg a6,⟨G,bl,bn⟩,by rw[aj];exact GZ.lay U qF,?_,r.chg,ad.1,λd m=>?_⟩
 ·rw[aj,Sm qF qF,E,D]
 rcases OV m with i | i
 ·exact .inl i
 rw[L]at i;rcases vD.1 i with i | i
 ·exact .inr (.inl (F d (vO i)))
 rcases vD.1 i with i | i
 ·exact .inr (.inr i)
 exact .inr (.inl (F d (vS i)))
def So{a1 b1}(j:jQ w lo hi c (qM (qD g 0) n cap) sv vs gs a b rn st)(u:gs.length=n)(K:a<=b/\b<=n)(ai:GZ vs gs a b)(aj:n<=65536/\n-(b-a)<=16384)(ak:hi<=w.heap.size)(V:a1<=b1)(ay:b1<=n-(b-a)):
  Calls prog 247 #[qO c 0,qC a1,qC b1] w λs d=>s=qQ (.tuple #[])/\∃J t,jQ d lo d.heap.size c (qM (qD g 0) n cap) sv J t a1 (b1+(b-a)) rn st/\t.length=n/\GZ J t a1 (b1+(b-a))/\lg t a1 (b1+(b-a))=(lg gs a b).take a1++(lg gs a b).drop b1/\zQ w d (Sc c g)/\∀i∈J,i= .slice none 0 0\/i∈vs:=by
 have z:=j.rows.len;have aq:=j.lt;have A:=j.gva u K ai aj;have B:=j.rows.row;rw[u,Y9]at B;have M:(ZS vs gs).length=n:=by rw[ZT z,u]
 have W:=(B.lt g rfl)
 obtain⟨_,al,am,an,ao,ap⟩:=Ur.qa B;have X:yD (ZS vs gs):=Xz j.rows.nest.one;have Y:c≠g:=λs=>zj (jj j.blk) j.rows.row qG rfl (by simp[Value.ownBlock,s])
 obtain⟨e,v⟩:∃e,e=vs.take a++vs.drop b:=⟨_,rfl⟩
 obtain⟨f,q⟩:∃f,f=lg gs a b:=⟨_,rfl⟩
 have C:e.length=f.length:=by rw[v,q];unfold lg;simp[z]
 have Z:f.length=n-(b-a):=by rw[q,XZ K.1 qF,u]
 have N:∀i∈e,i∈vs:=λi k=>by
  rw[v]at k;rcases vD.1 k with h | h
  ·exact vO h
  exact vS h
 have aa:yH (ZS vs gs) a b=ZS e f:=by
  unfold yH;rw[Ya,Yb,v,q,lg,YQ (by simp[z])]
 have ar:(ZS e f).length=n-(b-a):=by rw[ZT C,Z]
 have O:=removeR c 0 g cap _ 103 _ an a b a1 b1 w (by rw[M];exact j.gb) ao X Y qF A V qF;rw[aa,M]at O;refine O.mono ?_;rintro s d ⟨rfl,x⟩;have au:=x.chg.size;have D:zQ w d (Sc c g):=x.chg;obtain⟨o,y⟩:∃o,o=e.take a1++e.drop b1:=⟨_,rfl⟩
 obtain⟨l,r⟩:∃l,l=f.take a1++f.drop b1:=⟨_,rfl⟩
 have ab:(ZS e f).take a1++(ZS e f).drop b1=ZS o l:=by
  rw[Ya,Yb,y,r,YQ (by simp[C])]
 have E:o.length=l.length:=by rw[y,r];simp[C]
 have av:l.length=n-(b-a)-(b1-a1):=by rw[r];simp only[xg,xi,xz];omega
 have P:=x.rw;rw[ab,OJ a1 n E]at P;have F:(ze YJ l a1 n).length=n:=z8 qF qF;have ac:(ze (Value.slice none 0 0) o a1 n).length=n:=z8 qF qF;have Q:=WS P (by rw[ZT (by rw[F,ac]),F]) W.1 al am ap;rw[<- Y9]at Q;have G:zd d lo d.heap.size vs _:=(j.rows.nest.keep D (λaw I ax p _ _ ah m=>j.apart ah m)).mono lR qF
 have H:zd d lo d.heap.size e (f.map Gr.cells):=by
  rw[v,q,lg,vX,Qw,Qn];exact zd.app (G.take a) (G.drop b) (G.parts a b K.1)
 have R:(e.take a1).length=a1:=by rw[xi];omega
 have S:(f.take a1).length=a1:=by rw[xi];omega
 have ad:zd d lo d.heap.size (ze qN o a1 n) ((ze YJ l a1 n).map Gr.cells):=by
  unfold ze;rw[E,y,r,Ql R,QG R,Ql S,QG S];simp only[vX,Qw,Qn];refine zd.app (H.take a1) (zd.app (zd.nils d lo d.heap.size _) (H.drop b1) (λi k I _ p m=>absurd m (KM (Qi k)))) ?_;intro i k I A p m U;rcases vD.1 A with L | L
  ·exact KM (Qi L) U
  exact H.parts a1 b1 V i k I L p m U
 have ae:bel _ _:=λp m=>(Q.lt p m).2
 have af:yt 100 d lo _ _ _ _:=⟨by simp_all,ae,ad⟩
 have ag:=x.gb.blk;have T:b1+(b-a)=a1+(n-l.length):=qF
 refine⟨rfl,_,_,j.other ak (by first | exact ag) D af,F,?_,?_,D,λi k=>?_⟩
 ·rw[T];exact GZ.lay E qF
 ·rw[T,Sm qF qF,r,q]
 rcases OV k with h | h
 ·exact .inl h
 rw[y]at h;rcases vD.1 h with h | h
 ·exact .inr (N i (vO h))
 exact .inr (N i (vS h))
end
noncomputable def jI (gs:List Gr) (k k2:Nat) (x y:Gr) (c1 c2:Nat):List Gr:=
 if k=k2 then gs.set k (delG x c1 c2)else(gs.set k (jh (delG x c1 (zK x).length) c1 ((zK y).drop c2))).take (k+1)++gs.drop (k2+1)
def ZN{α:Type}{c:List α}{i a b}(d:c[i]?=some b):(c.set i a)[i]?=some a:=by
 have:=(xp.1 d).1;simp[this]
def Mg{LS}{d c:Nat}{a b}(i:d<c)(j:LS[d]?=some a)(f:LS[c]?=some b)(o:(jn LS).length<=8192):a.length+b.length<=8192:=by
 have g:(LS.take c)[d]?=some a:=by rw[vf,xS i];exact j
 have k:=Yj g;have l:=jf f;have m:=jB LS (c+1);have e:=(xp.1 f).1;have n:=jl (ls:=LS) (by intro h;rw[h]at e;simp at e);omega
noncomputable def Ey (x:Gr) (cc:Nat) (L:List (List Int)):List Gr:=[jh (delG x cc (zK x).length) cc (L.headD [])]++Us L.tail ((zK x).drop cc)
noncomputable def jJ (gs:List Gr) (k:Nat) (x:Gr) (cc:Nat) (ts:List Int):List Gr:=
 gs.take k++(if(yI ts).length=1 then [jh x cc ts]else Ey x cc (yI ts))++gs.drop (k+1)
def Ez{α:Type}{b:List α}{k}(a)(c:k<b.length):b.set k a=b.take k++ [a]++b.drop (k+1):=by
 rw[List.set_eq_take_append_cons_drop,xS c];simp
def Mh{b:qV}(f:10∈b):∃c d,b=c++10::d/\10∉c:=by
 induction b with
 | nil=>simp at f
 | cons g b k=>
  by_cases e:g=10
  ·exact⟨[],b,by rw[e];rfl,qH⟩
  have h:10∈b:=by
   rcases kS.1 f with a | a
   ·omega
   exact a
  obtain⟨c,d,i,j⟩:=k h;exact⟨g::c,d,by rw[i];rfl,by intro a;rcases kS.1 a with a | a;exact e a.symm;exact j a⟩
def lns_one{ts}(c:(yI ts).length=1):10∉ts:=by
 intro b;obtain⟨d,a,rfl,e⟩:=Mh b;rw[lns_cut d a e,vh]at c;have:=(j9 a).1;omega
structure LF(S:Nat->Prop)(w0 w:qS)(c g cap n a b:Nat)(d:qT)(vs:qU)(gs:List Gr)(e:Int)(f:qV):Prop where
 cr:jQ w 0 w.heap.size c (qM (qD g 0) n cap) d vs gs a b e f
 ch:zQ w0 w S
 sc:S c
 sg:S g\/w0.heap.size<=g
 ss:∀q,d.ownBlock=some q->S q\/w0.heap.size<=q
 su:∀u∈vs,∀q,u.ownBlock=some q->S q\/w0.heap.size<=q
structure LP(vs:qU)(gs:List Gr)(n a b:Nat)(LS:List (qV)):Prop where
 len:gs.length=n
 ab:a<=b/\b<=n
 n:n<=65536
 gz:GZ vs gs a b
 ok:∀x∈lg gs a b,Pm x
 ls:(lg gs a b).map zK=LS
 j:(jn LS).length<=8192
 ne:LS≠ []
def phi_off{a b k}(c:a<=Zq a b k):¬Zq a b k<b:=by unfold Zq at *;split at c<;>split<;>omega
def GZ.set{vs gs a b k}(g:GZ vs gs a b)(u)(x):GZ (vs.set (Zq a b k) u) (gs.set (Zq a b k) x) a b:=λc d e=>by
 have:Zq a b k≠c:=λf=>by subst f;exact phi_off d e
 rw[Qj this,Qj this];exact g c d e
section
variable {S:Nat->Prop} {w0 w w':World} {c g cap n a b:Nat} {sv:Value} {vs:List Value} {gs:List Gr} {rn:Int} {st:List Int} {LS:List (List Int)}
def LP.ll(c:LP vs gs n a b LS):LS.length+(b-a)=n/\LS.length<=8193/\1<=LS.length/\jR LS+LS.length=(jn LS).length+1:=by
 have d:=XZ c.ab.1 (by rw[c.len];exact c.ab.2);have e:=jl c.ne;have f:LS.length=(lg gs a b).length:=by rw[<- c.ls,xO]
 have:=c.len;have:=c.ab;have:=c.j;have g:=kK.2 c.ne;omega
def LP.sb(d:LP vs gs n a b LS)(l:vs.length=gs.length):∀c,c<LS.length->∃f k,gs[Zq a b c]?=some f/\vs[Zq a b c]?=some k/\LS[c]?=some (zK f)/\Pm f:=by
 intro c h;have i:=Ev c d.ab.1 (by rw[d.len];exact d.ab.2);rw[<- d.ls,xO]at h;have e:=xw h;have g:gs[Zq a b c]?=some (lg gs a b)[c]:=by rw[<- i];exact e
 have j:Zq a b c<vs.length:=by rw[l];exact(xp.1 g).1
 exact⟨_,_,g,xw j,by rw[<- d.ls,xZ,e];rfl,d.ok _ (xH e)⟩
def LP.at(c:LP vs gs n a b LS){k x}(d:gs[Zq a b k]?=some x):(lg gs a b)[k]?=some x:=by rw[Ev k c.ab.1 (by rw[c.len];exact c.ab.2)];exact d
def LF.capN(f:LF S w0 w c g cap n a b sv vs gs rn st)(h:gs.length=n):n<=cap:=by
 have d:=f.cr.rows.row;rw[h]at d;rcases d.2 with ⟨e,_⟩ | ⟨_,_,_,e,_,_,i,_⟩
 ·cases e
 simp_all
def LF.below(d:LF S w0 w c g cap n a b sv vs gs rn st)(e:qY w w'):LF S w0 w' c g cap n a b sv vs gs rn st:=
 ⟨(d.cr.below e lR d.cr.lt).mono lR e.size,d.ch.belowS e d.ch.size,d.sc,d.sg,d.ss,d.su⟩
def LF.drew(d:LF S w0 w c g cap n a b sv vs gs rn st)(q):LF S w0 (w.drewN q) c g cap n a b sv vs gs rn st:=d.below ⟨rfl,rfl,rfl,lR,λ_ _=>rfl⟩
def LF.row{i u u' G}(d:LF S w0 w c g cap n a b sv vs gs rn st)(h:vs[i]?=some u)(o:yt 100 w' 0 w'.heap.size (qM (qD g 0) n cap) (vs.set i u') G)(k:zQ w w' (λj=>j=g\/u.ownBlock=some j))(p:∀q,u'.ownBlock=some q->u.ownBlock=some q\/w.heap.size<=q):LF S w0 w' c g cap n a b sv (vs.set i u') G rn st:=by
 obtain⟨r,_⟩:=d.cr.rowed lR h (xK _) o k;have s:=d.ch.size;refine⟨r,d.ch.qo k (λq e=>?_),d.sc,d.sg,d.ss,λl m q e=>?_⟩
 ·rcases e with rfl | e
  ·exact d.sg
  exact d.su u (xH h) q e
 rcases List.mem_or_eq_of_mem_set m with f | rfl
 ·exact d.su l f q e
 rcases p q e with f | f
 ·exact d.su u (xH h) q f
 omega
def LF.rows{g2 cap2 N a2 b2 vs2 G}(d:LF S w0 w c g cap n a b sv vs gs rn st)(k:jQ w' 0 w'.heap.size c (qM (qD g2 0) N cap2) sv vs2 G a2 b2 rn st)(l:zQ w w' (Sc c g))(m:g2=g\/w.heap.size<=g2)(o:∀u∈vs2,u= .slice none 0 0\/u∈vs\/∀e,u.ownBlock=some e->w0.heap.size<=e):LF S w0 w' c g2 cap2 N a2 b2 sv vs2 G rn st:=by
 have p:=d.ch.size;refine⟨k,d.ch.qo l (λe h=>?_),d.sc,?_,d.ss,λi j e h=>?_⟩
 ·rcases h with rfl | rfl
  ·exact .inl d.sc
  exact d.sg
 ·rcases m with rfl | f
  ·exact d.sg
  omega
 rcases o i j with f | f | f
 ·exact absurd h (KM f)
 ·exact d.su i f e h
 exact .inr (f e h)
def LF.setN(d:LF S w0 w c g cap n a b sv vs gs rn st)(r):LF S w0 (w.setCell (qP c 3) (qC r)) c g cap n a b sv vs gs r st:=
 ⟨(d.cr.setN r).mono lR qH,d.ch.setS _ _ (.inl d.sc),d.sc,d.sg,d.ss,d.su⟩
def LF.forget{k}(d:LF S w0 w c g cap n a b sv vs gs rn st)(j:k<st.length)(l:st.length<=1048576):
  Calls prog 244 #[qO c 0,qC k] w λe w'=>e=qQ (.tuple #[])/\∃h,LF S w0 w' c g cap n a b h vs gs rn (st.take (k+1)):=by
 obtain⟨m,p,rfl⟩:=ju d.cr.starts;refine(forgetF k d.cr rfl j l).mono ?_;rintro e w' ⟨rfl,o,rfl⟩;refine⟨rfl,_,o.mono lR qH,d.ch.setS _ _ (.inl d.sc),d.sc,d.sg,λi f=>d.ss i ?_,d.su⟩;cases m with
 | none=>simp[Value.ownBlock]at f
 | some q=>exact f
def TI{m}(a:m<=LS.length):((jL LS).take m).length=m:=by rw[xi,ji];omega
def LF.find{l off:Nat}(d:LF S w0 w c g cap n a b sv vs gs rn ((jL LS).take l))(e:LP vs gs n a b LS)(q:1<=l/\l<=LS.length)(r:off<=20000):
  Calls prog 232 #[qO c 0,qC off] w λp w'=>∃(h j:Nat)(m:qT),p=qQ (.tuple #[qC h,qC (off-zq LS h)])/\Ln LS off h/\Kn LS l off j/\LF S w0 w' c g cap n a b m vs gs rn ((jL LS).take j):=by
 obtain⟨s,t,B,C⟩:=e.ll;have o:=TI q.2;have f:=Si c g cap n _ a b off sv vs gs LS rn _ w d.cr e.len e.ab (by have:=e.n;omega) s rfl t (e.sb d.cr.rows.len) qF (by rw[o]) qF e.j r;rw[o]at f;have A:=d.ch.size;refine f.mono ?_;rintro p w' ⟨h,j,m,rfl,u,v,x,y,z⟩;refine⟨h,j,m,rfl,u,v,x,d.ch.qo y (λk i=>?_),d.sc,d.sg,λk i=>?_,d.su⟩
 ·rcases i with rfl | i
  ·exact .inl d.sc
  exact d.ss k i
 rcases z k i with (rfl | f) | f
 ·exact .inl d.sc
 ·exact d.ss k f
 omega
end
def SlB.at{w W b v l}(d:SlB w b v l)(e:W.heap[b]? =w.heap[b]?)(f:b<W.heap.size):Sl .i32 W v l:=by
 obtain⟨g,cap,rfl,h⟩:=d;exact .inr ⟨b,g,cap,rfl,f,λa c=>(xq e).trans (h a c)⟩
def LEd(c:Nat->Prop)(d e:qS)(f:Nat)(h:List Gr)(i:Int)(j:qV):Prop:=∃g cap n a b sv vs gs,LF c d e f g cap n a b sv vs gs i j/\gs.length=n/\(a<=b/\b<=n/\n<=65536)/\GZ vs gs a b/\lg gs a b=h
section
variable {S:Nat->Prop} {w0 w w':World} {c g cap n a b:Nat} {sv:Value} {vs:List Value} {gs:List Gr} {rn:Int} {st:List Int} {LS:List (List Int)}
def LF.off{u q}(e:LF S w0 w c g cap n a b sv vs gs rn st)(h:u∈vs)(i:q<w0.heap.size)(f:¬S q):¬ (q=g\/u.ownBlock=some q):=by
 rintro (rfl | d)
 ·rcases e.sg with d | d
  ·exact f d
  omega
 rcases e.su u h q d with d | d
 ·exact f d
 omega
def LF.far{u}(d:LF S w0 w c g cap n a b sv vs gs rn st)(e:u∈vs){q}(h:w.heap.size<=q):¬ (q=g\/u.ownBlock=some q):=by
 rintro (i | f)
 ·have:=d.cr.rows.bl g rfl;omega
 have:=d.cr.rows.nest.bl u e q f;omega
def insF{mm B bT o m ct ts}(b9:LF S w w c g cap n a b sv vs gs rn ((jL LS).take mm))(u:LP vs gs n a b LS)(ca:1<=mm/\mm<=LS.length)(dx:B<=(jn LS).length)(b7:(jn LS).length+m<=8192)(dy:ts.length=m)(ba:bT<w.heap.size)(bc:¬S bT)(ff:m<=ct)(fg:ct<=maxLen)(gn:0<=rn/\rn<=8192)(bd:∀k,k<ts.length->w.cell? (qP bT (o+k))=some (.int .i32 (ts.getD k 0))):
  Calls prog 230 #[qO c 0,qC B,qM (qD bT o) m ct] w λf w'=>f=qQ (.tuple #[])/\∃e s,Ln LS B e/\(lg gs a b)[e]?=some s/\LEd S w w' c (jJ (lg gs a b) e s (B-zq LS e) ts) (rn+m) ((jL LS).take (e+1)):=by
 have al:=zC (b9.find (off:=B) u ca (by have:=u.j;omega));have cv:=zC (u.sb b9.cr.rows.len);have i:=zC u;have HT:=zC bd;have HM:=zC dy;have eh:=zC dx;obtain⟨go,gp,gq,d1⟩:=u.ll;have cw:=u.n;have q:=u.ab;have ei:=ca.1;have f2:m<=8192:=qF
 have ej:=zC (show(yI ts).length<=m+1 by have:=(j9 ts).2;omega);have cx:=zC (j9 ts).1;have cy:=zC (λa2(b6:a2∈yI ts)=>(show a2.length<=m from by have:=ZU b6;omega));have cz:=zC (show(jn LS).length+m<=8192/\jR LS+LS.length=(jn LS).length+1 from⟨b7,d1⟩);clear b9 u bd dy dx b7 d1 ca;generalize dt:yI ts=j at *;have br:=zC dt;clear dt;go_enter func230,ntmps230;go_wp2_with fail;refine al.mono ?_;rintro f d2 ⟨e,fj,fk,rfl,af,cc,U⟩;have ek:=af.1;obtain⟨s,b8,cd,a9,bf,ce⟩:=cv.out e ek;have el:Zq a b e<n:=by rw[<- i.out.len];exact(xp.1 cd).1
 have X:=af.colF (by have:=eh.out;omega) bf;obtain⟨t,cf⟩:∃t,t=B-zq LS e:=⟨_,rfl⟩
 rw[<- cf]at X;rw[show(B:Int)-(zq LS e)=t by have:=X.2;omega];have c0:=cc.ltF af ei;have am:=cc.2.1;have c1:=zC U;have c2:=zC af;have v:=zC cd;have r:=zC a9;have f3:=zC bf;have M:=zC ce;have c3:=zC cf;have N:=zC X;have f4:=(ZR ce.1).2.1;have f5:t<=8192:=by have:=X.1;omega
 have c4:=zC (show(zK s).length+m<=8192 by have c5:=Yj bf;have:=cz.out;omega);have AT:=zC (atF c g cap n e a b d2 ⟨U.cr.cells.1,U.cr.cells.2.1,U.cr.cells.2.2.1⟩ q el (U.capN i.len) qF);clear U af cc cd a9 bf ce cf X al cv;go_wp2_with fail;refine AT.mono ?_;rintro f wx ⟨rfl,nq,rfl⟩;have Y:=zC (c1.drew nq);generalize d2.drewN nq=Q at *;have f6:=Y.ch.size;have an:=zC (λk y=>(xq (a:=(qP bT (o+k))) (Y.ch.block bT ba bc)).trans (HT k y));have ao:=zC (cutLB ts bT o ct Q an qF (by rw[HM.out];omega) (by rw[HM.out];exact ff) fg);rw[HM.out,br.out]at ao;clear c1 AT;go_wp2_with fail;refine ao.mono ?_;rintro f cg ⟨gr,K,rfl,L,ch,V⟩;have F:=zC (Y.below V);have c6:=V.size;have da:=xH r;have db:=F.off da ba bc;by_cases a0:j.length=1
 ·rw[a0]at L
  obtain⟨bg,ae,fl⟩:=Sj L;subst fl;have Z:=zC (Uc (cp:=ct) F.cr.rows i.len v r lR M.1 N.1 HM.symm c4 (λw' a3=>ID (λk y=>(V.cell (by show bT<Q.heap.size;omega)).trans (an k y)) a3 qF db HM));have em:=zC a0;clear L ch V ao an a0;go_wp2_with fail;refine Z.mono ?_;rintro f a1 ⟨rfl,u4,d3,d4,d5⟩;have x:=zC (F.row r d3 d4 d5);clear d3 d4 d5 Z F;have O:=zC (x.setN (rn+m));obtain⟨fm,fn,fo,fp,fq⟩:=x.out.cr.cells;have en:=x.cr.fz 3;have G:=zC (O.forget (by rw[TI am];exact c0) (by rw[TI am];omega));rw[ky,vu qF]at G;clear x O;go_wp2_with fail;refine G.mono ?_;rintro f fr ⟨rfl,fs,C⟩;have bs:=zC C;clear C G;go_wp2;go_end0;refine⟨rfl,e,s,c2,i.at v,g,cap,n,a,b,fs,_,_,bs,by rw[kC];exact i.len,⟨q.1,q.2,cw⟩,i.gz.set _ _,?_⟩;have aa:b<=gs.length:=(by rw[i.out.len];exact q.2);have eo:=XZ q.1 aa;have ep:=i.len;rw[U9 _ q.1 aa qF,jJ,br.out,xS em.out,Ez _ qF,c3.out]
 obtain⟨d,h⟩:∃d,j.length=d+2:=⟨j.length-2,by have:=cx.out;omega⟩
 have P:=zC h;have f7:d+1<=m:=by have:=ej.out;omega
 rw[h]at L;rcases L.2 with ⟨_,z⟩ | ⟨bh,ae,gt,z,gu,_,z3,ft,_⟩
 ·omega
 subst z;unfold maxLen at ft;have dc:=zC L;have ap:=zC ch;have f8:=zC (V.block bT qF);have aq:=zC (λd(h:Q.heap.size<=d)=>Y.far da h);have LE:=zC (Jp F.cr.rows i.len v r M.1);clear L ch V ao h a0 cx an;have f9:(((d:Int)+2)==1)=false:=qJ
 go_wp2_with fail;refine LE.mono ?_;rintro f wy ⟨rfl,bi,rfl⟩;have x:=zC (F.drew bi);have dd:=zC (show(cg.drewN bi).ownsRow _ 48 1 _ _ K from zD dc (λ_ _=>rfl));have ga:Q.heap.size<=(cg.drewN bi).heap.size:=c6;generalize cg.drewN bi=a1 at *;clear F LE dc c6;have RR:=zC (Ha x.cr.rows i.len v r M.1 N.1 lR);rw[xU (by rw[xz];exact lR)]at RR;obtain⟨l,bj⟩:∃l,l=(zK s).drop t:=⟨_,rfl⟩
 rw[<- bj]at RR;have eq:=zC bj;have er:l.length=(zK s).length-t:=by rw[bj,xz]
 obtain⟨T,d6⟩:∃T,T=l.length:=⟨_,rfl⟩
 have de:=zC d6;have gb:T<=8192:=qF
 clear bj er d6;generalize du:(zK s).length=fa at *;have ab:=zC du;clear du;go_wp2_with fail;refine RR.mono ?_;rintro f bk ⟨gv,rfl,ci,bl⟩;obtain⟨bg,cj,d7⟩:=yw ci;rw[<- de.out]at d7;subst d7;have df:=bl.size;have O:=zC (x.below bl);have dg:=zC ci;have dh:=zC (zE dd bl lR);have bt:=zC (Jp O.cr.rows i.len v r M.1);rw[ab.out]at bt;clear ci bl RR x dd;go_wp2_with fail;refine bt.mono ?_;rintro f wz ⟨rfl,ag,rfl⟩;have bu:=zC (O.drew ag);have ar:=zC (show jU (bk.drewN ag) _ _ l from zD dg (λd _=>rfl));have au:=zC (show(bk.drewN ag).ownsRow _ 48 1 _ _ K from zD dh (λ_ _=>rfl));have gc:a1.heap.size<=(bk.drewN ag).heap.size:=df;generalize bk.drewN ag=gm at *;clear O dg bt dh df;have bv:=zC (Ub bu.cr.rows i.len v r lR M.1 N.1 (by rw[ab.out];exact lR));have bw:=zC (j7 M.1 N.1 (by rw[ab.out];exact lR));obtain⟨z,ck⟩:∃z,z=delG s t fa:=⟨_,rfl⟩
 rw[<- ck]at bv bw;have es:=zC ck;clear ck;obtain⟨A,bn⟩:∃A,j[0]?=some A:=⟨j[0]'(by rw[P.out];omega),by simp[P.out]⟩
 have bx:=ap.len;obtain⟨a4,cl⟩:∃a4,K[0]?=some a4:=⟨K[0]'(by rw[bx,P.out];omega),by simp[bx]⟩
 have bz:=zC (ap.at_ 0 a4 A cl bn);have et:=zC bn;have di:=zC cl;have eu:=cy A (xH bn);obtain⟨ac,I,fu⟩:∃ac I,a4= .slice _ _ I:=by obtain⟨ac,I,f,_⟩:=bz.out;exact⟨ac,I,f⟩
 subst fu;obtain⟨a5,bp⟩:∃a5,a5=A.length:=⟨_,rfl⟩
 have dj:=zC bp;rw[<- bp]at bz di;rw[<- bp]at eu;clear bn cl bp bx;have dk:=zC (λp(fc:zQ w p S)=>((fc.block bT ba bc).trans (Y.ch.block bT ba bc).symm));go_wp2_with fail;refine bv.mono ?_;rintro f bq ⟨rfl,u7,d8,cm,ah⟩;have av:=zC (bu.row r d8 ah (λd h=>.inl (by rw[<- cm];exact h)));have gd:=ah.size;have aw:=zC (show jU bq _ _ l from zD ar (λd h=>ah.block d (ar.lt d h).2 (aq d (by have:=(ar.lt d h).1;omega))));have V7:=zC (zD au (λd h=>ah.block d (au.lt d h).2 (aq d (au.lt d h).1)));have ev:(gs.set (Zq a b e) z).length=n:=by rw[kC,i.out.len]
 have ew:(zK z).length=t:=by rw[bw.out.2];have:=N.1;have:=ab.out;simp only[xg,xi,xz];omega
 have ex:¬ (bT=g\/u7.ownBlock=some bT):=by rw[cm];exact db
 have ey:bT<bq.heap.size:=qF
 have ge:=c4.out;have gf:=N.1
 have Z:=zC (Uc (p:=t) (ts:=A) (m:=a5) (cp:=I) av.cr.rows ev (ZN v) (ZN r) lR bw.1 qF dj qF (λw' a3=>by
  have c5:=bz.at (dk bq av.ch) ey;rcases c5 with ⟨f,_⟩ | ⟨gw,gx,gy,f,D,fv⟩
  ·cases f
  simp only[jW,xE,Addr.mk.injEq,and_true]at f;obtain⟨⟨rfl,rfl⟩,_,rfl⟩:=f
  exact .inr ⟨bT,ac,I,by rw[dj.out],ve D a3.size,λk y=>(xq (a3.block bT D ex)).trans (fv k y)⟩))
 have ez:bq.cell? (qP bh 0)=some (qM (qD bT ac) a5 I):=by
  have:=V7.cellAt 0 qF;rw[this];exact di
 clear d8 ah bv bu ar au ew;go_wp2_with fail;refine Z.mono ?_;rintro f E ⟨rfl,u8,d9,ai,ea⟩;have H:=zC (av.row (ZN r) d9 ai ea);simp only[List.set_set]at H;have gg:=ai.size;have b0:=zC (λd h=>(show ¬ (d=g\/u7.ownBlock=some d)from by rw[cm];exact aq d h));have dl:=zC (show jU E a1.heap.size (qM bg T cj) l from zD aw (λd h=>ai.block d (aw.lt d h).2 (b0 d (by have:=(aw.lt d h).1;omega))));have dm:=zC (zD V7 (λd h=>ai.block d (V7.lt d h).2 (b0 d (V7.lt d h).1)));generalize dv:jh z t A=R at *;have e0:=zC dv;have e1:(gs.set (Zq a b e) R).length=n:=by rw[kC,i.out.len]
 have e2:=zC (i.gz.set (k:=e) u8 R);have e3:bT<E.heap.size:=qF
 have ax:j.tail.length=d+1:=by rw[QQ,P.out];rfl
 have e4:(Us j.tail l).length=d+1:=by rw[Oa (by intro f;rw[f]at ax;simp at ax),ax]
 have gh:n-(b-a)+m<=16384:=by have:=cz.out;omega
 have dn:=zC (fun(p:qS) (bd:p.heap[bT]? =Q.heap[bT]?) (dz:p.ownsRow Q.heap.size 48 1 (qM (qD bh 0) (d+2) ae) (d+2) K) (cb:jU p a1.heap.size (qM bg T cj) l) (fh:bT<p.heap.size)=>plainRowsO j.tail l bh 1 (ae-1) (qM bg T cj) p d ax (dz.lt bh rfl).2 qF qK (λJ b7=>by
  have b1:J+1<j.length:=(by rw[P.out];omega);have dp:J+1<K.length:=(by rw[ap.out.len];exact b1);refine⟨K[J+1],j[J+1],by simp[b1],(ap.at_ (J+1) _ _ (xw dp) (xw b1)).at bd fh,?_⟩;have:=dz.cellAt (1+J) qF;rw[this,Nat.add_comm 1 J]
  exact xw dp) (Sl.qa cb) qF (λa2 b6=>by have:=cy a2 (List.mem_of_mem_tail b6);omega) (by rw[<- de.out];omega))
 have dq:=zC (fun(fi:qU) (p:qS) (d0:qY E p) (cb:yt 100 p E.heap.size p.heap.size (qM (qD E.heap.size 0) (d+1) (d+1)) fi (Us j.tail l))=>Sn (p:=e+1) (H.cr.below d0 lR H.cr.lt) e1 q e2 ⟨cw,qF⟩ (by have:=d0.size;omega) cb e4 qF lR lR qF qF (xK _));have gi:¬ (ae:Int)=1:=qF
 have gj:(1:Int)<=ae:=qF
 have gk:IntKind.i64.wrap (e+1)=((e+1:Nat)):=by rw[KJ _ qF qF];omega
 clear d9 ai ea Z av aw V7 ez dv aq b0;go_upto_region 8 with fail;go_cut []from 11 to 68 (λwc=>∃fd fe a6 a7 ad dw a8,LF S w wc c fd fe a6 a7 ad fk dw a8 rn ((jL LS).take fj)/\a8.length=a6/\(a7<=ad/\ad<=a6/\a6<=65536)/\GZ dw a8 a7 ad/\lg a8 a7 ad=(lg (gs.set (Zq a b e) R) a b).take (e+1)++(Us j.tail l++(lg (gs.set (Zq a b e) R) a b).drop (e+1)))
 case first=>
  go_region_with (first
   |(go_at_call 46;refine(dn _ (by exact dk E H.ch) (by exact zD dm (λ_ _=>rfl)) (by exact zD dl (λ_ _=>rfl)) (by exact e3)).mono ?_;rintro f eb ⟨fw,rfl,cn,W⟩;have b2:qY E eb:=⟨W.os,W.tape,W.output,W.size,W.block⟩;have e5:=zC (dq fw eb b2 cn);have e6:=zC b2;have dr:=zC cn;clear cn W b2)
   |(go_at_call 243;refine(e5).mono ?_;rintro f gz ⟨rfl,co,cq,cr,cs,cu,C,ec,aj,ak,ed,ee,ef⟩;have bs:=zC ((H.below e6).rows C ed ee (λb8 a9=>by
     rcases ef b8 a9 with D | D | D
     ·exact .inl D
     ·exact .inr (.inl D)
     refine .inr (.inr (λd h=>?_));obtain⟨k,y⟩:=kH D;have e7:k<((Us j.tail l).map Gr.cells).length:=by rw[<- dr.out.nest.len];exact(xp.1 y).1
     exact vC H.ch.size (show E.heap.size<=d from((dr.nest.own k b8 _ y (xw e7)).lt d h).1)));have ay:=zC ec;have b3:=zC aj;have b4:=zC ak;clear C ec aj ak ed ee ef))
  all_goals
   go_wp2_with fail;go_meet;exact⟨co,cq,cr,_,_,cs,cu,bs,ay.1,⟨by have:=ay.out;omega,by have:=ay.out;omega,ay.2.2⟩,b3,b4⟩
 obtain⟨co,cq,cr,fx,fy,cs,cu,C,fz,f0,aj,ak⟩:=hcut
 rename qS=>fr
 have az:=zC C;have b3:=zC aj;have b4:=zC ak;clear C aj ak dn dq H dm dl;have LB:=zC (az.setN (rn+m));obtain⟨fm,fn,fo,fp,fq⟩:=az.out.cr.cells;have en:=az.cr.fz 3;have G:=zC (LB.forget (k:=e) (by rw[TI am];exact c0) (by rw[TI am];omega));rw[ky,vu qF]at G;clear az LB;go_wp2_with fail;refine G.mono ?_;rintro f g0 ⟨rfl,f1,eg⟩;have al:=zC eg;clear eg G;go_wp2;go_end0;refine⟨rfl,e,s,c2,i.at v,co,cq,cr,fx,fy,f1,cs,cu,al,fz,f0,b3,?_⟩;have aa:b<=gs.length:=by rw[i.out.len];exact q.2
 have eo:=XZ q.1 aa;have ep:=i.len;have e8:e<(lg gs a b).length:=qF
 rw[b4.out,U9 _ q.1 aa qF,jJ,Ey,br.out,xJ (by rw[P.out];omega),<- c3.out,ab.out,<- es.out,<- eq.out]
 have e9:j.headD []=A:=by
  have b5:=et.out
  match j,b5 with
  | a::g1,b5=>simpa using b5
 have ds:((lg gs a b).take e++ [R]).length=e+1:=by rw[xg,xi];simp;omega
 rw[e9,e0.out,Ez R e8,Ql ds,QG ds];simp only[vK]
end
def HT(e:qS)(f:Nat->Prop)(b:qT)(c:qV):Prop:=∃a d,b= .slice (qD a 0) c.length d/\zT e 0 b c/\f a
def Kz(b:Nat->Prop)(c d:qS):Prop:=∀a,b a->d.heap[a]? =c.heap[a]?
structure Core where
 ty:TypeId
 live:Nat
 fLen:FuncId
 fBrk:FuncId
 fIns:FuncId
 fSli:FuncId
 Cr:World->(Nat->Prop)->(Nat->Prop)->Nat->Nat->List Int->Prop
 mLen : ∀ c w, (Go.method 449 ty (.pointer c) "loop.example/s01685/impl.length").run prog w = .ok (fLen, .pointer c) w
 mBrk : ∀ c w, (Go.method 449 ty (.pointer c) "loop.example/s01685/impl.breaks").run prog w = .ok (fBrk, .pointer c) w
 Uh : ∀ c w, (Go.method 449 ty (.pointer c) "loop.example/s01685/impl.insert").run prog w = .ok (fIns, .pointer c) w
 mSli : ∀ c w, (Go.method 449 ty (.pointer c) "loop.example/s01685/impl.slice").run prog w = .ok (fSli, .pointer c) w
 eLen:∀args w,(callFunc fLen args).run prog w= .ok (.enter fLen args) w
 eBrk:∀args w,(callFunc fBrk args).run prog w= .ok (.enter fBrk args) w
 eIns:∀args w,(callFunc fIns args).run prog w= .ok (.enter fIns args) w
 eSli:∀args w,(callFunc fSli args).run prog w= .ok (.enter fSli args) w
 step:∀ {w w':World} {Z F Z' F':Nat->Prop} {c n:Nat} {tx:List Int},Cr w Z F c n tx->Kz Z w w'->(∀q,q<w.heap.size->¬F q->w'.heap[q]? =w.heap[q]?)->w.heap.size<=w'.heap.size->(∀q,Z q->Z' q)->(∀q,F' q->F q∨w.heap.size<=q)->Cr w' Z' F' c n tx
 len:∀ {w:World} {Z F:Nat->Prop} {c n:Nat} {tx:List Int},Cr w Z F c n tx->tx.length<=8192∧c<w.heap.size
def Sp(a)(L)(j):zq (a::L) (j+1)=a.length+1+zq L j:=by
 unfold zq;simp only[vc,jR];omega
def FE:∀{c a e},c[a]?=some e->∃f d,jn c=f++(e++d)/\f.length=zq c a/\(a+1<c.length->∃k,d=10::k)/\(c.length<=a+1->d= [])
 | [],a,e,b=>by simp at b
 | [g],a,e,b=>by
  cases a with
  | zero=>
   simp at b;subst b;exact⟨[],[],by simp[jn,jt],by simp[zq,jR],qH,qH⟩
  | succ a=>simp at b
 | g::i::c,a,e,b=>by
  have j:jn (g::i::c)=g++10::jn (i::c):=(by simp[jn,jt]);cases a with
  | zero=>
   simp at b;subst b;exact⟨[],10::jn (i::c),by rw[j];simp,by simp[zq,jR],λ_=>⟨_,rfl⟩,qH⟩
  | succ a=>
   simp at b;obtain⟨f,d,l,m,n,o⟩:=FE b;refine⟨g++10::f,d,by rw[j,l];simp,by rw[Sp,<- m];simp;omega,λh=>n (by simp at h |-;omega),λh=>o (by simp at h |-;omega)⟩
def IE{L j lo hi l}(r:L[j]?=some l)(v:zq L j<hi)(k:hi<=(jn L).length):
  (lo<=zq L j+l.length->((jn L).take (min hi (zq L j))).drop lo++(l.drop (lo-zq L j)).take (min hi (zq L j+l.length)-zq L j-(lo-zq L j))++(if zq L j+l.length<hi then [10]else [])=((jn L).take (min hi (zq L j+l.length+1))).drop lo)/\
  (¬lo<=zq L j+l.length->((jn L).take (min hi (zq L j+l.length+1))).drop lo=((jn L).take (min hi (zq L j))).drop lo):=by
 obtain⟨a,h,m,e,s,t⟩:=FE r
 have n:zq L j+l.length<hi->∃d,h=10::d:=by
  intro u;rcases vV (j+1) L.length with i | i
  ·exact s i
  have:=t i;rw[m,this]at k;simp at k;omega
 generalize zq L j=b at *;rw[m];have o:(a++(l++h)).take (min hi b)=a:=by rw[Nat.min_eq_right qF,Ql e]
 rw[o];constructor
 ·intro p
  by_cases g:b+l.length<hi
  ·obtain⟨d,rfl⟩:=n g
   rw[xS g,Nat.min_eq_right qF,Nat.min_eq_right qF]
   have f:(a++(l++10::d)).take (b+l.length+1)=a++(l++ [10]):=by
    rw[show a++(l++10::d)=(a++(l++ [10]))++d by simp];exact Ql (by simp[e];omega)
   rw[f];by_cases q:lo<=b
   ·rw[ki qF,show lo-b=0 by omega,vz,xU qF]
    simp
   have c:a.drop lo= []:=kN qF;rw[c,xU qH,List.drop_append,c,e,ki qF];simp
  rw[xJ g,vu qF,vu qF,vT]
  have f:(a++(l++h)).take hi=a++l.take (hi-b):=by
   rw[List.take_append,xU qF,e,vB qF]
  rw[f];by_cases q:lo<=b
  ·rw[ki qF,show lo-b=0 by omega,vz,Nat.sub_zero]
  have c:a.drop lo= []:=kN qF;rw[List.drop_append,c,e,vq,vq,List.drop_take]
 intro p;have c:a.drop lo= []:=kN qF;rw[c];exact kN (by rw[xi];omega)

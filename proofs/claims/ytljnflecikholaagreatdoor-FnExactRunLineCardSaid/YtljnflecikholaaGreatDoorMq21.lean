import Derived.Test.YtljnflecikholaaGreatDoorMq18
set_option linter.all false
set_option maxRecDepth 100000
set_option maxHeartbeats 8000000
namespace Go.Proofs.YtljnflecikholaaGreatDoor
open Go Go.RowKit Go.Proofs.Tryz
def plain32N(ao)(n cap)(w):
  Calls prog 72 #[qM ao n cap] w λb c=>b=qQ (.agg #[qM ao n cap,qC n,qC n])/\qY w c:=by
 have a:=zC ((xe _ w).alloc lR (qR #[qM ao n cap,qC n,qC n] 100));go_enter func72,ntmps72;go_wp2;refine vg (by simp[results,go_sem]) rfl ⟨rfl,a⟩
def Us(a:List (qV))(b:qV):List Gr:=a.dropLast.map Y4++ [Y4 (a.getLastD []++b)]
def Oa{L}(a:L≠ [])(t):(Us L t).length=L.length:=by
 have:=kK.2 a;simp[Us];omega
def FD{a:List (qV)}{k}(b:a.length=k+1):a[k]?=some (a.getLastD []):=by
 rw[List.getLastD_eq_getLast?,List.getLast?_eq_getElem?,b];simp[by omega]
def XD{a:List (qV)}{k}(b:a.length=k+1):a.dropLast=a.take k:=by
 rw[List.dropLast_eq_take,b];rfl
def XplainRowsN:(∀(f)(h)(a7 gl n)(N)(u)(d)(b)(o:f.length=b+1)(m:d.ownsRow a7 48 1 (qM (qD gl 0) (b+1) n) (b+1) N)(W:Kr d N f)(ht:Sl .i32 d u h)(ap:b+1<=1048577)(E:∀e∈f,e.length<=1048576)(X:h.length<=1048576),Calls prog 46 #[qM (qD gl 0) (b+1) n,u] d λv w=>∃ao,v=qQ (qM (qD d.heap.size 0) (b+1) (b+1))/\yt 100 w d.heap.size w.heap.size (qM (qD d.heap.size 0) (b+1) (b+1)) ao (Us f h)/\qY d w)/\(∀(f)(h)(gl aq n)(u)(d)(b)(o:f.length=b+1)(T:gl<d.heap.size)(ar:b+1<=n)(Y:n<=maxLen)(au:∀a,a<b+1->∃x e,f[a]?=some e/\Sl .i32 d x e/\d.cell? (qP gl (aq+a))=some x)(ht:Sl .i32 d u h)(ap:b+1<=1048577)(E:∀e∈f,e.length<=1048576)(X:h.length<=1048576),Calls prog 46 #[qM (qD gl aq) (b+1) n,u] d λv w=>∃ao,v=qQ (qM (qD d.heap.size 0) (b+1) (b+1))/\yt 100 w d.heap.size w.heap.size (qM (qD d.heap.size 0) (b+1) (b+1)) ao (Us f h)/\qY d w):=by
 refine⟨@λf h a7 gl n N u d b o m W ht ap E X=>have B:=zC xB;?_,@λf h gl aq n u d b o T ar Y au ht ap E X=>have ax:=zC xB;?_⟩
 all_goals
  obtain⟨b3,b4,b5,b6,b7⟩:=vw Tryz.infoGB
  first
   |(revert B;intro B;skip
     have T:=(m.lt gl rfl).2
     have a9:b+1<=n/\n<=maxLen:=by
      rcases m.2 with ⟨c,_⟩ | ⟨ce,cf,cg,c,_,_,ar,Y,_⟩
      ·cases c
      simp_all
     have ay:=zC (fun(a:Nat) O=>(show ∃x e,f[a]?=some e/\Sl _ d x e/\d.cell? _=some x from by
      have cc:a<N.length:=(by rw[W.len,o];exact O);have F:a<f.length:=by rw[o];exact O
      exact⟨N[a],f[a],qH,W.at_ a _ _ qH qH,by rw[m.cellAt a qF];simp⟩)))
   |(have ay:=zC au)
  have HT:=zC ht;have HS:=zC (λa e(b2:f[a]?=some e)=>E e (xH b2))
  have ba:∃at_ y z,u= .slice at_ y z:=by
   rcases ht with ⟨c,_⟩ | ⟨_,_,_,c,_⟩<;>exact⟨_,_,_,c⟩
  obtain⟨at_,y,z,rfl⟩:=ba;have HM:=zC o
  first | (revert B;intro B;obtain⟨ar,Y⟩:=a9) | skip
  unfold maxLen at Y;have bc:=zC (XD o);have bd:=zC (FD o)
  first
   |(revert B;intro B;clear m W ht E o)
   |(clear au ht E o)
  go_enter func46,ntmps46;go_wp2_with (at_make;refine Qe _ rfl _ _ 95 rfl _ 100 b3 _ 3 underlying95 b4 b5 b6 _ _ _ _ (b+1) rfl rfl qF qF (by rw[b7];omega) qK lR ?_;intro b0 m a4);rw[Du]at m;have bf:=zC ((xe _ d).grown a4 lR (λa O=>by cases O));have bg:=zC (show yt 100 b0 _ _ _ _ _ from⟨by rw[xD];exact m,λc g=>(m.lt c g).2,zd.nils _ _ _ _⟩);clear m a4
  go_loopw [19] (λav wr=>∃a:Nat,a<=b/\av=qC a/\qY d wr/\∃P:qU,P.length=a/\yt 100 wr d.heap.size wr.heap.size (qM (qD d.heap.size 0) (b+1) (b+1)) (P++List.replicate (b+1-a) qN) ((f.take a).map Y4++List.replicate (b+1-a) YJ))
   (λav _=>b-(intOf av).toNat)
  case atStart=>exact⟨0,xK _,rfl,bf,[],rfl,by simpa using bg.out⟩
  obtain⟨a,O,rfl,A,P,aw,aa⟩:=hrel;have ae:=zC A;have az:=A.size;obtain⟨x,e,F,ab,ac⟩:=ay a qF
  first
   |(revert ax;intro ax;have bh:=(A.cell T).trans ac)
   |(have bh:=(A.cell T).trans ac)
  have a0:=HS a e F;have U:(f.take a).length=a:=(by rw[xi,HM.out];omega);have V:∀(a8:Type)(Z:a8),List.replicate (b+1-a) Z=Z::List.replicate (b+1-(a+1)) Z:=λa8 Z=>by rw[show b+1-a=(b+1-(a+1))+1 by omega,List.replicate_succ]
  rw[V,V]at aa;have af:((f.take a).map Y4++YJ::List.replicate (b+1-(a+1)) YJ).length=b+1:=(by simp only[xg,xO,U,vh,xD];omega);have SS:=zC (ab.below A);have GG:=zC aa;have C:=zC af;have D:=zC U;have G:=zC aw;have a1:=zC F
  have bi:∃j k l,x= .slice j k l:=by
   rcases ab with ⟨c,_⟩ | ⟨_,_,_,c,_⟩<;>exact⟨_,_,_,c⟩
  obtain⟨j,k,l,rfl⟩:=bi;have ag:=zC ((xe _ wr).alloc lR (qR #[qM j k l] 48));have a2:(wr.alloc (qR #[qM j k l] 48)).cell? (qP wr.heap.size 0)=some (qM j k l):=qH;have a3:(wr.alloc (qR #[qM j k l] 48)).heap.size=wr.heap.size+1:=qH;by_cases cd:a<b
  ·have H:=zC (concat1 e _ _ _ (SS.below ag) (by rw[a3];omega) a2 a0)
   have bj:(a:Int)<b:=qF;clear aa A ac ab F aw U af V;go_wp2_with fail;generalize wr.alloc _=b1 at *;refine H.mono ?_;rintro v ad ⟨b8,rfl,r,Q⟩;obtain⟨R,S,rfl⟩:=yw r;have ah:=zC r;have I:=zC (ag.trans (Q.mono qF));have J:=zC (λc g=>(r.lt c g));clear r Q H;go_wp2_with fail;refine(plain32N R _ S ad).mono ?_;rintro v s ⟨rfl,t⟩;have bk:=t.size;have bl:=I.size;have K:=zC (I.trans (t.mono qF));have L:=zE ah t lR;have p:=GG.frame (λc _ g=>K.block c g);have q:=p.store (hi':=s.heap.size) e.length e.length C (by rw[G.out,xO,D.out]) (zF L qF) (λc g=>by have:=J c g;omega) (λc g=>by have:=J c g;omega) qF qG;have ai:=p.cells C (je (by rw[xO,D.out])) (je G);have i:=p.row;rw[C.out]at i;have bn:s.frozen? (qP _ (a*3))=false:=i.frozenAt _;have bp:s.frozen? (qP _ (a*3+1))=false:=i.frozenAt _;have bq:s.frozen? (qP _ (a*3+2))=false:=i.frozenAt _;obtain⟨b9,ca,cb⟩:=ai;rw[xO,D.out]at q;have aj:=zC q.1;have ak:=zC ((ae.trans (K.mono az)).grown q.2 qF (λc g=>by simp_all));clear t L p q i GG;go_wp2;go_roundw
   case rel=>
    refine⟨a+1,qF,qL,ak,P++ [qM R e.length S],by simp[G.out],?_⟩;rw[vH,a1.out];have:=aj.out;simp only[QD,vX,QV,List.map_nil,vK,vI,vq];exact this.mono lR qH
   simp[intOf];omega
  obtain rfl:a=b:=qF;have bj:¬ (a:Int)<a:=qF;have al:=zC ((xe _ wr).alloc lR (qR #[qM j k l,qM at_ y z] 48));have br:(wr.alloc (qR #[qM j k l,qM at_ y z] 48)).cell? (qP wr.heap.size 0)=some (qM j k l):=qH;have bs:(wr.alloc (qR #[qM j k l,qM at_ y z] 48)).cell? (qP wr.heap.size 1)=some (qM at_ y z):=qH;have bt:(wr.alloc (qR #[qM j k l,qM at_ y z] 48)).heap.size=wr.heap.size+1:=qH;have am:=U6 e h _ _ _ _ (SS.below al) ((HT.below ae).below al) (by rw[bt];omega) br bs a0 X;generalize a5:e++h=M at am;have bu:=zC a5;have H:=zC am;clear am a5;clear aa A ac ab F aw U af V a2 a3 ag;go_wp2_with fail;generalize wr.alloc _=b1 at *;refine H.mono ?_;rintro v ad ⟨b8,rfl,r,Q⟩;obtain⟨R,S,rfl⟩:=yw (r);have ah:=zC (show jU ad _ _ M from r);have I:=zC (al.trans (Q.mono qF));have J:=zC (λc g=>(r.lt c g));clear r Q H;go_wp2_with fail;refine(plain32N R _ S ad).mono ?_;rintro v s ⟨rfl,t⟩;have bk:=t.size;have bl:=I.size;have K:=zC (I.trans (t.mono qF));have L:=zE ah t lR;have p:=GG.frame (λc _ g=>K.block c g);have q:=p.store (hi':=s.heap.size) M.length M.length C (by rw[G.out,xO,D.out]) (zF L qF) (λc g=>by have:=J c g;omega) (λc g=>by have:=J c g;omega) qF qG;have ai:=p.cells C (je (by rw[xO,D.out])) (je G);have i:=p.row;rw[C.out]at i;have bn:s.frozen? (qP _ (a*3))=false:=i.frozenAt _;have bp:s.frozen? (qP _ (a*3+1))=false:=i.frozenAt _;have bq:s.frozen? (qP _ (a*3+2))=false:=i.frozenAt _;obtain⟨b9,ca,cb⟩:=ai;rw[xO,D.out]at q;have aj:=zC q.1;have ak:=zC ((ae.trans (K.mono az)).grown q.2 qF (λc g=>by simp_all));generalize a6:M.length=an at *;have bv:=zC a6;clear t L p q i GG a6;go_wp2;go_ret;refine⟨P++ [qM R an S],rfl,?_,ak⟩;have bw:=aj.out;rw[show a+1-(a+1)=0 by omega]at bw;have bx:=(by have:=bd.out;rw[a1.out]at this;exact(vU this).symm);have bz:Us f h=(f.take a).map Y4++ [⟨M,an,an⟩]:=(by rw[Us,bc.out,bx,bu.out];simp only[Y4,bv.out]);rw[bz]
  simp_all
def plainRowsN:=@XplainRowsN.1
def plainRowsO:=@XplainRowsN.2
def plR_nil{L}(a:L≠ []):Us L []=L.map Y4:=by
 have b:=List.dropLast_concat_getLast a;have c:L.getLastD []=L.getLast a:=by rw[List.getLastD_eq_getLast?,List.getLast?_eq_some_getLast a];rfl
 rw[Us,vT,c]
 conv=>rhs;rw[<- b]
 simp
def loadL(zs)(b o cap)(w)(z:∀n,n<zs.length->w.cell? (qP b (o+n))=some (.int .i32 (zs.getD n 0)))(R:b<w.heap.size)(Z:zs.length<=8192)(S:zs.length<=cap)(T:cap<=maxLen):
  Calls prog 21 #[qM (qD b o) zs.length cap] w λf g=>∃h N O p,f=qQ (qO h 0)/\w.heap.size<=h/\h<g.heap.size/\jQ g w.heap.size g.heap.size h (qM (qD N 0) (yI zs).length (yI zs).length) O p ((yI zs).map Y4) (yI zs).length (yI zs).length zs.length [0]/\qY w g:=by
 have l:=zC (cutL zs b o cap w z R qF S T);have C:=j9 zs;have LE:=zC (λq(P:q∈yI zs)=>ZU P);have D:=zC (Kc zs);generalize L:yI zs=m at *;obtain⟨a,r⟩:∃a,m.length=a+1:=⟨m.length-1,qF⟩
 generalize M:zs.length=y at *;have HM:=zC r;rw[r]at C l |-;clear L M r z;go_enter func21,ntmps21;go_wp2_with fail;refine l.mono ?_;rintro f i ⟨aa,U,rfl,s,A,j⟩;rcases s.2 with ⟨_,d⟩ | ⟨gl,V,ab,rfl,_⟩
 ·omega
 have u:=zC (plainRowsN m [] _ gl V U _ i a HM s (A.below j) (.inl ⟨rfl,rfl⟩) qF (λq Q=>by have:=LE q Q;omega) qH);have E:=zC j;have F:=j.size;clear s A j l;go_wp2_with fail;refine u.mono ?_;rintro f W ⟨p,rfl,B,t⟩;have v:=zC B;have G:=zC (E.trans (t.mono F));have X:=t.size;clear B t u;go_wp2_with fail;refine(plainRN _ _ _ W).mono ?_;rintro f c ⟨rfl,k⟩;have H:=zC (v.frame (λd _ e=>k.block d e));have I:=zC (G.trans (k.mono qF));have Y:=k.size;clear k v;have J:=zC ((xe _ c).alloc lR (qR #[qC 0] 3));have x:=zC (J.alloc qH (qR #[qM (qD i.heap.size 0) (a+1) (a+1),qC ((a+1:Nat)),qC ((a+1:Nat)),qC y,qM (qD c.heap.size 0) 1 1] 103));go_wp2;go_ret;refine⟨_,i.heap.size,qM (qD c.heap.size 0) 1 1,p,rfl,?_,?_,⟨?_,?_,?_,?_⟩,?_⟩
 ·first | omega
 ·first | simp
 ·have K:=xI (c.alloc (qR #[qC 0] 3)) (qR #[qM (qD i.heap.size 0) (a+1) (a+1),qC ((a+1:Nat)),qC ((a+1:Nat)),qC y,qM (qD c.heap.size 0) 1 1] 103)
  first | simpa using K
 ·rw[<- plR_nil D.out]
  exact(H.frame (λd _ e=>x.block d qF)).mono qF qJ
 ·exact(World.ownsRow_lit c _ 1 qF qF rfl).alloc _
 ·intro d e
  simp only[Value.ownBlock,xE]at e;simp;omega
 exact I.trans (x.mono qF)

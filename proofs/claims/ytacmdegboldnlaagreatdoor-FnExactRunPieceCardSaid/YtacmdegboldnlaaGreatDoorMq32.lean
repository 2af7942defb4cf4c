import Derived.Test.YtacmdegboldnlaaGreatDoorMq31
import Derived.Test.YtacmdegboldnlaaGreatDoorMq22
set_option linter.all false
set_option maxRecDepth 100000
set_option maxHeartbeats 8000000
namespace Go.Proofs.YtacmdegboldnlaaGreatDoor
open Go Go.RowKit Go.Proofs.Tryz
open _root_.Array renaming size→N
open Go renaming Calls→VM,maxLen→VL
open List renaming length→L
open Option renaming some→O
open _root_.Go.World renaming alloc→VF,cell?→VE,heap→Y
def AT.split_its(a:AT)(k)(c:k<=a.tI):(a.split k).1.tI=k/\(a.split k).2.tI=a.tI-k:=by
 have b:=AT.split_flat a k c;have d:=Qf L b.1;have e:=Qf L b.2
 grind [AT.flat_length,List.length_take,List.length_drop]
def zA9:∀(G:AT)(c)(ai)(a2)(d),G.bal->G.tI<=8192->c<=G.tI->zL d a2 ai (G.tT 0)->
  VM prog 40 #[ai,qP c] d λi a3=>∃H I,i=V5 (.tuple #[H,I])/\zL a3 (N (Y d)) H ((G.split c).1.tT 0)/\zL a3 (N (Y d)) I ((G.split c).2.tT 0)/\qa3 d a3:=by
 intro G
 induction G with
 | nil=>
  intro c ai a2 d _ _ aj E;obtain⟨cm,cn,rfl⟩:=(zL.rd E).val;have bq:=zC (xF (N (Y d)) d);clear E;go_enter func40,ntmps40;go_wp2;refine vE (by simp[results,go_sem]) rfl ⟨_,_,rfl,⟨rfl,.inl ⟨rfl,rfl⟩⟩,⟨rfl,.inl ⟨rfl,rfl⟩⟩,bq⟩
 | tN a e b bn bp=>
  intro c ai a2 d bx cj aj E;have aa:=AT.tQ (AT.tN a e b) 0;obtain⟨r,g,b6,b7⟩:=bx
  obtain⟨D,p,rfl,co,b8⟩:∃D p,ai= .slice (qQ D 0) (AT.tN a e b).tI p/\(AT.tN a e b).tI<=p/\p<=VL:=by
   obtain⟨a5,J⟩|⟨b9,ca,cp,a5,_,_,J,cb,_⟩:=E.2
   ·exact absurd J (by rw[aa];simp only[AT.tI];omega)
   rw[aa]at a5 J;exact⟨b9,ca,a5,J,cb⟩
  unfold VL at b8;have cd:a.tI+1+b.tI=(AT.tN a e b).tI:=rfl;have ab:(AT.tN a e b).tT 0=a.tT 1++⟨e,0⟩::b.tT 1:=(by simp[AT.tT]);have ba:=ab;have bc:(AT.tN a e b).tT 0=(a.tT 1++ [⟨e,0⟩])++b.tT 1:=by rw[ab];simp
  have bd:((AT.tN a e b).tT 0)[a.tI]?=O ⟨e,0⟩:=by
   rw[ab,xQ (by rw[AT.tQ];exact lR),AT.tQ,Qj];rfl
  have LV:=jD (AT.tN a e b) VC;have br:=zC (EE (A:=[]) (Z:=a.tT 1) (B:=⟨e,0⟩::b.tT 1) (by rw[ab];simp) LV);have bs:=zC (EE (A:=a.tT 1++ [⟨e,0⟩]) (Z:=b.tT 1) (B:=[]) (by rw[ab];simp) LV);have ac:=zC (Hk (N (Y d)) (VZ (qQ D 0) (AT.tN a e b).tI p) ((AT.tN a e b).tT 0) d E.rd VC (A:=[]) (B:=[]) (l:=a) (q:=e) (r:=b) (e:=0) VT ⟨λb3 u=>by simp at u,λb3 u=>by simp at u⟩ 0 ((AT.tN a e b).tI) rfl VT);rw[vS,vg]at ac;have ap:=(E.lt D rfl).2;have aq:=zC (λf(q:qa3 d f)=>zE E q lR);have ad:=zC (λf q=>Wh (-1) (a.tT 1) (VZ (qQ D 0) a.tI p) f (.inr ⟨D,0,p,by rw[AT.tQ],vh ap q.size,ym (aq f q) aa ba⟩) (by rw[AT.tQ];omega) VC br);have ae:=zC (λf C(q:qa3 d f)b4=>Wh (-1) (b.tT 1) C f b4 (by rw[AT.tQ];omega) VC bs);have bf:=zC (λf(q:qa3 d f)=>(show XU f (VZ (qQ D ((a.tI+1)*4)) ((AT.tN a e b).tI-(a.tI+1)) (p-(a.tI+1))) (b.tT 1)from .inr ⟨D,(a.tI+1)*4,p-(a.tI+1),by rw[AT.tQ];congr 1;omega,vh ap q.size,by have K:=WT (aq f q) aa bc;rw[xL,AT.tQ]at K;exact K⟩))
  have bg:=zC (λf(q:qa3 d f)b5=>(show XU f (VZ (qQ D 0) 0 0) (b.tT 1)from(by
   have K:b.tT 1= []:=xR (by rw[AT.tQ];exact b5);rw[K]
   exact .inr ⟨D,0,0,rfl,vh ap q.size,by intro ck C bz;simp[zG]at bz⟩)))
  rw[ZC,AT.tQ,show 1+ -1=0 by omega]at ad ae;have ao:=zC (λf q=>zL.c3 (by have K:=aq f q;rw[aa]at K;exact K) bd);have bh:=zC (λf C U u aj=>bn c C U f r VC aj u);have bi:=zC (λf C U u aj=>bp (c-a.tI-1) C U f g VC aj u);have bj:=zC (λo f(C u2)(U a4)u J=>zA6 (a.split c).2 b e U a4 C u2 f (AT.split_bal a c r).2 g (by rw[(AT.split_its a c o).2];omega) u J);have bk:=zC (λo f(C u2)(U a4)u J=>zA6 a (b.split (c-a.tI-1)).1 e U a4 C u2 f r (AT.split_bal b _ g).1 (by rw[(AT.split_its b _ o).1];omega) u J);unfold JP at bj bk;have bt:=zC (λo:c<=a.tI=>(show(AT.tN a e b).split c=((a.split c).1,AT.spl (a.split c).2 e b)from(by simp only[AT.split,xU o])));have bu:=zC (λo:¬c<=a.tI=>(show(AT.tN a e b).split c=(AT.spl a e (b.split (c-a.tI-1)).1,(b.split (c-a.tI-1)).2)from(by simp only[AT.split,xK o])));clear bn bp b6 b7 r g aa ab ba bc bd LV;generalize (AT.tN a e b).tI=ak at*;generalize (AT.tN a e b).split c=cl at*;have ce:=zC (xF (N (Y d)) d);have cf:=zC (E);clear E;have cg:(a.tI:Int)<=p:=VC;have ch:(a.tI:Int)+1<=p:=VC;have ci:(a.tI:Int)<ak:=VC;by_cases o:c<=a.tI
  ·have af:=zC (bj o)
   rw[bt.A o];have bv:(c:Int)<=a.tI:=VC;generalize (a.split c).1=b1 at*;generalize (a.split c).2=b2 at*;go_enter func40,ntmps40;go_wp2_with fail;refine ac.G ?_;rintro i al ⟨rfl,bl,am⟩;have M:=zC (show qa3 d al from(by rw[am];exact⟨rfl,rfl,rfl,lR,λ_ _=>rfl⟩));have ar:=M.size;clear am ac;go_wp2_with fail;refine(ad al M).G ?_;rintro i F ⟨gl,cc,rfl,an,r⟩;have m:=zC (M.R (r.G ar));have bw:=r.size;have ag:=zC an;clear an r ad;by_cases b0:p=a.tI+1
   ·have ah:b.tI=0:=VC
    have au:ak=a.tI+1:=VC;have j:=zC (ae F _ m (bg F m ah));rw[ah]at j;go_wp2_with fail;refine j.G ?_;rintro i v ⟨a6,a7,rfl,w,g⟩;have P:=zC (m.R (g.G VC));have av:=g.size;have Q:=zC w;have R:=zC (zE ag g lR);clear w g j au;have n:=zC (bh v _ _ R o);go_wp2_with fail;refine n.G ?_;rintro i k ⟨H,I,rfl,x,y,h⟩;have s:=zC (P.R (h.G VC));have aw:=h.size;have ax:=zC x;have t:=zC (af k I _ _ _ y (zE Q h lR));obtain⟨V,W,X⟩:=ao.A k s;clear x y h n;go_wp2_with fail;refine t.G ?_;rintro i a8 ⟨a9,rfl,z,l⟩;have S:=zC (s.R (l.G VC));have ay:=zC (zF (zE ax l lR) (show N (Y d)<=N (Y v) by omega));have T:=zC (zF z (show N (Y d)<=N (Y k) by omega));clear z l t V W X;go_wp2;refine vE (by simp[results,go_sem]) rfl ⟨_,_,rfl,ay,T,S⟩
   have j:=zC (ae F _ m (bf F m));rw[show b.tI=ak-(a.tI+1)by omega]at j;go_wp2_with fail;refine j.G ?_;rintro i v ⟨a6,a7,rfl,w,g⟩;have P:=zC (m.R (g.G VC));have av:=g.size;have Q:=zC w;have R:=zC (zE ag g lR);clear w g j;have n:=zC (bh v _ _ R o);go_wp2_with fail;refine n.G ?_;rintro i k ⟨H,I,rfl,x,y,h⟩;have s:=zC (P.R (h.G VC));have aw:=h.size;have ax:=zC x;have t:=zC (af k I _ _ _ y (zE Q h lR));obtain⟨V,W,X⟩:=ao.A k s;clear x y h n;go_wp2_with fail;refine t.G ?_;rintro i a8 ⟨a9,rfl,z,l⟩;have S:=zC (s.R (l.G VC));have ay:=zC (zF (zE ax l lR) (show N (Y d)<=N (Y v) by omega));have T:=zC (zF z (show N (Y d)<=N (Y k) by omega));clear z l t V W X;go_wp2;refine vE (by simp[results,go_sem]) rfl ⟨_,_,rfl,ay,T,S⟩
  have az:c-a.tI-1<=b.tI:=VC;have af:=zC (bk az);rw[bu.A o];have bv:¬ (c:Int)<=a.tI:=VC;generalize (b.split (c-a.tI-1)).1=b1 at*;generalize (b.split (c-a.tI-1)).2=b2 at*;go_enter func40,ntmps40;go_wp2_with fail;refine ac.G ?_;rintro i al ⟨rfl,bl,am⟩;have M:=zC (show qa3 d al from(by rw[am];exact⟨rfl,rfl,rfl,lR,λ_ _=>rfl⟩));have ar:=M.size;clear am ac;go_wp2_with fail;refine(ad al M).G ?_;rintro i F ⟨gl,cc,rfl,an,r⟩;have m:=zC (M.R (r.G ar));have bw:=r.size;have ag:=zC an;clear an r ad;by_cases b0:p=a.tI+1
  ·have ah:b.tI=0:=VC
   have au:ak=a.tI+1:=VC;have j:=zC (ae F _ m (bg F m ah));rw[ah]at j;go_wp2_with fail;refine j.G ?_;rintro i v ⟨a6,a7,rfl,w,g⟩;have P:=zC (m.R (g.G VC));have av:=g.size;have Q:=zC w;have R:=zC (zE ag g lR);clear w g j au;have n:=zC (bi v _ _ Q az);rw[show((c-a.tI-1:Nat):Int)=c-a.tI-1 by omega]at n;go_wp2_with fail;refine n.G ?_;rintro i k ⟨H,I,rfl,x,y,h⟩;have s:=zC (P.R (h.G VC));have aw:=h.size;have a0:=zC y;have t:=zC (af k _ H _ _ (zE R h lR) x);obtain⟨V,W,X⟩:=ao.A k s;clear x y h n;go_wp2_with fail;refine t.G ?_;rintro i a8 ⟨a9,rfl,z,l⟩;have S:=zC (s.R (l.G VC));have a1:=zC (zF (zE a0 l lR) (show N (Y d)<=N (Y v) by omega));have T:=zC (zF z (show N (Y d)<=N (Y k) by omega));clear z l t V W X;go_wp2;refine vE (by simp[results,go_sem]) rfl ⟨_,_,rfl,T,a1,S⟩
  have j:=zC (ae F _ m (bf F m));rw[show b.tI=ak-(a.tI+1)by omega]at j;go_wp2_with fail;refine j.G ?_;rintro i v ⟨a6,a7,rfl,w,g⟩;have P:=zC (m.R (g.G VC));have av:=g.size;have Q:=zC w;have R:=zC (zE ag g lR);clear w g j;have n:=zC (bi v _ _ Q az);rw[show((c-a.tI-1:Nat):Int)=c-a.tI-1 by omega]at n;go_wp2_with fail;refine n.G ?_;rintro i k ⟨H,I,rfl,x,y,h⟩;have s:=zC (P.R (h.G VC));have aw:=h.size;have a0:=zC y;have t:=zC (af k _ H _ _ (zE R h lR) x);obtain⟨V,W,X⟩:=ao k s;clear x y h n;go_wp2_with fail;refine t.G ?_;rintro i a8 ⟨a9,rfl,z,l⟩;have S:=zC (s.R (l.G VC));have a1:=zC (zF (zE a0 l lR) (show N (Y d)<=N (Y v) by omega));have T:=zC (zF z (show N (Y d)<=N (Y k) by omega));clear z l t V W X;go_wp2;refine vE (by simp[results,go_sem]) rfl ⟨_,_,rfl,T,a1,S⟩
def AT.rem_its0(a:AT)(b:0<a.tI):(a.rem 0).tI=a.tI-1:=by
 rw[<- AT.flat_length,AT.rem_flat a 0 b];simp only[xL,xO,xZ,AT.flat_length];omega
def bothS(d a:AT)(a6 bb:Nat)(M w:Jo)(g:V8)(E:d.bal)(x:a.bal)(bl:d.tI+a.tI<=8192)(q:zL g a6 M (d.tT 0))(h:zL g bb w (a.tT 0)):
  VM prog 41 #[M,w] g λu ad=>∃ae,u=V5 ae/\zL ad (N (Y g)) ae ((AT.join d a).tT 0)/\qa3 g ad:=by
 have D:=AT.tQ d 0;have l:=AT.tQ a 0
 obtain⟨v,K,a7⟩:∃v K,M= .slice v d.tI K:=by
  obtain⟨v,z,A⟩:=(zL.rd q).val;exact⟨v,z,by rw[A,D]⟩
 subst a7;cases d with
 | nil=>
  obtain⟨bo,f,P⟩:∃bo f,w= .slice bo a.tI f:=by
   obtain⟨bo,z,A⟩:=(zL.rd h).val;exact⟨bo,z,by rw[A,l]⟩
  subst P;have an:=zC (zA5 (a.tT 0) _ g (XU.of h) VC);have m:AT.join .nil a=a:=rfl;rw[m];clear q h D l E x m;go_enter func41,ntmps41;go_wp2_with fail;refine an.G ?_;rintro u a8 ⟨Q,R,rfl,B,C⟩;have G:=zC B;have H:=zC C;clear B C;go_wp2;go_ret;exact⟨_,rfl,G,H⟩
 | tN i k j=>
  have X:(AT.tN i k j).tI=i.tI+1+j.tI:=rfl;have bf:¬ (((AT.tN i k j).tI:Int)=0):=VC;have ao:=zC (zA5 ((AT.tN i k j).tT 0) _ g (XU.of q) VC);cases a with
  | nil=>
   obtain⟨bo,f,P⟩:∃bo f,w= .slice bo 0 f:=by
    obtain⟨bo,z,A⟩:=(zL.rd h).val;exact⟨bo,z,by rw[A,l];rfl⟩
   subst P;have m:AT.join (.tN i k j) .nil= .tN i k j:=rfl;rw[m];generalize AT.tN i k j=d at*;clear q h D l E x m X;go_enter func41,ntmps41;go_wp2_with fail;refine ao.G ?_;rintro u a8 ⟨Q,R,rfl,B,C⟩;have G:=zC B;have H:=zC C;clear B C;go_wp2;go_ret;exact⟨_,rfl,G,H⟩
  | tN b e c=>
   have ap:(AT.tN b e c).tI=b.tI+1+c.tI:=rfl;have bg:¬ (((AT.tN b e c).tI:Int)=0):=VC
   obtain⟨n,f,rfl,bn,a9⟩:∃n f,w= .slice (qQ n 0) (AT.tN b e c).tI f/\(AT.tN b e c).tI<=f/\f<=VL:=by
    obtain⟨y,r⟩|⟨Q,R,bp,y,_,_,r,ba,_⟩:=h.2
    ·exact absurd r (by rw[l];omega)
    rw[l]at y r;exact⟨Q,R,y,r,ba⟩
   have m:AT.join (.tN i k j) (.tN b e c)=AT.spl (.tN i k j) (AT.first (.tN b e c)) (AT.rem (.tN b e c) 0):=rfl;rw[m];obtain⟨af,bq,bc,aj,_⟩:=AT.first_at (AT.tN b e c) 0 VT;have Z:((AT.tN b e c).tT 0)[0]?=O ⟨AT.first (AT.tN b e c),bc⟩:=(by rw[aj];rfl);have aa:=AT.rem_bal (AT.tN b e c) 0 x VC;have aq:=AT.rem_its0 (AT.tN b e c) VC;generalize AT.tN i k j=d at*;generalize AT.tN b e c=a at*;have ar:=zC (λW(F:zL W bb (VZ (qQ n 0) a.tI f) (a.tT 0))=>LJ a 0 bb n f W x VC VC F);have ab:=zC (λW(ag:Jo)(ah ai:Nat)(y:zL W ah (VZ v d.tI K) (d.tT 0))(r:zL W ai ag ((a.rem 0).tT 0))=>zA6 d (a.rem 0) (AT.first a) ah ai _ ag W E aa.1 VC y r);unfold JP at ab;obtain⟨S,T,U⟩:=zL.c3 (by have I:=h;unfold zL at I;rw[l]at I;exact I) Z;rw[QV]at S;rw[QV,vg]at T;rw[QV,vg]at U;simp only at S T U;have J:=(h.lt n rfl).2;have au:=zC q;have av:=zC h;generalize AT.first a=a3 at*
   generalize a.rem 0=a4 at*;generalize AT.spl d a3 a4=a5 at*;have bh:(0:Int)<(a.tI:Int):=VC;clear q h D l E x m X ap aj Z aa aq;unfold VL at a9;go_enter func41,ntmps41;go_upto_region 5 with fail;go_cut [4] (λaf wc=>zL wc (N (Y g)) af (a5.tT 0)/\qa3 g wc)
   case first=>
    go_region_with (first
     |(go_at_call 42;refine(ar _ (by exact zD av (λ_ _=>rfl))).G ?_;rintro u V ⟨br,rfl,ak,s⟩;have o:qa3 g V:=⟨s.os,s.tape,s.output,s.size,s.block⟩;have aw:=zC o;have ac:=o.size;have ax:=zC ak;have ay:=zC (zE au o lR);have bi:=(o.U (p:=(V4 n 0)) J).R S;have bj:=(o.U (p:=(V4 n 1)) J).R T;have bk:=(o.U (p:=(V4 n 2)) J).R U;clear s ak o)
     |(go_at_call 70;refine(ab _ _ _ _ (by exact zD ay (λ_ _=>rfl)) (by exact zD ax (λ_ _=>rfl))).G ?_;rintro u bd ⟨bs,rfl,al,t⟩;have az:=zC (aw.R ((show qa3 V bd from⟨t.os,t.tape,t.output,t.size,t.block⟩).G ac));have a0:=zC (zF al (show N (Y g)<=N (Y V) from ac));clear t al))
    all_goals (go_wp2_with fail;go_meet;exact⟨a0,az⟩)
   case rest=>
   obtain⟨F,am⟩:=hcut;have a1:=zC F;have a2:=zC am;clear F am;go_wp2;go_ret;exact⟨_,rfl,a1,a2⟩
def delSA(zs)(X X1 X2 XX XY XW XJ XR)(k t au M q u W:Nat)(b o cap)(at')(ct)(lo B)(w)
  (Z:Hid (zs.length=k)) (fp:Hid (X.length=t)) (Q:Hid (XJ.length=q)) (fq:k<=220000) (fr:t<=8192) (fs:q<=8192) (ft:u<=8192) (fu:W<=8192) (fv:u<=W) (fw:t<=ct) (ej:ct<=maxLen) (fy:0<=lo/\lo<=8192) (fz:lo<=B/\B<=8192)
  (ek:Hid (yl w b o zs)) (el:b<w.heap.size)
  (dk:Hid (∀(eh:Nat)(z:It),XJ[eh]?=some z->0<=z.pc.off/\1<=z.pc.len/\z.pc.len<=8192/\z.pc.off+z.pc.len<=k))
  (dl:Hid (∀c,Below w.heap.size w c->Calls prog 34 #[.slice at' t ct] c λg i=>∃A bp,g= .returned (.slice (qQ A 0) t bp)/\zL i c.heap.size (.slice (qQ A 0) t bp) X/\Below c.heap.size c i))
  (dm:Hid (∀c s m n v x,yl c m 0 zs->m<c.heap.size->k<=n->n<=maxLen->zL c s (.slice (qQ v 0) t x) X->s<=c.heap.size->Calls prog 38 #[.slice (qQ m 0) k n,.slice (qQ v 0) t x,qP lo] c λg i=>∃A H,g= .returned (.slice (qQ A 0) au H)/\zL i s (.slice (qQ A 0) au H) X1/\Below c.heap.size c i))
  (dn:Hid (∀c s m n v x,yl c m 0 zs->m<c.heap.size->k<=n->n<=maxLen->zL c s (.slice (qQ v 0) au x) X1->s<=c.heap.size->Calls prog 38 #[.slice (qQ m 0) k n,.slice (qQ v 0) au x,qP B] c λg i=>∃A H,g= .returned (.slice (qQ A 0) M H)/\zL i s (.slice (qQ A 0) M H) X2/\Below c.heap.size c i))
  (dp:Hid (∀c s v x,zL c s (.slice (qQ v 0) M x) X2->Calls prog 35 #[.slice (qQ v 0) M x,qP lo] c λg i=>g= .returned (qP u)/\i=c))
  (dq:Hid (∀c s v x,zL c s (.slice (qQ v 0) M x) X2->Calls prog 35 #[.slice (qQ v 0) M x,qP B] c λg i=>g= .returned (qP W)/\i=c))
  (dr:Hid (∀c s v x,zL c s (.slice (qQ v 0) M x) X2->Calls prog 40 #[.slice (qQ v 0) M x,qP u] c λg i=>∃af z,g= .returned (.tuple #[af,z])/\zL i c.heap.size af XX/\zL i c.heap.size z XY/\Below c.heap.size c i))
  (ds:Hid (∀c s F,zL c s F XY->Calls prog 40 #[F,qP (W-u)] c λg i=>∃af z,g= .returned (.tuple #[af,z])/\zL i c.heap.size z XW/\Below c.heap.size c i))
  (dt:Hid (∀c s F ei K,zL c s F XX->zL c ei K XW->Calls prog 41 #[F,K] c λg i=>∃K,g= .returned K/\zL i c.heap.size K XJ/\Below c.heap.size c i))
  (em:Hid (∀c m n(a d:It),yl c m 0 zs->m<c.heap.size->k<=n->n<=maxLen->0<=a.pc.off->1<=a.pc.len->1<=d.pc.len->a.pc.off+a.pc.len=d.pc.off->d.pc.off+d.pc.len<=k->Calls prog 37 #[.slice (qQ m 0) k n,qP a.pc.off,qP (a.pc.len+d.pc.len)] c λg i=>g= .returned (.agg #[qP a.pc.off,qP (a.pc.len+d.pc.len),qP (zY zs a.pc.off (a.pc.len+d.pc.len)).brk])/\Below c.heap.size c i))
  (en:Hid (lo=B->XR=X))
  (eo:Hid (lo≠B->¬ (0<u/\u<q)->XR=XJ))
  (ep:Hid (∀e a d,lo≠B->u=e+1->XJ[e]?=some a->XJ[e+1]?=some d->¬a.pc.off+a.pc.len=d.pc.off->XR=XJ))
  (eq:Hid (∀e a d,lo≠B->u=e+1->e+1<q->XJ[e]?=some a->XJ[e+1]?=some d->a.pc.off+a.pc.len=d.pc.off->∀c s A H,c.ownsRow s 87 4 (.slice (qQ A 0) q H) q (zG (XJ.set e ⟨⟨a.pc.off,a.pc.len+d.pc.len,(zY zs a.pc.off (a.pc.len+d.pc.len)).brk⟩,a.lv⟩))->Calls prog 42 #[.slice (qQ A 0) q H,qP (e+1)] c λg i=>∃K,g= .returned K/\zL i c.heap.size K XR/\Below c.heap.size c i)):
  Calls prog 16 #[.agg #[.slice (qQ b o) k cap,.slice at' t ct],qP lo,qP B] w (XF w zs XR):=by
 unfold maxLen at ej;have b4:=zC (((xF w.heap.size w).alloc lR (.cells #[.slice (qQ b o) k cap,.slice at' t ct] 30)).alloc (by simp) (.cells #[.slice none 0 0,.slice none 0 0] 30))
 have b5:=zC (show((w.alloc (.cells #[.slice (qQ b o) k cap,.slice at' t ct] 30)).alloc (.cells #[.slice none 0 0,.slice none 0 0] 30)).heap[w.heap.size]?=some (.cells #[.slice (qQ b o) k cap,.slice at' t ct] 30 (0,0))by
  grind [Below.heap_alloc,heap_alloc_new])
 have dx:=zC (by
  have:=xJ (w.alloc (.cells #[.slice (qQ b o) k cap,.slice at' t ct] 30)) (.cells #[.slice none 0 0,.slice none 0 0] 30)
  rw[show(w.alloc (.cells #[.slice (qQ b o) k cap,.slice at' t ct] 30)).heap.size=w.heap.size+1 by simp]at this;exact this)
 have e2:w.heap.size+2<=((w.alloc (.cells #[.slice (qQ b o) k cap,.slice at' t ct] 30)).alloc (.cells #[.slice none 0 0,.slice none 0 0] 30)).heap.size:=by simp
 have e3:IntKind.i64.wrap ((W:Int)-(u:Int))=W-u:=Zv _ (by omega) (by omega);go_enter func16,ntmps16;go_upto_region 1 with fail;generalize (w.alloc (.cells #[.slice (qQ b o) k cap,.slice at' t ct] 30)).alloc (.cells #[.slice none 0 0,.slice none 0 0] 30)=l at *;have b6:l.cell? ⟨w.heap.size,0,none⟩=some (.slice (qQ b o) k cap):=by rw[xH l _ 0 _ _ _ b5.A];rfl
 have b7:=zC (YW l);have ao:=zC ((xF l.heap.size l).alloc lR (.cells #[] 21));have b8:=zC (Yw (λbq B=>(ao.U (p:=⟨b,o+bq,none⟩) (by grind)).R ((b4.U (p:=⟨b,o+bq,none⟩) el).R (ek bq B))));have a3:=(ao.U (by grind)).R b6;have a4:=zC (show(l.alloc (.cells #[] 21)).ownsRow l.heap.size 21 1 (.slice (qQ l.heap.size 0) 0 0) 0 []from b7);have dy:=zC (show(zQ .i32 zs).length=k*1 by rw[zc,Z.A];omega);go_upto_region 2 with (at_builtin;refine qa4 _ rfl _ _ rfl l.heap.size (.slice (qQ l.heap.size 0) 0 0) 0 [] rfl (a4) ⟨b,o,none⟩ k cap (zQ .i32 zs) rfl (dy) (b8) (zn .i32 zs) (by grind [maxLen]) (by omega) (by simp) ?_;intro dg ae dh di dj;refine Qq ?_)
 refine Lib.hid ?_;have a5:=zC (show zH ae l.heap.size dg zs from(by have E:=dh;unfold zH;rw[Z.A];simp_all));have a6:=zC (ao.R ((xF l.heap.size _).grown di (by simp) (λj f=>(a4.lt j f).1)));have b9:=zC (show ¬dg= .slice none 0 0 from λg=>absurd (dj.1 g).1 (by simp));clear dh di dj b7 a4 b8 a3 ao b6;obtain⟨m,n,rfl,br,bs,f0,f1⟩:=Jk a5 Z b9;have ca:=(a6.block w.heap.size (by omega)).R b5;have a3:ae.cell? ⟨w.heap.size,1,none⟩=some (.slice at' t ct):=by rw[xH ae _ 1 _ _ _ ca];rfl
 have cb:=zC ((a6.block (w.heap.size+1) (by omega)).R dx);have a7:=zC (b4.R (a6.G (by omega)));have cc:=zC (dl ae a7);clear ca b9 dl;go_wp2_with fail;refine cc.G ?_;rintro g I ⟨v,x,rfl,bt,ag⟩;have dz:=ag.size;have a8:=zC (a7.R (ag.G (by omega)));have ap:=zC (show zH I l.heap.size _ zs from zE a5 ag lR);have a9:=zC bt;have S:=zC ((ag.block (w.heap.size+1) (by omega)).R cb);have cd:=zC (λj f=>(bt.lt j f).1);clear ag bt cc a7 a5 cb a3;by_cases bk:lo=B
 ·have d0:=zC (en bk)
  subst bk;have d1:=zC (show zL I ae.heap.size (.slice (qQ v 0) t x) XR from(by rw[d0.A];exact a9));have C:I.cell? ⟨w.heap.size+1,0,none⟩=some (.slice none 0 0):=(by rw[xH I _ 0 _ _ _ S.A];rfl);have D:I.cell? ⟨w.heap.size+1,1,none⟩=some (.slice none 0 0):=(by rw[xH I _ 1 _ _ _ S.A];rfl);have T:=xW I (w.heap.size+1) 0 _ _ S;have U:=xW I (w.heap.size+1) 1 _ _ S;go_wp2;refine vE (v:=.agg #[.slice (qQ m 0) k n,.slice (qQ v 0) t x]) (by simp[results,go_sem,C,D]) rfl ⟨_,_,rfl,?_,?_,?_,⟨_,_,_,rfl⟩⟩
  ·exact zD (zF ap (by omega)) (λj f=>by cases f;grind [Below.heap_setCell])
  ·exact zD (zF d1 (by omega)) (λj f=>by have E:=cd j f;grind [Below.heap_setCell])
  exact(a8.setCell (by simp) _).setCell (by simp) _
 have ba:=zC bk;have ce:=zC (dm I _ m n v x (zy Z ap) (by omega) br bs a9 dz);clear dm a9 cd;go_wp2_with fail;refine ce.G ?_;rintro g du ⟨er,es,rfl,dv,ah⟩;have e4:=ah.size;have cf:=zC (a8.R (ah.G (by omega)));have bc:=zC (show zH du l.heap.size _ zs from zE ap ah lR);have cg:=zC ((ah.block (w.heap.size+1) (by omega)).R S);clear ah a8 ap S;have ch:=zC (dn du _ m n er es (zy Z bc) (by omega) br bs dv (by omega));clear dn ce dv;go_wp2_with fail;refine ch.G ?_;rintro g av ⟨bu,bv,rfl,aw,ai⟩;have e5:=ai.size;have ci:=zC (cf.R (ai.G (by omega)));have cj:=zC (show zH av l.heap.size _ zs from zE bc ai lR);have ck:=zC ((ai.block (w.heap.size+1) (by omega)).R cg);clear ai cf bc cg;have cl:=zC (dp av _ bu bv aw);have cm:=zC (dq av _ bu bv aw);have cn:=zC (dr av _ bu bv aw);clear ch dp dq dr aw;go_wp2_with fail;refine cl.G ?_;rintro g wx ⟨rfl,bw⟩;have bd:=bw.J;subst bd;go_wp2_with fail;refine cm.G ?_;rintro g wx ⟨rfl,bw⟩;have bd:=bw.J;subst bd;go_wp2_with fail;refine cn.G ?_;rintro g dw ⟨f2,f3,rfl,bx,bz,aj⟩;obtain⟨f4,f5,rfl⟩:=yg bx;obtain⟨f6,f7,rfl⟩:=yg bz;have e6:=aj.size;have A7:=zC (ci.R (aj.G (by omega)));have co:=zC (show zH dw l.heap.size _ zs from zE cj aj lR);have cp:=zC ((aj.block (w.heap.size+1) (by omega)).R ck);clear aj ci cj ck;have cq:=zC bx;have cr:=zC (ds dw _ _ bz);generalize XX.length=fk at *;generalize XY.length=fl at *;clear cl cm cn ds bx bz;go_wp2_with fail;refine cr.G ?_;rintro g ak ⟨f8,f9,rfl,b0,aa⟩;obtain⟨ga,gb,rfl⟩:=yg b0;have e7:=aa.size;have cs:=zC (A7.R (aa.G (by omega)));have cu:=zC (show zH ak l.heap.size _ zs from zE co aa lR);have cv:=zC ((aa.block (w.heap.size+1) (by omega)).R cp);have cw:=aa;clear aa A7 co cp;have cx:=zC (dt ak _ _ _ _ (zL.I cq cw lR) b0);generalize XW.length=fm at *;clear cr dt b0 cq cw;go_wp2_with fail;refine cx.G ?_;rintro g h ⟨gc,rfl,ax,al⟩;have e8:=al.size;have bf:=zC (cs.R (al.G (by omega)));have bg:=zC (show zH h l.heap.size _ zs from zE cu al lR);have G:=zC ((al.block (w.heap.size+1) (by omega)).R cv);clear al cs cu cv;have bh:=zC ax;have cy:=zC (λj f=>(ax.lt j f).1);obtain⟨ay,J,am⟩:=yg ax;rw[Q.A]at am;have d2:=zC am;clear cx ax;by_cases bl:0<u/\u<q
 ·obtain⟨e,et⟩:∃e,u=e+1:=⟨u-1,by omega⟩
  obtain⟨a,ab⟩:∃z,XJ[e]?=some z:=⟨_,xI (by rw[Q.A];omega)⟩
  obtain⟨d,an⟩:∃z,XJ[e+1]?=some z:=⟨_,xI (by rw[Q.A];omega)⟩
  obtain⟨r,gd,eu,ge,ev⟩:∃A H,ay=some ⟨A,0,none⟩/\q<=J/\J<=maxLen:=by
   rcases bh.A.2 with ⟨az,a0⟩ | ⟨A,bp,gf,az,_,_,a0,ew,_⟩
   ·rw[Q.A]at a0;omega
   rw[Q.A]at az a0;rw[am]at az;cases az;exact⟨A,0,rfl,a0,ew⟩
  subst eu;subst am;subst et;have cz:=dk e a ab;have c0:=dk (e+1) d an;have c1:=zC ab;have HM:=zC (ep e a d ba rfl ab an);have c2:=zC (eq e a d ba rfl bl.2 ab an)
  have ad:h.ownsRow ak.heap.size 87 4 (.slice (qQ r 0) q J) q (zG XJ):=by
   have E:=bh.A;unfold zL at E;rw[Q.A]at E;exact E
  have e9:=(ad.lt r rfl)
  obtain⟨b1,b2,b3⟩:=zL.c3 ad ab;have d3:=zL.c3 ad an;obtain⟨ex,ey,ez⟩:=d3;have fa:(0:Int)<e+1:=(by omega);have fc:(e:Int)+1<q:=(by omega);have fd:(e:Int)<q:=(by omega);have c3:=zC ((bf.alloc (by omega) (.cells #[qP a.pc.off,qP a.pc.len,qP a.pc.brk] 85)).alloc (by simp;omega) (.cells #[qP d.pc.off,qP d.pc.len,qP d.pc.brk] 85));have bi:=zC (((xF h.heap.size h).alloc lR (.cells #[qP a.pc.off,qP a.pc.len,qP a.pc.brk] 85)).alloc (by simp) (.cells #[qP d.pc.off,qP d.pc.len,qP d.pc.brk] 85));have bj:=zC (show zH ((h.alloc (.cells #[qP a.pc.off,qP a.pc.len,qP a.pc.brk] 85)).alloc (.cells #[qP d.pc.off,qP d.pc.len,qP d.pc.brk] 85)) l.heap.size _ zs from zE bg bi lR);have c4:=zC (zE ad bi lR);have c5:=zC ((bi.block (w.heap.size+1) (by omega)).R G)
  have c6:=zC (show((h.alloc (.cells #[qP a.pc.off,qP a.pc.len,qP a.pc.brk] 85)).alloc (.cells #[qP d.pc.off,qP d.pc.len,qP d.pc.brk] 85)).heap[h.heap.size]?=some (.cells #[qP a.pc.off,qP a.pc.len,qP a.pc.brk] 85 (0,0))by
   grind [Below.heap_alloc,heap_alloc_new])
  have da:=zC (by
   have:=xJ (h.alloc (.cells #[qP a.pc.off,qP a.pc.len,qP a.pc.brk] 85)) (.cells #[qP d.pc.off,qP d.pc.len,qP d.pc.brk] 85)
   rw[show(h.alloc (.cells #[qP a.pc.off,qP a.pc.len,qP a.pc.brk] 85)).heap.size=h.heap.size+1 by simp]at this;exact this)
  have fe:h.heap.size+2<=((h.alloc (.cells #[qP a.pc.off,qP a.pc.len,qP a.pc.brk] 85)).alloc (.cells #[qP d.pc.off,qP d.pc.len,qP d.pc.brk] 85)).heap.size:=(by simp);unfold maxLen at ev;clear ab an ad bl;go_upto_region 14 with fail;go_upto_region 15 with fail;generalize (h.alloc (.cells #[qP a.pc.off,qP a.pc.len,qP a.pc.brk] 85)).alloc (.cells #[qP d.pc.off,qP d.pc.len,qP d.pc.brk] 85)=y at *;have C:y.cell? ⟨h.heap.size,0,none⟩=some (qP a.pc.off):=(by rw[xH y _ 0 _ _ _ c6.A];rfl);have D:y.cell? ⟨h.heap.size,1,none⟩=some (qP a.pc.len):=(by rw[xH y _ 1 _ _ _ c6.A];rfl);have d4:y.cell? ⟨h.heap.size+1,0,none⟩=some (qP d.pc.off):=(by rw[xH y _ 0 _ _ _ da.A];rfl);have d5:y.cell? ⟨h.heap.size+1,1,none⟩=some (qP d.pc.len):=(by rw[xH y _ 1 _ _ _ da.A];rfl);clear b1 b2 b3 ex ey ez;by_cases bn:a.pc.off+a.pc.len=d.pc.off
  ·have db:=zC (em y m n a d (zy Z bj) (by omega) br bs cz.1 cz.2.1 c0.2.1 bn c0.2.2.2)
   have dc:=zC (c2 bn);go_wp2_with fail;refine db.G ?_;rintro g P ⟨rfl,ac⟩;have ff:=ac.size;have V:=zE c4 ac lR;have hst:=zL.setPc V c1 ⟨a.pc.off,a.pc.len+d.pc.len,(zY zs a.pc.off (a.pc.len+d.pc.len)).brk⟩;have T:P.frozen? ⟨r,e*4,none⟩=false:=V.frozenAt _;have U:P.frozen? ⟨r,e*4+1,none⟩=false:=V.frozenAt _;have d6:P.frozen? ⟨r,e*4+2,none⟩=false:=V.frozenAt _;obtain⟨b1,b2,b3⟩:=zL.c3 V c1;have d7:=zC ((c3.R (ac.G (by omega))).grown hst.2 (by omega) (λaf fo=>by grind));have d8:=zC (show zH (((P.setCell ⟨r,e*4,none⟩ (qP a.pc.off)).setCell ⟨r,e*4+1,none⟩ (qP (a.pc.len+d.pc.len))).setCell ⟨r,e*4+2,none⟩ (qP (zY zs a.pc.off (a.pc.len+d.pc.len)).brk)) l.heap.size _ zs from zD (zE bj ac lR) (λj f=>hst.2.block j (by cases f;grind) (by intro E;cases f;grind)));have d9:=zC ((hst.2.block (w.heap.size+1) (by omega) (by grind)).R ((ac.block (w.heap.size+1) (by omega)).R c5));have dd:=zC (dc (((P.setCell ⟨r,e*4,none⟩ (qP a.pc.off)).setCell ⟨r,e*4+1,none⟩ (qP (a.pc.len+d.pc.len))).setCell ⟨r,e*4+2,none⟩ (qP (zY zs a.pc.off (a.pc.len+d.pc.len)).brk)) _ r J hst.1);have fg:P.heap.size<=(((P.setCell ⟨r,e*4,none⟩ (qP a.pc.off)).setCell ⟨r,e*4+1,none⟩ (qP (a.pc.len+d.pc.len))).setCell ⟨r,e*4+2,none⟩ (qP (zY zs a.pc.off (a.pc.len+d.pc.len)).brk)).heap.size:=hst.2.size;clear ac V hst C D d4 d5 db c2 dc HM;generalize (zY zs a.pc.off (a.pc.len+d.pc.len)).brk=ef at *;go_upto_region 17 with fail;generalize (((P.setCell ⟨r,e*4,none⟩ (qP a.pc.off)).setCell ⟨r,e*4+1,none⟩ (qP (a.pc.len+d.pc.len))).setCell ⟨r,e*4+2,none⟩ (qP ef))=fn at *;clear b1 b2 b3 T U d6;go_wp2_with fail;refine dd.G ?_;rintro g R ⟨gg,rfl,a1,a2⟩;obtain⟨e0,e1,rfl⟩:=yg a1;have ea:=zC (d7.R (a2.G (by omega)));have eb:=zC (show zH R l.heap.size _ zs from zE d8 a2 lR);have ec:=zC a1;have aq:=zC ((a2.block (w.heap.size+1) (by omega)).R d9);have ed:=zC (λj f=>(a1.lt j f).1);clear a2 a1 dd;generalize XR.length=eg at *;have C:R.cell? ⟨w.heap.size+1,0,none⟩=some (.slice none 0 0):=(by rw[xH R _ 0 _ _ _ aq.A];rfl);have D:R.cell? ⟨w.heap.size+1,1,none⟩=some (.slice none 0 0):=(by rw[xH R _ 1 _ _ _ aq.A];rfl);have T:=xW R (w.heap.size+1) 0 _ _ aq;have U:=xW R (w.heap.size+1) 1 _ _ aq;go_wp2;refine vE (v:=.agg #[.slice (qQ m 0) k n,.slice e0 eg e1]) (by simp[results,results16,go_sem,C,D]) rfl ⟨_,_,rfl,?_,?_,?_,⟨_,_,_,rfl⟩⟩
   ·exact zD (zF eb (by omega)) (λj f=>by cases f;grind [Below.heap_setCell])
   ·exact zD (zF ec (by omega)) (λj f=>by have E:=ed j f;grind [Below.heap_setCell])
   exact(ea.setCell (by simp) _).setCell (by simp) _
  have de:=zC (show zL y ak.heap.size (.slice (qQ r 0) q J) XR from(by rw[HM.A bn];unfold zL;rw[Q.A];exact c4));have ar:=c5;have ee:=zC (λj f=>(de.lt j f).1);have C:y.cell? ⟨w.heap.size+1,0,none⟩=some (.slice none 0 0):=(by rw[xH y _ 0 _ _ _ ar.A];rfl);have D:y.cell? ⟨w.heap.size+1,1,none⟩=some (.slice none 0 0):=(by rw[xH y _ 1 _ _ _ ar.A];rfl);have T:=xW y (w.heap.size+1) 0 _ _ ar;have U:=xW y (w.heap.size+1) 1 _ _ ar;go_wp2;refine vE (v:=.agg #[.slice (qQ m 0) k n,.slice (qQ r 0) q J]) (by simp[results,results16,go_sem,C,D]) rfl ⟨_,_,rfl,?_,?_,?_,⟨_,_,_,rfl⟩⟩
  ·exact zD (zF bj (by omega)) (λj f=>by cases f;grind [Below.heap_setCell])
  ·exact zD (zF de (by omega)) (λj f=>by have E:=ee j f;grind [Below.heap_setCell])
  exact(c3.setCell (by simp) _).setCell (by simp) _
 have df:=zC (show zL h ak.heap.size (.slice ay q J) XR from(by rw[eo.A ba.A bl,<- d2.A];exact bh));have fh:¬ ((0:Int)<(u:Int)/\(u:Int)<(q:Int)):=by omega
 subst am;by_cases fj:(0:Int)<(u:Int)
 ·have fi:¬ (u:Int)<(q:Int):=by omega
  have C:h.cell? ⟨w.heap.size+1,0,none⟩=some (.slice none 0 0):=(by rw[xH h _ 0 _ _ _ G.A];rfl);have D:h.cell? ⟨w.heap.size+1,1,none⟩=some (.slice none 0 0):=(by rw[xH h _ 1 _ _ _ G.A];rfl);have T:=xW h (w.heap.size+1) 0 _ _ G;have U:=xW h (w.heap.size+1) 1 _ _ G;go_wp2;refine vE (v:=.agg #[.slice (qQ m 0) k n,.slice ay q J]) (by simp[results,results16,go_sem,C,D]) rfl ⟨_,_,rfl,?_,?_,?_,⟨_,_,_,rfl⟩⟩
  ·exact zD (zF bg (by omega)) (λj f=>by cases f;grind [Below.heap_setCell])
  ·exact zD (zF df (by omega)) (λj f=>by have E:=cy j f;grind [Below.heap_setCell])
  exact(bf.setCell (by simp) _).setCell (by simp) _
 have C:h.cell? ⟨w.heap.size+1,0,none⟩=some (.slice none 0 0):=by rw[xH h _ 0 _ _ _ G.A];rfl
 have D:h.cell? ⟨w.heap.size+1,1,none⟩=some (.slice none 0 0):=by rw[xH h _ 1 _ _ _ G.A];rfl
 have T:=xW h (w.heap.size+1) 0 _ _ G;have U:=xW h (w.heap.size+1) 1 _ _ G;go_wp2;refine vE (v:=.agg #[.slice (qQ m 0) k n,.slice ay q J]) (by simp[results,results16,go_sem,C,D]) rfl ⟨_,_,rfl,?_,?_,?_,⟨_,_,_,rfl⟩⟩
 ·exact zD (zF bg (by omega)) (λj f=>by cases f;grind [Below.heap_setCell])
 ·exact zD (zF df (by omega)) (λj f=>by have E:=cy j f;grind [Below.heap_setCell])
 exact(bf.setCell (by simp) _).setCell (by simp) _
def Hl{a:AT}{b:Nat}{c:It}(d:(a.tT 0)[b]?=O c):a.tF[b]?=O c.pc:=by
 rw[<- AT.qh a 0,vZ,d];rfl
def delS(b:qa0)(a:AT)(C M X Z:Nat)(P:qa1)(A:Nat)(c d:Int)(r:V8)(aw:yl r C M b)(ax:C<N (Y r))(aa:zL r Z (VZ P a.tI A) (a.tT 0))(Q:a.ok)(ab:a.bal)(ac:a.wp b)(R:0<=c)(ad:c<=d)(m:d<=a.rns)(D:L b<=220000):
  VM prog 16 #[.agg #[VZ (qQ C M) (L b) X,VZ P a.tI A],qP c,qP d] r (XF r b ((if c=d then a else YO b a c d).tT 0)):=by
 have G:=AT.tQ a 0;have a3:=Q.bd
 obtain⟨ay,az⟩:a.tI<=A/\A<=VL:=by
  obtain⟨m,S⟩|⟨K,bh,bi,m,_,_,S,a0,_⟩:=aa.2
  ·simp only[kL]at m;exact⟨VC,VW⟩
  rw[G]at m S;cases m;exact⟨S,a0⟩
 have e:=zBu Q ab ac D R ad m;have a4:=e.ok2.bd;have a5:=e.ok1.bd;have a6:=e.okJ.bd;have a7:=e.okX.bd;have a8:=e.okY.bd;have a9:=e.okW.bd;have ae:=e.a2;have ba:=e.z2;have af:=e.az;have ag:=(ze b _).1 e.wpJ;have ah:(((JV b a c d-zN a c:Nat)):Int)=(JV b a c d:Int)-(zN a c:Int):=VC
 have T:∀(j:Nat)(g l:It),zN a c=j+1->((Zw b a c d).tT 0)[j]?=O g->((Zw b a c d).tT 0)[j+1]?=O l->zU (Zw b a c d) (zN a c)=g.pc/\Ks (Zw b a c d) (zN a c)=l.pc:=by
  intro j g l n o s;rw[n,zU,Ks,Qw,vv,vv,Hl o,Hl s];exact⟨rfl,rfl⟩
 refine delSA b (a.tT 0) ((zb b a c).tT 0) ((ZN b a c d).tT 0) ((Da b a c d).tT 0) ((Kt b a c d).tT 0) ((UJ b a c d).tT 0) ((Zw b a c d).tT 0) _ (L b) a.tI (zb b a c).tI (ZN b a c d).tI (Zw b a c d).tI (zN a c) (JV b a c d) C M X P A c d r (zC rfl) (zC G) (zC (AT.tQ _ _)) D VC VC VC VC af ay az ⟨R,VC⟩ ⟨ad,VC⟩ (zC aw) ax (zC ?_) (zC ?_) (zC ?_) (zC ?_) (zC ?_) (zC ?_) (zC ?_) (zC ?_) (zC ?_) (zC ?_) (zC ?_) (zC ?_) (zC ?_) (zC ?_)
 ·intro bc V H
  have U:=vc (Hl H);have ai:=e.okJ.1 _ U;simp only[jU,vn]at ai;have:=(ag _ U).2.2.1;omega
 ·intro f am
  have h:=zC9 (a.tT 0) _ Z f (zL.I aa am lR) VC;rw[G]at h;exact h
 ·intro f k t u p q v w x y i I
  exact cutS b a c t 0 u k p q f v w x y D Q ab ac R VC i I
 ·intro f k t u p q v w x y i I
  exact cutS b (zb b a c) d t 0 u k p q f v w x y D e.ok1 e.bal1 e.wp1 VC (by rw[e.rn1];exact m) i I
 ·intro f k p q i
  have h:=Fk (N (Y f)) _ ((ZN b a c d).tT 0) c f (zL.rd i) (by rw[AT.tQ];omega) (ZP e.ok2);rw[e.ra]at h;exact h
 ·intro f k p q i
  have h:=Fk (N (Y f)) _ ((ZN b a c d).tT 0) d f (zL.rd i) (by rw[AT.tQ];omega) (ZP e.ok2);rw[e.rz]at h;exact h
 ·intro f k p q i
  exact zA9 (ZN b a c d) (zN a c) _ k f e.bal2 VC ae i
 ·intro f k J i
  have h:=zA9 (Kt b a c d) (JV b a c d-zN a c) J k f e.balY VC (by rw[e.yits];omega) i;rw[ah]at h;refine h.G ?_;rintro bj bk ⟨a1,V,rfl,_,H,a2⟩;exact⟨a1,V,rfl,H,a2⟩
 ·intro f k J an ao i ap
  exact bothS (Da b a c d) (UJ b a c d) k an J ao f e.balX e.balW e.tI i ap
 ·intro f t u g l v w x y aq bd bf B bg
  exact ZB b t 0 u g.pc.off (g.pc.len+l.pc.len) f v w aq VC VC x y VC
 ·intro ar
  rw[xU ar]
 ·intro z au
  rw[xK z,YO,ju,xK];simp only[jJ,vn];exact λh=>au h.1
 ·intro j g l z n o s B
  obtain⟨E,F⟩:=T j g l n o s;rw[xK z,YO,ju,xK];simp only[jJ,vn,E,F];exact λh=>B h.2
 intro j g l z n av o s B f k K W i;obtain⟨E,F⟩:=T j g l n o s;have aj:=AT.qy (Zw b a c d) j (zY b g.pc.off (g.pc.len+l.pc.len)) 0 g o
 have ak:YO b a c d=((Zw b a c d).put j (zY b g.pc.off (g.pc.len+l.pc.len))).rem (j+1):=by
  rw[YO,ju,xU,E,F,n,Qw];simp only[jJ,vn,E,F];exact⟨VC,B⟩
 have al:zL f k (VZ (qQ K 0) (Zw b a c d).tI W) (((Zw b a c d).put j (zY b g.pc.off (g.pc.len+l.pc.len))).tT 0):=by
  unfold zL;rw[AT.tQ,AT.qf,aj];exact i
 have h:=LJ ((Zw b a c d).put j (zY b g.pc.off (g.pc.len+l.pc.len))) (j+1) k K W f (AT.qi _ _ _ e.balJ) (by rw[AT.qf];omega) (by rw[AT.qf];exact av) (by rw[AT.qf];exact al);rw[AT.qf]at h;rw[xK z,ak];exact h

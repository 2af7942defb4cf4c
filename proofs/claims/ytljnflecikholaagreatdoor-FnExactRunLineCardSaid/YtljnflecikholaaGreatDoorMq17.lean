import Derived.Test.YtljnflecikholaaGreatDoorMq16
set_option linter.all false
set_option maxRecDepth 100000
set_option maxHeartbeats 8000000
namespace Go.Proofs.YtljnflecikholaaGreatDoor
open Go Go.RowKit Go.Proofs.Tryz
def ZK{d:qS}{i c:Nat}{e:qT}{f:qV}(g:d.ownsRow i 21 1 e c (zI .i32 f))(k:e≠ .slice none 0 0):∃a b,e= .slice (qD a 0) c b/\i<=a/\a<d.heap.size/\c<=b/\b<=maxLen/\Cl d a f:=by
 have j:f.length=c:=by have:=g.1;simpa[zI]using this
 rcases Gs.qa g with ⟨h,_⟩ | ⟨a,b,h,l,o,m,n⟩
 ·exact absurd h k
 subst h;exact⟨a,b,by rw[j],(g.lt a rfl).1,l,qF,m,n⟩
def Ls(a:qV)(D:qT)(d e:Nat)(c f:Nat)(b:qS)(E:Gs b D a)(o:GV a d e)(R:c<=f)(a3:f+(e-d)<=a.length):
  Calls prog 41 #[.agg #[D,qC d,qC e],qC c,qC f] b λu i=>∃j O,u=qQ (.agg #[qM j a.length O,qC c,qC ((f+(e-d):Nat):Int)])/\i.ownsRow b.heap.size 21 1 (qM j a.length O) a.length (zI .i32 (yU ((zW a d e).take c++(zW a d e).drop f) c a.length))/\qY b i:=by
 obtain⟨j,h,rfl⟩:=E.val;have aj:=o.c;have F:=o.a;have G:=o.b;have ak:(zW a d e).length=a.length-(e-d):=zP F G;have H:=zC (((xe b.heap.size b).alloc lR (qR #[qM j a.length h,qC d,qC e] 86)).alloc qH (qR #[qN,qC 0,qC 0] 86));have I:=zC (λi(a4:Gs i (qM j a.length h) a)=>UP a _ d e i a4 o);have al:=zC (E.below H lR);have p:=zC (T3.new (b.alloc (qR #[qM j a.length h,qC d,qC e] 86)) qN (qC 0) (qC 0) 86);have x:=zC ((T3.new b (qM j a.length h) (qC d) (qC e) 86).below ((xe _ _).alloc lR (qR #[qN,qC 0,qC 0] 86)) qH);have J:(b.alloc (qR #[qM j a.length h,qC d,qC e] 86)).heap.size=b.heap.size+1:=qH
 have bg:((b.alloc (qR #[qM j a.length h,qC d,qC e] 86)).alloc (qR #[qN,qC 0,qC 0] 86)).heap.size=b.heap.size+2:=qH
 rw[J]at p;generalize zW a d e=g at *;have q:=zC (λy h i z A B C=>Yo y h g.length g [] c f qN i z A rfl B C R qF qF (.inl ⟨rfl,rfl⟩) qH);have K:(g.take c++([]++g.drop f)).length=c+0+(g.length-f):=by simp only[vq,xg,xi,xz];omega
 have m:=zC (λy h i z A B C=>Pb y h (c+0+(g.length-f)) (g.take c++([]++g.drop f)) c a.length i z A K B C qF qF qF);simp only[vq,ke]at q m;have L:c+(a.length-(c+0+(g.length-f)))=f+(e-d):=qF
 rw[L]at m;generalize yU (g.take c++g.drop f) c a.length=bq at *;generalize g.take c++g.drop f=br at *;obtain⟨n,S⟩:∃n,n=f+(e-d):=⟨_,rfl⟩
 rw[<- S]at m |-;obtain⟨P,T⟩:∃P,P=c+0+(g.length-f):=⟨_,rfl⟩
 rw[<- T]at m q;obtain⟨Q,U⟩:∃Q,Q=g.length:=⟨_,rfl⟩
 rw[<- U]at q I;generalize a.length=t at *;clear E o J ak K L a3 R F G aj S T U;go_enter func41,ntmps41;go_wp2_with fail;generalize (b.alloc (qR #[qM j t h,qC d,qC e] 86)).alloc (qR #[qN,qC 0,qC 0] 86)=N at *;obtain⟨bs,bt,bu⟩:=x.out.c
 go_region_with (first
  |(go_at_call 40;refine(I _ (by exact(al.below (w':=N.drew) ⟨rfl,rfl,rfl,lR,λ_ _=>rfl⟩ lR))).mono ?_;rintro u V ⟨bv,rfl,W,X,l⟩;obtain⟨a5,a6,a7,bw,a8,Y,Z,aa⟩:=ZK X W;subst a7;have r:=zC (show qY N V from⟨l.os,l.tape,l.output,l.size,l.block⟩);have am:=zC aa;have an:=zC Z;have ao:=zC Y;have ap:=zC (x.below r qF);have bh:=zC (p.below r qF);have bi:=ap.c.1;have aq:=r.size;clear X W l aa Z Y)
  |(go_at_call 70;refine(q a5 a6 V am a8 ao an).mono ?_;rintro u a9 ⟨bx,rfl,ab,ac,ad⟩;obtain⟨ba,bc,bd,bz,bf,ae,af,ag⟩:=ZK ac ab;subst bd;have s:=zC (r.trans (ad.mono aq));have ar:=zC ag;have au:=zC af;have av:=zC ae;have aw:=zC (x.below s qF);have bj:=zC (p.below s qF);have bk:=aw.c.1;have ax:=s.size;clear ac ab ad ag af ae)
  |(go_at_call 69;refine(m ba bc a9 ar bf av au).mono ?_;rintro u b0 ⟨v,w,rfl,ah,ai⟩;have M:=zC (s.trans (ai.mono ax));have k:=zC (p.below M qF);have ay:=k.c.1;have az:=k.c.2.1;have a0:=k.c.2.2;have bl:=k.fz 0;have bn:=k.fz 1;have bp:=k.fz 2;have a1:=zC (zF (base':=b.heap.size) (Zn (b:=b.heap.size+1) ah qF (qM v t w) (qC c) (qC n)) qF);have a2:=zC ((((H.trans (M.mono qF)).setCell (show b.heap.size<=((qP (b.heap.size+1) 0):Addr).block by simp) (qM v t w)).setCell (show b.heap.size<=((qP (b.heap.size+1) 1):Addr).block by simp) (qC c)).setCell (show b.heap.size<=((qP (b.heap.size+1) 2):Addr).block by simp) (qC n));clear ah ai))
 all_goals (
  go_wp2;refine vg (v:=.agg #[qM v t w,qC c,qC n]) (by simp[results,results41,go_sem,ay,az,a0]) rfl ?_
  exact⟨v,w,rfl,a1,a2⟩)
def GT(e f a g i B:Nat)(zs tx ts res)(j)(h)(ap)(cp n hi)(w)(s:Gs w (qM j e h) zs)(bq:e<=65536)(br:n<=hi)(bs:hi<=e)(bt:f<=8192)(bu:f+a<=8192)(bv:g<=65536)(bw:i<=f)
  (ay:Sl .i32 w (qM ap a cp) ts)
  (az:Hid (∀d,Gs d (qM j e h) zs->Calls prog 40 #[.agg #[qM j e h,qC n,qC hi]] d λl A=>∃I,l=qQ I/\I≠ .slice none 0 0/\A.ownsRow d.heap.size 21 1 I f (zI .i32 tx)/\qY d A))
  (ah:Hid (∀J h d,Cl d J tx->J<d.heap.size->f<=h->h<=maxLen->Sl .i32 d (qM ap a cp) ts->Calls prog 70 #[qM (qD J 0) f h,qC i,qC i,qM ap a cp] d λl A=>∃I,l=qQ I/\I≠ .slice none 0 0/\A.ownsRow d.heap.size 21 1 I (f+a) (zI .i32 (tx.take i++(ts++tx.drop i)))/\qY d A))
  (ai:Hid (∀J h d,Cl d J (tx.take i++(ts++tx.drop i))->J<d.heap.size->f+a<=h->h<=maxLen->Calls prog 69 #[qM (qD J 0) (f+a) h,qC (i+a),qC g] d λl A=>∃j S,l=qQ (.agg #[qM j g S,qC (i+a),qC B])/\A.ownsRow d.heap.size 21 1 (qM j g S) g (zI .i32 res)/\qY d A))
  (a0:(a<=hi-n/\g=e)\/(hi-n<a/\XJ (f+a) (max e 16) g)):
  Calls prog 39 #[.agg #[qM j e h,qC n,qC hi],qC i,qM ap a cp] w λl d=>∃j S,l=qQ (.agg #[qM j g S,qC (i+a),qC B])/\d.ownsRow w.heap.size 21 1 (qM j g S) g (zI .i32 res)/\qY w d:=by
 have ac:=zC (((xe _ w).alloc lR (qR #[qM j e h,qC n,qC hi] 86)).alloc qH (qR #[qN,qC 0,qC 0] 86));have an:=zC (s.below ac lR);have ad:=zC (T3.new (w.alloc (qR #[qM j e h,qC n,qC hi] 86)) qN (qC 0) (qC 0) 86);have ao:=zC ((T3.new w (qM j e h) (qC n) (qC hi) 86).below ((xe _ _).alloc lR (qR #[qN,qC 0,qC 0] 86)) qH);have aq:(w.alloc (qR #[qM j e h,qC n,qC hi] 86)).heap.size=w.heap.size+1:=qH
 have bk:((w.alloc (qR #[qM j e h,qC n,qC hi] 86)).alloc (qR #[qN,qC 0,qC 0] 86)).heap.size=w.heap.size+2:=qH
 rw[aq]at ad;have a9:=zC ay;have ae:=zC a0;clear s ay aq a0;go_enter func39,ntmps39;go_wp2_with fail;generalize (w.alloc _).alloc _=bp at *;refine(az _ an).mono ?_;rintro l aj ⟨bx,rfl,a1,a2,T⟩;obtain⟨t,ak,bg,bz,al,am,a3,a4⟩:=ZK a2 a1;subst bg;have bl:=T.size;have H:=zC (ac.trans (T.mono qF));have ba:=zC (ao.below T qF);have L:=zC (ad.below T qF);have M:=zC a4;have N:=zC a3;have O:=zC (a9.below H);obtain⟨b0,b1,b2⟩:=ba.c;clear a2 a1 T a4 a3 ao ad ac az an;rcases ae.out with ⟨bh,rfl⟩ | ⟨bh,a5⟩
 ·have bc:¬ (hi-(n:Int))<a:=qF
  clear ae;go_wp2_with fail;refine(ah t ak aj M al am N O).mono ?_;rintro l U ⟨a6,rfl,C,D,m⟩;obtain⟨o,V,W,a7,X,Y,E,F⟩:=ZK D C;subst W;have ar:=m.size;have u:=zC (H.trans (m.mono qF));have x:=zC (L.below m qF);have y:=zC F;have z:=zC E;clear D C m F E H L M N O;go_wp2_with fail;refine(ai o V U y X Y z).mono ?_;rintro l a8 ⟨p,q,rfl,G,r⟩;have P:=zC (u.trans (r.mono qF));have k:=zC (x.below r qF);have Q:=zC (zF (base':=w.heap.size) (Zn (b:=w.heap.size+1) G qF (qM p g q) (qC (i+a)) (qC B)) qF);obtain⟨Z,t,o⟩:=k.out.c;have au:=k.fz 0;have av:=k.fz 1;have aw:=k.fz 2;clear G r u x y z;go_wp2;refine vg (v:=.agg #[qM p g q,qC (i+a),qC B]) (by simp[results,go_sem,Z,t,o]) rfl ?_;exact⟨p,q,rfl,Q,((P.setCell qH _).setCell qH _).setCell qH _⟩
 have bc:(hi-(n:Int))<a:=qF
 have ax:=zC a5;clear a5 ae;by_cases bn:e<16
 ·have bd:(e:Int)<16:=qF
  go_wp2_with fail;go_loop [8] (λK=>∃c:Nat,K=qC c/\XJ (f+a) c g/\16<=c/\c<=65536) (λK=>(f+a)-(intOf K).toNat)
  case atStart=>exact⟨16,rfl,by have:=ax.out;rw[show max e 16=16 by omega]at this;exact this,qF,qF⟩
  obtain⟨c,rfl,aa,bi,bj⟩:=hrel;have R:=zC aa;clear aa;by_cases bf:c<f+a
  ·have af:c-(f:Int)<a:=qF
   have ag:=zC (show XJ _ _ g from by
    cases R.out with
    | stop _ s=>omega
    | more _ _ s ab=>exact ab)
   go_wp2;go_round
   case rel=>exact⟨_,qL,ag,qF,qF⟩
   simp[intOf];omega
  have af:¬c-(f:Int)<a:=qF
  obtain rfl:c=g:=by
   cases R.out with
   | stop _ s=>rfl
   | more _ _ s ab=>omega
  go_wp2_with fail;refine(ah t ak aj M al am N O).mono ?_;rintro l U ⟨a6,rfl,C,D,m⟩;obtain⟨o,V,W,a7,X,Y,E,F⟩:=ZK D C;subst W;have ar:=m.size;have u:=zC (H.trans (m.mono qF));have x:=zC (L.below m qF);have y:=zC F;have z:=zC E;clear D C m F E H L M N O;go_wp2_with fail;refine(ai o V U y X Y z).mono ?_;rintro l a8 ⟨p,q,rfl,G,r⟩;have P:=zC (u.trans (r.mono qF));have k:=zC (x.below r qF);have Q:=zC (zF (base':=w.heap.size) (Zn (b:=w.heap.size+1) G qF (qM p c q) (qC (i+a)) (qC B)) qF);obtain⟨Z,t,o⟩:=k.out.c;have au:=k.fz 0;have av:=k.fz 1;have aw:=k.fz 2;clear G r u x y z;go_wp2;refine vg (v:=.agg #[qM p c q,qC (i+a),qC B]) (by simp[results,go_sem,Z,t,o]) rfl ?_;exact⟨p,q,rfl,Q,((P.setCell qH _).setCell qH _).setCell qH _⟩
 have bd:¬ (e:Int)<16:=qF
 go_wp2_with fail;go_loop [8] (λK=>∃c:Nat,K=qC c/\XJ (f+a) c g/\16<=c/\c<=65536) (λK=>(f+a)-(intOf K).toNat)
 case atStart=>exact⟨e,rfl,by have:=ax.out;rw[show max e 16=e by omega]at this;exact this,qF,qF⟩
 obtain⟨c,rfl,aa,bi,bj⟩:=hrel;have R:=zC aa;clear aa;by_cases bf:c<f+a
 ·have af:c-(f:Int)<a:=qF
  have ag:=zC (show XJ _ _ g from by
   cases R.out with
   | stop _ s=>omega
   | more _ _ s ab=>exact ab)
  go_wp2;go_round
  case rel=>exact⟨_,qL,ag,qF,qF⟩
  simp[intOf];omega
 have af:¬c-(f:Int)<a:=qF
 obtain rfl:c=g:=by
  cases R with
  | stop _ s=>rfl
  | more _ _ s ab=>omega
 go_wp2_with fail;refine(ah t ak aj M al am N O).mono ?_;rintro l U ⟨a6,rfl,C,D,m⟩;obtain⟨o,V,W,a7,X,Y,E,F⟩:=ZK D C;subst W;have ar:=m.size;have u:=zC (H.trans (m.mono qF));have x:=zC (L.below m qF);have y:=zC F;have z:=zC E;clear D C m F E H L M N O;go_wp2_with fail;refine(ai o V U y X Y z).mono ?_;rintro l a8 ⟨p,q,rfl,G,r⟩;have P:=zC (u.trans (r.mono qF));have k:=zC (x.below r qF);have Q:=zC (zF (base':=w.heap.size) (Zn (b:=w.heap.size+1) G qF (qM p c q) (qC (i+a)) (qC B)) qF);obtain⟨Z,t,o⟩:=k.out.c;have au:=k.fz 0;have av:=k.fz 1;have aw:=k.fz 2;clear G r u x y z;go_wp2;refine vg (v:=.agg #[qM p c q,qC (i+a),qC B]) (by simp[results,go_sem,Z,t,o]) rfl ?_;exact⟨p,q,rfl,Q,((P.setCell qH _).setCell qH _).setCell qH _⟩
def Lt(zs ts)(v)(lo hi a)(ap)(mt cp)(w)(r:Gs w v zs)(e:GV zs lo hi)(G:mt=ts.length)(D:Sl .i32 w (qM ap mt cp) ts)(H:a+(hi-lo)<=zs.length)(I:zs.length-(hi-lo)+mt<=8192):
  Calls prog 39 #[.agg #[v,qC lo,qC hi],qC a,qM ap mt cp] w λp b=>∃f q,p=qQ (.agg #[qM f (zy zs lo hi mt) q,qC ((a+mt:Nat)),qC ((a+(zy zs lo hi mt-(zW zs lo hi).length):Nat))])/\b.ownsRow w.heap.size 21 1 (qM f (zy zs lo hi mt) q) (zy zs lo hi mt) (zI .i32 (yU ((zW zs lo hi).take a++(ts++(zW zs lo hi).drop a)) (a+mt) (zy zs lo hi mt)))/\qY w b:=by
 obtain⟨f,d,rfl⟩:=r.val;have l:=e.a;have m:=e.b;have s:=e.c;have E:=zP l m;have o:=Jg e (n:=mt) qF;have t:((zW zs lo hi).take a++(ts++(zW zs lo hi).drop a)).length=(zW zs lo hi).length+mt:=by simp only[xg,xi,xz];omega
 have c:=GT _ _ mt _ a _ zs _ ts _ f d ap cp lo hi w r s l m qF qF o.2 qF D
  (zC λb u=>UP zs _ lo hi b u e)
  (zC λg d b h i j k x=>(Yo g d _ _ ts a a _ b h i rfl j k lR qF qF x qF).mono λp F⟨y,z,A,B,C⟩=>⟨y,z,A,by rw[show(zW zs lo hi).length+mt=a+ts.length+((zW zs lo hi).length-a)by omega];exact B,C⟩)
  (zC λg d b h i j k=>by
   have c:=Pb g d _ _ (a+mt) _ b h i t j k qF o.1 qF;rw[show a+mt+(zy zs lo hi mt-((zW zs lo hi).length+mt))=a+(zy zs lo hi mt-(zW zs lo hi).length)by omega]at c;rw[show(a+mt)=((a+mt:Nat):Int)by omega]
   exact c)
  (Jf zs lo hi mt)
 rw[show(a+mt)=((a+mt:Nat):Int)by omega]at c;exact c
def zd.kept{w w'}{b c j d k l:Nat}{v' vs ls xs'}(a:zd w b c vs ls)(m:w.ownsRow j d k v' l xs')(n:21≠d)(o:w.grownBy w' v'.ownBlock):zd w' b c vs ls:=
 ⟨a.len,λe f g h i=>yX (a.own e f g h i) m n o,a.bl,a.ne⟩
def Xt(a:qS)(e):(a.alloc (qR #[] e)).ownsRow a.heap.size e 1 (qM (qD a.heap.size 0) 0 0) 0 []:=by
 have:=kr (base:=a.heap.size) (e:=e) (size:=1) a #[] 0 qH (xK _) rfl;simpa using this
def NN(d:qU):Prop:=∀v∈d,∃a b c,v= .slice (some a) b c
def NN.snoc{vs a n c}(f:NN vs):NN (vs++ [qM (some a) n c]):=by
 intro d e;rcases vD.1 e with b | b
 ·exact f d b
 simp_all
def Eg{c:qS}{d e f:Nat}{v n xs}(g:c.ownsRow d e f v n xs):∃b a,v= .slice b n a:=by
 rcases g.2 with ⟨rfl,h⟩ | ⟨i,a,j,rfl,_⟩
 ·simp_all
 simp
theorem zBi (zs) (aq) (cap) (w) (hc:∀i,i<zs.length->∃b o,aq=some ⟨b,o,none⟩∧b<w.heap.size∧w.cell? ⟨b,o+i,none⟩=some (.int .i32 (zs.getD i 0))) (a0:zs.length<=1048576) (a1:zs.length<=cap) (a2:cap<=maxLen):
  Calls prog 36 #[.slice aq zs.length cap] w fun e w'=>∃v g,e= .returned v∧w'.ownsRow w.heap.size 48 1 v (yI zs).length g∧zd w' w.heap.size w'.heap.size g (yI zs)∧NN g∧Below w.heap.size w w':=by
 obtain⟨af,ag,ah,ai,aj⟩:=vw Tryz.infoS;obtain⟨a3,a4,a5,a6,a7⟩:=vw Tryz.qc;have X:=zC hc;have K:=zC (j9 zs);obtain⟨S,V⟩:∃S,S=yI zs:=⟨_,rfl⟩
 rw [<- V]at K |-;have al:=zC V;obtain⟨r,W⟩:∃r,r=zs.length:=⟨_,rfl⟩
 have Y:=zC W;rw [<- W]at a0 a1 K X |-;unfold maxLen at a2;have am:=zC ((xe _ w).alloc lR (.cells #[] 48));have an:=zC (am.alloc (by simp) (.cells #[] 21));have ao:=zC ((Xt w 48).alloc (.cells #[] 21));have Z:=zC (Xt (w.alloc (.cells #[] 48)) 21);have aa:(w.alloc (.cells #[] 48)).heap.size=w.heap.size+1:=by simp
 have bg:((w.alloc (.cells #[] 48)).alloc (.cells #[] 21)).heap.size=w.heap.size+2:=by simp
 rw [aa]at Z;clear hc V W aa;go_enter func36,ntmps36;go_wp2_with fail;generalize (w.alloc _).alloc _=w0 at *
 go_loopw [3,4,11] (fun ae row i wr=>∃ (k s:Nat) (L:List _) (d:List Int) (g:List Value) (l:Addr) (m:Nat) (T:Option Addr) (U:Nat),k<=r∧i=qC k∧w.heap.size<=s∧s<=wr.heap.size∧S=L++gl d (yI (zs.drop k))∧d.length<=k∧row= .slice (some l) d.length m∧ae= .slice T L.length U∧wr.ownsRow s 21 1 row d.length (zI .i32 d)∧wr.ownsRow w.heap.size 48 1 ae L.length g∧zd wr w.heap.size s g L∧NN g∧Below w.heap.size w wr)
  (fun _ _ i _=>r - (intOf i).toNat)
 case atStart=>
  exact⟨0,_,[],[],[],_,0,_,_,xK _,rfl,by omega,by omega,by rw [vz,TM,al.out];rfl,by simp,rfl,rfl,Z,ao,zd.nil _ _ _,fun v az=>by simp at az,an⟩
 obtain⟨k,s,L,d,g,l,m,T,U,bl,rfl,a8,bn,F,bp,rfl,rfl,G,H,I,J,y⟩:=hrel;have M:=zC G;have A:=zC H;have N:=zC I;have O:=zC J;have P:=zC y;have h:=zC F;have bh:=y.size;have bi:L.length<=1048577:=by have ap:=K.2;have ar:=h.out;rw [ar,xg]at ap;omega
 by_cases ad:k<r
 ·obtain⟨b,o,rfl,a9,ak⟩:=X k ad
  have au:=(y.cell a9).trans ak;clear ak;have av:(k:Int)<r:=(by omega);have Q:=TQ (by rw [<- Y.out];exact ad);rw [Q]at h;by_cases R:zs.getD k 0=10
  ·rw [R]at au h
   rw [gl_br]at h;have B:=zC (zV wr 48 [.slice (some l) d.length m]);have f:=zC (A.alloc (.cells #[.slice (some l) d.length m] 48));clear G H I J y F Q R;go_wp2_with (at_builtin;refine xM _ rfl _ _ 83 rfl _ 48 af _ 1 24 underlying83 ag ah ai aj rfl (by decide) _ _ _ rfl f _ 1 1 _ rfl rfl B (by intro u E;simp at E;subst E;rfl) (by unfold maxLen;omega) (by omega) (by simp;omega) ?_;intro ac x j c _);have n:=(P.alloc (by omega) (.cells #[.slice (some l) d.length m] 48))
   have t:=zC (n.grown c (by simp;omega) (fun q a=>(A.lt q a).1));have p:=zC (yX (M.alloc _) f (by decide) c);have C:=zC ((N.frame (fun q _ a=>((xe _ wr).alloc lR _).block q (by omega))).kept f (by decide) c);obtain⟨ba,bc,rfl⟩:=Eg j;have D:=zC j;have bj:=t.size;have ab:=(by have:=c.size;simp at this;omega);clear j c n;have aw:=zC (t.alloc (by omega) (.cells #[] 21));have ax:=zC (Xt x 21);have bk:(x.alloc (.cells #[] 21)).heap.size=x.heap.size+1:=(by simp);go_wp2;go_roundw
   case rel=>
    refine⟨k+1,_,L++ [d],[],g++ [.slice (some l) d.length m],_,0,ba,bc,by omega,by go_num,by omega,by omega,by rw [h.out];simp,by simp,rfl,by simp,ax,?_,?_,O.snoc,aw⟩
    ·rw [xg];exact D.alloc _
    exact(C.snoc (zF p (by omega)) (fun q a=>(p.lt q a).1) (fun q a=>(p.lt q a).2) (by omega)).frame (fun q _ a=>((xe _ x).alloc lR _).block q a)
   simp [intOf];omega
  rw [gl_in _ _ _ R]at h;generalize zs.getD k 0=z at *;have B:=zC (zV wr 21 [.int .i32 z]);have f:=zC (M.alloc (.cells #[.int .i32 z] 21));clear G H I J y F Q;go_wp2_with (at_builtin;refine xM _ rfl _ _ 48 rfl s 21 a3 _ 1 4 underlying48 a4 a5 a6 a7 rfl (by decide) _ _ _ rfl f _ 1 1 _ rfl rfl B (zJ _ [z]) (by unfold maxLen;omega) (by omega) (by simp;omega) ?_;intro ac x j c _);have n:=(P.alloc (by omega) (.cells #[.int .i32 z] 21))
  have t:=zC (n.grown c (by simp;omega) (fun q a=>by have:=(f.lt q a).1;omega));have ay:=zC (yX (A.alloc _) f (by decide) c);have C:=zC (N.frame (fun q _ a=>(c.block q (by simp;omega) (fun e=>by have:=(f.lt q e.symm).1;omega)).trans (((xe _ wr).alloc lR _).block q (by omega))));rcases j.2 with ⟨_,q⟩ | ⟨bd,bf,bq,rfl,_⟩
  ·omega
  have D:=zC j;have ab:=(by have:=c.size;simp at this;omega);clear j c n;go_wp2;go_roundw
  case rel=>
   refine⟨_,s,L,_,g,⟨bd,0,none⟩,bf,T,U,by omega,by go_num,a8,by omega,h,by simp;omega,by simp,rfl,?_,ay,C,O,t⟩;rw [xg,zm];exact D
  simp [intOf];omega
 obtain rfl:k=r:=by omega
 have av:¬ (k:Int)<k:=by omega
 rw [vx (by rw [<- Y.out];omega),gl_nil]at h;have B:=zC (zV wr 48 [.slice (some l) d.length m]);have f:=zC (A.alloc (.cells #[.slice (some l) d.length m] 48));clear G H I J y F;go_wp2_with (at_builtin;refine xM _ rfl _ _ 83 rfl _ 48 af _ 1 24 underlying83 ag ah ai aj rfl (by decide) _ _ _ rfl f _ 1 1 _ rfl rfl B (by intro u E;simp at E;subst E;rfl) (by unfold maxLen;omega) (by omega) (by simp;omega) ?_;intro ac x j c _);have n:=(P.alloc (by omega) (.cells #[.slice (some l) d.length m] 48))
 have t:=zC (n.grown c (by simp;omega) (fun q a=>(A.lt q a).1));have p:=zC (yX (M.alloc _) f (by decide) c);have C:=zC ((N.frame (fun q _ a=>((xe _ wr).alloc lR _).block q (by omega))).kept f (by decide) c);have D:=zC j;have ab:=by have:=c.size;simp at this;omega
 clear j c n;go_wp2;go_ret;refine⟨_,rfl,g++ [.slice (some l) d.length m],?_,?_,O.snoc,t⟩
 ·rw [h.out,xg];exact D
 rw [h.out];exact C.snoc (zF p (by omega)) (fun q a=>(p.lt q a).1) (fun q a=>(p.lt q a).2) (by omega)
def rowsS(zs)(b o cap)(w)(h:∀a,a<zs.length->w.cell? (qP b (o+a))=some (.int .i32 (zs.getD a 0)))(i:b<w.heap.size)(j:zs.length<=1048576)(k:zs.length<=cap)(l:cap<=maxLen):
  Calls prog 36 #[qM (qD b o) zs.length cap] w λf c=>∃e d,f=qQ e/\c.ownsRow w.heap.size 48 1 e (yI zs).length d/\zd c w.heap.size c.heap.size d (yI zs)/\NN d/\qY w c:=zBi zs _ cap w (λa g=>⟨b,o,rfl,i,h a g⟩) j k l

import Derived.Test.YtljnflecikholaaGreatDoorMq25
set_option linter.all false
set_option maxRecDepth 100000
set_option maxHeartbeats 8000000
namespace Go.Proofs.YtljnflecikholaaGreatDoor
open Go Go.RowKit Go.Proofs.Tryz
section
open Go.Sort Go.BigFrame
def Dt:∀(c d)(b a),b+c.length<=d.length->(UQ d b c)[a]? =if b<=a/\a<b+c.length then c[a-b]? else d[a]?
 | [],d,b,a,_=>by unfold UQ;rw[xJ qH]
 | h::c,d,b,a,g=>by
  unfold UQ;simp at g |-;rw[Dt c _ _ a qJ];by_cases e:b+1<=a/\a<b+1+c.length
  ·rw[xS e,xS qF,show a-b=(a-(b+1))+1 by omega,List.getElem?_cons_succ]
  rw[xJ e];by_cases f:a=b
  ·subst f
   rw[xS qF,kh,List.getElem?_cons_zero,QF qF]
  rw[xJ qF,Qj qF]
def mid5(xs vs)(i j)(e:xs.length=40)(d:vs.length=5)(f:i<8):((UQ xs (i*5) vs).drop (j*5)).take 5=if j=i then vs else(xs.drop (j*5)).take 5:=by
 apply kZ;intro b;rw[vf,vJ,Dt vs xs _ _ qF,d];by_cases a:b<5
 ·rw[xS a]
  by_cases c:j=i
  ·simp_all
  rw[xJ c,xJ qF,vf,xS a,vJ]
 rw[xJ a]
 split
 ·simp_all
 rw[vf,xJ a]
section
variable {w w':World} {B s:Nat} {x:V7} {M:SS} {b0 b1 b2:Int} {ta:Option Addr} {tl tk:Nat}
def SM.snap{sb cap i}(a:SM w B s x M)(n:x.slv= .slice (qD sb 0) 8 cap)(z:i<8):St w B s {M with sl:=M.sl.set i (some ⟨M.tx,M.ms,M.un,M.re⟩)} (w.setCells sb (i*5) [.bool true,x.tv,x.mv,x.uv,x.rv]):=by
 obtain⟨o,j,A,C⟩:=a.sl;rw[n]at j;have d:=ZP [.bool true,x.tv,x.mv,x.uv,x.rv] (i*5) o w j;obtain⟨G,H,p⟩:=jr j (q:=sb) rfl;have D:=(j.lt sb rfl).1;generalize w.setCells sb _ _=u at *;have g:∀b,b<w.heap.size->b≠sb->u.heap[b]? =w.heap[b]?:=λb h v=>d.2.block b h (λf=>v (vU f))
 have c:=KT.at p (.inr (.inl rfl)) d.2.size g;have q:=a.blk;unfold S7 at q
 have r:s≠sb:=λf=>by
  simp_all
 obtain⟨ls,b1,b2⟩:=a.lg;have t:=j.1;refine⟨x,⟨(g s a.lt r).trans a.blk,a.tx.kt c,a.ms.kt c,a.un.kt c,a.re.kt c,a.gr.kt c,⟨_,by rw[n];exact d.1,by simpa using A,λl y e=>?_⟩,⟨ls,zD b1 (λb h=>g b (b1.lt b h).2 (λf=>?_)),b2.k32 c.k32⟩,a.bs,a.cp,a.ul⟩,⟨c,⟨d.2.os,d.2.tape,d.2.output,d.2.size,λb h=>g b (by have:=a.hB;omega) qF⟩,λb E F f=>g b (qZ.1 f).1 (λm=>?_)⟩⟩
 ·rw[mid5 o _ i l t rfl z]
  simp only[Qk]at e;by_cases k:i=l
  ·subst k
   rw[xS rfl]at e |-
   split at e
   ·cases e
    exact⟨_,_,_,_,rfl,a.tx.kt c,a.ms.kt c,a.un.kt c,a.re.kt c⟩
   cases e
  rw[xJ k]at e;rw[xJ (QS k)];exact(C l y e).kt c
 ·obtain⟨_,_,m⟩:=jr b1 h
  subst f;rw[p]at m;simp only[xE,kf]at m
  simp_all
 simp_all
def Ji:(∀{c d e k a b f g h j tk}(l:SM c d e k a)(m:a.op=true),A7 89 c d e 13 b f g (qM h j tk) 9 0 0 [] [] a)/\(∀{c d e k a b f g h j tk}(l:SM c d e k a)(m:a.op=false)(o:b<0),A7 89 c d e 13 b f g (qM h j tk) 11 0 0 [] [] a)/\(∀{c d e k a b f g h j tk}(l:SM c d e k a)(m:a.op=false)(o:8<=b),A7 89 c d e 13 b f g (qM h j tk) 11 0 0 [] [] a)/\(∀{c d e k a b f g h j tk}(l:SM c d e k a)(m:a.op=true),A7 89 c d e 14 b f g (qM h j tk) 9 0 0 [] [] a)/\(∀{c d e k a b f g h j tk}(l:SM c d e k a)(m:a.op=false)(o:b<0),A7 89 c d e 14 b f g (qM h j tk) 11 0 0 [] [] a)/\(∀{c d e k a b f g h j tk}(l:SM c d e k a)(m:a.op=false)(o:8<=b),A7 89 c d e 14 b f g (qM h j tk) 11 0 0 [] [] a):=by
 refine⟨@λc d e k a b f g h j tk l m=>have q:=zC xB;?_,@λc d e k a b f g h j tk l m o=>have q:=zC xB;have r:=zC xB;have p:=zC xB;?_,@λc d e k a b f g h j tk l m o=>have q:=zC xB;have s:=zC xB;have p:=zC xB;?_,@λc d e k a b f g h j tk l m=>?_,@λc d e k a b f g h j tk l m o=>have r:=zC xB;have p:=zC xB;?_,@λc d e k a b f g h j tk l m o=>have s:=zC xB;have p:=zC xB;?_⟩
 all_goals
  unfold A7
  first
   |(revert q;intro q;have n:=zC (Pr.start l (yp 13 b f g (qM h j tk))))
   |(have n:=zC (Pr.start l (yp 14 b f g (qM h j tk))))
  have t:=l.hB;clear l;go_enter func89,ntmps89;go_upto_region 1 with fail;generalize World.alloc _ _=A at *;obtain⟨v,w⟩:=n.out.sm;obtain⟨B,C,D,E,F,y,G,_⟩:=w.blk.c;rw[m]at y
  first
   |(revert s;intro s;have x:=c8 1 n.2.1;(have z:¬b<0:=by omega))
   |(revert r;intro r;have x:=c8 1 n.2.1)
   |(skip)
  clear w;have RR:=zC n.2.2
  first
   |(revert p;intro p;have u:=zC (n.fin0 (x0:=11) (x1:=0) (x2:=0) t))
   |(have u:=zC (n.fin0 (x0:=9) (x1:=0) (x2:=0) t))
  go_wp2_with (refine ZM RR ?_);exact jS results89 RR rfl u
def snapO7:=@Ji.1
def snapN7:=@Ji.2.1
def snapP7:=@Ji.2.2.1
def backO7:=@Ji.2.2.2.1
def backN7:=@Ji.2.2.2.2.1
def backP7:=@Ji.2.2.2.2.2
def snap7(c:Nat)(p:SM w B s x M)(D:M.op=false)(T:c<8):A7 89 w B s 13 c b1 b2 (qM ta tl tk) 0 0 0 [] [] {M with sl:=M.sl.set c (some ⟨M.tx,M.ms,M.un,M.re⟩)}:=by
 unfold A7;have h:=zC (Pr.start p (yp 13 c b1 b2 (qM ta tl tk)));have L:=p.hB;clear p;go_enter func89,ntmps89;go_upto_region 1 with fail;generalize World.alloc (World.alloc w _) _=j at *;have aj:=c7 (i:=0) h.2.1 rfl;obtain⟨E,d⟩:=h.out.sm;obtain⟨F,G,H,I,aw,U,ax,_⟩:=d.blk.c;rw[D]at U;clear D;obtain⟨⟨V,W,q⟩,⟨X,mk,r⟩,⟨Y,Z,t⟩,⟨aa,ab,u⟩,_⟩:=d.vs;have c8:=d.blk.c.2.2.2.2.2.2.2.2.1;obtain⟨ay,g,ac,ad⟩:=d.sl
 obtain⟨k,az,m,a0,ae⟩:∃k e,E.slv= .slice (qD k 0) 8 e/\8<=e/\e<=maxLen:=by
  rcases g.2 with ⟨_,i⟩ | ⟨af,e,a1,ag,_,_,ah,ai,_⟩
  ·omega
  exact⟨af,e,ag,ah,ai⟩
 have N:=zC (show ∀f,qY j f->f.there k (c*5) 5 from λf l Q av=>by
  have i:=zD g (λA R=>l.block A (g.lt A R).2);rw[m]at i
  exact⟨by rw[i.cellAt (c*5+Q) qF,xw (by rw[g.1];omega)];rfl,i.frozenAt _⟩)
 have v:=zC (λf(l:qY j f)=>(h.below l).step ((d.below l).snap m T));rw[q]at F;rw[r]at G;rw[t]at H;rw[u]at I;rw[m]at c8;simp only[q,r,t,u]at v;have O:=c7 (i:=1) h.2.1 rfl;have ak:=λa b=>cell_regrown F a b
 have al:=λa b=>cell_regrown G a b
 have am:=λa b=>cell_regrown H a b
 have an:=λa b=>cell_regrown I a b
 have ao:=λa b=>cell_regrown c8 a b
 have ap:=λa b=>cell_regrown O a b
 have aq:(c:Int)<8:=qF
 have ar:¬ (c:Int)<0:=qF
 clear d g ac ad q r t u m ae;go_upto_region 6 with fail;refine(vZ (n:=6)).1 ?_;refine zM 24 qI qI ?_;simp only[vc,vY,vE,vz]
 repeat (refine wpQuietIn_step (λ_ _ _ _=>trivial) (λS C=>?_);go_simp;first | (refine C _ ?_;clear C S))
 refine wpQuietIn_nil ?_;rintro _ ⟨⟨J,K⟩,rfl⟩;have y:=zC (below_regrown j J K);generalize grow (redrawn j J) K=o at *;refine XK rfl 207 _ _ rfl k (c*5) #[.bool true,qM V M.tx.length W,qM X M.ms.length mk,qM Y M.un.length Z,qM aa M.re.length ab] rfl rfl (N o y) qI (by simp[Value.oneCell']) ?_;have z:=zC (v o y);refine kl ?_;generalize World.setCells o _ _ _=au at *;gi_wp2_with fail;have RR:=zC z.2.2;have P:=zC (z.fin0 (x0:=0) (x1:=0) (x2:=0) L);go_wp2_with (refine ZM RR ?_);exact jS results89 RR rfl P
def OH:(∀{u B c V s G H I J tk}(a:Nat)(K:SM u B c V s)(W:s.op=false)(ak:a<8)(L:s.sl[a]?=some none),A7 89 u B c 14 a G H (qM I J tk) 11 0 0 [] [] s)/\(∀{u B c V s G H I J tk}(a:Nat)(t)(K:SM u B c V s)(W:s.op=false)(ak:a<8)(L:s.sl[a]?=some (some t))(a5:t.un.length<=s.cp)(a6:s.lg.length<1000000000),A7 89 u B c 14 a G H (qM I J tk) 0 0 0 [] [] {s with tx:=t.tx,ms:=t.ms,un:=t.un,re:=t.re,lg:=s.lg++ [⟨3,0,0,t.tx⟩]}):=by
 refine⟨@λu B c V s G H I J tk a K W ak L=>?_,@λu B c V s G H I J tk a t K W ak L a5 a6=>have y:=zC xB;?_⟩
 all_goals
  unfold A7;have P:=zC (Pr.start K (yp 14 a G H (qM I J tk)));have au:=K.hB;clear K;go_enter func89,ntmps89;go_upto_region 1 with fail;generalize World.alloc (World.alloc u _) _=z at *;have bx:=c7 (i:=0) P.2.1 rfl;obtain⟨an,C⟩:=P.out.sm;obtain⟨b9,ca,cb,cc,cd,bv,ce,_⟩:=C.blk.c;rw[W]at bv;clear W;have c8:=C.blk.c.2.2.2.2.2.2.2.2.1;obtain⟨ao,N,a7,ap⟩:=C.sl
  obtain⟨d,aq,ar,cf,a8⟩:∃d X,an.slv= .slice (qD d 0) 8 X/\8<=X/\X<=maxLen:=by
   rcases N.2 with ⟨_,cg⟩ | ⟨bw,X,ch,M,_,_,ab,ac,_⟩
   ·omega
   exact⟨bw,X,M,ab,ac⟩
  rw[ar]at N c8;have Y:=ap a _ L
  first
   |(revert y;intro y;skip
     obtain⟨o,e,f,g,h,i,j,k,l,m,p,q,r,ad,ae,a0,a1,a2,a3⟩:∃(o:Bool)(e:qW)(f g:Nat)(h:qW)(i j:Nat)(k:qW)(l m:Nat)(p:qW)(q r:Nat),(ao.drop (a*5)).take 5= [.bool o,qM e f g,qM h i j,qM k l m,qM p q r]/\o=true/\zT z 0 (qM e f g) t.tx/\zS z 0 (qM h i j) t.ms/\XH z (qM k l m) t.un/\XH z (qM p q r) t.re:=by
      obtain⟨ci,cj,ck,cl,M,ab,ac,a9,ba⟩:=Y;obtain⟨_,_,rfl⟩:=zX ab;obtain⟨_,_,rfl⟩:=ac.val;obtain⟨_,_,rfl⟩:=a9.val;obtain⟨_,_,rfl⟩:=ba.val
      exact⟨_,_,_,_,_,_,_,_,_,_,_,_,_,M,rfl,ab,ac,a9,ba⟩)
   |(obtain⟨o,e,f,g,h,i,j,k,l,m,p,q,r,ad,ae⟩:∃(o:Bool)(e:qW)(f g:Nat)(h:qW)(i j:Nat)(k:qW)(l m:Nat)(p:qW)(q r:Nat),(ao.drop (a*5)).take 5= [.bool o,qM e f g,qM h i j,qM k l m,qM p q r]/\o=false:=⟨_,_,_,_,_,_,_,_,_,_,_,_,_,Y,rfl⟩)
  have bk:=zC ae
  first | (revert y;intro y;have Z:=zC (And.intro a0 (And.intro a1 (And.intro a2 a3)))) | skip
  have af:∀v,v<5->ao[a*5+v]? = [Value.bool o,qM e f g,qM h i j,qM k l m,qM p q r][v]?:=λv al=>by
   rw[<- ad,vf,xS al,vJ]
  have A:∀v am,v<5-> [Value.bool o,qM e f g,qM h i j,qM k l m,qM p q r][v]?=some am->z.cell? (qP d (a*5+v))=some am:=λv am al M=>by rw[N.cellAt (a*5+v) qF,af v al];exact M
  have Q:=(N.lt d rfl).2;have bl:=C.lt;have bn:=c7 (i:=1) P.2.1 rfl;have bp:=(qZ.1 P.2.1).1;have av:=zC (show ∀b:qS,qY z b->(b.cell? (qP c 8)=some (qM (qD d 0) 8 aq)/\b.cell? (qP u.heap.size 1)=some (qC a)/\b.cell? (qP d (a*5))=some (.bool o)/\b.cell? (qP d (a*5+1))=some (qM e f g)/\b.cell? (qP d (a*5+2))=some (qM h i j)/\b.cell? (qP d (a*5+3))=some (qM k l m)/\b.cell? (qP d (a*5+4))=some (qM p q r))from λb w=>⟨(w.cell bl).trans c8,(w.cell bp).trans bn,(w.cell Q).trans (A 0 _ qF rfl),(w.cell Q).trans (A 1 _ qF rfl),(w.cell Q).trans (A 2 _ qF rfl),(w.cell Q).trans (A 3 _ qF rfl),(w.cell Q).trans (A 4 _ qF rfl)⟩);have bz:(a:Int)<8:=qF;have b0:¬ (a:Int)<0:=qF;have bq:=zC C
  first
   |(revert y;intro y;clear C N a7 ap Y ad af A ar a8 c8 L ae a0 a1 a2 a3)
   |(clear C N a7 ap Y ad af A ar a8 c8 L ae)
  go_upto_region 8 with fail;refine(vZ (n:=6)).1 ?_;refine Yp 9 (λb=>b.cell? (qP c 8)=some (qM (qD d 0) 8 aq)/\b.cell? (qP u.heap.size 1)=some (qC a)/\b.cell? (qP d (a*5))=some (.bool o)/\b.cell? (qP d (a*5+1))=some (qM e f g)/\b.cell? (qP d (a*5+2))=some (qM h i j)/\b.cell? (qP d (a*5+3))=some (qM k l m)/\b.cell? (qP d (a*5+4))=some (qM p q r)) qI ?_;refine te 0 (qO c 0) ?_ ?_
  ·intro b x;go_simp
  go_simp;refine te 1 (qO c 0) ?_ ?_
  ·intro b x;go_simp
  go_simp;refine te 2 (qO c 8) ?_ ?_
  ·intro b x;go_simp
  go_simp;refine te 3 (qM (qD d 0) 8 aq) ?_ ?_
  ·intro b x;obtain⟨bc,bd,bf,bg,bh,bi,bj⟩:=x;go_simp
  go_simp;refine te 4 (qO u.heap.size 1) ?_ ?_
  ·intro b x;go_simp
  go_simp;refine te 5 (qC a) ?_ ?_
  ·intro b x;obtain⟨bc,bd,bf,bg,bh,bi,bj⟩:=x;go_simp
  go_simp;refine te 6 (qO d (a*5)) ?_ ?_
  ·intro b x;go_simp
  go_simp;refine te 7 (.agg #[.bool o,qM e f g,qM h i j,qM k l m,qM p q r]) ?_ ?_
  ·intro b x;obtain⟨bc,bd,bf,bg,bh,bi,bj⟩:=x;go_simp
  go_simp;obtain⟨O,w⟩:∃b,b=z.drew:=⟨_,rfl⟩
  rw[<- w];have D:=zC (show qY z O from by rw[w];exact⟨rfl,rfl,rfl,lR,λ_ _=>rfl⟩);clear w;refine one 8 (av O D) ?_;gi_wp2_with fail;refine fin (av _ (D.alloc D.size _)) ?_;gi_wp2_with fail;have ag:=zC (D.alloc D.size (qR #[.bool o,qM e f g,qM h i j,qM k l m,qM p q r] 207));have E:=zC (show(O.alloc (qR #[.bool o,qM e f g,qM h i j,qM k l m,qM p q r] 207)).heap[O.heap.size]?=some (qR #[.bool o,qM e f g,qM h i j,qM k l m,qM p q r] 207 (0,0))from xI _ _);have b1:=D.size;generalize World.alloc O _=a4 at *;generalize O.heap.size=F at *;have ah:=zC (P.below ag);have R:=zC (bq.below ag);have br:=c7 (i:=0) E rfl;rw[bk.out]at br
  first
   |(revert y;intro y;skip
     have b2:=c7 (i:=1) E rfl;have b3:=c7 (i:=2) E rfl;have b4:=c7 (i:=3) E rfl;have b5:=c7 (i:=4) E rfl;have S:=KT.of ag;have T:=R.tx' (Z.1.kt S);have ai:=(Dn.set R 0 (qM e f g)).kt;have U:=T.ms' ((Z.2.1.kt S).kt ai);have D2:=ai.trans (Dn.set T 1 (qM h i j)).kt;have T3:=U.un' ((Z.2.2.1.kt S).kt D2) a5;have aw:=D2.trans (Dn.set U 2 (qM k l m)).kt;have aj:=T3.re' ((Z.2.2.2.kt S).kt aw);have bs:=zC ((((ah.step (St.set R T)).step (St.set T U)).step (St.set U T3)).step (St.set T3 aj));have ax:=zC aj;obtain⟨cm,cn,co,cp,_⟩:=R.out.blk.c;have b6:=R.blk.f;have aa:¬F=c:=qF;clear T U T3 aj ai D2 aw S;go_upto_region 15 with fail;have bt:=zC (show(World.setCell (World.setCell (World.setCell (World.setCell a4 (qP c 0) (qM e f g)) (qP c 1) (qM h i j)) (qP c 2) (qM k l m)) (qP c 3) (qM p q r)).heap[F]? =_ from((xj _ (qP c 3) F _ aa).trans ((xj _ (qP c 2) F _ aa).trans ((xj _ (qP c 1) F _ aa).trans (xj _ (qP c 0) F _ aa)))).trans E);generalize World.setCell (World.setCell (World.setCell (World.setCell a4 _ _) _ _) _ _) _ _=b8 at *;have b7:=c7 (i:=1) bt rfl;have bu:=zC (Id 3 0 0 _ t.tx ax (Uz.own ax.tx) (kG a6));go_wp2_with fail;refine bu.mono ?_;rintro M cq ⟨rfl,hst⟩;have ay:=zC (bs.step hst);clear hst;have RR:=zC ay.2.2
     have az:=zC (ay.fin0 (x0:=0) (x1:=0) (x2:=0) au))
   |(have RR:=zC ah.2.2;have az:=zC (ah.fin0 (x0:=11) (x1:=0) (x2:=0) au))
  go_wp2_with (refine ZM RR ?_);exact jS results89 RR rfl az
def backE7:=@OH.1
def back7:=@OH.2
end
def WR(b:List Mk)(a:Mk)(c:Int):Int:=
 if XF a=false then 12 else if yN b a.1=true then 5 else if decide (0<=a.2.1/\a.2.1<=c)=false then 2 else if decide (b.length<128)=false then 10 else 0
def set7(B)(xs)(v)(m)(len)(w)(c:zS w B v xs)(d:Vd xs)(g:xs.length<=1048576)(e:0<=len/\len<=8192):
  Calls prog 105 #[v,jX m,qC len] w λa w'=>∃k,a=qQ (.tuple #[k,qC (WR xs m len)])/\zS w' w.heap.size k (if WR xs m len=0 then Zi (xs++ [m])else [])/\qY w w':=by
 cases h1:XF m with
 | false=>
  have a:WR xs m len=12:=(by unfold WR;rw[xS h1]);rw[a,xJ qG];exact spVal B xs v m len w c g d e h1
 | true=>
  have f:¬XF m=false:=(by rw[h1];simp);cases h2:yN xs m.1 with
  | true=>
   have a:WR xs m len=5:=(by unfold WR;rw[xJ f,xS h2]);rw[a,xJ qG];exact spTaken B xs v m len w c g d e h1 h2
  | false=>
   have h:¬yN xs m.1=true:=(by rw[h2];simp);by_cases b:0<=m.2.1/\m.2.1<=len
   ·have j:¬decide (0<=m.2.1/\m.2.1<=len)=false:=by simpa using b
    by_cases i:xs.length<128
    ·have a:WR xs m len=0:=by unfold WR;rw[xJ f,xJ h,xJ j,xJ (by simpa using i)]
     rw[a,xS rfl];exact spOk B xs v m len w c d e h1 h2 b i
    have a:WR xs m len=10:=(by unfold WR;rw[xJ f,xJ h,xJ j,xS (by simpa using i)]);rw[a,xJ qG];exact spFull B xs v m len w c g d e h1 h2 b qF
   have a:WR xs m len=2:=(by unfold WR;rw[xJ f,xJ h,xS (by simpa using b)]);rw[a,xJ qG];exact spOff B xs v m len w c g d e h1 h2 b
section
variable {w w':World} {B s:Nat} {x:V7} {M:SS} {b0 b1 b2:Int} {ta:Option Addr} {tl tq:Nat}
def Rr:(∀{f l g v a b c d p q r}(s:SM f l g v a)(y:Vd a.ms)(z:a.ms.length<=1048576)(A:a.tx.length<=8192)(hst:WR a.ms (b,c,d) a.tx.length=0),A7 87 f l g 6 b c d (qM p q r) 0 0 0 [] [] {a with ms:=Zi (a.ms++ [(b,c,d)])})/\(∀{f l g v a b c d p q r}(t)(s:SM f l g v a)(y:Vd a.ms)(z:a.ms.length<=1048576)(A:a.tx.length<=8192)(hst:WR a.ms (b,c,d) a.tx.length=t)(M:¬t=0),A7 87 f l g 6 b c d (qM p q r) t 0 0 [] [] a):=by
 refine⟨@λf l g v a b c d p q r s y z A hst=>have Q:=zC xB;?_,@λf l g v a b c d p q r t s y z A hst M=>have j:=zC xB;?_⟩
 all_goals
  unfold A7;have k:=zC (Pr.start s (yp 6 b c d (qM p q r)));have R:=s.hB;clear s;go_enter func87,ntmps87;go_upto_region 1 with fail;generalize World.alloc _ _=L at *;have ap:=c8 0 k.2.1;obtain⟨ab,u⟩:=k.out.sm;obtain⟨B,C,av,aw,ax,ay,az,_⟩:=u.blk.c;obtain⟨⟨ak,al,ac⟩,⟨am,mk,N⟩,_⟩:=u.vs;rw[ac]at B;rw[N]at C;have G:=zC u.ms;rw[N]at G;have S:=u.lt;have T:=c8 1 k.2.1;have U:=c8 2 k.2.1;have z3:=c8 3 k.2.1;have H:=(qZ.1 k.2.1).1;obtain⟨D,E⟩:∃m,m=a.tx.length:=⟨_,rfl⟩
  obtain⟨an,ad⟩:∃m,m=a.ms.length:=⟨_,rfl⟩
  first
   |(revert j;intro j;(have o:=zC (show WR _ _ D=t by rw[E];exact hst)))
   |((have o:=zC (show WR _ _ D=0 by rw[E];exact hst)))
  rw[<- E]at B A;rw[<- ad]at C G;have ag:=zC (λai aj=>set7 0 _ _ (b,c,d) D ai (G.kt (KT.of aj)) y z ⟨qF,qF⟩);have V:=zC (show ∀e:qS,Below _ L e->(e.cell? _=some _/\e.cell? _=some _/\e.cell? _=some (.int _ b)/\e.cell? _=some (.int _ c)/\e.cell? _=some (.int _ d))from λe h=>⟨(h.cell S).trans B,(h.cell S).trans C,(h.cell H).trans T,(h.cell H).trans U,(h.cell H).trans z3⟩);have ah:=zC u;clear u ac N hst E ad B C T U z3;go_upto_region 2 with fail;refine(vZ (n:=6)).1 ?_;refine yf (λe=>e.cell? (qP g 0)=some (qM ak D al)/\e.cell? (qP g 1)=some (qM am an mk)/\e.cell? (qP f.heap.size 1)=some (qC b)/\e.cell? (qP f.heap.size 2)=some (qC c)/\e.cell? (qP f.heap.size 3)=some (qC d)) qI ?_;refine zi 0 _ ?_;go_simp;refine zi 1 _ ?_;go_simp;refine zi 2 _ ?_;go_simp;refine zi 3 _ ?_;go_simp;refine zi 4 _ ?_;go_simp;refine zi 5 _ ?_;go_simp;refine zi 6 _ ?_;go_simp;refine zi 7 _ ?_;go_simp;refine zi 8 _ ?_;go_simp;refine zi 9 _ ?_;go_simp;refine zi 10 _ ?_;go_simp;refine zi 11 _ ?_;go_simp;refine zi 12 _ ?_;go_simp;refine zi 13 _ ?_;go_simp;refine zi 14 _ ?_;go_simp;refine zi 15 _ ?_;go_simp;obtain⟨O,h⟩:∃e,e=L.drew:=⟨_,rfl⟩
  rw[<- h];have w:=zC (show qY L O from by rw[h];exact⟨rfl,rfl,rfl,lR,λ_ _=>rfl⟩);clear h;have I:=zC (ag O w);unfold jX at I;refine on 16 (V O w) ?_;gi_wp2_with fail;refine⟨xB,(vn.2 I).mono ?_⟩;rintro a0 ae ⟨a1,rfl,F,af⟩;rw[o.out]at F;have J:=zC (w.trans (af.mono w.size));obtain⟨a2,a3,rfl⟩:=F.val;have W:=zC F
  first
   |(revert j;intro j;obtain⟨ao,P⟩:∃m,m=(if t=0 then Zi (a.ms++ [(b,c,d)])else []).length:=⟨_,rfl⟩)
   |(obtain⟨ao,P⟩:∃m,m=(if 0=(0:Int)then Zi (a.ms++ [(b,c,d)])else []).length:=⟨_,rfl⟩)
  rw[<- P]at W |-;clear F af I P;generalize Z:WR _ _ _=aa at *;gi_wp2_with fail;refine zi 17 _ ?_;go_simp;refine zi 18 _ ?_;go_simp;refine zi 19 _ ?_;go_simp;refine zi 20 _ ?_;go_simp;refine zi 21 _ ?_;go_simp;refine ZA qI (V _ J) ?_ _
  first
   |(revert j;intro j;obtain rfl:=o.out)
   |(obtain rfl:=o.out)
  have K:=zC (k.below J)
  first
   |(revert Q;intro Q;have x:=zC (ah.below J);have T3:=x.ms' (zS.base (show zS ae _ _ (Zi (a.ms++ [(b,c,d)]))from W) (xK _));have X:=zC (K.step (St.set x T3));have aq:=x.blk.c.2.1;have j:=x.blk.f 1;clear T3 o Z;go_upto_region 5 with fail;generalize World.setCell ae _ _=au at *;have RR:=zC X.2.2;have Y:=zC (X.fin0 (x0:=0) (x1:=0) (x2:=0) R))
   |((have ar:(aa==0)=false:=by simpa using M);clear o Z M;have RR:=zC K.2.2;have Y:=zC (K.fin0 (x0:=aa) (x1:=0) (x2:=0) R))
  go_wp2_with (refine ZM RR ?_);exact jS results87 RR rfl Y
def mark7:=@Rr.1
def markN7:=@Rr.2
end
section
variable {w w':World} {B s:Nat} {x:V7} {M:SS} {b0 b1 b2:Int} {ta:Option Addr} {tl tq:Nat}
def Wh:(∀{l o d A b h r s t u v}(B:SM l o d A b)(G:b.ms.length<=1048576)(E:yJ h b.ms 0= -1),A7 87 l o d 8 h r s (qM t u v) 4 0 0 [] [] b)/\(∀{l o d A b h r s t u v}(B:SM l o d A b)(G:b.ms.length<=1048576)(E:yJ h b.ms 0= -1),A7 87 l o d 7 h r s (qM t u v) 4 0 0 [] [] b)/\(∀{l o d A b h r s t u v}(a:Nat)(c)(B:SM l o d A b)(G:b.ms.length<=1048576)(E:yJ h b.ms 0=a)(w:b.ms[a]?=some c),A7 87 l o d 8 h r s (qM t u v) 0 c.2.1 c.2.2 [] [] b)/\(∀{l o d A b h r s t u v}(a:Nat)(c)(B:SM l o d A b)(G:b.ms.length<=1048576)(E:yJ h b.ms 0=a)(w:b.ms[a]?=some c),A7 87 l o d 7 h r s (qM t u v) 0 c.2.1 0 [] [] {b with ms:=b.ms.take a++b.ms.drop (a+1)}):=by
 refine⟨@λl o d A b h r s t u v B G E=>have I:=zC xB;?_,@λl o d A b h r s t u v B G E=>?_,@λl o d A b h r s t u v a c B G E w=>have I:=zC xB;have bp:=zC xB;?_,@λl o d A b h r s t u v a c B G E w=>have bq:=zC xB;?_⟩
 all_goals
  unfold A7
  first
   |(revert I;intro I;have S:=zC (Pr.start B (yp 8 h r s (qM t u v))))
   |(have S:=zC (Pr.start B (yp 7 h r s (qM t u v))))
  have af:=B.hB;clear B;go_enter func87,ntmps87;go_upto_region 1 with fail;generalize World.alloc (World.alloc l _) _=b4 at *;have c5:=c8 0 S.2.1;obtain⟨ap,ac⟩:=S.out.sm;obtain⟨dh,ad,di,dj,dk,dl,dm,_⟩:=ac.blk.c;obtain⟨_,⟨bd,mk,bf⟩,_⟩:=ac.vs;rw[bf]at ad;have J:=zC ac.ms;rw[bf]at J;have cg:=c8 1 S.2.1;obtain⟨e,bg⟩:∃a7,a7=b.ms.length:=⟨_,rfl⟩
  have D:=zC bg;rw[<- bg]at ad J G;have AT:=zC (λg aa=>at7 g.heap.size b.ms (qM bd e mk) h g (J.kt (KT.of aa)).rd lR qF);rw[E]at AT;have ch:=λa8 a9=>cell_regrown ad a8 a9
  have ci:=λa8 a9=>cell_regrown cg a8 a9
  have ag:=zC ac;clear ac bf bg E;go_upto_region 6 with fail;refine(vZ (n:=6)).1 ?_;refine zM 6 qI qI ?_;simp only[vc,vY,vE,vz]
  repeat (refine wpQuietIn_step (λ_ _ _ _=>trivial) (λcy b5=>?_);go_simp;first | (refine b5 _ ?_;clear b5 cy))
  refine wpQuietIn_nil ?_;rintro _ ⟨⟨b6,b7⟩,rfl⟩;have ah:=zC (below_regrown b4 b6 b7);generalize grow (redrawn b4 b6) b7=cw at *;have br:=zC (AT cw ah);gi_wp2_with fail;refine⟨xB,(vn.2 br).mono ?_⟩;rintro C k ⟨rfl,b8⟩;have K:=zC (ah.trans (b8.mono ah.size));have T:=zC (S.below K);clear ch ci b8 br AT ah;gi_wp2_with fail
  first
   |(revert bq;intro bq;skip
     obtain⟨m,p,ae,b9,aq⟩:∃M p,Value.slice bd e mk= .slice (qD M 0) e p/\e<=p/\p<=maxLen:=by
      rcases J.out.shape with ⟨_,f⟩ | ⟨M,p,C,c1,bh,_⟩
      ·simp_all
      exact⟨M,p,by rw[C,D.out],by simp_all,bh⟩
     simp at ae;obtain⟨rfl,rfl⟩:=ae;have ai:=zC (ag.below K);have F:=zC (by have f:=J.kt (KT.of K);unfold zS at f;rw[<- D.out]at f;exact f);have cj:a<e:=(by rw[D.out];exact(xp.1 w).1);have ar:k.cell? (qP m (a*3))=some (qC c.1):=(by have f:=F.cellAt (a*3+0) qF;rw[yG _ a 0 c w qF]at f;exact f);have au:k.cell? (qP m (a*3+1))=some (qC c.2.1):=(by rw[F.out.cellAt (a*3+1) qF,yG _ a 1 c w qF];rfl);have av:k.cell? (qP m (a*3+2))=some (qC c.2.2):=(by rw[F.out.cellAt (a*3+2) qF,yG _ a 2 c w qF];rfl);have aj:=(K.cell ag.lt).trans ad;have ck:(a:Int)<e:=qF;have cl:¬ (a:Int)<0:=qF;have BM:=zC ((xe k.heap.size k).alloc lR (qR #[qC c.1,qC c.2.1,qC c.2.2] 166));have U:=zC (show(k.alloc (qR #[qC c.1,qC c.2.1,qC c.2.2] 166)).heap[k.heap.size]?=some (qR #[qC c.1,qC c.2.1,qC c.2.2] 166 (0,0))from xI _ _);have bs:=ai.lt;have cm:=zC w;have O:=zC (T.below BM);have bt:=zC (ai.below BM);have ak:=zC (zE F BM lR);have aw:=(BM.cell bs).trans aj;unfold maxLen at aq;clear w;go_upto_region 10 with fail;generalize World.alloc k _=q at *;generalize k.heap.size=ao at *;have bu:=c8 0 O.2.1;have ax:=c8 1 U;clear ar au av aj;obtain⟨bi,bj,bk,bl,bn⟩:=vw Tryz.qh
     have bv:=zC (show zY b.ms=zY (b.ms.take a)++(Y3 c++zY (b.ms.drop (a+1)))by
      have f:=xp.1 cm
      conv=>lhs;rw[<- vy a b.ms,vN f.1,f.2]
      rw[jo];rfl)
     have ay:(zY (b.ms.take a)).length=a*3:=(by rw[zN,xi,vu (by rw[<- D.out];omega)]);have bw:(zY (b.ms.drop (a+1))).length=(e-(a+1))*3:=by rw[zN,xz,D.out]
     have CL:=zC (show ∀g,qY q g->∀j x,(zY (b.ms.take a))[j]?=some x->g.cell? (((qP m 0):Addr).add j)=some x from λg aa j x N=>by
      have bx:=(xp.1 N).1
      rw[yF,xX,aa.cell (ak.out.lt m rfl).2,ak.out.cellAt j qF,bv.out,xW bx];exact N)
     have cn:=zC (show ∀g,qY q g->∀j x,(zY (b.ms.drop (a+1)))[j]?=some x->g.cell? ((⟨m,(a+1)*3,none⟩:Addr).add j)=some x from λg aa j x N=>by
      have bx:=(xp.1 N).1;rw[yF,aa.cell (ak.out.lt m rfl).2,ak.out.cellAt ((a+1)*3+j) qF,bv.out,vb qF,ay,vb (by simp[Y3];omega)]
      rw[show(a+1)*3+j-a*3-(Y3 c).length=j by simp[Y3];omega];exact N)
     have az:=zC ((xe q.heap.size q).alloc lR (qR #[] 166));have co:=zC (show(q.alloc (qR #[] 166)).ownsRow q.heap.size 166 3 (qM (qD q.heap.size 0) 0 0) 0 []from kr q #[] 0 lR (xK _) rfl);have bz:=bt.lt;have c6:a<=mk:=qF;have a0:=zC (And.intro ay bw);have cp:=zC (zu (b.ms.take a));have b0:=zC (zu (b.ms.drop (a+1)));clear ay bw;go_upto_region 13 with (at_builtin;refine wpList_append_own_at _ rfl _ _ 49 rfl q.heap.size 166 bi (.agg #[qC 0,qC 0,qC 0]) 3 24 underlying49 bj bk bl bn rfl qG (qM (qD q.heap.size 0) 0 0) 0 [] rfl (co) (qP m 0) a mk (zY (b.ms.take a)) rfl (a0.1) (CL _ az) (cp) qK qF qH ?_;intro b2 W a6 b3 _ _)
     have P:=zC (az.grown b3 az.size (λH ba=>by simp only[Value.ownBlock,xE]at ba;omega));have al:=zC (by rw[xX,vq]at a6;exact a6);have da:=(P.cell bz).trans aw;obtain⟨y,ca⟩:∃a7,a7=a+1:=⟨_,rfl⟩
     have a1:=zC ca;have db:IntKind.i64.wrap (a+1)=y:=(by rw[vA];omega);have dc:y<=e:=qF;have dd:y<=mk:=qF;have de:(y:Int)<=e:=qF;have cq:¬ao=d:=by have:=T.out;omega
     have b1:=zC (show ∀g R,W.grownBy g b2.ownBlock->g.ownsRow q.heap.size 166 3 R (a+(e-y)) (zY (b.ms.take a)++zY (b.ms.drop (a+1)))->Pr l o d (yp 7 h r s (qM t u v)) {b with ms:=b.ms.take a++b.ms.drop (a+1)} (g.setCell (qP d 1) R)/\g.cell? (qP d 1)=some (qM (qD m 0) e mk)/\g.frozen? (qP d 1)=false/\(g.setCell (qP d 1) R).cell? (qP ao 1)=some (qC c.2.1)from λg R cz c0=>by
      have cr:=(xe q.heap.size W).grown cz P.size (λH ba=>(al.lt H ba).1);have am:=P.trans cr;have a2:=bt.below am
      have cs:zS g 0 R (b.ms.take a++b.ms.drop (a+1)):=by
       unfold zS;rw[jo,show(b.ms.take a++b.ms.drop (a+1)).length=a+(e-y)by rw[xg,xi,xz,<- D.out];omega];exact zF c0 (xK _)
      refine⟨(O.below am).step (St.set a2 (a2.ms' cs)),(am.cell bz).trans aw,a2.blk.f 1,?_⟩
      exact(xq (xj g (qP d 1) ao R cq)).trans ((am.cell (qZ.1 U).1).trans ax))
     clear a6 b3 aw ca bu ax
     obtain⟨cb,cc,rfl⟩:∃ab H,b2= .slice ab a H:=by
      rcases al.out.2 with ⟨C,cd⟩ | ⟨ce,p,cf,C,_⟩
      ·simp_all
      exact⟨_,_,C⟩
     by_cases cv:mk=y
     ·have ct:e=y:=qF
      have an:=zC (show(zY (b.ms.drop (a+1))).length=0*3 by rw[a0.out.2,<- a1.out];omega);have a3:=zC (show ∀j x,(zY (b.ms.drop (a+1)))[j]?=some x->W.cell? (((qP m 0):Addr).add j)=some x from λj x N=>by have f:=(xp.1 N).1;rw[an.out]at f;omega);have df:=zC (show a+(e-y)=a+0 by omega);subst cv;subst ct;go_upto_region 14 with (at_builtin;refine wpList_append_own_at _ rfl _ _ 49 rfl q.heap.size 166 bi (.agg #[qC 0,qC 0,qC 0]) 3 24 underlying49 bj bk bl bn rfl qG (qM cb a cc) a (zY (b.ms.take a)) rfl (al) (qP m 0) 0 0 (zY (b.ms.drop (a+1))) rfl (an) (a3) (b0) qK qF (by have:=P.size;omega) ?_;intro X Y Q Z _ _;have z:=zC (b1 Y X Z (by simp_all));have a4:=z.2.1;have I:=z.2.2.1;have a5:∃ab H bc,X= .slice ab bc H:=(by rcases Q.2 with ⟨C,cd⟩ | ⟨ce,p,cf,C,_⟩;simp_all;simp_all);obtain⟨c2,c3,c4,rfl⟩:=a5;clear Q Z)
      have V:=zC z.1;have cu:=z.2.2.2;clear a4 I z;generalize World.setCell Y _ _=cx at *;have RR:=zC V.2.2;have L:=zC (V.fin0 (x0:=0) (x1:=c.2.1) (x2:=0) af);go_wp2_with (refine ZM RR ?_);exact jS results87 RR rfl L
     have an:=zC (show(zY (b.ms.drop (a+1))).length=(e-y)*3 by rw[a0.out.2,<- a1.out]);have a3:=zC (show ∀j x,(zY (b.ms.drop (a+1)))[j]?=some x->W.cell? (((qP m (y*3)):Addr).add j)=some x from by rw[a1.out];exact cn W P);go_upto_region 14 with (at_builtin;refine wpList_append_own_at _ rfl _ _ 49 rfl q.heap.size 166 bi (.agg #[qC 0,qC 0,qC 0]) 3 24 underlying49 bj bk bl bn rfl qG (qM cb a cc) a (zY (b.ms.take a)) rfl (al) (qP m (y*3)) (e-y) (mk-y) (zY (b.ms.drop (a+1))) rfl (an) (a3) (b0) qK qF (by have:=P.size;omega) ?_;intro X Y Q Z _ _;have z:=zC (b1 Y X Z (Q));have a4:=z.2.1;have I:=z.2.2.1;have a5:∃ab H bc,X= .slice ab bc H:=(by rcases Q.2 with ⟨C,cd⟩ | ⟨ce,p,cf,C,_⟩;simp_all;simp_all);obtain⟨c2,c3,c4,rfl⟩:=a5;clear Q Z)
     have V:=zC z.1;have cu:=z.2.2.2;clear a4 I z;generalize World.setCell Y _ _=cx at *;have RR:=zC V.2.2;have L:=zC (V.fin0 (x0:=0) (x1:=c.2.1) (x2:=0) af);go_wp2_with (refine ZM RR ?_)
     exact jS results87 RR rfl L)
   |(revert bp;intro bp;skip
     obtain⟨m,p,ae,b9,aq⟩:∃M p,Value.slice bd e mk= .slice (qD M 0) e p/\e<=p/\p<=maxLen:=by
      rcases J.out.shape with ⟨_,f⟩ | ⟨M,p,C,c1,bh,_⟩
      ·simp_all
      exact⟨M,p,by rw[C,D.out],by simp_all,bh⟩
     simp at ae;obtain⟨rfl,rfl⟩:=ae;have ai:=zC (ag.below K);have F:=zC (by have f:=J.kt (KT.of K);unfold zS at f;rw[<- D.out]at f;exact f);have cj:a<e:=(by rw[D.out];exact(xp.1 w).1);have ar:k.cell? (qP m (a*3))=some (qC c.1):=(by have f:=F.cellAt (a*3+0) qF;rw[yG _ a 0 c w qF]at f;exact f);have au:k.cell? (qP m (a*3+1))=some (qC c.2.1):=(by rw[F.out.cellAt (a*3+1) qF,yG _ a 1 c w qF];rfl);have av:k.cell? (qP m (a*3+2))=some (qC c.2.2):=(by rw[F.out.cellAt (a*3+2) qF,yG _ a 2 c w qF];rfl);have aj:=(K.cell ag.lt).trans ad;have ck:(a:Int)<e:=qF;have cl:¬ (a:Int)<0:=qF;have BM:=zC ((xe k.heap.size k).alloc lR (qR #[qC c.1,qC c.2.1,qC c.2.2] 166));have U:=zC (show(k.alloc (qR #[qC c.1,qC c.2.1,qC c.2.2] 166)).heap[k.heap.size]?=some (qR #[qC c.1,qC c.2.1,qC c.2.2] 166 (0,0))from xI _ _);have bs:=ai.lt;have O:=zC (T.below BM);unfold maxLen at aq;clear w;go_upto_region 10 with fail;generalize World.alloc k _=q at *;generalize k.heap.size=ao at *;have bu:=c8 0 O.2.1;have ax:=c8 1 U;have dg:=c8 2 U;clear ar au av aj;have RR:=zC O.2.2;have L:=zC (O.fin0 (x0:=0) (x1:=c.2.1) (x2:=c.2.2) af);clear b9 aq;go_wp2_with (refine ZM RR ?_)
     exact jS results87 RR rfl L)
   |(have RR:=zC T.2.2;have L:=zC (T.fin0 (x0:=4) (x1:=0) (x2:=0) af);go_wp2_with (refine ZM RR ?_);exact jS results87 RR rfl L)
def lookN7:=@Wh.1
def dropN7:=@Wh.2.1
def look7:=@Wh.2.2.1
def drop7:=@Wh.2.2.2
end
section
variable {w w':World} {B s:Nat} {x:V7} {M:SS} {b0 b1 b2:Int} {ta:Option Addr} {tl tq:Nat}
theorem XW:(∀ {w} {a} {b} {x} {M} {b0} {b1} {b2} {ta} {tl} {tq} (c:SM w a b x M) (e:b0<0),A7 86 w a b 1 b0 b1 b2 (.slice ta tl tq) 2 0 0 [] [] M)∧(∀ {w} {a} {b} {x} {M} {b0:Int} {b1} {b2} {ta} {tl} {tq} (c:SM w a b x M) (e:M.tx.length<b0),A7 86 w a b 1 b0 b1 b2 (.slice ta tl tq) 2 0 0 [] [] M)∧(∀ {w} {a} {b} {x} {M} {b0} {b1} {b2} {ta} {tl} {tq} (c:SM w a b x M) (e:b0<0),A7 86 w a b 4 b0 b1 b2 (.slice ta tl tq) 2 0 0 [] [] M)∧(∀ {w} {a} {b} {x} {M} {b0:Int} {b1} {b2} {ta} {tl} {tq} (c:SM w a b x M) (e:M.tx.length<b0),A7 86 w a b 4 b0 b1 b2 (.slice ta tl tq) 2 0 0 [] [] M)∧(∀ {w} {a} {b} {x} {M} {b0} {b1} {b2} {ta} {tl} {tq} (c:SM w a b x M) (e:b0<0),A7 86 w a b 2 b0 b1 b2 (.slice ta tl tq) 2 0 0 [] [] M)∧(∀ {w} {a} {b} {x} {M} {b0} {b1} {b2} {ta} {tl} {tq} (c:SM w a b x M) (e:0<=b0) (hc:b1<b0),A7 86 w a b 2 b0 b1 b2 (.slice ta tl tq) 2 0 0 [] [] M)∧(∀ {w} {a} {b} {x} {M} {b0} {b1:Int} {b2} {ta} {tl} {tq} (c:SM w a b x M) (e:0<=b0) (hc:b0<=b1) (p:M.tx.length<b1),A7 86 w a b 2 b0 b1 b2 (.slice ta tl tq) 2 0 0 [] [] M):=by
 refine⟨@fun w a b x M b0 b1 b2 ta tl tq c e=>have g1:=zC xB;?_,@fun w a b x M b0 b1 b2 ta tl tq c e=>have g1:=zC xB;have k:=zC xB;?_,@fun w a b x M b0 b1 b2 ta tl tq c e=>have l:=zC xB;?_,@fun w a b x M b0 b1 b2 ta tl tq c e=>have l:=zC xB;have k:=zC xB;?_,@fun w a b x M b0 b1 b2 ta tl tq c e=>?_,@fun w a b x M b0 b1 b2 ta tl tq c e hc=>have m:=zC xB;?_,@fun w a b x M b0 b1 b2 ta tl tq c e hc p=>have n:=zC xB;?_⟩
 all_goals
  unfold A7
  first
   |(revert g1;intro g1;have d:=zC (Pr.start c (yp 1 b0 b1 b2 (.slice ta tl tq))))
   |(revert l;intro l;have d:=zC (Pr.start c (yp 4 b0 b1 b2 (.slice ta tl tq))))
   |(have d:=zC (Pr.start c (yp 2 b0 b1 b2 (.slice ta tl tq))))
  have h:=c.hB;clear c;go_enter func86,ntmps86
  go_upto_region 1 with fail
  generalize World.alloc _ _=z at *;have s:=c7 (i:=0) d.out.2.1 rfl;obtain⟨x1,j⟩:=d.out.sm;obtain⟨q,r,A,B,C,D,E,_⟩:=j.blk.c;obtain⟨⟨G,H,f⟩,⟨ma,mk,g⟩,_⟩:=j.vs;rw [f]at q;rw [g]at r;have t:=c7 (i:=1) d.out.2.1 rfl;have u:=c7 (i:=2) d.out.2.1 rfl
  first
   |(revert n;intro n;skip
     have o:¬b0<0:=by omega
     have v:¬b1<b0:=by omega
     by_cases y:M.tx.length<b0
     all_goals
      clear f g;have RR:=zC d.out.2.2;have F:=zC (d.out.fin0 (x0:=2) (x1:=0) (x2:=0) h);go_wp2_with (refine ZM RR.out ?_)
      exact jS results86 RR.out rfl F.out)
   |(revert m;intro m;skip
     have o:¬b0<0:=by omega
     by_cases p:M.tx.length<b0
     all_goals
      clear f g;have RR:=zC d.out.2.2;have F:=zC (d.out.fin0 (x0:=2) (x1:=0) (x2:=0) h);go_wp2_with (refine ZM RR.out ?_)
      exact jS results86 RR.out rfl F.out)
   |(revert k;intro k;(have o:¬b0<0:=by omega);clear j f g;have RR:=zC d.out.2.2;have F:=zC (d.out.fin0 (x0:=2) (x1:=0) (x2:=0) h);go_wp2_with (refine ZM RR.out ?_);exact jS results86 RR.out rfl F.out)
   |(clear j f g;have RR:=zC d.out.2.2;have F:=zC (d.out.fin0 (x0:=2) (x1:=0) (x2:=0) h);go_wp2_with (refine ZM RR.out ?_);exact jS results86 RR.out rfl F.out)
def insN7:=@XW.1
def insP7:=@XW.2.1
def lcN7:=@XW.2.2.1
def lcP7:=@XW.2.2.2.1
def delN7:=@XW.2.2.2.2.1
def delQ7:=@XW.2.2.2.2.2.1
def delP7:=@XW.2.2.2.2.2.2
def Gg:(∀{d e f m b a c h j k l}(n:SM d e f m b)(p:a<0),A7 86 d e f 3 a c h (qM j k l) 2 0 0 [] [] b)/\(∀{d e f m b a c h j k l}(n:SM d e f m b)(p:0<=a)(t:c<a),A7 86 d e f 3 a c h (qM j k l) 2 0 0 [] [] b)/\(∀{d e f m b a}{c:Int}{h j k l}(n:SM d e f m b)(p:0<=a)(t:a<=c)(y:b.tx.length<c),A7 86 d e f 3 a c h (qM j k l) 2 0 0 [] [] b):=by
 refine⟨@λd e f m b a c h j k l n p=>?_,@λd e f m b a c h j k l n p t=>have w:=zC xB;?_,@λd e f m b a c h j k l n p t y=>have x:=zC xB;?_⟩
 all_goals
  unfold A7;have g:=zC (Pr.start n (yp 3 a c h (qM j k l)));have s:=n.hB;clear n;go_enter func86,ntmps86;go_upto_region 1 with fail;generalize World.alloc _ _=H at *;have C:=c8 0 g.2.1;obtain⟨u,v⟩:=g.out.sm;obtain⟨A,B,I,J,K,L,M,_⟩:=v.blk.c;obtain⟨⟨N,O,q⟩,⟨P,mk,r⟩,_⟩:=v.vs;rw[q]at A;rw[r]at B;have D:=c8 1 g.2.1;have E:=c8 2 g.2.1
  first
   |(revert x;intro x;skip
     have z:¬a<0:=qF;have F:¬c<a:=qF;by_cases G:b.tx.length<a
     all_goals
      clear q r;have RR:=zC g.2.2;have o:=zC (g.fin0 (x0:=2) (x1:=0) (x2:=0) s);go_wp2_with (refine ZM RR ?_)
      exact jS results86 RR rfl o)
   |(revert w;intro w;skip
     have z:¬a<0:=qF;by_cases y:b.tx.length<a
     all_goals
      clear q r;have RR:=zC g.2.2;have o:=zC (g.fin0 (x0:=2) (x1:=0) (x2:=0) s);go_wp2_with (refine ZM RR ?_)
      exact jS results86 RR rfl o)
   |(clear v q r;have RR:=zC g.2.2;have o:=zC (g.fin0 (x0:=2) (x1:=0) (x2:=0) s);go_wp2_with (refine ZM RR ?_);exact jS results86 RR rfl o)
def sliN7:=@Gg.1
def sliQ7:=@Gg.2.1
def sliP7:=@Gg.2.2
end
section
variable {w w':World} {B s:Nat} {x:V7} {M:SS} {b0 b1 b2:Int} {ta:Option Addr} {tl tq:Nat}
def U3(w)(op):qY w ((w.alloc (qR op 63)).alloc (qR (yg 0 0 0 qN qN) 81)):=((xe _ w).alloc lR _).alloc qH _
def insE7(a)(bs)(j:SM w B s x M)(o:∀c,qY w c->Rd .u8 c (qM ta tl tq) bs)(p:bytes bs)(q:bs.length<=1048576)(K:a<=M.tx.length)(k:ye bs= []):A7 86 w B s 1 a b1 b2 (qM ta tl tq) 0 0 0 [] [] M:=by
 unfold A7;have b:=zC (Pr.start j (yp 1 a b1 b2 (qM ta tl tq)));have C:=zC (U3 w (yp 1 a b1 b2 (qM ta tl tq)));have D:=j.hB;clear j;go_enter func86,ntmps86;go_upto_region 1 with fail;generalize World.alloc _ _=H at *;have R:=c8 0 b.2.1;obtain⟨L,d⟩:=b.out.sm;obtain⟨r,N,W,X,Y,Z,aa,_⟩:=d.blk.c;obtain⟨⟨ab,ac,t⟩,⟨ad,mk,u⟩,_⟩:=d.vs;rw[t]at r;rw[u]at N;have S:=c8 1 b.2.1;have T:=c8 4 b.2.1;have l:=zC (λc I=>Il bs _ c (o c I) p q);obtain⟨g,v⟩:∃g,g=M.tx.length:=⟨_,rfl⟩
 rw[<- v]at r K;have U:¬ (a:Int)<0:=qF
 have V:¬ (g:Int)<a:=qF
 have E:=zC d;have m:=zC (l H C);clear d t u v o p q l;go_wp2_with fail;refine m.mono ?_;rintro ae O ⟨P,rfl,y,z⟩;have f:=zC (show zT O 0 P _ from zF y (xK _));obtain⟨af,ag,rfl⟩:=zX f;have n:=zC (b.below z);obtain⟨Q,A⟩:∃J,J=ye bs:=⟨_,rfl⟩
 rw[<- A]at f k |-;obtain⟨h,e⟩:∃h,h=Q.length:=⟨_,rfl⟩
 have HM:=zC e;have F:h=0:=by rw[e,k];rfl
 rw[<- e]at f |-;clear y z m A e E;subst F;clear k;have RR:=zC n.2.2;have G:=zC (n.fin0 (x0:=0) (x1:=0) (x2:=0) D);go_wp2_with (refine ZM RR ?_);exact jS results86 RR rfl G
def Gh:(∀{d k l m b n o e f g}(c)(a)(t:SM d k l m b)(w:∀j,qY d j->Rd .u8 j (qM e f g) a)(x:bytes a)(y:a.length<=1048576)(u:c<=b.tx.length)(p:0<(ye a).length)(q:b.tx.length<=8192)(M:(ye a).length<=1048576)(h:8192<b.tx.length+(ye a).length),A7 86 d k l 1 c n o (qM e f g) 10 0 0 [] [] b)/\(∀{d k l m b n o e f g}(c)(a)(t:SM d k l m b)(w:∀j,qY d j->Rd .u8 j (qM e f g) a)(x:bytes a)(y:a.length<=1048576)(u:c<=b.tx.length)(p:0<(ye a).length)(q:b.tx.length+(ye a).length<=8192)(E:b.sp<=200000)(h:¬b.sp+(ye a).length<=200000),A7 86 d k l 1 c n o (qM e f g) 10 0 0 [] [] b)/\(∀{d k l m b n o e f g}(c)(a)(t:SM d k l m b)(w:∀j,qY d j->Rd .u8 j (qM e f g) a)(x:bytes a)(y:a.length<=1048576)(u:c<=b.tx.length)(p:0<(ye a).length)(q:b.tx.length+(ye a).length<=8192)(E:b.sp<=200000)(h:b.sp+(ye a).length<=200000)(ac:b.ms.length<=4096)(ad:∀m∈b.ms,0<=m.2.1/\m.2.1<=8192)(ae:b.lg.length<1000000000)(af:b.gr.length<=100000),A7 86 d k l 1 c n o (qM e f g) 0 ((ye a).length) 0 [] [] (Fo {b with sp:=b.sp+(ye a).length} c c (ye a))):=by
 refine⟨@λd k l m b n o e f g c a t w x y u p q M h=>have s:=zC xB;?_,@λd k l m b n o e f g c a t w x y u p q E h=>have R:=zC xB;?_,@λd k l m b n o e f g c a t w x y u p q E h ac ad ae af=>have B:=zC xB;?_⟩
 all_goals
  unfold A7;have C:=zC (Pr.start t (yp 1 c n o (qM e f g)));have am:=zC (U3 d (yp 1 c n o (qM e f g)));have K:=t.hB;clear t;go_enter func86,ntmps86;go_upto_region 1 with fail;generalize World.alloc _ _=ap at *;have ay:=c8 0 C.2.1;obtain⟨N,G⟩:=C.out.sm;obtain⟨O,au,a3,a4,a5,a6,a7,_⟩:=G.blk.c;obtain⟨⟨a8,a9,ag⟩,⟨ba,mk,ah⟩,_⟩:=G.vs;rw[ag]at O;rw[ah]at au;have az:=c8 1 C.2.1;have a0:=c8 4 C.2.1
  first | (revert s;intro s;rw[<- show(ye a).length=(ye a).length from rfl]at h) | skip
  have S:=zC (λj aq=>Il a _ j (w j aq) x y);obtain⟨v,H⟩:∃v,v=b.tx.length:=⟨_,rfl⟩
  have T:=zC H
  first
   |(revert s;intro s;rw[<- H]at O u q h)
   |(rw[<- H]at O u q)
  have s:¬ (c:Int)<0:=qF;have B:¬ (v:Int)<c:=qF;have U:=zC G;have V:=zC (S ap am);clear G ag ah H w x y S;go_wp2_with fail;refine V.mono ?_;rintro P av ⟨aw,rfl,ai,Q⟩;have z:=zC (show zT av 0 aw _ from zF ai (xK _));obtain⟨bc,bd,rfl⟩:=zX z;have A:=zC (C.below Q);have W:=zC (U.below Q);obtain⟨aj,I⟩:∃ar,ar=ye a:=⟨_,rfl⟩
  have X:=zC I
  first
   |(revert s;intro s;rw[<- I]at z p M h |-)
   |(rw[<- I]at z p q h |-)
  obtain⟨r,J⟩:∃r,r=aj.length:=⟨_,rfl⟩
  have HM:=zC J
  first
   |(revert s;intro s;rw[<- J]at z p M h |-)
   |(rw[<- J]at z p q h |-)
  have an:=c8 1 A.2.1;clear ai Q V I J U;have a1:IntKind.i64.wrap (v+r)=(v+r):=by rw[vA];omega
  first
   |(revert B;intro B;(have Y:¬ (8192:Int)<v+r:=by omega);(have L:=zC (Tj r W E qF h));go_wp2_with fail;refine L.mono ?_;rintro P ax ⟨rfl,hst⟩;have Z:=zC (A.step hst);obtain⟨bf,ak,al⟩:=hst;have ao:=zC (z.kt al.kt);(have aa:=zC (zBj c c _ aj 0 ak (by have D:=ao.out;rw[HM.out]at D;exact D) ⟨lR,by rw[<- T.out];exact u⟩ (by rw[<- T.out,<- HM.out];exact q) (.inl ⟨rfl,by rw[<- HM.out];exact p⟩) ac ad ae af));rw[<- HM.out]at aa;have a2:=c8 1 Z.2.1;clear ak al an;go_wp2_with fail;refine aa.mono ?_;rintro P bg ⟨rfl,hst⟩;have ab:=zC (Z.step hst);clear hst;have RR:=zC ab.2.2;have F:=zC (ab.fin0 (x0:=0) (x1:=r) (x2:=0) K))
   |(revert R;intro R;(have Y:¬ (8192:Int)<v+r:=by omega);(have L:=zC (DM r W E qF h));go_wp2_with fail;refine L.mono ?_;rintro P ax ⟨rfl,rfl⟩;have RR:=zC A.2.2;have F:=zC (A.fin0 (x0:=10) (x1:=0) (x2:=0) K))
   |((have Y:(8192:Int)<v+r:=by omega);have RR:=zC A.2.2;have F:=zC (A.fin0 (x0:=10) (x1:=0) (x2:=0) K))
  go_wp2_with (refine ZM RR ?_)
  first
   |(revert B;intro B;(exact jS results86 RR rfl (by have D:=F.out;rw[HM.out,X.out]at D;rw[HM.out,X.out];exact D)))
   |(exact jS results86 RR rfl F)
def insF7:=@Gh.1
def insG7:=@Gh.2.1
def ins7:=@Gh.2.2
def zBk:(∀{f g h d c j k l m}(b a)(n:SM f g h d c)(t:b<=a/\a<=c.tx.length)(r:a=b),A7 86 f g h 2 b a j (qM k l m) 0 0 0 [] [] c)/\(∀{f g h d c j k l m}(b a o)(n:SM f g h d c)(t:b<=a/\a<=c.tx.length)(r:a=b+o)(L:0<o)(z:c.tx.length<=8192)(A:c.ms.length<=4096)(B:∀d∈c.ms,0<=d.2.1/\d.2.1<=8192)(C:c.lg.length<1000000000)(D:c.gr.length<=100000),A7 86 f g h 2 b a j (qM k l m) 0 o 0 [] [] (Fo c b a [])):=by
 refine⟨@λf g h d c j k l m b a n t r=>?_,@λf g h d c j k l m b a o n t r L z A B C D=>have p:=zC xB;?_⟩
 all_goals
  unfold A7;have q:=zC r;clear r;have e:=zC (Pr.start n (yp 2 b a j (qM k l m)));have x:=n.hB;clear n;go_enter func86,ntmps86;go_upto_region 1 with fail;generalize World.alloc _ _=W at *;have N:=c8 0 e.2.1;obtain⟨E,v⟩:=e.out.sm;obtain⟨F,M,X,Y,Z,aa,ab,_⟩:=v.blk.c;obtain⟨⟨ac,ad,G⟩,⟨ae,mk,H⟩,_⟩:=v.vs;rw[G]at F;rw[H]at M;have O:=c8 1 e.2.1;have P:=c8 2 e.2.1;obtain⟨u,w⟩:∃u,u=c.tx.length:=⟨_,rfl⟩
  have Q:=zC w;rw[<- w]at F t;have p:¬ (b:Int)<0:=qF;have R:¬ (u:Int)<b:=qF;have S:¬ (a:Int)<b:=qF;have T:¬ (u:Int)<a:=qF
  first
   |(revert p;intro p;(have I:=zC (zBj b a _ [] 0 v (xR _ _ _ _) qF (by simp;exact z) (.inr ⟨by have:=q.out;omega,rfl,rfl⟩) A B C D));(have J:IntKind.i64.wrap (a-b)=o:=by have:=q.out;rw[vA];omega);(have K:(b:Int)<a:=by have:=q.out;omega))
   |((have J:(a:Int)-b=0:=by have:=q.out;omega);(have K:¬ (b:Int)<a:=by have:=q.out;omega))
  clear v G H w
  first
   |(revert p;intro p;go_wp2_with fail;refine I.mono ?_;rintro af ag ⟨rfl,hst⟩;have s:=zC (e.step hst);have U:=c8 1 s.2.1;have V:=c8 2 s.2.1;clear hst;have RR:=zC s.2.2;have y:=zC (s.fin0 (x0:=0) (x1:=o) (x2:=0) x))
   |(have RR:=zC e.2.2;have y:=zC (e.fin0 (x0:=0) (x1:=0) (x2:=0) x))
  go_wp2_with (refine ZM RR ?_);exact jS results86 RR rfl y
def del0:=@zBk.1
def del7:=@zBk.2
end
section
variable {w w':World} {B s:Nat} {x:V7} {M:SS} {b0 b1 b2:Int} {ta:Option Addr} {tl tq:Nat}
def lc7(a)(n:SM w B s x M)(z:a<=M.tx.length)(A:M.tx.length<=8192)(P:M.lg.length<1000000000):A7 86 w B s 4 a b1 b2 (qM ta tl tq) 0 (Yi M.tx a) (JD M.tx a) [] [] {M with lg:=M.lg++ [⟨4,a,0,[]⟩]}:=by
 unfold A7;have f:=zC (Pr.start n (yp 4 a b1 b2 (qM ta tl tq)));have H:=n.hB;clear n;go_enter func86,ntmps86;go_upto_region 1 with fail;generalize World.alloc _ _=aa at *;have W:=c8 0 f.2.1;obtain⟨Q,k⟩:=f.out.sm;obtain⟨C,R,ac,ad,ae,af,ag,_⟩:=k.blk.c;obtain⟨⟨ah,ai,D⟩,⟨aj,mk,E⟩,_⟩:=k.vs;rw[D]at C;rw[E]at R;have X:=c8 1 f.2.1;obtain⟨e,o⟩:∃e,e=M.tx.length:=⟨_,rfl⟩
 have g:=zC o;rw[<- o]at C z A;have Y:¬ (a:Int)<0:=qF
 have Z:¬ (e:Int)<a:=qF
 have I:=zC (Id 4 a 0 _ [] k (.inl ⟨rfl,rfl⟩) (kG P));clear k D E o;go_wp2_with fail;refine I.mono ?_;rintro O p ⟨rfl,hst⟩;have m:=zC (f.step hst);obtain⟨S,l⟩:=m.out.sm;obtain⟨T,U,F⟩:=zX l.tx;have d:=l.blk.c.1;have h:=l.tx;rw[F]at d h;simp at d h;rw[<- g.out]at d;have q:=c8 1 m.2.1;have J:=λb c=>cell_regrown d b c
 have K:=λb c=>cell_regrown q b c
 have t:=zC (λb c=>CallsIn.regrown_of (r:=5) (w:=p) (d:=b) (os:=c) (vn.2 ((lcS _ (qM T e U) a _ (by rw[g.out];exact(Rd.qa h).below (below_regrown p b c)) (by rw[<- g.out];exact A) (by rw[<- g.out];exact z)).mono (λO w' v=>⟨v.1,v.2▸xe _ _⟩))));clear l hst F h;go_upto_region 27 with fail;refine(vZ (n:=6)).1 ?_;refine wpIn_region_quiet_below rfl qI qI ?_
 repeat (refine wpQuietIn_step (λ_ _ _ _=>trivial) (λy j=>?_);go_simp;first | (refine j _ ?_;clear j y) | (apply Exists.intro;refine⟨λ_=>?_,j _ ?_⟩;(first | exact t _ _);clear j y))
 refine wpQuietIn_nil ?_;rintro _ ⟨⟨V,G⟩,rfl⟩;have L:=zC (below_regrown p V G);generalize grow _ G=ab at *;have u:=zC (m.below L);clear J K t d q;gi_wp2_with fail;have RR:=zC u.2.2;have N:=zC (u.fin0 (x0:=0) (x1:=Yi M.tx a) (x2:=JD M.tx a) H);go_wp2_with (refine ZM RR ?_);exact jS results86 RR rfl N
def offN7(j:SM w B s x M)(t:M.tx.length<=8192)(o)(u:Zd M.tx b0 b1=o)(T:o<0):A7 86 w B s 5 b0 b1 b2 (qM ta tl tq) 3 0 0 [] [] M:=by
 unfold A7;have a:=zC (Pr.start j (yp 5 b0 b1 b2 (qM ta tl tq)));have A:=j.hB;clear j;go_enter func86,ntmps86;go_upto_region 1 with fail;generalize World.alloc _ _=K at *;have S:=c8 0 a.2.1;obtain⟨O,e⟩:=a.out.sm;obtain⟨k,P,U,V,W,X,Y,_⟩:=e.blk.c;obtain⟨⟨Z,aa,l⟩,⟨ab,mk,v⟩,_⟩:=e.vs;rw[l]at k;rw[v]at P;have C:=c8 1 a.2.1;have D:=c8 2 a.2.1;obtain⟨b,m⟩:∃b,b=M.tx.length:=⟨_,rfl⟩
 have n:=zC m;have f:=zC (e.tx);rw[l]at f;rw[<- m]at k t f;have E:=λc d=>cell_regrown k c d
 have F:=λc d=>cell_regrown C c d
 have G:=λc d=>cell_regrown D c d
 have H:=zC u;clear e l v m u;have I:b0<0\/(¬b0<0/\b<b0)\/(¬b0<0/\¬b<b0):=qF
 rcases I with y | ⟨y,Q⟩ | ⟨y,Q⟩
 all_goals
  go_upto_region 30 with fail;refine(vZ (n:=6)).1 ?_;refine zM 8 qI qI ?_;simp only[vc,vY,vE,vz]
  repeat (refine wpQuietIn_step (λ_ _ _ _=>trivial) (λN r=>?_);go_simp;first | (refine r _ ?_;clear r N))
  refine wpQuietIn_nil ?_;rintro _ ⟨⟨R,z⟩,rfl⟩;have p:=zC (below_regrown K R z);generalize grow _ z=L at *;have g:=zC (offS _ _ b0 b1 L (Rd.qa (by have h:=f.kt (KT.of p);unfold zT at h;rw[<- n.out]at h;exact h)) (by rw[<- n.out];exact t));rw[H.out]at g;gi_wp2_with fail;refine⟨xB,(vn.2 g).mono ?_⟩;rintro ac ad ⟨rfl,rfl⟩;have q:=zC (a.below p);clear E F G g;gi_wp2_with fail;have RR:=zC q.2.2;have J:=zC (q.fin0 (x0:=3) (x1:=0) (x2:=0) A);go_wp2_with (refine ZM RR ?_);exact jS results86 RR rfl J
def off7(a g:Nat)(m:SM w B s x M)(v:M.tx.length<=8192)(y:Zd M.tx a b1=g)(Q:M.lg.length<1000000000):A7 86 w B s 5 a b1 b2 (qM ta tl tq) 0 g 0 [] [] {M with lg:=M.lg++ [⟨5,a,0,[]⟩]}:=by
 unfold A7;have b:=zC (Pr.start m (yp 5 a b1 b2 (qM ta tl tq)));have C:=m.hB;clear m;go_enter func86,ntmps86;go_upto_region 1 with fail;generalize World.alloc _ _=N at *;have V:=c8 0 b.2.1;obtain⟨R,e⟩:=b.out.sm;obtain⟨n,S,aa,ab,ac,ad,ae,_⟩:=e.blk.c;obtain⟨⟨af,ag,o⟩,⟨ah,mk,z⟩,_⟩:=e.vs;rw[o]at n;rw[z]at S;have D:=c8 1 b.2.1;have E:=c8 2 b.2.1;obtain⟨f,p⟩:∃f,f=M.tx.length:=⟨_,rfl⟩
 have q:=zC p;have h:=zC (e.tx);rw[o]at h;rw[<- p]at n v h;have F:=λc d=>cell_regrown n c d
 have G:=λc d=>cell_regrown D c d
 have H:=λc d=>cell_regrown E c d
 have I:=zC e;have J:=zC y;clear e o z p y;have W:¬ (a:Int)<0:=qF
 by_cases Z:(f:Int)<a
 all_goals
  go_upto_region 30 with fail;refine(vZ (n:=6)).1 ?_;refine zM 8 qI qI ?_;simp only[vc,vY,vE,vz]
  repeat (refine wpQuietIn_step (λ_ _ _ _=>trivial) (λP u=>?_);go_simp;first | (refine u _ ?_;clear u P))
  refine wpQuietIn_nil ?_;rintro _ ⟨⟨T,A⟩,rfl⟩;have j:=zC (below_regrown N T A);generalize grow _ A=O at *;have k:=zC (offS _ _ a b1 O (Rd.qa (by have l:=h.kt (KT.of j);unfold zT at l;rw[<- q.out]at l;exact l)) (by rw[<- q.out];exact v));rw[J.out]at k;gi_wp2_with fail;refine⟨xB,(vn.2 k).mono ?_⟩;rintro U ai ⟨rfl,rfl⟩;have r:=zC (b.below j);have X:=c8 1 r.2.1;clear F G H k;gi_wp2_with fail;have Y:¬ (g:Int)<0:=qF;have K:=zC (Id 5 a 0 _ [] (I.below j) (.inl ⟨rfl,rfl⟩) (kG Q));go_wp2_with fail;refine K.mono ?_;rintro U aj ⟨rfl,hst⟩;have t:=zC (r.step hst);clear hst;have RR:=zC t.2.2;have L:=zC (t.fin0 (x0:=0) (x1:=g) (x2:=0) C);go_wp2_with (refine ZM RR ?_);exact jS results86 RR rfl L
end
section
variable {w w':World} {B s:Nat} {x:V7} {M:SS} {b0 b1 b2:Int} {ta:Option Addr} {tl tq:Nat}
def U4:(∀{b c d s t e f g h j k o l m n p q}(a)(u:a=1\/a=2\/a=3\/a=4\/a=5\/a=16)(v:SM b c d s t)(w:∀r,qY b r->A7 86 r c d a e f g (qM h j k) l m n p q o),A7 67 b c d a e f g (qM h j k) l m n p q o)/\(∀{b c d s t e f g h j k o l m n p q}(a)(u:a=6\/a=7\/a=8)(v:SM b c d s t)(w:∀r,qY b r->A7 87 r c d a e f g (qM h j k) l m n p q o),A7 67 b c d a e f g (qM h j k) l m n p q o)/\(∀{b c d s t e f g h j k o l m n p q}(a)(u:a=9\/a=10\/a=11\/a=12)(v:SM b c d s t)(w:∀r,qY b r->A7 88 r c d a e f g (qM h j k) l m n p q o),A7 67 b c d a e f g (qM h j k) l m n p q o)/\(∀{b c d s t e f g h j k o l m n p q}(a)(u:a=13\/a=14)(v:SM b c d s t)(w:∀r,qY b r->A7 89 r c d a e f g (qM h j k) l m n p q o),A7 67 b c d a e f g (qM h j k) l m n p q o):=by
 refine⟨@λb c d s t e f g h j k o l m n p q a u v w=>have y:=zC xB;?_,@λb c d s t e f g h j k o l m n p q a u v w=>have z:=zC xB;?_,@λb c d s t e f g h j k o l m n p q a u v w=>have A:=zC xB;?_,@λb c d s t e f g h j k o l m n p q a u v w=>?_⟩
 all_goals
  unfold A7 at w |-;have x:=zC (Pr.start v (yp a e f g (qM h j k)));have F:=zC (w _ (U3 b (yp a e f g (qM h j k))));have G:=v.hB;clear v w
  first
   |(revert y;intro y;rcases u with rfl | rfl | rfl | rfl | rfl | rfl)
   |(revert A;intro A;rcases u with rfl | rfl | rfl | rfl)
   |(revert z;intro z;rcases u with rfl | rfl | rfl)
   |(rcases u with rfl | rfl)
  all_goals
   go_enter func67,ntmps67;go_upto_region 1 with fail;generalize I:World.alloc _ _=N at *;have J:=c8 0 x.2.1;have K:=c8 1 x.2.1;have L:=c8 2 x.2.1;have z3:=c8 3 x.2.1;have M:=c8 4 x.2.1;have B:=x.1.choose_spec.2.kt.1;clear I;go_wp2_with fail;refine F.mono ?_;rintro O P ⟨Q,R,S,T,U,mk,rfl,D,E,hst⟩;have C:=zC (x.step hst);have RR:=zC C.2.2;have H:=zC (C.fin (x0:=l) (x1:=m) (x2:=n) (zF D B) (zS.base E B) G);clear D E hst;go_wp2_with (refine ZM RR ?_);exact jS results67 RR rfl H
def actT7:=@U4.1
def actM7:=@U4.2.1
def actP7:=@U4.2.2.1
def actS7:=@U4.2.2.2
end
section
variable {w w':World} {B s:Nat} {x:V7} {M:SS} {b0 b1 b2:Int} {ta:Option Addr} {tl tq:Nat}
def actMv7(b:SM w B s x M):A7 67 w B s 15 b0 b1 b2 (qM ta tl tq) 0 0 0 [] [] M:=by
 unfold A7;have a:=zC (Pr.start b (yp 15 b0 b1 b2 (qM ta tl tq)));have c:=b.hB;clear b;go_enter func67,ntmps67;go_upto_region 1 with fail;generalize World.alloc _ _=f at *;have e:=c8 0 a.2.1;have RR:=zC a.2.2;have d:=zC (a.fin0 (x0:=0) (x1:=0) (x2:=0) c);go_wp2_with (refine ZM RR ?_);exact jS results67 RR rfl d
def actK7(kd)(e:kd<1\/16<kd)(b:SM w B s x M):A7 67 w B s kd b0 b1 b2 (qM ta tl tq) 13 0 0 [] [] M:=by
 unfold A7;have a:=zC (Pr.start b (yp kd b0 b1 b2 (qM ta tl tq)));have c:=b.hB;clear b;have f:(kd==1)=false:=qJ
 have g:(kd==2)=false:=qJ
 have h:(kd==3)=false:=qJ
 have j:(kd==4)=false:=qJ
 have k:(kd==5)=false:=qJ
 have l:(kd==6)=false:=qJ
 have m:(kd==7)=false:=qJ
 have n:(kd==8)=false:=qJ
 have o:(kd==9)=false:=qJ
 have p:(kd==10)=false:=qJ
 have q:(kd==11)=false:=qJ
 have r:(kd==12)=false:=qJ
 have t:(kd==13)=false:=qJ
 have u:(kd==14)=false:=qJ
 have v:(kd==15)=false:=qJ
 have y:(kd==16)=false:=qJ
 clear e;go_enter func67,ntmps67;go_upto_region 1 with fail;generalize World.alloc _ _=A at *;have z:=c8 0 a.2.1;have RR:=zC a.2.2;have d:=zC (a.fin0 (x0:=13) (x1:=0) (x2:=0) c);go_wp2_with (refine ZM RR ?_);exact jS results67 RR rfl d
end
end

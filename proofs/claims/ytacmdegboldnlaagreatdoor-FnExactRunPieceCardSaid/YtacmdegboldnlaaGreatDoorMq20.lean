import Derived.Test.YtacmdegboldnlaaGreatDoorMq19
set_option linter.all false
set_option maxRecDepth 100000
set_option maxHeartbeats 8000000
namespace Go.Proofs.YtacmdegboldnlaaGreatDoor
open Go Go.RowKit Go.Proofs.Tryz
open _root_.Array renaming size→N
open Bool renaming false→VP,true→VR
open Go renaming Calls→VM,below_regrown→qa7,cell_regrown→qa6,maxLen→VL
open Go.RowKit renaming intOf→VN
open List renaming length→L
open Option renaming some→O
open _root_.Go.World renaming cell?→VE,heap→Y
def Zx(b:List It)(a c:Nat):List It:=(b.drop a).take (c-a)
theorem Jz(xs)(lo hi i)(a:i<hi-lo):(Zx xs lo hi)[i]? =xs[lo+i]?:=by
 grind [Zx]
theorem Hg(xs)(lo hi i)(a:hi-lo<=i):(Zx xs lo hi)[i]?=none:=by
 grind [Zx]
def EB(xs)(lo hi)(a:hi<=lo):Zx xs lo hi= []:=by
 simp_all[Zx]
theorem Gy(xs)(lo hi)(a:hi<=L xs):L (Zx xs lo hi)=hi-lo:=by
 grind [Zx]
def UQ(xs)(lo a hi)(y)(b:lo<=a)(c:a<hi)(d:xs[a]?=O y):Zx xs lo hi=Zx xs lo a++y::Zx xs (a+1) hi:=by
 apply QP
 grind [Nat.lt_or_ge,Gy,Nat.lt_trichotomy,List.getElem?_append_left,Jz,List.getElem?_append_right,List.getElem?_cons_succ,Hg]
def Fg(xs)(lo k)(x)(a:lo<=k)(b:xs[k]?=O x):Zx xs lo (k+1)=Zx xs lo k++ [x]:=by
 rw[UQ xs lo k _ x a VC b,EB xs (k+1) _ VC]
theorem On{xs lo hi z}(b:z∈Zx xs lo hi):∃a,lo<=a/\a<hi/\xs[a]?=O z:=by
 grind [List.mem_iff_getElem?,Jz,Hg]
def Pcs(a:List It):Prop:=∀x∈a,jU x.pc=VR
theorem Pcs.total{a:List It}(g:Pcs a)(c:Nat):0<=total (a.take c)/\total (a.take c)<=8192*L (a.take c):=by
 have d:∀b∈a.take c,jU b.pc=VR:=λb e=>g b (kH e)
 generalize a.take c=f at d |-;clear g
 induction f with
 | nil=>simp[Go.Proofs.YtacmdegboldnlaaGreatDoor.total]
 | cons i f j=>
  have h:=d i VT;simp only[jU,vn]at h;have k:=j (λb e=>d b (by simp[e]));simp only[Go.Proofs.YtacmdegboldnlaaGreatDoor.total,vA];omega
def Sc(j:Nat)(w:Jo)(b:List It)(c:V8)(S:ZX j c w b)(ae:j<=N (Y c))(af:L b<=1048576)(x:Pcs b):
  VM prog 36 #[w] c λQ R=>Q=V5 (qP (total b))/\qa3 c R:=by
 obtain⟨ag,n,rfl,rfl⟩|⟨e,k,n,rfl,⟨ah,ai,T⟩,aj,y⟩:=S
 ·go_enter func36,ntmps36
  go_wp2_with fail;go_loopw [3,8] (λm g wr=>g=qP 0/\m=qP 0/\wr=c) (λ_ _ _=>0)
  case atStart=>exact⟨rfl,rfl,rfl⟩
  obtain⟨rfl,rfl,rfl⟩:=hrel;go_wp2;go_ret;exact⟨rfl,xF _ _⟩
 have h:e<N (Y c):=VC
 have E:=zC y;have q:=zC x;generalize u:total b=P;have F:=zC u;generalize M:L b=f at*;unfold VL at T;clear y x u;go_enter func36,ntmps36;go_wp2_with fail;go_loopw [3,8] (λm g wr=>∃a:Nat,a<=f/\g=qP a/\m=qP (total (b.take a))/\qa3 c wr) (λ_ g _=>f-(VN g).toNat)
 case atStart=>exact⟨0,xY _,rfl,by simp[total],xF _ _⟩
 obtain⟨a,ak,rfl,rfl,o⟩:=hrel;have d:=zC o;have G:=o.size;have r:=q.total a;have s:L (b.take a)<=1048576:=by rw[xO];omega
 generalize v:total (b.take a)=i at*;have t:=zC v;clear o v;by_cases K:a<f
 ·obtain⟨z,l,A,B,C,D⟩:=Oe (B:=j) (cap:=n) E (M▸K)
  have U:(a:Int)<f:=VC;have H:=q z (kG.2 ⟨a,l⟩);simp only[jU,vn]at H;have V:=zC l;have W:=(d.U (p:=(V4 e (k+a*4))) h).R A;have X:=(d.U (p:=(V4 e (k+a*4+1))) h).R B;have Z:=(d.U (p:=(V4 e (k+a*4+2))) h).R C;have aa:=(d.U (p:=(V4 e (k+a*4+3))) h).R D;have ab:e<N (Y wr):=VC;have HS:=zC (show total (b.take (a+1))=i+z.pc.len by rw[Yo l,ji,t.A];simp[total]);have ac:0<=i/\i<=8589934592:=VC;clear A B C D l r s;go_wp2;go_roundw
  case rel=>exact⟨a+1,VC,VY,by rw[HS.A],d.alloc G _⟩
  simp[VN];omega
 have I:a=f:=VC
 subst I;have ad:¬ (a:Int)<(a:Int):=VC
 have J:=zC (show P=i by rw[<- t.A,vX VC];exact F.J);clear r s;go_wp2;go_ret;exact⟨by first | rfl | (rw[J.A];rfl),d⟩
section
open Go.Sort
def Sd(a:V8)(b e f c g:Nat)(d:qa1):Prop:=PK a b e f c g d\/(c=0/\a.heap[b]?=O (V6 #[V0,.pointer d] 101 (0,0)))
section
variable {B:Nat} {w w':World} {c b o n cap:Nat} {u:Option Addr}
theorem Sd.I(a:Sd w c b o n cap u)(d:Below B w w')(e:c<B):Sd w' c b o n cap u:=a.imp (λa=>a.I d e) (λa=>⟨a.1,(d.block c e).R a.2⟩)
def Sd.lt(a:Sd w c b o n cap u):c<N (Y w):=a.elim (λa=>a.lt) (λa=>(xG.1 a.2).1)
def Sd.c1(a:Sd w c b o n cap u):VE w (V4 c 1)=O (.pointer u):=a.elim (λa=>a.c1) (λa=>by rw[xH w _ 1 _ _ _ a.2];rfl)
def Sd.pk(a:Sd w c b o n cap u)(d:0<n):PK w c b o n cap u:=a.elim id (λa=>VC)
end
theorem EC:∀a:AT,a.tx []= []
 | .nil=>rfl
 | .tN b d c=>by simp[AT.tx,EC b,EC c,Z7]
structure JS(w:V8)(base c b o cap:Nat)(zs:qa0)(T:AT):Prop where
 k:∃u bs,Sd w c b o (L zs) cap u/\zM w base T u bs
 a:Ue w b o zs
 b:b<N (Y w)
 ok:T.ok
 wp:T.wp zs
 n:L zs<=1048576/\L zs<=cap/\cap<=VL
theorem JS.I{c d e f g h:Nat}{b i:V8}{j:qa0}{k:AT}(n:JS b d e f g h j k)(a:Below c b i)(l:N (Y b)<=c):JS i d e f g h j k:=by
 obtain⟨⟨u,o,m,p⟩,q,x,r,s,t⟩:=n;have v:=a.size;have w:=m.lt;exact⟨⟨u,o,m.I a VC,p.I a l⟩,q.I a VC,by have:=(Below.G a l).size;omega,r,s,t⟩
def Se(k f g l e a b:Nat)(d:Int)(r:qa1)(c:V8)(m:PK c k f g l e r)(A:a+b<=l)(B:0<b\/a=0)(C:l<=e)(s:e<=VL):
  VM prog 254 #[V3 k 0,.agg #[qP (a:Int),qP (b:Int),qP d]] c λq w'=>q=V5 (VZ (qQ f (g+a)) b (e-a))/\qa3 c w':=by
 have h:=zC ((xF (N (Y c)) c).alloc lR (V6 #[qP (a:Int),qP (b:Int),qP d] 85));have t:=(h.U (p:=(V4 k 0)) m.lt).R m.c0;have KA:(c.alloc (V6 #[qP (a:Int),qP (b:Int),qP d] 85)).heap[N (Y c)]?=O (V6 #[qP (a:Int),qP (b:Int),qP d] 85 (0,0)):=xJ _ _;have u:VE (c.alloc (V6 #[qP (a:Int),qP (b:Int),qP d] 85)) (V4 (N (Y c)) 0)=O (qP (a:Int)):=by rw[xH _ _ 0 _ _ _ KA];rfl
 have v:VE (c.alloc (V6 #[qP (a:Int),qP (b:Int),qP d] 85)) (V4 (N (Y c)) 1)=O (qP (b:Int)):=by rw[xH _ _ 1 _ _ _ KA];rfl
 have w:N (Y (c.alloc (V6 #[qP (a:Int),qP (b:Int),qP d] 85)))=N (Y c)+1:=VT
 unfold VL at s;have x:(a:Int)<=(a:Int)+(b:Int):=VC
 have y:(a:Int)+(b:Int)<=(e:Int):=VC
 have z:(0:Int)<=(a:Int)+(b:Int):=VC
 clear m KA;by_cases o:e=a
 ·obtain rfl:a=0:=VC
  obtain rfl:b=0:=VC;subst o;go_enter func254,ntmps254;go_wp2_with fail;generalize c.alloc (V6 #[qP ((0:Nat):Int),qP ((0:Nat):Int),qP d] 85)=j at*;go_quiet (fail);have i:=zC (show qa3 c (j.drewN nq)from h.R (WM _ _ _));go_wp2;go_ret;exact⟨rfl,i⟩
 have n:=zC (show Ending.returned (VZ (qQ f (g+a)) (a+b-a) (e-a))=Ending.returned (VZ (qQ f (g+a)) b (e-a))by rw[show a+b-a=b by omega]);go_enter func254,ntmps254;go_wp2_with fail;generalize c.alloc (V6 #[qP (a:Int),qP (b:Int),qP d] 85)=j at*;go_quiet (fail);have i:=zC (show qa3 c (j.drewN nq)from h.R (WM _ _ _));go_wp2;go_ret;exact⟨Eq.R rfl n,i⟩
def Oo(b:AT)(d e k l m:Nat)(n:qa0)(a:V8)(o:JS a d e k l m n b):
  VM prog 239 #[V3 e 0] a λc w'=>c=V5 (qP b.rns)/\qa3 a w':=by
 obtain⟨⟨u,p,f,g⟩,_⟩:=o;have q:=f.c1;have i:=zC (JU b u p d a g);clear f g;go_enter func239,ntmps239;go_wp2_with fail;refine i.G ?_;rintro c s ⟨rfl,h⟩;have j:=zC h;have r:=Tryz.fld1;unfold Zu;clear h;go_wp2;go_ret;exact⟨rfl,j⟩
end
section
open Go.Shelf Go.Sort
attribute [local go_sem] QR
def app2{W w1 n₀ B t e size v v' k m xs ys}
  (h:Boxed W B t v) (i:t≠e) (c:W.ownsRow n₀ e size v k xs) (l:n₀<=W.heap.size) (n:n₀<=B)
  (j:w1.ownsRow n₀ e size v' m ys) (d:W.grownBy w1 v.ownBlock):
  Boxed w1 B t v/\Boxed (w1.setCell (V4 B 0) v') B t v'/\(w1.setCell (V4 B 0) v').ownsRow n₀ e size v' m ys/\KeepsOthers W (w1.setCell (V4 B 0) v')/\Below n₀ W (w1.setCell (V4 B 0) v'):=by
 have a:=h.kept d (h.not_row i c);refine⟨a,a.set v',j.kept (grownBy_setCell' w1 B v') (.inr (a.not_row i j).J),?_,?_⟩
 ·refine(KeepsOthers.of_grownBy d λf p b g=>?_).trans (KeepsOthers.setCell _ _ _)
  rcases c.2 with ⟨rfl,_⟩ | ⟨q,r,s,rfl,_,o,_⟩
  ·grind [Value.ownBlock]
  obtain rfl:=(by simpa[Value.ownBlock]using b);rw[o]at g;cases g;rfl
 refine((xF _ W).grown d l λf b=>?_).setCell n v';exact(c.lt f b).1
def Mg(zs)(b c a d:Nat)(pb x y)(e:a=x.toNat)(f:d-a=min (y.toNat-a) (c-a)):YQ (Z7 zs ⟨b,c,pb⟩) x y=(zs.drop (b+a)).take (d-a):=by
 simp_all[YQ,Z7,List.drop_take,QO,List.take_take]
def Sf(zs)(lo hi):∀b:List {a:Int×Pc //SY zs lo hi a},L (UP zs lo hi (List.map (λa:{a:Int×Pc //SY zs lo hi a}=>a.1) b))<=8192*L b
 | []=>by simp[UP]
 | ⟨a,c⟩::b=>by
  have d:=Sf zs lo hi b;have e:=Z8 c.1;have f:=c.2.2.2.2.2.1
  grind [YQ,Z7,UP,List.length_take,List.length_drop,List.length_append,List.length_cons]
def row_val{d:V8}{e f g b:Nat}{v xs}(h:d.ownsRow e f g v b xs):∃c a,v= .slice c b a:=by
 obtain⟨rfl,i⟩|⟨j,a,k,rfl,_⟩:=h.2
 ·simp_all
 simp
def WQ:∀b:AT,b.ok->b.pos
 | .nil,_=>trivial
 | .tN c e d,a=>⟨WQ c a.left,by have:=a.piece;omega,WQ d a.right⟩
def sliceN(T)(base k b ad cap)(zs)(lo hi)(w)(K:JS w base k b ad cap zs T)(d7:0<=lo/\lo<=hi/\hi<=T.rns):
  Calls prog 245 #[.pointer (qQ k 0),qP lo,qP hi] w λg ci=>∃r,g= .returned r/\zH ci w.heap.size r (YQ (T.tx zs) lo hi)/\Below w.heap.size w ci:=by
 obtain⟨cj,ck,cl,cm,d8⟩:=kB Tryz.qn;obtain⟨⟨j,d9,x,ba⟩,cn,co,bc,bd,fd,ea,eb⟩:=K;have ew:=bc.bd;have cy:=zC (show Pa w.heap.size w j T from⟨base,d9,ba,λa4 d5=>(ba.lt a4 d5).2⟩);have cz:=zC (Sb zs lo hi T 0 bd (WQ T bc) (by omega) (by omega));have c0:=zC (Gw zs lo hi d7.2.1 T 0 bd);have c1:=AT.qg bd;have af:=x.lt;have bk:=zC x;have c2:=zC cn;obtain⟨a,rfl⟩:∃a:Nat,hi=lo+a:=⟨(hi-lo).toNat,by omega⟩
 have c3:lo+a-lo=a:=by omega
 have bl:=zC ((((xF w.heap.size w).alloc lR (.cells #[.pointer (qQ k 0)] 63)).alloc (by simp) (.cells #[qP lo] 3)).alloc (by simp;omega) (.cells #[qP (lo+a)] 3));have ag:(((w.alloc (.cells #[.pointer (qQ k 0)] 63)).alloc (.cells #[qP lo] 3)).alloc (.cells #[qP (lo+a)] 3)).heap.size=w.heap.size+3:=by simp
 have bn:=((Boxed.new w 63 (.pointer (qQ k 0))).alloc (.cells #[qP lo] 3)).alloc (.cells #[qP (lo+a)] 3);have R:=(Boxed.new (w.alloc (.cells #[.pointer (qQ k 0)] 63)) 3 (qP lo)).alloc (.cells #[qP (lo+a)] 3);have S:=Boxed.new ((w.alloc (.cells #[.pointer (qQ k 0)] 63)).alloc (.cells #[qP lo] 3)) 3 (qP (lo+a));rw[Qt]at R;rw[Qt,Qt]at S;have c4:=R.cell;have c5:=S.cell;have bp:=zC bn;have bq:=zC R;have br:=zC S;clear ba x cn bn R S;refine(vD (n:=5)).1 ?_;refine callsIn_of_wp_marks func245 rfl xN ?_ rfl;simp only[ntmps245,Qd,vA,vS,kT,kU,Qe,kZ,vL,vH];gi_wp2_with (gi_at_make;refine wpListIn_make_own _ rfl _ _ 25 rfl w.heap.size 21 cj (.int .i32 0) 1 underlying25 ck cl cm _ _ _ a rfl rfl (by rfl) (by grind) (by grind [maxLen]) (by omega) ?_;intro t a1 G);have c6:=G.size;rw[ag]at c6;have bs:=zC (bl.A.grown G (by omega) (λJ x=>by cases x));have bt:=zC (bp.A.kept G (by simp));have bu:=zC (bq.A.kept G (by simp));have bv:=zC (br.A.kept G (by simp));have ah:=zC (bs.A.alloc (by omega) (.cells #[.slice (qQ (w.heap.size+3) 0) 0 a] 25));have U:=zC (bt.A.alloc (.cells #[.slice (qQ (w.heap.size+3) 0) 0 a] 25));have V:=zC (bu.A.alloc (.cells #[.slice (qQ (w.heap.size+3) 0) 0 a] 25));have W:=zC (bv.A.alloc (.cells #[.slice (qQ (w.heap.size+3) 0) 0 a] 25));have ai:=zC (Boxed.new t 25 (.slice (qQ (w.heap.size+3) 0) 0 a));rw[ag]at a1;have bw:=zC (a1.alloc (.cells #[.slice (qQ (w.heap.size+3) 0) 0 a] 25));have ex:t.heap.size+1<=(t.alloc (.cells #[.slice (qQ (w.heap.size+3) 0) 0 a] 25)).heap.size:=by simp
 clear a1 G bl bp bq br bs bt bu bv c4 c5 ag;generalize t.alloc (.cells #[.slice (qQ (w.heap.size+3) 0) 0 a] 25)=cg at *;have aj:=λa f=>cell_regrown U.A.cell a f
 have ak:=λa f=>cell_regrown ((ah.A.cell af).trans bk.A.c1) a f
 have al:=λa f=>cell_regrown V.A.cell a f
 have am:=λa f=>cell_regrown W.A.cell a f
 refine zI 6 (by rfl) (by kernel_rfl) ?_;simp only[vQ,kh,vT,ke]
 repeat (refine wpQuietIn_step (λ_ _ _ _=>xN) (λy l=>?_);go_simp;first | (refine l _ ?_;clear l y))
 refine wpQuietIn_nil ?_;intro _ a2;obtain⟨⟨P,Q⟩,bf⟩:=a2;subst bf;have v:=zC (below_regrown cg P Q);clear aj ak al am;generalize grow (redrawn cg P) Q=i at *;have ey:=v.A.size;have X:=zC (ah.A.trans (v.A.G (by omega)));have da:=zC (show Boxed i _ _ _ from(v.A.block _ U.A.lt).trans U.A);have db:=zC (show Boxed i _ _ _ from(v.A.block _ V.A.lt).trans V.A);have dc:=zC (show Boxed i _ _ _ from(v.A.block _ W.A.lt).trans W.A);have dd:=zC (show Boxed i _ _ _ from(v.A.block _ ai.A.lt).trans ai.A);have de:=zC (zE bw.A v.A lR);clear ah U V W ai bw;gi_wp2_with (refine⟨xN,?_⟩;(try refine⟨λK=>(by cases K),?_⟩);refine(Mf _ _ _ _ _).G ?_;rintro g fe ⟨rfl,rfl⟩);have an:=((da.A.alloc (.cells #[.pointer j] 99)).alloc (.cells #[qP lo] 3)).alloc (.cells #[qP (lo+a)] 3);have ao:=((db.A.alloc (.cells #[.pointer j] 99)).alloc (.cells #[qP lo] 3)).alloc (.cells #[qP (lo+a)] 3);have ap:=((dc.A.alloc (.cells #[.pointer j] 99)).alloc (.cells #[qP lo] 3)).alloc (.cells #[qP (lo+a)] 3);have aq:=((dd.A.alloc (.cells #[.pointer j] 99)).alloc (.cells #[qP lo] 3)).alloc (.cells #[qP (lo+a)] 3);have bx:=((de.A.alloc (.cells #[.pointer j] 99)).alloc (.cells #[qP lo] 3)).alloc (.cells #[qP (lo+a)] 3);have ar:=((Boxed.new i 99 (.pointer j)).alloc (.cells #[qP lo] 3)).alloc (.cells #[qP (lo+a)] 3);have Z:=(Boxed.new (i.alloc (.cells #[.pointer j] 99)) 3 (qP lo)).alloc (.cells #[qP (lo+a)] 3);have aa:=Boxed.new ((i.alloc (.cells #[.pointer j] 99)).alloc (.cells #[qP lo] 3)) 3 (qP (lo+a));have ab:=((X.A.alloc X.A.size (.cells #[.pointer j] 99)).alloc (by have:=X.A.size;simp;omega) (.cells #[qP lo] 3)).alloc (by have:=X.A.size;simp;omega) (.cells #[qP (lo+a)] 3);have bz:(((i.alloc (.cells #[.pointer j] 99)).alloc (.cells #[qP lo] 3)).alloc (.cells #[qP (lo+a)] 3)).heap.size=i.heap.size+3:=by simp
 rw[Qt]at Z;rw[Qt,Qt]at aa;obtain⟨a5,cp⟩:∃a5,((i.alloc (.cells #[.pointer j] 99)).alloc (.cells #[qP lo] 3)).alloc (.cells #[qP (lo+a)] 3)=a5:=⟨_,rfl⟩
 rw[cp]at an ao ap aq bx ar Z aa ab bz |-
 refine wpIn_rangeFunc_ownH rfl (by omega) rfl xN (enters_of func267 (by rfl) rfl)
  (Uw (SY zs lo (lo+a)) lo (lo+a) (by omega) (by omega) _ i.heap.size (i.heap.size+1) (i.heap.size+1+1) w.heap.size j T bc cz.A a5 (by omega) (by omega) (by omega) (by omega) ar.cell Z.cell aa.cell (cy.A.I ab)) belowK_t (belowK_b (by omega)) (xF _ _) (λ_=>rfl)
  (λm d=>(∃r,Boxed d t.heap.size 25 r/\d.ownsRow w.heap.size 21 1 r (UP zs lo (lo+(a:Int)) (List.map (λc:{c:Int×Pc //SY zs lo (lo+(a:Int)) c}=>c.1) m)).length (zQ .i32 (UP zs lo (lo+(a:Int)) (List.map (λc:{c:Int×Pc //SY zs lo (lo+(a:Int)) c}=>c.1) m)))/\True)/\(Boxed d w.heap.size 63 (.pointer (qQ k 0))/\(Boxed d (w.heap.size+1) 3 (qP lo)/\(Boxed d (w.heap.size+1+1) 3 (qP (lo+(a:Int)))/\Below w.heap.size w d))))
  (λ_ _ _=>False)
  (OwnFrom.and (Own.from (holdsRow_own w.heap.size t.heap.size 25 21 1 (λm=>(UP zs lo (lo+a) (List.map (λc:{c:Int×Pc //SY zs lo (lo+a) c}=>c.1) m)).length) (λm=>zQ .i32 (UP zs lo (lo+a) (List.map (λc:{c:Int×Pc //SY zs lo (lo+a) c}=>c.1) m))) (λ_ _=>True)) _) (OwnFrom.and (Own.from (boxed_own w.heap.size 63 (λ_=>.pointer (qQ k 0))) _) (OwnFrom.and (Own.from (boxed_own (w.heap.size+1) 3 (λ_=>.int .i64 lo)) _) (OwnFrom.and (Own.from (boxed_own (w.heap.size+1+1) 3 (λ_=>.int .i64 (lo+a))) _) (ownFrom_below lR (by omega))))))
  (λ_ _ _ _ _ a6 _ _=>a6)
  ⟨⟨_,aq,by grind [UP,zQ],xN⟩,an,ao,ap,ab⟩
  (λc a7 d=>∃s,True/\d.heap[s]?=some (.cells #[qP c.1.2.off,qP c.1.2.len,qP c.1.2.brk] 85 (0,0))/\a7={tmps:=#[.pointer (qQ k 0),qP lo,qP (lo+a),.pointer (qQ w.heap.size 0),.pointer (qQ (w.heap.size+1) 0),.pointer (qQ (w.heap.size+1+1) 0),.slice none 0 0,.pointer (qQ t.heap.size 0),qP c.1.1,.pointer (qQ s 0),qP (lo+a),qP lo,qP a,.slice (qQ (w.heap.size+3) 0) 0 a,.pointer (qQ k 0),.pointer (qQ k 0),.pointer (qQ k 1),.pointer j,qP lo,qP (lo+a),.func (.func 267) #[] #[.pointer (qQ i.heap.size 0),.pointer (qQ (i.heap.size+1) 0),.pointer (qQ (i.heap.size+1+1) 0)],qP c.1.1,.agg #[qP c.1.2.off,qP c.1.2.len,qP c.1.2.brk],undef,undef,undef,undef,undef,undef,undef,undef,undef,undef,undef,undef,undef,undef,undef,undef,undef],defers:=[]})
  (λa4 a7 _ d fa fc a6 d6 a8=>by
   obtain⟨s,a9,M,ec⟩:=a6;refine⟨s,a9,(d6.block s (xG.1 M).1 (λg=>?_)).trans M,ec⟩;obtain⟨_,ad,cq,cb⟩:=a8 s g.J
   rw[M]at cq;cases cq;cases cb)
  ?assign ?body ?done ?stop
 case assign=>
  rintro ed m a4 d y ⟨⟨r,z,A,_⟩,B,C,D,q⟩ l;gi_wp2;have E:=q.size;refine l _ _ ((KeepsOthers.alloc _ _).from _) ((xF _ d).alloc E _) ⟨⟨r,z.alloc _,A.alloc _,xN⟩,B.alloc _,C.alloc _,D.alloc _,q.alloc E _⟩ ⟨d.heap.size,xN,xJ _ _,rfl⟩
 case body=>
  rintro ed m ⟨⟨h,H⟩,cr⟩ a7 d ee ⟨ef,a8⟩ ⟨⟨r,z,A,_⟩,B,C,D,q⟩ ⟨s,_,ae,rfl⟩ ff;have df:=cr;obtain⟨⟨eg,eh,ei,cs⟩,ej,ek,el,em,en,eo⟩:=df;simp at eg eh ei cs ej ek el em en eo;have b0:d.cell? ⟨s,0,none⟩=some (qP H.off):=(by rw[xH d _ 0 _ _ _ ae];rfl);have b1:d.cell? ⟨s,1,none⟩=some (qP H.len):=(by rw[xH d _ 1 _ _ _ ae];rfl);have b2:d.cell? ⟨s,2,none⟩=some (qP H.brk):=(by rw[xH d _ 2 _ _ _ ae];rfl);have E:=q.size;have dg:=zC (show UP zs lo (lo+a) (List.map (λc:{c:Int×Pc //SY zs lo (lo+(a:Int)) c}=>c.1) (m++ [⟨(h,H),cr⟩]))=UP zs lo (lo+a) (List.map (λc:{c:Int×Pc //SY zs lo (lo+(a:Int)) c}=>c.1) m)++YQ (Z7 zs H) (lo-h) (lo+a-h)by rw[Qy,Xn];simp[UP]);have dh:=zC A;have b3:=zC z;have b4:=zC B;have b5:=zC C;have b6:=zC D;have di:=zC q;have dj:=zC (bk.A.I q af);have dk:=zC (c2.A.I q co);obtain⟨ep,eq,rfl⟩:=zS (A);have dl:=λa f=>cell_regrown b0 a f
  have aj:=λa f=>cell_regrown b1 a f
  have ak:=λa f=>cell_regrown b2 a f
  have al:=λa f=>cell_regrown B.cell a f
  have am:=λa f=>cell_regrown C.cell a f
  have dm:=λa f=>cell_regrown D.cell a f
  have dn:=λa f=>cell_regrown z.cell a f
  have ez:=Sf zs lo (lo+(a:Int)) m;generalize d0:UP zs lo (lo+(a:Int)) (List.map (λc:{c:Int×Pc //SY zs lo (lo+(a:Int)) c}=>c.1) m)=ch at *;clear a8 ee ae A z B C D q b0 b1 b2 d0;obtain⟨ct,cu,cv⟩:=H;simp only at *;obtain⟨o,rfl⟩:∃o:Nat,ct=o:=⟨ct.toNat,by omega⟩
  obtain⟨p,rfl⟩:∃p:Nat,cu=p:=⟨cu.toNat,by omega⟩
  have b7:=zC (λa f=>CallsIn.regrown_of (r:=5-1-1-1) (vD.2 (Se k b ad zs.length cap o p cv j (grow (redrawn d a) f) ((dj.A.I (below_regrown d a f) (vh af E)).pk (by omega)) (by omega) (by omega) ea eb)));have dp:IntKind.i64.wrap (lo-h)=lo-h:=(by rw[vU];omega);have dq:IntKind.i64.wrap (lo+a-h)=lo+a-h:=(by rw[vU];omega);clear cs c1 c3 cp bz an ao ap aq bx ar Z aa ab;gi_wp2_with fail;refine Ky 15 (by rfl) (by kernel_rfl) (by rfl) ?_;simp only[vQ,kh,vT,ke]
  repeat (refine wpQuietIn_step (λ_ _ _ _=>xN) (λy l=>?_);go_simp;first | (refine l _ ?_;clear l y) | (apply Exists.intro;refine⟨λ_=>?_,l _ ?_⟩;(first | exact b7.A _ _);clear l y))
  obtain⟨e,bg⟩:∃e:Nat,(if lo-h<0 then 0 else lo-h)=e:=⟨(if lo-h<0 then 0 else lo-h).toNat,by omega⟩
  obtain⟨g,bh⟩:∃g:Nat,(if p<lo+a-h then(p:Int)else lo+a-h)=g:=⟨(if p<lo+a-h then(p:Int)else lo+a-h).toNat,by omega⟩
  have F:(e<=g/\e<p)/\g<=p/\e=(lo-h).toNat/\g-e=min ((lo+a-h).toNat-e) (p-e)/\g<=a+e:=by
   split at bg<;>split at bh<;>omega
  rw[bg,bh];have dr:=zC (Mg zs o p e g cv (lo-h) (lo+(a:Int)-h) F.2.2.1 F.2.2.2.1);have e0:=F.1.1;have e1:=F.1.2;have e2:=F.2.1;have e3:(e:Int)<=g:=(by omega);have e4:g<=((cap-o:Nat):Int):=(by omega);have e5:¬cap-o=e:=(by omega);clear bg bh dp dq F
  (refine wpQuietIn_step (λ_ _ _ _=>xN) (λy l=>?_);go_simp;first | (refine l _ ?_;clear l y))
  refine wpQuietIn_nil ?_;intro _ a2;obtain⟨⟨P,Q⟩,bf⟩:=a2;subst bf;have u:=zC (below_regrown d P Q);clear dl aj ak al am dm dn b7;generalize grow (redrawn d P) Q=ac at *;have b8:=zC (show Boxed ac _ _ _ from(u.A.block _ b3.A.lt).trans b3.A);have I:=zC (zE dh.A u.A lR);have au:=zC (show Boxed ac _ _ _ from(u.A.block _ b4.A.lt).trans b4.A);have av:=zC (show Boxed ac _ _ _ from(u.A.block _ b5.A.lt).trans b5.A);have aw:=zC (show Boxed ac _ _ _ from(u.A.block _ b6.A.lt).trans b6.A);have ds:=zC (dk.A.I u.A (vh co E));have b9:=zC (ds.A.app (o+e) (g-e) (by omega));have ax:((zs.drop (o+e)).take (g-e)).length=g-e:=(by rw[xO,xZ];omega);have dt:=zC ax;have du:=zC (show(zQ .i32 ((zs.drop (o+e)).take (g-e))).length=(g-e)*1 by rw[zc,ax,Nat.mul_one]);have e6:=b8.A.lt;rw[<- QU]at b9;generalize (zs.drop (o+e)).take (g-e)=d3 at *;generalize d1:ch.length=a3 at *;clear ax;gi_wp2_with (gi_at_builtin;refine wpListIn_append_own _ rfl _ _ 25 rfl w.heap.size 21 cj (.int .i32 0) 1 4 underlying25 ck cl cm d8 rfl (by decide) _ a3 (zQ .i32 ch) rfl I.A ⟨b,ad+o+e,none⟩ (g-e) (cap-o-e) (zQ .i32 d3) rfl du.A b9.A (zn _ _) (by grind [maxLen]) (by omega) (by omega) ?_;intro e9 dz ce cf _;obtain⟨bi,bj,rfl⟩:=row_val ce;obtain⟨cw,er,es,et,eu⟩:=app2 b8.A (by decide) I.A (by omega) (by omega) ce cf;have e7:=cw.cell;have e8:=cw.frozen);have ca:=zC ((u.A.G E).trans eu);have dv:=zC (Ps d1 dt.A es);have ay:=zC (λJ x(a9:J≠t.heap.size)(M:some J≠(Value.slice ep a3 eq).ownBlock)=>(xM dz ⟨t.heap.size,0,none⟩ J (.slice bi (a3+(g-e)) bj) a9).trans (cf.block J x M));refine⟨((KeepsOthers.qa u.A).trans et).from _,ca.A,⟨_,er,?_,trivial⟩,?_,?_,?_,di.A.trans ca.A⟩
  ·have az:=dv.A
   unfold zH at az;rw[<- dr.A,<- dg.A]at az;exact az
  ·exact(ay.A _ au.A.lt (by omega) (au.A.not_row (by decide) I.A)).trans au.A
  ·exact(ay.A _ av.A.lt (by omega) (av.A.not_row (by decide) I.A)).trans av.A
  exact(ay.A _ aw.A.lt (by omega) (aw.A.not_row (by decide) I.A)).trans aw.A
 case done=>
  rintro cx fg d fh ev ⟨⟨r,z,A,_⟩,B,C,D,q⟩ l;have cb:=z.cell;have cc:=c0.A;rw[<- ev]at cc
  have cd:=zC (show zH d w.heap.size r (YQ (T.tx zs) lo (lo+(a:Int)))by
   grind [zH])
  have dw:=zC q;have a0:=zC l;obtain⟨bi,bj,rfl⟩:=zS cd.A;generalize d2:(YQ (T.tx zs) lo (lo+(a:Int))).length=d4 at *;clear cc A q B C D d2;gi_wp2;refine⟨by simp,.inl ⟨_,_,rfl,run_takeDeferred a0.A,?_⟩⟩;have dx:=ownsRow_putObj cd.A (.deferred none) a0.A rfl;have dy:=dw.A.trans (belowK_b (w:=w) lR _ cx _ (.deferred none) (by omega) a0.A rfl rfl);exact⟨.slice bi d4 bj,by simp[results,results245,go_sem],_,rfl,dx,dy⟩
 rintro cx k m d _ _ K _;exact K.elim
end
section
open Go.Sort
def IA(o p q T r d i k s l:Nat)(L pb r2 r3 r5)(u)(w)(D:PK w o p q T r u)(X:1<=L/\L<=8192)(Z:0<=r2/\r2<=8192)(aa:l<=8192)
  (E:Hid (VM prog 252 #[.pointer u,qP (L-1),.func (.func 262) #[] #[]] w λe g=>e=V5 (Ya d i pb (s,r2,r3,k,r5))/\qa3 w g))
  (F:Hid (∀h,qa3 w h->VM prog 254 #[V3 o 0,.agg #[qP d,qP i,qP pb]] h λe g=>e=V5 (VZ (qQ p (q+d)) i (r-d))/\qa3 h g))
  (G:Hid (∀h,qa3 w h->VM prog 263 #[VZ (qQ p (q+d)) i (r-d),qP k] h λe g=>e=V5 (qP l)/\qa3 h g)):
  VM prog 255 #[V3 o 0,qP L] w λe g=>e=V5 (qP (r2+l))/\qa3 w g:=by
 have I:=D.c1;clear D;go_enter func255,ntmps255;go_wp2_with fail;refine E.G ?_;rintro e f ⟨rfl,t⟩;have m:=zC (t.alloc t.size (V6 #[qP d,qP i,qP pb,qP s,qP r2,qP r3,qP k,qP r5] 339));have v:(f.alloc (V6 #[qP d,qP i,qP pb,qP s,qP r2,qP r3,qP k,qP r5] 339)).heap[N (Y f)]?=O _:=xJ _ _;have j:=zC v;have n:=m.size;clear t E I v;unfold Ya;simp;go_upto_region 4 with fail;generalize f.alloc _=a at*;have x:VE a (V4 (N (Y f)) 0)=O (qP d):=by rw[xH a _ 0 _ _ _ j.A];rfl
 have y:VE a (V4 (N (Y f)) 1)=O (qP i):=by rw[xH a _ 1 _ _ _ j.A];rfl
 have z:VE a (V4 (N (Y f)) 2)=O (qP pb):=by rw[xH a _ 2 _ _ _ j.A];rfl
 have A:VE a (V4 (N (Y f)) 4)=O (qP r2):=by rw[xH a _ 4 _ _ _ j.A];rfl
 have B:VE a (V4 (N (Y f)) 6)=O (qP k):=by rw[xH a _ 6 _ _ _ j.A];rfl
 have J:=λb c=>qa6 x b c
 have K:=λb c=>qa6 y b c
 have M:=λb c=>qa6 z b c
 have P:=λb c=>qa6 A b c
 have Q:=λb c=>qa6 B b c
 have HT:=zC (λb c=>Calls.regrown_of (F _ (m.R ((qa7 a b c).G n))));have C:=zC (λb c=>Calls.regrown_of (G _ (m.R ((qa7 a b c).G n))));have W:IntKind.i64.wrap (r2+l)=r2+l:=by rw[vU];omega
 clear x y z A B F G;refine wp_region_quiet_below (by rfl) VU ?_
 repeat (quiet_step (first | exact HT _ _ | exact C _ _))
 refine wpQuiet_nil ?_;intro _ S;obtain⟨⟨U,H⟩,V⟩:=S;subst V;have R:=zC (m.R ((qa7 a U H).G n));clear J K M P Q HT C;generalize grow _ H=wd at*;go_wp2;go_ret;exact⟨rfl,R⟩
def Sm{w b o zs}(d:Ue w b o zs)(q m)(g:q+m<=L zs):∀a,a<L ((zs.drop q).take m)->VE w (V4 b (o+q+a))=O (.int .i32 (((zs.drop q).take m).getD a 0)):=by
 intro a c;have e:a<m:=by rw[xO]at c;omega
 have f:=d (q+a) VC
 grind
def Yy(T)(base c b o cap)(zs)(a)(w)(i:JS w base c b o cap zs T)(ah:a<=jV (T.tx zs)):
  VM prog 255 #[V3 c 0,qP a] w λp q=>p=V5 (qP (ls (T.tx zs) a))/\qa3 w q:=by
 have z:=AT.qD i.wp;rw[yr]at z;have X:=i.ok.bd;cases a with
 | zero=>
  clear i;go_enter func255,ntmps255;go_wp2;go_ret;exact⟨rfl,xF _ _⟩
 | succ a=>
  obtain⟨r,ai,H,s⟩:=J8 zs T a i.wp VC VC;obtain⟨⟨m,I,g,J⟩,K,M,P,t,aj,Q,R⟩:=i
  have g:=g.pk (by
   grind [jV,Nat.eq_zero_or_pos,List.eq_nil_of_length_eq_zero,EC])
  have A:=seekEB T m I base a w J P VC;rw[yr]at H;rw[Wx];rw[kQ]at s;have Z:=H3 (Z7 zs (zX (λd=>d.brk) T a));have aa:=Z8 r;obtain⟨ak,al,am,an⟩:=r;have B:Z7 zs (zX (λd=>d.brk) T a)=(zs.drop (zX (λd=>d.brk) T (a:Int)).off.toNat).take (zX (λd=>d.brk) T (a:Int)).len.toNat:=rfl;have ab:=(YD zs (λd=>d.brk) T a t).1;have ac:=Y3 (Z7 zs (zX (λd=>d.brk) T a)) (zP (λd=>d.brk) T a).2.2.2.1.toNat;have ad:=Y3 (T.tx zs) a;have ae:=AT.qg t;generalize Z7 zs (zX (λd=>d.brk) T (a:Int))=j at*;generalize bb (T.tx zs) a=af at*;generalize zX (λd=>d.brk) T a=E at*;generalize zP (λd=>d.brk) T a=F at*;obtain⟨u,v,x⟩:=E;obtain⟨S,U,V,y,W⟩:=F;simp only at*;obtain⟨e,rfl⟩:∃e:Nat,u=e:=⟨u.toNat,VC⟩
  obtain⟨f,rfl⟩:∃f:Nat,v=f:=⟨v.toNat,VC⟩
  obtain⟨h,rfl⟩:∃h:Nat,y=h:=⟨y.toNat,VC⟩
  simp only[kQ]at *;have C:(((a+1:Nat):Int))-1=a:=VC;have D:L j=f:=VC;rw[s]
  refine IA c b o (L zs) cap e f h S (bb j h) _ x U V W m w g VC VC VC (by rw[C];exact zC A)
   (zC λk l=>Se c b o (L zs) cap e f x m k (g.I l g.lt) VC VC Q R)
   (zC λk l=>?_)
  have n:=behindN j b (o+e) (cap-e) h k (by rw[B];exact Sm (K.I l M) e f VC) VC VC VC VC;rw[D]at n;exact n.G λp q⟨G,ag⟩=>⟨G,by grind [Below.refl]⟩
def Fh(ad)(n V W X Z k g i q r l:Nat)(off pb r2 r3 r5 Y)(u)(w)(C:Sd w n V W X Z u)(ag:0<=off/\off<=8192)(ah:0<=r3/\r3<=8192)(ai:0<=Y/\Y<=8192)(aj:r<=8192)(ak:i<=g)(al:g<=l)(aa:l<=VL)
  (D:Hid (VM prog 252 #[.pointer u,qP off,.func (.func 253) #[] #[]] w λd f=>d=V5 (Ya k g pb (q,r2,r3,i,r5))/\qa3 w f))
  (E:Hid (∀e,qa3 w e->VM prog 254 #[V3 n 0,.agg #[qP k,qP g,qP pb]] e λd f=>d=V5 (VZ ad g l)/\qa3 e f))
  (F:Hid (∀e,qa3 w e->VM prog 72 #[VZ ad i l] e λd f=>d=V5 (qP Y)/\qa3 e f))
  (G:Hid (∀e,qa3 w e->VM prog 255 #[V3 n 0,qP (r3+Y)] e λd f=>d=V5 (qP r)/\qa3 e f)):
  VM prog 240 #[V3 n 0,qP off] w λd f=>d=V5 (.tuple #[qP (r3+Y),qP (off-r)])/\qa3 w f:=by
 have J:=C.c1;unfold VL at aa;clear C;go_enter func240,ntmps240;go_wp2_with fail;refine D.G ?_;rintro d h ⟨rfl,s⟩;have m:=zC (s.alloc s.size (V6 #[qP k,qP g,qP pb,qP q,qP r2,qP r3,qP i,qP r5] 339));have t:(h.alloc (V6 #[qP k,qP g,qP pb,qP q,qP r2,qP r3,qP i,qP r5] 339)).heap[h.heap.size]?=O _:=xJ _ _;have j:=zC t;have o:=m.size;clear s D J t;unfold Ya;simp;go_upto_region 2 with fail;generalize h.alloc _=a at*;have v:VE a (V4 h.heap.size 0)=O (qP k):=by rw[xH a _ 0 _ _ _ j.A];rfl
 have x:VE a (V4 h.heap.size 1)=O (qP g):=by rw[xH a _ 1 _ _ _ j.A];rfl
 have y:VE a (V4 h.heap.size 2)=O (qP pb):=by rw[xH a _ 2 _ _ _ j.A];rfl
 have z:VE a (V4 h.heap.size 5)=O (qP r3):=by rw[xH a _ 5 _ _ _ j.A];rfl
 have A:VE a (V4 h.heap.size 6)=O (qP i):=by rw[xH a _ 6 _ _ _ j.A];rfl
 have K:=λb c=>qa6 v b c
 have M:=λb c=>qa6 x b c
 have P:=λb c=>qa6 y b c
 have Q:=λb c=>qa6 z b c
 have R:=λb c=>qa6 A b c
 have HT:=zC (λb c=>Calls.regrown_of (E _ (m.R ((qa7 a b c).G o))));have B:=zC (λb c=>Calls.regrown_of (F _ (m.R ((qa7 a b c).G o))));have ae:IntKind.i64.wrap (r3+Y)=r3+Y:=by rw[vU];omega
 have af:(i:Int)<=l:=VC
 clear v x y z A E F;refine wp_region_quiet_below (by rfl) VU ?_
 repeat (quiet_step (first | exact HT _ _ | exact B _ _))
 refine wpQuiet_nil ?_;intro _ U;obtain⟨⟨ab,H⟩,ac⟩:=U;subst ac;have p:=zC (m.R ((qa7 a ab H).G o));clear K M P Q R HT B;generalize grow _ H=wd at*;have S:=p.size;go_wp2_with fail;refine(G _ p).G ?_;rintro d am ⟨rfl,I⟩;have T:=zC (p.R (I.G S));clear I G;go_wp2;go_ret2;exact⟨rfl,T⟩
def Sn:∀{a:AT},a.ok->a.wp []->a= .nil:=λ{a}hok hwp=>by
 cases hT:a with
 | nil=>rfl
 | tN h b i=>
  have c:b∈a.tF:=(by rw[hT];simp[AT.tF]);have d:=jk hok b c;obtain⟨e,f,g,_⟩:=(ze [] a).1 hwp b c
  grind
def textZ(c)(pb)(u)(w)(a:w.heap[c]?=O (V6 #[V0,.pointer u] 101 (0,0))):
  VM prog 254 #[V3 c 0,.agg #[qP 0,qP 0,qP pb]] w λf g=>f=V5 V0/\qa3 w g:=by
 have b:=zC ((xF _ w).alloc lR (V6 #[qP 0,qP 0,qP pb] 85));have h:(w.alloc _).cell? _=O V0:=(b.U (xG.1 a).1).R (by rw[xH w _ 0 _ _ _ a];rfl);have KA:(w.alloc (V6 #[qP 0,qP 0,qP pb] 85)).heap[N (Y w)]?=O _:=xJ _ _;have i:VE (w.alloc (V6 #[qP 0,qP 0,qP pb] 85)) (V4 (N (Y w)) 0)=O (qP 0):=by rw[xH _ _ 0 _ _ _ KA];rfl
 have j:VE (w.alloc (V6 #[qP 0,qP 0,qP pb] 85)) (V4 (N (Y w)) 1)=O (qP 0):=by rw[xH _ _ 1 _ _ _ KA];rfl
 clear a KA;go_enter func254,ntmps254;go_wp2_with fail;generalize w.alloc _=e at*;go_quiet (fail);have d:=zC (show Below _ w (e.drewN nq)from b.R (WM _ _ _));go_wp2;go_ret;exact⟨rfl,d⟩
def So(T)(base c b o cap)(zs)(a)(w)(f:JS w base c b o cap zs T)(t:a<=L (T.tx zs)):
  VM prog 240 #[V3 c 0,qP a] w λp q=>p=V5 (.tuple #[qP (J9 (T.tx zs) a),qP (XM (T.tx zs) a)])/\qa3 w q:=by
 obtain⟨k,u,v,x⟩:=f.k;obtain l|⟨W,l⟩:=id v
 rotate_left
 ·obtain rfl:=xR W
  have E:=Sn f.ok f.wp;subst E;obtain rfl:=(by simpa[AT.tx]using t);have m:=λe g=>Yy .nil base c b o cap [] 0 e (f.I g lR) (xY _)
  refine(Fh none c b o 0 cap 0 0 0 0 0 0 0 0 0 0 0 0 k w (.inr ⟨rfl,l⟩) VC VC VC VC VC VC VC (zC (Gq .nil k u base 0 w x f.ok VS))
   (zC λe g=>textZ c 0 k e ((g.block c (xG.1 l).1).R l))
   (zC λe g=>?_) (zC m)).G ?_
  ·exact(Xh [] _ e (.inl ⟨_,_,rfl,VT⟩) VT).G λp q⟨r,S⟩=>⟨r,by grind [Below.refl]⟩
  rintro p q ⟨rfl,X⟩;exact⟨rfl,X⟩
 have aj:=AT.qg f.wp;have ak:=f.ok.bd;obtain⟨y,au,av,z⟩:=Xl zs T a f.wp VC VC;have al:=(YD zs (λd=>d.len) T a f.wp).2;have F:=J7 (T.tx zs) a;have G:=H3 ((T.tx zs).take a);rw[xO]at G;have am:=Uj (T.tx zs) a t;have m:=λe g=>Yy T base c b o cap zs (jV ((T.tx zs).take a)) e (f.I g lR) F
 obtain⟨_,Z,aa,ab,ac,aw,ad,ae⟩:=f;have H:=v;have I:=x;have J:=Gq T k u base a w I ab VC;rw[kQ,yr]at z;have an:=Z8 y;obtain⟨ax,ay,az,a0⟩:=y;have ao:Z7 zs (zX (λd=>d.len) T a)=(zs.drop (zX (λd=>d.len) T (a:Int)).off.toNat).take (zX (λd=>d.len) T (a:Int)).len.toNat:=rfl;have ap:=WF zs T a ac VC;have K:=J5 ((Z7 zs (zX (λd=>d.len) T a)).take (zP (λd=>d.len) T a).2.2.2.1.toNat);rw[xO]at K;unfold J9 XM;generalize Z7 zs (zX (λd=>d.len) T (a:Int))=n at*;generalize jV ((T.tx zs).take a)=P at*;generalize zX (λd=>d.len) T a=Q at*;generalize zP (λd=>d.len) T a=R at*;obtain⟨A,B,C⟩:=Q;obtain⟨af,ag,ah,D,ai⟩:=R;simp only at*;obtain⟨h,rfl⟩:∃h:Nat,A=h:=⟨A.toNat,VC⟩
 obtain⟨j,rfl⟩:∃j:Nat,B=j:=⟨B.toNat,VC⟩
 obtain⟨i,rfl⟩:∃i:Nat,D=i:=⟨D.toNat,VC⟩
 simp only[kQ]at *;have aq:L n=j:=VC
 rw[z]at m |-
 refine Fh (qQ b (o+h)) c b o (L zs) cap h j i af (ls (T.tx zs) P) (cap-h) _ C ag ah ai (brk (n.take i)) k w H VC VC VC VC VC VC VC (zC J)
  (zC λe g=>Se c b o (L zs) cap h j C k e (l.I g l.lt) VC VC ad ae)
  (zC λe g=>?_) (zC m)
 have s:L (n.take i)=i:=by rw[xO];omega
 refine(Xh (n.take i) _ e ?_ VC).G λp q⟨r,S⟩=>⟨r,by grind [Below.refl]⟩
 by_cases M:i=0
 ·subst M;exact .inl ⟨_,_,rfl,VT⟩
 refine .inr ⟨b,o+h,cap-h,by rw[s],⟨VC,VC,VC⟩,λU V=>?_⟩;rw[s]at V;have ar:=Sm (Z.I g aa) h j VC U (by grind)
 grind
end
def Ot(b:AT)(d e l m n:Nat)(o:qa0)(a:V8)(p:JS a d e l m n o b):
  VM prog 237 #[V3 e 0] a λc k=>c=V5 (qP b.bks)/\qa3 a k:=by
 obtain⟨⟨q,r,f,g⟩,_⟩:=p;have s:=f.c1;have i:=zC (JU b q r d a g);clear f g;go_enter func237,ntmps237;go_wp2_with fail;refine i.G ?_;rintro c u ⟨rfl,h⟩;have j:=zC h;have t:=Tryz.fld2;unfold Zu;clear h;go_wp2;go_ret;exact⟨rfl,j⟩
def Fi(b:AT)(q m r s t:Nat)(c:qa0)(a:Nat)(h:V8)(g:JS h q m r s t c b)(G:a<=jV (b.tx c)):
  VM prog 241 #[V3 m 0,qP (a:Int)] h λd P=>d=V5 (qP (((le (b.tx c) a:Nat):Int)-(ls (b.tx c) a:Nat)))/\qa3 h P:=by
 have u:=AT.qD g.wp;rw[yr]at u;have v:=AT.qg g.wp;have V:=g.ok.bd;have D:=zC (Oo b q m r s t c h g);have E:=zC (λl(C:qa3 h l)=>Ot b q m r s t c l (g.I C lR));have i:=zC (fun(Q:Nat) R l (C:qa3 h l)=>Yy b q m r s t c Q l (g.I C lR) R);have F:=OQ (b.tx c) a;clear g;by_cases A:a<jV (b.tx c)
 ·have j:le (b.tx c) a=bb (b.tx c) a-1:=by unfold le;rw[xU A]
  have W:=Ha (b.tx c) a A;have X:=Y3 (b.tx c) a;rw[j];have w:=zC (i (a+1) VC);rw[Wx]at w;have x:=zC (i a G);have I:(a:Int)<b.bks:=VC;generalize bb (b.tx c) a=B at*;generalize ls (b.tx c) a=k at*;have J:=zC (show((B-1:Nat):Int)-(k:Int)=(B:Int)-1-(k:Int)by omega);have K:=zC (show(((a+1:Nat):Int))=(a:Int)+1 by omega);rw[K.A]at w;rw[J.A];have M:B<=8192/\k<=8192:=VC;clear j F i u v;go_enter func241,ntmps241;go_wp2_with fail;refine D.G ?_;rintro d S ⟨rfl,n⟩;have e:=zC n;clear n;go_wp2_with fail;refine(E _ e).G ?_;rintro d T ⟨rfl,o⟩;have f:=zC (e.R (o.G e.size));clear o;go_wp2_with fail;refine(w _ f).G ?_;rintro d Z ⟨rfl,H⟩;have y:=zC (f.R (H.G f.size));clear H;go_wp2_with fail;refine(x _ y).G ?_;rintro d U ⟨rfl,p⟩;have z:=zC (y.R (p.G y.size));clear p;go_wp2;go_ret;exact⟨rfl,z⟩
 have j:le (b.tx c) a=L (b.tx c):=by unfold le;rw[xK A]
 rw[j];have x:=zC (i a G);have I:¬ (a:Int)<b.bks:=VC
 generalize ls (b.tx c) a=k at*;rw[v];have M:k<=8192:=VC
 clear j F i u v;go_enter func241,ntmps241;go_wp2_with fail;refine D.G ?_;rintro d S ⟨rfl,n⟩;have e:=zC n;clear n;go_wp2_with fail;refine(E _ e).G ?_;rintro d T ⟨rfl,o⟩;have f:=zC (e.R (o.G e.size));clear o;go_wp2_with fail;refine(x _ f).G ?_;rintro d U ⟨rfl,p⟩;have z:=zC (f.R (p.G f.size));clear p;go_wp2;go_ret;exact⟨rfl,z⟩
def offsetN(a:AT)(i g j k l:Nat)(b:qa0)(c:Nat)(d:Int)(e:V8)(f:JS e i g j k l b a)(s:c<=jV (a.tx b))(w:0<=d/\d<=8192):
  VM prog 243 #[V3 g 0,qP (c:Int),qP d] e λh r=>h=V5 (qP (((ls (a.tx b) c:Nat):Int)+d))/\qa3 e r:=by
 have n:=AT.qg f.wp;have t:=f.ok.bd;have o:=zC (Yy a i g j k l b c e f s);have p:=OQ (a.tx b) c;have u:ls (a.tx b) c<=8192:=VC
 generalize ls (a.tx b) c=v at*;clear f n p;go_enter func243,ntmps243;go_wp2_with fail;refine o.G ?_;rintro h x ⟨rfl,m⟩;have q:=zC m;clear m;go_wp2;go_ret;exact⟨rfl,q⟩
def IB{xs:List It}{j:Nat}{x:It}{off:Int}(a:xs[j]?=O x)(e:¬off-total (xs.take j)<=0):yo (xs.drop j) (off-total (xs.take j))=1+yo (xs.drop (j+1)) (off-total (xs.take (j+1))):=by
 have c:j<L xs:=by
  obtain b|b:=kC j (L xs)
  ·exact b
  rw[vY b]at a;cases a
 have d:xs.drop j=x::xs.drop (j+1):=by
  rw[ko c]
  congr 1
  rw[xI c]at a;exact kK a
 rw[d,yo,xK e,Yo a,ji]
 congr 2
 simp only[total];omega
def Fk(p:Nat)(u:Jo)(b:List It)(d:Int)(k:V8)(q:ZX p k u b)(V:L b<=8192)(r:Pcs b):
  VM prog 35 #[u,qP d] k λg M=>g=V5 (qP (yo b d:Nat))/\M=k:=by
 obtain⟨P,v,rfl⟩:=q.val
 have s:∀a<L b,∃j d c,P=O (V4 j d)/\b[a]?=O c/\Hc k j (d+a*4) c:=by
  intro a m;obtain⟨j,d,W,g,_,X,Q⟩:=q.at (by intro g;subst g;simp at m)
  cases g;obtain⟨c,R,S⟩:=Oe (B:=p) (cap:=v) Q m;exact⟨j,d,c,rfl,R,S⟩
 have x:=zC s;have y:=zC r;have HT:=zC (λa=>r.total a);have z:=zC (fun(a:Nat) (c:It) e n=>IB (xs:=b) (j:=a) (x:=c) (off:=d) e n);have A:=zC (fun(a:Nat) n=>WL (b.drop a) (d-total (b.take a)) n);have B:=zC (fun(a:Nat) (c:It) (e:b[a]?=O c)=>show total (b.take (a+1))=total (b.take a)+c.pc.len by rw[Yo e,ji];simp[total]);have C:=zC (show yo (b.drop (L b)) (d-total (b.take (L b)))=0 by rw[Vj];rfl);have D:=zC (λa=>show(L (b.take a))<=a by rw[xO];omega);generalize U:L b=h at*;clear q s r;generalize t:yo b d=i;have HR:=zC (show i=0+yo (b.drop 0) (d-total (b.take 0))by rw[<- t];simp[total]);clear t;go_enter func35,ntmps35;go_wp2_with fail;go_loop [5,9] (λc o=>∃a:Nat,a<=h/\o=qP a/\c=qP (total (b.take a))/\i=a+yo (b.drop a) (d-total (b.take a))) (λc o=>h-(VN o).toNat)
 case atStart=>exact⟨0,xY _,rfl,by simp[total],HR⟩
 obtain⟨a,m,rfl,rfl,w⟩:=hrel;have l:=zC w;have ht:=HT a;have E:=D a;clear w;by_cases J:a<h
 ·obtain⟨j,Z,c,rfl,e,aa,ab,ac,ad⟩:=x a J
  have T:(a:Int)<h:=VC;have F:=y c (kG.2 ⟨a,e⟩);simp only[jU,vn]at F;have G:=zC (B a c e);have Tv:=zC (z a c e);have H:=zC (A a);generalize total (b.take a)=K at*;by_cases I:K>=d
  ·have f:=zC (show i=a by rw[l.A,H.A VC];omega)
   clear e;go_wp2;go_ret;exact⟨by rw[f.A];rfl,rfl⟩
  have f:=zC (show i=(a+1:Nat)+yo (b.drop (a+1)) (d-total (b.take (a+1)))by rw[l.A,Tv.A VC];omega);clear e;go_wp2;go_round
  case rel=>exact⟨a+1,VC,VY,by rw[G.A],f⟩
  simp[VN];omega
 obtain rfl:a=h:=VC
 have I:¬ (a:Int)<(a:Int):=VC
 have f:=zC (show i=a by rw[l.A,C.A];omega);clear ht E;go_wp2;go_ret;exact⟨by rw[f.A];rfl,rfl⟩
def Hj{w b off}{d:List It}(e:∀c a,d[c]?=O a->Hc w b (off+c*4) a){j a}(f:d[j]?=O a):VE w (V4 b (off+j*4+3))=O (qP a.lv):=(e j a f).2.2.2
def ID(B)(v)(X)(w)(y:ZX B w v X)(aa:L X<=1048576)(a m h)(e)(j:Hi X a m h e):
  VM prog 71 #[v,qP m] w λG H=>G=V5 (.tuple #[qP a,qP h])/\∃I,H=w.drewN I:=by
 have A:=j.ai;have R:=j.ih;have S:=j.hl;obtain⟨ab,ac,ad,rfl,⟨ae,af,J⟩,ag,u⟩:=y.at (by grind)
 obtain⟨K,z,rfl⟩:=j.mid;have T:=Hj u z;have n:=zC u;have C:=zC j.lft;have HR:=zC j.rgt;have D:=zC j.bef;have x:=zC j.beh;unfold VL at J;generalize W:L X=f at*;generalize K.lv=Z at*;clear u y j z;have U:(m:Int)<f:=VC
 go_enter func71,ntmps71;go_wp2;go_loopw [6] (λt wr=>∃b nq:Nat,a<=b/\b<=m/\t=qP b/\wr=w.drewN nq) (λt _=>(VN t).toNat)
 case atStart=>exact⟨m,0,A,lR,rfl,rfl⟩
 obtain⟨b,nq,ah,ai,rfl,rfl⟩:=hrel;by_cases V:a<b
 ·obtain⟨i,rfl⟩:∃i,b=i+1:=⟨b-1,VC⟩
  obtain⟨g,c,q⟩:=C i VC VC;have o:=Hj n c;generalize g.lv=p at*;have E:(0:Int)<i+1:=VC;have k:(i:Int)<f:=VC;clear c;go_wp2;go_quiet (fail);go_wp2;go_roundw
  case rel=>grind
  simp[VN]
 obtain rfl:b=a:=VC
 by_cases F:b=0
 ·subst F
  go_wp2;go_quiet (fail);go_wp2;go_loopw [7] (λl wr=>∃b nq:Nat,m+1<=b/\b<=h/\l=qP b/\wr=w.drewN nq) (λl _=>h-(VN l).toNat)
  case atStart=>exact⟨_,_,lR,VC,VY,rfl⟩
  obtain⟨d,M,P,Q,rfl,rfl⟩:=hrel;by_cases r:d<h
  ·obtain⟨g,c,q⟩:=HR.A d VC r
   have o:=Hj n c;generalize g.lv=p at*;have k:(d:Int)<f:=VC;clear c;go_wp2;go_quiet (fail);go_wp2;go_roundw
   case rel=>exact⟨d+1,_,VC,VC,VY,rfl⟩
   grind [VN]
  obtain rfl:d=h:=VC;by_cases s:d<f
  ·obtain⟨g,c,q⟩:=x.A s
   have o:=Hj n c;generalize g.lv=p at*;have k:(d:Int)<f:=VC;clear c;go_wp2;go_quiet (fail);go_wp2;refine vE (by simp[results,go_sem]) rfl ⟨rfl,_,World.drewN_drewN _ _ _⟩
  have k:¬ (d:Int)<f:=VC;go_wp2;go_quiet (fail);go_wp2;refine vE (by simp[results,go_sem]) rfl ⟨rfl,_,World.drewN_drewN _ _ _⟩
 obtain⟨i,rfl⟩:∃i,b=i+1:=⟨b-1,VC⟩
 obtain⟨g,c,q⟩:=D VC;rw[Qw]at c;have o:=Hj n c;generalize g.lv=p at*;have E:(0:Int)<i+1:=VC
 have k:(i:Int)<f:=VC
 clear c;go_wp2;go_quiet (fail);go_wp2;go_loopw [7] (λl wr=>∃b nq:Nat,m+1<=b/\b<=h/\l=qP b/\wr=w.drewN nq) (λl _=>h-(VN l).toNat)
 case atStart=>exact⟨_,_,lR,VC,VY,rfl⟩
 obtain⟨d,M,P,Q,rfl,rfl⟩:=hrel;by_cases r:d<h
 ·obtain⟨g,c,q⟩:=HR d VC r
  have o:=Hj n c;generalize g.lv=p at*;have k:(d:Int)<f:=VC;clear c;go_wp2;go_quiet (fail);go_wp2;go_roundw
  case rel=>exact⟨d+1,_,VC,VC,VY,rfl⟩
  grind [VN]
 obtain rfl:d=h:=VC
 by_cases s:d<f
 ·obtain⟨g,c,q⟩:=x s
  have o:=Hj n c;generalize g.lv=p at*;have k:(d:Int)<f:=VC;clear c;go_wp2;go_quiet (fail);go_wp2;refine vE (by simp[results,go_sem]) rfl ⟨rfl,_,World.drewN_drewN _ _ _⟩
 have k:¬ (d:Int)<f:=VC
 go_wp2;go_quiet (fail);go_wp2;refine vE (by simp[results,go_sem]) rfl ⟨rfl,_,World.drewN_drewN _ _ _⟩
def Ow{M}:∀(b)(a),(∀c∈b,0<=c.lv/\c.lv<=M)->0<=a/\a<=M->0<=Yc a b/\Yc a b<=M
 | [],a,_,d=>d
 | g::b,a,f,d=>Ow b _ (λc e=>f c (by simp[e])) (by grind)
def Ox{M}:∀(b)(a),(∀c∈b,0<=c.lv/\c.lv<=M)->0<=a/\a<=M->0<=Yd a b/\Yd a b<=M
 | [],a,_,d=>d
 | g::b,a,f,d=>Ox b _ (λc e=>f c (by simp[e])) (by grind)
def hgt_seg{X lo hi x}(a:X[lo]?=O x)(b:lo<hi):hgt (Zx X lo hi)=Yd x.lv (Zx X lo hi)-Yc x.lv (Zx X lo hi)+1:=by
 rw[UQ X lo lo hi x lR b a,EB X lo lo lR];rfl
def DF(B)(v)(X)(w)(m:ZX B w v X)(Z:L X<=1048576)(q:∀c∈X,0<=c.lv/\c.lv<=1000000)(a d)(J:a<=d)(aa:d<=L X):
  VM prog 90 #[v,qP a,qP d] w λF G=>F=V5 (qP (hgt (Zx X a d)))/\G=w:=by
 by_cases E:a<d
 ·obtain⟨ab,ac,K,rfl,⟨ad,ae,M⟩,af,r⟩:=m.at (by grind)
  obtain⟨c,n⟩:∃c,X[a]?=O c:=⟨_,xI VC⟩
  have P:=Hj r n;have s:=zC (hgt_seg n E);have z:=zC r;have t:=q c (kG.2 ⟨a,n⟩);have A:=zC (show ∀b,(0<=Yc c.lv (Zx X a b)/\Yc c.lv (Zx X a b)<=1000000)/\(0<=Yd c.lv (Zx X a b)/\Yd c.lv (Zx X a b)<=1000000)from λb=>⟨Ow _ _ (λH I=>by grind [On,List.mem_iff_getElem?]) t,Ox _ _ (λH I=>by grind [On,List.mem_iff_getElem?]) t⟩);have u:=zC (show Yc c.lv (Zx X a a)=c.lv/\Yd c.lv (Zx X a a)=c.lv from by rw[EB X a a lR];exact⟨rfl,rfl⟩);generalize hgt (Zx X a d)=W at s |-;generalize c.lv=e at*;unfold VL at M;generalize V:L X=x at*;clear r m n q;have C:¬ (d:Int)<=a:=VC;have Q:(a:Int)<x:=VC;go_enter func90,ntmps90;go_wp2;go_loopw [7,8,9] (λl h p wr=>∃b:Nat,a<=b/\b<=d/\l=qP (Yc e (Zx X a b))/\h=qP (Yd e (Zx X a b))/\p=qP b/\wr=w) (λ_ _ p _=>d-(VN p).toNat)
  case atStart=>exact⟨a,lR,J,by rw[u.A.1],by rw[u.A.2],rfl,rfl⟩
  obtain⟨b,ag,ah,rfl,rfl,rfl,rfl⟩:=hrel;by_cases U:b<d
  ·obtain⟨f,y⟩:∃f,X[b]?=O f:=⟨_,xI VC⟩
   have R:=Hj z y;have i:=zC (show Yc e (Zx X a (b+1))=(if f.lv<Yc e (Zx X a b)then f.lv else Yc e (Zx X a b))from by simp_all[Fg,Mj]);have j:=zC (show Yd e (Zx X a (b+1))=(if Yd e (Zx X a b)<f.lv then f.lv else Yd e (Zx X a b))from by simp_all[Fg,Ml]);generalize Yc e (Zx X a b)=l at*;generalize Yd e (Zx X a b)=h at*;generalize f.lv=o at*;have D:(b:Int)<d:=VC;have S:(b:Int)<x:=VC;clear y;by_cases k:o<l
   ·by_cases g:h<o
    ·go_wp2
     go_roundw
     case rel=>exact⟨b+1,VC,VC,by rw[i.A,xU k],by rw[j.A,xU g],VY,VT⟩
     grind [VN]
    go_wp2;go_roundw
    case rel=>exact⟨b+1,VC,VC,by rw[i.A,xU k],by rw[j.A,xK g],VY,VT⟩
    grind [VN]
   by_cases g:h<o
   ·go_wp2
    go_roundw
    case rel=>exact⟨b+1,VC,VC,by rw[i.A,xK k],by rw[j.A,xU g],VY,VT⟩
    grind [VN]
   go_wp2;go_roundw
   case rel=>exact⟨b+1,VC,VC,by rw[i.A,xK k],by rw[j.A,xK g],VY,VT⟩
   grind [VN]
  obtain rfl:b=d:=VC;have T:=A b;generalize Yc e (Zx X a b)=l at*;generalize Yd e (Zx X a b)=h at*;have D:¬ (b:Int)<b:=VC;go_wp2;go_ret;exact⟨by rw[s.A];rfl,rfl⟩
 obtain⟨ai,K,rfl⟩:=m.val;rw[EB X a d VC];have C:(d:Int)<=a:=VC
 clear m q;go_enter func90,ntmps90;go_wp2;go_ret;exact⟨rfl,rfl⟩
def Sy(B)(v)(X)(w)(m:ZX B w v X)(M:L X<=1048576)(n:X≠ [])(lo hi)(z:lo<=hi)(P:hi<=L X):
  VM prog 68 #[v,qP lo,qP hi] w λt u=>∃b:Nat,t=V5 (qP b)/\Am X lo hi b/\∃e,u=w.drewN e:=by
 obtain⟨Q,R,S,rfl,⟨T,U,A⟩,V,o⟩:=m.at n;have k:=zC o;have l:=zC (show ∀a<L X,∃g,X[a]?=O g from λa x=>⟨_,xI x⟩);unfold VL at A;generalize K:L X=f at*;clear o m n;go_enter func68,ntmps68;go_wp2;go_loopw [7,8] (λy h wr=>∃b a nq:Nat,lo<=a/\a<=hi/\Am X lo a b/\y=qP b/\h=qP a/\wr=w.drewN nq) (λ_ h _=>hi-(VN h).toNat)
 case atStart=>exact⟨lo,lo,0,lR,z,Am.start X lo,rfl,rfl,rfl⟩
 obtain⟨b,a,nq,C,W,d,rfl,rfl,rfl⟩:=hrel;by_cases J:a<hi
 ·have p:b<f:=by
   obtain⟨Z,aa,ab⟩:=d;obtain D|D:=kC lo a
   ·omega
   omega
  obtain⟨g,i⟩:=l.A a VC;obtain⟨E,j⟩:=l b p;have F:=Hj k i;have G:=Hj k j;have c:=zC (d.step C i j);generalize g.lv=r at*;generalize E.lv=s at*;have q:(a:Int)<hi:=VC;have H:(a:Int)<f:=VC;have I:(b:Int)<f:=VC;clear i j d;by_cases e:r<s
  ·rw[xU e]at c
   go_wp2;go_quiet (fail);go_wp2;go_roundw
   case rel=>exact⟨a,_,_,VC,VC,c,rfl,VY,rfl⟩
   grind [VN]
  rw[xK e]at c;go_wp2;go_quiet (fail);go_wp2;go_roundw
  case rel=>exact⟨b,_,_,VC,VC,c,rfl,VY,rfl⟩
  grind [VN]
 obtain rfl:a=hi:=VC
 have c:=zC d;have q:¬ (a:Int)<a:=VC
 clear d;go_wp2;go_ret;exact⟨b,rfl,c,_,rfl⟩
theorem Oy:∀(Y)(a)(b)(c),Y[a]?=O b->(zG Y).set (a*4+3) (qP c)=zG (Y.set a ⟨b.pc,c⟩)
 | [],a,b,c,d=>by simp at d
 | e::Y,0,b,c,d=>by
  grind [zG,Jg]
 | e::Y,a+1,b,c,d=>by
  simp at d;have f:=Oy Y a b c d
  grind [zG,Jg,set,List.set_append_right]
def UV:∀(Y)(b)(a),Y[b]?=O a->(zG Y)[b*4+3]?=O (qP a.lv)
 | [],b,a,c=>by simp at c
 | d::Y,0,a,c=>by
  grind [zG,Jg]
 | d::Y,b+1,a,c=>by
  simp at c;have e:=UV Y b a c
  grind [zG,Jg,List.getElem?_append_right]
def zL.lv{a:V8}{base g cap n Y}(c:a.ownsRow base 87 4 (VZ (qQ g 0) n cap) n (zG Y)){k y}(d:Y[k]?=O y):VE a (V4 g (k*4+3))=O (qP y.lv):=by
 have b:=UV Y k y d;have e:=c.cells (g:=g) rfl _ _ b
 simp_all[zR,vg]
def zL.qv{a:V8}{base g cap n Y}(b:a.ownsRow base 87 4 (VZ (qQ g 0) n cap) n (zG Y)){k y}(d:Y[k]?=O y)(v):(a.setCell (V4 g (k*4+3)) (qP v)).ownsRow base 87 4 (VZ (qQ g 0) n cap) n (zG (Y.set k ⟨y.pc,v⟩))/\a.grownBy (a.setCell (V4 g (k*4+3)) (qP v)) (O g):=by
 have c:=b.stored (k*4+3) (qP v)
 grind [Oy]
def Fp{Y:List It}{k y}(a:Y[k]?=O y):Y.set k y=Y:=by
 apply QP
 grind
def Fq{right i y lo k}:Ku right i y lo k k=0:=by grind [Ku]
def yS(a:V8)(q)(r):a.grownBy (a.drewN q) r:=⟨rfl,rfl,rfl,lR,λ_ _ _=>rfl⟩
def turnSR(base g cap)(X)(w)(o:zL w base (VZ (qQ g 0) (L X) cap) X)(a7:L X<=cap/\cap<=VL)(a8:L X<=1048576)(a c f y)(e)(xi xy)(p:Hi X a c f e)(s:X[c]?=O xi)(Z:X[y]?=O xy)(br:a<=y)(a9:y<c)(aa:∀v,a<=v->v<c->∃h,X[v]?=O h/\(h.lv=e+1↔v=y))(K:∀h∈X,0<=h.lv/\h.lv<=1000000):
  VM prog 91 #[VZ (qQ g 0) (L X) cap,qP c,.bool VR] w λa2 W=>a2=V5 (.tuple #[])/\zL W base (VZ (qQ g 0) (L X) cap) (((jS (Ku VR c y a f) 0 X).set y ⟨xy.pc,e⟩).set c ⟨xi.pc,e+1⟩)/\w.grownBy W (O g):=by
 have ad:=zC (ID _ _ X w (zL.rd o) a8 a c f e p);have bc:=p.ai;have bd:=p.ih;have bf:=p.hl;have C:xi.lv=e:=by obtain⟨bs,ab,ba⟩:=p.mid;rw[s]at ab;cases ab;exact ba
 have ae:=K xi (kG.2 ⟨c,s⟩);rw[C]at ae;have af:=zC aa;have M:=zC K;have ag:=zC s;have ah:=zC Z;have ai:=zC (show ∀b<L X,∃h,X[b]?=O h from λb a3=>⟨_,xI a3⟩);unfold zL at o;have P:=zL.lv o s;rw[C]at P;have aj:=zC (show(L (((jS (Ku VR c y a f) 0 X).set y ⟨xy.pc,e⟩).set c ⟨xi.pc,e+1⟩))=L X from by simp[Zo]);have ak:=zC o;have al:=zC (fun(a4:V8) b h (a5:a4.heap=w.heap) (k:X[b]?=O h)=>((vO (w:=w) (by rw[a5])).R (zL.lv o k)));unfold VL at a7;unfold zL;rw[aj.A];generalize bn:L X=n at*;clear o p aa K s Z C;have bg:(c:Int)<n:=VC
 go_enter func91,ntmps91;go_wp2_with fail;refine ad.G ?_;rintro bt bu ⟨rfl,l,rfl⟩;have bh:(w.drewN l).cell? _=O _:=P;go_wp2_with fail;go_loopw [11,12] (λa6 m wr=>∃b d:Nat,a<=b/\b<=c/\a6=qP d/\m=qP b/\(y<b->d=y)/\(¬y<b->d=a)/\wr=w.drewN l) (λ_ m _=>c-(VN m).toNat)
 case atStart=>grind
 obtain⟨b,d,x,ac,rfl,rfl,t,z,rfl⟩:=hrel;by_cases J:b<c
 ·obtain⟨h,k,A⟩:=af b x J
  have Q:=al (w.drewN l) b h rfl k;have am:=M h (kG.2 ⟨b,k⟩);generalize h.lv=r at*;have D:(b:Int)<n:=VC;have an:(b:Int)<c:=VC;clear k;by_cases U:b=y
  ·subst U
   have u:=A.2 rfl;subst u;clear A t z;go_wp2;go_roundw
   case rel=>exact⟨b+1,b,VC,VC,rfl,VY,λ_=>rfl,λf=>VC,VT⟩
   grind [VN]
  have u:¬r=e+1:=λf=>U (A.1 f)
  have bi:(r==e+1)=VP:=(by simpa using u);have ao:y<b+1->d=y:=λf=>t VC
  have ap:¬y<b+1->d=a:=λf=>z VC
  clear A u t z;go_wp2;go_roundw
  case rel=>exact⟨_,d,VC,VC,rfl,VY,ao,ap,VT⟩
  grind [VN]
 obtain rfl:c=b:=VC
 have aq:=t a9;subst aq;have D:¬ (c:Int)<c:=VC
 clear t z x ac J;go_wp2_with fail;go_loopw [13] (λm wr=>∃b:Nat,a<=b/\b<=f/\m=qP b/\wr.ownsRow base 87 4 (VZ (qQ g 0) n cap) n (zG (jS (Ku VR c d a b) 0 X))/\w.grownBy wr (O g)) (λm _=>f-(VN m).toNat)
 case atStart=>exact⟨a,lR,VC,by rfl,by rw[UU];exact zD ak (λ_ _=>rfl),yS _ _ _⟩
 obtain⟨b,x,ac,rfl,i,B⟩:=hrel;by_cases J:b<f
 ·obtain⟨h,k⟩:=ai b VC
  have j:=XE (right:=VR) (i:=c) (y:=d) (lo:=a) (k:=b) k;rw[Fq,Q4]at j;have Q:=zL.lv i j;have am:=M h (kG.2 ⟨b,k⟩);have fx:wr.frozen? (V4 g (b*4+3))=VP:=i.frozenAt _;have E:=zC (Fo (right:=VR) (i:=c) (y:=d) k x);have SM:=zC (zL.qv i j (h.lv-1));have F:=zC (zL.qv i j (h.lv+1));have ar:=zC (Fp j);have au:=zC i;have q:=zC B;simp at Q SM F;generalize a1:h.lv=r at*;have D:(b:Int)<n:=VC;have an:(b:Int)<f:=VC;clear k j i B a1;by_cases l:b<d
  ·have R:(b:Int)<d:=VC
   have S:¬ (c:Int)<b:=VC;have av:¬ (d:Int)<b:=VC;have aw:(b:Int)<c:=VC;go_wp2;go_roundw
   case rel=>exact⟨b+1,VC,VC,VY,by rw[E.A];simp;rw[xU l,show r+ -1=r-1 by omega];exact SM.1,zJ q SM.2⟩
   grind [VN]
  by_cases V:c<b
  ·have R:¬ (b:Int)<d:=VC
   have S:(c:Int)<b:=VC;have av:(d:Int)<b:=VC;have aw:¬ (b:Int)<c:=VC;go_wp2;go_roundw
   case rel=>exact⟨b+1,VC,VC,VY,by rw[E.A];simp;rw[xK l,xU V];exact F.1,zJ q F.2⟩
   grind [VN]
  have R:¬ (b:Int)<d:=VC;have S:¬ (c:Int)<b:=VC;go_wp2;go_roundw
  case rel=>exact⟨b+1,VC,VC,VY,by rw[E.A];simp;rw[xK l,xK V,Q4];rw[ar.A];exact au,q⟩
  grind [VN]
 obtain rfl:f=b:=VC
 have q:=zC B;have D:¬ (f:Int)<f:=VC
 have j:=XE (right:=VR) (i:=c) (y:=d) (lo:=a) (k:=f) ah;have G:=zL.qv i j e;have ax:=zL.lv i j;have bj:wr.frozen? (V4 g (d*4+3))=VP:=i.frozenAt _;have bk:wr.frozen? (V4 g (c*4+3))=VP:=i.frozenAt _;have H:=XE (right:=VR) (i:=c) (y:=d) (lo:=a) (k:=f) ag;have ay:=zL.lv i H
 have T:((jS (Ku VR c d a f) 0 X).set d ⟨xy.pc,e⟩)[c]?=O ⟨xi.pc,xi.lv+Ku VR c d a f c⟩:=by
  rw[QG,xK VC];exact H
 have I:=zL.qv G.1 T (e+1);have az:=zC I.1;have a0:=zC (zJ (zJ q G.2) I.2);have bl:(d:Int)<n:=VC
 simp at ax ay;generalize xy.lv+Ku VR c d a f d=bp at*;generalize xi.lv+Ku VR c d a f c=bq at*;clear i B j H T G I;go_wp2;refine Qx (by simp[results]) rfl ⟨rfl,az,a0⟩
def turnSL(base g cap)(X)(w)(o:zL w base (VZ (qQ g 0) (L X) cap) X)(a5:L X<=cap/\cap<=VL)(a6:L X<=1048576)(a c d y)(e)(xi xy)(p:Hi X a c d e)(s:X[c]?=O xi)(Z:X[y]?=O xy)(bp:(c+1)<=y)(a7:y<d)(aa:∀v,(c+1)<=v->v<d->∃h,X[v]?=O h/\(h.lv=e+1↔v=y))(K:∀h∈X,0<=h.lv/\h.lv<=1000000):
  VM prog 91 #[VZ (qQ g 0) (L X) cap,qP c,.bool VP] w λa0 W=>a0=V5 (.tuple #[])/\zL W base (VZ (qQ g 0) (L X) cap) (((jS (Ku VP c y a d) 0 X).set y ⟨xy.pc,e⟩).set c ⟨xi.pc,e+1⟩)/\w.grownBy W (O g):=by
 have ad:=zC (ID _ _ X w (zL.rd o) a6 a c d e p);have a9:=p.ai;have ba:=p.ih;have bc:=p.hl;have C:xi.lv=e:=by obtain⟨bq,ab,a8⟩:=p.mid;rw[s]at ab;cases ab;exact a8
 have ae:=K xi (kG.2 ⟨c,s⟩);rw[C]at ae;have af:=zC aa;have M:=zC K;have ag:=zC s;have ah:=zC Z;have ai:=zC (show ∀b<L X,∃h,X[b]?=O h from λb a1=>⟨_,xI a1⟩);unfold zL at o;have P:=zL.lv o s;rw[C]at P;have aj:=zC (show(L (((jS (Ku VP c y a d) 0 X).set y ⟨xy.pc,e⟩).set c ⟨xi.pc,e+1⟩))=L X from by simp[Zo]);have ak:=zC o;have al:=zC (fun(a2:V8) b h (a3:a2.heap=w.heap) (k:X[b]?=O h)=>((vO (w:=w) (by rw[a3])).R (zL.lv o k)));unfold VL at a5;unfold zL;rw[aj.A];generalize bk:L X=n at*;clear o p aa K s Z C;have bd:(c:Int)<n:=VC
 go_enter func91,ntmps91;go_wp2_with fail;refine ad.G ?_;rintro br bs ⟨rfl,l,rfl⟩;have bf:(w.drewN l).cell? _=O _:=P;go_wp2_with fail;go_loopw [11,12] (λa4 m wr=>∃b f:Nat,(c+1)<=b/\b<=d/\a4=qP f/\m=qP b/\(y<b->f=y)/\(¬y<b->f=(c+1))/\wr=w.drewN l) (λ_ m _=>d-(VN m).toNat)
 case atStart=>exact⟨_,_,lR,VC,by rfl,by rfl,λd=>VC,λ_=>rfl,rfl⟩
 obtain⟨b,f,x,ac,rfl,rfl,t,z,rfl⟩:=hrel;by_cases J:b<d
 ·obtain⟨h,k,A⟩:=af b x J
  have Q:=al (w.drewN l) b h rfl k;have am:=M h (kG.2 ⟨b,k⟩);generalize h.lv=r at*;have D:(b:Int)<n:=VC;have an:(b:Int)<d:=VC;clear k;by_cases U:b=y
  ·subst U
   have u:=A.2 rfl;subst u;clear A t z;go_wp2;go_roundw
   case rel=>exact⟨b+1,b,VC,VC,rfl,VY,λ_=>rfl,λd=>VC,VT⟩
   grind [VN]
  have u:¬r=e+1:=λd=>U (A.1 d)
  have bg:(r==e+1)=VP:=(by simpa using u);have ao:y<b+1->f=y:=λd=>t VC
  have ap:¬y<b+1->f=(c+1):=λd=>z VC
  clear A u t z;go_wp2;go_roundw
  case rel=>exact⟨_,f,VC,VC,rfl,VY,ao,ap,VT⟩
  grind [VN]
 obtain rfl:d=b:=VC
 have aq:=t a7;subst aq;have D:¬ (d:Int)<d:=VC
 clear t z x ac J;go_wp2_with fail;go_loopw [13] (λm wr=>∃b:Nat,a<=b/\b<=d/\m=qP b/\wr.ownsRow base 87 4 (VZ (qQ g 0) n cap) n (zG (jS (Ku VP c f a b) 0 X))/\w.grownBy wr (O g)) (λm _=>d-(VN m).toNat)
 case atStart=>exact⟨a,lR,VC,by rfl,by rw[UU];exact zD ak (λ_ _=>rfl),yS _ _ _⟩
 obtain⟨b,x,ac,rfl,i,B⟩:=hrel;by_cases J:b<d
 ·obtain⟨h,k⟩:=ai b VC
  have j:=XE (right:=VP) (i:=c) (y:=f) (lo:=a) (k:=b) k;rw[Fq,Q4]at j;have Q:=zL.lv i j;have am:=M h (kG.2 ⟨b,k⟩);have fx:wr.frozen? (V4 g (b*4+3))=VP:=i.frozenAt _;have E:=zC (Fo (right:=VP) (i:=c) (y:=f) k x);have SM:=zC (zL.qv i j (h.lv-1));have F:=zC (zL.qv i j (h.lv+1));have ar:=zC (Fp j);have au:=zC i;have q:=zC B;simp at Q SM F;generalize az:h.lv=r at*;have D:(b:Int)<n:=VC;have an:(b:Int)<d:=VC;clear k j i B az;by_cases l:f<b
  ·have R:(f:Int)<b:=VC
   have S:¬ (b:Int)<c:=VC;go_wp2;go_roundw
   case rel=>exact⟨b+1,VC,VC,VY,by rw[E.A];simp;rw[xU l,show r+ -1=r-1 by omega];exact SM.1,zJ q SM.2⟩
   grind [VN]
  by_cases V:b<c
  ·have R:¬ (f:Int)<b:=VC
   have S:(b:Int)<c:=VC;go_wp2;go_roundw
   case rel=>exact⟨b+1,VC,VC,VY,by rw[E.A];simp;rw[xK l,xU V];exact F.1,zJ q F.2⟩
   grind [VN]
  have R:¬ (f:Int)<b:=VC;have S:¬ (b:Int)<c:=VC;go_wp2;go_roundw
  case rel=>exact⟨b+1,VC,VC,VY,by rw[E.A];simp;rw[xK l,xK V,Q4];rw[ar.A];exact au,q⟩
  grind [VN]
 obtain rfl:d=b:=VC
 have q:=zC B;have D:¬ (d:Int)<d:=VC
 have j:=XE (right:=VP) (i:=c) (y:=f) (lo:=a) (k:=d) ah;have G:=zL.qv i j e;have av:=zL.lv i j;have bh:wr.frozen? (V4 g (f*4+3))=VP:=i.frozenAt _;have bi:wr.frozen? (V4 g (c*4+3))=VP:=i.frozenAt _;have H:=XE (right:=VP) (i:=c) (y:=f) (lo:=a) (k:=d) ag;have aw:=zL.lv i H
 have T:((jS (Ku VP c f a d) 0 X).set f ⟨xy.pc,e⟩)[c]?=O ⟨xi.pc,xi.lv+Ku VP c f a d c⟩:=by
  rw[QG,xK VC];exact H
 have I:=zL.qv G.1 T (e+1);have ax:=zC I.1;have ay:=zC (zJ (zJ q G.2) I.2);have bj:(f:Int)<n:=VC
 simp at av aw;generalize xy.lv+Ku VP c f a d f=bl at*;generalize xi.lv+Ku VP c f a d c=bn at*;clear i B j H T G I;go_wp2;refine Qx (by simp[results]) rfl ⟨rfl,ax,ay⟩
def AT.rot_its(l)(p)(r):(AT.rot l p r).tI=(AT.tN l p r).tI:=by
 grind [AT.rot,AT.tF,AT.its_of_flat,AT.flat_turnR,AT.flat_turnL]
def Hi.uniq{X a i h e}(f:Hi X a i h e):∀b,a<=b->b<h->∃c,X[b]?=O c/\(c.lv=e↔b=i):=by
 intro b k l;obtain d|d|d:=QN b i
 ·obtain⟨c,g,j⟩:=f.lft b k d
  grind
 ·subst d
  obtain⟨c,g,j⟩:=f.mid
  simp_all
 obtain⟨c,g,j⟩:=f.rgt b d l
 grind
theorem JA(A B)(l r)(p)(e):A++(AT.tN l p r).tT e++B=A++l.tT (e+1)++(⟨p,e⟩::(r.tT (e+1)++B)):=by
 simp[AT.tT]
theorem ZO(A B)(l r)(p)(e):A++(AT.tN l p r).tT e++B=(A++l.tT (e+1)++ [⟨p,e⟩])++r.tT (e+1)++B:=by
 simp[AT.tT]
def AT.Fit.ofLeft{A B e p Y}(c:AT.Fit A B e):AT.Fit A (⟨p,e⟩::Y) (e+1):=
 ⟨λa b=>by have:=c.1 a b;omega,λd f=>by grind⟩
def AT.Fit.ofRight{A B e p Y}(c:AT.Fit A B e):AT.Fit (A++Y++ [⟨p,e⟩]) B (e+1):=
 ⟨λd f=>by grind,λa b=>by have:=c.2 a b;omega⟩
theorem DG(A S B):Zx (A++S++B) (L A) (L A+L S)=S:=by
 grind [Zx]
def Sz(A B)(l r)(p)(e):Zx (A++(AT.tN l p r).tT e++B) (L A) (L A+l.tI)=l.tT (e+1):=by
 grind [JA,DG,AT.tQ]
def Mp(A B)(l r)(p)(e):Zx (A++(AT.tN l p r).tT e++B) (L A+l.tI+1) (L A+(AT.tN l p r).tI)=r.tT (e+1):=by
 grind [AT.tI,ZO,DG,List.length_append,AT.tQ,List.length_cons,List.length_nil]
def IF(base g cap n)(A B)(a b r)(q p)(e)(w)(u:L (A++(AT.tN (.tN a q b) p r).tT e++B)=n)(G:zL w base (VZ (qQ g 0) n cap) (A++(AT.tN (.tN a q b) p r).tT e++B))(H:n<=cap/\cap<=VL)(I:n<=1048576)(o:AT.Fit A B e)(v:∀x∈A++(AT.tN (.tN a q b) p r).tT e++B,0<=x.lv/\x.lv<=1000000)(i)(y:i=L A+(AT.tN a q b).tI):
  VM prog 91 #[VZ (qQ g 0) n cap,qP i,.bool VR] w λm c=>m=V5 (.tuple #[])/\zL c base (VZ (qQ g 0) n cap) (A++(AT.tN a q (.tN b p r)).tT e++B)/\w.grownBy c (O g):=by
 subst y;have d:=Hi.of (l:=.tN a q b) (r:=r) (p:=p) o
 have f:Hi (A++(AT.tN (.tN a q b) p r).tT e++B) (L A) (L A+a.tI) (L A+(AT.tN a q b).tI) (e+1):=by
  rw[JA A B (.tN a q b) r p e];exact Hi.of (l:=a) (r:=b) (p:=q) (o.ofLeft)
 obtain⟨J,s,_⟩:=d.mid;obtain⟨K,t,_⟩:=f.mid;have D:(AT.tN a q b).tI=a.tI+1+b.tI:=rfl;have E:(AT.tN _ p r).tI=(AT.tN a q b).tI+1+r.tI:=rfl
 have h:(A++(AT.tN (.tN a q b) p r).tT e++B)[L A+a.tI]?=O ⟨q,e+1⟩:=by
  rw[Ze A _ B _ VC (by rw[AT.tQ];omega)];simp only[AT.tT,vB,vH];rw[xQ (by rw[AT.tQ];omega),AT.tQ];simp
 have j:(A++(AT.tN (.tN a q b) p r).tT e++B)[L A+(AT.tN a q b).tI]?=O ⟨p,e⟩:=by
  rw[Ze A _ B _ VC (by rw[AT.tQ];omega)];rw[AT.tT,xQ (by rw[AT.tQ];omega),AT.tQ];rw[show L A+(AT.tN a q b).tI-L A-(AT.tN a q b).tI=0 by omega];rfl
 rw[j]at s;cases s;rw[h]at t;cases t;have k:=turnSR base g cap _ w (by simp_all) VC VC _ _ _ _ e _ _ d j h VC VC f.uniq v;rw[u]at k;refine k.G ?_;rintro m c ⟨z,M,C⟩;refine⟨z,?_,C⟩;have F:=IE A B a b r q p e
 grind
def IG(base g cap n)(A B)(l b c)(q p)(e)(w)(v:L (A++(AT.tN l p (.tN b q c)).tT e++B)=n)(H:zL w base (VZ (qQ g 0) n cap) (A++(AT.tN l p (.tN b q c)).tT e++B))(I:n<=cap/\cap<=VL)(J:n<=1048576)(s:AT.Fit A B e)(y:∀x∈A++(AT.tN l p (.tN b q c)).tT e++B,0<=x.lv/\x.lv<=1000000)(i)(z:i=L A+l.tI):
  VM prog 91 #[VZ (qQ g 0) n cap,qP i,.bool VP] w λo d=>o=V5 (.tuple #[])/\zL d base (VZ (qQ g 0) n cap) (A++(AT.tN (.tN l p b) q c).tT e++B)/\w.grownBy d (O g):=by
 subst z;have f:=Hi.of (l:=l) (r:=.tN b q c) (p:=p) s;have E:(AT.tN b q c).tI=b.tI+1+c.tI:=rfl;have F:(AT.tN l p _).tI=l.tI+1+(AT.tN b q c).tI:=rfl
 have h:=by
  have a:=Hi.of (l:=b) (r:=c) (p:=q) (s.ofRight (p:=p) (Y:=l.tT (e+1)));rw[<- ZO A B l (.tN b q c) p e]at a;simp only[xL,AT.tQ,vA,vS]at a;rw[show L A+l.tI+(0+1)=L A+l.tI+1 by omega,show L A+l.tI+1+(AT.tN b q c).tI=L A+(AT.tN l p (.tN b q c)).tI by omega]at a;exact a
 obtain⟨K,t,_⟩:=f.mid;obtain⟨M,u,_⟩:=h.mid
 have j:(A++(AT.tN l p (.tN b q c)).tT e++B)[L A+l.tI]?=O ⟨p,e⟩:=by
  rw[Ze A _ B _ VC (by rw[AT.tQ];omega)];rw[AT.tT,xQ (by rw[AT.tQ];omega),AT.tQ];rw[show L A+l.tI-L A-l.tI=0 by omega];rfl
 have k:(A++(AT.tN l p (.tN b q c)).tT e++B)[L A+l.tI+1+b.tI]?=O ⟨q,e+1⟩:=by
  rw[Ze A _ B _ VC (by rw[AT.tQ];omega)];simp only[AT.tT];rw[xQ (by rw[AT.tQ];omega),AT.tQ];rw[show L A+l.tI+1+b.tI-L A-l.tI=b.tI+1 by omega,kV,xQ (by rw[AT.tQ];omega),AT.tQ];simp
 rw[j]at t;cases t;rw[k]at u;cases u;have m:=turnSL base g cap _ w (by simp_all) VC VC _ _ _ _ e _ _ f j k VC VC h.uniq y;rw[v]at m;refine m.G ?_;rintro o d ⟨C,P,D⟩;refine⟨C,?_,D⟩;have G:=Mo A B l b c q p e
 grind

import Derived.Test.YtacmdegboldnlaaGreatDoorMq09
set_option linter.all false
set_option maxRecDepth 100000
set_option maxHeartbeats 8000000
namespace Go.Proofs.YtacmdegboldnlaaGreatDoor
open Go Go.RowKit Go.Proofs.Tryz
open And renaming intro→qa5
open _root_.Array renaming size→N
open Go renaming Calls→VM
open _root_.Go.IntKind renaming i64→qad
open List renaming length→L
open Option renaming some→O
open _root_.Go.World renaming alloc→VF,cell?→VE,heap→Y
def ndC(a:Pc)(b c:qa1)(d e f g:Int):qa2:=
 #[qP a.off,qP a.len,qP a.brk,.pointer b,.pointer c,qP d,qP e,qP f,qP g]
def Nd(a:V8)(b:Nat)(c:Pc)(d e:qa1)(f g h i:Int):Prop:=
 a.heap[b]?=O (V6 (ndC c d e f g h i) 171 (0,0))
def zM(d:V8)(e:Nat):AT->qa1->List Nat->Prop
 | .nil,f,g=>f=none/\g= []
 | .tN a h b,f,g=>∃c i j k l,f=O (V4 c 0)/\e<=c/\Nd d c h i j (1+max (a.ht:Int) b.ht) (a.tI+1+b.tI) (a.rns+h.len+b.rns) (a.bks+h.brk+b.bks)/\
   zM d e a i k/\zM d e b j l/\g=c::(k++l)
def Nd.lt{a:V8}{b:Nat}{c:Pc}{d e:qa1}{f g h i:Int}(j:Nd a b c d e f g h i):b<N (Y a):=by
 grind [Nd,Nat.lt_or_ge,Array.getElem?_eq_none]
def Nd.c0{a:V8}{b:Nat}{c:Pc}{d e:qa1}{f g h i:Int}(j:Nd a b c d e f g h i):VE a (V4 b 0)=O (qP c.off):=by rw[xH a b 0 _ _ _ j];rfl
def Nd.c1{a:V8}{b:Nat}{c:Pc}{d e:qa1}{f g h i:Int}(j:Nd a b c d e f g h i):VE a (V4 b 1)=O (qP c.len):=by rw[xH a b 1 _ _ _ j];rfl
def Nd.c2{a:V8}{b:Nat}{p:Pc}{c d:qa1}{e f g h:Int}(i:Nd a b p c d e f g h):VE a (V4 b 2)=O (qP p.brk):=by rw[xH a b 2 _ _ _ i];rfl
def Nd.c3{a:V8}{b:Nat}{d:Pc}{c e:qa1}{f g h i:Int}(j:Nd a b d c e f g h i):VE a (V4 b 3)=O (.pointer c):=by rw[xH a b 3 _ _ _ j];rfl
def Nd.c4{a:V8}{b:Nat}{d:Pc}{e c:qa1}{f g h i:Int}(j:Nd a b d e c f g h i):VE a (V4 b 4)=O (.pointer c):=by rw[xH a b 4 _ _ _ j];rfl
def Nd.c5{a:V8}{b:Nat}{d:Pc}{e f:qa1}{c g h i:Int}(j:Nd a b d e f c g h i):VE a (V4 b 5)=O (qP c):=by rw[xH a b 5 _ _ _ j];rfl
def Nd.c6{a:V8}{b:Nat}{d:Pc}{e f:qa1}{g c h i:Int}(j:Nd a b d e f g c h i):VE a (V4 b 6)=O (qP c):=by rw[xH a b 6 _ _ _ j];rfl
theorem Nd.c7{a:V8}{b:Nat}{d:Pc}{e f:qa1}{g i c h:Int}(j:Nd a b d e f g i c h):VE a (V4 b 7)=O (qP c):=by rw[xH a b 7 _ _ _ j];rfl
def Nd.c8{a:V8}{b:Nat}{d:Pc}{e f:qa1}{g h i c:Int}(j:Nd a b d e f g h i c):VE a (V4 b 8)=O (qP c):=by rw[xH a b 8 _ _ _ j];rfl
def Nd.fz{a:V8}{b:Nat}{d:Pc}{e f:qa1}{g h i j:Int}(k:Nd a b d e f g h i j)(c:Nat):a.frozen? (V4 b c)=false:=xW a b c _ _ k
def zM.frame{f w':V8}{g:Nat}:∀{h:AT}{b:qa1}{a:List Nat},zM f g h b a->(∀c∈a,w'.heap[c]? =f.heap[c]?)->zM w' g h b a
 | .nil,b,a,j,_=>j
 | .tN t u v,b,a,⟨c,k,l,m,n,o,p,w,q,r,s⟩,i=>by
  subst s;refine⟨c,k,l,m,n,o,p,?_,q.frame (λd e=>i d (by simp[e])),r.frame (λd e=>i d (by simp[e])),rfl⟩
  grind [Nd]
def zM.lt{e:V8}{f:Nat}:∀{i:AT}{d:qa1}{b:List Nat},zM e f i d b->∀c∈b,f<=c/\c<N (Y e)
 | .nil,d,b,j,c,g=>by rw[j.2]at g;cases g
 | .tN p q r,d,b,⟨c,s,t,u,v,w,k,l,m,n,o⟩,h,a=>by
  subst o;simp at a;obtain rfl|a|a:=a
  ·exact⟨k,l.lt⟩
  ·exact m.lt h a
  exact n.lt h a
theorem zM.I{a c:V8}{d e:Nat}{f:AT}{g:qa1}{h:List Nat}(i:zM a d f g h)(k:Below e a c)(l:N (Y a)<=e):zM c d f g h:=
 i.frame λb j=>k.block b (vh (i.lt b j).2 l)
theorem zM.base{c:V8}{d base':Nat}(e:base'<=d):∀{f:AT}{a:qa1}{b:List Nat},zM c d f a b->zM c base' f a b
 | .nil,a,b,g=>g
 | .tN r s t,a,b,⟨h,i,j,k,l,m,u,n,o,p,q⟩=>⟨h,i,j,k,l,m,VC,n,o.base e,p.base e,q⟩
def j6(b:AT)(g:qa1)(j:List Nat)(k:Nat)(c:V8)(h:zM c k b g j):
  VM prog 113 #[.pointer g] c λa i=>a=V5 (qP b.ht)/\i=c:=by
 cases b with
 | nil=>
  obtain⟨rfl,rfl⟩:=h;go_enter func113,ntmps113;go_wp2;go_ret;exact⟨rfl,rfl⟩
 | tN e o f=>
  obtain⟨s,t,u,v,w,rfl,x,d,l,m,n⟩:=h;have p:=d.c5;have q:=d.lt;have a:(((AT.tN e o f).ht:Nat):Int)=1+max (e.ht:Int) f.ht:=(by simp only[AT.ht];omega);rw[a];clear d l m n a;generalize 1+max (e.ht:Int) f.ht=r at*;go_enter func113,ntmps113;go_wp2;go_ret;simp
def Zu(a b c:Int):Jo:=.agg #[qP a,qP b,qP c]
def JP(a:Pc):Jo:=.agg #[qP a.off,qP a.len,qP a.brk]
def JU(a:AT)(d:qa1)(h:List Nat)(i:Nat)(c:V8)(e:zM c i a d h):
  VM prog 80 #[.pointer d] c λf g=>f=V5 (Zu a.tI a.rns a.bks)/\qa3 c g:=by
 cases a with
 | nil=>
  obtain⟨rfl,rfl⟩:=e;go_enter func80,ntmps80;go_wp2;refine vE (v:=Zu _ _ _) (by simp[results,results80,go_sem];rfl) rfl ⟨rfl,?_⟩;exact(xF _ _).alloc lR _
 | tN u w x=>
  obtain⟨l,m,n,o,p,rfl,q,b,r,s,t⟩:=e;have j:=b.c6;have c7:=b.c7;have c8:=b.c8;have k:=b.lt;go_enter func80,ntmps80;go_wp2;refine vE (v:=Zu _ _ _) (by simp[results,results80,go_sem];rfl) rfl ⟨rfl,?_⟩;exact(xF _ _).alloc lR _
def Rh(a:Pc)(b:V8):VM prog 274 #[JP a] b λc d=>c=V5 (qP a.len)/\qa3 b d:=by
 unfold JP;go_enter func274,ntmps274;go_wp2;go_ret;exact⟨rfl,(xF _ _).alloc lR _⟩
def pBreaks(a:Pc)(b:V8):VM prog 273 #[JP a] b λc d=>c=V5 (qP a.brk)/\qa3 b d:=by
 unfold JP;go_enter func273,ntmps273;go_wp2;go_ret;exact⟨rfl,(xF _ _).alloc lR _⟩
def Xb(a b c d e f:Int)(g:V8)(j: -1000000<=a/\a<=1000000)(k: -1000000<=b/\b<=1000000)(l: -1000000<=c/\c<=1000000)
  (m: -1000000<=d/\d<=1000000) (n: -1000000<=e/\e<=1000000) (o: -1000000<=f/\f<=1000000):
  VM prog 114 #[Zu a b c,Zu d e f] g λh i=>h=V5 (Zu (a+d) (b+e) (c+f))/\qa3 g i:=by
 unfold Zu;go_enter func114,ntmps114;go_wp2;refine vE (v:=Zu _ _ _) (by simp[results,results114,go_sem];rfl) rfl ⟨rfl,?_⟩;exact(((xF _ _).alloc lR _).alloc VT _).alloc VV _
theorem Tryz.qI (x y z : Value) (w : World) : (Go.method 468 85 (.agg #[x, y, z]) "loop.example/s01685/impl.runes").run prog w = .ok (274, .agg #[x, y, z]) w := by kernel_rfl
theorem Tryz.methodBreaks (x y z : Value) (w : World) : (Go.method 468 85 (.agg #[x, y, z]) "loop.example/s01685/impl.breaks").run prog w = .ok (273, .agg #[x, y, z]) w := by kernel_rfl
def Ri(b:Pc)(d:Nat)(E F:qa1)(G H I J:Int)(a:V8)(i:Nd a d b E F G H I J):
  VM prog 115 #[V3 d 0] a λm D=>m=V5 (Zu 1 b.len b.brk)/\qa3 a D:=by
 have n:=i.c0;have o:=i.c1;have p:=i.c2;have k:=i.lt;go_enter func115,ntmps115;go_upto_region 1 with fail;have j:=zC ((xF (N (Y a)) a).alloc lR (V6 #[qP 0,qP 0,qP 0] 160));have q:(VF a (V6 #[qP 0,qP 0,qP 0] 160)).heap[N (Y a)]?=O (V6 #[qP 0,qP 0,qP 0] 160 (0,0)):=xJ _ _;have r:N (Y a)<N (Y (VF a (V6 #[qP 0,qP 0,qP 0] 160))):=VT
 generalize VF a (V6 #[qP 0,qP 0,qP 0] 160)=t at*;have w:=(j.U (p:=(V4 d 0)) k).R n;have x:=(j.U (p:=(V4 d 1)) k).R o;have y:=(j.U (p:=(V4 d 2)) k).R p;have l:d<N (Y t):=VC
 have z:=zC q;clear n o p i q;have K:=Tryz.qI;have M:=Tryz.methodBreaks
 go_region_with (first
  |(go_at_call 274;refine(Rh b _).G ?_;rintro m u ⟨rfl,f⟩;have h:=zC (show qa3 t u from⟨f.os,f.tape,f.output,f.size,f.block⟩);have P:=(h.U (p:=(V4 d 0)) l).R w;have Q:=(h.U (p:=(V4 d 1)) l).R x;have R:=(h.U (p:=(V4 d 2)) l).R y;clear f)
  |(go_at_call 273;refine(pBreaks b _).G ?_;rintro m c ⟨rfl,g⟩;have s:=zC (h.R ((show qa3 u c from⟨g.os,g.tape,g.output,g.size,g.block⟩).G h.size));have e:=(s.block _ r).R z;have A:VE c (V4 (N (Y a)) 0)=O (qP 0):=(by rw[xH c _ 0 _ _ _ e];rfl);have B:VE c (V4 (N (Y a)) 1)=O (qP 0):=(by rw[xH c _ 1 _ _ _ e];rfl);have C:VE c (V4 (N (Y a)) 2)=O (qP 0):=(by rw[xH c _ 2 _ _ _ e];rfl);have S:=xW c (N (Y a)) 0 _ _ e;have T:=xW c (N (Y a)) 1 _ _ e;have U:=xW c (N (Y a)) 2 _ _ e;clear g e))
 all_goals (go_wp2_with fail;refine vE (v:=Zu _ _ _) (by simp[results,results115,go_sem,A,B,C];rfl) rfl ⟨rfl,(((j.R (s.G (Qr r))).setCell lR _).setCell lR _).setCell lR _⟩)
structure zr(bs:List Nat)(w w':V8):Prop where
 os:w'.os=w.os
 tape:w'.tape=w.tape
 output:w'.output=w.output
 size:N (Y w)<=N (Y w')
 block:∀k,k<N (Y w)->k∉bs->w'.heap[k]? =w.heap[k]?
def zr.qa{bs w w'}(a:qa3 w w'):zr bs w w':=⟨a.os,a.tape,a.output,a.size,λb c _=>a.block b c⟩
theorem zr.refl(bs)(w):zr bs w w:=.qa (xF _ _)
theorem zr.I{B bs w w'}(a:zr bs w w')(e:B<=N (Y w))(f:∀b∈bs,B<=b):Below B w w':=
 ⟨a.os,a.tape,a.output,a.size,λb c=>a.block b VC (λd=>by grind)⟩
theorem zr.R{bs cs ds a b c}(e:zr bs a b)(f:zr cs b c)(j:∀d∈bs,d<N (Y a)->d∈ds)(k:∀d∈cs,d<N (Y a)->d∈ds):zr ds a c:=
 ⟨f.os.R e.os,f.tape.R e.tape,f.output.R e.output,ku e.size f.size,λd g i=>
  (f.block d (vh g e.size) (λh=>i (k d h g))).R (e.block d g (λh=>i (j d h g)))⟩
def zr.setCell{bs a b}(c:zr bs a b)(x)(v)(g:x.block∈bs\/N (Y a)<=x.block):zr bs a (b.setCell x v):=
 ⟨c.os,c.tape,c.output,by simpa using c.size,λd e f=>by
  rw[xM _ _ _ _ (by grind)];exact c.block d e f⟩
def zr.drawn{bs a b c}(d:zr bs a b)(i:c.os=b.os)(j:c.tape=b.tape)(k:c.output=b.output)(e:c.heap=b.heap):zr bs a c:=
 ⟨i.R d.os,j.R d.tape,k.R d.output,by rw[e];exact d.size,λf g h=>by rw[e];exact d.block f g h⟩
def zM.chg{w w' base cs T u bs}(c:zM w base T u bs)(d:zr cs w w')(e:∀a∈bs,a∉cs):zM w' base T u bs:=
 c.frame λa b=>d.block a (c.lt a b).2 (e a b)
def Nd.chg{w w' cs b p l r h i n k}(a:Nd w b p l r h i n k)(c:zr cs w w')(d:b∉cs):Nd w' b p l r h i n k:=by
 unfold Nd at a |-;rw[c.block b (Nd.lt a) d];exact a
def Nd.heap{w w' b p l r h i n k}(a:Nd w b p l r h i n k)(c:w'.heap=w.heap):Nd w' b p l r h i n k:=by
 grind [Nd]
def Nd.set5{w b p l r h i n k}(a:Nd w b p l r h i n k)(x):Nd (w.setCell (V4 b 5) (qP x)) b p l r x i n k:=by
 unfold Nd at a |-;rw[vf w b 5 _ _ _ a];rfl
def Nd.cong5{w b p l r h h' i n k}(a:Nd w b p l r h i n k)(c:h=h'):Nd w b p l r h' i n k:=c▸a
def Nd.set678{w b p l r h i n k}(a:Nd w b p l r h i n k)(x y z):Nd (((w.setCell (V4 b 6) (qP x)).setCell (V4 b 7) (qP y)).setCell (V4 b 8) (qP z)) b p l r h x y z:=by
 unfold Nd at a |-;have c:=vf w b 6 _ _ (qP x) a;have d:=vf _ b 7 _ _ (qP y) c;have e:=vf _ b 8 _ _ (qP z) d;rw[e];rfl
def AT.ok(a:AT):Prop:=(∀p∈a.tF,jU p=true)/\a.rns<=8192
def AT.okw(a:AT):Prop:=(∀p∈a.tF,jU p=true)/\a.rns<=16384
def AT.ok.w{a:AT}(b:a.ok):a.okw:=⟨b.1,by have:=b.2;omega⟩
def AT.rns_flat:∀a:AT,(∀d∈a.tF,jU d=true)->a.tI<=a.rns/\0<=a.bks/\a.bks<=a.rns
 | .nil,_=>by simp[tI,rns,bks]
 | .tN f d g,e=>by
  have h:=rns_flat f (λb c=>e b (by simp[tF,c]));have i:=rns_flat g (λb c=>e b (by simp[tF,c]));have j:=e d (by simp[tF])
  grind [jU,tI,rns,bks]
def AT.ok.bd{a:AT}(b:a.ok):(a.tI:Int)<=8192/\0<=a.rns/\a.rns<=8192/\0<=a.bks/\a.bks<=8192:=by
 have:=rns_flat a b.1;have:=b.2;omega
def AT.okw.bd{a:AT}(b:a.okw):(a.tI:Int)<=16384/\0<=a.rns/\a.rns<=16384/\0<=a.bks/\a.bks<=16384:=by
 have:=rns_flat a b.1;have:=b.2;omega
def AT.ok.left{l p r}(a:(AT.tN l p r).ok):l.ok:=by
 have e:=rns_flat r (λb c=>a.1 b (by simp[tF,c]));have d:=a.1 p (by simp[tF]);simp only[jU,vn]at d;refine⟨λb c=>a.1 b (by simp[tF,c]),?_⟩;have:=a.2;grind [rns]
def AT.okw.left{l p r}(a:(AT.tN l p r).okw):l.okw:=by
 have e:=rns_flat r (λb c=>a.1 b (by simp[tF,c]));have d:=a.1 p (by simp[tF]);simp only[jU,vn]at d;refine⟨λb c=>a.1 b (by simp[tF,c]),?_⟩;have:=a.2;grind [rns]
def AT.ok.right{l p r}(a:(AT.tN l p r).ok):r.ok:=by
 have e:=rns_flat l (λb c=>a.1 b (by simp[tF,c]));have d:=a.1 p (by simp[tF]);simp only[jU,vn]at d;refine⟨λb c=>a.1 b (by simp[tF,c]),?_⟩;have:=a.2;grind [rns]
def AT.okw.right{l p r}(a:(AT.tN l p r).okw):r.okw:=by
 have e:=rns_flat l (λb c=>a.1 b (by simp[tF,c]));have d:=a.1 p (by simp[tF]);simp only[jU,vn]at d;refine⟨λb c=>a.1 b (by simp[tF,c]),?_⟩;have:=a.2;grind [rns]
def AT.ok.piece{l p r}(a:(AT.tN l p r).ok):0<=p.off/\p.off<=220000/\1<=p.len/\p.len<=8192/\0<=p.brk/\p.brk<=8192:=by
 have b:=a.1 p (by simp[tF])
 grind [jU]
def AT.okw.piece{l p r}(a:(AT.tN l p r).okw):0<=p.off/\p.off<=220000/\1<=p.len/\p.len<=8192/\0<=p.brk/\p.brk<=8192:=by
 have b:=a.1 p (by simp[tF])
 grind [jU]
theorem AT.rns_of_flat:∀a:AT,a.rns=(a.tF.map (λb=>b.len)).sum
 | .nil=>rfl
 | .tN c b d=>by simp only[rns,tF,Qy,QK,Ve,VA,rns_of_flat c,rns_of_flat d];omega
def AT.ok.of_flat{a b:AT}(c:a.ok)(d:b.tF=a.tF):b.ok:=⟨λe f=>c.1 e (d▸f),by rw[rns_of_flat,d,<- rns_of_flat];exact c.2⟩
def AT.okw.of_flat{a b:AT}(c:a.okw)(d:b.tF=a.tF):b.okw:=⟨λe f=>c.1 e (d▸f),by rw[rns_of_flat,d,<- rns_of_flat];exact c.2⟩
theorem Zv(x)(a: -9223372036854775808<=x)(b:x<9223372036854775808):qad.wrap x=x:=by rw[vU];omega
def zh(a:AT):a.ht<=a.tI:=AT.ht_its a
def je(L)(p)(R)(b)(ul ur)(bl br)(base)(a i n k)(w)(c:Nd w b p ul ur a i n k)
  (P:zM w base L ul bl) (Q:zM w base R ur br) (S:b∉bl) (T:b∉br) (t:(AT.tN L p R).okw):
  Calls prog 92 #[.pointer (qQ b 0)] w λd M=>d= .returned (.tuple #[])/\Nd M b p ul ur (1+max (L.ht:Int) R.ht) (L.tI+1+R.tI) (L.rns+p.len+R.rns) (L.bks+p.brk+R.bks)/\zr [b] w M:=by
 have W:=c.c3;have X:=c.c4;have Z:=c.c5;have aa:=c.fz 5;have am:=t.left.bd;have an:=t.right.bd;have ao:=t.piece;have ap:(L.ht:Int)<=16384:=by have:=zh L;omega
 have aq:(R.ht:Int)<=16384:=by have:=zh R;omega
 have C:=zC c;have v:=zC P;have HR:=zC Q;have ab:=zC S;have ac:=zC T;clear c P Q S T t;go_enter func92,ntmps92;go_upto_region 0 with fail;go_cut [] (λwc=>Nd wc b p ul ur (1+max (L.ht:Int) R.ht) i n k/\zr [b] w wc)
 case first=>
  go_region_with (first
   |(go_at_call_of 113 (Value.pointer ul);refine(j6 L ul bl base _ (by exact v.frame (λ_ _=>rfl))).G ?_;rintro d U ⟨rfl,rfl⟩)
   |(go_at_call_of 113 (Value.pointer ur);refine(j6 R ur br base _ (by exact HR.frame (λ_ _=>rfl))).G ?_;rintro d V ⟨rfl,rfl⟩))
  all_goals ((go_wp2_with fail)<;>go_meet<;>exact⟨((C.set5 _).heap rfl).cong5 (by grind [Zv]),((zr.refl [b] w).setCell _ _ (.inl (by simp))).drawn rfl rfl rfl rfl⟩)
 obtain⟨c,u⟩:=hcut;have D:=zC c;have E:=zC u;have F:=zC (v.chg u (λe l d=>ab (by simp_all)));have x:=zC (HR.chg u (λe l d=>ac (by simp_all)));have ar:=c.c3;have y:=c.c4;have ad:=c.lt;clear c u C v HR W X Z aa;go_upto_region 1 with fail
 go_region_with (first
  |(go_at_call_of 80 (Value.pointer ul);refine(JU L ul bl base _ (by exact F.frame (λ_ _=>rfl))).G ?_;rintro d U ⟨rfl,f⟩;have G:=zC (E.R (.qa ⟨f.os,f.tape,f.output,f.size,f.block⟩) (λ_ a _=>a) (λ_ a _=>a));have q:=zC (show Nd U b p ul ur _ i n k from(f.block b (ad)).R D);have z:=zC (x.frame (λe l=>f.block e ((x.lt e l).2)));have y:=q.c4;have ae:=q.lt;clear f D E F x)
  |(go_at_call_of 115 (Value.pointer (qQ b 0));refine(Ri p b ul ur _ _ _ _ _ (q.heap rfl)).G ?_;rintro d V ⟨rfl,g⟩;have H:=zC (G.R (.qa ⟨g.os,g.tape,g.output,g.size,g.block⟩) (λ_ a _=>a) (λ_ a _=>a));have r:=zC (show Nd V b p ul ur _ i n k from(g.block b (ae)).R q);have A:=zC (z.frame (λe l=>g.block e ((z.lt e l).2)));have y:=r.c4;have af:=r.lt;clear g q G z)
  |(go_at_call_of 114 (Zu 1 p.len p.brk);refine(Xb _ _ _ _ _ _ _ (by omega) (by omega) (by omega) (by omega) (by omega) (by omega)).G ?_;rintro d aj ⟨rfl,h⟩;have I:=zC (H.R (.qa ⟨h.os,h.tape,h.output,h.size,h.block⟩) (λ_ a _=>a) (λ_ a _=>a));have s:=zC (show Nd aj b p ul ur _ i n k from(h.block b (af)).R r);have J:=zC (A.frame (λe l=>h.block e ((A.lt e l).2)));have y:=s.c4;have ag:=s.lt;clear h r H A)
  |(go_at_call_of 80 (Value.pointer ur);refine(JU R ur br base _ (J.frame (λ_ _=>rfl))).G ?_;rintro d ak ⟨rfl,m⟩;have K:=zC (I.R (.qa ⟨m.os,m.tape,m.output,m.size,m.block⟩) (λ_ a _=>a) (λ_ a _=>a));have B:=zC (show Nd ak b p ul ur _ i n k from(m.block b (ag)).R s);have ah:=B.lt;clear m s I J)
  |(go_at_call_of 114 (Zu R.tI R.rns R.bks);refine(Xb _ _ _ _ _ _ _ (by omega) (by omega) (by omega) (by omega) (by omega) (by omega)).G ?_;rintro d al ⟨rfl,o⟩;have ai:=zC (K.R (.qa ⟨o.os,o.tape,o.output,o.size,o.block⟩) (λ_ a _=>a) (λ_ a _=>a));have j:=zC (show Nd al b p ul ur _ i n k from(o.block b (ah)).R B);have au:=j.c6;have av:=j.c7;have aw:=j.c8;have ax:=j.fz 6;have ay:=j.fz 7;have az:=j.fz 8;simp only[Zu];clear o B K))
 all_goals (refine Qx (by simp[results]) rfl ⟨rfl,j.set678 _ _ _,?_⟩;exact((ai.setCell _ _ (.inl (by simp))).setCell _ _ (.inl (by simp))).setCell _ _ (.inl (by simp)))
def jj(L)(p)(R)(b)(ul ur)(bl br)(base)(h i n k)(w)(d:Nd w b p ul ur h i n k)
  (e:zM w base L ul bl) (f:zM w base R ur br) (g:b∉bl) (j:b∉br) (l:(AT.tN L p R).ok):
  VM prog 92 #[V3 b 0] w λc a=>c=V5 (.tuple #[])/\Nd a b p ul ur (1+max (L.ht:Int) R.ht) (L.tI+1+R.tI) (L.rns+p.len+R.rns) (L.bks+p.brk+R.bks)/\zr [b] w a:=
 je L p R b ul ur bl br base h i n k w d e f g j l.w
def Gk(L:AT)(a:Pc)(m:AT)(d e:qa1)(i j:List Nat)(k:Nat)(b:V8)(n:zM b k L d i)(o:zM b k m e j)(x:(AT.tN L a m).ok)(E:k<=N (Y b)):
  VM prog 73 #[.pointer d,JP a,.pointer e] b λg w=>∃l,g=V5 (V3 l 0)/\N (Y b)<=l/\zM w k (.tN L a m) (qQ l 0) (l::(i++j))/\qa3 b w:=by
 have p:=λc f=>(n.lt c f).2
 have q:=λc f=>(o.lt c f).2
 have h:=zC (((xF (N (Y b)) b).alloc lR (V6 #[qP a.off,qP a.len,qP a.brk] 85)).alloc VT (V6 (ndC a d e 0 0 0 0) 171))
 have t:Nd (VF (VF b (V6 #[qP a.off,qP a.len,qP a.brk] 85)) (V6 (ndC a d e 0 0 0 0) 171)) (N (Y b)+1) a d e 0 0 0 0:=by
  have:=xJ (VF b (V6 #[qP a.off,qP a.len,qP a.brk] 85)) (V6 (ndC a d e 0 0 0 0) 171);simpa[Nd]using this
 have u:=zC (jj L a m (N (Y b)+1) d e i j k 0 0 0 0 _ t (n.I h lR) (o.I h lR) (λs=>by have:=p _ s;omega) (λs=>by have:=q _ s;omega) x);have A:=zC (n.I h lR);have HR:=zC (o.I h lR);have v:=zC (qa5 p q);clear n o x p q t;unfold JP;go_enter func73,ntmps73;go_wp2_with fail;refine u.G ?_;rintro g F ⟨rfl,y,z⟩;have B:=zC y;have r:=zC z;clear y z u;go_wp2;go_ret;have C:∀c∈i,c∉ [N (Y b)+1]:=λc f g=>by have:=v.1 c f;simp at g;omega
 have D:∀c∈j,c∉ [N (Y b)+1]:=λc f g=>by have:=v.2 c f;simp at g;omega
 exact⟨N (Y b)+1,rfl,VC,⟨_,d,e,i,j,rfl,VC,B,A.chg r C,HR.chg r D,rfl⟩,h.R (r.I VV VT)⟩
def Gz(L:AT)(p:Pc)(a:AT)(h:Nat)(c d:qa1)(i j:List Nat)(e:Nat)(q r s t:Int)(b:V8)(f:Nd b h p c d q r s t)
  (k:zM b e L c i) (l:zM b e a d j) (x:(L.ht:Int)<=16384) (y:(a.ht:Int)<=16384):
  VM prog 269 #[V3 h 0] b λg o=>g=V5 (qP ((L.ht:Int)-a.ht))/\zr [] b o:=by
 have u:=f.c3;have v:=f.c4;have w:=f.lt;have m:=zC k;have HR:=zC l;clear f k l;have n:qad.wrap ((L.ht:Int)-a.ht)=(L.ht:Int)-a.ht:=Zv _ VC VC;go_enter func269,ntmps269;go_upto_region 1 with fail
 go_region_with (first
   |(go_at_call_of 113 (Value.pointer c);refine(j6 L c i e _ (by exact m.frame (λ_ _=>rfl))).G ?_;rintro g z ⟨rfl,rfl⟩)
   |(go_at_call_of 113 (Value.pointer d);refine(j6 a d j e _ (by exact HR.frame (λ_ _=>rfl))).G ?_;rintro g A ⟨rfl,rfl⟩))
 all_goals (go_wp2;go_ret;exact⟨by first | rfl | simp[n],(zr.refl _ _).drawn rfl rfl rfl rfl⟩)
def Rj(L:AT)(g:Pc)(b:AT)(c:Nat)(d e:qa1)(h i:List Nat)(f:Nat)(j k l m:Int)(a:V8)(p:Nd a c g d e j k l m)
  (q:zM a f L d h) (r:zM a f b e i) (s:(L.ht:Int)<=8192) (t:(b.ht:Int)<=8192):
  VM prog 269 #[V3 c 0] a λn o=>n=V5 (qP ((L.ht:Int)-b.ht))/\zr [] a o:=
 Gz L g b c d e h i f j k l m a p q r VC VC
def Nd.set3{w b p l r h i n k}(a:Nd w b p l r h i n k)(l'):Nd (w.setCell (V4 b 3) (.pointer l')) b p l' r h i n k:=by
 unfold Nd at a |-;rw[vf w b 3 _ _ _ a];rfl
def Nd.set4{w b p l r h i n k}(a:Nd w b p l r h i n k)(r'):Nd (w.setCell (V4 b 4) (.pointer r')) b p l r' h i n k:=by
 unfold Nd at a |-;rw[vf w b 4 _ _ _ a];rfl
def Nd.set012{w b p l r h i n k}(a:Nd w b p l r h i n k)(q):Nd (((w.setCell (V4 b 0) (qP q.off)).setCell (V4 b 1) (qP q.len)).setCell (V4 b 2) (qP q.brk)) b q l r h i n k:=by
 unfold Nd at a |-;have c:=vf w b 0 _ _ (qP q.off) a;have d:=vf _ b 1 _ _ (qP q.len) c;have e:=vf _ b 2 _ _ (qP q.brk) d;rw[e];rfl
def Nd.other{w b p l r h i n k}(c:Nd w b p l r h i n k)(a)(v)(d:b≠a.block):Nd (w.setCell a v) b p l r h i n k:=by
 grind [Nd,heap_setCell_other]
def zM.other{w base T u bs}(d:zM w base T u bs)(a)(v)(e:a.block∉bs):zM (w.setCell a v) base T u bs:=
 d.frame λf b=>xM _ _ _ _ (λc=>e (c▸b))
def NdT(c:V8)(d:Nat)(L:AT)(b:Pc)(a:AT)(e f:qa1):Prop:=Nd c d b e f (1+max (L.ht:Int) a.ht) (L.tI+1+a.tI) (L.rns+b.len+a.rns) (L.bks+b.brk+a.bks)
def zM.mk{w base a L p R ul ur bl br}(b:base<=a)(c:NdT w a L p R ul ur)(d:zM w base L ul bl)(e:zM w base R ur br):zM w base (.tN L p R) (qQ a 0) (a::(bl++br)):=
 ⟨a,ul,ur,bl,br,rfl,b,c,d,e,rfl⟩
def Ux(A)(q)(S)(p)(R)(a c)(ua us ur)(ba bs br)(base)(g i n k h' i' n' k')(w)
  (u:Nd w a p (qQ c 0) ur g i n k) (r:Nd w c q ua us h' i' n' k') (K:zM w base A ua ba) (M:zM w base S us bs) (P:zM w base R ur br) (ai:base<=a) (ap:base<=c)
  (Q:(a::c::(ba++(bs++br))).Nodup) (B:(AT.tN A q (AT.tN S p R)).okw):
  VM prog 271 #[V3 a 0] w λb s=>b=V5 (V3 c 0)/\NdT s c A q (AT.tN S p R) ua (qQ a 0)/\zM s base A ua ba/\zM s base (AT.tN S p R) (qQ a 0) (a::(bs++br))/\zr [a,c] w s:=by
 simp at Q;obtain⟨⟨T,h,d,e⟩,⟨f,j,l⟩,_⟩:=Q;have aj:=u.c3;have ak:=r.c4;have al:=u.fz 3;have am:=r.fz 4;have an:=r.lt;have X:¬c=a:=λb=>T b.J
 have C:=zC ((u.set3 us).other (V4 c 4) (V3 a 0) T);have D:=zC ((r.other (V4 a 3) (.pointer us) X).set4 (qQ a 0));have E:=zC ((K.other (V4 a 3) (.pointer us) h).other (V4 c 4) (V3 a 0) f);have x:=zC ((M.other (V4 a 3) (.pointer us) d).other (V4 c 4) (V3 a 0) j);have y:=zC ((P.other (V4 a 3) (.pointer us) e).other (V4 c 4) (V3 a 0) l);have F:=zC (((zr.refl [a,c] w).setCell (V4 a 3) (.pointer us) (.inl VT)).setCell (V4 c 4) (V3 a 0) (.inl VT));have G:=zC (je S p R a us ur bs br base g i n k _ C x y d e B.right);have z:=zC (qa5 h (qa5 d (qa5 e (qa5 f (qa5 j l)))));have Z:=zC B;clear u r K M P B h d e f j l;go_enter func271,ntmps271;go_wp2_with fail;generalize (w.setCell _ _).setCell _ _=ao at*;refine G.G ?_;rintro b U ⟨rfl,V,o⟩;obtain⟨h,d,e,f,j,l⟩:=z.A;have aa:=zC (D.chg o (by simp_all));have H:=zC (E.chg o (λm t b=>h (by simp_all)));have ab:=zC (x.chg o (λm t b=>d (by simp_all)));have ac:=zC (y.chg o (λm t b=>e (by simp_all)));have I:=zC (show zM U base (AT.tN S p R) _ _ from⟨a,us,ur,bs,br,rfl,ai,V,ab,ac,rfl⟩);have ad:=zC (F.R o (λ_ g _=>g) (λm g _=>by simp_all));have J:=zC (je A q _ c ua _ ba _ base h' i' n' k' U aa H I f (by simp_all) Z);clear V o G C D E x y F h d e f j l;go_wp2_with fail;refine J.G ?_;rintro b aq ⟨rfl,W,v⟩;obtain⟨h,d,e,f,j,l⟩:=z.A;have ae:=zC (H.chg v (λm t b=>f (by simp_all)))
 have af:=zC (I.chg v (λm t b=>by
  simp_all))
 have ag:=zC (ad.R v (λ_ g _=>g) (λm g _=>by simp_all));have ah:=zC W;clear W v J z;go_wp2;go_ret;exact⟨rfl,ah,ae,af,ag⟩
def Gl(A)(q)(S)(p)(R)(a c)(ua us ur)(ba bs br)(base)(h i n k h' i' n' k')(w)
  (e:Nd w a p (qQ c 0) ur h i n k) (f:Nd w c q ua us h' i' n' k') (g:zM w base A ua ba) (j:zM w base S us bs) (l:zM w base R ur br) (m:base<=a) (o:base<=c)
  (r:(a::c::(ba++(bs++br))).Nodup) (s:(AT.tN A q (AT.tN S p R)).ok):
  VM prog 271 #[V3 a 0] w λd b=>d=V5 (V3 c 0)/\NdT b c A q (AT.tN S p R) ua (qQ a 0)/\zM b base A ua ba/\zM b base (AT.tN S p R) (qQ a 0) (a::(bs++br))/\zr [a,c] w b:=
 Ux A q S p R a c ua us ur ba bs br base h i n k h' i' n' k' w e f g j l m o r s.w
def Uy(L)(p)(S)(q)(D)(a c)(ul us ud)(bl bs bd)(base)(g i n k h' i' n' k')(w)
  (u:Nd w a p ul (qQ c 0) g i n k) (r:Nd w c q us ud h' i' n' k') (K:zM w base L ul bl) (M:zM w base S us bs) (P:zM w base D ud bd) (ah:base<=a) (ao:base<=c)
  (Q:(a::c::(bl++(bs++bd))).Nodup) (A:(AT.tN (AT.tN L p S) q D).okw):
  VM prog 270 #[V3 a 0] w λb s=>b=V5 (V3 c 0)/\NdT s c (AT.tN L p S) q D (qQ a 0) ud/\zM s base (AT.tN L p S) (qQ a 0) (a::(bl++bs))/\zM s base D ud bd/\zr [a,c] w s:=by
 simp at Q;obtain⟨⟨R,d,e,h⟩,⟨j,l,f⟩,_⟩:=Q;have ai:=u.c4;have aj:=r.c3;have ak:=u.fz 4;have al:=r.fz 3;have am:=r.lt;have W:¬c=a:=λb=>R b.J
 have B:=zC ((u.set4 us).other (V4 c 3) (V3 a 0) R);have C:=zC ((r.other (V4 a 4) (.pointer us) W).set3 (qQ a 0));have x:=zC ((K.other (V4 a 4) (.pointer us) d).other (V4 c 3) (V3 a 0) j);have y:=zC ((M.other (V4 a 4) (.pointer us) e).other (V4 c 3) (V3 a 0) l);have E:=zC ((P.other (V4 a 4) (.pointer us) h).other (V4 c 3) (V3 a 0) f);have F:=zC (((zr.refl [a,c] w).setCell (V4 a 4) (.pointer us) (.inl VT)).setCell (V4 c 3) (V3 a 0) (.inl VT));have G:=zC (je L p S a ul us bl bs base g i n k _ B x y d e A.left);have z:=zC (qa5 d (qa5 e (qa5 h (qa5 j (qa5 l f)))));have X:=zC A;clear u r K M P A d e h j l f;go_enter func270,ntmps270;go_wp2_with fail;generalize (w.setCell _ _).setCell _ _=an at*;refine G.G ?_;rintro b T ⟨rfl,U,o⟩;obtain⟨d,e,h,j,l,f⟩:=z.A;have Z:=zC (C.chg o (by simp_all));have aa:=zC (x.chg o (λm t b=>d (by simp_all)));have ab:=zC (y.chg o (λm t b=>e (by simp_all)));have H:=zC (E.chg o (λm t b=>h (by simp_all)));have I:=zC (show zM T base (AT.tN L p S) _ _ from⟨a,ul,us,bl,bs,rfl,ah,U,aa,ab,rfl⟩);have ac:=zC (F.R o (λ_ g _=>g) (λm g _=>by simp_all));have J:=zC (je _ q D c _ ud _ bd base h' i' n' k' T Z I H (by simp_all) f X);clear U o G B C x y E F d e h j l f;go_wp2_with fail;refine J.G ?_;rintro b ap ⟨rfl,V,v⟩;obtain⟨d,e,h,j,l,f⟩:=z.A;have ad:=zC (H.chg v (λm t b=>f (by simp_all)))
 have ae:=zC (I.chg v (λm t b=>by
  simp_all))
 have af:=zC (ac.R v (λ_ g _=>g) (λm g _=>by simp_all));have ag:=zC V;clear V v J z;go_wp2;go_ret;exact⟨rfl,ag,ae,ad,af⟩
def Gm(L)(p)(S)(q)(D)(a c)(ul us ud)(bl bs bd)(base)(h i n k h' i' n' k')(w)
  (e:Nd w a p ul (qQ c 0) h i n k) (f:Nd w c q us ud h' i' n' k') (g:zM w base L ul bl) (j:zM w base S us bs) (l:zM w base D ud bd) (m:base<=a) (o:base<=c)
  (r:(a::c::(bl++(bs++bd))).Nodup) (s:(AT.tN (AT.tN L p S) q D).ok):
  VM prog 270 #[V3 a 0] w λd b=>d=V5 (V3 c 0)/\NdT b c (AT.tN L p S) q D (qQ a 0) ud/\zM b base (AT.tN L p S) (qQ a 0) (a::(bl++bs))/\zM b base D ud bd/\zr [a,c] w b:=
 Uy L p S q D a c ul us ud bl bs bd base h i n k h' i' n' k' w e f g j l m o r s.w
def UD(a b:Nat)(ba bs br):(b::(ba++(a::(bs++br)))).Perm (a::((b::(ba++bs))++br)):=by
 grind
def UF(a b:Nat)(bl bs bd):(b::((a::(bl++bs))++bd)).Perm (a::(bl++(b::(bs++bd)))):=by
 grind
def yt(e:Nat)(f:AT)(c:List Nat)(g:V8)(h:Ending)(d:V8):Prop:=
 ∃a b,h=V5 (.pointer a)/\zM d e f a b/\b.Perm c/\zr c g d
def yt.mk{base T bs w w'}(u')(bs')(a:zM w' base T u' bs')(b:bs'.Perm bs)(c:zr bs w w'):yt base T bs w (V5 (.pointer u')) w':=⟨u',bs',rfl,a,b,c⟩
def FJ{A q S p R}(a:(AT.tN (AT.tN A q S) p R).ok):(AT.tN A q (AT.tN S p R)).ok:=a.of_flat (by simp[AT.tF])
def UR{A q S p R}(a:(AT.tN (AT.tN A q S) p R).okw):(AT.tN A q (AT.tN S p R)).okw:=a.of_flat (by simp[AT.tF])
def FK{L p S q D}(a:(AT.tN L p (AT.tN S q D)).ok):(AT.tN (AT.tN L p S) q D).ok:=a.of_flat (by simp[AT.tF])
def US{L p S q D}(a:(AT.tN L p (AT.tN S q D)).okw):(AT.tN (AT.tN L p S) q D).okw:=a.of_flat (by simp[AT.tF])
def Hh(L)(p)(R)(a)(ul ur)(bl br)(base)(b i n k)(w)(cl:Nd w a p ul ur b i n k)
  (bw:zM w base L ul bl) (bx:zM w base R ur br) (a1:base<=a) (bz:(a::(bl++br)).Nodup) (a2:(AT.tN L p R).okw) (di:L.ht<=R.ht+2) (dj:R.ht<=L.ht+2):
  VM prog 261 #[V3 a 0] w (yt base (AT.rep L p R) (a::(bl++br)) w):=by
 have b8:=bz;simp at b8;obtain⟨⟨b0,b1⟩,_⟩:=b8;have b9:=zC (je L p R a ul ur bl br base b i n k w cl bw bx b0 b1 a2);have ca:=zC bw;have HR:=zC bx;have z:=zC a2;have A:=zC bz;have cb:=zC b0;have cc:=zC b1;have da:=a2.left.bd;have db:=a2.right.bd;have cr:(L.ht:Int)<=16384:=by have:=zh L;omega
 have cs:(R.ht:Int)<=16384:=by have:=zh R;omega
 generalize ck:AT.rep L p R=a0;have B:=zC ck;clear cl bw bx a2 bz b0 b1 ck;go_enter func261,ntmps261;go_wp2_with fail;refine b9.G ?_;rintro d cm ⟨rfl,b2,ba⟩;have bd:=zC (ca.chg ba (λg bu d=>cb (by simp_all)));have bf:=zC (HR.chg ba (λg bu d=>cc (by simp_all)));have cd:=zC b2;have ce:=zC (ba.R (zr.refl [a] cm) (λg b _=>by simp_all) (λg b _=>by simp_all) (ds:=a::(bl++br)));have cf:=zC (Gz L p R a ul ur bl br base _ _ _ _ cm b2 bd bf cr cs);clear b2 ba b9 ca HR;go_wp2_with fail;refine cf.G ?_;rintro d cn ⟨rfl,a3⟩;have ad:=zC (bd.chg a3 (λ_ _=>VT));have ae:=zC (bf.chg a3 (λ_ _=>VT));have I:=zC (cd.chg a3 VT);have af:=zC (ce.R a3 (λ_ b _=>b) (λg b _=>by simp at b));have ag:=I.c3;have ah:=I.c4;have dc:=I.lt;clear a3 cf bd bf cd ce;by_cases T:(L.ht:Int)-R.ht=2
 ·have ct:(((L.ht:Int)-R.ht)==2)=true:=by rw[T];rfl
  cases L with
  | nil=>grind [AT.ht]
  | tN C m j=>
   obtain⟨e,b3,a4,F,V,rfl,W,X,b4,Z,rfl⟩:=ad.A;have bA:=z.left.left.bd;have cu:=z.left.right.bd;have cv:(C.ht:Int)<=16384:=(by have:=zh C;omega);have bg:(j.ht:Int)<=16384:=(by have:=zh j;omega);have ai:=zC (Gz C m j e b3 a4 F V base _ _ _ _ cn X b4 Z cv bg);have cg:=zC b4;have aj:=zC Z;have ak:=zC X;clear b4 Z X;go_wp2_with fail;refine ai.G ?_;rintro d a5 ⟨rfl,l⟩;have bh:=zC (cg.chg l (λ_ _=>VT));have K:=zC (aj.chg l (λ_ _=>VT));have M:=zC (ak.chg l VT);have bi:=zC (ae.chg l (λ_ _=>VT));have r:=zC (I.chg l VT);have P:=zC (af.R l (λ_ b _=>b) (λg b _=>by simp at b));clear l ai cg aj ak ae I af ad ag ah;have ag:=r.c3;have cw:=r.lt;have dd:=r.fz 3;by_cases ay:(C.ht:Int)-j.ht<0
   ·cases j with
    | nil=>grind [AT.ht]
    | tN J H o=>
     obtain⟨c,bc,ab,q,h,rfl,aa,a6,a7,ac,rfl⟩:=K.A
     have D:Hid (a0=AT.tN (AT.tN C m J) H (AT.tN o p R)):=by
      rw[<- B.A];unfold AT.rep;rw[xU T,xU (show(AT.tN C m (AT.tN J H o)).lean<0 from ay)];rfl
     have al:=by
      have f:=A.A;simp only[vR]at f;have am:=(vM.1 f.2).1;have cx:(e::(F++c::(q++h))).Perm (e::c::(F++(q++h))):=List.perm_middle.cons e;exact cx.nodup_iff.1 am
     have an:=zC (Uy C m J H o e c b3 bc ab F q h base _ _ _ _ _ _ _ _ a5 M a6 bh a7 ac W aa al (US z.left));have ao:=zC (UF e c F q h);clear a6 a7 ac al B;go_wp2_with fail;refine an.G ?_;rintro d b5 ⟨rfl,a8,a9,co,G⟩
     have ap:a∉ [e,c]:=by
      have f:=A.A;simp only[vR,xV,vC,Vh]at f;simp only[vC,QB,Vz,Vh];exact⟨f.1.1.1,f.1.1.2.2.1⟩
     have aq:∀g∈br,g∉ [e,c]:=by
      intro g bu d;have f:=A.A;simp only[vR]at f;have am:=(vM.1 f.2).2.2;simp only[vC,QB,Vz]at d;obtain rfl|rfl:=d
      ·simp_all
      grind
     have s:=zC (r.chg G ap);have ch:=zC (bi.chg G aq);have ar:=zC (P.R G (λ_ b _=>b) (λg b _=>by grind));have au:=zC (((ao.append_right br).cons a).nodup_iff.2 A);have de:=s.c3;have cy:=s.fz 3;have cz:=s.lt
     have E:a∉c::((e::(F++q))++h):=λU=>by
      have:=(vR.1 au).1;simp_all
     have bj:=zC (s.set3 (qQ c 0));have av:a∉e::(F++q):=λU=>E (by simp_all)
     have aw:a∉h:=λU=>E (by simp[U])
     have ax:a≠c:=λd=>E (by simp[d])
     have bk:=zC (a9.other (V4 a 3) (V3 c 0) av);have c0:=zC (co.other (V4 a 3) (V3 c 0) aw);have bn:=zC (Nd.other a8 (V4 a 3) (V3 c 0) (λd=>ax d.J));have c1:=zC (ch.other (V4 a 3) (V3 c 0) cc);have bp:=zC (ar.setCell (V4 a 3) (V3 c 0) (.inl VT));clear a9 co a8 G an av aw ax bh K M bi r P s ch ar ap aq E ag;go_wp2_with fail;generalize b5.setCell _ _=bv at*;have t:=zC (Ux _ H o p R a c _ ab ur _ h br base _ _ _ _ _ _ _ _ bv bj bn bk c0 c1 a1 aa (by have:=au.A;simp_all) (z.of_flat (by simp[AT.tF])));go_wp2_with fail;refine t.G ?_;rintro d b6 ⟨rfl,u,v,x,y⟩;have Q:=zC (zM.mk aa u v x);have S:=zC (bp.R y (λ_ b _=>b) (λg b _=>by grind));clear v y u x t;go_wp2;go_ret;rw[D.A];exact yt.mk _ _ Q ((UD a c _ h br).R ((ao.append_right br).cons a)) S
   have D:Hid (a0=AT.tN C m (AT.tN j p R)):=by
    rw[<- B.A];unfold AT.rep;rw[xU T,xK (show ¬ (AT.tN C m j).lean<0 from ay)];rfl
   have t:=zC (Ux C m j p R a e b3 a4 ur F V br base _ _ _ _ _ _ _ _ a5 r M bh K bi a1 W (by have:=A.A;simp_all) (UR z));clear B;go_wp2_with fail;refine t.G ?_;rintro d b6 ⟨rfl,u,v,x,y⟩;have Q:=zC (zM.mk W u v x);have S:=zC (P.R y (λ_ b _=>b) (λg b _=>by grind));clear v y u x t;go_wp2;go_ret;rw[D.A];exact yt.mk _ _ Q (UD a e F V br) S
 have ct:(((L.ht:Int)-R.ht)==2)=false:=by simpa using T
 by_cases az:(L.ht:Int)-R.ht= -2
 ·have c2:(((L.ht:Int)-R.ht)== -2)=true:=by rw[az];rfl
  cases R with
  | nil=>grind [AT.ht]
  | tN j m o=>
   obtain⟨e,a4,ab,V,h,rfl,W,X,Z,ac,rfl⟩:=ae.A;have cu:=z.right.left.bd;have df:=z.right.right.bd;have bg:(j.ht:Int)<=16384:=(by have:=zh j;omega);have c3:(o.ht:Int)<=16384:=(by have:=zh o;omega);have ai:=zC (Gz j m o e a4 ab V h base _ _ _ _ cn X Z ac bg c3);have aj:=zC Z;have ci:=zC ac;have ak:=zC X;clear Z ac X;go_wp2_with fail;refine ai.G ?_;rintro d a5 ⟨rfl,l⟩;have K:=zC (aj.chg l (λ_ _=>VT));have bq:=zC (ci.chg l (λ_ _=>VT));have M:=zC (ak.chg l VT);have bs:=zC (ad.chg l (λ_ _=>VT));have r:=zC (I.chg l VT);have P:=zC (af.R l (λ_ b _=>b) (λg b _=>by simp at b));clear l ai aj ci ak ae I af ad ag ah;have ah:=r.c4;have cw:=r.lt;have cy:=r.fz 4;by_cases ay:(j.ht:Int)-o.ht > 0
   ·cases j with
    | nil=>grind [AT.ht]
    | tN J H b7=>
     obtain⟨c,bc,c6,q,be,rfl,aa,a6,a7,cp,rfl⟩:=K.A
     have D:Hid (a0=AT.tN (AT.tN L p J) H (AT.tN b7 m o)):=by
      rw[<- B.A];unfold AT.rep;rw[xK T,xU az,xU (show 0<(AT.tN (AT.tN J H b7) m o).lean from ay)];rfl
     have al:(e::c::(q++(be++h))).Nodup:=by
      have f:=A.A;simp only[vR]at f;have am:=(vM.1 f.2).2.1;simpa[vB]using am
     have an:=zC (Ux J H b7 m o e c bc c6 ab q be h base _ _ _ _ _ _ _ _ a5 M a6 a7 cp bq W aa al (UR z.right));have ao:=zC (UD e c q be h);clear a6 a7 cp al B;go_wp2_with fail;refine an.G ?_;rintro d b5 ⟨rfl,a8,cq,a9,G⟩
     have ap:a∉ [e,c]:=by
      have f:=A.A;simp only[vR,xV,vC,Vh]at f;simp only[vC,QB,Vz,Vh];exact⟨f.1.2.1,f.1.2.2.1.1⟩
     have aq:∀g∈bl,g∉ [e,c]:=by
      intro g bu d;have f:=A.A;simp only[vR]at f;have am:=(vM.1 f.2).2.2;simp only[vC,QB,Vz]at d;obtain rfl|rfl:=d
      ·grind
      grind
     have s:=zC (r.chg G ap);have cj:=zC (bs.chg G aq);have ar:=zC (P.R G (λ_ b _=>b) (λg b _=>by grind));have au:=zC (((ao.append_left bl).cons a).nodup_iff.2 A);have dg:=s.c4;have dh:=s.fz 4;have cz:=s.lt
     have E:a∉c::(q++(e::(be++h))):=λU=>by
      have:=(vR.1 au).1;simp_all
     have av:a∉e::(be++h):=λU=>E (by simp_all)
     have aw:a∉q:=λU=>E (by simp[U])
     have ax:a≠c:=λd=>E (by simp[d])
     have bj:=zC (s.set4 (qQ c 0));have bk:=zC (a9.other (V4 a 4) (V3 c 0) av);have c4:=zC (cq.other (V4 a 4) (V3 c 0) aw);have bn:=zC (Nd.other a8 (V4 a 4) (V3 c 0) (λd=>ax d.J));have c5:=zC (cj.other (V4 a 4) (V3 c 0) cb);have bp:=zC (ar.setCell (V4 a 4) (V3 c 0) (.inl VT));have bt:=zC ((List.perm_middle.cons a).nodup_iff.1 au);clear a9 cq a8 G an av aw ax K bq M bs r P s cj ar ap aq E ah;go_wp2_with fail;generalize b5.setCell _ _=bv at*;have t:=zC (Uy L p J H _ a c ul bc _ bl q _ base _ _ _ _ _ _ _ _ bv bj bn c5 c4 bk a1 aa bt (z.of_flat (by simp[AT.tF])));go_wp2_with fail;refine t.G ?_;rintro d b6 ⟨rfl,u,v,x,y⟩;have Q:=zC (zM.mk aa u v x);have S:=zC (bp.R y (λ_ b _=>b) (λg b _=>by grind));clear v y u x t;go_wp2;go_ret;rw[D.A];exact yt.mk _ _ Q ((UF a c bl q _).R ((ao.append_left bl).cons a)) S
   have D:Hid (a0=AT.tN (AT.tN L p j) m o):=by
    rw[<- B.A];unfold AT.rep;rw[xK T,xU az,xK (show ¬0<(AT.tN j m o).lean from ay)];rfl
   have bt:=zC ((List.perm_middle.cons a).nodup_iff.1 A);have t:=zC (Uy L p j m o a e ul a4 ab bl V h base _ _ _ _ _ _ _ _ a5 r M bs K bq a1 W bt (US z));clear B;go_wp2_with fail;refine t.G ?_;rintro d b6 ⟨rfl,u,v,x,y⟩;have Q:=zC (zM.mk W u v x);have S:=zC (P.R y (λ_ b _=>b) (λg b _=>by grind));clear v y u x t;go_wp2;go_ret;rw[D.A];exact yt.mk _ _ Q (UF a e bl V h) S
 have c2:(((L.ht:Int)-R.ht)== -2)=false:=by simpa using az
 have D:Hid (a0=AT.tN L p R):=by
  rw[<- B.A];unfold AT.rep;rw[xK T,xK az];exact rfl
 clear B ag ah;go_wp2;go_ret;rw[D.A];exact yt.mk _ _ (zM.mk a1 I ad ae) (List.Perm.refl _) af
def Yk(L)(p)(R)(a)(ul ur)(bl br)(base)(h i n k)(w)(b:Nd w a p ul ur h i n k)
  (c:zM w base L ul bl) (d:zM w base R ur br) (e:base<=a) (f:(a::(bl++br)).Nodup) (g:(AT.tN L p R).ok) (j:L.ht<=R.ht+2) (l:R.ht<=L.ht+2):
  VM prog 261 #[V3 a 0] w (yt base (AT.rep L p R) (a::(bl++br)) w):=
 Hh L p R a ul ur bl br base h i n k w b c d e f g.w j l
def ZF(f:Nat)(g:AT)(c:List Nat)(d:V8)(h:Ending)(e:V8):Prop:=
 ∃b a,h=V5 (.pointer b)/\zM e f g b a/\a.Nodup/\(∀x∈a,x∈c\/N (Y d)<=x)/\zr c d e
def Wz{b d:Nat}{bl br bl'}(e:(b::(bl++br)).Nodup)(f:∀a∈b::(bl++br),a<d)(l:bl'.Nodup)(g:∀a∈bl',a∈bl\/d<=a):(b::(bl'++br)).Nodup:=by
 simp only[vR,vM,xV,Vh]at e |-;obtain⟨⟨p,m⟩,q,n,r⟩:=e;refine⟨⟨λh=>?_,m⟩,l,n,λa i o j k=>?_⟩
 ·obtain c|c:=g b h
  ·grind
  have:=f b VT;omega
 subst k;obtain c|c:=g a i
 ·grind
 have:=f a (by simp[j]);omega
def Y6{b d:Nat}{bl br br'}(e:(b::(bl++br)).Nodup)(f:∀a∈b::(bl++br),a<d)(l:br'.Nodup)(g:∀a∈br',a∈br\/d<=a):(b::(bl++br')).Nodup:=by
 simp only[vR,vM,xV,Vh]at e |-;obtain⟨⟨m,p⟩,n,q,r⟩:=e;refine⟨⟨m,λh=>?_⟩,n,l,λa i o j k=>?_⟩
 ·obtain c|c:=g b h
  ·grind
  have:=f b VT;omega
 subst k;obtain c|c:=g a j
 ·grind
 have:=f a (by simp[i]);omega
def Oc{d b:List Pc}(c:d.Sublist b)(e:∀a∈b,jU a=true):(d.map (λa=>a.len)).sum<=(b.map (λa=>a.len)).sum:=by
 induction c with
 | slnil=>simp
 | cons f c g=>
  have:=g (λa h=>e a (by simp[h]));have i:=e f VT
  grind [jU]
 | cons_cons f c g=>
  simp_all
def AT.ok.sub{b c:AT}(a:c.ok)(d:b.tF.Sublist c.tF):b.ok:=
 ⟨λe f=>a.1 e (d.subset f),by have g:=Oc d a.1;have h:=a.2;grind [AT.rns_of_flat]⟩
def AT.okw.sub{b c:AT}(a:c.okw)(d:b.tF.Sublist c.tF):b.okw:=
 ⟨λe f=>a.1 e (d.subset f),by have g:=Oc d a.1;have h:=a.2;grind [AT.rns_of_flat]⟩
theorem AT.qL(a:AT)(k)(b:k<a.tI):(a.rem k).tF.Sublist a.tF:=by
 grind [AT.rem_flat,List.drop_drop,List.take_append_drop,List.Sublist.append_left,List.sublist_append_right]
def Gn(T)(u)(bs)(base)(w)(p:zM w base T u bs)(q:T≠ .nil):
  VM prog 265 #[.pointer u] w λD E=>D=V5 (JP T.first)/\qa3 w E:=by
 have HT:=zC p;have l:=zC q;have d:=zC ((xF _ w).alloc lR (V6 #[qP 0,qP 0,qP 0] 85));have b:(VF w (V6 #[qP 0,qP 0,qP 0] 85)).heap[N (Y w)]?=O _:=xJ _ _;have J:N (Y (VF w (V6 #[qP 0,qP 0,qP 0] 85)))=N (Y w)+1:=VT
 generalize n:T.first=i
 have m:=zC n;clear p q n;go_enter func265,ntmps265;go_wp2_with fail;generalize w.alloc _=C at*;go_loopg [0] T.ht (λF G wr=>∃(a:AT)(f:qa1)(o:List Nat),G= .pointer f/\F=a.ht/\zM w base a f o/\a≠ .nil/\a.first=i/\wr=C)
 case atStart=>exact⟨T,u,bs,rfl,rfl,HT,l,m,rfl⟩
 obtain⟨a,f,o,rfl,rfl,H,j,g,rfl⟩:=hrel;clear HT l m;cases a with
 | nil=>exact absurd rfl j
 | tN I s ag=>
  obtain⟨V,W,X,Z,aa,rfl,ab,c,k,r,rfl⟩:=H;have e:=c.lt;have K:=(d.U e).R c.c0;have M:=(d.U e).R c.c1;have P:=(d.U e).R c.c2;have Q:=(d.U e).R c.c3;cases I with
  | nil=>
   obtain⟨rfl,rfl⟩:=k;have h:=zC (show s=i from g);have y:VE wr (V4 (N (Y w)) 0)=O (qP 0):=(by rw[xH wr _ 0 _ _ _ b];rfl);have z:VE wr (V4 (N (Y w)) 1)=O (qP 0):=(by rw[xH wr _ 1 _ _ _ b];rfl);have A:VE wr (V4 (N (Y w)) 2)=O (qP 0):=(by rw[xH wr _ 2 _ _ _ b];rfl);have R:=xW wr _ 0 _ _ b;have S:=xW wr _ 1 _ _ b;have U:=xW wr _ 2 _ _ b;clear c r j g b;go_wp2;refine vE (v:=JP s) (by simp[results,go_sem,y,z,A];rfl) rfl ⟨by rw[h.A],((d.setCell VT _).setCell VT _).setCell VT _⟩
  | tN t x a=>
   have B:=zC k;obtain⟨ac,ad,f,ae,af,rfl,_⟩:=k;have h:=zC (show(AT.tN t x a).first=i from g);clear c r j g;go_wp2;go_roundg (AT.tN t x a).ht
   case measure=>grind [AT.ht]
   exact⟨_,_,_,rfl,rfl,B,VT,h,by rfl⟩
def AT.rem_lt(l)(p)(r)(k)(a:k<l.tI):(AT.tN l p r).rem k=AT.rep (l.rem k) p r:=by
 rw[AT.rem.eq_def];simp_all
def AT.rem_gt(l)(p)(r)(k)(a:¬k<l.tI)(b:l.tI<k):(AT.tN l p r).rem k=AT.rep l p (r.rem (k-l.tI-1)):=by
 rw[AT.rem.eq_def];grind
theorem zv(l)(p)(r):(AT.tN l p r).tF=l.tF++p::r.tF:=rfl
def AT.qC{l p r}(a:(AT.tN l p r).bal):l.bal/\r.bal/\l.ht<=r.ht+1/\r.ht<=l.ht+1:=a
def ZG{base T bs cs w w3 w4 e}(f:zr bs w w3)(g:∀a∈cs,a∈bs\/N (Y w)<=a)(h:cs.Nodup)(b:yt base T cs w3 e w4):ZF base T bs w e w4:=by
 obtain⟨i,j,rfl,k,d,l⟩:=b;refine⟨i,j,rfl,k,d.nodup_iff.2 h,λa c=>g a (d.mem_iff.1 c),f.R l (λ_ b _=>b) (λa c m=>?_)⟩
 grind
def Sg:∀(C:AT)(d)(ae)(D)(m)(s),C.bal->C.okw->d<C.tI->zM s m C ae D->D.Nodup->
  VM prog 266 #[.pointer ae,qP d] s (ZF m (C.rem d) D s):=by
 intro C
 induction C with
 | nil=>intro d ae D m s _ _ b4;simp[AT.tI]at b4
 | tN c p i cj ck=>
  intro d ae D m s b5 aw b4 b6 ax;have a7:=b6.lt;obtain⟨a,az,a0,k,l,rfl,a1,a2,a3,cf,rfl⟩:=b6;obtain⟨cb,cc,dj,dk⟩:=AT.qC b5;have a8:=ax;simp only[vR,vM,xV,Vh]at a8;obtain⟨⟨b7,b8⟩,b9,ca,a4⟩:=a8;have a9:∀b∈l,b∉k:=λb j t=>a4 b t b j rfl
  have ba:∀b∈k,b∉l:=λb j t=>a4 b j b t rfl
  have cz:=aw.bd;have c0:((AT.tN c p i).tI:Int)=c.tI+1+i.tI:=(by simp only[AT.tI];omega);have c1:(AT.tN c p i).tI=c.tI+1+i.tI:=rfl;have S:=a2.c3;have bc:=zC (JU c az k m s a3);generalize cd:(AT.tN c p i).rem d=X;have n:=zC cd;have bd:=zC a3;have HR:=zC cf;have bf:=zC a2;have al:=zC ax;have G:=zC aw;have cl:=zC a7;have e:=zC (qa5 b7 (qa5 b8 (qa5 b9 (qa5 ca (qa5 a9 ba)))));have cm:=zC cj;have bg:=zC ck;have H:=zC (qa5 cb cc);have c2:=Tryz.fld0;clear a2 a3 cf cd ax aw a7 b7 b8 b9 ca a4 a9 ba cj ck b5 cb cc;go_enter func266,ntmps266;go_wp2_with fail;refine bc.G ?_;rintro E Z ⟨rfl,J⟩;have cn:=J.size;have A:=zC (bd.I J lR);have v:=zC (HR.I J lR);have w:=zC (Nd.chg (cs:=[]) bf (zr.qa J) VT);have x:=zC (zr.qa (bs:=a::(k++l)) J);have am:=zC (λb j=>vh (cl b j).2 cn);clear J bc bd HR bf S;have S:=w.c3;have an:=w.c4;unfold Zu;by_cases F:d<c.tI
  ·have bh:(d:Int)<c.tI:=VC
   have q:Hid (X=AT.rep (c.rem d) p i):=by
    rw[<- n.A,AT.rem_lt _ _ _ _ F];exact rfl
   have bi:=AT.rem_bal c d H.1 F;have o:=zC (cm d az k m Z H.1 G.left F A e.2.2.1);clear n;go_wp2_with fail;refine o.G ?_;rintro E K ⟨u2,a5,rfl,aa,ab,ac,u⟩;have f:=zC (w.chg u e.1);have bj:=zC (v.chg u e.2.2.2.2.1);have B:=zC (Wz al am ab ac);have T:a∉a5:=λt=>(vR.1 B).1 (kY _ t)
   have c3:=f.c3;have c4:=f.fz 3;have y:=zC (x.R u (λ_ h _=>h) (λb h _=>by simp[h]));have r:=zC (f.set3 u2);have U:=zC (aa.other (V4 a 3) (.pointer u2) T);have bk:=zC (bj.other (V4 a 3) (.pointer u2) e.2.1);have I:=zC (y.setCell (V4 a 3) (.pointer u2) (.inl VT))
   have V:=zC (show ∀b∈a::(a5++l),b∈a::(k++l)\/N (Y s)<=b from λb j=>by
    grind)
   have ao:=zC (show(AT.tN (c.rem d) p i).okw from G.sub (by grind [zv,AT.qL]));have W:=zC (Hh _ p i a u2 a0 a5 l m _ _ _ _ _ r U bk a1 B ao VC VC);clear aa ab ac u T o f bj y w A v x S an r U bk;go_wp2_with fail;generalize K.setCell _ _=ce at*;refine W.G ?_;intro E ay z;have HM:=zC (ZG I V B z);obtain⟨u4,cx,rfl,_⟩:=z;clear W;go_wp2;go_ret;rw[q.A];exact HM
  by_cases af:c.tI<d
  ·have bh:¬ (d:Int)<c.tI:=VC
   have co:(d:Int) > c.tI:=VC
   have q:Hid (X=AT.rep c p (i.rem (d-c.tI-1))):=by
    rw[<- n.A,AT.rem_gt _ _ _ _ F af];exact rfl
   have ap:d-c.tI-1<i.tI:=VC;have bi:=AT.rem_bal i _ H.2 ap;have o:=zC (bg _ a0 l m Z H.2 G.right ap v e.2.2.2.1);have bl:((d-c.tI-1:Nat):Int)=d-c.tI-1:=VC;rw[bl]at o;clear n bl;go_wp2_with fail;refine o.G ?_;rintro E K ⟨u2,a6,rfl,aa,ab,ac,u⟩;have f:=zC (w.chg u e.2.1);have bn:=zC (A.chg u e.2.2.2.2.2);have B:=zC (Y6 al am ab ac);have T:a∉a6:=λt=>(vR.1 B).1 (ki _ t)
   have cp:=f.c4;have cq:=f.fz 4;have y:=zC (x.R u (λ_ h _=>h) (λb h _=>by simp[h]));have r:=zC (f.set4 u2);have U:=zC (aa.other (V4 a 4) (.pointer u2) T);have bp:=zC (bn.other (V4 a 4) (.pointer u2) e.1);have I:=zC (y.setCell (V4 a 4) (.pointer u2) (.inl VT))
   have V:=zC (show ∀b∈a::(k++a6),b∈a::(k++l)\/N (Y s)<=b from λb j=>by
    grind)
   have ao:=zC (show(AT.tN c p (i.rem _)).okw from G.sub (by rw[zv,zv];exact((AT.qL i _ ap).cons_cons p).append_left _));have W:=zC (Hh c p _ a az u2 k a6 m _ _ _ _ _ r bp U a1 B ao VC VC);clear aa ab ac u T o f bn y w A v x S an r U bp;go_wp2_with fail;generalize K.setCell _ _=ce at*;refine W.G ?_;intro E ay z;have HM:=zC (ZG I V B z);obtain⟨u4,cx,rfl,_⟩:=z;clear W;go_wp2;go_ret;rw[q.A];exact HM
  have c5:d=c.tI:=VC;have bh:¬ (d:Int)<c.tI:=VC;have co:¬ (d:Int) > c.tI:=VC;cases c with
  | nil=>
   obtain⟨rfl,rfl⟩:=A.A
   have q:Hid (X=i):=by
    rw[<- n.A,AT.rem,xK F,xK af];exact rfl
   clear n;go_wp2;go_ret;rw[q.A];exact⟨a0,l,rfl,v,e.2.2.2.1,λb j=>.inl (by simp[j]),x⟩
  | tN ai aj ak=>
   have aq:=zC A;obtain⟨dl,dm,dn,dp,D,rfl,_⟩:=A;cases i with
   | nil=>
    obtain⟨rfl,rfl⟩:=v.A
    have q:Hid (X=AT.tN ai aj ak):=by
     rw[<- n.A,AT.rem,xK F,xK af];exact rfl
    clear n;go_wp2;go_ret;rw[q.A];exact⟨_,k,rfl,aq,e.2.2.1,λb j=>.inl (by simp[j]),x⟩
   | tN P Q R=>
    have ar:=zC v;obtain⟨dq,dr,ds,dt,du,rfl,_⟩:=v
    have q:Hid (X=AT.rep (AT.tN ai aj ak) (AT.first (AT.tN P Q R)) ((AT.tN P Q R).rem 0)):=by
     rw[<- n.A,AT.rem,xK F,xK af];exact rfl
    have au:0<(AT.tN P Q R).tI:=(by simp only[AT.tI];omega);have bi:=AT.rem_bal _ 0 H.2 au;have bq:=zC (Gn _ _ l m Z ar VT);obtain⟨dv,cg⟩:=AT.first_flat (AT.tN P Q R) VT;have cr:=zC cg;generalize dh:(AT.tN P Q R).first=g at*
    clear n cg;go_wp2_with fail;refine bq.G ?_;rintro E K ⟨rfl,M⟩;have ct:=M.size;have f:=zC (Nd.chg (cs:=[]) w (zr.qa M) VT);have br:=zC (aq.I M lR);have bs:=zC (ar.I M lR);have y:=zC (x.R (zr.qa M) (λ_ h _=>h) (λ_ h _=>h));have c6:=f.c0;have da:=f.c1;have db:=f.c2;have dc:=f.fz 0;have dd:=f.fz 1;have de:=f.fz 2;have r:=zC (f.set012 g);have bt:=zC (((br.other (V4 a 0) (qP g.off) e.1).other (V4 a 1) (qP g.len) e.1).other (V4 a 2) (qP g.brk) e.1);have bu:=zC (((bs.other (V4 a 0) (qP g.off) e.2.1).other (V4 a 1) (qP g.len) e.2.1).other (V4 a 2) (qP g.brk) e.2.1);have I:=zC (((y.setCell (V4 a 0) (qP g.off) (.inl VT)).setCell (V4 a 1) (qP g.len) (.inl VT)).setCell (V4 a 2) (qP g.brk) (.inl VT));have cu:=r.c4;have o:=zC (bg 0 _ l m _ H.2 G.right au bu e.2.2.2.1);have df:N (Y Z)<=N (Y (((K.setCell (V4 a 0) (qP g.off)).setCell (V4 a 1) (qP g.len)).setCell (V4 a 2) (qP g.brk))):=(by simpa using ct);simp at o;clear M bq w f br bs y aq ar x S an;unfold JP;go_wp2_with fail;generalize ((K.setCell _ _).setCell _ _).setCell _ _=ce at*;refine o.G ?_;rintro E ay ⟨u4,ag,rfl,ch,ci,cy,ah⟩;have ad:=zC (r.chg ah e.2.1);have bv:=zC (bt.chg ah e.2.2.2.2.2)
    have bw:∀b∈ag,b∈l\/N (Y Z)<=b:=λb j=>by
     grind
    have av:=zC (Y6 al am ci bw);have bx:a∉ag:=λt=>(vR.1 av).1 (ki _ t)
    have cp:=ad.c4;have cq:=ad.fz 4;have bz:=zC (I.R ah (λ_ h _=>h) (λb h _=>by simp[h]));have b0:=zC (ad.set4 u4);have b1:=zC (ch.other (V4 a 4) (.pointer u4) bx);have b2:=zC (bv.other (V4 a 4) (.pointer u4) e.1);have cv:=zC (bz.setCell (V4 a 4) (.pointer u4) (.inl VT))
    have V:=zC (show ∀b∈a::(k++ag),b∈a::(k++l)\/N (Y s)<=b from λb j=>by
     grind)
    have cw:=zC (show(AT.tN (AT.tN ai aj ak) g ((AT.tN P Q R).rem 0)).okw from G.sub (by
     rw[zv,zv (AT.tN ai aj ak),AT.rem_flat _ 0 au,cr.A]
     simp))
    have b3:=zC (Hh _ g _ a _ u4 k ag m _ _ _ _ _ b0 b2 b1 a1 av cw VC VC);clear ch ci cy bw ah bx o ad bv bz r bt bu I b0 b1 b2 cu;go_wp2_with fail;generalize ay.setCell _ _=di at*;refine b3.G ?_;intro E dg z;have HM:=zC (ZG cv V av z);obtain⟨u6,dw,rfl,_⟩:=z;clear b3;go_wp2;go_ret;rw[q.A];exact HM
def removeN:∀(a:AT)(b)(e)(c)(f)(d),a.bal->a.ok->b<a.tI->zM d f a e c->c.Nodup->
  VM prog 266 #[.pointer e,qP b] d (ZF f (a.rem b) c d):=
 λa b e c f d g h i j k=>Sg a b e c f d g h.w i j k
def AT.spl_gt(a:AT)(b:Pc)(c:AT)(e:Pc)(d:AT)(f:(AT.tN a b c).ht > d.ht+1):AT.spl (.tN a b c) e d=AT.rep a b (AT.spl c e d):=by
 rw[AT.spl.eq_def];simp only[xU f]
def AT.spl_lt(a:AT)(e:Pc)(b:AT)(c:Pc)(d:AT)(f:¬a.ht > (AT.tN b c d).ht+1)(g:(AT.tN b c d).ht > a.ht+1):AT.spl a e (.tN b c d)=AT.rep (AT.spl a e b) c d:=by
 rw[AT.spl.eq_def];simp only[xK f,xU g]
def AT.spl_eq(a:AT)(c:Pc)(b:AT)(d:¬a.ht > b.ht+1)(e:¬b.ht > a.ht+1):AT.spl a c b= .tN a c b:=by
 rw[AT.spl.eq_def];simp only[xK d,xK e]
def CutR(b c f:Nat)(g:AT)(h:Pc)(i:AT)(d:qa1)(e j k:List Nat)(l m n o:Int)(p wc:V8):Prop:=
 ∃u2 a,Nd wc c h d u2 l m n o/\zM wc b i u2 a/\zM wc b g d e/\(c::(e++a)).Nodup/\(∀x∈a,x∈j\/f<=x)/\zr k p wc
def CutL(b c f:Nat)(g:AT)(h:Pc)(i:AT)(d:qa1)(e j k:List Nat)(l m n o:Int)(p wc:V8):Prop:=
 ∃u2 a,Nd wc c h u2 d l m n o/\zM wc b i u2 a/\zM wc b g d e/\(c::(a++e)).Nodup/\(∀x∈a,x∈j\/f<=x)/\zr k p wc
def zM.heap{a w':V8}{b:Nat}{c:AT}{d:qa1}{f:List Nat}(g:zM a b c d f)(e:w'.heap=a.heap):zM w' b c d f:=g.frame (λ_ _=>by rw[e])
def ZF.drawn{d:Nat}{e:AT}{f:List Nat}{a w:V8}{g:Ending}{h:V8}(i:ZF d e f a g h)(j:a.os=w.os)(k:a.tape=w.tape)(l:a.output=w.output)(c:a.heap=w.heap):ZF d e f w g h:=by
 obtain⟨m,n,o,p,q,r,b⟩:=i;exact⟨m,n,o,p,q,by rw[<- c];exact r,b.os.R j,b.tape.R k,b.output.R l,by rw[<- c];exact b.size,by rw[<- c];exact b.block⟩
def AT.ins_le(l)(p)(r)(k)(e)(a:k<=l.tI):(AT.tN l p r).ins k e=AT.rep (l.ins k e) p r:=by
 rw[AT.ins.eq_def];simp_all
def AT.ins_gt(l)(p)(r)(k)(e)(a:¬k<=l.tI):(AT.tN l p r).ins k e=AT.rep l p (r.ins (k-l.tI-1) e):=by
 rw[AT.ins.eq_def];grind
def AT.sub_ins(a:AT)(k)(e)(b:k<=a.tI):a.tF.Sublist (a.ins k e).tF:=by
 rw[AT.ins_flat a k e b];have c:(a.tF.take k++a.tF.drop k).Sublist (a.tF.take k++e::a.tF.drop k):=List.Sublist.append_left (List.sublist_cons_self _ _) _
 simp_all
def Od:∀(A:AT)(e)(a)(X)(v)(l)(d),A.bal->(A.ins e a).ok->e<=A.tI->zM d l A X v->v.Nodup->l<=N (Y d)->
  VM prog 251 #[.pointer X,qP e,JP a] d (ZF l (A.ins e a) v d):=by
 intro A
 induction A with
 | nil=>
  intro e a X v l d _ E _ P _ b0;obtain⟨rfl,rfl⟩:=P;have T:=zC (show(AT.tN _ a _).ok from E);have F:=zC ((xF _ d).alloc lR (V6 #[qP a.off,qP a.len,qP a.brk] 85));have ab:(VF d (V6 #[qP a.off,qP a.len,qP a.brk] 85)).heap[N (Y d)]?=O _:=xJ _ _;have bl:N (Y (VF d (V6 #[qP a.off,qP a.len,qP a.brk] 85)))=N (Y d)+1:=VT;clear E;unfold JP;go_enter func251,ntmps251;go_wp2_with fail;generalize d.alloc _=ai at*;refine(Gk .nil a .nil none none [] [] l ai ⟨rfl,rfl⟩ ⟨rfl,rfl⟩ T VC).G ?_;rintro bc bd ⟨nb,rfl,ch,j,x⟩;have G:=zC j;have r:=zC ((zr.qa (bs:=[]) F).R (zr.qa x) (λ_ g _=>g) (λ_ g _=>g));clear j x;go_wp2;go_ret;exact⟨_,_,rfl,G,VT,λc w=>.inr (by grind),r⟩
 | tN b i f bj bk=>
  intro e a X v l d a3 E b1 P a4 b0;have ao:=P.lt;have F:=zC ((xF _ d).alloc lR (V6 #[qP a.off,qP a.len,qP a.brk] 85));have ab:(VF d (V6 #[qP a.off,qP a.len,qP a.brk] 85)).heap[N (Y d)]?=O _:=xJ _ _;have bl:N (Y (VF d (V6 #[qP a.off,qP a.len,qP a.brk] 85)))=N (Y d)+1:=VT;have ap:=zC (P.I F lR);obtain⟨a5,a6,ci,cj⟩:=AT.qC a3;have bn:=E.sub (AT.sub_ins _ e a b1);have b5:=bn.bd;have b6:((AT.tN b i f).tI:Int)=b.tI+1+f.tI:=(by simp only[AT.tI];omega);have b7:(AT.tN b i f).tI=b.tI+1+f.tI:=rfl;have aq:=zC (zr.qa (bs:=v) F);have ac:=zC a4;have T:=zC E;have bp:=zC ao;have bq:=zC bj;have br:=zC bk;have U:=zC (qa5 a5 a6);generalize bf:(AT.tN b i f).ins e a=bg at*;have V:=zC bf;have b8:=Tryz.fld0;clear P a4 E ao a3 bj bk bf a5 a6;obtain⟨m,Z,al,o,p,rfl,bh,aa,am,bi,rfl⟩:=ap.A;have ar:=aa.c3;have au:=aa.lt;unfold JP;go_enter func251,ntmps251;go_wp2_with fail;generalize d.alloc _=ai at*;refine(JU b Z o l ai am).G ?_;rintro ck k ⟨rfl,C⟩;have b9:=C.size;have W:=(C.block _ VC).R ab;have ca:VE k (V4 (N (Y d)) 0)=O (qP a.off):=(by rw[xH k _ 0 _ _ _ W];rfl);have cb:VE k (V4 (N (Y d)) 1)=O (qP a.len):=(by rw[xH k _ 1 _ _ _ W];rfl);have cc:VE k (V4 (N (Y d)) 2)=O (qP a.brk):=(by rw[xH k _ 2 _ _ _ W];rfl);have cd:N (Y d)<N (Y k):=VC;have H:=zC (Nd.chg (cs:=[]) aa (zr.qa C) VT);have av:=zC (am.I C lR);have aw:=zC (bi.I C lR);have ax:=zC (aq.R (zr.qa C) (λ_ g _=>g) (λ_ g _=>g));have ay:=zC (show ∀c∈m::(o++p),c<N (Y k) from λc w=>by have:=(bp c w).2;omega);have az:=ac.A;simp only[vR,vM,xV,Vh]at az;obtain⟨⟨a7,a8⟩,a9,ba,an⟩:=az;have a0:∀c∈p,c∉o:=λc w B=>an c B c w rfl
  have a1:∀c∈o,c∉p:=λc w B=>an c w c B rfl
  have u:=zC (qa5 a7 (qa5 a8 (qa5 a9 (qa5 ba (qa5 a0 a1)))));clear aa am bi C W ab a7 a8 a9 ba an a0 a1 ar aq F ap au;have ar:=H.c3;have ce:=H.c4;have au:=H.lt;unfold Zu;by_cases ah:e<=b.tI
  ·have bs:(e:Int)<=b.tI:=VC
   have I:Hid (bg=AT.rep (b.ins e a) i f):=by
    rw[<- V.A,AT.ins_le _ _ _ _ _ ah];exact rfl
   have bt:=AT.ins_bal b e a U.1;have y:(AT.tN _ i f).ok:=T.of_flat (by rw[I.A,AT.flat_rep];rfl);have D:=zC (λaj ak=>bq e a Z o l aj U.1 y.left ah (av.heap ak) u.2.2.1 (by grind));have ad:=zC y;clear V y;have bu:decide ((e:Int)<=b.tI)=true:=VV;go_upto_region 5 with fail;go_cut [] (λwc=>CutL l m (N (Y k)) f i (b.ins e a) al p o (m::o) (1+max (b.ht:Int) f.ht) (b.tI+1+f.tI) (b.rns+i.len+f.rns) (b.bks+i.brk+f.bks) k wc)
   case first=>
    unfold JP at D;go_region_with (go_at_call 251;refine(D _ (by exact rfl)).G ?_;intro bc bd Q;obtain⟨u5,q,rfl,j,n,t,h⟩:=Q.drawn (w:=k) rfl rfl rfl rfl;have s:=zC (H.chg h u.1);have G:=zC j;have ae:=zC (aw.chg h u.2.2.2.2.1);have z:=zC n;have J:=zC t;have r:=zC h;have bv:=s.c3;have bw:=s.fz 3;have bx:=s.lt;clear Q j n t h)
    all_goals (
     go_wp2_with fail;go_meet;have K:=Wz ac ay z J;have af:m∉q:=λB=>(vR.1 K).1 (kY _ B)
     exact⟨u5,q,(s.set3 u5).heap rfl,(G.other _ _ af).heap rfl,(ae.other _ _ u.2.1).heap rfl,K,J,((r.R (zr.refl [] _) (λc g _=>by simp_all) (λc g _=>by simp at g)).setCell _ _ (.inl VT)).drawn rfl rfl rfl rfl⟩)
   obtain⟨u5,q,x,j,S,n,t,h⟩:=hcut;have M:=zC (Yk _ i f m u5 al q p l _ _ _ _ wc x j S bh n ad VC VC);have r:=zC (ax.R h (λ_ g _=>g) (λc g _=>by grind))
   have ag:=zC (show ∀c∈m::(q++p),c∈m::(o++p)\/N (Y d)<=c from λc w=>by
    grind)
   have z:=zC n;clear x j S n t h;go_wp2_with fail;refine M.G ?_;intro b2 b3 R;have HM:=zC (ZG r ag z R);obtain⟨u6,b4,rfl,_⟩:=R;clear M;go_wp2;go_ret;rw[I.A];exact HM
  have bs:¬ (e:Int)<=b.tI:=VC
  have I:Hid (bg=AT.rep b i (f.ins (e-b.tI-1) a)):=by
   rw[<- V.A,AT.ins_gt _ _ _ _ _ ah];exact rfl
  have bt:=AT.ins_bal f (e-b.tI-1) a U.2;have y:(AT.tN b i _).ok:=T.of_flat (by rw[I.A,AT.flat_rep];rfl);have bz:e-b.tI-1<=f.tI:=VC;have D:=zC (λaj ak=>br _ a al p l aj U.2 y.right bz (aw.heap ak) u.2.2.2.1 (by grind));have a2:((e-b.tI-1:Nat):Int)=e-b.tI-1:=VC;rw[a2]at D;have ad:=zC y;have cf:qad.wrap _=e-b.tI:=Zv _ VC VC;have cg:qad.wrap _=e-b.tI-1:=Zv _ VC VC;clear V y a2;have bu:decide ((e:Int)<=b.tI)=false:=VV;go_upto_region 6 with fail;go_cut [] (λwc=>CutR l m (N (Y k)) b i (f.ins (e-b.tI-1) a) Z o p (m::p) (1+max (b.ht:Int) f.ht) (b.tI+1+f.tI) (b.rns+i.len+f.rns) (b.bks+i.brk+f.bks) k wc)
  case first=>
   unfold JP at D;go_region_with (go_at_call 251;refine(D _ (by exact rfl)).G ?_;intro bc bd Q;obtain⟨u5,q,rfl,j,n,t,h⟩:=Q.drawn (w:=k) rfl rfl rfl rfl;have s:=zC (H.chg h u.2.1);have G:=zC j;have ae:=zC (av.chg h u.2.2.2.2.2);have z:=zC n;have J:=zC t;have r:=zC h;have bv:=s.c4;have bw:=s.fz 4;have bx:=s.lt;clear Q j n t h)
   all_goals (
    go_wp2_with fail;go_meet;have K:=Y6 ac ay z J;have af:m∉q:=λB=>(vR.1 K).1 (ki _ B)
    exact⟨u5,q,(s.set4 u5).heap rfl,(G.other _ _ af).heap rfl,(ae.other _ _ u.1).heap rfl,K,J,((r.R (zr.refl [] _) (λc g _=>by simp_all) (λc g _=>by simp at g)).setCell _ _ (.inl VT)).drawn rfl rfl rfl rfl⟩)
  obtain⟨u5,q,x,j,S,n,t,h⟩:=hcut;have M:=zC (Yk b i _ m Z u5 o q l _ _ _ _ wc x S j bh n ad VC VC);have r:=zC (ax.R h (λ_ g _=>g) (λc g _=>by grind))
  have ag:=zC (show ∀c∈m::(o++q),c∈m::(o++p)\/N (Y d)<=c from λc w=>by
   grind)
  have z:=zC n;clear x j S n t h;go_wp2_with fail;refine M.G ?_;intro b2 b3 R;have HM:=zC (ZG r ag z R);obtain⟨u6,b4,rfl,_⟩:=R;clear M;go_wp2;go_ret;rw[I.A];exact HM
def AT.put_lt(l)(p)(r)(k)(e)(a:k<l.tI):(AT.tN l p r).put k e= .tN (l.put k e) p r:=by grind [AT.put]
def AT.put_gt(l)(p)(r)(k)(e)(a:l.tI<k):(AT.tN l p r).put k e= .tN l p (r.put (k-l.tI-1) e):=by grind [AT.put]
def AT.put_eq(l)(p)(r)(e):(AT.tN l p r).put l.tI e= .tN l e r:=by grind [AT.put]
def Mh:∀(B:AT)(d)(a)(K)(v)(i)(k),B.okw->(B.put d a).okw->d<B.tI->zM k i B K v->v.Nodup->
  VM prog 249 #[.pointer K,qP d,.agg #[qP a.off,qP a.len,qP a.brk]] k λC a0=>C=V5 (.tuple #[])/\zM a0 i (B.put d a) K v/\zr v k a0:=by
 intro B
 induction B with
 | nil=>intro d a K v i k _ _ ab;simp[AT.tI]at ab
 | tN b u m a4 a5=>
  intro d a K v i k ac ap ab aq ar;have a6:=aq.lt;obtain⟨g,x,z,h,j,rfl,af,a1,a2,a3,rfl⟩:=aq;have ai:=ar;simp only[vR,vM,xV,Vh]at ai;obtain⟨⟨au,av⟩,aw,ax,ag⟩:=ai;have aj:∀f∈j,f∉h:=λf w ad=>ag f ad f w rfl
  have ak:∀f∈h,f∉j:=λf w ad=>ag f w f ad rfl
  have ba:=ac.bd;have bc:((AT.tN b u m).tI:Int)<=b.tI+1+m.tI/\(b.tI:Int)+1+m.tI<=(AT.tN b u m).tI:=(by simp only[AT.tI];omega);have F:=zC ((xF _ k).alloc lR (V6 #[qP a.off,qP a.len,qP a.brk] 85));have al:=zC (show(VF k (V6 #[qP a.off,qP a.len,qP a.brk] 85)).heap[N (Y k)]?=O _ from xJ _ _);have bd:N (Y k)+1<=N (Y (VF k (V6 #[qP a.off,qP a.len,qP a.brk] 85))):=VT;have V:=zC (Nd.chg (cs:=[]) a1 (zr.qa F) VT);have W:=zC (a2.I F lR);have am:=zC (a3.I F lR);generalize az:(AT.tN b u m).put d a=bx at*;have E:=zC az;have r:=zC (qa5 ac ap);have c:=zC (qa5 au (qa5 av (qa5 aw (qa5 ax (qa5 aj ak)))));have an:=V.c3;have bf:=Tryz.fld0;have R:=zC a4;have S:=zC a5;have bg:d<b.tI+1+m.tI:=ab;clear az a1 a2 a3 ac ap au av aw ax ag aj ak ar a6 a4 a5;go_enter func249,ntmps249;go_wp2_with fail;generalize k.alloc _=a9 at*;refine(JU b x h i a9 W).G ?_;rintro C q ⟨rfl,D⟩;have bh:=D.size;have p:=zC (Nd.chg (cs:=[]) V (zr.qa D) VT);have X:=zC (W.I D lR);have Z:=zC (am.I D lR);have aa:=zC (F.R (D.G VC));have T:=(D.block _ VC).R al;have bi:VE q (V4 (N (Y k)) 0)=O (qP a.off):=(by rw[xH q _ 0 _ _ _ T];rfl);have bj:VE q (V4 (N (Y k)) 1)=O (qP a.len):=(by rw[xH q _ 1 _ _ _ T];rfl);have bk:VE q (V4 (N (Y k)) 2)=O (qP a.brk):=(by rw[xH q _ 2 _ _ _ T];rfl);clear D T V W am F al an;have an:=p.c3;have bl:=p.c4;unfold Zu;by_cases ay:d<b.tI
  ·have a7:(d:Int)<b.tI:=VC
   have y:=zC (E.J.R (AT.put_lt b u m d a ay));rw[y.A]at r;have U:=zC (λae e=>R d a x h i ae r.1.left r.2.left ay e c.2.2.1);clear E R S;go_upto_block 0 with fail;go_cut [] (λwc=>zM wc i (b.put d a) x h/\zr h q wc)
   case first=>
    go_upto_region 4 with fail;go_region_with (go_at_call 249;refine(U _ (by exact X.frame (λ_ _=>rfl))).G ?_;rintro C ah ⟨rfl,P,o⟩;have s:=zC P;have n:=zC (show zr h q ah from⟨o.os,o.tape,o.output,o.size,o.block⟩);clear P o)
    all_goals (go_wp2_with fail;go_meet;exact⟨s,n⟩)
   have s:=zC hcut.1;have n:=zC hcut.2;clear hcut;have G:=zC (p.chg n c.1);have t:=zC (Z.chg n c.2.2.2.2.1);have H:=zC (je _ u m g x z h j i _ _ _ _ _ G s t c.1 c.2.1 r.2);go_wp2_with fail;refine H.G ?_;rintro C Q ⟨rfl,A,l⟩;have I:=zC (show zM Q i (AT.tN _ u m) _ _ from⟨g,x,z,h,j,rfl,af,A,s.chg l (λf w M=>c.1 (by simp_all)),t.chg l (λf w M=>c.2.1 (by simp_all)),rfl⟩);have J:=zC (((zr.qa (bs:=g::(h++j)) aa).R n (λ_ e _=>e) (λf e _=>by simp[e])).R l (λ_ e _=>e) (λf e _=>by simp_all));clear A l;go_wp2;refine Qx (by simp[results]) rfl ⟨rfl,by rw[y.A];exact I,J⟩
  by_cases a8:b.tI<d
  ·have a7:¬ (d:Int)<b.tI:=VC
   have bn:(b.tI:Int)<d:=VC;have y:=zC (E.J.R (AT.put_gt b u m d a a8));rw[y.A]at r;have U:=zC (λae e=>S _ a z j i ae r.1.right r.2.right VC e c.2.2.2.1);have ao:d-b.tI-1=((d-b.tI-1:Nat):Int):=VC;rw[<- ao]at U;have bp:qad.wrap _=d-b.tI:=Zv _ VC VC;have bq:qad.wrap _=d-b.tI-1:=Zv _ VC VC;clear E R S ao;go_upto_block 0 with fail;go_cut [] (λwc=>zM wc i (m.put (d-b.tI-1) a) z j/\zr j q wc)
   case first=>
    go_upto_region 6 with fail;go_region_with (go_at_call 249;refine(U _ (by exact Z.frame (λ_ _=>rfl))).G ?_;rintro C ah ⟨rfl,P,o⟩;have t:=zC P;have n:=zC (show zr j q ah from⟨o.os,o.tape,o.output,o.size,o.block⟩);clear P o)
    all_goals (go_wp2_with fail;go_meet;exact⟨t,n⟩)
   have t:=zC hcut.1;have n:=zC hcut.2;clear hcut;have G:=zC (p.chg n c.2.1);have s:=zC (X.chg n c.2.2.2.2.2);have H:=zC (je b u _ g x z h j i _ _ _ _ _ G s t c.1 c.2.1 r.2);go_wp2_with fail;refine H.G ?_;rintro C Q ⟨rfl,A,l⟩;have I:=zC (show zM Q i (AT.tN b u _) _ _ from⟨g,x,z,h,j,rfl,af,A,s.chg l (λf w M=>c.1 (by simp_all)),t.chg l (λf w M=>c.2.1 (by simp_all)),rfl⟩);have J:=zC (((zr.qa (bs:=g::(h++j)) aa).R n (λ_ e _=>e) (λf e _=>by simp[e])).R l (λ_ e _=>e) (λf e _=>by simp_all));clear A l;go_wp2;refine Qx (by simp[results]) rfl ⟨rfl,by rw[y.A];exact I,J⟩
  obtain rfl:d=b.tI:=VC;have y:=zC (E.J.R (AT.put_eq b u m a));rw[y.A]at r;have G:=zC (p.set012 a);have s:=zC (((X.other (V4 g 0) (qP a.off) c.1).other (V4 g 1) (qP a.len) c.1).other (V4 g 2) (qP a.brk) c.1);have t:=zC (((Z.other (V4 g 0) (qP a.off) c.2.1).other (V4 g 1) (qP a.len) c.2.1).other (V4 g 2) (qP a.brk) c.2.1);have n:=zC ((((zr.refl [g] q).setCell (V4 g 0) (qP a.off) (.inl VT)).setCell (V4 g 1) (qP a.len) (.inl VT)).setCell (V4 g 2) (qP a.brk) (.inl VT));have H:=zC (je b a m g x z h j i _ _ _ _ _ G s t c.1 c.2.1 r.2);have br:=p.c0;have bs:=p.c1;have bt:=p.c2;have bu:=p.fz 0;have bv:=p.fz 1;have bw:=p.fz 2;clear E R S;go_wp2_with fail;refine H.G ?_;rintro C Q ⟨rfl,A,l⟩;have I:=zC (show zM Q i (AT.tN b a m) _ _ from⟨g,x,z,h,j,rfl,af,A,s.chg l (λf w M=>c.1 (by simp_all)),t.chg l (λf w M=>c.2.1 (by simp_all)),rfl⟩);have J:=zC (((zr.qa (bs:=g::(h++j)) aa).R n (λ_ e _=>e) (λf e _=>by simp_all)).R l (λ_ e _=>e) (λf e _=>by simp_all));clear A l;go_wp2;refine Qx (by simp[results]) rfl ⟨rfl,by rw[y.A];exact I,J⟩
def FL:∀(a:AT)(c)(b)(e)(d)(g)(f),a.ok->(a.put c b).ok->c<a.tI->zM f g a e d->d.Nodup->
  VM prog 249 #[.pointer e,qP c,.agg #[qP b.off,qP b.len,qP b.brk]] f λi h=>i=V5 (.tuple #[])/\zM h g (a.put c b) e d/\zr d f h:=
 λa c b e d g f j k l m n=>Mh a c b e d g f j.w k.w l m n
def zz(b:List Pc):Int:=(b.map (λa=>a.len)).sum
def Y7:zz []=0:=rfl
theorem zT(a)(F):zz (a::F)=a.len+zz F:=by rfl
theorem zZ(F G):zz (F++G)=zz F+zz G:=by simp[zz]
theorem AT.qc(a:AT):a.rns=zz a.tF:=AT.rns_of_flat a
theorem AT.qd:∀a:AT,L a.tF=a.tI
 | .nil=>rfl
 | .tN b d c=>by simp only[AT.tF,xL,vA,AT.qd b,AT.qd c,AT.tI];omega
theorem AT.qh:∀(a:AT)(b),(a.tT b).map It.pc=a.tF
 | .nil,_=>rfl
 | .tN c e d,b=>by simp only[AT.tT,Qy,QK,AT.tF,AT.qh c,AT.qh d]
def Yl:∀a:List It,total a=zz (a.map It.pc)
 | []=>rfl
 | b::a=>by rw[QK,zT,total,Yl a]
theorem ZA(a:AT)(k):total ((a.tT 0).take k)=zz (a.tF.take k):=by rw[Yl,List.map_take,AT.qh]
theorem ze(S):∀e:AT,e.wp S↔∀d∈e.tF,WP S d
 | .nil=>by simp[AT.wp,AT.tF]
 | .tN i d j=>by
  have f:=ze S i;have g:=ze S j;simp only[AT.wp,AT.tF,xV,vC];constructor
  ·rintro ⟨k,h,l⟩ b (a | rfl | a)
   ·simp_all
   ·exact h
   simp_all
  intro a;exact⟨f.2 λb c=>a b (.inl c),a d (.inr (.inl rfl)),g.2 λb c=>a b (.inr (.inr c))⟩
def WP.app{zs p}(a:WP zs p)(ts):WP (zs++ts) p:=by
 obtain⟨b,c,d,e⟩:=a;refine⟨b,c,by grind,?_⟩
 grind [Z7,List.length_drop]
def AT.wp.app{zs}{a:AT}(d:a.wp zs)(ts):a.wp (zs++ts):=(ze _ a).2 λb c=>((ze _ a).1 d b c).app ts
def Ul:∀(c)(b),(∀a∈c.tF,1<=a.len)->0<=b->b<=c.rns->
  (zP (λa=>a.len) c b).1<=c.tI/\zz (c.tF.take (zP (λa=>a.len) c b).1)=b-(zP (λa=>a.len) c b).2.2.2.1/\
  ((zP (λa=>a.len) c b).2.2.2.1=0\/(0<(zP (λa=>a.len) c b).2.2.2.1/\(zP (λa=>a.len) c b).2.2.2.1<(zX (λa=>a.len) c b).len/\c.tF[(zP (λa=>a.len) c b).1]?=O (zX (λa=>a.len) c b)))
 | .nil,b,_,n,t=>by
  grind [AT.rns,zP,zz]
 | .tN d a f,b,o,n,t=>by
  have p:zu (λa=>a.len) (d.tT 0)=d.rns:=(by rw[YZ,AT.rns_told]);have u:=AT.qd d;have q:∀e∈d.tF,1<=e.len:=λe h=>o e (by simp[AT.tF,h])
  have r:∀e∈f.tF,1<=e.len:=λe h=>o e (by simp[AT.tF,h])
  have v:(AT.tN d a f).rns=d.rns+a.len+f.rns:=rfl;simp only[zP,zX,p];by_cases j:b<d.rns
  ·obtain⟨l,i,m⟩:=Ul d b q n VC
   grind [AT.tF,AT.tI,zP]
  by_cases k:b-d.rns<a.len
  ·simp only[xK j,xU k,AT.tF,AT.tI]
   grind [List.take_of_length_le,AT.qc,Int.lt_or_le]
  obtain⟨l,i,m⟩:=Ul f (b-d.rns-a.len) r VC VC;simp only[xK j,xK k,AT.tF,AT.tI];obtain⟨g,s⟩:∃g,(zP (λa=>a.len) f (b-d.rns-a.len)).1=g:=⟨_,rfl⟩
  rw[s]at l i m |-;refine⟨VC,?_,?_⟩
  ·rw[show g+(d.tI+1)=L d.tF+(g+1)by omega,Vu,vQ,zZ,zT,i,<- AT.qc];omega
  grind
theorem Xm:∀(a)(b)(d),(∀f∈a,1<=f.pc.len)->b<=L a->total (a.take b)=d->yo a d=b
 | a,0,d,_,_,e=>by
  grind [total,WL]
 | [],b+1,d,_,e,_=>by simp at e
 | f::a,b+1,d,g,l,e=>by
  have j:=g f VT;rw[vQ]at e;simp only[total]at e
  have k:0<=total (a.take b):=by
   rw[Yl];have:∀c∈a.take b,1<=c.pc.len:=λc i=>g c (by grind)
   generalize a.take b=h at this
   induction h with
   | nil=>simp[zz]
   | cons c h m=>rw[QK,zT];grind
  rw[yo,xK VC,Xm a b _ (λc i=>g c (by simp[i])) (by simp_all) VC];omega
def Um(l):0<=brk l/\brk l<=L l:=by
 grind [brk,List.length_filter_le]
def Y8(A B)(a:Pc)(n)(b:L A=n):(A++a::B).take (n+1)=A++ [a]:=by
 grind
def zY(c:qa0)(a b:Int):Pc:=⟨a,b,brk ((c.drop a.toNat).take b.toNat)⟩
def pcAt_of{S p}(a:WP S p):zY S p.off p.len=p:=by
 obtain⟨b,c,d,e⟩:=a;obtain⟨f,g,h⟩:=p
 grind [zY,Z7]
theorem Za{S}{a b:Int}(c:0<=a)(d:0<=b)(e:a+b<=L S):WP S (zY S a b):=⟨c,d,e,rfl⟩
theorem Jv{S}{b a:Int}(c:0<=b)(d:1<=a)(e:a<=8192)(f:b+a<=L S)(g:L S<=220000):jU (zY S b a)=true:=by
 grind [jU,zY,decide,brk]
def UH{S p}(a:WP S p){o m}(b:p.off+p.len=o)(d:0<=m):(⟨p.off,p.len+m,p.brk+brk ((S.drop o.toNat).take m.toNat)⟩)=zY S p.off (p.len+m):=by
 obtain⟨e,f,g,c⟩:=a;subst b;unfold zY
 congr 1
 rw[c,show(p.len+m).toNat=p.len.toNat+m.toNat by omega,List.take_add,Zn,QO,show(p.off+p.len).toNat=p.off.toNat+p.len.toNat by omega];rfl
def j7(b:AT)(c:Int):Nat:=(zP (λa=>a.len) b c).1
def jR(b:AT)(c:Int):Int:=(zP (λa=>a.len) b c).2.2.2.1
def jp(b:AT)(c:Int):Pc:=zX (λa=>a.len) b c
def zb(c:qa0)(a:AT)(b:Int):AT:=if jR a b=0 then a else(a.put (j7 a b) (zY c (jp a b).off (jR a b))).ins (j7 a b+1) (zY c ((jp a b).off+jR a b) ((jp a b).len-jR a b))
def zN(a:AT)(b:Int):Nat:=j7 a b+(if jR a b=0 then 0 else 1)
def jk{b:AT}(d:b.ok):∀a∈b.tF,1<=a.len:=λa c=>by
 have:=d.1 a c
 grind [jU]
theorem KV{b:AT}(c:b.ok):∀a∈b.tT 0,1<=a.pc.len:=λa d=>jk c _ (by grind [AT.qh])
def UI{T off}(a:T.ok)(b:0<=off)(c:off<=T.rns):zN T off=yo (T.tT 0) off:=(Ma T off (KV a) b c).J
theorem Y9{T off}(a:T.ok)(b:0<=off)(c:off<=T.rns):
  j7 T off<=T.tI/\zz (T.tF.take (j7 T off))=off-jR T off/\(jR T off=0\/(0<jR T off/\jR T off<(jp T off).len/\T.tF[j7 T off]?=O (jp T off))):=Ul T off (jk a) b c
theorem zm{F r}{b:Pc}(c:F[r]?=O b):F=F.take r++b::F.drop (r+1)/\r<L F:=by
 have a:r<L F:=by
  obtain d|d:=kC r (L F)
  ·exact d
  simp_all
 refine⟨?_,a⟩;have e:=by rw[xI a]at c;exact kK c
 rw[<- e];simp
def jO(a:AT)(r)(e p)(b:a.tF[r]?=O p):(a.put r e).tF=a.tF.take r++e::a.tF.drop (r+1):=by
 obtain⟨d,c⟩:=zm b;rw[AT.put_flat a r e (by grind [AT.qd]),List.set_eq_take_append_cons_drop,xU c]
theorem jP{S T off}(j:T.ok)(k:0<=off)(l:off<=T.rns)(f:jR T off≠0):
  (zb S T off).tF=T.tF.take (j7 T off)++zY S (jp T off).off (jR T off)::zY S ((jp T off).off+jR T off) ((jp T off).len-jR T off)::T.tF.drop (j7 T off+1):=by
 obtain⟨q,r,m⟩:=Y9 j k l;obtain⟨s,t,g⟩:=m.resolve_left f;have n:=(zm g).2;have h:=jO T _ (zY S (jp T off).off (jR T off)) _ g;have d:L (T.tF.take (j7 T off))=j7 T off:=by rw[xO];omega
 rw[zb,xK f,AT.ins_flat _ _ _ (by grind [AT.qf,AT.qd]),h];have o:(T.tF.take _++zY S _ (jR T off)::T.tF.drop (j7 T off+1)).take _=T.tF.take _++ [zY S (jp T off).off _]:=Y8 _ _ _ _ d
 have p:(T.tF.take (j7 T off)++zY S (jp T off).off (jR T off)::T.tF.drop (j7 T off+1)).drop (j7 T off+1)=T.tF.drop (j7 T off+1):=by
  have:∀(a b:List Pc)(e:Pc)(c:Nat),L a=c->(a++e::b).drop (c+1)=b:=by
   intro a b e c i;subst i;rw[List.drop_length_add_append];rfl
  exact this _ _ _ _ d
 simp_all
theorem Jc{S T off}(b:T.ok)(c:0<=off)(d:off<=T.rns):zz (zb S T off).tF=zz T.tF:=by
 by_cases a:jR T off=0
 ·grind [zb]
 obtain⟨g,h,e⟩:=Y9 b c d;obtain⟨i,j,f⟩:=e.resolve_left a;rw[jP b c d a,zZ,zT,zT]
 conv=>rhs;rw[(zm f).1]
 rw[zZ,zT]
 grind [zY]
theorem Ym{S T off}(d:T.ok)(e:T.wp S)(f:0<=off)(g:off<=T.rns):(zb S T off).wp S:=by
 by_cases c:jR T off=0
 ·rw[zb,xU c];exact e
 obtain⟨l,m,i⟩:=Y9 d f g;obtain⟨n,o,j⟩:=i.resolve_left c;have h:=(ze S T).1 e;have b:=h _ (vc j);refine(ze S _).2 λk a=>?_
 rw[jP d f g c]at a;simp at a;obtain a|rfl|rfl|a:=a
 ·grind
 ·exact Za b.1 VC (by have:=b.2.2.1;omega)
 ·exact Za (by have:=b.1;omega) VC (by have:=b.2.2.1;omega)
 grind
theorem Yn{S T off}(b:T.ok)(j:T.wp S)(m:L S<=220000)(e:0<=off)(f:off<=T.rns):(zb S T off).ok:=by
 refine⟨λd a=>?_,by rw[AT.qc,Jc b e f,<- AT.qc];exact b.2⟩;by_cases c:jR T off=0
 ·rw[zb,xU c]at a;exact b.1 d a
 obtain⟨n,o,k⟩:=Y9 b e f;obtain⟨p,q,g⟩:=k.resolve_left c;have h:=(ze S T).1 j _ (vc g);have i:=b.1 _ (vc g);simp only[jU,vn]at i;have l:=h.2.2.1;rw[jP b e f c]at a;simp at a;obtain a|rfl|rfl|a:=a
 ·exact b.1 d (kH a)
 ·grind [Jv]
 ·grind [Jv]
 exact b.1 d (Qc a)
def Jd{S T off}(a:T.bal):(zb S T off).bal:=by
 grind [zb,AT.ins_bal,AT.qi]
theorem ZH{S T off}(b:T.ok)(c:0<=off)(d:off<=T.rns):zN T off<=(zb S T off).tI/\zz ((zb S T off).tF.take (zN T off))=off:=by
 obtain⟨i,j,e⟩:=Y9 b c d;by_cases a:jR T off=0
 ·grind [zb,zN]
 obtain⟨k,l,f⟩:=e.resolve_left a;have g:=(zm f).2;have h:L (T.tF.take (j7 T off))=j7 T off:=by rw[xO];omega
 rw[<- AT.qd,jP b c d a,zN,xK a]
 simp_all[zY,Y8,zZ,zT,Y7]
def FM{S T off}(a:T.ok)(b:T.wp S)(c:L S<=220000)(d:0<=off)(e:off<=T.rns):yo ((zb S T off).tT 0) off=zN T off:=by
 grind [ZH,Xm,KV,Yn,AT.tQ,ZA]
def Hc(a:V8)(b c:Nat)(d:It):Prop:=
 VE a (V4 b c)=O (qP d.pc.off)/\VE a (V4 b (c+1))=O (qP d.pc.len)/\VE a (V4 b (c+2))=O (qP d.pc.brk)/\VE a (V4 b (c+3))=O (qP d.lv)
def ZX(i:Nat)(j:V8)(g:Jo)(b:List It):Prop:=
 (∃h a,g= .slice h 0 a/\b= [])\/
 (∃c d a,g= .slice (qQ c d) (L b) a/\(0<L b/\L b<=a/\a<=maxLen)/\c<i/\∀e f,b[e]?=O f->Hc j c (d+e*4) f)
theorem ZX.I{d e:Nat}{f g:V8}{i:Jo}{j:List It}(h:ZX d f i j)(n:Below e f g)(v:d<=e):ZX d g i j:=by
 obtain h|⟨a,o,q,r,s,t,u⟩:=h
 ·exact .inl h
 refine .inr ⟨a,o,q,r,s,t,λk l m=>?_⟩;have b:∀c,VE g (V4 a c)=VE f (V4 a c):=λc=>n.U (p:=(V4 a c)) (by show a<e;omega)
 have:=u k l m;unfold Hc at this |-;rw[b,b,b,b];exact this
def ZX.heap{B:Nat}{a w':V8}{f:Jo}{g:List It}(d:ZX B a f g)(k:w'.heap=a.heap):ZX B w' f g:=by
 obtain d|⟨e,l,m,n,o,p,q⟩:=d
 ·exact .inl d
 refine .inr ⟨e,l,m,n,o,p,λh i j=>?_⟩;have b:∀c,VE w' (V4 e c)=VE a (V4 e c):=λc=>vO (w:=a) (by rw[k])
 have:=q h i j;unfold Hc at this |-;rw[b,b,b,b];exact this
theorem ZX.val{e:Nat}{f:V8}{c:Jo}{d:List It}(g:ZX e f c d):∃b a,c= .slice b (L d) a:=by
 obtain⟨b,a,rfl,rfl⟩|⟨h,i,a,rfl,_⟩:=g
 ·exact⟨_,_,rfl⟩
 exact⟨_,_,rfl⟩
def ZX.at{h:Nat}{i:V8}{j:Jo}{a:List It}(d:ZX h i j a)(k:a≠ []):∃c e b,j= .slice (qQ c e) (L a) b/\(0<L a/\L a<=b/\b<=maxLen)/\c<h/\∀f g,a[f]?=O g->Hc i c (e+f*4) g:=by
 obtain⟨l,b,rfl,rfl⟩|d:=d
 ·exact absurd rfl k
 exact d
def Yo{a:List It}{b:Nat}{c:It}(d:a[b]?=O c):a.take (b+1)=a.take b++ [c]:=by
 rw[Qa,d];rfl
def Oe{B:Nat}{e:V8}{f g cap:Nat}{c:List It}(i:∀d a,c[d]?=O a->Hc e f (g+d*4) a){b:Nat}(h:b<L c):∃a,c[b]?=O a/\Hc e f (g+b*4) a:=
 ⟨c[b],by simp[h],i b _ (by simp[h])⟩

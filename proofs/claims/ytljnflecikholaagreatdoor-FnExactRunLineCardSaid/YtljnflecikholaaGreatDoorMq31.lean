import Derived.Shelf.SlicesE.Delete
import Derived.Lib.OwnBridge
import Derived.Test.YtljnflecikholaaGreatDoorMq28
import Derived.Test.YtljnflecikholaaGreatDoorMq09
import Derived.Test.YtljnflecikholaaGreatDoorMq25
set_option linter.all false
set_option maxRecDepth 100000
set_option maxHeartbeats 8000000
namespace Go.Proofs.YtljnflecikholaaGreatDoor
open Go Go.RowKit Go.Proofs.Tryz
def YU{d:qS}{base g n cap zs}(e:d.ownsRow base 3 1 (qM (qD g 0) n cap) n (zI .i64 zs))(k):∀a b,(zI .i64 (zs.take k))[a]?=some b->d.cell? (((qP g 0):Addr).add a)=some b:=by
 intro a b c;refine e.cells rfl a b ?_;simp only[zI,xZ,vf]at c |-
 split at c
 ·exact c
 cases c
def Jr{w w1 x7 x8 vr v us gs rb e1 e2}(l:yt 86 x7 w1.heap.size x7.heap.size vr us gs)(c:x7.ownsRow w1.heap.size 3 1 v 0 [])(a:x7.grownBy x8 v.ownBlock)(d:qY w1 x7)(e:qY w w1)(f:D2 w1 rb e1 e2 28):
  yt 86 x8 w1.heap.size x8.heap.size vr us gs/\qY w x8/\D2 x8 rb e1 e2 28:=by
 have g:=a.size;have h:=d.size;have i:=e.size;have b:=d.grown a h (λj k=>(c.lt j k).1);exact⟨(l.kept c qG qG a).mono lR g,e.trans (b.mono i),f.below b f.lt⟩
def UG{t w lo v vs gs}(c:yt t w lo w.heap.size v vs gs)(o):yt t (w.alloc o) lo (w.alloc o).heap.size v vs gs:=
 (c.frame (λa _ b=>((xe _ w).alloc lR o).block a b)).mono lR qH
def knownS(gs)(st)(j d)(o vt)(lo hi)(w)(S:Zh w lo hi o vt gs st)(bk:hi<=w.heap.size)(a4:gs.length<=8193)(al:1<=gs.length)(a5:∀x∈gs,Kq x.cells x.lo x.hi)(J:jR (gs.map zK)+gs.length<=4194304)(a6:∀x∈gs,x.cells.length<=1048576)(a7:d=max st.length (j+1))(b2:d<=gs.length):
  Calls prog 19 #[.agg #[o,vt],qC j] w λy ai=>∃a2 a3,y=qQ (.agg #[a2,a3])/\Zh ai w.heap.size ai.heap.size a2 a3 gs ((jL (gs.map zK)).take d)/\qY w ai:=by
 obtain⟨T,U,V,W,X⟩:=vw Tryz.info64T;have ap:=zC (((xe _ w).alloc lR (qR #[o,vt] 28)).alloc qH (qR #[qN,qN] 28));have aq:=zC ((D2.new w o vt 28).below ((xe _ _).alloc lR (qR #[qN,qN] 28)) qH);have Y:=zC (D2.new (w.alloc (qR #[o,vt] 28)) qN qN 28);have ar:(w.alloc (qR #[o,vt] 28)).heap.size=w.heap.size+1:=qH
 rw[ar]at Y;have au:((w.alloc (qR #[o,vt] 28)).alloc (qR #[qN,qN] 28)).heap.size=w.heap.size+2:=qH
 have av:=S.below ap bk;have aw:=zC (allS gs st o vt lo hi _ av (by rw[au];omega) a4 al a5 J);have C:=zC (ji (gs.map zK));rw[xO]at C;obtain⟨b3,bl,b4,b5,rfl,rfl⟩:=S.val;obtain⟨bn,I⟩:=S.rows;rcases I.row.2 with ⟨_,a⟩ | ⟨bp,b6,b7,a,_⟩
 ·omega
 simp at a;obtain⟨rfl,rfl⟩:=a;have a9:=zC (λA(z:qY w A)=>Pn gs bn bp bl _ lo hi A (I.frame (λa _ s=>z.block a qF)) rfl (by have:=z.size;omega) a4 a6);generalize bg:jL _=H at *;generalize bh:st.length=R at *;generalize a0:gs.length=a1 at *;have ax:=zC a0;clear S I av a5 J a6 bg bh ar a0;have bs:1<=d:=qF
 go_enter func19,ntmps19;go_wp2_with fail;generalize (w.alloc _).alloc _=b1 at *;refine aw.mono ?_;rintro y n ⟨b8,rfl,a8,K,L⟩;have bt:=L.size;unfold Zr at K;rw[C.out]at K;rcases K.2 with ⟨a,_⟩ | ⟨b9,B,ca,a,_,_,cb,bq,_⟩
 ·exact absurd a a8
 subst a;have N:=zC K;have O:=zC (aq.below L qF);have P:=zC (Y.below L qF);have t:=zC (ap.trans (L.mono qF));have bu:=O.c.1;have bv:=O.c.2;clear K L a8 aw aq Y;unfold maxLen at bq;have ay:w.heap.size<n.heap.size:=qF
 have bw:w.heap.size≠n.heap.size:=qF
 have bx:w.heap.size+1<n.heap.size:=qF
 clear au;have Q:=zC (show(zI .i64 (H.take d)).length=d*1 by rw[zG,xi,C.out];omega);have p:=zC ((xe _ n).alloc lR (qR #[] 3));have az:=zC (λA(z:Below _ n A)=>(a9 A (t.trans (z.mono qF))).mono (R':=λy k=>∃o aj,y=qQ o/\yt 86 k _ _ o aj gs/\Below _ n k/\Below _ A k) (λy k⟨ak,aj,bi,I,J⟩=>⟨ak,aj,bi,I.mono z.size lR,z.trans (J.mono z.size),J⟩));by_cases b0:R<j+1
 ·have ba:(R:Int)<j+1:=qF
  have Z:d=j+1:=qF;clear a7;subst Z;have bz:(0:Int)<=j+1:=qF;have bc:(j:Int)+1<=B:=qF;go_upto_region 5 with fail
  go_region_law (first
   |(refine step_append_lies _ rfl _ _ 26 rfl _ 3 T _ 1 8 underlying26 U V W X rfl qG _ 0 [] rfl (G) _ _ B _ rfl Q (ad) (zJ _ _) qF qF qF qF _ rfl ?_;intro c i b g h _ v;have e:=ah b c i g h v;have D:=zC e.1;have E:=zC g;have F:=zC e.2.1;have f:=zC e.2.2;have u0:=f.c.1;have u1:=f.c.2;have aa:=f.fz 0;have ab:=f.fz 1;clear g h e)
   |(refine step_append_lies _ rfl _ _ 26 rfl _ 3 T _ 1 8 underlying26 U V W X rfl qG _ 0 [] rfl (af) _ _ B _ rfl Q (ae) (zJ _ _) qF qF qF qJ _ rfl ?_;intro c i b g h _ v;have e:=ag b c i g h v;have D:=zC e.1;have E:=zC g;have F:=zC e.2.1;have f:=zC e.2.2;have u0:=f.c.1;have u1:=f.c.2;have aa:=f.fz 0;have ab:=f.fz 1;clear g h e)
   |(go_simp;go_wp2_with (go_at_call 43;refine(az _ (by first | exact(⟨rfl,rfl,rfl,lR,λ_ _=>rfl⟩) | exact(⟨p.os,p.tape,p.output,p.size,p.block⟩))).mono ?_;rintro y k ⟨br,am,rfl,r,l,m⟩;obtain⟨an,ao,M⟩:=r.val;rw[ax.out]at M;subst M;have u:=l.size;have bd:w.heap.size+1<k.heap.size:=qF;have ac:=(O.below l ay);have ad:=zC (YU (zE N l lR) (j+1));have ae:=zC (YU ((zE N l lR).alloc (qR #[] 3)) (j+1));have af:=zC (zF (yZ k 3) u);have ag:=zC (λb(c i)(g:b.ownsRow n.heap.size 3 1 (qM (qD c 0) (0+(j+1)) i) (0+(j+1)) ([]++zI .i64 (H.take (j+1))))(h:(k.alloc _).grownBy b _)(_:c<b.heap.size)=>Jr (UG r _) (zF (yZ k 3) u) h (l.alloc u _) t P);first | (have G:=zC (zE (yZ n 3) (⟨m.os,m.tape,m.output,m.size,m.block⟩) lR);have ah:=zC (λb(c i)(g:b.ownsRow n.heap.size 3 1 (qM (qD c 0) (0+(j+1)) i) (0+(j+1)) ([]++zI .i64 (H.take (j+1))))(h:k.grownBy b _)(_:c<b.heap.size)=>Jr r G h l t P)) | skip;clear r l m ac)))
  all_goals
   go_wp2;refine vg (v:=.agg #[qM an a1 ao,qM (qD c 0) (j+1) i]) (by simp[results,go_sem,u0,u1]) rfl ?_;have q:=E.out;rw[xX,vq]at q;have bf:=t.size;refine⟨_,_,rfl,⟨⟨am,?_⟩,?_,?_⟩,(F.setCell qH _).setCell qH _⟩
   ·refine(D.frame (λa al bj=>?_)).mono qF qH
    rw[xj _ _ _ _ (by show a≠w.heap.size+1;omega),xj _ _ _ _ (by show a≠w.heap.size+1;omega)]
   ·unfold Zr
    rw[xi,C.out,vu qF];refine zF (zD q λa s=>?_) qF;have:=(q.lt a s).1;rw[xj _ _ _ _ (by show a≠w.heap.size+1;omega),xj _ _ _ _ (by show a≠w.heap.size+1;omega)]
   intro a s;have:=(q.lt a s).2;simp;omega
 have ba:¬ (R:Int)<j+1:=qF
 have Z:d=R:=qF
 clear a7;subst Z;have bc:(d:Int)<=B:=qF
 go_upto_region 5 with fail
 go_region_law (first
  |(refine step_append_lies _ rfl _ _ 26 rfl _ 3 T _ 1 8 underlying26 U V W X rfl qG _ 0 [] rfl (G) _ d B _ rfl Q (ad) (zJ _ _) qF qF qF qF _ rfl ?_;intro c i b g h _ v;have e:=ah b c i g h v;have D:=zC e.1;have E:=zC g;have F:=zC e.2.1;have f:=zC e.2.2;have u0:=f.c.1;have u1:=f.c.2;have aa:=f.fz 0;have ab:=f.fz 1;clear g h e)
  |(refine step_append_lies _ rfl _ _ 26 rfl _ 3 T _ 1 8 underlying26 U V W X rfl qG _ 0 [] rfl (af) _ d B _ rfl Q (ae) (zJ _ _) qF qF qF qJ _ rfl ?_;intro c i b g h _ v;have e:=ag b c i g h v;have D:=zC e.1;have E:=zC g;have F:=zC e.2.1;have f:=zC e.2.2;have u0:=f.c.1;have u1:=f.c.2;have aa:=f.fz 0;have ab:=f.fz 1;clear g h e)
  |(go_simp;go_wp2_with (go_at_call 43;refine(az _ (by first | exact(⟨rfl,rfl,rfl,lR,λ_ _=>rfl⟩) | exact(⟨p.os,p.tape,p.output,p.size,p.block⟩))).mono ?_;rintro y k ⟨br,am,rfl,r,l,m⟩;obtain⟨an,ao,M⟩:=r.val;rw[ax.out]at M;subst M;have u:=l.size;have bd:w.heap.size+1<k.heap.size:=qF;have ac:=(O.below l ay);have ad:=zC (YU (zE N l lR) d);have ae:=zC (YU ((zE N l lR).alloc (qR #[] 3)) d);have af:=zC (zF (yZ k 3) u);have ag:=zC (fun(b:qS) (c i:Nat) (g:b.ownsRow n.heap.size 3 1 (qM (qD c 0) (0+d) i) (0+d) ([]++zI .i64 (H.take d))) (h:(k.alloc (qR #[] 3)).grownBy b _) (_:c<b.heap.size)=>Jr (UG r (qR #[] 3)) (zF (yZ k 3) u) h (l.alloc u (qR #[] 3)) t P);first | (have G:=zC (zE (yZ n 3) (⟨m.os,m.tape,m.output,m.size,m.block⟩) lR);have ah:=zC (fun(b:qS) (c i:Nat) (g:b.ownsRow n.heap.size 3 1 (qM (qD c 0) (0+d) i) (0+d) ([]++zI .i64 (H.take d))) (h:k.grownBy b _) (_:c<b.heap.size)=>Jr r G h l t P)) | skip;clear r l m ac)))
 all_goals
  go_wp2;refine vg (v:=.agg #[qM an a1 ao,qM (qD c 0) d i]) (by simp[results,results19,go_sem,u0,u1]) rfl ?_;have q:=E.out;rw[xX,vq]at q;have bf:=t.size;refine⟨_,_,rfl,⟨⟨am,?_⟩,?_,?_⟩,(F.setCell qH _).setCell qH _⟩
  ·refine(D.frame (λa al bj=>?_)).mono qF qH
   rw[xj _ _ _ _ (by show a≠w.heap.size+1;omega),xj _ _ _ _ (by show a≠w.heap.size+1;omega)]
  ·unfold Zr
   rw[xi,C.out,vu qF];refine zF (zD q λa s=>?_) qF;have:=(q.lt a s).1;rw[xj _ _ _ _ (by show a≠w.heap.size+1;omega),xj _ _ _ _ (by show a≠w.heap.size+1;omega)]
  intro a s;have:=(q.lt a s).2;simp;omega
structure Rc where
 put:Bool
 off:Nat
 tx:qV
 bef:List Mk
 aft:List Mk
structure Kpt where
 tx:qV
 ms:List Mk
 dn:List (List Rc)
 ud:List (List Rc)
structure Ens where
 tx:qV
 ms:List Mk
 dn:List (List Rc)
 ud:List (List Rc)
 lim:Nat
 opn:Bool
 cur:List Rc
 sl:List (Option Kpt)
 sp:Nat
section
variable {w w':World} {Z Z':Nat->Prop}
def HM(c:qS)(d:Nat->Prop)(b:qT)(e:List Mk):Prop:=zS c 0 b e/\∀a,b.ownBlock=some a->d a
def HR(b:qS)(c:Nat->Prop)(g:qU)(a:Rc):Prop:=∃d e f,g= [qC (if a.put then 1 else 2),qC a.off,d,e,f]/\HT b c d a.tx/\HM b c e a.bef/\HM b c f a.aft
def RR(d:qS)(e:Nat->Prop):qU->List Rc->Prop
 | a,[]=>a= []
 | a,f::g=>∃b c,a=b++c/\HR d e b f/\RR d e c g
def HG(c:qS)(d:Nat->Prop)(e:qT)(f:List Rc):Prop:=∃a,c.ownsRow 0 232 5 e f.length a/\RR c d a f/\∀b,e.ownBlock=some b->d b
def GG(a:qS)(b:Nat->Prop):qU->List (List Rc)->Prop
 | [],[]=>True
 | c::d,e::f=>HG a b c e/\GG a b d f
 | _,_=>False
def SG(b:qS)(d:Nat->Prop)(e:qT)(c:List (List Rc)):Prop:=∃a,b.ownsRow 0 138 1 e c.length a/\GG b d a c
def HS(c:qS)(a:Nat->Prop)(j:qT):Option Kpt->Prop
 | none=>j= .pointer none
 | some d=>∃e h i f g,j= .pointer (qD e 0)/\a e/\c.heap[e]?=some (qR #[h,i,f,g] 248 (0,0))/\HT c a h d.tx/\HM c a i d.ms/\(SG c a f d.dn/\∀b,f.ownBlock=some b->a b)/\(SG c a g d.ud/\∀b,g.ownBlock=some b->a b)
end
def EBk(i:qS)(j:Nat)(k l m:qT)(n:Int)(o:Bool)(p q:qT)(r:qU)(s:Int):Prop:=
 ∃a b c d e f g h,r= [a,b,c,d,e,f,g,h]/\i.heap[j]?=some (qR #[k,l,m,qC n,.bool o,p,q,a,b,c,d,e,f,g,h,qC s] 144 (0,0))
structure EM(K:Core)(w:qS)(Z F:Nat->Prop)(E c n:Nat)(f dv uv d:qT)(e:qU)(b:Nat->Prop)(M:Ens):Prop where
 blk:EBk w E f dv uv M.lim M.opn d (.iface K.ty (qO c 0)) e M.sp
 ms:HM w Z f M.ms
 dn:SG w Z dv M.dn
 ud:SG w Z uv M.ud
 cu:M.opn=true->∃xs,w.ownsRow 0 232 5 d M.cur.length xs/\RR w Z xs M.cur/\∀q,d.ownBlock=some q->¬F q
 cvs:∃a l k,d= .slice a l k
 sl:e.length=8/\M.sl.length=8/\∀(i:Nat)v k,e[i]?=some v->M.sl[i]?=some k->HS w Z v k
 cr:K.Cr w Z b c n M.tx
 n:n<=8192+M.sp
 sp:M.sp<=200000
 lm:1<=M.lim/\M.lim<=1000
 ln:M.dn.length<=1000/\M.ud.length<=1000
 vd:Vd M.ms/\∀x∈M.ms,x.2.1<=M.tx.length
 zf:∀q,Z q->F q
 ff:∀q,F q->b q
 fl:∀q,b q->q<w.heap.size
 fe:b E/\¬F E
 fd:∀q,dv.ownBlock=some q->b q/\¬F q
 fu:∀q,uv.ownBlock=some q->b q/\¬F q/\dv.ownBlock≠some q
 fc:M.opn=true->∀q,d.ownBlock=some q->b q/\¬F q
def zA4(h m l)(w)(g:0<=h)(i:h<=1048576)(j:0<=l/\l<=1048576):
  Calls prog 158 #[qC h,qC m,qC l] w λc d=>c=qQ (jH (decide (h<=l/\m<=l-h)) 10)/\d=w:=by
 by_cases e:h<=l
 ·by_cases f:m<=l-h
  ·rw[show decide _=true by simp_all]
   have a:¬l<h:=qF;have b:¬l-h<m:=qF;go_enter func158,ntmps158;go_wp2;go_ret;exact⟨rfl,rfl⟩
  rw[show decide _=false by simp_all];have a:¬l<h:=qF;have b:l-h<m:=qF;go_enter func158,ntmps158;go_wp2;go_ret;exact⟨rfl,rfl⟩
 rw[show decide _=false by rw[QA];omega];have a:l<h:=qF
 go_enter func158,ntmps158;go_wp2;go_ret;exact⟨rfl,rfl⟩
def Mj(a n l)(w)(h:0<=l)(i:l<=1048576):
  Calls prog 132 #[qC a,qC n,qC l] w λd g=>d=qQ (if 0<=a/\a<=l then jH (decide (l<=8192/\n<=8192-l)) 10 else jH false 2)/\g=w:=by
 have b:=zC (Ja a 0 l 2 w);have HR:=zC (zA4 l n 8192 w h i qF);generalize decide (l<=8192/\n<=8192-l)=f at *;by_cases c:0<=a/\a<=l
 ·rw[xS c]
  rw[show decide _=true by simp_all]at b;have e:jH true 2= .nilIface:=rfl;rw[e]at b;generalize jH f 10=k at *;clear c;go_enter func132,ntmps132;go_wp2_with fail;refine b.mono ?_;rintro d j ⟨rfl,rfl⟩;go_wp2_with fail;refine HR.mono ?_;rintro d m ⟨rfl,rfl⟩;go_wp2;go_ret;simp
 rw[xJ c];rw[show decide _=false by simp_all]at b;clear c HR;unfold jH at b |-;go_enter func132,ntmps132;go_wp2_with fail;refine b.mono ?_;rintro d j ⟨rfl,rfl⟩;go_wp2;go_ret;simp
def spendG(E)(sp n)(w)(d:w.cell? (qP E 15)=some (qC sp))(e:w.frozen? (qP E 15)=false)(c:0<=sp/\sp<=200000)(f:0<=n/\n<=200000-sp):
  Calls prog 133 #[qO E 0,qC n] w λa b=>a=qQ .nilIface/\b=w.setCell (qP E 15) (qC (sp+n)):=by
 have HR:=zC (zA4 sp n 200000 w c.1 qF qF);rw[show decide _=true by simp_all,show jH true 10= .nilIface from rfl]at HR;go_enter func133,ntmps133;go_wp2_with fail;refine HR.mono ?_;rintro a g ⟨rfl,rfl⟩;go_wp2;go_ret;simp
def bA{w x}(a:qY w x)(o):qY w (x.alloc o):=a.alloc a.size o
def Uh : Value := .func (.methodOf 105 "loop.example/s01685/impl.insert") #[] #[]
def FQ : Value := .func (.methodOf 105 "loop.example/s01685/impl.remove") #[] #[]
def WW:qT:=.func (.func 168) #[] #[]
def WX:qT:=.func (.func 169) #[] #[]
def Tryz.stF(ad)(m)(fn)(x y)(W):(store ad (.func fn x y) m).run prog W=stored prog W ad (.func fn x y) m:=run_store _ W ad _ m rfl
def Tryz.stN(ad)(m)(W):(store ad .nilFunc m).run prog W=stored prog W ad .nilFunc m:=run_store _ W ad _ m rfl
def course1(off)(a1 a2 a3)(l1 l2 l3 k1 k2 k3)(w):
  Calls prog 145 #[.agg #[qC 1,qC off,qM a1 l1 k1,qM a2 l2 k2,qM a3 l3 k3]] w λa b=>a=qQ (.agg #[Uh,WW,FQ,WX])/\qY w b:=by
 have c:=Tryz.stF;have d:=Tryz.stN;unfold Uh FQ WW WX;go_enter func145,ntmps145;go_wp2;refine vg (by simp[results,go_sem]) rfl ⟨rfl,?_⟩;exact bA (bA (bA (bA (bA (xe _ _) _) _) _) _) _
section
open Go.Shelf Go.Sort Go.Lib
abbrev SV:=qW×Nat×Nat
def encS(a:SV):qT:=.slice a.1 a.2.1 a.2.2
def zA5:∀{vs},(∀e∈vs,∃a b c,e= .slice a b c)->∃d:List SV,d.map encS=vs
 | [],_=>⟨[],rfl⟩
 | e::vs,f=>by
  obtain⟨a,b,c,rfl⟩:=f e qH;obtain⟨d,rfl⟩:=zA5 (vs:=vs) (λg h=>f g (by simp[h]));exact⟨(a,b,c)::d,rfl⟩
def Tryz.qx:(prog.info? 138).map (λa=>(a.zero,a.size,a.bytes))=some (some qN,1,24):=qI
def delN(base g n cap)(vs)(b)(j:b.ownsRow base 138 1 (qM (qD g 0) n cap) n vs)(o:∀v∈vs,∃l m c,v= .slice l m c)(i:1<=n):
  Calls prog 190 #[qM (qD g 0) n cap,qC 0,qC 1] b λa f=>a=qQ (qM (qD g 0) (n-1) cap)/\f.ownsRow base 138 1 (qM (qD g 0) (n-1) cap) (n-1) (vs.drop 1)/\zQ b f (λd=>d=g):=by
 obtain⟨p,rfl⟩:=zA5 o;obtain⟨y,z,a,A,B,C,k,q,r⟩:=holds_of_ownsRow j (by intro a;cases a);simp at a;obtain⟨rfl,rfl⟩:=a;obtain⟨s,t,D,u,E⟩:=vw Tryz.qx;have h:=AnyE.slices_Delete Tryz.delG encS (λw=>rfl) (none,0,0) (λb=>qI) s t u g 0 cap 0 1 _ b r qJ (by unfold maxLen at k;exact k) qF qJ;simp only[QL,q]at h;refine h.mono ?_;rintro a f ⟨rfl,d,rfl⟩;refine⟨rfl,?_,rfl,rfl,rfl,?_,λc x i=>?_⟩
 ·have e:=ownsRow_putRow (q:=d) (k:=n-1) (ys:=p.drop 1++ [((none,0,0))]) j qJ qF
  rw[vB qJ,xU qJ]at e;simp only[Qn]at e;simpa using e
 ·simp
 simp[putRow,mapBlock,Array.getElem?_modify,show g≠c from λa=>i a.symm]
end
def JG(a:qS)(b:Nat)(c d e:qT)(f:Int)(g:Bool)(h i j k l m n o p q:qT)(r:Int):Prop:=
 a.heap[b]?=some (qR #[c,d,e,qC f,.bool g,h,i,j,k,l,m,n,o,p,q,qC r] 144 (0,0))
section
variable {w w':World} {E:Nat} {mv dv uv:Value} {lim:Int} {op:Bool} {cv tv s0 s1 s2 s3 s4 s5 s6 s7:Value} {sp:Int}
def JG.c(a:JG w E mv dv uv lim op cv tv s0 s1 s2 s3 s4 s5 s6 s7 sp):w.cell? (qP E 0)=some mv/\w.cell? (qP E 1)=some dv/\w.cell? (qP E 2)=some uv/\w.cell? (qP E 3)=some (qC lim)/\w.cell? (qP E 4)=some (.bool op)/\w.cell? (qP E 5)=some cv/\w.cell? (qP E 6)=some tv/\w.cell? (qP E 15)=some (qC sp):=by
 refine⟨?_,?_,?_,?_,?_,?_,?_,?_⟩<;>rw[xF _ _ _ _ _ _ a]<;>rfl
def JG.f(a:JG w E mv dv uv lim op cv tv s0 s1 s2 s3 s4 s5 s6 s7 sp)(j):w.frozen? (qP E j)=false:=xY w E j _ _ a
def JG.lt(a:JG w E mv dv uv lim op cv tv s0 s1 s2 s3 s4 s5 s6 s7 sp):E<w.heap.size:=(qZ.1 a).1
def JG.set1(a:JG w E mv dv uv lim op cv tv s0 s1 s2 s3 s4 s5 s6 s7 sp)(v):JG (w.setCell (qP E 1) v) E mv v uv lim op cv tv s0 s1 s2 s3 s4 s5 s6 s7 sp:=by unfold JG;rw[xN w E 1 _ _ _ a];rfl
def JG.off{base t size n v xs}(a:JG w E mv dv uv lim op cv tv s0 s1 s2 s3 s4 s5 s6 s7 sp)(c:w.ownsRow base t size v n xs)(ht:t≠144){q}(b:v.ownBlock=some q):q≠E:=by
 rintro rfl;rcases c.2 with ⟨rfl,_⟩ | ⟨e,f,g,rfl,_,d,_⟩
 ·simp[Value.ownBlock]at b
 simp only[Value.ownBlock,xE]at b;subst b;unfold JG at a;rw[d]at a;simp only[xE,kf]at a;exact ht a.2.1
end
def Fss(c:Nat)(a:qU)(b:qT):qU:=if c<a.length+1 then(a++ [b]).drop 1 else a++ [b]
def zA6(d:qS)(e:Nat)(h f i:qT)(j:Int)(k:Bool)(l m n o p q r s t u:qT)(v:Int)(g:qU)(c:qS):Prop:=
 ∃b,c.ownsRow 0 138 1 b g.length g/\JG c e h b i j k l m n o p q r s t u v/\zQ d c (λa=>a=e\/f.ownBlock=some a)/\∀a,b.ownBlock=some a->f.ownBlock=some a\/d.heap.size<=a
def pushG(e g:Nat)(mv dv uv)(op)(cv tv s0 s1 s2 s3 s4 s5 s6 s7)(sp)(vs)(ga)(gl gk)(w)(o:JG w e mv dv uv g op cv tv s0 s1 s2 s3 s4 s5 s6 s7 sp)(t:w.ownsRow 0 138 1 dv vs.length vs)(T:∀n∈vs,∃l B m,n= .slice l B m)(az:vs.length<=1000)(a0:g<=1000):
  Calls prog 172 #[.pointer (qD e 1),.slice ga gl gk] w λd w'=>d= .returned (.tuple #[])/\zA6 w e mv dv uv g op cv tv s0 s1 s2 s3 s4 s5 s6 s7 sp (Fss g vs (.slice ga gl gk)) w':=by
 obtain⟨ak,al,am,an,ao⟩:=vw Tryz.qx;have D:=zC o;have E:=zC t
 have HS:=zC (show ∀n∈vs++ [Value.slice ga gl gk],∃l B m,n= .slice l B m from λn ai=>by
  rcases vD.1 ai with c | c
  ·exact T n c
  simp_all)
 obtain⟨u,v,rfl⟩:∃l m,dv= .slice l vs.length m:=by
  rcases t.2 with ⟨d,ap⟩ | ⟨h,a1,a2,d,_⟩
  ·simp_all
  exact⟨_,_,d⟩
 obtain⟨aq,ar,au,av,_⟩:=o.c;have W:=o.lt;have F:=zC (show(if g<vs.length+1 then(vs++ [Value.slice ga gl gk]).drop 1 else vs++ [Value.slice ga gl gk])=Fss g vs _ from rfl);have G:=zC (show(vs++ [Value.slice ga gl gk]).length=vs.length+1 by simp);have H:=zC (λa b=>o.off t (by decide) (q:=a) b);generalize af:vs.length=f at *;have I:=zC (zV w 138 [.slice ga gl gk]);have J:=zC ((xe _ w).alloc lR (.cells #[.slice ga gl gk] 138));generalize ag:Fss g vs _=ah at *;clear o t T af ag;have K:∀a,(Value.slice u f v).ownBlock=some a->e≠a:=λa b d=>H.out a b d.symm
 have X:w.heap.size+1=(w.alloc (.cells #[.slice ga gl gk] 138)).heap.size:=by simp
 go_enter func172,ntmps172;go_wp2_with (at_builtin;refine wpList_append_lies _ rfl _ _ 134 rfl 0 138 ak _ 1 24 underlying134 al am an ao rfl (by decide) (.slice u f v) f vs rfl (E.out.alloc _) _ 1 1 _ rfl rfl I.out (by simp[Value.oneCell']) (by omega) (by unfold maxLen;omega) (by omega) (xK _) _ rfl ?_;intro h j k O A P ay;have p:=zC (show JG k e mv _ uv g op cv tv s0 s1 s2 s3 s4 s5 s6 s7 sp from(A.block e (by omega) (λd=>K e d.symm rfl)).trans ((J.out.block e W).trans D.out));have Y:=p.out.c.2.1;have Z:=p.out.f 1);have L:=zC (show zQ w k (λa=>a=e\/(Value.slice u f v).ownBlock=some a)from((zQ.reflS w _).allocS _).grownS A (λa b=>.inl (.inr b)));have q:=zC (show(Value.slice u f v).ownBlock=some h\/w.heap.size<=h from P.imp id (λd=>by omega))
 have x:h≠e:=by
  rcases q.out with c | c
  ·exact λd=>K h c d.symm
  omega
 have r:=zC (p.out.set1 (.slice (qD h 0) (f+1) j));have M:=zC (L.out.setS ⟨e,1,none⟩ (.slice (qD h 0) (f+1) j) (.inl (.inl rfl)));have N:=zC (show(k.setCell ⟨e,1,none⟩ (.slice (qD h 0) (f+1) j)).ownsRow 0 138 1 _ _ _ from zD O (λa b=>xj k _ a _ (by simp only[Value.ownBlock,xE]at b;subst b;exact x)));obtain⟨ap,a3,a4,a5,_⟩:=r.out.c;clear O A P p L D E I J H aq ar au av X Y Z;generalize k.setCell _ _=R at *;by_cases Q:g<f+1
 ·have aa:(g:Int)<f+1:=by omega
  have i:=(by have c:=F.out;rw[xS Q]at c;exact c);have s:=zC i;have ab:=zC (λS(aj:S.heap=R.heap)=>delN 0 h _ j _ S (zD N.out (λa _=>by rw[aj])) HS.out (by omega));clear i;go_quiet (fail);go_wp2_with fail;refine(ab.out _ (by exact rfl)).mono ?_;rintro d U ⟨rfl,V,C⟩
  have ac:=zC ((M.out.sameS (y:=R.drewN nq) rfl rfl rfl rfl).qo C (λa b=>by
   subst b;rcases q.out with c | c
   ·exact .inl (.inr c)
   exact .inr c))
  have z:=zC (show JG U e mv _ uv g op cv tv s0 s1 s2 s3 s4 s5 s6 s7 sp from(C.block e r.out.lt (λd=>x d.symm)).trans r.out);have ad:=zC V;have aw:=z.out.c.2.1;have ax:=z.out.f 1;clear V C;go_wp2;go_end0;have ae:ah.length=f+1-1:=(by rw[<- s.out,xz,G.out]);refine⟨rfl,.slice _ (f+1-1) j,?_,z.out.set1 _,ac.out.setS _ _ (.inl (.inl rfl)),λa b=>?_⟩
  ·rw[ae,<- s.out]
   exact zD ad.out (λa b=>xj U _ a _ (by simp only[Value.ownBlock,xE]at b;subst b;exact x))
  simp only[Value.ownBlock,xE]at b;subst b;exact q.out
 have aa:¬ (g:Int)<f+1:=by omega
 have i:=by have c:=F.out;rw[xJ Q]at c;exact c
 have s:=zC i;clear i;go_quiet (fail);go_wp2;go_end0;refine⟨rfl,_,?_,r.out,M.out.sameS rfl rfl rfl rfl,λa b=>?_⟩
 ·rw[<- s.out,G.out]
  exact N.out
 simp only[Value.ownBlock,xE]at b;subst b;exact q.out
section
open Go.Sort
def IK:List TypeId:=[138,232,166,248,81,63,237]
structure EO(E:Nat)(w w':qS):Prop where
 os:w'.os=w.os
 tape:w'.tape=w.tape
 output:w'.output=w.output
 size:w.heap.size<=w'.heap.size
 block:∀q,q<w.heap.size->q≠E->w'.heap[q]? =w.heap[q]?
structure EP(w:qS)(Z:Nat->Prop)(x:VX)(M:SS):Prop where
 ms:zS w 0 x.mv M.ms
 dn:Ko w Z x.dv M.un/\∀q,x.dv.ownBlock=some q->¬Z q
 ud:Ko w Z x.uv M.re/\∀q,x.uv.ownBlock=some q->¬Z q/\x.dv.ownBlock≠some q
 cu:M.op=true->zB1 w Z x.cv M.gr/\∀q,x.cv.ownBlock=some q->¬Z q
 cvs:∃a l k,x.cv= .slice a l k
 sl:M.sl.length=8/\∀(i:Nat)v k,x.ss[i]?=some v->M.sl[i]?=some k->UU w Z v k
section
variable {w w' w2:World} {Z Z':Nat->Prop} {E c:Nat} {tv:Value} {x x':VX} {M M':SS} {K:KX}
def EO.set(E j)(v)(w):EO E w (w.setCell (qP E j) v):=⟨rfl,rfl,rfl,qH,λa _ b=>xj w _ a v b⟩
def EO.of(a:qY w w'):EO E w w':=⟨a.os,a.tape,a.output,a.size,λb c _=>a.block b c⟩
def EO.trans(a:EO E w w')(b:EO E w' w2):EO E w w2:=⟨b.os.trans a.os,b.tape.trans a.tape,b.output.trans a.output,vC a.size b.size,λc d e=>(b.block c (ve d a.size) e).trans (a.block c d e)⟩
def EO.kk{l cs f}(a:EO E w w')(i:w.heap[E]?=some (qR cs 144 f))(g:¬Z E)(j:144∉l):KK l Z w w':=⟨a.os,a.tape,a.output,a.size,λc d e=>a.block c d (λb=>by
 subst b;rcases e with h | ⟨k,m,n,b,ht⟩
 ·exact g h
 simp_all)⟩
def EO.kn{cs f}(a:EO E w w')(g:w.heap[E]?=some (qR cs 144 f)):KN WL w w':=⟨a.os,a.tape,a.output,a.size,λb c d=>a.block b c (λe=>by subst e;exact d _ _ _ g qG)⟩
def EY.ep(a:EY w Z E tv x M):EP w Z x M:=⟨a.ms,a.dn,a.ud,a.cu,a.cvs,a.sl⟩
def EY.ek{l}(a:EY w Z E tv x M)(b:EO E w w')(c:144∉l):KK l Z w w':=b.kk a.blk.2 a.ez c
def EP.kk(a:EP w Z x M)(b:KK [138,232,166,248] Z w w'):EP w' Z x M:=by
 refine⟨yY a.ms b (.inl qG),⟨a.dn.1.kk b qG (.inl qG) (λ_ a=>a),a.dn.2⟩,⟨a.ud.1.kk b qG (.inl qG) (λ_ a=>a),a.ud.2⟩,λe=>?_,a.cvs,⟨a.sl.1,λf g h c d=>(a.sl.2 f g h c d).kk b qG qG (λ_ a=>a)⟩⟩;obtain⟨⟨i,c,d⟩,j⟩:=a.cu e;exact⟨⟨i,yY c b (.inl qG),d.kk b qG (λ_ a=>a)⟩,j⟩
def EX.ep(a:EX K w Z E c x M)(b:EO E w w'):EP w' Z x M:=a.ey.ep.kk (a.ey.ek b qG)
def EX.put(a:EX K w Z E c x M)(f:EO E w w')(i:W8 w' E x' M'.cp M'.op (.iface K.ty (qO c 0)) M'.sp)(g:M'.lg=M.lg/\M'.tx=M.tx)(b:EP w' Z x' M'):EX K w' Z E c x' M':=by
 refine⟨⟨i,b.ms,b.dn,b.ud,b.cu,b.cvs,b.sl,a.ey.ez,λd e=>ve (a.ey.zl d e) f.size,λd e=>?_⟩,?_,?_⟩
 ·rw[f.block d (a.ey.zl d e) (λh=>by subst h;exact a.ey.ez e)];exact a.ey.zt d e
 ·rw[g.1];exact K.step a.cr (f.kn a.ey.blk.2) (λ_ a=>.inl a)
 rw[g.1,g.2];exact a.tx
def EX.sp'(b:EX K w Z E c x M)(d:Nat):EX K (w.setCell (qP E 15) (qC d)) Z E c x {M with sp:=d}:=
 have a:=b.ep (EO.set E 15 _ w)
 b.put (EO.set E 15 _ w) (b.ey.blk.set 15 _ b.ey.blk.1 (set15 b.ey.blk.1)) ⟨rfl,rfl⟩ ⟨a.ms,a.dn,a.ud,a.cu,a.cvs,a.sl⟩
def EX.lt(a:EX K w Z E c x M):E<w.heap.size:=a.ey.blk.lt
def tbR(c:KX)(d:Nat)(a:VX)(b:SS):qU:=a.dv::a.uv::Value.int .i64 b.cp::Value.bool b.op::a.cv::Value.iface c.ty (qO d 0)::(a.ss++ [Value.int .i64 b.sp])
def EX.tb(a:EX K w Z E c x M):ZC (tbR K c x M) 144 w E x.mv:=a.ey.blk.2
def EX.mkd{mv' ms' y}(d:EX K w Z E c x M)(e:qY w y)(f:w'=y.setCell (qP E 0) mv')(ht:ZC (tbR K c x M) 144 w' E mv')(g:zS w' w.heap.size mv' ms'):EX K w' Z E c {x with mv:=mv'} {M with ms:=ms'}/\EO E w w':=by
 have b:EO E w w':=by rw[f];exact(EO.of e).trans (EO.set E 0 mv' y)
 have a:=d.ep b;exact⟨d.put b ⟨d.ey.blk.1,ht⟩ ⟨rfl,rfl⟩ ⟨g.base (xK _),a.dn,a.ud,a.cu,a.cvs,a.sl⟩,b⟩
end
def StC(d:KX)(e:qS)(a:Nat->Prop)(f g:Nat)(h:VX)(i:SS)(b:qS):Prop:=∃c,EX d b a f g {h with mv:=c} i/\KK IK a e b
def c9{a:qS}{b i cs t f v}(c:a.heap[b]?=some (qR cs t f))(d:cs[i]?=some v):a.cell? (qP b i)=some v:=(xF a b i cs t f c).trans d
section
variable {w w':World} {Z:Nat->Prop} {E c:Nat} {x:VX} {M:SS} {K:KX}
def zA7(d:EX K w Z E c x M)(nm)(fC fM)(h:Nat)(kd)(a1 a2 a3)(l1 l2 l3 k1 k2 k3)(l)(T)(ms')
  (av:∀c w,(Go.method 449 K.ty (.pointer c) nm).run prog w= .ok (fC,.pointer c) w) (aw:∀p w,(callFunc fC p).run prog w= .ok (.enter fC p) w) (ax:∀p w,(callFunc fM p).run prog w= .ok (.enter fM p) w)
  (N:∀e,qY w e->Calls prog fC #[qO c 0,qC h,qM a1 l1 k1] e λg w'=>g=qQ (.tuple #[])/\K.Cr w' Z c (K.app (K.run M.lg) l)/\KK WL Z e w') (O:K.tx (K.app (K.run M.lg) l)=T)
  (P:∀e L,ZC L 144 e E x.mv->zS e 0 x.mv M.ms->Calls prog fM #[qO E 0,qC h,qC l1] e λg w'=>g=qQ (.tuple #[])/\∃C D,qY e D/\w'=D.setCell (qP E 0) C/\ZC L 144 w' E C/\zS w' e.heap.size C ms'):
  Calls prog 144 #[qO E 0,.agg #[.func (.methodOf 105 nm) #[] #[],.func (.func fM) #[] #[]],.agg #[qC kd,qC h,qM a1 l1 k1,qM a2 l2 k2,qM a3 l3 k3]] w λg w'=>g=qQ (.tuple #[])/\StC K w Z E c x {M with tx:=T,ms:=ms',lg:=M.lg++ [l]} w':=by
 have Y:=d.ey.blk.cl.2.2.2.2.2.2.1;have aa:=d.lt;have t:=zC (Pd w (qR #[qC kd,qC h,qM a1 l1 k1,qM a2 l2 k2,qM a3 l3 k3] 232) #[.func (.methodOf 105 nm) #[] #[],.func (.func fM) #[] #[]] 237);have j:=zC (ES w (qR #[.func (.methodOf 105 nm) #[] #[],.func (.func fM) #[] #[]] 237) #[qC kd,qC h,qM a1 l1 k1,qM a2 l2 k2,qM a3 l3 k3] 232);have u:=zC (bA (bA (xe _ w) (qR #[.func (.methodOf 105 nm) #[] #[],.func (.func fM) #[] #[]] 237)) (qR #[qC kd,qC h,qM a1 l1 k1,qM a2 l2 k2,qM a3 l3 k3] 232));have ab:=zC d;have ac:=zC N;have HM:=zC P;have HT:=zC O;clear d N P O;go_enter func144,ntmps144;go_upto_region 1 with fail;generalize World.alloc _ _=al at *;have k:=c8 0 t;have m:=c8 1 j;have o:=c8 2 j;have v:=λa b=>cell_regrown k a b
 have y:=λa b=>cell_regrown m a b
 have z:=λa b=>cell_regrown o a b
 have ad:=λa b=>cell_regrown ((u.cell aa).trans Y) a b
 refine(vZ (n:=6)).1 ?_;refine zM 10 qI qI ?_;simp only[vc,vY,vE,vz];clear k m o
 repeat (refine wpQuietIn_step (λ_ _ _ _=>trivial) (λK q=>?_);go_simp;first | (refine q _ ?_;clear q K))
 refine wpQuietIn_nil ?_;intro _ B;obtain⟨⟨an,Q⟩,F⟩:=B;subst F;have f:=zC (below_regrown al an Q);clear v y z ad;generalize grow _ Q=am at *;have ae:=u.size;have af:=(qZ.1 j).1;have A:=zC (u.trans (f.mono ae));have G:=zC ((f.block _ qF).trans t);have H:=zC ((f.block _ af).trans j);have I:=zC (ac am A);clear f t j;gi_wp2_with fail;refine⟨xB,(vn.2 I).mono ?_⟩;rintro g ao ⟨rfl,R,r⟩;have ag:=zC ((ab.below A).core r R rfl HT);have ah:=zC r;have ai:=zC (r.ty G qG);have J:=zC (r.ty H qG);clear R r I G H;gi_wp2_with fail;have k:=c8 1 ai;have m:=c8 1 J;have o:=c8 2 J;have v:=λa b=>cell_regrown k a b
 have y:=λa b=>cell_regrown m a b
 have z:=λa b=>cell_regrown o a b
 refine(vZ (n:=6)).1 ?_;refine zM 10 qI qI ?_;simp only[vc,vY,vE,vz];clear k m o
 repeat (refine wpQuietIn_step (λ_ _ _ _=>trivial) (λK q=>?_);go_simp;first | (refine q _ ?_;clear q K))
 refine wpQuietIn_nil ?_;intro _ B;obtain⟨⟨ap,S⟩,F⟩:=B;subst F;have f:=zC (below_regrown ao ap S);clear v y z;generalize grow _ S=w2 at *;have s:=zC (ag.below f);have aj:=zC (HM w2 _ s.tb s.ey.ms);gi_wp2_with fail;refine⟨xB,(vn.2 aj).mono ?_⟩;rintro g aq ⟨rfl,ay,D,U,V,W,X⟩
 have ak:=zC (show StC K w Z E c x {M with tx:=T,ms:=ms',lg:=M.lg++ [l]} aq from by
  obtain⟨ar,au⟩:=s.out.mkd U V W X
  exact⟨_,ar,(((KK.of A).trans (ah.weak qG) (λ_ d=>d)).trans (KK.of f) (λ_ d=>d)).trans (s.ey.ek au qG) (λ_ d=>d)⟩)
 clear U V W X;gi_wp2_with fail;exact bodyPost_end (by simp[results]) rfl ⟨rfl,ak⟩
end
def Ht(d:KX)(e:qS)(b:Nat->Prop)(f g:Nat)(h:SS)(c:qS):Prop:=∃Z' x',EX d c Z' f g x' h/\KK YH b e c/\∀a,b a->Z' a
def Tryz.infoRX:(prog.info? 232).map (λa=>(a.zero,a.size,a.bytes))=some (some (.agg #[qC 0,qC 0,qN,qN,qN]),5,88):=qI
section
variable {w w' w2:World} {Z Z':Nat->Prop} {E c:Nat} {x x':VX} {M M':SS} {K:KX}
def Ht.trans{M2 w3}(e:KK YH Z w w2)(b:∀a,Z a->Z' a)(f:Ht K w2 Z' E c M2 w3):Ht K w Z E c M2 w3:=by
 obtain⟨g,h,i,j,k⟩:=f;exact⟨g,h,i,e.trans j b,λa d=>k a (b a d)⟩
def EX.put2{n:Nat->Prop}(d:EX K w Z E c x M)(f:zQ w w' (λa=>a=E\/n a))(o:∀a,n a->¬Z a/\∃(s:qX)(i:TypeId)(t:Nat×Nat),w.heap[a]?=some (qR s i t)/\(i=138\/i=232))(v:W8 w' E x' M'.cp M'.op (.iface K.ty (qO c 0)) M'.sp)(p:M'.lg=M.lg/\M'.tx=M.tx)(y:KK [166,248,81,63] Z w w'->EP w' Z x' M'):EX K w' Z E c x' M'/\KK YH Z w w':=by
 have q:∀a,Z a->¬ (a=E\/n a):=λa b e=>e.elim (λj=>by subst j;exact d.ey.ez b) (λu=>(o a u).1 b)
 have r:KK YH Z w w':=KK.chg f (λa b k=>by
  rcases k with e | ⟨s,i,t,j,ht⟩
  ·exact q a e
  rintro (rfl | e)
  ·have m:=d.ey.blk.2
   rw[j]at m;simp at m;rw[m.2.1]at ht;exact absurd ht qG
  obtain⟨z,A,B,h,l⟩:=(o a e).2;rw[j]at h;simp at h;rw[<- h.2.1]at l;rcases l with rfl | rfl
  ·exact absurd ht qG
  exact absurd ht qG)
 have g:=y r;refine⟨⟨⟨v,g.ms,g.dn,g.ud,g.cu,g.cvs,g.sl,d.ey.ez,λa b=>ve (d.ey.zl a b) f.size,λa b=>?_⟩,?_,?_⟩,r⟩
 ·rw[f.block a (d.ey.zl a b) (q a b)];exact d.ey.zt a b
 ·rw[p.1]
  refine K.step d.cr ⟨f.os,f.tape,f.output,f.size,λa b k=>f.block a b (λe=>?_)⟩ (λ_ d=>.inl d);rcases e with rfl | e
  ·exact k _ _ _ d.ey.blk.2 qG
  obtain⟨z,A,B,h,l⟩:=(o a e).2;refine k _ _ _ h ?_;rcases l with rfl | rfl<;>decide
 rw[p.1,p.2];exact d.tx
def W8.e16{lim sp op tv}(j:W8 w E x lim op tv sp):∃a b c d e f g h,x.ss= [a,b,c,d,e,f,g,h]/\JG w E x.mv x.dv x.uv lim op x.cv tv a b c d e f g h sp:=by
 obtain⟨k,i⟩:=j
 match hs:x.ss,k with
 | [a,b,c,d,e,f,g,h],_=>exact⟨a,b,c,d,e,f,g,h,rfl,by rw[hs]at i;exact i⟩
def W8.ne{lim sp op tv v base t size n q xs}(b:W8 w E x lim op tv sp)(c:w.ownsRow base t size v n xs)(ht:t≠144)(d:v.ownBlock=some q):q≠E:=λa=>by
 subst a;obtain⟨e,f,a⟩:=jr c d;rw[b.2]at a;simp at a;exact ht a.2.1.symm
def Jt.psh{us gs v g}(a:Jt w Z us gs)(b:zB2 w Z v g)(c):Jt w Z (Fss c us v) (jb c gs g):=by
 unfold Fss jb;rw[a.len]
 split
 ·exact(a.app (show Jt w Z [v] [g]from⟨b,xB⟩)).drop1
 exact a.app (⟨b,xB⟩)
def zBq{ga gl gk g}(a:EX K w Z E c x M)(t:zB2 w Z (qM ga gl gk) g)(F:M.un.length<=1000)(G:M.cp<=1000):
  Calls prog 172 #[qO E 1,qM ga gl gk] w λi w'=>i=qQ (.tuple #[])/\(∃n,EX K w' Z E c {x with dv:=n} {M with un:=jb M.cp M.un g})/\KK YH Z w w':=by
 obtain⟨H,I,J,L,N,O,P,Q,R,S⟩:=a.ey.blk.e16;obtain⟨T,l,h⟩:=a.ey.dn.1;rw[<- h.len]at l;refine(pushG E M.cp x.mv x.dv x.uv M.op x.cv _ H I J L N O P Q M.sp T ga gl gk w S l h.sl (by rw[h.len];exact F) G).mono ?_;rintro i w' ⟨rfl,n,U,V,r,u⟩;have v:∀b,x.dv.ownBlock=some b->¬Z b/\∃(o:qX)(p:TypeId)(q:Nat×Nat),w.heap[b]?=some (qR o p q)/\(p=138\/p=232):=λb d=>⟨a.ey.dn.2 b d,by obtain⟨o,q,i⟩:=jr l d;exact⟨o,_,q,i,.inl rfl⟩⟩
 have s:=a.put2 (x':={x with dv:=n}) (M':={M with un:=jb M.cp M.un g}) r v ⟨a.ey.blk.1,by simp;rw[R];exact V⟩ ⟨rfl,rfl⟩ (λf=>by
  refine⟨yY a.ey.ms f (.inl qG),⟨⟨_,?_,(h.kk f qG (λ_ a=>a)).psh (t.kk f qG (λ_ a=>a)) M.cp⟩,λb d=>?_⟩,⟨?_,λb d=>⟨(a.ey.ud.2 b d).1,λe=>?_⟩⟩,λz=>?_,a.ey.cvs,a.ey.sl.1,λA B k C D=>(a.ey.sl.2 A B k C D).kk f qG qG (λ_ a=>a)⟩
  ·have y:=(h.psh t M.cp).len
   rw[<- y];exact U
  ·rcases u b d with e | e
   ·exact a.ey.dn.2 b e
   exact λj=>by have:=a.ey.zl b j;omega
  ·obtain⟨W,u1,u2⟩:=a.ey.ud.1
   refine⟨W,zD u1 (λb d=>r.block b (u1.lt b d).2 (λe=>?_)),u2.kk f qG (λ_ a=>a)⟩;rcases e with rfl | e
   ·exact a.ey.blk.ne u1 qG d rfl
   exact(a.ey.ud.2 b d).2 e
  ·rcases u b e with j | j
   ·exact(a.ey.ud.2 b d).2 j
   have:=a.ey.ud.1.nz d;omega
  obtain⟨⟨X,m,Y⟩,aa⟩:=a.ey.cu z;refine⟨⟨X,zD m (λb d=>r.block b (m.lt b d).2 (λe=>?_)),Y.kk f qG (λ_ a=>a)⟩,aa⟩;rcases e with rfl | e
  ·exact a.ey.blk.ne m qG d rfl
  exact zj m l qG d e)
 exact⟨rfl,⟨_,s.1⟩,s.2⟩
def EX.uv0(b:EX K w Z E c x M):EX K (w.setCell (qP E 2) qN) Z E c {x with uv:=.slice none 0 0} {M with re:=[]}:=
 have a:=b.ep (EO.set E 2 _ w)
 b.put (EO.set E 2 _ w) (b.ey.blk.set 2 _ b.ey.blk.1 rfl) ⟨rfl,rfl⟩ ⟨a.ms,a.dn,⟨Ko.nil,λe d=>by simp[Value.ownBlock]at d⟩,a.cu,a.cvs,a.sl⟩
end
section
variable {w w':World} {Z:Nat->Prop} {E c:Nat} {x:VX} {M:SS} {K:KX} {k off:Int} {a1 a2 a3:Option Addr} {l1 l2 l3 k1 k2 k3:Nat} {r:SR}
abbrev PD(a b:Int)(c d e:qW)(f g h i j k:Nat):qX:=#[qC a,qC b,qM c f i,qM d g j,qM e h k]
def one_new{b l}(c:w.heap[b]?=some (qR l.toArray 232 (0,0)))(a:l.length=5):w.ownsRow 0 232 5 (qM (qD b 0) 1 1) 1 l:=by
 exact⟨by rw[a],.inr ⟨b,1,_,rfl,xK _,c,lR,qK,by simp[a],by simp[xU,a]⟩⟩
def noteN(a:EX K w Z E c x M)(F:M.op=false)(s:RX w Z [qC k,qC off,qM a1 l1 k1,qM a2 l2 k2,qM a3 l3 k3] r)(G:M.un.length<=1000)(H:M.cp<=1000):
  Calls prog 159 #[qO E 1,.agg (PD k off a1 a2 a3 l1 l2 l3 k1 k2 k3)] w λe w'=>e=qQ (.tuple #[])/\Ht K w Z E c {M with re:=[],un:=jb M.cp M.un [r]} w':=by
 have m:=zC (bA (xe _ w) (qR (PD k off a1 a2 a3 l1 l2 l3 k1 k2 k3) 232));have v:=zC (xI w (qR (PD k off a1 a2 a3 l1 l2 l3 k1 k2 k3) 232));have y:=zC a;have HR:=zC s;have N:=a.lt;clear a s;go_enter func159,ntmps159;go_upto_region 1 with fail;generalize World.alloc w _=h at *;have d:=zC (y.below m);obtain⟨_,_,I,_,_⟩:=d.out.ey.blk.cl;have z:=d.ey.blk.f 2;go_upto_region 2 with fail;have n:=zC d.uv0;have b:=zC ((xj h (qP E 2) _ qN (by show w.heap.size≠E;omega)).trans v);have A:=zC (d.ey.ek (l:=YH) (EO.set E 2 qN h) qG);clear I z;generalize h.setCell _ _=w2 at *;obtain⟨_,_,_,_,J,_⟩:=n.out.ey.blk.cl;rw[F]at J;have O:=c8 0 b;have P:=c8 1 b;have Q:=c8 2 b;have R:=c8 3 b;have S:=c8 4 b;go_wp2_with fail;have o:=zC (bA (xe _ w2) (qR (PD k off a1 a2 a3 l1 l2 l3 k1 k2 k3) 232));have p:=zC (xI w2 (qR (PD k off a1 a2 a3 l1 l2 l3 k1 k2 k3) 232));have B:=zC (show w2.heap.size<(w2.alloc (qR (PD k off a1 a2 a3 l1 l2 l3 k1 k2 k3) 232)).heap.size by simp);generalize World.alloc w2 _=T at *
 have C:=zC (n.hold (Z':=λf=>Z f\/f=w2.heap.size) o (λ_ a=>.inl a) (λf g=>g.imp id (λe=>by
  subst e
  exact⟨lR,B,λU V W j=>by rw[p.out]at j;simp at j;rw[<- j.2.1];decide⟩)))
 have KA:=zC (((KK.of m).trans A (λ_ a=>a)).trans (KK.of o) (λ_ a=>a));have q:=zC (zBq C (⟨⟨_,one_new p rfl,We.one (HR.kk KA qG (λ_ a=>.inl a))⟩,λf g=>.inr (by simp only[Value.ownBlock,xE]at g;exact g.symm)⟩) G H);refine q.mono ?_;rintro e L ⟨rfl,⟨X,t⟩,u⟩;have D:=zC (show Ht K w Z E c {M with re:=[],un:=jb M.cp M.un [r]} L from⟨_,_,t,KA.trans u (λ_ a=>.inl a),λ_ a=>.inl a⟩);clear t u q;go_wp2;go_end0;exact⟨rfl,D⟩
end
section
variable {w w':World} {Z:Nat->Prop} {E c:Nat} {x:VX} {M:SS} {K:KX} {k off:Int} {a1 a2 a3:Option Addr} {l1 l2 l3 k1 k2 k3:Nat} {r:SR}
def cells9{d:qS}{b}{e:qU}{t f}(h:d.heap[b]?=some (qR e.toArray t f)):∀a c,e[a]?=some c->d.cell? (((qP b 0):Addr).add a)=some c:=λa c g=>by
 rw[yF,xX,xF d b a _ _ _ h];simpa using g
def noteO(d:EX K w Z E c x M)(q:M.op=true)(am:RX w Z [qC k,qC off,qM a1 l1 k1,qM a2 l2 k2,qM a3 l3 k3] r)(W:M.gr.length<=100000):
  Calls prog 159 #[qO E 1,.agg (PD k off a1 a2 a3 l1 l2 l3 k1 k2 k3)] w λj w'=>j=qQ (.tuple #[])/\Ht K w Z E c {M with re:=[],gr:=M.gr++ [r]} w':=by
 have ac:=zC (bA (xe w.heap.size w) (qR (PD k off a1 a2 a3 l1 l2 l3 k1 k2 k3) 232));have aw:=zC (xI w (qR (PD k off a1 a2 a3 l1 l2 l3 k1 k2 k3) 232));have z:=zC d;have HR:=zC am;have b0:=d.lt;have CL:=zC (λa e=>by obtain⟨⟨m,i,_⟩,_⟩:=d.ey.cu q;exact(i.lt a e).2)
 obtain⟨v,y,O⟩:∃F k,x.cv= .slice F M.gr.length k:=by
  obtain⟨⟨m,i,_⟩,_⟩:=d.ey.cu q;rcases i.2 with ⟨j,bf⟩ | ⟨bg,bh,bi,j,_⟩
  ·simp_all
  exact⟨_,_,j⟩
 obtain⟨g,Y⟩:∃g,g=M.gr.length:=⟨_,rfl⟩
 rw[<- Y]at O W;have ad:=zC Y;obtain⟨bj,bk,bl,bn,bp⟩:=vw Tryz.infoRX;clear d am Y;go_enter func159,ntmps159;go_upto_region 1 with fail;generalize World.alloc w _=U at *;have J:=zC (z.below ac);obtain⟨_,_,bq,_,_⟩:=J.out.ey.blk.cl;have ax:=J.ey.blk.f 2;go_upto_region 2 with fail;have f:=zC J.uv0;have ae:=zC ((xj U (qP E 2) w.heap.size qN (by show w.heap.size≠E;omega)).trans aw);have ay:=zC (J.ey.ek (l:=YH) (EO.set E 2 qN U) qG);clear bq ax;generalize U.setCell (qP E 2) _=L at *;obtain⟨_,_,_,_,br,an,_⟩:=f.out.ey.blk.cl;rw[q]at br;simp only[O]at an;have az:=(qZ.1 ae).1
 have P:=zC (show ∀b:qS,zQ L b (λa=>x.cv.ownBlock=some a)->(b.cell? (qP E 5)=some (qM v g y)/\b.cell? (qP w.heap.size 0)=some (qC k)/\b.cell? (qP w.heap.size 1)=some (qC off)/\b.cell? (qP w.heap.size 2)=some (qM a1 l1 k1)/\b.cell? (qP w.heap.size 3)=some (qM a2 l2 k2)/\b.cell? (qP w.heap.size 4)=some (qM a3 l3 k3))from λb u=>by
  have a1:=u.block E f.lt (λh=>by
   obtain⟨⟨m,i,_⟩,_⟩:=z.out.ey.cu q
   exact z.ey.blk.ne i qG h rfl)
  have a2:=u.block _ az (λh=>by have:=CL _ h;omega);have A:=a2.trans ae
  exact⟨(xq a1).trans an,c9 A rfl,c9 A rfl,c9 A rfl,c9 A rfl,c9 A rfl⟩)
 have KA:=zC ((KK.of ac).trans ay (λ_ d=>d));go_upto_region 3 with fail;refine(vZ (n:=6)).1 ?_;refine Yp 10 (λb=>b.cell? (qP E 5)=some (qM v g y)/\b.cell? (qP w.heap.size 0)=some (qC k)/\b.cell? (qP w.heap.size 1)=some (qC off)/\b.cell? (qP w.heap.size 2)=some (qM a1 l1 k1)/\b.cell? (qP w.heap.size 3)=some (qM a2 l2 k2)/\b.cell? (qP w.heap.size 4)=some (qM a3 l3 k3)) qI ?_;refine te 0 (qO E 1) ?_ ?_
 ·intro b o;go_simp
 go_simp;refine te 1 (qO E 1) ?_ ?_
 ·intro b o;go_simp
 go_simp;refine te 2 (qO E 1) ?_ ?_
 ·intro b o;go_simp
 go_simp;refine te 3 (qO E 5) ?_ ?_
 ·intro b o;go_simp
 go_simp;refine te 4 (qM v g y) ?_ ?_
 ·intro b o;obtain⟨ao,bs,bt,bu,bv,bw⟩:=o;go_simp
 go_simp;refine te 5 (.agg (PD k off a1 a2 a3 l1 l2 l3 k1 k2 k3)) ?_ ?_
 ·intro b o;obtain⟨ao,bs,bt,bu,bv,bw⟩:=o;go_simp
 go_simp;obtain⟨G,u⟩:∃b,b=L.drew:=⟨_,rfl⟩
 rw[<- u];have Q:=zC (show qY L G from by rw[u];exact⟨rfl,rfl,rfl,lR,λ_ _=>rfl⟩);clear u;refine one 6 (P G (zQ.qj Q lR)) ?_;gi_wp2_with fail;have B:=zC (Q.alloc Q.size (qR (PD k off a1 a2 a3 l1 l2 l3 k1 k2 k3) 232));have a0:=zC (xI G (qR (PD k off a1 a2 a3 l1 l2 l3 k1 k2 k3) 232));generalize World.alloc G _=V at *;refine one 7 (P V (zQ.qj B lR)) ?_
 have af:=zC (show ∃m,V.ownsRow 0 232 5 (qM v g y) g m/\We V Z m M.gr from by
  obtain⟨⟨m,i,ap⟩,aq⟩:=(f.below B).ey.cu q;simp only[O]at i;rw[<- ad.out]at i
  exact⟨m,i,ap⟩)
 obtain⟨m,aa,ar⟩:=af.out;refine wpListIn_append_own_at _ rfl _ _ 138 rfl 0 232 bj (.agg #[qC 0,qC 0,qN,qN,qN]) 5 88 underlying138 bk bl bn bp rfl qG (qM v g y) g m rfl (aa) (qP G.heap.size 0) 1 1 [qC k,qC off,qM a1 l1 k1,qM a2 l2 k2,qM a3 l3 k3] rfl rfl (cells9 a0) (by simp[Value.oneCell']) qK qF (xK _) ?_;intro ak p T t _ al;have s:=zC ((zQ.qj (S:=λa=>x.cv.ownBlock=some a) B lR).grownS t (λa e=>.inl (by rw[O];exact e)))
 have ag:=zC (show We p Z m M.gr/\∀a,ak.ownBlock=some a->¬Z a from by
  have b1:=(f.below B).ey.cu q;have a4:∀a,(Value.slice v g y).ownBlock=some a->¬Z a:=λa e=>by simp_all
  refine⟨ar.kk (l:=[166]) ⟨t.os,t.tape,t.output,t.size,λa e a9=>t.block a e (λR=>?_)⟩ qG (λ_ d=>d),λa e h=>?_⟩
  ·have C:=R.symm
   rcases a9 with h | ⟨au,b4,av,j,ht⟩
   ·exact a4 a C h
   obtain⟨b5,b6,ab⟩:=jr aa C;rw[j]at ab;simp at ab;rw[ab.2.1]at ht;exact absurd ht qG
  rcases al with C | C
  ·simp_all
  rw[C]at e;simp at e;have:=(f.below B).ey.zl a h
  omega)
 obtain⟨H,I,bx⟩:∃F k,ak= .slice F (g+1) k:=by
  rcases T.2 with ⟨j,bf⟩ | ⟨bg,bh,bi,j,_⟩
  ·omega
  exact⟨_,_,j⟩
 subst bx;have ah:=zC T;clear T t af aa ar al;refine kl ?_;go_simp;have ai:=P p s
 have D:=zC (show W8 p E {x with uv:=.slice none 0 0} M.cp M.op (.iface K.ty (qO c 0)) M.sp from⟨f.ey.blk.1,(s.block E f.lt (λh=>by
   obtain⟨⟨m,i,_⟩,_⟩:=z.out.ey.cu q
   exact z.ey.blk.ne i qG h rfl)).trans f.ey.blk.2⟩)
 have b2:=D.f 5;refine te 8 (qO E 1) ?_ ?_
 ·intro b o;go_simp
 go_simp;refine te 9 (qO E 5) ?_ ?_
 ·intro b o;go_simp
 go_simp;refine fin ai ?_;obtain⟨ao,_⟩:=ai;gi_wp2_with fail
 have a5:=zC (show Ht K w Z E c {M with re:=[],gr:=M.gr++ [r]} (p.setCell (qP E 5) (qM H (g+1) I))from by
  obtain⟨⟨b7,i,ap⟩,aq⟩:=f.out.ey.cu q;have a6:=D.set (x':={x with uv:=.slice none 0 0,cv:=.slice H (g+1) I}) 5 (qM H (g+1) I) D.1 rfl;have a7:zQ L p (λa=>a=E\/x.cv.ownBlock=some a):=⟨s.os,s.tape,s.output,s.size,λa e W=>s.block a e (λh=>W (.inr h))⟩
  have aj:=a7.setS (qP E 5) (qM H (g+1) I) (.inl (.inl rfl))
  have h:=f.put2 (M':={M with re:=[],gr:=M.gr++ [r]}) aj (λa e=>⟨aq a e,by obtain⟨au,av,j⟩:=jr i e;exact⟨au,_,av,j,.inr rfl⟩⟩) a6 ⟨rfl,rfl⟩ (λN=>by
   have a8:KK [166] Z p (p.setCell (qP E 5) (qM H (g+1) I)):=(EO.set E 5 _ p).kk D.2 f.ey.ez qG;refine⟨yY f.ey.ms N (.inl qG),⟨?_,f.ey.dn.2⟩,⟨Ko.nil,λa e=>by simp[Value.ownBlock]at e⟩,λb3=>⟨⟨_,?_,(ag.1.kk a8 qG (λ_ d=>d)).app (We.one (HR.kk (KA.trans N (λ_ d=>d)) qG (λ_ d=>d)))⟩,ag.2⟩,⟨_,_,_,rfl⟩,f.ey.sl.1,λba bc k F bd=>(f.ey.sl.2 ba bc k F bd).kk N qG qG (λ_ d=>d)⟩
   ·obtain⟨bz,u1,u2⟩:=f.out.ey.dn.1
    refine⟨bz,zD u1 (λa e=>aj.block a (u1.lt a e).2 (λX=>?_)),u2.kk N qG (λ_ d=>d)⟩;rcases X with rfl | X
    ·exact f.ey.blk.ne u1 qG e rfl
    exact zj u1 i qG e X
   have R:(M.gr++ [r]).length=g+1:=(by rw[xg,<- ad.out];rfl);rw[R]
   exact zD ah (λa e=>xj p (qP E 5) a _ (D.ne ah qG e)))
  exact⟨Z,_,h.1,KA.trans h.2 (λ_ d=>d),λ_ d=>d⟩)
 exact bodyPost_end (by simp[results]) rfl ⟨rfl,a5⟩
end
def chgV (p : Bool) : Value := .agg #[.func (.methodOf 105 (if p then "loop.example/s01685/impl.insert" else "loop.example/s01685/impl.remove")) #[] #[], .func (.func (if p then 168 else 169)) #[] #[]]
def crsX(a:Bool):qT:=bif a then .agg #[Uh,WW,FQ,WX]else .agg #[FQ,WX,Uh,WW]
def Hu(a:Bool):Int:=if a then 1 else 2
def Tryz.fldX(p)(w):(Instr.field 239 (crsX p) 0).run prog w= .ok (chgV p) w/\(Instr.field 239 (crsX p) 1).run prog w= .ok (chgV (!p)) w:=by cases p<;>exact⟨qI,qI⟩
def zA8(off)(a1 a2 a3)(l1 l2 l3 k1 k2 k3)(w):
  Calls prog 145 #[.agg #[qC 2,qC off,qM a1 l1 k1,qM a2 l2 k2,qM a3 l3 k3]] w λa w'=>a=qQ (.agg #[FQ,WX,Uh,WW])/\qY w w':=by
 have b:=Tryz.stF;have c:=Tryz.stN;unfold Uh FQ WW WX;go_enter func145,ntmps145;go_wp2;refine vg (by simp[results,go_sem,Uh,WW,FQ,WX]) rfl ⟨rfl,?_⟩;exact bA (bA (bA (bA (bA (xe _ _) _) _) _) _) _
def Ui(p)(off)(a1 a2 a3)(l1 l2 l3 k1 k2 k3)(w):
  Calls prog 145 #[.agg (PD (Hu p) off a1 a2 a3 l1 l2 l3 k1 k2 k3)] w λa w'=>a=qQ (crsX p)/\qY w w':=by
 cases p
 ·exact zA8 off a1 a2 a3 l1 l2 l3 k1 k2 k3 w
 exact course1 off a1 a2 a3 l1 l2 l3 k1 k2 k3 w
def Wl(d:Bool)(b:SS)(a:Nat)(c:qV):SS:={b with tx:=if d then b.tx.take a++(c++b.tx.drop a)else b.tx.take a++b.tx.drop (a+c.length),ms:=if d then Zi (b.ms.map (mov (jF a c.length)))else Zi (b.ms.map (mov (ZB a c.length))),lg:=b.lg++ [if d then⟨1,a,0,c⟩else⟨2,a,a+c.length,[]⟩]}
def OkC(d:Bool)(a:SS)(c:Nat)(b:qV):Prop:=0<b.length/\(if d then c<=a.tx.length/\a.tx.length+b.length<=8192 else c+b.length<=a.tx.length)/\Vd a.ms
section
variable {w w':World} {Z Z':Nat->Prop} {E c:Nat} {x:VX} {M:SS} {K:KX} {off:Nat} {ts:List Int} {a1 a2 a3:Option Addr} {l2 l3 k1 k2 k3:Nat} {r:SR}
def IL(p)(kd)(a:EX K w Z E c x M)(o:TX w Z (qM a1 ts.length k1) ts)(q:OkC p M off ts):
  Calls prog 144 #[qO E 0,chgV p,.agg (PD kd off a1 a2 a3 ts.length l2 l3 k1 k2 k3)] w λn w'=>n=qQ (.tuple #[])/\StC K w Z E c x (Wl p M off ts) w':=by
 obtain⟨j,b,k⟩:=q;have m:=K.lt a.cr;rw[a.tx]at m;cases p with
 | true=>
  simp at b;refine zA7 a _ _ 168 off kd a1 a2 a3 _ l2 l3 k1 k2 k3 ⟨1,off,0,ts⟩ _ _ (λc w=>(K.mth c w).2.2.1) (K.ent _ qH) (Go.Proofs.enters_of func168 qI rfl) (λe f=>?_) ?_ (λe r g h=>Gd r _ qG E off _ _ _ 0 e g h k qF)
  ·have d:=a.below f
   exact K.cIns d.cr d.ey.zl (o.kk (l:=[]) (KK.of f) (λ_ a=>a)) j (by rw[a.tx];exact b.1) (by rw[a.tx];exact b.2)
  show K.tx (K.ins _ off ts)=_
  rw[K.tIns a.cr (by rw[a.tx];exact b.1) (by rw[a.tx];exact b.2),a.tx];rfl
 | false=>
  simp at b;have i:K.app (K.run M.lg) ⟨2,off,off+ts.length,[]⟩=K.rem (K.run M.lg) off ts.length:=(by simp[KX.app]);refine zA7 a _ _ 169 off kd a1 a2 a3 _ l2 l3 k1 k2 k3 ⟨2,off,_,[]⟩ _ _ (λc w=>(K.mth c w).2.2.2.1) (K.ent _ qH) (Go.Proofs.enters_of func169 qI rfl) (λe f=>?_) ?_ (λe r g h=>Ge r _ qG E off _ _ _ 0 e g h k qF qF)
  ·have d:=a.below f
   rw[i];exact K.cRem d.cr d.ey.zl j (by rw[a.tx];exact b)
  rw[i,K.tRem a.cr (by rw[a.tx];exact b),a.tx];rfl
def EX.box{q j v cs}(a:EX K w Z E c x M)(g:w.heap[q]?=some (qR cs 232 (0,0)))(y:¬Z q)(F:M.op=true->x.cv.ownBlock≠some q):EX K (w.setCell (qP q j) v) Z E c x M:=by
 have m:q≠E:=λf=>by
  subst f;have d:=a.ey.blk.2;rw[g]at d;simp only[xE,kf]at d
  simp_all
 have n:=(zQ.reflS w (λb=>b=E\/b=q)).setS (qP q j) v (.inl (.inr rfl));refine(a.put2 n (λb e=>by subst e;exact⟨y,_,_,_,g,.inr rfl⟩) ⟨a.ey.blk.1,(xj w _ E v (QS m)).trans a.ey.blk.2⟩ ⟨rfl,rfl⟩ (λe=>?_)).1
 have h:∀{k:qT}{l:List _},Ko w Z k l->Ko _ Z k l:=λp=>by
  obtain⟨z,u1,u2⟩:=p
  exact⟨z,zD u1 (λb i=>xj w _ b _ (λf=>by
   have o:b=q:=f;subst o;obtain⟨G,H,d⟩:=jr u1 i;rw[g]at d;simp only[xE,kf]at d
   exact absurd d.2.1 qG)),u2.kk e qG (λ_ a=>a)⟩
 refine⟨yY a.ey.ms e (.inl qG),⟨h a.ey.dn.1,a.ey.dn.2⟩,⟨h a.ey.ud.1,a.ey.ud.2⟩,λr=>?_,a.ey.cvs,a.ey.sl.1,λs v b t u=>(a.ey.sl.2 s v b t u).kk e qG qG (λ_ a=>a)⟩;obtain⟨⟨A,B,C⟩,D⟩:=a.ey.cu r;exact⟨⟨A,zD B (λb i=>xj w _ b v (λf=>by simp_all)),C.kk e qG (λ_ a=>a)⟩,D⟩
def zAv(a:SS)(b:SR):SS:={a with re:=[],gr:=if a.op then a.gr++ [b]else a.gr,un:=if a.op then a.un else jb a.cp a.un [b]}
def Ht.trans'{w3 M2}(a:Ht K w' Z E c M2 w3)(b:KK YH Z w w'):Ht K w Z E c M2 w3:=Ht.trans b (λ_ a=>a) a
def noteX{k off l1}(b:EX K w Z E c x M)(d:RX w Z [qC k,qC off,qM a1 l1 k1,qM a2 l2 k2,qM a3 l3 k3] r)(f:M.un.length<=1000)(g:M.cp<=1000)(h:M.gr.length<=100000):
  Calls prog 159 #[qO E 1,.agg (PD k off a1 a2 a3 l1 l2 l3 k1 k2 k3)] w λe w'=>e=qQ (.tuple #[])/\Ht K w Z E c (zAv M r) w':=by
 cases ho:M.op with
 | true=>rw[show zAv M r={M with re:=[],gr:=M.gr++ [r]} by unfold zAv;simp_all];exact noteO b ho d h
 | false=>
  have a:¬M.op=true:=(by rw[ho];decide);rw[show zAv M r={M with re:=[],un:=jb _ _ [r]} by unfold zAv;rw[xJ a,xJ a]];exact noteN b ho d f g
def zBr(p)(d:EX K w Z E c x M)(ab:TX w Z (.slice a1 ts.length k1) ts)(aw:OkC p M off ts)(bq:M.un.length<=1000)(b3:M.cp<=1000)(b4:M.gr.length<=100000)(r)(ax:r.put=p/\r.off=off/\YG r=ts/\r.was=M.ms/\r.is=(Wl p M off ts).ms):
  Calls prog 134 #[.pointer (qD E 0),qC (Hu p),qC off,.slice a1 ts.length k1] w λH w'=>H= .returned (.tuple #[])/\Ht K w Z E c (zAv (Wl p M off ts) r) w':=by
 obtain⟨f,N⟩:∃f,f=Hu p:=⟨_,rfl⟩
 rw[<- N];have a6:=zC N;have af:=zC (Ui p);rw[<- N]at af;have b0:=λw=>(Tryz.fldX p w).1
 have a7:=d.ey.blk.cl.1;obtain⟨h,k2,O⟩:=d.ey.ms.val;obtain⟨g,P⟩:∃g,g=ts.length:=⟨_,rfl⟩
 obtain⟨e,ay⟩:∃e,e=M.ms.length:=⟨_,rfl⟩
 rw[<- ay]at O;rw[O]at a7;rw[<- P]at ab |-;have m:=zC (xI w (.cells (PD f off a1 h none g e 0 k1 k2 0) 232));have ag:=zC (bA (xe _ w) (.cells (PD f off a1 h none g e 0 k1 k2 0) 232));have CL:=zC (λar L au=>by obtain⟨⟨b5,br,_⟩,_⟩:=d.ey.cu ar;exact(br.lt L au).2);have ah:=zC d;have HT:=zC ab;have a8:=zC (show zS w 0 (.slice h e k2) _ from by rw[<- O];exact d.ey.ms);have a9:=zC ax;obtain⟨s,Q⟩:∃s,s=Wl p M off ts:=⟨_,rfl⟩
 rw[<- Q];have ai:=zC Q;have ba:s.un=M.un/\s.cp=M.cp/\s.gr=M.gr/\s.op=M.op:=by rw[Q];exact⟨rfl,rfl,rfl,rfl⟩
 have R:=zC (λbn(av:Below _ w bn)=>IL (a2:=h) (a3:=none) (l2:=e) (l3:=0) (k2:=k2) (k3:=0) p f (ah.out.below av) (by rw[<- P];exact HT.out.kk (l:=[]) (KK.of av) (λ_ d=>d)) aw);rw[<- P]at R;clear d ab aw ax Q P ay N O;go_enter func134,ntmps134;go_upto_region 1 with fail;generalize World.alloc w _=q at *;have b1:=(qZ.1 m.out).1;have A:q.cell? _=some (.int _ f):=c8 0 m.out;have B:q.cell? _=some (.int _ off):=c8 1 m.out;have C:q.cell? _=some (.slice a1 g k1):=c8 2 m.out;have D:q.cell? _=some (.slice h e k2):=c8 3 m.out;have F:q.cell? _=some (.slice none 0 0):=c8 4 m.out;have S:=λa b=>cell_regrown A a b
 have T:=λa b=>cell_regrown B a b
 have U:=λa b=>cell_regrown C a b
 have V:=λa b=>cell_regrown D a b
 have W:=λa b=>cell_regrown F a b
 have aj:=zC (λa b=>CallsIn.regrown_of (r:=5) (w:=q) (d:=a) (os:=b) (vn.2 (af.out off a1 h none g e 0 k1 k2 0 _)));refine(vZ (n:=6)).1 ?_;refine zM 5 (by kernel_rfl) (by kernel_rfl) ?_;simp only[vc,vY,vE,vz];clear A B C D F
 repeat (refine wpQuietIn_step (λ_ _ _ _=>trivial) (λK t=>?_);go_simp;first | (refine t _ ?_;clear t K) | (apply Exists.intro;refine⟨λ_=>?_,t _ ?_⟩;(first | exact aj.out _ _);clear t K))
 refine wpQuietIn_nil ?_;intro _ Y;obtain⟨⟨bs,az⟩,ac⟩:=Y;subst ac;have u:=zC (below_regrown q bs az);clear S T U V W aj;generalize grow _ az=bl at *;have ak:=zC (ag.out.trans (u.out.mono (by omega)));have al:=zC ((u.out.block _ (by omega)).trans m.out);have am:=zC (R.out bl ak.out);clear u m R ag;gi_wp2_with fail;refine⟨xB,(vn.2 am.out).mono ?_⟩;rintro H o ⟨rfl,b6,J,ad⟩;rw[<- ai.out]at J;have an:=zC J;have y:=zC (ad.ty al.out (by decide));have ao:=zC ((KK.of (l:=YH) ak.out).trans (ad.weak (by decide)) (λ_ d=>d));obtain⟨a3,k3,ae⟩:=J.ey.ms.val;obtain⟨l3,a0⟩:∃l3,l3=s.ms.length:=⟨_,rfl⟩
 simp at ae;rw[<- a0]at ae;subst ae;have bc:=J.ey.blk.cl.1;have bd:=xY o _ 4 _ _ y.out;have bf:o.cell? _=some (.slice none 0 0):=c8 4 y.out;clear J ad am al a0;gi_wp2_with fail;have G:=zC (show(o.setCell _ _).heap[w.heap.size]?=some (.cells (PD f off a1 h a3 g e l3 k1 k2 k3) 232 _)from by rw[xN o _ 4 _ _ _ y.out];rfl);have ap:¬Z w.heap.size:=λaa=>by have:=ah.out.ey.zl _ aa;omega
 have bg:=zC (an.out.box (j:=4) (v:=.slice a3 l3 k3) y.out ap (λar I=>by have:=CL.out (by simp_all) _ I;omega))
 have bh:=zC (ao.out.trans (show KK YH Z o (o.setCell _ (.slice a3 l3 k3))from⟨rfl,rfl,rfl,by simp,λL au bp=>xj o ⟨w.heap.size,4,none⟩ L _ (λH=>by
  have bi:L=w.heap.size:=H;subst bi;rcases bp with aa | ⟨b7,b8,b9,I,ht⟩
  ·exact ap aa
  rw[y.out]at I;simp at I;rw[<- I.2.1]at ht
  exact absurd ht (by decide))⟩) (λ_ d=>d))
 go_upto_region 3 with fail;clear bf bd bc an y ao;generalize o.setCell _ _=z at *;have A:z.cell? _=some (.int _ f):=c8 0 G.out;have B:z.cell? _=some (.int _ off):=c8 1 G.out;have C:z.cell? _=some (.slice a1 g k1):=c8 2 G.out;have D:z.cell? _=some (.slice h e k2):=c8 3 G.out;have F:z.cell? _=some (.slice a3 l3 k3):=c8 4 G.out;have S:=λa b=>cell_regrown A a b
 have T:=λa b=>cell_regrown B a b
 have U:=λa b=>cell_regrown C a b
 have V:=λa b=>cell_regrown D a b
 have W:=λa b=>cell_regrown F a b
 refine(vZ (n:=6)).1 ?_;refine zM 4 (by kernel_rfl) (by kernel_rfl) ?_;simp only[vc,vY,vE,vz];clear A B C D F
 repeat (refine wpQuietIn_step (λ_ _ _ _=>trivial) (λK t=>?_);go_simp;first | (refine t _ ?_;clear t K))
 refine wpQuietIn_nil ?_;intro _ Y;obtain⟨⟨bt,a4⟩,ac⟩:=Y;subst ac;have u:=zC (below_regrown z bt a4);clear S T U V W;generalize grow _ a4=b2 at *;have X:=zC (bh.out.trans (KK.of u.out) (λ_ d=>d));have aq:=zC (bg.out.below u.out)
 have bj:=zC (noteX (k:=f) aq.out (by
  obtain⟨bu,bv,bw,bx,bz⟩:=a9.out;refine⟨.slice a1 g k1,.slice h e k2,.slice a3 l3 k3,?_,?_,?_,?_⟩
  ·rw[bu,bv,a6.out];rfl
  ·rw[bw];exact HT.out.kk X.out (λ_ d=>d)
  ·rw[bx];exact yY a8.out X.out (.inl (by decide))
  rw[bz,<- ai.out];exact aq.out.ey.ms) (by rw[ba.1];exact bq) (by omega) (by simp_all))
 gi_wp2_with fail;refine⟨xB,(vn.2 bj.out).mono ?_⟩;rintro H ca ⟨rfl,a5⟩;have bk:=zC (a5.trans' X.out);clear a5;gi_wp2_with fail;exact bodyPost_end (by simp[results]) rfl ⟨rfl,bk.out⟩
end
end
section
open Go.Sort Go.BigFrame
def OX(l:KX)(g:qS)(j:Nat->Prop)(m n:Nat)(o p q:Int)(r:qV)(s:List Mk)(t:SS)(u:Ending)(b:qS):Prop:=
 ∃c d e h i mk f k,u=qQ (.tuple #[.agg (yg o p q (qM c d e) (qM h i mk)),.nilIface])/\(zT b g.heap.size (qM c d e) r/\∀a,(Value.slice c d e).ownBlock=some a->f a)/\zS b g.heap.size (qM h i mk) s/\EX l b f m n k t/\KK YH j g b/\∀a,j a->f a
def AX(c:KX)(d:FuncId)(a:qS)(e:Nat->Prop)(b f:Nat)(g h i j:Int)(k:qT)(l m n:Int)(o:qV)(p:List Mk)(q:SS):Prop:=
 Calls prog d #[qO b 0,.agg (yp g h i j k)] a (OX c a e b f l m n o p q)
def BX(c:FuncId)(a:qS)(d:Nat)(e f g h:Int)(i j:qT):Prop:=
 Calls prog c #[qO d 0,.agg (yp e f g h i)] a λb w'=>b=qQ (.tuple #[.agg (yg 0 0 0 qN qN),j])/\qY a w'
section
variable {w w' W W2:World} {Z Z1:Nat->Prop} {E c:Nat} {x:VX} {M M2:SS} {K:KX} {op:Array Value}
def PX(g:KX)(b:qS)(d:Nat->Prop)(h i:Nat)(j:qX)(k:SS)(e:Nat->Prop)(a:qS):Prop:=(∃f,EX g a e h i f k)/\KK YH d b a/\(∀c,d c->e c)/\a.heap[b.heap.size]?=some (qR j 63 (0,0))/\a.heap[b.heap.size+1]?=some (qR (yg 0 0 0 qN qN) 81 (0,0))
def PB(a:qS)(c:qX)(b:qS):Prop:=qY a b/\b.heap[a.heap.size]?=some (qR c 63 (0,0))/\b.heap[a.heap.size+1]?=some (qR (yg 0 0 0 qN qN) 81 (0,0))
def PB.start(w)(op):PB w op ((w.alloc (qR op 63)).alloc (qR (yg 0 0 0 qN qN) 81)):=⟨bA (bA (xe _ w) _) _,Pd w _ op 63,ES w _ _ 81⟩
def PB.lt(a:PB w op W):w.heap.size+1<W.heap.size:=(qZ.1 a.2.2).1
def PB.below(a:PB w op W)(b:qY W W2):PB w op W2:=⟨a.1.trans (b.mono a.1.size),(b.block _ (by have:=a.lt;omega)).trans a.2.1,(b.block _ a.lt).trans a.2.2⟩
def PB.fin(b:PB w op W){row}:qY w (W.setRow (w.heap.size+1) row):=b.1.trans ⟨rfl,rfl,rfl,qH,λa c=>vG W _ a row qF⟩
def PX.start(b:EX K w Z E c x M)(op):PX K w Z E c op M Z ((w.alloc (qR op 63)).alloc (qR (yg 0 0 0 qN qN) 81)):=
 have a:=PB.start w op
 ⟨⟨x,b.below a.1⟩,KK.of a.1,λ_ b=>b,a.2.1,a.2.2⟩
def PX.step(b:PX K w Z E c op M Z1 W)(h:Ht K W Z1 E c M2 W2):∃d,PX K w Z E c op M2 d W2/\∀a,Z1 a->d a:=by
 obtain⟨d,i,j,e,f⟩:=h;exact⟨d,⟨⟨i,j⟩,b.2.1.trans e b.2.2.1,λa g=>f a (b.2.2.1 a g),e.ty b.2.2.2.1 qG,e.ty b.2.2.2.2 qG⟩,f⟩
def PX.same(a:PX K w Z E c op M Z1 W)(e:∃d,EX K W2 Z1 E c d M2)(b:KK YH Z1 W W2):PX K w Z E c op M2 Z1 W2:=⟨e,a.2.1.trans b a.2.2.1,a.2.2.1,b.ty a.2.2.2.1 qG,b.ty a.2.2.2.2 qG⟩
def PX.below(a:PX K w Z E c op M Z1 W)(b:qY W W2):PX K w Z E c op M Z1 W2:=by
 obtain⟨d,e⟩:=a.1;exact a.same ⟨d,e.below b⟩ (KK.of b)
def KN.row{q row cs t f l}(d:W.heap[q]?=some (qR cs t f))(ht:t∈l):KN l W (W.setRow q row):=⟨rfl,rfl,rfl,qH,λa _ b=>vG W q a row (λc=>by subst c;exact b cs t f d ht)⟩
def PX.fin{x0 x1 x2 T ms ua ma ul uk ml mk}(h:PX K w Z E c op M Z1 W)(e:zT W w.heap.size (qM ua ul uk) T/\∀a,(Value.slice ua ul uk).ownBlock=some a->Z1 a)(i:zS W w.heap.size (qM ma ml mk) ms):OX K w Z E c x0 x1 x2 T ms M (qQ (.tuple #[.agg (yg x0 x1 x2 (qM ua ul uk) (qM ma ml mk)),.nilIface])) (W.setRow (w.heap.size+1) (yg x0 x1 x2 (qM ua ul uk) (qM ma ml mk))):=by
 obtain⟨⟨j,k⟩,b,l,n,m⟩:=h;have d:KN [81,63] W (W.setRow _ (yg x0 x1 x2 (qM ua ul uk) (qM ma ml mk))):=KN.row m qG;exact⟨ua,ul,uk,ma,ml,mk,Z1,j,rfl,⟨jc e.1 d qG,e.2⟩,jc i d qG,k.keep d,⟨b.os,b.tape,b.output,by simp;exact b.size,λa f g=>(vG W _ a _ qF).trans (b.block a f g)⟩,l⟩
def PX.fin0{x0 x1 x2}(b:PX K w Z E c op M Z1 W):OX K w Z E c x0 x1 x2 [] [] M (qQ (.tuple #[.agg (yg x0 x1 x2 qN qN),.nilIface])) (W.setRow (w.heap.size+1) (yg x0 x1 x2 qN qN)):=b.fin ⟨xR _ _ _ _,λd a=>by simp[Value.ownBlock]at a⟩ (xR _ _ _ _)
def jK{fn R tmps q x0 x1 x2 ua ma ul uk ml mk cs f er}(n:fn.results= #[.cell 4 81,.tmp 5])(o:W.heap[q]?=some (qR cs 81 f))(p:tmps[4]?=some (qO q 0))(r:tmps[5]?=some er)(s:R (qQ (.tuple #[.agg (yg x0 x1 x2 (qM ua ul uk) (qM ma ml mk)),er])) (W.setRow q (yg x0 x1 x2 (qM ua ul uk) (qM ma ml mk)))):bodyPost prog fn R .ret {tmps:=tmps,defers:=[]} (W.setRow q (yg x0 x1 x2 (qM ua ul uk) (qM ma ml mk))):=by
 have a:=kT W q _ (yg x0 x1 x2 (qM ua ul uk) (qM ma ml mk)) _ _ o;have b:=c8 0 a;have c:=c8 1 a;have d:=c8 2 a;have e:=c8 3 a;have g:=c8 4 a;have h:=c8 5 a;have j:=c8 6 a;have k:=c8 7 a;have l:=c8 8 a;have m:=c8 9 a;generalize W.setRow q _=t at *;exact vg (by simp[results,n,go_sem,p,r,b,c,d,e,g,h,j,k,l,m]) rfl s
end
section
variable {w w':World} {Z:Nat->Prop} {E c:Nat} {x:VX} {M:SS} {K:KX} {kd b0 b1 b2:Int} {ta:Option Addr} {tl tk:Nat}
def EX.begin(a:EX K w Z E c x M):EX K ((w.setCell (qP E 4) (.bool true)).setCell (qP E 5) qN) Z E c {x with cv:=.slice none 0 0} {M with op:=true,gr:=[]}:=by
 have d:=(EO.set E 4 (.bool true) w).trans (EO.set E 5 qN _);have b:=a.ep d;have b1:=a.ey.blk.set 4 (.bool true) a.ey.blk.1 rfl;exact a.put d (b1.set 5 _ a.ey.blk.1 rfl) ⟨rfl,rfl⟩ ⟨b.ms,b.dn,b.ud,λ_=>⟨⟨[],xR _ _ _ _,rfl⟩,λf e=>by simp[Value.ownBlock]at e⟩,⟨_,_,_,rfl⟩,b.sl⟩
def EX.shut(b:EX K w Z E c x M):EX K (w.setCell (qP E 4) (.bool false)) Z E c x {M with op:=false}:=by
 have d:=EO.set E 4 (.bool false) w;have a:=b.ep d;exact b.put d (b.ey.blk.set 4 _ b.ey.blk.1 rfl) ⟨rfl,rfl⟩ ⟨a.ms,a.dn,a.ud,λe=>(by cases e),a.cvs,a.sl⟩
def beginX(a:EX K w Z E c x M)(e:M.op=false):Calls prog 148 #[qO E 1] w λd w'=>d=qQ .nilIface/\Ht K w Z E c {M with op:=true,gr:=[]} w':=by
 have b:=zC (show Ht K w Z E c _ _ from⟨Z,_,a.begin,a.ey.ek ((EO.set E 4 _ w).trans (EO.set E 5 _ _)) qG,λ_ a=>a⟩);obtain⟨_,_,_,_,f,i,_⟩:=a.ey.blk.cl;have g:=a.ey.blk.f 4;have h:=a.ey.blk.f 5;rw[e]at f;clear a;go_enter func148,ntmps148;go_wp2;go_ret;exact⟨rfl,b⟩
def beginE(a:EX K w Z E c x M)(d:M.op=true):Calls prog 148 #[qO E 1] w λb w'=>b=qQ (.iface 109 (qC 7))/\w'=w:=by
 obtain⟨_,_,_,_,e,f,_⟩:=a.ey.blk.cl;rw[d]at e;clear a;go_enter func148,ntmps148;go_wp2;go_ret;simp
def begin9(d:EX K w Z E c x M)(i:M.op=false):AX K 120 w Z E c 11 b0 b1 b2 (qM ta tl tk) 0 0 0 [] [] {M with op:=true,gr:=[]}:=by
 unfold AX;have a:=zC (PX.start d (yp 11 b0 b1 b2 (qM ta tl tk)));clear d;go_enter func120,ntmps120;go_upto_region 1 with fail;generalize World.alloc _ _=j at *;obtain⟨k,e⟩:=a.out.1;have g:=zC e;clear e;have BE:=zC (beginX g i);go_wp2_with (first | (refine ZM RR ?_) | (refine BE.mono ?_;rintro l m ⟨rfl,hst⟩;obtain⟨n,f,_⟩:=a.step hst;have b:=zC f;have RR:=zC b.2.2.2.2;have h:=zC (b.fin0 (x0:=0) (x1:=0) (x2:=0));clear hst f));exact jK results120 RR rfl rfl h
def beginB9(b:EX K w Z E c x M)(g:M.op=true):BX 120 w E 11 b0 b1 b2 (qM ta tl tk) (.iface 109 (qC 7)):=by
 unfold BX;have a:=zC (PB.start w (yp 11 b0 b1 b2 (qM ta tl tk)));have d:=zC b;clear b;go_enter func120,ntmps120;go_upto_region 1 with fail;generalize World.alloc _ _=i at *;have e:=zC (d.below a.1);have h:=zC a.2.1;have BE:=zC (beginE e g);have RR:=zC a.2.2;have f:=zC (a.fin (row:=yg 0 0 0 qN qN));go_wp2_with (first | (refine ZM RR ?_) | (refine BE.mono ?_;rintro j k ⟨rfl,rfl⟩));exact jK results120 RR rfl rfl ⟨rfl,f⟩
def move9(b:EX K w Z E c x M):AX K 124 w Z E c 15 b0 b1 b2 (qM ta tl tk) 0 0 0 [] [] M:=by
 unfold AX;have a:=zC (PX.start b (yp 15 b0 b1 b2 (qM ta tl tk)));clear b;go_enter func124,ntmps124;go_upto_region 1 with fail;generalize World.alloc _ _=f at *;obtain⟨g,e⟩:=a.out.1;clear e;have RR:=zC a.2.2.2.2;have d:=zC (a.fin0 (x0:=0) (x1:=0) (x2:=0));go_wp2_with (refine ZM RR ?_);exact jK results124 RR rfl rfl d
end
end
def IR:qX:=#[.string ⟨#[]⟩,.nilFunc,.string ⟨#[73,110,115,101,114,116]⟩,.func (.func 110) #[] #[],.string ⟨#[68,101,108,101,116,101]⟩,.func (.func 111) #[] #[],.string ⟨#[83,108,105,99,101]⟩,.func (.func 112) #[] #[],.string ⟨#[76,105,110,101,67,111,108]⟩,.func (.func 113) #[] #[],.string ⟨#[79,102,102,115,101,116]⟩,.func (.func 114) #[] #[],.string ⟨#[77,97,114,107]⟩,.func (.func 115) #[] #[],.string ⟨#[68,114,111,112]⟩,.func (.func 116) #[] #[],.string ⟨#[76,111,111,107]⟩,.func (.func 117) #[] #[],.string ⟨#[85,110,100,111]⟩,.func (.func 118) #[] #[],.string ⟨#[82,101,100,111]⟩,.func (.func 119) #[] #[],.string ⟨#[66,101,103,105,110]⟩,.func (.func 120) #[] #[],.string ⟨#[69,110,100]⟩,.func (.func 121) #[] #[],.string ⟨#[83,110,97,112]⟩,.func (.func 122) #[] #[],.string ⟨#[66,97,99,107]⟩,.func (.func 123) #[] #[],.string ⟨#[77,111,118,101]⟩,.func (.func 124) #[] #[],.string ⟨#[68,117,109,112]⟩,.func (.func 125) #[] #[]]
def ansZ:qX:=#[.string ⟨#[]⟩,.nilFunc,.string ⟨#[]⟩,.nilFunc,.string ⟨#[]⟩,.nilFunc,.string ⟨#[]⟩,.nilFunc,.string ⟨#[]⟩,.nilFunc,.string ⟨#[]⟩,.nilFunc,.string ⟨#[]⟩,.nilFunc,.string ⟨#[]⟩,.nilFunc,.string ⟨#[]⟩,.nilFunc,.string ⟨#[]⟩,.nilFunc,.string ⟨#[]⟩,.nilFunc,.string ⟨#[]⟩,.nilFunc,.string ⟨#[]⟩,.nilFunc,.string ⟨#[]⟩,.nilFunc,.string ⟨#[]⟩,.nilFunc,.string ⟨#[]⟩,.nilFunc,.string ⟨#[]⟩,.nilFunc]

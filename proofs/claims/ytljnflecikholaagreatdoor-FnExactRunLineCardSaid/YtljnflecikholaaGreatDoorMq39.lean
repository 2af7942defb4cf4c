import Derived.Test.YtljnflecikholaaGreatDoorMq34
import Derived.Test.YtljnflecikholaaGreatDoorMq38
set_option linter.all false
set_option maxRecDepth 100000
set_option maxHeartbeats 8000000
namespace Go.Proofs.YtljnflecikholaaGreatDoor
open Go Go.RowKit Go.Proofs.Tryz
def Mq(a:qS):Prop:=a.cell? (qP 0 0)=some (.iface 176 (.agg #[qO 2 68]))
def BM(i:SS)(j k l m:Int)(n:qV)(o p q:Int)(r:qV)(s:List Mk)(t:SS):Prop:=∀(a)(c b)(h)(d)(e f),SM a c b h i->(∀g,qY a g->Rd .u8 g (qM d e f) n)->
 Calls prog 35 #[qO b 0,.agg (yp j k l m (qM d e f))] a (zBl a c b o p q r s t)
def BE(k:SS)(l m n o:Int)(p:qV)(q r s:Int)(t:qV)(u:List Mk)(v:SS):Prop:=∀(d)(a)(e)(b f)(j)(g)(h i),EX d a e b f j k->(∀c,qY a c->Rd .u8 c (qM g h i) p/\W9 c)->Mq a->
 Calls prog 50 #[qO b 0,.agg (yp l m n o (qM g h i))] a (SX d a e b f q r s t u v)
section
variable {k:Nat} {M M':SS} {kd b0 b1 b2:Int} {bs:List Int} {x1 x2:Int} {T:List Int} {ms:List Mk} {ec:Int}
def Iv.hx(a:Iv k M):M.tx.length<=8192/\M.un.length<=1000000/\M.re.length<=1000000:=by
 have:=a.doc.tl;have:=a.doc.nl;have:=a.cp;omega
def Mr{zs line col}(a:0<=Zd zs line col):0<=line/\line<=js zs:=by
 unfold Zd at a
 split at a
 ·omega
 omega
def jm{w W W2}(a:qY w W)(b:qY W W2):qY w W2:=a.trans (b.mono a.size)
def PF(i:FuncId)(j:SS)(k l m n:Int)(o:qV)(p q r:Int)(s:qV)(t:List Mk)(u:SS):Prop:=∀(a)(b c)(h)(d)(e f),SM a b c h j->(∀g,qY a g->Rd .u8 g (qM d e f) o)->A7 i a b c k l m n (qM d e f) p q r s t u
def bm(c:Iv k M')(o:PF 67 M kd b0 b1 b2 bs 0 x1 x2 T ms M'):BM M kd b0 b1 b2 bs 0 x1 x2 T ms M':=λp d e f g h i a j=>step7 kd a (λl b=>o l d e f g h i (a.below b) (λm n=>j m (jm b n))) c.hx.1 c.hx.2
def WZ(c:Iv k M)(o:¬ec=0)(p:PF 67 M kd b0 b1 b2 bs ec 0 0 [] [] M):BM M kd b0 b1 b2 bs ec 0 0 [] [] M:=λq d e f g h i a j=>stepN7 ec kd o a (λl b=>p l d e f g h i (a.below b) (λm n=>j m (jm b n))) c.hx.1 c.hx.2
def Ff(m:kd=1\/kd=2\/kd=3\/kd=4\/kd=5\/kd=16)(n:PF 86 M kd b0 b1 b2 bs ec x1 x2 T ms M'):PF 67 M kd b0 b1 b2 bs ec x1 x2 T ms M':=λo c d e f g h a i=>actT7 kd m a (λj b=>n j c d e f g h (a.below b) (λk l=>i k (jm b l)))
def amM(m:kd=6\/kd=7\/kd=8)(n:PF 87 M kd b0 b1 b2 bs ec x1 x2 T ms M'):PF 67 M kd b0 b1 b2 bs ec x1 x2 T ms M':=λo c d e f g h a i=>actM7 kd m a (λj b=>n j c d e f g h (a.below b) (λk l=>i k (jm b l)))
def Ms(m:kd=9\/kd=10\/kd=11\/kd=12)(n:PF 88 M kd b0 b1 b2 bs ec x1 x2 T ms M'):PF 67 M kd b0 b1 b2 bs ec x1 x2 T ms M':=λo c d e f g h a i=>actP7 kd m a (λj b=>n j c d e f g h (a.below b) (λk l=>i k (jm b l)))
def amS(m:kd=13\/kd=14)(n:PF 89 M kd b0 b1 b2 bs ec x1 x2 T ms M'):PF 67 M kd b0 b1 b2 bs ec x1 x2 T ms M':=λo c d e f g h a i=>actS7 kd m a (λj b=>n j c d e f g h (a.below b) (λk l=>i k (jm b l)))
def AnsE(k:FuncId)(l:SS)(m n o p:Int)(q:qV)(r s:Int)(t:qV)(u:List Mk)(v:SS):Prop:=∀(c)(a)(d)(e f)(j)(g)(h i),EX c a d e f j l->(∀b,qY a b->Rd .u8 b (qM g h i) q/\W9 b)->AX c k a d e f m n o p (qM g h i) 0 r s t u v
def RefE(k:FuncId)(l:SS)(m n o p:Int)(q:qV)(r:qT):Prop:=∀(g)(a)(h)(c i)(j)(d)(e f),EX g a h c i j l->(∀b,qY a b->Rd .u8 b (qM d e f) q/\W9 b)->BX k a c m n o p (qM d e f) r
def be{ws f}(q:PE kd ws f)(r:AnsE f M kd b0 b1 b2 bs x1 x2 T ms M'):BE M kd b0 b1 b2 bs 0 x1 x2 T ms M':=λd s e g h i j k l a m _=>step9 a (λt b=>answer9 q (a.below b) (λn c=>r d n e g h i j k l (a.below (jm b c)) (λo p=>m o (jm (jm b c) p))))
def Mq.to{w W}(a:Mq w)(b:qY w W):Mq W:=(b.cell (vQ w _ a)).trans a
def UI{ws f}(s:PE kd ws f)(t:RefE f M kd b0 b1 b2 bs (.iface 109 (qC ec))):BE M kd b0 b1 b2 bs ec 0 0 [] [] M:=λe u g h i j k l m b n o=>IS b (λc a=>Fy ws ec c (o.to a)) (λc a=>Fd s (b.below a) (λp d=>t e p g h i j k l m (b.below (jm a d)) (λq r=>n q (jm (jm a d) r))))
def beW{ws msg f}(s:PE kd ws f)(t:RefE f M kd b0 b1 b2 bs (.iface 131 (.agg #[.string msg,.iface 109 (qC ec)]))):BE M kd b0 b1 b2 bs ec 0 0 [] [] M:=λe u g h i j k l m b n o=>IS b (λc a=>codeOf2 ws msg ec c (o.to a)) (λc a=>Fd s (b.below a) (λp d=>t e p g h i j k l m (b.below (jm a d)) (λq r=>n q (jm (jm a d) r))))
def Yh:PE 1 ⟨#[73,110,115,101,114,116]⟩ 110:=⟨zn 1 _ _ qF rfl rfl,Go.Proofs.enters_of func110 qI rfl⟩
def WD:PE 2 ⟨#[68,101,108,101,116,101]⟩ 111:=⟨zn 2 _ _ qF rfl rfl,Go.Proofs.enters_of func111 qI rfl⟩
def Hn:PE 3 ⟨#[83,108,105,99,101]⟩ 112:=⟨zn 3 _ _ qF rfl rfl,Go.Proofs.enters_of func112 qI rfl⟩
def Ho:PE 4 ⟨#[76,105,110,101,67,111,108]⟩ 113:=⟨zn 4 _ _ qF rfl rfl,Go.Proofs.enters_of func113 qI rfl⟩
def UJ:PE 5 ⟨#[79,102,102,115,101,116]⟩ 114:=⟨zn 5 _ _ qF rfl rfl,Go.Proofs.enters_of func114 qI rfl⟩
def Ov:PE 6 ⟨#[77,97,114,107]⟩ 115:=⟨zn 6 _ _ qF rfl rfl,Go.Proofs.enters_of func115 qI rfl⟩
def Ow:PE 7 ⟨#[68,114,111,112]⟩ 116:=⟨zn 7 _ _ qF rfl rfl,Go.Proofs.enters_of func116 qI rfl⟩
def Ox:PE 8 ⟨#[76,111,111,107]⟩ 117:=⟨zn 8 _ _ qF rfl rfl,Go.Proofs.enters_of func117 qI rfl⟩
def Wq:PE 9 ⟨#[85,110,100,111]⟩ 118:=⟨zn 9 _ _ qF rfl rfl,Go.Proofs.enters_of func118 qI rfl⟩
def Wr:PE 10 ⟨#[82,101,100,111]⟩ 119:=⟨zn 10 _ _ qF rfl rfl,Go.Proofs.enters_of func119 qI rfl⟩
def Fg:PE 11 ⟨#[66,101,103,105,110]⟩ 120:=⟨zn 11 _ _ qF rfl rfl,Go.Proofs.enters_of func120 qI rfl⟩
def IU:PE 12 ⟨#[69,110,100]⟩ 121:=⟨zn 12 _ _ qF rfl rfl,Go.Proofs.enters_of func121 qI rfl⟩
def Uo:PE 13 ⟨#[83,110,97,112]⟩ 122:=⟨zn 13 _ _ qF rfl rfl,Go.Proofs.enters_of func122 qI rfl⟩
def Ws:PE 14 ⟨#[66,97,99,107]⟩ 123:=⟨zn 14 _ _ qF rfl rfl,Go.Proofs.enters_of func123 qI rfl⟩
def aerMove:PE 15 ⟨#[77,111,118,101]⟩ 124:=⟨zn 15 _ _ qF rfl rfl,Go.Proofs.enters_of func124 qI rfl⟩
def Oy:PE 16 ⟨#[68,117,109,112]⟩ 125:=⟨zn 16 _ _ qF rfl rfl,Go.Proofs.enters_of func125 qI rfl⟩
def spF{n}(b)(a:List SR):M.sp+(([]:qV).length+([]:List Mk).length)<=(a.foldl (WQ b) {M with sp:=M.sp+n}).sp:=by
 rw[(Js b a _).1];simp
def Bo(g:Nat)(a:SS)(b c d e:Int)(f:qV):Prop:=∃ec x1 x2 T ms M',Iv (g+1) M'/\a.sp+(T.length+ms.length)<=M'.sp/\BM a b c d e f ec x1 x2 T ms M'/\BE a b c d e f ec x1 x2 T ms M'
def zAj(c:Iv k M)(H:k<10000)(j:bytes bs)(l:bs.length<=1048576):Bo k M 1 b0 b1 b2 bs:=by
 have C:=c.ll;have D:=c.gr;have y:=c.doc.mv;have E:=c.doc.nl;have F:=c.cp;have ht:=c.doc.tl;have r:=c.sp;by_cases A:0<=b0/\b0<=M.tx.length
 ·obtain⟨m,rfl⟩:∃m:Nat,b0=m:=⟨b0.toNat,qF⟩
  have e:m<=M.tx.length:=qF;have G:=YN bs;by_cases o:ye bs= []
  ·exact⟨0,_,_,_,_,_,c.next,lR,bm c.next (Ff qF (λf s t d g h i a b=>insE7 m bs a b j l e o)),be Yh (λu f v w x d g h i a b=>insE9 a b j l e o r)⟩
  have n:=kK.2 o;by_cases p:M.tx.length+(ye bs).length<=8192
  ·by_cases q:M.sp+(ye bs).length<=200000
   ·have z:=(c.paid q).ed (.inl ⟨rfl,n,e,p⟩)
    exact⟨0,_,_,_,_,_,z,Nat.le_add_right _ _,bm z (Ff qF (λf s t d g h i a b=>ins7 m bs a b j l e n p r q (by have:=y.1.1;omega) (λd B=>by have:=y.off B;omega) qF qF)),be Yh (λu f v w x d g h i a b=>ins9 a b j l e n p q y.1 qF qF qF)⟩
   exact⟨_,0,0,[],[],M,c.next,lR,WZ c qG (Ff qF (λf s t d g h i a b=>insG7 m bs a b j l e n p r q)),UI Yh (λu f v w x d g h i a b=>insG9 a b j l e p r q)⟩
  exact⟨_,0,0,[],[],M,c.next,lR,WZ c qG (Ff qF (λf s t d g h i a b=>insF7 m bs a b j l e n ht qF qF)),UI Yh (λu f v w x d g h i a b=>insF9 a b j l e qF)⟩
 refine⟨_,0,0,[],[],M,c.next,lR,WZ c qG (Ff qF (λf s t d g h i a b=>?_)),UI Yh (λu f v w x d g h i a b=>insB9 a b j l A)⟩;by_cases o:b0<0
 ·exact insN7 a o
 exact insP7 a qF
def zAk(b:Iv k M)(E:k<10000):Bo k M 2 b0 b1 b2 bs:=by
 have A:=b.ll;have B:=b.gr;have l:=b.doc.mv;have C:=b.doc.nl;have D:=b.cp;have ht:=b.doc.tl;by_cases x:(0<=b1/\b1<=M.tx.length)/\(0<=b0/\b0<=b1)
 ·obtain⟨j,rfl⟩:∃n:Nat,b0=n:=⟨b0.toNat,qF⟩
  obtain⟨c,rfl⟩:∃n:Nat,b1=n:=⟨b1.toNat,qF⟩
  by_cases m:c=j
  ·subst m
   exact⟨0,_,_,_,_,_,b.next,lR,bm b.next (Ff qF (λe q r d f g h a i=>del0 c c a qF rfl)),be WD (λs e t u v d f g h a i=>delE9 a qF)⟩
  obtain⟨o,w⟩:∃o,c=j+o:=⟨c-j,qF⟩
  have p:Iv _ (Fo M j c []):=b.ed (.inr ⟨qF,qF,rfl⟩);exact⟨0,_,_,_,_,_,p,lR,bm p (Ff qF (λe q r d f g h a i=>del7 j c o a qF w qF ht (by have:=l.1.1;omega) (λd z=>by have:=l.off z;omega) qF qF)),be WD (λs e t u v d f g h a i=>del9 a w qF qF l.1 qF qF qF)⟩
 refine⟨_,0,0,[],[],M,b.next,lR,WZ b qG (Ff qF (λe q r d f g h a i=>?_)),UI WD (λs e t u v d f g h a i=>delB9 a x)⟩;by_cases m:b0<0
 ·exact delN7 a m
 by_cases y:b1<b0
 ·exact delQ7 a qF y
 exact delP7 a qF qF qF
def boSlice(c:Iv k M)(A:k<10000):Bo k M 3 b0 b1 b2 bs:=by
 have z:=c.ll;have ht:=c.doc.tl;have o:=c.sp;by_cases x:(0<=b1/\b1<=M.tx.length)/\(0<=b0/\b0<=b1)
 ·obtain⟨b,rfl⟩:∃p:Nat,b0=p:=⟨b0.toNat,qF⟩
  obtain⟨m,rfl⟩:∃p:Nat,b1=p:=⟨b1.toNat,qF⟩
  obtain⟨e,n⟩:∃e,m=b+e:=⟨m-b,qF⟩
  by_cases d:M.sp+e<=200000
  ·have q:Iv _ {M with sp:=M.sp+e,lg:=M.lg++ [⟨4,b,0,[]⟩]}:=(c.paid d).see (show b<=M.tx.length by omega)
   exact⟨0,_,_,_,_,_,q,(by have:=List.length_take_le (m-b) (M.tx.drop b);show M.sp+(((M.tx.drop b).take _).length+0)<=M.sp+e;omega),bm q (Ff qF (λf r s g h i j a l=>sli7 b m e a qF n ht o d qF)),be Hn (λt f u v w g h i j a l=>sli9 a n qF d)⟩
  exact⟨_,0,0,[],[],M,c.next,lR,WZ c qG (Ff qF (λf r s g h i j a l=>sliF7 b m e a qF n ht o d)),UI Hn (λt f u v w g h i j a l=>sliF9 a n qF o d)⟩
 refine⟨_,0,0,[],[],M,c.next,lR,WZ c qG (Ff qF (λf r s g h i j a l=>?_)),UI Hn (λt f u v w g h i j a l=>sliB9 a x)⟩;by_cases d:b0<0
 ·exact sliN7 a d
 by_cases y:b1<b0
 ·exact sliQ7 a qF y
 exact sliP7 a qF qF qF
def Mu(b:Iv k M)(u:k<10000):Bo k M 4 b0 b1 b2 bs:=by
 have t:=b.ll;have ht:=b.doc.tl;by_cases l:0<=b0/\b0<=M.tx.length
 ·obtain⟨d,rfl⟩:∃d:Nat,b0=d:=⟨b0.toNat,qF⟩
  have c:d<=M.tx.length:=qF;exact⟨0,_,_,_,_,_,b.see c,lR,bm (b.see c) (Ff qF (λe n o f g h i a j=>lc7 d a c ht qF)),be Ho (λp e q r s f g h i a j=>lc9 a c)⟩
 refine⟨_,0,0,[],[],M,b.next,lR,WZ b qG (Ff qF (λe n o f g h i a j=>?_)),beW Ho (λp e q r s f g h i a j=>lcB9 a l)⟩;by_cases m:b0<0
 ·exact lcN7 a m
 exact lcP7 a qF
def zAl(b:Iv k M)(w:k<10000):Bo k M 5 b0 b1 b2 bs:=by
 have v:=b.ll;have ht:=b.doc.tl;by_cases n:0<=Zd M.tx b0 b1
 ·have l:=Mr n
  obtain⟨j,rfl⟩:∃o:Nat,b0=o:=⟨b0.toNat,qF⟩
  obtain⟨c,m⟩:∃c:Nat,Zd M.tx j b1=c:=⟨(Zd M.tx j b1).toNat,qF⟩
  exact⟨0,_,_,_,_,_,b.kno l.2,lR,bm (b.kno l.2) (Ff qF (λd p q e f g h a i=>off7 j c a ht m qF)),be UJ (λr d s t u e f g h a i=>off9 a m)⟩
 exact⟨_,0,0,[],[],M,b.next,lR,WZ b qG (Ff qF (λd p q e f g h a i=>offN7 a ht _ rfl qF)),beW UJ (λr d s t u e f g h a i=>offB9 a qF)⟩
def boMark(d:Iv k M)(s:k<10000):Bo k M 6 b0 b1 b2 bs:=by
 have a:=d.doc.mv;have ht:=d.doc.tl;by_cases c:WR M.ms (b0,b1,b2) M.tx.length=0
 ·have l:=d.marks (a.set ht c)
  exact⟨0,_,_,_,_,_,l,lR,bm l (amM qF (λe m n f g h i b j=>mark7 b a.1 (by have:=a.1.1;omega) ht c)),be Ov (λo e p q r f g h i b j=>mark9 b a.1 c)⟩
 exact⟨_,0,0,[],[],M,d.next,lR,WZ d c (amM qF (λe m n f g h i b j=>markN7 _ b a.1 (by have:=a.1.1;omega) ht rfl c)),beW Ov (λo e p q r f g h i b j=>markB9 b a.1 rfl c)⟩
def boDrop(f:Iv k M)(x:k<10000):Bo k M 7 b0 b1 b2 bs:=by
 have b:=f.doc.mv;cases h1:yN _ b0 with
 | true=>
  obtain⟨y,u,v,w,z⟩:=IP h1;have l:=f.marks (b.cut (j:=Hv M.ms b0));exact⟨0,_,_,_,_,_,l,lR,bm l (amM qF (λg o p h c d e a i=>drop7 _ _ a (by have:=b.1.1;omega) u v)),be Ow (λq g r s t h c d e a i=>(by have m:=drop9 (b1:=b1) (b2:=b2) (ta:=c) (tl:=d) (tq:=e) a b.1 h1;rw[w]at m;exact m))⟩
 | false=>
  have n:=Xn b0 _ 0 ((ZW _ b0).1 h1);exact⟨_,0,0,[],[],M,f.next,lR,WZ f qG (amM qF (λg o p h c d e a i=>dropN7 a (by have:=b.1.1;omega) n)),beW Ow (λq g r s t h c d e a i=>dropB9 a b.1 h1)⟩
def boLook(f:Iv k M)(w:k<10000):Bo k M 8 b0 b1 b2 bs:=by
 have e:=f.doc.mv;cases h1:yN _ b0 with
 | true=>
  obtain⟨x,t,u,v,y⟩:=IP h1;have j:=f.next;exact⟨0,_,_,_,_,_,j,lR,bm j (amM qF (λg n o h b c d a i=>look7 _ _ a (by have:=e.1.1;omega) t u)),be Ox (λp g q r s h b c d a i=>(by have l:=look9 (b1:=b1) (b2:=b2) (ta:=b) (tl:=c) (tq:=d) a e.1 h1;rw[v]at l;exact l))⟩
 | false=>
  have m:=Xn b0 _ 0 ((ZW _ b0).1 h1);exact⟨_,0,0,[],[],M,f.next,lR,WZ f qG (amM qF (λg n o h b c d a i=>lookN7 a (by have:=e.1.1;omega) m)),beW Ox (λp g q r s h b c d a i=>lookB9 a e.1 h1)⟩
def boUndo(c:Iv k M)(K:k<10000):Bo k M 9 b0 b1 b2 bs:=by
 have G:=c.ll;have D:=c.doc.mv;have H:=c.doc.nl;have I:=c.cp;have n:=c.sp;cases ho:M.op with
 | true=>exact⟨_,0,0,[],[],M,c.next,lR,WZ c qG (Ms qF (λg p q h i j l b a=>undoO7 b ho)),UI Wq (λr g s t u h i j l b a=>undoO9 b ho)⟩
 | false=>
  rcases List.eq_nil_or_concat M.un with e | ⟨w,f,e⟩
  ·exact⟨_,0,0,[],[],M,c.next,lR,WZ c qG (Ms qF (λg p q h i j l b a=>undoE7 b ho e)),UI Wq (λr g s t u h i j l b a=>undoE9 b ho e)⟩
  rw[List.concat_eq_append]at e;have x:f∈M.un\/f∈M.re:=.inl (by rw[e];simp);have E:=c.doc.gl f x;have y:=c.gn x ho;have J:M.un.length=w.length+1:=(by rw[e];simp);have o:∀d∈f,d.n<=8192:=λd a=>by have z:=y d a;have:=z.on;have:=z.lb;omega
  have A:∀d∈f,(YG d).length=d.n/\d.n<=8192:=λd a=>⟨(y d a).rl,o d a⟩
  by_cases m:M.sp+j5 true f<=200000
  ·obtain⟨u1,u2,L,F⟩:=c.undoT ho e
   have B:=F.undoOk (M:={M with sp:=M.sp+j5 true f}) rfl D;have C:=c.undo qF ho e m;exact⟨0,_,_,_,_,_,C,(spF true _),bm C (Ms qF (λg p q h i j l b a=>undo7 w f b ho e o qF E.1 n m qF qF (λv d a=>(B v d a).2))),be Wq (λr g s t u h i j l b a=>undo9 b ho e qF qF A m (λv d a=>(B v d a).1))⟩
  exact⟨_,0,0,[],[],M,c.next,lR,WZ c qG (Ms qF (λg p q h i j l b a=>undoF7 w f b ho e o qF n m)),UI Wq (λr g s t u h i j l b a=>undoF9 b ho e qF qF A n qF)⟩
def boRedo(c:Iv k M)(L:k<10000):Bo k M 10 b0 b1 b2 bs:=by
 have H:=c.ll;have E:=c.doc.mv;have I:=c.doc.nl;have J:=c.cp;have n:=c.sp;cases ho:M.op with
 | true=>exact⟨_,0,0,[],[],M,c.next,lR,WZ c qG (Ms qF (λg p q h i j l b a=>redoO7 b ho)),UI Wr (λr g s t u h i j l b a=>redoO9 b ho)⟩
 | false=>
  rcases List.eq_nil_or_concat M.re with e | ⟨w,f,e⟩
  ·exact⟨_,0,0,[],[],M,c.next,lR,WZ c qG (Ms qF (λg p q h i j l b a=>redoE7 b ho e)),UI Wr (λr g s t u h i j l b a=>redoE9 b ho e)⟩
  rw[List.concat_eq_append]at e;have x:f∈M.un\/f∈M.re:=.inr (by rw[e];simp);have y:=c.doc.gl f x;have z:=c.gn x ho;have K:M.re.length=w.length+1:=(by rw[e];simp);have o:∀d∈f,d.n<=8192:=λd a=>by have A:=z d a;have:=A.on;have:=A.lb;omega
  have B:∀d∈f,(YG d).length=d.n/\d.n<=8192:=λd a=>⟨(z d a).rl,o d a⟩
  by_cases m:M.sp+j5 false f<=200000
  ·obtain⟨u1,u2,F,N⟩:=c.redoT e
   have C:=F.redoOk (M:={M with sp:=M.sp+j5 false f}) rfl E;obtain⟨D,G⟩:=c.redo qF ho e m;refine⟨0,_,_,_,_,_,D,(spF false _),bm D (Ms qF (λg p q h i j l b a=>?_)),be Wr (λr g s t u h i j l b a=>redo9 b ho e qF qF y.1 B m (λv d a=>(C v d a).1))⟩;rw[G];exact redo7 w f b ho e o qF y.1 n m qF qF (λv d a=>(C v d a).2)
  exact⟨_,0,0,[],[],M,c.next,lR,WZ c qG (Ms qF (λg p q h i j l b a=>redoF7 w f b ho e o qF n m qF)),UI Wr (λr g s t u h i j l b a=>redoF9 b ho e qF qF B n qF)⟩
def boBegin(b:Iv k M)(p:k<10000):Bo k M 11 b0 b1 b2 bs:=by
 cases ho:M.op with
 | true=>exact⟨_,0,0,[],[],M,b.next,lR,WZ b qG (Ms qF (λc i j d e f g a h=>beginN7 a ho)),UI Fg (λl c m n o d e f g a h=>beginB9 a ho)⟩
 | false=>exact⟨0,_,_,_,_,_,b.begin ho,lR,bm (b.begin ho) (Ms qF (λc i j d e f g a h=>begin7 a ho)),be Fg (λl c m n o d e f g a h=>begin9 a ho)⟩
def boEnd(b:Iv k M)(u:k<10000):Bo k M 12 b0 b1 b2 bs:=by
 have r:=b.gr;have s:=b.doc.nl;have t:=b.cp;cases ho:M.op with
 | false=>exact⟨_,0,0,[],[],M,b.next,lR,WZ b qG (Ms qF (λd l m e f g h a i=>endN7 a ho)),UI IU (λn d o p q e f g h a i=>endB9 a ho)⟩
 | true=>
  by_cases c:M.gr= []
  ·exact⟨0,_,_,_,_,_,b.endE ho c,lR,bm (b.endE ho c) (Ms qF (λd l m e f g h a i=>endE7 a ho c)),be IU (λn d o p q e f g h a i=>endE9 a ho c)⟩
  have j:=kK.2 c;exact⟨0,_,_,_,_,_,b.end ho j,lR,bm (b.end ho j) (Ms qF (λd l m e f g h a i=>end7 _ a ho j rfl qF)),be IU (λn d o p q e f g h a i=>end9 a ho j rfl qF qF)⟩
def boSnap(b:Iv k M)(v:k<10000):Bo k M 13 b0 b1 b2 bs:=by
 have t:=b.doc.nl;have u:=b.cp;cases ho:M.op with
 | true=>exact⟨_,0,0,[],[],M,b.next,lR,WZ b qG (amS qF (λc i j d e f g a h=>snapO7 a ho)),UI Uo (λl c m n o d e f g a h=>snapO9 a ho)⟩
 | false=>
  by_cases p:0<=b0/\b0<=7
  ·obtain⟨s,rfl⟩:∃r:Nat,b0=r:=⟨b0.toNat,qF⟩
   exact⟨0,_,_,_,_,_,b.snap ho,lR,bm (b.snap ho) (amS qF (λc i j d e f g a h=>snap7 s a ho qF)),be Uo (λl c m n o d e f g a h=>snap9 a ho qF qF)⟩
  refine⟨_,0,0,[],[],M,b.next,lR,WZ b qG (amS qF (λc i j d e f g a h=>?_)),UI Uo (λl c m n o d e f g a h=>snapB9 a ho p)⟩;by_cases q:b0<0
  ·exact snapN7 a ho q
  exact snapP7 a ho qF
def boBack(b:Iv k M)(z:k<10000):Bo k M 14 b0 b1 b2 bs:=by
 have x:=b.ll;have y:=b.cp;cases ho:M.op with
 | true=>exact⟨_,0,0,[],[],M,b.next,lR,WZ b qG (amS qF (λd l m e f g h a i=>backO7 a ho)),UI Ws (λn d o p q e f g h a i=>backO9 a ho)⟩
 | false=>
  by_cases t:0<=b0/\b0<=7
  ·obtain⟨j,rfl⟩:∃w:Nat,b0=w:=⟨b0.toNat,qF⟩
   have c:M.sl[j]?=some (M.sl[j]'(by have:=b.sl.1;omega)):=xw _;generalize M.sl[j]'_=v at c;cases v with
   | none=>exact⟨_,0,0,[],[],M,b.next,lR,WZ b qG (amS qF (λd l m e f g h a i=>backE7 j a ho qF c)),UI Ws (λn d o p q e f g h a i=>backE9 a ho qF c)⟩
   | some s=>
    have r:=b.sl.2 j s c;have:=r.nl;exact⟨0,_,_,_,_,_,b.back ho c,lR,bm (b.back ho c) (amS qF (λd l m e f g h a i=>back7 j s a ho qF c qF qF)),be Ws (λn d o p q e f g h a i=>back9 a ho qF c qF r.tl)⟩
  refine⟨_,0,0,[],[],M,b.next,lR,WZ b qG (amS qF (λd l m e f g h a i=>?_)),UI Ws (λn d o p q e f g h a i=>backB9 a ho t)⟩;by_cases u:b0<0
  ·exact backN7 a ho u
  exact backP7 a ho qF
def boMove(b:Iv k M)(p:k<10000):Bo k M 15 b0 b1 b2 bs:=by
 exact⟨0,_,_,_,_,_,b.next,lR,bm b.next (λc i j d e f g a h=>actMv7 a),be aerMove (λl c m n o d e f g a h=>move9 a)⟩
def boDump(b:Iv k M)(t:k<10000):Bo k M 16 b0 b1 b2 bs:=by
 have d:=b.doc.mv;have ht:=b.doc.tl;have e:=b.sp;have s:=d.1.1;by_cases c:M.sp+(M.tx.length+M.ms.length)<=200000
 ·exact⟨0,_,_,_,_,_,(b.paid c).next,lR,bm (b.paid c).next (Ff qF (λf m n g h i j a l=>dump7 a ht qF e c)),be Oy (λo f p q r g h i j a l=>dump9 a d.1 c)⟩
 exact⟨_,0,0,[],[],M,b.next,lR,WZ b qG (Ff qF (λf m n g h i j a l=>dumpF7 a ht qF e c)),UI Oy (λo f p q r g h i j a l=>dumpF9 a d.1 e c)⟩
def bo(b:Iv k M)(c:k<10000)(p:bytes bs)(q:bs.length<=1048576):Bo k M kd b0 b1 b2 bs:=by
 by_cases r:1<=kd/\kd<=16
 ·obtain⟨a,rfl⟩:∃a:Nat,kd=a:=⟨kd.toNat,qF⟩
  have d:a=1\/a=2\/a=3\/a=4\/a=5\/a=6\/a=7\/a=8\/a=9\/a=10\/a=11\/a=12\/a=13\/a=14\/a=15\/a=16:=qF;rcases d with rfl | rfl | rfl | rfl | rfl | rfl | rfl | rfl | rfl | rfl | rfl | rfl | rfl | rfl | rfl | rfl
  ·exact zAj b c p q
  ·exact zAk b c
  ·exact boSlice b c
  ·exact Mu b c
  ·exact zAl b c
  ·exact boMark b c
  ·exact boDrop b c
  ·exact boLook b c
  ·exact boUndo b c
  ·exact boRedo b c
  ·exact boBegin b c
  ·exact boEnd b c
  ·exact boSnap b c
  ·exact boBack b c
  ·exact boMove b c
  exact boDump b c
 have d:kd<1\/16<kd:=qF
 exact⟨_,0,0,[],[],M,b.next,lR,WZ b qG (λh s t i j l m e n=>actK7 kd d e),λu h v w x i j l m e n o=>IS e (λg f=>Fy zBw 13 g (o.to f)) (λg f=>zAe d (e.below f))⟩
end
def told(b:List Rs):Nat:=(b.map λa=>a.T.length+a.ms.length).sum
structure Mv(M0:SS)(os:List XP)(a:List Rs):Prop where
 len:os.length=a.length
 st:∀k o r,os[k]?=some o->a[k]?=some r->BM (Mt M0 a k) o.k o.a o.b o.c (Xj o.t) r.ec r.x1 r.x2 r.T r.ms r.M/\BE (Mt M0 a k) o.k o.a o.b o.c (Xj o.t) r.ec r.x1 r.x2 r.T r.ms r.M
 iv:∀k,k<=os.length->Iv k (Mt M0 a k)
 sz:told a<=(Mt M0 a os.length).sp
def bts_by(l):bytes (Xj l):=λc a=>by
 unfold Xj at a;obtain⟨b,_,rfl⟩:=Qt.1 a;have:=b.toNat_lt;omega
def PH{α:Type}{xs}{d c:α}{i}(a:(xs++ [d])[i]?=some c):xs[i]?=some c/\i<xs.length\/i=xs.length/\c=d:=by
 rcases kU i xs.length with b | b | b
 ·left;rw[xW b]at a;exact⟨a,b⟩
 ·simp_all
 rw[vW qJ]at a;cases a
def Mv.ex{M0}(t:Iv 0 M0)(d:List XP)(D:d.length<=10000)(u:∀b∈d,b.t.length<=1048576):∀a,a<=d.length->∃f,Mv M0 (d.take a) f
 | 0,_=>⟨[],rfl,λc b A e=>by simp at e,λc h=>(show c=0 by simpa using h)▸t,xK _⟩
 | a+1,L=>by
  obtain⟨f,e⟩:=Mv.ex t d D u a qF;have j:(d.take a).length=a:=(by rw[xi];omega);have H:f.length=a:=(by rw[<- e.len];exact j);obtain⟨b,v⟩:∃b,d[a]?=some b:=⟨_,xw qF⟩
  have y:=e.iv a qF;obtain⟨k,l,m,n,o,i,E,J,F,G⟩:=bo (kd:=b.k) (b0:=b.a) (b1:=b.b) (b2:=b.c) y qF (bts_by b.t) (by rw[yi];exact u b (xH v));have g:d.take (a+1)=d.take a++ [b]:=(by rw[vH,v];rfl);have q:Mt M0 (f++ [⟨k,l,m,n,o,i⟩]) (a+1)=i:=U5 (r:=⟨k,l,m,n,o,i⟩) (by simp_all);refine⟨f++ [⟨k,l,m,n,o,i⟩],by rw[g];simp[e.len],λc B C r s=>?_,λc h=>?_,?_⟩
  ·rw[g]at r
   rcases PH r with ⟨w,K⟩ | ⟨w,rfl⟩
   ·rcases PH s with ⟨p,x⟩ | ⟨p,_⟩
    ·rw[Gi qF];exact e.st c B C w p
    omega
   rcases PH s with ⟨_,x⟩ | ⟨_,rfl⟩
   ·omega
   rw[Gi qF,show c=a by omega];exact⟨F,G⟩
  ·rw[g,xg]at h
   by_cases I:c<=a
   ·rw[Gi qF];exact e.iv c qF
   have:c=a+1:=(by simp at h;omega);subst this;rw[q];exact E
  have z:=e.sz;rw[j]at z;rw[g,xg,j]
  show told _<=(Mt M0 _ (a+1)).sp
  rw[q];unfold told at *;rw[vX,List.sum_append];simp;omega
def Mv.all{M0}(c:Iv 0 M0)(os)(d:os.length<=10000)(e:∀o∈os,o.t.length<=1048576):∃a,Mv M0 os a:=by
 obtain⟨a,b⟩:=Mv.ex c os d e os.length lR;rw[kX]at b;exact⟨a,b⟩
def capN(a:Int):Nat:=(min (max a 1) 1000).toNat
def Oz(hc):1<=capN hc/\capN hc<=1000:=by unfold capN;omega
def JH(a:Nat):SS:=⟨[],[],[],[],[],false,0,a,List.replicate 8 none,[]⟩
def ss0_iv(hc):Iv 0 (JH (capN hc)):=by
 refine⟨Oz hc,by simp[JH],⟨by simp[JH],⟨Vd.nil,by simp[JH]⟩,by simp[JH],λd b=>by simp[JH]at b,⟨[],rfl⟩,⟨[],rfl⟩⟩,lR,λc=>by simp[JH]at c,⟨by simp[JH],λe f a=>?_⟩,by simp[JH],LS.nil⟩;simp only[JH,Qd]at a
 split at a<;>cases a
def LH:∀{a:List Nat}{c},c∈a->c<=a.sum
 | d::a,c,b=>by
  rw[List.sum_cons];rcases kS.1 b with rfl | b
  ·omega
  have:=LH b;omega
def Mv.small{M0 os rs}(b:Mv M0 os rs)(h:os.length<=10000):Z8 (rs.map yu)<=210000/\∀a∈rs.map yu,a.t.length<=maxLen/\a.m.length<=maxLen:=by
 have f:=b.sz;have g:=(b.iv _ lR).sp
 have c:((rs.map yu).map zAy).sum=told rs:=by
  unfold told;rw[List.map_map];rfl
 refine⟨by unfold Z8;rw[c,xO,<- b.len];omega,λa e=>?_⟩;have d:zAy a<=told rs:=by rw[<- c];exact LH (List.mem_map_of_mem e)
 unfold zAy at d;unfold maxLen;omega
section
open Go.Sort Go.BigFrame
def Tryz.infoLK7:(prog.info? 207).map (λa=>(a.zero,a.size,a.bytes))=some (some (.agg #[.bool false,qN,qN,qN,qN]),5,104):=qI
def sm_new{w w1}{c:Nat}{xs}(e:1<=c/\c<=1000)(f:qY w w1)(g:w1.ownsRow w.heap.size 207 5 (qM (qD w.heap.size 0) 8 8) 8 xs)(h:∀b,b<8->(xs.drop (b*5)).take 5= [.bool false,qN,qN,qN,qN]):
  SM (w1.alloc (qR #[qN,qN,qN,qN,qN,.bool false,qC 0,qC c,qM (qD w.heap.size 0) 8 8,qN] 55)) w.heap.size w1.heap.size ⟨qN,qN,qN,qN,qN,qM (qD w.heap.size 0) 8 8,qN⟩ (JH c):=by
 refine⟨xI _ _,xR _ _ _ _,xR _ _ _ _,XH.nil,XH.nil,KZ.nil,⟨xs,g.alloc _,by simp[JH],λb i a=>?_⟩,⟨[],xR _ _ _ _,rfl⟩,f.size,e,xK _⟩;simp only[JH,Qd]at a
 split at a
 ·rename_i d
  simp at a;subst a;exact h b d
 cases a
def NewP(b:qS)(e:Nat)(f:Ending)(c:qS):Prop:=∃a d,f=qQ (qO a 0)/\SM c b.heap.size a d (JH e)/\qY b c
def new7(hc)(w):Calls prog 34 #[qC hc] w (NewP w (capN hc)):=by
 obtain⟨s,j,t,u,v⟩:=vw Tryz.infoLK7;obtain⟨b,f⟩:∃b,b=capN hc:=⟨_,rfl⟩
 have l:=zC f;have g:=zC (Oz hc);rw[<- f]at g |-;have m:hc<1\/(¬hc<1/\1000<hc)\/(¬hc<1/\¬1000<hc):=qF
 clear f;rcases m with k | ⟨k,x⟩ | ⟨k,x⟩
 all_goals
  go_enter func34,ntmps34;go_wp2_with (at_make;refine Qe _ rfl _ _ 52 rfl _ 207 s _ 5 underlying52 j t u _ _ _ _ 8 rfl rfl qF qF (by rw[v];omega) qK lR ?_;intro q h i);have e:=zC ((xe _ w).grown i lR (λz r=>by cases r));have n:=zC h;clear h i;go_ret;have o:=e.size
  have c:=sm_new g e n (λa j=>by
   have p:a=0\/a=1\/a=2\/a=3\/a=4\/a=5\/a=6\/a=7:=qF
   rcases p with rfl | rfl | rfl | rfl | rfl | rfl | rfl | rfl<;>simp[madeCells,Value.cells,List.range_succ])
  have d:=zC (e.trans ((bA (xe _ q) (qR #[qN,qN,qN,qN,qN,.bool false,qC 0,qC b,qM (qD w.heap.size 0) 8 8,qN] 55)).mono o));have y:b=min (max hc 1) 1000:=by rw[l.out];unfold capN;omega
  first | (rw[show(b:Int)=1 by omega]at c d;exact⟨_,_,rfl,c,d⟩) | (rw[show(b:Int)=1000 by omega]at c d;exact⟨_,_,rfl,c,d⟩) | (rw[show b=hc by omega]at c d;exact⟨_,_,rfl,c,d⟩)
def SM.grown{w w' B s x M v base n xs}(b:SM w B s x M)(p:w.ownsRow base 81 10 v n xs)(l:w.grownBy w' v.ownBlock):SM w' B s x M:=by
 have h:∀(a:Nat)(c:qX)(g:TypeId)(d:Nat×Nat),w.heap[a]?=some (qR c g d)->g≠81->w'.heap[a]? =w.heap[a]?:=λa c g d e ht=>l.block a (qZ.1 e).1 (λm=>by
  obtain⟨t,u,j⟩:=jr p m.symm;rw[e]at j;simp at j
  exact ht j.2.1)
 have f:KT w w':=⟨l.size,λa c g d e o=>h a c g d e o.2.2.2⟩
 obtain⟨y,q,_⟩:=b.sl;obtain⟨ls,r,_⟩:=b.lg;have k:=b.blk;unfold S7 at k;refine b.to f ((h s _ _ _ k qG).trans b.blk) ⟨rfl,rfl,rfl,rfl⟩ (λa i=>?_) (λa i=>?_) (b.tx.kt f) (b.ms.kt f) (b.un.kt f) (b.re.kt f) (b.gr.kt f) rfl b.ul
 ·obtain⟨c,d,e⟩:=jr q i;exact h a c _ d e qG
 obtain⟨c,d,e⟩:=jr r i;exact h a c _ d e qG
structure RunM(w0:qS)(d:Nat)(M0:SS)(a:List Rs)(k:Nat)(e:qT)(w:qS):Prop where
 ob:∃b c,Za w w0.heap.size w.heap.size e b c ((a.take k).map yu)
 st:∃x,SM w w0.heap.size d x (Mt M0 a k)
 bel:qY w0 w
def RunQ(c:qS)(d:SS)(e:List Rs)(f:Nat)(g:Ending)(h:qS):Prop:=∃a b,g=qQ (.tuple #[a,qO b 0])/\RunM c b d e f a h
def Za.next{w0 wr j f h:qS}{ov ov' vts vms xs o ua ma ul uk ml mk cells}(l:Za wr w0.heap.size wr.heap.size ov vts vms xs)(x:qY wr j)(L:wr.heap.size<=j.heap.size)(M:w0.heap.size<=wr.heap.size)
  (y:∀(a:Nat)(b)(d)(e),j.heap[a]?=some (qR b d e)->(d=21\/d=166\/d=81)->f.heap[a]? =j.heap[a]?) (ht:zT f j.heap.size (qM ua ul uk) o.t) (z:zS f j.heap.size (qM ma ml mk) o.m) (N:j.heap.size<=f.heap.size)
  (A:h.ownsRow w0.heap.size 81 10 ov' (xs.length+1) (jZ vts vms xs++Fk o (qM ua ul uk) (qM ma ml mk))) (B:(f.alloc (qR cells 81)).grownBy h ov.ownBlock):Za h w0.heap.size h.heap.size ov' (vts++ [qM ua ul uk]) (vms++ [qM ma ml mk]) (xs++ [o]):=by
 have G:∀a,ov.ownBlock=some a->∃b e,f.heap[a]?=some (qR b 81 e):=λa c=>by
  obtain⟨b,e,g⟩:=jr l.row c;have i:=(x.block a (l.row.lt a c).2).trans g;exact⟨b,e,(y a b _ e i (.inr (.inr rfl))).trans i⟩
 have r:∀{a:Nat}{b:qX}{d:TypeId}{e:Nat×Nat},f.heap[a]?=some (qR b d e)->d≠81->h.heap[a]? =f.heap[a]?:=λ{a b d e}g ht=>by
  have H:=(qZ.1 g).1;have i:(f.alloc (qR cells 81)).heap[a]? =f.heap[a]?:=kL _ _ _ H;rw[<- i];refine B.block a qJ (λI=>?_);obtain⟨O,P,k⟩:=G a I.symm;rw[g]at k;simp at k;exact ht k.2.1
 have s:∀{g:TypeId}{m:Nat}{p:qU}{b:List (qU)}{q:List Nat},yR g m wr w0.heap.size wr.heap.size p b q->(g=21\/g=166)->yR g m h w0.heap.size wr.heap.size p b q:=λ{g m p b q}hn he=>hn.keep (λn v a c=>by
  obtain⟨b,e,F⟩:=hn.ty v c;have i:=(x.block a (hn.bl n v a c)).trans F;have k:=(y a b _ e i (he.elim .inl (λl=>.inr (.inl l)))).trans i
  rw[r k (by rcases he with rfl | rfl<;>decide),k,F])
 have K:f.heap.size<=h.heap.size:=by have:=B.size;simp at this;omega
 have g1:∀{C:Nat}{d:TypeId}{m D:Nat}{n:qT}{E:qU},f.ownsRow C d m n D E->d≠81->h.ownsRow C d m n D E:=λw J=>zD w (λa c=>by obtain⟨b,e,g⟩:=jr w c;exact r g J)
 have t:zT h w0.heap.size (qM ua ul uk) o.t:=zF (g1 ht qG) qF;have u:zS h w0.heap.size (qM ma ml mk) o.m:=zF (g1 z qG) qF;exact Za.snoc (s l.nt (.inl rfl)) (s l.nm (.inr rfl)) A t u (λa c=>⟨by have:=(ht.lt a c).1;omega,(t.lt a c).2⟩) (λa c=>⟨by have:=(z.lt a c).1;omega,(u.lt a c).2⟩) qF (λa c=>(A.lt a c).2)
def run7(C)(v)(os)(vts)(rs)(hc)(w)(G:Km w C v os vts)(h:Mv (JH (capN hc)) os rs)(bt:os.length<=10000):
  Calls prog 14 #[v,qC hc] w (RunQ w (JH (capN hc)) rs os.length):=by
 obtain⟨bu,bv,bw,bx,bz⟩:=vw Tryz.infoOB;obtain⟨b0,az,rfl⟩:=zv G.o
 have an:os.length<=az/\az<=maxLen:=by
  rcases G.o.2 with ⟨e,b1⟩ | ⟨F,b2,b3,e,_,_,cg,ch,_⟩
  ·simp_all
  simp_all
 have S:=zC G;have a3:=zC h;have ao:=zC (new7 hc w);obtain⟨g,i⟩:∃g,g=os.length:=⟨_,rfl⟩
 have n:=zC i;have ap:=zC (show g=rs.length by rw[i];exact h.len);rw[<- i]at bt an |-;rw[<- i]at S;have a4:=an.2;unfold maxLen at a4;clear G h i;go_enter func14,ntmps14;go_wp2_with fail;refine ao.mono ?_;rintro e s ⟨ac,ad,rfl,a0,ae⟩;have A:=ae.size;have T:=zC (bA (xe s.heap.size s) (qR #[] 81));have U:=zC (show RunM w ac (JH (capN hc)) rs 0 (qM (qD s.heap.size 0) 0 0) (s.alloc (qR #[] 81))from⟨⟨[],[],kr s #[] 0 A (xK _) rfl,λj h=>by simp only[Value.ownBlock,xE]at h;simp;omega,yR.nil,yR.nil⟩,⟨ad,a0.below T⟩,ae.trans (T.mono A)⟩);clear a0 ae ao T;go_wp2_with fail;generalize s.alloc (qR #[] 81)=cc at *;go_loopw [7,15] (λbr k wr=>∃c:Nat,c<=g/\k=qC c/\RunM w ac (JH (capN hc)) rs c br wr) (λ_ k _=>g-(intOf k).toNat)
 case atStart=>exact⟨0,xK _,rfl,U⟩
 obtain⟨c,ci,rfl,l⟩:=hrel;have o:=zC (S.below l.bel);have aq:=l.bel.size;by_cases Y:c<g
 ·have a5:(c:Int)<g:=qF
  obtain⟨a,m⟩:∃a,os[c]?=some a:=⟨_,xw (by rw[<- n.out];exact Y)⟩
  obtain⟨b,af⟩:∃b,rs[c]?=some b:=⟨_,xw (by rw[<- ap.out];exact Y)⟩
  obtain⟨Z,p⟩:∃Z,vts[c]?=some Z:=⟨_,xw (by rw[<- S.out.hv,<- n.out];exact Y)⟩
  obtain⟨F,rfl⟩:∃F,b0=some (qP F 0):=by
   rcases o.out.o.2 with ⟨e,b1⟩ | ⟨F,b2,b3,e,_⟩
   ·simp_all
   simp_all
  have TX:=zC (o.tx c a Z m p);obtain⟨t,u,rfl⟩:=zv TX;have ar:=o.cellAt (f:=0) n.symm m p qF rfl;rw[kW]at ar;have a6:=o.cellAt (f:=1) n.symm m p qF rfl;have a7:=o.cellAt (f:=2) n.symm m p qF rfl;have a8:=o.cellAt (f:=3) n.symm m p qF rfl;have au:=o.cellAt (f:=4) n.symm m p qF rfl;obtain⟨x,ag⟩:∃d,d=(Xj a.t).length:=⟨_,rfl⟩
  rw[<- ag]at au TX;obtain⟨ad,ah⟩:=l.st;obtain⟨b4,b5,ai⟩:=l.ob;have q:=zC (bA (xe wr.heap.size wr) (qR #[qC a.k,qC a.a,qC a.b,qC a.c,qM t x u] 63))
  have B:=zC ((a3.st c a b m af).1 _ w.heap.size ac ad t x u (ah.below q) (λce bs=>by
   have D:=zE (zE TX q lR) bs lR;rw[<- ag]at D
   exact Rd.qa D))
  unfold zBl at B;obtain⟨H,aj⟩:∃d:Int,d=b.M.tx.length:=⟨_,rfl⟩
  obtain⟨I,i⟩:∃d:Int,d=js b.M.tx+1:=⟨_,rfl⟩
  obtain⟨J,ak⟩:∃d:Int,d=b.M.un.length:=⟨_,rfl⟩
  obtain⟨K,al⟩:∃d:Int,d=b.M.re.length:=⟨_,rfl⟩
  obtain⟨L,am⟩:∃d:Int,d=(if b.M.op then 1 else 0):=⟨_,rfl⟩
  rw[<- aj,<- i,<- ak,<- al,<- am]at B;have a9:=zC (show ∀aa ab,Fk (yu b) aa ab= [qC b.ec,qC b.x1,qC b.x2,aa,ab,qC H,qC I,qC J,qC K,qC L]from λaa ab=>by rw[aj,i,ak,al,am];rfl);have r:=zC (show(wr.alloc (qR #[qC a.k,qC a.a,qC a.b,qC a.c,qM t x u] 63)).heap[wr.heap.size]?=some (qR #[qC a.k,qC a.a,qC a.b,qC a.c,qM t x u] 63 (0,0))from xI _ _);have ba:wr.heap.size<(wr.alloc (qR #[qC a.k,qC a.a,qC a.b,qC a.c,qM t x u] 63)).heap.size:=qH;have bc:=zC ai;have HM:=zC (ah.below q);have E:=zC (zE ai.row q lR);have HR:=zC af;have av:=zC (show((rs.take c).map yu).length=c by rw[xO,xi,<- ap.out];omega);have bd:=zC l.bel;rw[av.out]at E;clear ah ai l m af p ag aj i ak al am TX U;go_upto_region 6 with fail;generalize wr.alloc (qR #[qC a.k,qC a.a,qC a.b,qC a.c,qM t x u] 63)=cd at *;have bf:=c8 0 r;have A:=c8 1 r;have bg:=c8 2 r;have z3:=c8 3 r;have bh:=c8 4 r;clear ar a6 a7 a8 au;go_wp2_with fail;refine B.mono ?_;rintro e M ⟨N,O,P,Q,R,mk,rfl,ht,a1,b6,a2,z⟩;have HT:=zC ht;have bi:=zC a1;have bj:=zC a2;have V:=zC z;have bk:=zC (zV M 81 [qC b.ec,qC b.x1,qC b.x2,qM N O P,qM Q R mk,qC H,qC I,qC J,qC K,qC L]);have aw:=zC (zD E (λj h=>by obtain⟨y,f,e⟩:=jr E h;exact z.ob j y f e));have ax:=zC (aw.alloc (qR #[qC b.ec,qC b.x1,qC b.x2,qM N O P,qM Q R mk,qC H,qC I,qC J,qC K,qC L] 81));have ay:=zC ((bd.trans (q.mono aq)).trans z.bl);have bl:=ay.size;have bn:=z.kt.1;have W:=zC (bA (xe M.heap.size M) (qR #[qC b.ec,qC b.x1,qC b.x2,qM N O P,qM Q R mk,qC H,qC I,qC J,qC K,qC L] 81));clear ht a1 a2 z B bf A bg z3 bh r E;go_wp2_with (at_builtin;refine wpList_append_lies _ rfl _ _ 24 rfl w.heap.size 81 bu (.agg #[qC 0,qC 0,qC 0,qN,qN,qC 0,qC 0,qC 0,qC 0,qC 0]) 10 112 underlying24 bv bw bx bz rfl qG u7 c _ rfl (ax) (qP M.heap.size 0) 1 1 _ rfl rfl bk (by simp[Value.oneCell']) qF qF qF qJ _ rfl ?_;intro b7 b8 b9 bq X ca cb);go_roundw
  case rel=>
   refine⟨c+1,qF,qL,⟨⟨b4++ [qM N O P],b5++ [qM Q R mk],?_⟩,?_,?_⟩⟩
   ·rw[show(rs.take (c+1)).map yu=(rs.take c).map yu++ [yu b]by rw[vH,HR.out,vX];rfl]
    refine Za.next bc q (kG ba) aq (λj y cf f e D=>?_) HT bi bn ?_ X
    ·rcases D with rfl | rfl | rfl
     ·exact V.kt.2 j y _ f e qG
     ·exact V.kt.2 j y _ f e qG
     exact V.ob j y f e
    rw[av.out,a9.out];exact bq
   ·rw[U5 HR.out]
    exact⟨b6,(bj.below W).grown ax X⟩
   exact(ay.trans (W.mono bl)).grown X (by have:=W.size;omega) (λj h=>(aw.lt j h).1)
  simp[intOf];omega
 have a5:¬ (c:Int)<g:=qF
 have bp:c=g:=qF
 subst bp;have HR:=zC l;clear l U;go_wp2;go_ret2;exact⟨_,_,rfl,HR⟩
abbrev jz(a b c:qT)(d:Int):qX:=#[a,b,c,qC d]
def srL{ops rest d a W Q b u v c ov vr vt}(e:W.heap[b]?=some (qR (jz qN qN qN 0) 30 (0,0)))(f:wpList prog ops Q rest (a.put d.dst undef) (W.setRow b (jz ov vr vt c)))
  (g:d.guard=none:=by rfl) (h:d.op= .store 30 u v:=by rfl) (i:a.eval u= .pointer (qD b 0):=by rfl) (j:a.eval v= .agg (jz ov vr vt c):=by rfl) (k:(jz ov vr vt c).all (·.oneCell')=true:=by simp[Value.oneCell']):wpList prog ops Q (d::rest) a W:=
 yM g 30 u v h b _ _ 30 i j e qI rfl k f
def zBb{fn R tmps}{a:qS}{q c ov vr vt cs f}(j:fn.results= #[.cell 4 30])(k:a.heap[q]?=some (qR cs 30 f))(l:tmps[4]?=some (qO q 0))(m:R (qQ (.agg (jz ov vr vt c))) (a.setRow q (jz ov vr vt c)))(o:ov.oneCell'=true/\vr.oneCell'=true/\vt.oneCell'=true):bodyPost prog fn R .ret {tmps:=tmps,defers:=[]} (a.setRow q (jz ov vr vt c)):=by
 have b:=kT a q _ (jz ov vr vt c) _ _ k;have d:=c8 0 b;have e:=c8 1 b;have g:=c8 2 b;have h:=c8 3 b;generalize a.setRow q _=n at *;exact vg (by simp[results,j,go_sem,l,d,e,g,h]) rfl m
def yR.upper{e size w lo hi hi' vs cs ns}(a:yR e size w lo hi vs cs ns)(g:hi<=hi'):yR e size w lo hi' vs cs ns:=⟨a.len,a.len2,a.own,λb c d f=>ve (a.bl b c d f) g,a.ne⟩
def yR.lower{e size w lo lo' hi vs cs ns}(a:yR e size w lo hi vs cs ns)(j:lo'<=lo):yR e size w lo' hi vs cs ns:=⟨a.len,a.len2,λb c d f g h i=>zF (a.own b c d f g h i) j,a.bl,a.ne⟩
def OkL(c:qV)(d:LE):Prop:=(∃b a,d=⟨1,b,0,a⟩/\b<=c.length/\0<a.length/\c.length+a.length<=8192)\/(∃f e,d=⟨2,f,e,[]⟩/\f<e/\e<=c.length)\/(∃a,d=⟨3,0,0,a⟩/\a.length<=8192)\/(∃b,d=⟨4,b,0,[]⟩/\b<=c.length)\/(∃g,d=⟨5,g,0,[]⟩/\g<=js c)
def LS.at{c g}(n:LS c g):∀d e,c[d]?=some e->∃f,LS (c.take d) f/\OkL f e:=by
 have h:∀{c:List LE}{g:qV}{j:LE},LS c g->OkL g j->(∀d e,c[d]?=some e->∃f,LS (c.take d) f/\OkL f e)->∀d e,(c++ [j])[d]?=some e->∃f,LS ((c++ [j]).take d) f/\OkL f e:=by
  intro c g j a l b d e m;rcases PH m with ⟨o,s⟩ | ⟨rfl,rfl⟩
  ·rw[vB qF];exact b d e o
  rw[vB lR,kX];exact⟨g,a,l⟩
 induction n with
 | nil=>simp
 | ins a i p q b=>exact h a (.inl ⟨_,_,rfl,i,p,q⟩) b
 | rem a k r b=>exact h a (.inr (.inl ⟨_,_,rfl,k,r⟩)) b
 | lod a k b=>exact h a (.inr (.inr (.inl ⟨_,rfl,k⟩))) b
 | see a i b=>exact h a (.inr (.inr (.inr (.inl ⟨_,rfl,i⟩)))) b
 | kno a i b=>exact h a (.inr (.inr (.inr (.inr ⟨_,rfl,i⟩)))) b
def Uq.get{w}:∀{xs d b a},Uq w xs d->d[b]?=some a->∃c,Uz w c a.tx/\xs[b*4]?=some (qC a.kd)/\xs[b*4+1]?=some (qC a.lo)/\xs[b*4+2]?=some (qC a.hi)/\xs[b*4+3]?=some c
 | _,n::d,0,a,⟨c,o,e,p,f⟩,g=>by
  simp_all
 | _,n::d,b+1,a,⟨c,o,e,p,f⟩,g=>by
  obtain⟨h,i,j,k,l,m⟩:=Uq.get f (by simpa using g);rw[e];refine⟨h,i,?_,?_,?_,?_⟩
  all_goals rw[vb qJ]
  ·rw[<- j];congr 1;simp;omega
  ·rw[<- k];congr 1;simp;omega
  ·rw[<- l];congr 1;simp;omega
  rw[<- m];congr 1;simp;omega
def LoP9(b:qS)(i:List Ob)(f:LB)(j:Ending)(a:qS):Prop:=∃c d e g h,j=qQ (.agg (jz c d e 0))/\Za a b.heap.size a.heap.size c g h i/\Zh a b.heap.size a.heap.size d e f.1 f.2/\qY b a
structure Rp(w0 w1:qS)(bb:Nat)(lg:List LE)(j:Nat)(wr:qS):Prop where
 buf:∃a b lo hi,D2 wr bb a b 28/\Zh wr lo hi a b (WY (lg.take j)).1 (WY (lg.take j)).2/\(bb<lo\/hi<=bb)/\hi<=wr.heap.size/\w0.heap.size<=lo
 eo:EO bb w1 wr
def Rp.next{w0 w1 w2 w3 wr bb j lg l vr vt s'}(k:EO bb w1 wr)(b:∃d e,D2 wr bb d e 28)(c:qY wr w2)(m:Zh w3 w2.heap.size w3.heap.size vr vt s'.1 s'.2)(f:qY w2 w3)(n:lg[j]?=some l)(o:zBv (WY (lg.take j)) l=s')(r:w0.heap.size<=wr.heap.size):Rp w0 w1 bb lg (j+1) ((w3.setCell (qP bb 0) vr).setCell (qP bb 1) vt):=by
 obtain⟨d,e,b⟩:=b;have g:=b.lt;have h:=c.size;have i:=(b.below c g).below f qF;refine⟨⟨vr,vt,w2.heap.size,w3.heap.size,i.set2 vr vt,?_,.inl qF,qH,qF⟩,?_⟩
 ·rw[vH,n]
  show Zh _ _ _ _ _ (WY (lg.take j++ [l])).1 (WY (lg.take j++ [l])).2
  rw[Yg,o];exact m.frame (λa p q=>(xj _ _ a _ (by show a≠bb;omega)).trans (xj _ _ a _ (by show a≠bb;omega)))
 refine k.trans (EO.trans (EO.of (c.trans (f.mono h))) ((EO.set bb 0 vr w3).trans (EO.set bb 1 vt _)))
def specRl(C)(v)(os)(vts)(rs)(hc)(w)(cm:Km w C v os vts)(I:Mv (JH (capN hc)) os rs)(ea:os.length<=10000):
  Calls prog 5 #[v,qC hc] w (LoP9 w (rs.map yu) (WY (Mt (JH (capN hc)) rs os.length).lg)):=by
 obtain⟨e1,e2,rfl⟩:=zv cm.o;have cw:=zC (λd7 d8=>run7 C _ os vts rs hc d7 (cm.below d8) I ea);have cx:=zC (I.iv os.length lR).ls;have ci:=zC (I.iv os.length lR).ll;have dr:=zC (show rs.take os.length=rs by rw[I.len,kX]);have br:=zC (bA (xe w.heap.size w) (qR (jz qN qN qN 0) 30));have bs:=zC (xI w (qR (jz qN qN qN 0) 30));have eq:¬ (10000:Int)<os.length:=qF
 obtain⟨am,cn⟩:∃d9,d9=Mt (JH (capN hc)) rs os.length:=⟨_,rfl⟩
 have ds:=zC cn;rw[<- cn]at cx ci |-;clear cn;generalize os.length=ey at *;clear cm I;go_enter func5,ntmps5;go_upto_region 1 with fail;generalize World.alloc w _=ak at *;go_wp2_with fail;refine(cw ak br).mono ?_;rintro t bi ⟨e3,c4,rfl,b3⟩;obtain⟨c5,c6,z⟩:=b3.ob;obtain⟨e4,co⟩:=b3.st;rw[<- ds.out]at co;have a7:=b3.bel;have er:=a7.size;rw[dr.out]at z;obtain⟨b4,b5,rfl⟩:=zv z.row;obtain⟨on,da⟩:∃i,i=(rs.map yu).length:=⟨_,rfl⟩
 rw[<- da]at z |-;have dt:=zC z;have cy:=zC (zBp [] none 0 bi (λb H=>by simp at H) qH lR qF);have HM:=zC co;have bt:=zC (br.trans (a7.mono br.size));have du:=zC ((a7.block w.heap.size (qZ.1 bs).1).trans bs);have dv:=a7.size;have es:=(qZ.1 bs).1;clear z co a7 b3 cw bs br da;go_wp2_with fail;refine cy.mono ?_;rintro t N ⟨e5,e6,rfl,b6,aq⟩;obtain⟨b7,b8,b9,ca,o,p⟩:=b6.val;subst o p;obtain⟨cb,db⟩:∃i,i=((yI []).map Y4).length:=⟨_,rfl⟩
 rw[<- db]at b6 |-;have cz:=aq.size;have BX:=zC (bA (xe N.heap.size N) (qR #[qM b7 cb b8,qM b9 ([0]:qV).length ca] 28));have ao:=zC (aq.trans (BX.mono cz));have a8:=zC (HM.below ao);have a9:=zC (show Rp ak (N.alloc (qR #[qM b7 cb b8,qM b9 ([0]:qV).length ca] 28)) N.heap.size am.lg 0 (N.alloc (qR #[qM b7 cb b8,qM b9 ([0]:qV).length ca] 28))from⟨⟨_,_,bi.heap.size,N.heap.size,D2.new N _ _ _,b6.below BX lR,.inr lR,qH,dv⟩,⟨rfl,rfl,rfl,lR,λ_ _ _=>rfl⟩⟩);have et:N.heap.size<(N.alloc (qR #[qM b7 cb b8,qM b9 ([0]:qV).length ca] 28)).heap.size:=qH
 clear cy b6 db aq HM;go_upto_region 5 with fail;have eu:=cz;generalize N.heap.size=bb at *;generalize World.alloc N _=c3 at *;have c0:=a8.blk.c.2.2.2.2.2.2.2.2.2;obtain⟨ls,a3,dc⟩:=a8.out.lg;obtain⟨eb,dd,de⟩:=zv a3;rw[de]at c0 a3;obtain⟨ay,cp⟩:∃i,i=am.lg.length:=⟨_,rfl⟩
 have c1:=zC cp;rw[<- cp]at c0 a3 ci
 have dw:ay<=dd/\dd<=maxLen:=by
  rcases a3.2 with ⟨t,a4⟩ | ⟨c,ec,ed,t,_,_,R,bj,_⟩
  ·simp at t;omega
  simp_all
 have dx:=dw.2;unfold maxLen at dx;have aw:=zC a3;have dy:=zC dc;have ev:=a8.lt;have ew:=ci.out;have ex:=a8.out;clear a3 dc cp de;go_wp2_with fail;go_loopw [30] (λb wr=>∃a:Nat,a<=ay/\b=qC a/\Rp ak c3 bb am.lg a wr) (λb _=>ay-(intOf b).toNat)
 case atStart=>exact⟨0,xK _,rfl,a9⟩
 obtain⟨a,e7,rfl,an⟩:=hrel;have z3:=an.eo.size;by_cases d5:a<ay
 ·have dz:(a:Int)<ay:=qF
  obtain⟨a2,cc⟩:∃a2,am.lg[a]?=some a2:=⟨_,xw (by rw[<- c1.out];exact d5)⟩
  obtain⟨c,rfl⟩:∃c,eb=some (qP c 0):=by
   rcases aw.out.2 with ⟨t,a4⟩ | ⟨c,ec,ed,t,_⟩
   ·omega
   simp_all
  obtain⟨ee,cq,df,dg,dh,di⟩:=dy.get cc;obtain⟨e8,dj,ef⟩:=cx.at a a2 cc;obtain⟨dk,dl⟩:=dj.lv
  have d0:c≠bb:=λt=>by
   obtain⟨_,_,az⟩:=jr aw (q:=c) rfl;obtain⟨eg,eh,_,_,bk,_⟩:=a9.out.buf;unfold D2 at bk;rw[t,bk]at az;simp only[xE,kf]at az
   simp_all
  have d1:=(aw.lt c rfl).2;have ba:∀cl,wr.cell? (qP c cl)=c3.cell? (qP c cl):=λcl=>xq (an.eo.block c d1 d0)
  have O:wr.cell? (qP c (a*4))=some (qC a2.kd):=(by rw[ba,aw.out.cellAt (a*4) qF];exact df);have E:wr.cell? (qP c (a*4+1))=some (qC a2.lo):=(by rw[ba,aw.out.cellAt (a*4+1) qF];exact dg);have A:wr.cell? (qP c (a*4+2))=some (qC a2.hi):=(by rw[ba,aw.out.cellAt (a*4+2) qF];exact dh);have P:wr.cell? (qP c (a*4+3))=some ee:=(by rw[ba,aw.out.cellAt (a*4+3) qF];exact di);obtain⟨f,d,rfl⟩:=cq.val;obtain⟨L,M,dm,H,a0,ar,ei,S,dn⟩:=an.buf;obtain⟨bl,bn,bp,bq,o,p⟩:=ar.val;subst o p
  have X:=zC (cq.k32 (λn ez e0 t=>an.eo.block n (qZ.1 t).1 (λG=>by
   obtain⟨eg,eh,_,_,bk,_⟩:=a9.out.buf;unfold D2 at bk;rw[G,bk]at t;simp only[xE,kf]at t
   simp_all)))
  have y:=zC a0;have Q:=zC ar;have bc:=zC dk;have a1:=zC dl;have F:=zC an.eo;have bd:=zC cc;have bf:=a0.lt;have bg:ak.heap.size<=wr.heap.size:=(by have:=ao.size;omega);clear an cq dj dk dl a0 ar cc ba df dg dh di a9;obtain⟨g,cr⟩:∃c4,WY (am.lg.take a)=c4:=⟨_,rfl⟩
  have Y:=zC cr;rw[cr]at y Q bc a1;clear cr;rcases ef with ⟨l,e,rfl,R,bj,ej⟩ | ⟨J,ap,rfl,R,bj⟩ | ⟨e,rfl,R⟩ | ⟨l,rfl,R⟩ | ⟨K,rfl,R⟩
  ·have bu:=zC (show ∀b,b<e.length->∃ax bh,f=some (qP ax bh)/\ax<wr.heap.size/\wr.cell? (qP ax (bh+b))=some (.int .i32 (e.getD b 0))from λb H=>by
    rcases X.out with ⟨_,G⟩ | ⟨a5,a6,cs,G,⟨_,_,ek,el,ct⟩,cu⟩
    ·simp_all
    simp only[jW]at G
    exact⟨a5,a6,G.1,(qZ.1 ct).1,cu b H⟩)
   have bv:e.length<=d/\d<=maxLen:=by
    rcases X.out with ⟨G,em⟩ | ⟨a5,a6,cs,G,⟨en,eo,_⟩,_⟩
    ·simp_all
    simp_all
   have Z:wr.cell? (qP c (a*4))=some (qC 1):=O;have aa:wr.cell? (qP c (a*4+1))=some (qC l):=E;have ab:wr.cell? (qP c (a*4+2))=some (qC 0):=A;have ac:wr.cell? (qP c (a*4+3))=some (qM f e.length d):=P;have k:=zC (bA (xe wr.heap.size wr) (qR #[qC 1,qC (l:Nat),qC 0,qM f e.length d] 57));have h:=zC (xI wr (qR #[qC 1,qC (l:Nat),qC 0,qM f e.length d] 57));have m:=zC (y.below k bf)
   have B:=zC (show Calls prog 16 #[.agg #[qM bl g.1.length bn,qM bp g.2.length bq],qC (l:Nat),qM f e.length d] (wr.alloc (qR #[qC 1,qC (l:Nat),qC 0,qM f e.length d] 57)) (LbP (wr.alloc (qR #[qC 1,qC (l:Nat),qC 0,qM f e.length d] 57)) (J2 g l e))from by
    obtain⟨a5,a6,rfl,ep,_⟩:=bu.out 0 bj
    exact repIns (Q.below k S) (vC S k.size) bc (by rw[a1.out];exact R) bj (by rw[a1.out];exact ej) (ve ep k.size) bv (λb H=>by
     obtain⟨dp,dq,cd,aq,cv⟩:=bu.out b H;simp at cd;obtain⟨rfl,rfl⟩:=cd
     exact(k.cell aq).trans cv))
   have D:=zC (fun(j:qS) (L M:qT) (z:Zh j (wr.alloc (qR #[qC 1,qC (l:Nat),qC 0,qM f e.length d] 57)).heap.size j.heap.size L M (J2 g l e).1 (J2 g l e).2) al=>Rp.next (w0:=ak) F ⟨_,_,y⟩ k z al bd (by rw[Y.out];rfl) bg);generalize e.length=d6 at *;generalize g.1.length=b0 at *;generalize g.2.length=b1 at *;clear O E A P y Q X Y;go_upto_region 8 with fail;generalize World.alloc wr _=b2 at *;have ad:=c8 0 h;have ae:=c8 1 h;have af:=c8 2 h;have ag:=c8 3 h;have ah:=m.c;obtain⟨T,U⟩:=ah;have ai:=m.lt;clear Z aa ab ac;go_wp2_with fail;refine B.mono ?_;rintro t j ⟨V,W,rfl,q,s⟩;have r:=zC (m.below s ai);have aj:=zC (D j V W q s);obtain⟨ce,cf,cg,ch,o,p⟩:=q.val;obtain⟨au,u⟩:∃i,i=(J2 g l e).1.length:=⟨_,rfl⟩
   obtain⟨av,x⟩:∃i,i=(J2 g l e).2.length:=⟨_,rfl⟩
   rw[<- u]at o;rw[<- x]at p;clear u x;subst o p;obtain⟨a4,az⟩:=r.out.c;have bw:=r.fz 0;have bx:=r.fz 1;clear q s B D m T U ad ae af ag h;go_wp2;go_roundw
   case rel=>exact⟨a+1,qF,qL,aj⟩
   simp[intOf];omega
  ·have Z:wr.cell? (qP c (a*4))=some (qC 2):=O
   have aa:wr.cell? (qP c (a*4+1))=some (qC J):=E;have ab:wr.cell? (qP c (a*4+2))=some (qC ap):=A;have ac:wr.cell? (qP c (a*4+3))=some (qM f 0 d):=P;have k:=zC (bA (xe wr.heap.size wr) (qR #[qC 2,qC J,qC ap,qM f 0 d] 57));have h:=zC (xI wr (qR #[qC 2,qC J,qC ap,qM f 0 d] 57));have m:=zC (y.below k bf);have B:=zC (repDel (Q.below k S) (vC S k.size) bc R (by rw[a1.out];exact bj));have D:=zC (λj(L M)(z:Zh j (wr.alloc (qR #[qC 2,qC (J:Nat),qC (ap:Nat),qM f 0 d] 57)).heap.size j.heap.size L M (Ju g J (ap-J)).1 (Ju g J (ap-J)).2)al=>Rp.next F ⟨_,_,y⟩ k z al bd (by rw[Y.out];rfl) bg);generalize g.1.length=b0 at *;generalize g.2.length=b1 at *;clear O E A P y Q X Y;go_upto_region 8 with fail;generalize World.alloc wr _=b2 at *;have ad:=c8 0 h;have ae:=c8 1 h;have af:=c8 2 h;have ag:=c8 3 h;have ah:=m.c;obtain⟨T,U⟩:=ah;have ai:=m.lt;clear Z aa ab ac;go_wp2_with fail;refine B.mono ?_;rintro t j ⟨V,W,rfl,q,s⟩;have r:=zC (m.below s ai);have aj:=zC (D j V W q s);obtain⟨ce,cf,cg,ch,o,p⟩:=q.val;obtain⟨au,u⟩:∃i,i=(Ju g J (ap-J)).1.length:=⟨_,rfl⟩
   obtain⟨av,x⟩:∃i,i=(Ju g J (ap-J)).2.length:=⟨_,rfl⟩
   rw[<- u]at o;rw[<- x]at p;clear u x;subst o p;obtain⟨a4,az⟩:=r.out.c;have bw:=r.fz 0;have bx:=r.fz 1;clear q s B D m T U ad ae af ag h;go_wp2;go_roundw
   case rel=>exact⟨a+1,qF,qL,aj⟩
   simp[intOf];omega
  ·have bu:=zC (show ∀b,b<e.length->∃ax bh,f=some (qP ax bh)/\ax<wr.heap.size/\wr.cell? (qP ax (bh+b))=some (.int .i32 (e.getD b 0))from λb H=>by
    rcases X.out with ⟨_,G⟩ | ⟨a5,a6,cs,G,⟨_,_,ek,el,ct⟩,cu⟩
    ·simp_all
    simp only[jW]at G
    exact⟨a5,a6,G.1,(qZ.1 ct).1,cu b H⟩)
   have bv:e.length<=d/\d<=maxLen:=by
    rcases X.out with ⟨G,em⟩ | ⟨a5,a6,cs,G,⟨en,eo,_⟩,_⟩
    ·simp_all
    simp_all
   have Z:wr.cell? (qP c (a*4))=some (qC 3):=O;have aa:wr.cell? (qP c (a*4+1))=some (qC 0):=E;have ab:wr.cell? (qP c (a*4+2))=some (qC 0):=A;have ac:wr.cell? (qP c (a*4+3))=some (qM f e.length d):=P;have k:=zC (bA (xe wr.heap.size wr) (qR #[qC 3,qC 0,qC 0,qM f e.length d] 57));have h:=zC (xI wr (qR #[qC 3,qC 0,qC 0,qM f e.length d] 57));have m:=zC (y.below k bf);have B:=zC (zBp e f d (wr.alloc (qR #[qC 3,qC 0,qC 0,qM f e.length d] 57)) (λb H=>by obtain⟨dp,dq,cd,aq,cv⟩:=bu b H;exact⟨dp,dq,cd,ve aq k.size,(k.cell aq).trans cv⟩) R bv.1 bv.2);have D:=zC (λj(L M)(z:Zh j (wr.alloc (qR #[qC 3,qC 0,qC 0,qM f e.length d] 57)).heap.size j.heap.size L M (jw e).1 (jw e).2)al=>Rp.next F ⟨_,_,y⟩ k z al bd (by rfl) bg);generalize e.length=d6 at *;generalize g.1.length=b0 at *;generalize g.2.length=b1 at *;clear O E A P y Q X Y;go_upto_region 8 with fail;generalize World.alloc wr _=b2 at *;have ad:=c8 0 h;have ae:=c8 1 h;have af:=c8 2 h;have ag:=c8 3 h;have ah:=m.c;obtain⟨T,U⟩:=ah;have ai:=m.lt;clear Z aa ab ac;go_wp2_with fail;refine B.mono ?_;rintro t j ⟨V,W,rfl,q,s⟩
   change Zh j _ _ V W (jw e).1 (jw e).2 at q
   have r:=zC (m.below s ai);have aj:=zC (D j V W q s);obtain⟨ce,cf,cg,ch,o,p⟩:=q.val;obtain⟨au,u⟩:∃i,i=(jw e).1.length:=⟨_,rfl⟩
   obtain⟨av,x⟩:∃i,i=(jw e).2.length:=⟨_,rfl⟩
   rw[<- u]at o;rw[<- x]at p;clear u x;subst o p;obtain⟨a4,az⟩:=r.out.c;have bw:=r.fz 0;have bx:=r.fz 1;clear q s B D m T U ad ae af ag h;go_wp2;go_roundw
   case rel=>exact⟨a+1,qF,qL,aj⟩
   simp[intOf];omega
  ·have Z:wr.cell? (qP c (a*4))=some (qC 4):=O
   have aa:wr.cell? (qP c (a*4+1))=some (qC (l:Nat)):=E;have ab:wr.cell? (qP c (a*4+2))=some (qC 0):=A;have ac:wr.cell? (qP c (a*4+3))=some (qM f 0 d):=P;have k:=zC (bA (xe wr.heap.size wr) (qR #[qC 4,qC (l:Nat),qC 0,qM f 0 d] 57));have h:=zC (xI wr (qR #[qC 4,qC (l:Nat),qC 0,qM f 0 d] 57));have m:=zC (y.below k bf);have B:=zC (repSee (Q.below k S) (vC S k.size) bc (by rw[a1.out];exact R));have D:=zC (fun(j:qS) (L M:qT) (z:Zh j (wr.alloc (qR #[qC 4,qC (l:Nat),qC 0,qM f 0 d] 57)).heap.size j.heap.size L M (Yx g l).1 (Yx g l).2) (al:Below (wr.alloc (qR #[qC 4,qC (l:Nat),qC 0,qM f 0 d] 57)).heap.size (wr.alloc (qR #[qC 4,qC (l:Nat),qC 0,qM f 0 d] 57)) j)=>Rp.next (w0:=ak) F ⟨_,_,y⟩ k z al bd (show zBv (WY (am.lg.take a)) ⟨4,l,0,[]⟩=Yx g l by rw[Y.out];rfl) bg);generalize g.1.length=b0 at *;generalize g.2.length=b1 at *;clear O E A P y Q X Y;go_upto_region 8 with fail;generalize World.alloc wr _=b2 at *;have ad:=c8 0 h;have ae:=c8 1 h;have af:=c8 2 h;have ag:=c8 3 h;have ah:=m.c;obtain⟨T,U⟩:=ah;have ai:=m.lt;clear Z aa ab ac;go_wp2_with fail;refine B.mono ?_;rintro t j ⟨V,W,u5,e9,rfl,q,s⟩;have r:=zC (m.below s ai);have aj:=zC (D j V W q s);obtain⟨ce,cf,cg,ch,o,p⟩:=q.val;obtain⟨au,u⟩:∃i,i=(Yx g l).1.length:=⟨_,rfl⟩
   obtain⟨av,x⟩:∃i,i=(Yx g l).2.length:=⟨_,rfl⟩
   rw[<- u]at o;rw[<- x]at p;clear u x;subst o p;obtain⟨a4,az⟩:=r.out.c;have bw:=r.fz 0;have bx:=r.fz 1;clear q s B D m T U ad ae af ag h;go_wp2;go_roundw
   case rel=>exact⟨a+1,qF,qL,aj⟩
   simp[intOf];omega
  have Z:wr.cell? (qP c (a*4))=some (qC 5):=O;have aa:wr.cell? (qP c (a*4+1))=some (qC (K:Nat)):=E;have ab:wr.cell? (qP c (a*4+2))=some (qC 0):=A;have ac:wr.cell? (qP c (a*4+3))=some (qM f 0 d):=P;have k:=zC (bA (xe wr.heap.size wr) (qR #[qC 5,qC (K:Nat),qC 0,qM f 0 d] 57));have h:=zC (xI wr (qR #[qC 5,qC (K:Nat),qC 0,qM f 0 d] 57));have m:=zC (y.below k bf);have B:=zC (repKno (Q.below k S) (vC S k.size) bc (by rw[a1.out];exact R));have D:=zC (fun(j:qS) (L M:qT) (z:Zh j (wr.alloc (qR #[qC 5,qC (K:Nat),qC 0,qM f 0 d] 57)).heap.size j.heap.size L M (KS g K).1 (KS g K).2) (al:Below (wr.alloc (qR #[qC 5,qC (K:Nat),qC 0,qM f 0 d] 57)).heap.size (wr.alloc (qR #[qC 5,qC (K:Nat),qC 0,qM f 0 d] 57)) j)=>Rp.next (w0:=ak) F ⟨_,_,y⟩ k z al bd (show zBv (WY (am.lg.take a)) ⟨5,K,0,[]⟩=KS g K by rw[Y.out];rfl) bg);generalize g.1.length=b0 at *;generalize g.2.length=b1 at *;clear O E A P y Q X Y;go_upto_region 8 with fail;generalize World.alloc wr _=b2 at *;have ad:=c8 0 h;have ae:=c8 1 h;have af:=c8 2 h;have ag:=c8 3 h;have ah:=m.c;obtain⟨T,U⟩:=ah;have ai:=m.lt;clear Z aa ab ac;go_wp2_with fail;refine B.mono ?_;rintro t j ⟨V,W,rfl,q,s⟩;have r:=zC (m.below s ai);have aj:=zC (D j V W q s);obtain⟨ce,cf,cg,ch,o,p⟩:=q.val;obtain⟨au,u⟩:∃i,i=(KS g K).1.length:=⟨_,rfl⟩
  obtain⟨av,x⟩:∃i,i=(KS g K).2.length:=⟨_,rfl⟩
  rw[<- u]at o;rw[<- x]at p;clear u x;subst o p;obtain⟨a4,az⟩:=r.out.c;have bw:=r.fz 0;have bx:=r.fz 1;clear q s B D m T U ad ae af ag h;go_wp2;go_roundw
  case rel=>exact⟨a+1,qF,qL,aj⟩
  simp[intOf];omega
 have dz:¬ (a:Int)<ay:=qF
 obtain rfl:a=ay:=qF
 obtain⟨L,M,dm,H,a0,ar,ei,S,dn⟩:=an.buf;rw[c1.out,kX]at ar;obtain⟨bl,bn,bp,bq,o,p⟩:=ar.val;obtain⟨au,u⟩:∃i,i=(WY am.lg).1.length:=⟨_,rfl⟩
 obtain⟨av,x⟩:∃i,i=(WY am.lg).2.length:=⟨_,rfl⟩
 rw[<- u]at o;rw[<- x]at p;subst o p;have F:=an.eo;have c2:wr.heap[w.heap.size]?=some (qR (jz qN qN qN 0) 30 (0,0)):=(F.block _ qF qF).trans ((ao.block _ qF).trans du);have RR:=zC c2;obtain⟨T,U⟩:=a0.c;have d2:=zC (show qY w wr from⟨F.os.trans (ao.os.trans bt.os),F.tape.trans (ao.tape.trans bt.tape),F.output.trans (ao.output.trans bt.output),qF,λn I=>(F.block n qF qF).trans ((ao.block n qF).trans (bt.block n I))⟩);have d3:=zC (show Za wr ak.heap.size bi.heap.size (qM b4 on b5) c5 c6 (rs.map yu)from dt.frame (λn E A=>(F.block n qF qF).trans (ao.block n A)));have LF:=zC ar;have d4:=zC (show bb<wr.heap.size/\H<=wr.heap.size/\ak.heap.size<=dm/\bi.heap.size<=wr.heap.size from⟨a0.lt,S,dn,qF⟩);clear an F c2 a0 ar u x a9 a8;go_wp2_with (refine srL RR ?_);refine zBb results5 RR rfl ?_ ⟨rfl,rfl,rfl⟩;have cj:∀n,n≠w.heap.size->(wr.setRow w.heap.size (jz (qM b4 on b5) (qM bl au bn) (qM bp av bq) 0)).heap[n]? =wr.heap[n]?:=λn I=>vG wr _ n _ I
 refine⟨_,_,_,c5,c6,rfl,?_,?_,?_⟩
 ·have bz:=d3.frame (w':=wr.setRow w.heap.size (jz (qM b4 on b5) (qM bl au bn) (qM bp av bq) 0)) (λn E A=>cj n qF)
  have ck:bi.heap.size<=(wr.setRow w.heap.size (jz (qM b4 on b5) (qM bl au bn) (qM bp av bq) 0)).heap.size:=(by have:=d4.out;simp;omega);exact⟨zF bz.row qF,λn I=>ve (bz.rb n I) ck,(bz.nt.lower qF).upper ck,(bz.nm.lower qF).upper ck⟩
 ·exact(LF.frame (λn E A=>cj n qF)).mono qF (by simp_all)
 exact d2.trans ⟨rfl,rfl,rfl,qH,λn I=>cj n qF⟩
def Zb(b:qS)(c:Nat):Prop:=c<b.heap.size/\∀(d)(a)(e),b.heap[c]?=some (qR d a e)->a∉ [81,63]
def KK.bel{w0 w w' Z}(f:KK YH Z w w')(k:∀a,Zb w0 a->Z a)(b:qY w0 w):qY w0 w':=by
 refine⟨f.os.trans b.os,f.tape.trans b.tape,f.output.trans b.output,vC b.size f.size,λa g=>(f.block a (ve g b.size) ?_).trans (b.block a g)⟩;by_cases i:Zb w0 a
 ·exact .inl (k a i)
 refine .inr ?_;by_cases j:∃(d:qX)(c:TypeId)(e:Nat×Nat),w0.heap[a]?=some (qR d c e)/\c∈ [81,63]
 ·obtain⟨d,c,e,h,ht⟩:=j
  refine⟨d,c,e,(b.block a g).trans h,?_⟩;simp at ht;rcases ht with rfl | rfl<;>decide
 exact absurd ⟨g,λd c e h ht=>j ⟨d,c,e,h,ht⟩⟩ i
def newEngX(ty)(p)(h)(w):
  Calls prog 49 #[.iface ty p,qC h] w λb a=>b=qQ (qO w.heap.size 0)/\a.heap[w.heap.size]?=some (qR #[qN,qN,qN,qC (min (max h 1) 1000),.bool false,qN,.iface ty p,.pointer none,.pointer none,.pointer none,.pointer none,.pointer none,.pointer none,.pointer none,.pointer none,qC 0] 144 (0,0))/\qY w a:=by
 go_enter func49,ntmps49;go_wp2;go_ret;exact⟨rfl,xI _ _,bA (xe _ w) _⟩
def vx0:VX:=⟨qN,qN,qN,qN,[.pointer none,.pointer none,.pointer none,.pointer none,.pointer none,.pointer none,.pointer none,.pointer none]⟩
def EX.new{K w w' Z c hc}(q:K.Cr w Z c K.nil)(ht:K.tx K.nil= [])(g:∀a,Z a->a<w.heap.size)(r:∀a,Z a->∀(n)(i)(o),w.heap[a]?=some (qR n i o)->i∉ [81,63])(h:qY w w')
  (k:w'.heap[w.heap.size]?=some (qR #[qN,qN,qN,qC (min (max hc 1) 1000),.bool false,qN,.iface K.ty (qO c 0),.pointer none,.pointer none,.pointer none,.pointer none,.pointer none,.pointer none,.pointer none,.pointer none,qC 0] 144 (0,0))):
  EX K w' Z w.heap.size c vx0 (JH (capN hc)):=by
 have l:(capN hc)=min (max hc 1) 1000:=by unfold capN;omega
 refine⟨⟨⟨rfl,?_⟩,xR _ _ _ _,⟨Ko.nil,λa b=>by simp[vx0,Value.ownBlock]at b⟩,⟨Ko.nil,λa b=>by simp[vx0,Value.ownBlock]at b⟩,λf=>(by simp[JH]at f),⟨_,_,_,rfl⟩,⟨by simp[JH],λd p s j e=>?_⟩,λf=>by have:=g _ f;omega,λa b=>ve (g a b) h.size,λa b=>by rw[h.block a (g a b)];exact r a b⟩,K.step q (KN.of h) (λa b=>.inl b),ht⟩
 ·rw[<- l]at k;exact k
 simp only[JH,Qd]at e
 split at e
 ·rename_i f
  simp at e;subst e;have m:d=0\/d=1\/d=2\/d=3\/d=4\/d=5\/d=6\/d=7:=qF
  show p= .pointer none
  rcases m with rfl | rfl | rfl | rfl | rfl | rfl | rfl | rfl<;>(simp[vx0]at j;exact j.symm)
 cases e
def Mw(a)(n cap)(w)(e:n<=10000):
  Calls prog 48 #[qM a n cap] w λb d=>b=qQ .nilIface/\d=w:=by
 have c:=zC (Hl (v:=n) (lo:=0) (hi:=10000) (k:=14) w (FV qF));go_enter func48,ntmps48;go_wp2_with fail;refine c.mono ?_;rintro b f ⟨rfl,rfl⟩;go_wp2;go_ret;simp
def Mq.to'{w0 W}(a:Mq w0)(b:qY w0 W):Mq W:=a.to b
structure zAm(K:KX)(w0 w:qS)(E c bo n:Nat)(M0:SS)(a:List Rs)(k:Nat)(wr:qS):Prop where
 ob:∃b d zs Z x,wr.ownsRow w.heap.size 81 10 (qM (qD bo 0) n n) n (jZ b d ((a.take k).map yu)++zs)/\yR 21 1 wr w.heap.size wr.heap.size b (((a.take k).map yu).map λx=>zI .i32 x.t) (((a.take k).map yu).map λx=>x.t.length)/\yR 166 3 wr w.heap.size wr.heap.size d (((a.take k).map yu).map λx=>zY x.m) (((a.take k).map yu).map λx=>x.m.length)/\EX K wr Z E c x (Mt M0 a k)/\(∀q,Zb w0 q->Z q)/\∀v∈b,∀q,v.ownBlock=some q->Z q
 bel:qY w0 wr
 bz:w.heap.size<=wr.heap.size
def RunP9(m:KX)(g h:qS)(n:Nat)(o:SS)(e:List Ob)(p:Ending)(b:qS):Prop:=∃c f i d j k,p=qQ (.tuple #[c,.nilIface])/\(∃l,c= .slice (qD l 0) e.length e.length)/\Za b h.heap.size b.heap.size c f i e/\EX m b d j n k o/\(∀a,Zb g a->d a)/\(∀v∈f,∀a,v.ownBlock=some a->d a)/\qY g b/\h.heap.size<=b.heap.size
def zAm.next{K w0 w wr x0 y1 y2 E c bo n k M0 rs r ots oms Z Z' x' zs ua ma ul uk ml mk}(F:rs[k]?=some r)(aj:k<n)(ak:n=rs.length)
  (al:wr.ownsRow w.heap.size 81 10 (qM (qD bo 0) n n) n (jZ ots oms ((rs.take k).map yu)++zs)) (q:yR 21 1 wr w.heap.size wr.heap.size ots (((rs.take k).map yu).map λh=>zI .i32 h.t) (((rs.take k).map yu).map λh=>h.t.length)) (s:yR 166 3 wr w.heap.size wr.heap.size oms (((rs.take k).map yu).map λh=>zY h.m) (((rs.take k).map yu).map λh=>h.m.length)) (G:∀a,Zb w0 a->Z a) (H:∀e∈ots,∀a,e.ownBlock=some a->Z a) (I:qY w0 wr) (am:w.heap.size<=wr.heap.size)
  (t:qY wr x0) (ht:zT y1 x0.heap.size (qM ua ul uk) r.T/\∀a,(Value.slice ua ul uk).ownBlock=some a->Z' a) (J:zS y1 x0.heap.size (qM ma ml mk) r.ms) (X:EX K y1 Z' E c x' r.M) (u:KK YH Z x0 y1) (L:∀a,Z a->Z' a) (an:∀a,Z a->a<wr.heap.size)
  (Y:y2.ownsRow w.heap.size 81 10 (qM (qD bo 0) n n) n (jZ ots oms ((rs.take k).map yu)++Fk (yu r) (qM ua ul uk) (qM ma ml mk)++zs.drop 10)) (d:y1.grownBy y2 (some bo)) (aa:∃i j,y1.heap[bo]?=some (qR i 81 j)) (ao:w0.heap.size<=bo):zAm K w0 w E c bo n M0 rs (k+1) y2:=by
 obtain⟨ab,ac,ad⟩:=aa;have ae:=t.size;have af:=u.size;have ag:=d.size
 have v:∀{a:Nat}{i:qX}{m:TypeId}{j:Nat×Nat},y1.heap[a]?=some (qR i m j)->m≠81->y2.heap[a]? =y1.heap[a]?:=λ{a i m j}f D=>d.block a (qZ.1 f).1 (λl=>by
  simp_all)
 have Q:KN [81,63] y1 y2:=⟨d.os,d.tape,d.output,d.size,λa b l=>d.block a b (λB=>by
  simp at B;subst B
  exact l ab _ ac ad qH)⟩
 have R:=q.keep (λe g a b=>by
  obtain⟨i,j,f⟩:=q.ty g b;have p:=(t.block a (q.bl e g a b)).trans f;have o:=(u.block a (qZ.1 p).1 (.inl (H e g a b))).trans p
  rw[v o qG,o,f])
 have S:=s.keep (λe g a b=>by
  obtain⟨i,j,f⟩:=s.ty g b;have p:=(t.block a (s.bl e g a b)).trans f;have o:=u.ty p qG
  rw[v o qG,o,f])
 have x:∀{M:Nat}{m:TypeId}{N O:Nat}{e:qT}{P:qU},y1.ownsRow M m N e O P->m≠81->y2.ownsRow M m N e O P:=λC D=>zD C (λa b=>by obtain⟨i,j,f⟩:=jr C b;exact v f D)
 have y:zT y2 w.heap.size _ r.T:=zF (x ht.1 qG) qF;have z:zS y2 w.heap.size _ _:=zF (x J qG) qF;have T:(rs.take (k+1)).map yu=(rs.take k).map yu++ [yu r]:=by rw[vH,F,vX];rfl
 have U:ots.length=((rs.take k).map yu).length:=by rw[q.len,xO]
 have V:oms.length=((rs.take k).map yu).length:=by rw[s.len,xO]
 have ah:=R.snoc (c:=zI _ (yu r).t) (n:=(yu r).t.length) y (λa b=>⟨by have:=(ht.1.lt a b).1;omega,(y.lt a b).2⟩) qF;have ai:=S.snoc (c:=zY (yu r).m) (n:=(yu r).m.length) z (λa b=>⟨by have:=(J.lt a b).1;omega,(z.lt a b).2⟩) qF;refine⟨⟨ots++ [qM ua ul uk],oms++ [qM ma ml mk],zs.drop 10,Z',x',?_,?_,?_,?_,λa b=>L a (G a b),λe g a b=>?_⟩,?_,qF⟩
 ·rw[T,DH U V,vK];simpa[jZ]using Y
 ·simp_all
 ·simp_all
 ·rw[U5 F];exact X.keep Q
 ·rcases vD.1 g with l | l
  ·exact L a (H e l a b)
  simp_all
 have W:=I.trans (t.mono I.size);have A:=u.bel G W;exact A.trans ⟨d.os,d.tape,d.output,d.size,λa b=>d.block a (by have:=A.size;omega) (λl=>by simp at l;omega)⟩
end

import Derived.Deep.MidRow
import Derived.Deep.WholeRow
import Derived.Laws.CopyOwn
import Derived.OwnWalkIn
import Derived.Test.YtljnflecikholaaGreatDoorMq02
import Derived.Test.YtljnflecikholaaGreatDoorMq03
import Derived.Test.YtljnflecikholaaGreatDoorMq98
set_option linter.all false
set_option maxRecDepth 100000
set_option maxHeartbeats 8000000
namespace Go.Proofs.YtljnflecikholaaGreatDoor
open Go Go.RowKit Go.Proofs.Tryz
def yM{P ops rest d a w Q}(f:d.guard=none)(ty)(x y)(g:d.op= .store ty x y)
  (b) (c c') (t) (h:a.eval x= .pointer (qD b 0)) (i:a.eval y= .agg c') (j:w.heap[b]?=some (qR c t (0,0))) (k:(P.info? ty).map (·.size)=some c'.size) (l:c.size=c'.size) (m:c'.all (·.oneCell')=true)
  (n:wpList P ops Q rest (a.put d.dst undef) (w.setRow b c')):wpList P ops Q (d::rest) a w:=
 QT f λ_ e=>by
  unfold Oper.wp execOp;simp only[g,h,i,Instr.storeAt,Instr.sureAddr,QE,Sem.run_pure,Result.andThen_ok,run_storeVar_row w b t ty c c' j k l m];exact e _ _ n
def ES(a:qS)(o)(cs)(t):((a.alloc o).alloc (qR cs t)).heap[a.heap.size+1]?=some (qR cs t (0,0)):=by
 have b:=xI (a.alloc o) (qR cs t);rw[kE]at b;exact b
def Pd(a:qS)(o)(cs)(t):((a.alloc (qR cs t)).alloc o).heap[a.heap.size]?=some (qR cs t (0,0)):=
 (((xe _ _).alloc lR o).block _ qH).trans (xI _ _)
section
open Go.Sort
def Y6{P ops rest c a w Q}(e:c.guard=none)(ty)(x y)(f:c.op= .store ty x y)
  (b o) (cells) (g:a.eval x= .pointer (qD b o)) (h:a.eval y= .agg cells)
  (ht:w.there b o cells.size) (i:(P.info? ty).map (·.size)=some cells.size) (j:cells.all (·.oneCell')=true)
  (k:wpList P ops Q rest (a.put c.dst undef) (w.setCells b o cells.toList)):wpList P ops Q (c::rest) a w:=
 QT e λ_ d=>by
  unfold Oper.wp execOp;simp only[f,g,h,Instr.storeAt,Instr.sureAddr,QE,Sem.run_pure,Result.andThen_ok,run_storeVar_mid w b o ty cells ht i j];exact d _ _ k
def XK{F n P ops rest c a w Q}(f:c.guard=none)(ty)(x y)(d:c.op= .store ty x y)
  (b o) (cells) (g:a.eval x= .pointer (qD b o)) (h:a.eval y= .agg cells)
  (ht:w.there b o cells.size) (i:(P.info? ty).map (·.size)=some cells.size) (j:cells.all (·.oneCell')=true)
  (k:wpListIn F n P ops Q rest (a.put c.dst undef) (w.setCells b o cells.toList)):wpListIn F n P ops Q (c::rest) a w:=by
 refine wpListIn_plain f λl e=>?_
 unfold Oper.wpIn;refine⟨?_,?_⟩
 ·simp[Oper.about,d]
 rw[Oper.semAt_plain F _ _ (by simp_all)];simp only[execOp,d,g,h,Instr.storeAt,Instr.sureAddr,QE,Sem.run_pure,Result.andThen_ok,run_storeVar_mid w b o ty cells ht i j];exact e _ _ k
def UQ:qU->Nat->qU->qU
 | a,_,[]=>a
 | a,b,c::d=>UQ (a.set b c) (b+1) d
def ET:∀(a b c),a.length<=c.length->UQ (b++c) b.length a=b++a++c.drop a.length
 | [],b,c,_=>by simp[UQ]
 | e::a,b,[],d=>by simp at d
 | e::a,b,f::c,d=>by
  simp only[UQ];rw[kj _ _ lR,kh,QC];have:=ET a (b++ [e]) c (by simpa using d);rw[xg,Qs,vK,List.singleton_append]at this;rw[this];simp
def ZP{base e size g cap n}:∀(c)(a)(d)(b:qS),b.ownsRow base e size (qM (qD g 0) n cap) n d->(b.setCells g a c).ownsRow base e size (qM (qD g 0) n cap) n (UQ d a c)/\b.grownBy (b.setCells g a c) (some g)
 | [],a,d,b,f=>⟨f,yT b _⟩
 | j::c,a,d,b,f=>by
  have h:=f.stored a j;have i:=ZP c (a+1) _ _ h.1;exact⟨i.1,yq h.2 i.2⟩
end
def yS:qV->Int
 | [a]=>a
 | [a,b]=>(a-192)*64+b-128
 | [a,b,c]=>(a-224)*4096+(b-128)*64+c-128
 | [a,b,c,d]=>(a-240)*262144+(b-128)*4096+(c-128)*64+d-128
 | _=> -1
def zg(a:qV):Bool:=decide (0<=yS a/\ZX (yS a)=a)
def yj(q):zg q=true↔0<=yS q/\ZX (yS q)=q:=by unfold zg;simp
def bytes(a:qV):Prop:=∀z∈a,0<=z/\z<=255
def WI{a}(d:0<=a):zg [a]=true↔a<128:=by
 rw[yj];simp only[yS];constructor
 ·rintro ⟨_,c⟩
  rcases jY a with b | b | b | b | b | b
  ·rw[Zu b]at c;simp at c
  ·exact b.2
  ·rw[ZY b.1 b.2]at c;simp at c
  ·rw[yP b.1 qF (.inl b.2)]at c;simp at c
  ·rw[yP qF b.2 (.inr b.1)]at c;simp at c
  rw[ZG b.1 b.2]at c;simp at c
 intro c;exact⟨d,Zv d c⟩
def WJ{a b}(i:0<=a/\a<=255)(j:0<=b/\b<=255):zg [a,b]=true↔(194<=a/\a<=223)/\(128<=b/\b<=191):=by
 rw[yj];simp only[yS];generalize h:(a-192)*64+b-128=e;constructor
 ·rintro ⟨k,d⟩
  rcases jY e with c | c | c | c | c | c
  ·omega
  ·rw[Zv c.1 c.2]at d;simp at d
  ·rw[ZY c.1 c.2]at d;simp at d;omega
  ·rw[yP c.1 qF (.inl c.2)]at d;simp at d
  ·omega
  omega
 intro d;refine⟨qF,?_⟩;rw[ZY qF qF];have f:192+e/64=a:=qF
 have g:128+e%64=b:=qF
 rw[f,g]
def Xq{a b c}(k:0<=a/\a<=255)(l:0<=b/\b<=255)(m:0<=c/\c<=255):zg [a,b,c]=true↔
  ((a=224/\160<=b/\b<=191)\/(a=237/\128<=b/\b<=159)\/((225<=a/\a<=236\/a=238\/a=239)/\128<=b/\b<=191))/\(128<=c/\c<=191):=by
 rw[yj];simp only[yS];generalize j:(a-224)*4096+(b-128)*64+c-128=f;constructor
 ·rintro ⟨n,e⟩
  rcases jY f with d | d | d | d | d | d
  ·rw[Zu d]at e;simp at e;omega
  ·rw[Zv d.1 d.2]at e;simp at e
  ·rw[ZY d.1 d.2]at e;simp at e
  ·rw[yP d.1 qF (.inl d.2)]at e;simp at e;omega
  ·rw[yP qF d.2 (.inr d.1)]at e;simp at e;omega
  rw[ZG d.1 d.2]at e;simp at e
 intro e;refine⟨qF,?_⟩;rw[yP qF qF qF];have g:224+f/4096=a:=qF
 have h:128+f/64%64=b:=qF
 have i:128+f%64=c:=qF
 rw[g,h,i]
def Xr{a b c d}(m:0<=a/\a<=255)(n:0<=b/\b<=255)(o:0<=c/\c<=255)(p:0<=d/\d<=255):zg [a,b,c,d]=true↔
  ((a=240/\144<=b/\b<=191)\/(a=244/\128<=b/\b<=143)\/(241<=a/\a<=243/\128<=b/\b<=191))/\(128<=c/\c<=191)/\(128<=d/\d<=191):=by
 rw[yj];simp only[yS];generalize l:(a-240)*262144+(b-128)*4096+(c-128)*64+d-128=g;constructor
 ·rintro ⟨q,f⟩
  rcases jY g with e | e | e | e | e | e
  ·rw[Zu e]at f;simp at f
  ·rw[Zv e.1 e.2]at f;simp at f
  ·rw[ZY e.1 e.2]at f;simp at f
  ·rw[yP e.1 qF (.inl e.2)]at f;simp at f
  ·rw[yP qF e.2 (.inr e.1)]at f;simp at f
  rw[ZG e.1 e.2]at f;simp at f;omega
 intro f;refine⟨qF,?_⟩;rw[ZG qF qF];have h:240+g/262144=a:=qF
 have i:128+g/4096%64=b:=qF
 have j:128+g/64%64=c:=qF
 have k:128+g%64=d:=qF
 rw[h,i,j,k]
def YM(a b:Int):Prop:=(a=224/\160<=b/\b<=191)\/(a=237/\128<=b/\b<=159)\/((225<=a/\a<=236\/a=238\/a=239)/\128<=b/\b<=191)
def Jd(b a:Int):Prop:=(b=240/\144<=a/\a<=191)\/(b=244/\128<=a/\a<=143)\/(241<=b/\b<=243/\128<=a/\a<=191)
instance (a b:Int):Decidable (YM a b):=by unfold YM;infer_instance
instance (a b:Int):Decidable (Jd a b):=by unfold Jd;infer_instance
def step:qV->Int×Nat
 | []=>(65533,1)
 | [a]=>if a<128 then(a,1)else(65533,1)
 | [a,b]=>if a<128 then(a,1)else if(194<=a/\a<=223)/\128<=b/\b<=191 then(yS [a,b],2)else if YM a b\/Jd a b then(65533,2)else(65533,1)
 | [a,b,c]=>if a<128 then(a,1)else if(194<=a/\a<=223)/\128<=b/\b<=191 then(yS [a,b],2)
   else if YM a b then(if 128<=c/\c<=191 then(yS [a,b,c],3)else(65533,2))
   else if Jd a b then(if 128<=c/\c<=191 then(65533,3)else(65533,2))else(65533,1)
 | a::b::c::d::_=>if a<128 then(a,1)else if(194<=a/\a<=223)/\128<=b/\b<=191 then(yS [a,b],2)
   else if YM a b then(if 128<=c/\c<=191 then(yS [a,b,c],3)else(65533,2))
   else if Jd a b then(if 128<=c/\c<=191 then(if 128<=d/\d<=191 then(yS [a,b,c,d],4)else(65533,3))else(65533,2))else(65533,1)
def shape{c:qV}(g:c≠ []):(∃a,c= [a])\/(∃a b,c= [a,b])\/(∃a b d,c= [a,b,d])\/∃a b d e f,c=a::b::d::e::f:=by
 match c,g with
 | [a],_=>simp
 | [a,b],_=>simp
 | [a,b,d],_=>simp
 | a::b::d::e::f,_=>simp
def Kl(bs)(c:bs≠ []):1<=(step bs).2/\(step bs).2<=bs.length:=by
 rcases shape c with ⟨a,rfl⟩ | ⟨a,b,rfl⟩ | ⟨a,b,d,rfl⟩ | ⟨a,b,d,e,f,rfl⟩
 all_goals
  simp only[step]
  repeat' split
  all_goals simp
def XM(a:qV)(b:Nat)(c:Int):qV:=
 let w:=if a.length=1 then a++ [c]else a
 w++List.replicate (b-w.length) 128
def Zf(c:qV):Prop:=∃(b:Nat)(a:Int),c.length<b/\b<=4/\128<=a/\a<192/\(1<c.length->a=128)/\zg (XM c b a)=true
def beg1{a}(b:0<=a/\a<=255):Zf [a]↔194<=a/\a<=244:=by
 constructor
 ·rintro ⟨e,c,g,i,h,k,-,f⟩
  have ht:e=2\/e=3\/e=4:=(by simp at g;omega);rcases ht with rfl | rfl | rfl
  ·have d:XM [a] 2 c= [a,c]:=rfl
   rw[d,WJ b qF]at f;omega
  ·have d:XM [a] 3 c= [a,c,128]:=rfl
   rw[d,Xq b qF qF]at f;omega
  have d:XM [a] 4 c= [a,c,128,128]:=rfl;rw[d,Xr b qF qF qF]at f;omega
 intro j;by_cases g:a<=223
 ·exact⟨2,128,qH,qF,qF,qF,qH,by rw[show XM [a] 2 128= [a,128]from rfl,WJ b qF];omega⟩
 by_cases i:a<=239
 ·by_cases h:a=224
  ·exact⟨3,160,qH,qF,qF,qF,qH,by rw[show XM [a] 3 160= [a,160,128]from rfl,Xq b qF qF];omega⟩
  exact⟨3,128,qH,qF,qF,qF,qH,by rw[show XM [a] 3 128= [a,128,128]from rfl,Xq b qF qF];omega⟩
 by_cases h:a=240
 ·exact⟨4,144,qH,qF,qF,qF,qH,by rw[show XM [a] 4 144= [a,144,128,128]from rfl,Xr b qF qF qF];omega⟩
 exact⟨4,128,qH,qF,qF,qF,qH,by rw[show XM [a] 4 128= [a,128,128,128]from rfl,Xr b qF qF qF];omega⟩
def Lk{a b}(c:0<=a/\a<=255)(d:0<=b/\b<=255):Zf [a,b]↔YM a b\/Jd a b:=by
 unfold YM Jd;constructor
 ·rintro ⟨e,f,h,j,k,l,-,g⟩
  have ht:e=3\/e=4:=(by simp at h;omega);rcases ht with rfl | rfl
  ·rw[show XM _ 3 f= [a,b,128]from rfl,Xq c d qF]at g;omega
  rw[show XM _ 4 f= [a,b,128,128]from rfl,Xr c d qF qF]at g;omega
 rintro (i | i)
 ·exact⟨3,128,qH,qF,qF,qF,qH,by rw[show XM _ 3 128= [a,b,128]from rfl,Xq c d qF];omega⟩
 exact⟨4,128,qH,qF,qF,qF,qH,by rw[show XM _ 4 128= [a,b,128,128]from rfl,Xr c d qF qF];omega⟩
def zAz{a b c}(d:0<=a/\a<=255)(e:0<=b/\b<=255)(f:0<=c/\c<=255):Zf [a,b,c]↔Jd a b/\128<=c/\c<=191:=by
 unfold Jd;constructor
 ·rintro ⟨g,h,i,k,l,m,-,j⟩
  have ht:g=4:=(by simp at i;omega);subst ht;rw[show XM _ 4 h= [a,b,c,128]from rfl,Xr d e f qF]at j;omega
 rintro n;exact⟨4,128,qH,qF,qF,qF,qH,by rw[show XM _ 4 128= [a,b,c,128]from rfl,Xr d e f qF];omega⟩
def Ll{bs}(g:bytes bs){k}(v:1<=k)(w:k<=4)(l:k<=bs.length)(c:zg (bs.take k)=true)(t:∀p,1<=p->p<k->zg (bs.take p)=false):step bs=(yS (bs.take k),k):=by
 have o:k=1\/k=2\/k=3\/k=4:=qF
 have q:bs≠ []:=by rintro rfl;simp at l;omega
 rcases shape q with ⟨a,rfl⟩ | ⟨a,b,rfl⟩ | ⟨a,b,e,rfl⟩ | ⟨a,b,e,i,n,rfl⟩
 ·have d:=g a qH
  obtain rfl:k=1:=(by simp at l;omega);rw[show [a].take 1= [a]from rfl,WI d.1]at c;simp[step,c,yS]
 ·have d:=g a qH
  have h:=g b qH;rcases o with rfl | rfl | rfl | rfl
  ·rw[show [a,b].take 1= [a]from rfl,WI d.1]at c
   simp[step,c,yS]
  ·have u:=t 1 qF qF
   rw[show [a,b].take 2= [a,b]from rfl,WJ d h]at c;have f:¬a<128:=qF;simp only[step,xJ f,xS c];rfl
  ·simp at l
  simp at l
 ·have d:=g a qH
  have h:=g b qH;have m:=g e qH;rcases o with rfl | rfl | rfl | rfl
  ·rw[show [a,b,e].take 1= [a]from rfl,WI d.1]at c
   simp[step,c,yS]
  ·rw[show [a,b,e].take 2= [a,b]from rfl,WJ d h]at c
   have f:¬a<128:=qF;simp only[step,xJ f,xS c];rfl
  ·rw[show [a,b,e].take 3= [a,b,e]from rfl,Xq d h m]at c
   have f:¬a<128:=qF;have j:¬ ((194<=a/\a<=223)/\128<=b/\b<=191):=qF;simp only[step,xJ f,xJ j];rw[xS (show YM a b from c.1),xS c.2];rfl
  simp at l
 have d:=g a qH;have h:=g b qH;have m:=g e qH;have r:=g i qH;rcases o with rfl | rfl | rfl | rfl
 ·rw[show(a::b::e::i::n).take 1= [a]from rfl,WI d.1]at c
  simp[step,c,yS]
 ·rw[show(a::b::e::i::n).take 2= [a,b]from rfl,WJ d h]at c
  have f:¬a<128:=qF;simp only[step,xJ f,xS c];rfl
 ·rw[show(a::b::e::i::n).take 3= [a,b,e]from rfl,Xq d h m]at c
  have f:¬a<128:=qF;have j:¬ ((194<=a/\a<=223)/\128<=b/\b<=191):=qF;simp only[step,xJ f,xJ j];rw[xS (show YM a b from c.1),xS c.2];rfl
 rw[show(a::b::e::i::n).take 4= [a,b,e,i]from rfl,Xr d h m r]at c;have f:¬a<128:=qF
 have j:¬ ((194<=a/\a<=223)/\128<=b/\b<=191):=qF
 have s:¬YM a b:=by unfold YM;omega
 simp only[step,xJ f,xJ j,xJ s];rw[xS (show Jd a b from c.1),xS c.2.1,xS c.2.2];rfl
def Db{bs}(k:bytes bs)(D:bs≠ [])(l:∀v,1<=v->v<=4->v<=bs.length->zg (bs.take v)=false)
  {m} (F:1<=m) (G:m<=3) (A:m<=bs.length) (d:m=1\/Zf (bs.take m)) (u:∀w,m<w->w<=3->w<=bs.length->¬Zf (bs.take w)):step bs=(65533,m):=by
 have x:m=1\/m=2\/m=3:=qF
 rcases shape D with ⟨a,rfl⟩ | ⟨a,b,rfl⟩ | ⟨a,b,c,rfl⟩ | ⟨a,b,c,h,p,rfl⟩
 ·have e:=k a qH
  obtain rfl:m=1:=(by simp at A;omega);have i:=l 1 qF qF qH;have q:¬a<128:=λf=>by rw[show [a].take 1= [a]from rfl,(WI e.1).2 f]at i;cases i
  simp[step,q]
 ·have e:=k a qH
  have g:=k b qH;have i:=l 1 qF qF qH;have n:=l 2 qF qF qH;have q:¬a<128:=λf=>by rw[show [a,b].take 1= [a]from rfl,(WI e.1).2 f]at i;cases i
  have r:¬ ((194<=a/\a<=223)/\128<=b/\b<=191):=λf=>by rw[show [a,b].take 2= [a,b]from rfl,(WJ e g).2 f]at n;cases n
  simp only[step,xJ q,xJ r];rcases x with rfl | rfl | rfl
  ·have j:=u 2 qF qF qH
   rw[show [a,b].take 2= [a,b]from rfl,Lk e g]at j;rw[xJ j]
  ·rcases d with d | d
   ·omega
   rw[show [a,b].take 2= [a,b]from rfl,Lk e g]at d;rw[xS d]
  simp at A
 ·have e:=k a qH
  have g:=k b qH;have o:=k c qH;have i:=l 1 qF qF qH;have n:=l 2 qF qF qH;have s:=l 3 qF qF qH;have q:¬a<128:=λf=>by rw[show [a,b,c].take 1= [a]from rfl,(WI e.1).2 f]at i;cases i
  have r:¬ ((194<=a/\a<=223)/\128<=b/\b<=191):=λf=>by rw[show [a,b,c].take 2= [a,b]from rfl,(WJ e g).2 f]at n;cases n
  have B:¬ (YM a b/\128<=c/\c<=191):=λf=>by rw[show [a,b,c].take 3= [a,b,c]from rfl,(Xq e g o).2 f]at s;cases s
  simp only[step,xJ q,xJ r];rcases x with rfl | rfl | rfl
  ·have j:=u 2 qF qF qH
   rw[show [a,b,c].take 2= [a,b]from rfl,Lk e g]at j
   simp_all
  ·have j:=u 3 qF qF qH
   rw[show [a,b,c].take 3= [a,b,c]from rfl,zAz e g o]at j;rcases d with d | d
   ·omega
   rw[show [a,b,c].take 2= [a,b]from rfl,Lk e g]at d;by_cases t:YM a b
   ·simp_all
   simp_all
  rcases d with d | d
  ·omega
  rw[show [a,b,c].take 3= [a,b,c]from rfl,zAz e g o]at d;have t:¬YM a b:=by have:=d.1;unfold Jd at this;unfold YM;omega
  simp_all
 have e:=k a qH;have g:=k b qH;have o:=k c qH;have C:=k h qH;have i:=l 1 qF qF qH;have n:=l 2 qF qF qH;have s:=l 3 qF qF qH;have y:=l 4 qF qF qH;have q:¬a<128:=λf=>by rw[show(a::b::c::h::p).take 1= [a]from rfl,(WI e.1).2 f]at i;cases i
 have r:¬ ((194<=a/\a<=223)/\128<=b/\b<=191):=λf=>by rw[show(a::b::c::h::p).take 2= [a,b]from rfl,(WJ e g).2 f]at n;cases n
 have B:¬ (YM a b/\128<=c/\c<=191):=λf=>by rw[show(a::b::c::h::p).take 3= [a,b,c]from rfl,(Xq e g o).2 f]at s;cases s
 have E:¬ (Jd a b/\(128<=c/\c<=191)/\128<=h/\h<=191):=λf=>by rw[show(a::b::c::h::p).take 4= [a,b,c,h]from rfl,(Xr e g o C).2 f]at y;cases y
 simp only[step,xJ q,xJ r];rcases x with rfl | rfl | rfl
 ·have j:=u 2 qF qF qH
  rw[show(a::b::c::h::p).take 2= [a,b]from rfl,Lk e g]at j
  simp_all
 ·have j:=u 3 qF qF qH
  rw[show(a::b::c::h::p).take 3= [a,b,c]from rfl,zAz e g o]at j;rcases d with d | d
  ·omega
  rw[show(a::b::c::h::p).take 2= [a,b]from rfl,Lk e g]at d;by_cases t:YM a b
  ·simp_all
  have z:=d.resolve_left t;rw[xJ t,xS z,xJ (λf=>j ⟨z,f⟩)]
 rcases d with d | d
 ·omega
 rw[show(a::b::c::h::p).take 3= [a,b,c]from rfl,zAz e g o]at d;have t:¬YM a b:=by have:=d.1;unfold Jd at this;unfold YM;omega
 simp_all
def ye(a:qV):qV:=
 if h:a= []then []else(step a).1::ye (a.drop (step a).2)
termination_by a.length
decreasing_by
 have:=Kl a h;rw[xz];omega
def JP:ye []= []:=by rw[ye];simp
def Pe{bs}(a:bs≠ []):ye bs=(step bs).1::ye (bs.drop (step bs).2):=by rw[ye,dif_neg a]
def YN(bs):(ye bs).length<=bs.length:=by
 by_cases a:bs= []
 ·subst a;simp[JP]
 have c:=Kl bs a;have b:=YN (bs.drop (step bs).2);rw[Pe a];simp at b |-;omega
termination_by bs.length
decreasing_by
 rw[xz];omega
def numZ_le{bs}(d:bytes bs){k}(a:zg (bs.take k)=true):0<=yS (bs.take k)/\yS (bs.take k)<=1114111:=by
 rw[yj]at a;refine⟨a.1,?_⟩;have b:=a.2;rcases jY (yS (bs.take k))with c | c | c | c | c | c
 ·rw[Zu c]at b
  rw[<- b]at c |-;simp[yS]
 all_goals omega
def EZ(c:qV):ByteArray:=c.foldl (λa b=>a.push (UInt8.ofNat b.toNat)) ByteArray.empty
def GH(b:qV)(c:ByteArray):(b.foldl (λd a=>d.push (UInt8.ofNat a.toNat)) c).data.toList=c.data.toList++b.map λa=>UInt8.ofNat a.toNat:=by
 induction b generalizing c with
 | nil=>simp
 | cons a b e=>simp_all
def E4(ns):(EZ ns).data.toList=ns.map λa=>UInt8.ofNat a.toNat:=by
 unfold EZ;rw[GH];rfl
def map_inj{b a}(g:bytes b)(h:bytes a)(c:(b.map λd=>UInt8.ofNat d.toNat)=a.map λd=>UInt8.ofNat d.toNat):b=a:=by
 induction b generalizing a with
 | nil=>simp_all
 | cons i b l=>cases a with
  | nil=>simp at c
  | cons j a=>
   simp at c;have m:=g i qH;have n:=h j qH
   have k:i=j:=by
    have:=ko UInt8.toNat c.1;simp at this;omega
   rw[k,l (λe f=>g e (by simp[f])) (λe f=>h e (by simp[f])) c.2]
def WK(a:ByteArray):a.toList=a.data.toList:=by
 exact ByteArray.toList_eq a
def Tt{xs ys}(c:bytes xs)(d:bytes ys):((EZ xs).toList==(EZ ys).toList)=decide (xs=ys):=by
 rw[WK,WK,E4,E4];by_cases a:xs=ys
 ·subst a;simp
 rw[decide_eq_false a,beq_eq_false_iff_ne];exact λb=>a (map_inj c d b)
def Dc{w v zs}(a:Rd .u8 w v zs)(g:0<zs.length):(convert 40 9 v).run prog w= .ok (.string (EZ zs)) w:=by
 rcases a with ⟨_,_,_,rfl⟩ | ⟨k,l,d,rfl,_,h⟩
 ·simp at g
 rw[run_convert_bytes_string w 40 9 5 _ _ d underlying40 underlying5 underlying9];refine run_bytesToString w _ _ d zs ?_
 have e:=run_loadCells_list (P:=prog) (w:=w) _ (zs.map (Value.int .u8)) (λb j c=>by
  rw[yF];simp at c;obtain⟨m,i,rfl⟩:=c
  have f:b<zs.length:=by
   rcases vV b zs.length with a | a
   ·exact a
   simp_all
  rw[h b f,xP,i];rfl)
 simpa using e
def UR(xs ys)(v u)(w)(a:Rd .u8 w v xs)(b:Rd .u8 w u ys)(e:bytes xs)(f:bytes ys)(g:0<xs.length)(h:0<ys.length):
  Calls prog 174 #[v,u] w λc d=>c=qQ (.bool (decide (xs=ys)))/\d=w:=by
 have i:=Dc a g;have j:=Dc b h;rw[<- Tt e f];generalize EZ xs=k at *;generalize EZ ys=l at *;clear a b;go_enter func174,ntmps174;go_wp2;go_ret;simp
def l1b_bad(r)(w)(a:r<0\/1114111<r\/(55296<=r/\r<=57343))(h: -2147483648<=r)(i:r<2147483648):
  Calls prog 175 #[qC r] w λc d=>c=qQ (qM (qD w.heap.size 0) 3 3)/\d=w.alloc (qR #[.int .u8 239,.int .u8 191,.int .u8 189] 5):=by
 rcases a with a | a | a
 ·have b:=a
  go_enter func175,ntmps175;go_wp2;go_ret;simp
 ·have b:¬r<0:=qF
  go_enter func175,ntmps175;go_wp2;go_ret;simp
 have b:¬r<0:=qF
 have e:¬1114111<r:=qF
 have f:=a.1;have g:=a.2;clear a;go_enter func175,ntmps175;go_wp2;go_ret;simp
def l1b_one(r)(w)(f:0<=r)(g:r<128):
  Calls prog 175 #[qC r] w λa b=>a=qQ (qM (qD w.heap.size 0) 1 1)/\b=w.alloc (qR #[.int .u8 r] 5):=by
 have c:¬r<0:=qF
 have d:¬1114111<r:=qF
 have e:¬55296<=r:=qF
 go_enter func175,ntmps175;go_wp2;go_ret;simp
def l1b_two(r)(w)(f:128<=r)(g:r<2048):
  Calls prog 175 #[qC r] w λa b=>a=qQ (qM (qD w.heap.size 0) 2 2)/\b=w.alloc (qR #[.int .u8 (192+r/64),.int .u8 (128+r%64)] 5):=by
 have c:¬r<0:=qF
 have d:¬1114111<r:=qF
 have e:¬55296<=r:=qF
 go_enter func175,ntmps175;go_wp2;go_ret;simp
def Pf(r)(w)(h:2048<=r)(i:r<65536)(a:r<55296\/57343<r):
  Calls prog 175 #[qC r] w λc d=>c=qQ (qM (qD w.heap.size 0) 3 3)/\d=w.alloc (qR #[.int .u8 (224+r/4096),.int .u8 (128+r/64%64),.int .u8 (128+r%64)] 5):=by
 have e:¬r<0:=qF
 have f:¬1114111<r:=qF
 rcases a with a | a
 ·have b:¬55296<=r:=qF
  go_enter func175,ntmps175;go_wp2;go_ret;simp
 have b:55296<=r:=qF
 have g:¬r<=57343:=qF
 go_enter func175,ntmps175;go_wp2;go_ret;simp
def Tu(r)(w)(g:65536<=r)(h:r<=1114111):
  Calls prog 175 #[qC r] w λa b=>a=qQ (qM (qD w.heap.size 0) 4 4)/\b=w.alloc (qR #[.int .u8 (240+r/262144),.int .u8 (128+r/4096%64),.int .u8 (128+r/64%64),.int .u8 (128+r%64)] 5):=by
 have c:¬r<0:=qF
 have d:¬1114111<r:=qF
 have e:55296<=r:=qF
 have f:¬r<=57343:=qF
 go_enter func175,ntmps175;go_wp2;go_ret;simp
def l1b(r)(w)(d: -2147483648<=r)(e:r<2147483648):
  Calls prog 175 #[qC r] w λb c=>b=qQ (qM (qD w.heap.size 0) (ZX r).length (ZX r).length)/\c=w.alloc (qR (zI .u8 (ZX r)).toArray 5):=by
 rcases jY r with a | a | a | a | a | a
 ·rw[Zu a];exact l1b_bad r w a d e
 ·rw[Zv a.1 a.2];exact l1b_one r w a.1 a.2
 ·rw[ZY a.1 a.2];exact l1b_two r w a.1 a.2
 ·rw[yP a.1 qF (.inl a.2)];exact Pf r w a.1 qF (.inl a.2)
 ·rw[yP qF a.2 (.inr a.1)];exact Pf r w qF a.2 (.inr a.1)
 rw[ZG a.1 a.2];exact Tu r w a.1 a.2
def Yq(r):bytes (ZX r):=by
 intro c b;rcases jY r with a | a | a | a | a | a
 ·rw[Zu a]at b;simp at b;omega
 ·rw[Zv a.1 a.2]at b;simp at b;omega
 ·rw[ZY a.1 a.2]at b;simp at b;omega
 ·rw[yP a.1 qF (.inl a.2)]at b;simp at b;omega
 ·rw[yP qF a.2 (.inr a.1)]at b;simp at b;omega
 rw[ZG a.1 a.2]at b;simp at b;omega
def zB0(r)(w)(h: -2147483648<=r)(i:r<2147483648):
  Calls prog 175 #[qC r] w λb a=>∃c,b=qQ c/\Rd .u8 a c (ZX r)/\qY w a:=
 (l1b r w h i).mono λb a⟨e,f⟩=>by
  subst f;refine⟨_,e,?_,(xe _ _).alloc lR _⟩;have j:=Z0 r;refine .inr ⟨_,0,_,rfl,⟨qF,lR,qK⟩,λd g=>?_⟩;have:=zV w 5 (zI .u8 (ZX r)) d (.int .u8 ((ZX r).getD d 0)) (by simp[zI,xw g]);rw[yF]at this;exact this
def l1Form1(a)(v)(w)(c:Rd .u8 w v [a])(f:bytes [a]):
  Calls prog 154 #[v] w λd y=>∃l,d=qQ (.tuple #[qC l,.bool (zg [a])])/\(zg [a]=true->l=yS [a])/\qY w y:=by
 obtain⟨G,H⟩:=f a qH;have o:=zC c;have p:=zC f;rcases c with ⟨_,_,_,d⟩ | ⟨z,A,I,rfl,B,m⟩
 ·cases d
 simp only[vh,ke]at *;have E:w.cell? (qP z A)=some (.int .u8 a):=m 0 qH;clear m B f;have q:¬a<0:=qF
 have g:decide (ZX (a)= [a])=zg [a]:=by
  rw[Bool.eq_iff_iff,yj,decide_eq_true_iff];simp only[yS];exact⟨λc=>⟨qF,c⟩,λc=>c.2⟩
 have h:yS [a]=a:=rfl;rw[<- g,h];clear g h;have i:=Yq (a);have j:=Z0 (a);obtain⟨e,C⟩:∃e,e=a:=⟨_,rfl⟩
 subst C;have r:e<2147483648:=qF
 have F:¬e<0:=qF
 clear q;have s:=zC j;have t:=zC i;clear j i;go_enter func154,ntmps154;go_wp2_with fail;refine(zB0 e _ qF r).mono ?_;rintro d D ⟨J,rfl,n,b⟩;have HR:=zC n;have u:=zC ((o.cells rfl).below b);have k:Below _ w D:=⟨b.os,b.tape,b.output,b.size,b.block⟩
 have x:=zC k;clear n b k;go_wp2_with fail;refine(UR _ _ _ _ _ HR u t p (by have:=s.out;omega) qH).mono ?_;rintro d K ⟨rfl,rfl⟩;go_wp2;go_ret2;exact⟨_,rfl,λ_=>rfl,x⟩
def l1Form2(a b)(v)(w)(c:Rd .u8 w v [a,b])(g:bytes [a,b]):
  Calls prog 154 #[v] w λe n=>∃o,e=qQ (.tuple #[qC o,.bool (zg [a,b])])/\(zg [a,b]=true->o=yS [a,b])/\qY w n:=by
 obtain⟨I,J⟩:=g a qH;obtain⟨K,d⟩:=g b qH;have q:=zC c;have r:=zC g;rcases c with ⟨_,_,_,e⟩ | ⟨A,B,L,rfl,C,i⟩
 ·cases e
 simp only[vh,ke]at *;have E:w.cell? (qP A B)=some (.int .u8 a):=i 0 qH;have F:w.cell? _=some (.int .u8 b):=i 1 qH;clear i C g;by_cases z:(a-192)*64+b-128<0
 ·have f:zg [a,b]=false:=by
   rw[Bool.eq_false_iff,ne_eq,yj];simp only[yS];omega
  rw[f];go_enter func154,ntmps154;go_wp2;go_quiet (fail);go_wp2;go_ret2;exact⟨_,rfl,(λc=>by cases c),⟨rfl,rfl,rfl,lR,λ_ _=>rfl⟩⟩
 have f:decide (ZX ((a-192)*64+b-128)= [a,b])=zg [a,b]:=by
  rw[Bool.eq_iff_iff,yj,decide_eq_true_iff];simp only[yS];exact⟨λc=>⟨qF,c⟩,λc=>c.2⟩
 have j:yS [a,b]=(a-192)*64+b-128:=rfl;rw[<- f,j];clear f j;have k:=Yq ((a-192)*64+b-128);have l:=Z0 ((a-192)*64+b-128);generalize H:(a-192)*64+b-128=h at *;have G:0<=h:=qF
 have s:h<2147483648:=qF
 clear z;have t:=zC l;have u:=zC k;clear l k;go_enter func154,ntmps154;go_wp2_with fail;go_quiet (fail);go_wp2_with fail;refine(zB0 h _ qF s).mono ?_;rintro e D ⟨M,rfl,p,d⟩;have HR:=zC p;have x:=zC ((q.cells (w':=w.drewN nq) rfl).below d);have m:qY w D:=⟨d.os,d.tape,d.output,d.size,d.block⟩
 have y:=zC m;clear p d m;go_wp2_with fail;refine(UR _ _ _ _ _ HR x u r (by have:=t.out;omega) qH).mono ?_;rintro e N ⟨rfl,rfl⟩;go_wp2;go_ret2;exact⟨_,rfl,λ_=>rfl,y⟩
def l1Form3(a b c)(v)(w)(d:Rd .u8 w v [a,b,c])(g:bytes [a,b,c]):
  Calls prog 154 #[v] w λf o=>∃p,f=qQ (.tuple #[qC p,.bool (zg [a,b,c])])/\(zg [a,b,c]=true->p=yS [a,b,c])/\qY w o:=by
 obtain⟨K,L⟩:=g a qH;obtain⟨M,e⟩:=g b qH;obtain⟨N,O⟩:=g c qH;have r:=zC d;have s:=zC g;rcases d with ⟨_,_,_,f⟩ | ⟨B,C,P,rfl,D,i⟩
 ·cases f
 simp only[vh,ke]at *;have F:w.cell? (qP B C)=some (.int .u8 a):=i 0 qH;have G:w.cell? _=some (.int .u8 b):=i 1 qH;have H:w.cell? _=some (.int .u8 c):=i 2 qH;clear i D g;by_cases A:(a-224)*4096+(b-128)*64+c-128<0
 ·have h:zg [a,b,c]=false:=by
   rw[Bool.eq_false_iff,ne_eq,yj];simp only[yS];omega
  rw[h];go_enter func154,ntmps154;go_wp2;go_quiet (fail);go_wp2;go_ret2;exact⟨_,rfl,(λd=>by cases d),⟨rfl,rfl,rfl,lR,λ_ _=>rfl⟩⟩
 have h:decide (ZX ((a-224)*4096+(b-128)*64+c-128)= [a,b,c])=zg [a,b,c]:=by
  rw[Bool.eq_iff_iff,yj,decide_eq_true_iff];simp only[yS];exact⟨λd=>⟨qF,d⟩,λd=>d.2⟩
 have k:yS [a,b,c]=(a-224)*4096+(b-128)*64+c-128:=rfl;rw[<- h,k];clear h k;have l:=Yq ((a-224)*4096+(b-128)*64+c-128);have m:=Z0 ((a-224)*4096+(b-128)*64+c-128);generalize J:(a-224)*4096+(b-128)*64+c-128=j at *;have I:0<=j:=qF
 have t:j<2147483648:=qF
 clear A;have u:=zC m;have x:=zC l;clear m l;go_enter func154,ntmps154;go_wp2_with fail;go_quiet (fail);go_wp2_with fail;refine(zB0 j _ qF t).mono ?_;rintro f E ⟨Q,rfl,q,e⟩;have HR:=zC q;have y:=zC ((r.cells (w':=w.drewN nq) rfl).below e);have n:qY w E:=⟨e.os,e.tape,e.output,e.size,e.block⟩
 have z:=zC n;clear q e n;go_wp2_with fail;refine(UR _ _ _ _ _ HR y x s (by have:=u.out;omega) qH).mono ?_;rintro f R ⟨rfl,rfl⟩;go_wp2;go_ret2;exact⟨_,rfl,λ_=>rfl,z⟩
def l1Form4(a b c d)(v)(w)(e:Rd .u8 w v [a,b,c,d])(g:bytes [a,b,c,d]):
  Calls prog 154 #[v] w λh p=>∃q,h=qQ (.tuple #[qC q,.bool (zg [a,b,c,d])])/\(zg [a,b,c,d]=true->q=yS [a,b,c,d])/\qY w p:=by
 obtain⟨M,N⟩:=g a qH;obtain⟨O,f⟩:=g b qH;obtain⟨P,Q⟩:=g c qH;obtain⟨R,S⟩:=g d qH;have s:=zC e;have t:=zC g;rcases e with ⟨_,_,_,h⟩ | ⟨C,D,T,rfl,E,i⟩
 ·cases h
 simp only[vh,ke]at *;have G:w.cell? (qP C D)=some (.int .u8 a):=i 0 qH;have H:w.cell? _=some (.int .u8 b):=i 1 qH;have I:w.cell? _=some (.int .u8 c):=i 2 qH;have J:w.cell? _=some (.int .u8 d):=i 3 qH;clear i E g;by_cases B:(a-240)*262144+(b-128)*4096+(c-128)*64+d-128<0
 ·have j:zg [a,b,c,d]=false:=by
   rw[Bool.eq_false_iff,ne_eq,yj];simp only[yS];omega
  rw[j];go_enter func154,ntmps154;go_wp2;go_quiet (fail);go_wp2;go_ret2;exact⟨_,rfl,(λe=>by cases e),⟨rfl,rfl,rfl,lR,λ_ _=>rfl⟩⟩
 have j:decide (ZX ((a-240)*262144+(b-128)*4096+(c-128)*64+d-128)= [a,b,c,d])=zg [a,b,c,d]:=by
  rw[Bool.eq_iff_iff,yj,decide_eq_true_iff];simp only[yS];exact⟨λe=>⟨qF,e⟩,λe=>e.2⟩
 have l:yS [a,b,c,d]=(a-240)*262144+(b-128)*4096+(c-128)*64+d-128:=rfl;rw[<- j,l];clear j l;have m:=Yq ((a-240)*262144+(b-128)*4096+(c-128)*64+d-128);have n:=Z0 ((a-240)*262144+(b-128)*4096+(c-128)*64+d-128);generalize L:(a-240)*262144+(b-128)*4096+(c-128)*64+d-128=k at *;have K:0<=k:=qF
 have u:k<2147483648:=qF
 clear B;have x:=zC n;have y:=zC m;clear n m;go_enter func154,ntmps154;go_wp2_with fail;go_quiet (fail);go_wp2_with fail;refine(zB0 k _ qF u).mono ?_;rintro h F ⟨U,rfl,r,f⟩;have HR:=zC r;have z:=zC ((s.cells (w':=w.drewN nq) rfl).below f);have o:qY w F:=⟨f.os,f.tape,f.output,f.size,f.block⟩
 have A:=zC o;clear r f o;go_wp2_with fail;refine(UR _ _ _ _ _ HR z y t (by have:=x.out;omega) qH).mono ?_;rintro h V ⟨rfl,rfl⟩;go_wp2;go_ret2;exact⟨_,rfl,λ_=>rfl,A⟩
def GI(q)(v)(w)(c:Rd .u8 w v q)(d:bytes q)(j:1<=q.length)(m:q.length<=4):
  Calls prog 154 #[v] w λh i=>∃f,h=qQ (.tuple #[qC f,.bool (zg q)])/\(zg q=true->f=yS q)/\qY w i:=by
 have g:q≠ []:=by rintro rfl;simp at j
 rcases shape g with ⟨a,rfl⟩ | ⟨a,b,rfl⟩ | ⟨a,b,e,rfl⟩ | ⟨a,b,e,k,l,rfl⟩
 ·exact l1Form1 a v w c d
 ·exact l1Form2 a b v w c d
 ·exact l1Form3 a b e v w c d
 obtain rfl:l= []:=by simp_all
 exact l1Form4 a b e k v w c d
def Tryz.infoD:(prog.info? 5).map (λa=>(a.zero,a.size,a.bytes))=some (some (.int .u8 0),1,1):=qI
def Dd(a:qV)(b:Int):qV:=if a.length=1 then a++ [b]else a
def GJ(q)(t)(s):XM q t s=Dd q s++List.replicate (t-(Dd q s).length) 128:=rfl
def Tv{d:qS}{e f cap:Nat}{q}(g:∀a,a<q.length->d.cell? (qP e (f+a))=some (.int .u8 (q.getD a 0))):
  ∀b c,(zI .u8 q)[b]?=some c->d.cell? (((qP e f):Addr).add b)=some c:=by
 have:=ZE (o:=0) (l:=q.length) g;simpa using this
def lenOf:qT->Nat | .slice _ a _=>a | _=>0
def Zx{c:qS}{base e v n xs}(d:c.ownsRow base e 1 v n xs)(f:0<n):∃a b,v= .slice (qD a 0) n b:=by
 rcases d.2 with ⟨_,g⟩ | ⟨a,b,h,i,_⟩
 ·omega
 simp_all
def Df(a:qV)(j):a++List.replicate j 128++ [128]=a++List.replicate (j+1) 128:=by
 rw[vK,List.replicate_succ']
def Dg{q s}(a:bytes q)(e:0<=s)(f:s<=255):bytes (Dd q s):=by
 unfold Dd;split
 ·intro c d
  rcases vD.1 d with b | b
  ·exact a c b
  simp_all
 exact a
def Pg{q t s}(d:bytes q)(e:0<=s)(f:s<=255):bytes (XM q t s):=by
 rw[GJ];intro b c;rcases vD.1 c with a | a
 ·exact Dg d e f b a
 simp_all
def Lm(a)(v)(w)(C:Rd .u8 w v [a])(ad:bytes [a]):
  Calls prog 155 #[v] w λk a4=>∃Y:Bool,k=qQ (.bool Y)/\(Y=true↔Zf [a])/\qY w a4:=by
 obtain⟨D,l,E,F,G⟩:=vw Tryz.infoD;rcases C with ⟨_,_,_,k⟩ | ⟨ba,bq,H,rfl,ae,I⟩
 ·cases k
 have ak:ba<w.heap.size:=vQ w _ (I 0 ae.1);have al:=zC (λa5(a6:Below _ w a5)=>Tv (cap:=H) (λf l=>(a6.cell ak).trans (I f l)));have am:=zC ad;clear I ad ae;rw[show([a]).length=1 from rfl];go_enter func155,ntmps155;go_wp2
 go_loopw [3] (λf wr=>∃c:Nat,1<c/\c<=5/\f=qC c/\(∀(g:Nat)(b:Int),1<g->g<c->128<=b->b<192->(1<1->b=128)->zg (XM [a] g b)=false)/\qY w wr)
  (λf _=>5-(intOf f).toNat)
 case atStart=>exact⟨1+1,qF,qF,qL,λg b a7 a8=>qF,xe _ _⟩
 obtain⟨c,bc,br,rfl,af,ag⟩:=hrel;have L:=zC af;have M:=zC ag;clear af ag;by_cases a3:c<=4
 ·have bg:decide ((c:Int)<=4)=true:=qJ
  go_wp2;obtain⟨Z,rfl⟩:∃Z:qS,Z=wr:=⟨_,rfl⟩
  go_loopw [4] (λf wx=>∃b:Nat,128<=b/\b<=192/\(1<1->b=128)/\f=qC b/\(∀d:Int,128<=d->d<b->zg (XM [a] c d)=false)/\qY w wx)
   (λf _=>192-(intOf f).toNat)
  case atStart=>exact⟨128,qF,qF,λ_=>rfl,rfl,λd a7 a8=>qF,M⟩
  obtain⟨b,Q,bs,j,rfl,ah,J⟩:=hrel;have N:=zC ah;have t:=zC J;have o:=J.size;have bh:=zC j;clear ah J j;by_cases bn:b<192
  ·have an:=zC (Pg (t:=c) am (show(0:Int)<=b by omega) qF)
   have ao:=zC (show XM [a] c b= [a,b]++List.replicate (c-2) 128 by rw[GJ];rfl);have u:=zC (al (wr.alloc (qR #[] 5)) (t.alloc o _));have ap:=zC (kr (e:=5) (size:=1) wr #[] 0 o (xK _) rfl)
   go_wp2_with (first
    |(at_builtin;have _t:=u;refine xM _ rfl _ _ 40 rfl _ 5 D _ 1 1 underlying40 l E F G rfl qG _ 0 [] rfl ap _ 1 H _ rfl (by simp[zI]) u (zJ _ _) qK qF qJ ?_;intro bi a1 p V _;clear u;rw[xX,vq]at p;obtain⟨i,bt,rfl⟩:=Zx p qF;have O:=zC p;have P:=zC ((t.alloc o _).grown V qJ (λs m=>by cases m;exact o));have Q:=P.size;clear p V)
    |(at_builtin;refine xM _ rfl _ _ 40 rfl _ 5 D _ 1 1 underlying40 l E F G rfl qG _ _ _ rfl (O.alloc _) _ 1 1 _ rfl rfl (zV a1 5 _) (zJ .u8 [b]) qK qF qJ ?_;intro bj a2 y W _;obtain⟨A,bd,rfl⟩:=Zx y qF))
   have aq:=zC ((P.alloc Q _).grown W qJ (λs m=>(O.lt s m).1));have ar:=zC (show a2.ownsRow _ 5 1 (qM _ 2 bd) 2 (zI .u8 [a,b])from y);clear y W;obtain⟨aa,rfl⟩:∃aa:qS,aa=wr:=⟨_,rfl⟩
   go_loopw [5] (λz wy=>∃e ab ac:Nat,2+e<=c/\z= .slice (qD ab 0) (2+e) ac/\wy.ownsRow w.heap.size 5 1 (qM (qD ab 0) (2+e) ac) (2+e) (zI .u8 ([a,b]++List.replicate e 128))/\qY w wy)
    (λz _=>c-lenOf z)
   case atStart=>exact⟨0,_,_,qF,rfl,by simpa using ar.out,aq⟩
   obtain⟨e,h,bu,bv,rfl,ai,K⟩:=hrel;have x:=zC ai;have R:=zC K;have j:=K.size;clear ai K;by_cases bp:2+e<c
   ·go_wp2_with (at_builtin;refine xM _ rfl _ _ 40 rfl _ 5 D _ 1 1 underlying40 l E F G rfl qG _ _ _ rfl (x.alloc _) _ 1 1 _ rfl rfl (zV wr 5 _) (zJ .u8 [128]) qK qF qJ ?_;intro bk bl q X _;obtain⟨n,bf,rfl⟩:=Zx q qF)
    have au:=zC ((R.alloc j _).grown X qJ (λs m=>(x.lt s m).1));have S:zI .u8 ([a,b]++List.replicate e 128)++ [.int .u8 128]=zI .u8 ([a,b]++List.replicate (e+1) 128):=(by rw[<- Df];simp[zI]);rw[S]at q;have av:=zC q;clear q X S;go_wp2;go_roundw
    case rel=>exact⟨_,n,bf,qF,rfl,av,au⟩
    simp[lenOf];omega
   have T:=zC (show wr.ownsRow _ 5 1 _ _ (zI .u8 (XM [a] c b))by
    rw[ao.out,show c-2=e by omega];exact x)
   have aw:(XM [a] c b).length=c:=(by have:=T.1;rw[zG]at this;omega);have ax:1<=(XM [a] c b).length:=qF;have ay:(XM [a] c b).length<=4:=qF;clear aw;go_wp2_with fail;refine(GI _ _ _ (Rd.qa T) an ax ay).mono ?_;rintro k bw ⟨bx,rfl,-,aj⟩;have U:=zC (R.trans (aj.mono j));clear aj;cases hok:zg _ with
   | true=>
    go_wp2;go_ret;exact⟨true,rfl,⟨λ_=>⟨c,b,bc,a3,qF,qF,λa9=>by simp_all,hok⟩,λ_=>rfl⟩,U⟩
   | false=>
    have az:=zC hok;clear hok;go_wp2;go_roundw
    case rel=>
     have a0:∀d:Int,128<=d->d<((b+1:Nat))->zg _=false:=λd i A=>by
      by_cases h:d=b
      ·rw[h];exact az
      exact N d i qF
     exact⟨_,qF,qF,λa9=>qF,qL,a0,U⟩
    simp[intOf];omega
  obtain rfl:b=192:=qF;go_wp2;go_roundw
  case rel=>exact⟨c+1,qF,qF,qL,λg d i A h n B=>by
   by_cases r:g=c
   ·subst r;exact N d h qF
   exact L g d i qF h n B,t⟩
  simp[intOf];omega
 go_wp2;go_ret;refine⟨false,rfl,⟨(λC=>by cases C),?_⟩,M⟩;rintro ⟨g,b,i,A,h,n,B,r⟩;rw[L.out g b i qF h n B]at r;cases r
def Lo(q)(v)(w)(B:Rd .u8 w v q)(U:bytes q)(y:2<=q.length)(bi:q.length<=3):
  Calls prog 155 #[v] w λh ay=>∃O:Bool,h=qQ (.bool O)/\(O=true↔Zf q)/\qY w ay:=by
 obtain⟨V,n,W,X,Y⟩:=vw Tryz.infoD;rcases B with ⟨_,_,_,h⟩ | ⟨a4,bj,C,rfl,Z,D⟩
 ·subst h;simp at y
 have af:a4<w.heap.size:=vQ w _ (D 0 Z.1);have ag:=zC (λaz(a0:Below _ w az)=>Tv (cap:=C) (λd n=>(a0.cell af).trans (D d n)));have ah:=zC U;clear D U Z;go_enter func155,ntmps155;go_wp2
 go_loopw [3] (λd wr=>∃a:Nat,q.length<a/\a<=5/\d=qC a/\(∀(e:Nat)(b:Int),q.length<e->e<a->128<=b->b<192->(1<q.length->b=128)->zg (XM q e b)=false)/\qY w wr)
  (λd _=>5-(intOf d).toNat)
 case atStart=>exact⟨q.length+1,qF,qF,qL,λe b a1 y=>qF,xe _ _⟩
 obtain⟨a,a5,bk,rfl,aa,ab⟩:=hrel;have G:=zC aa;have H:=zC ab;clear aa ab;by_cases ax:a<=4
 ·have a7:decide ((a:Int)<=4)=true:=qJ
  go_wp2;obtain⟨P,rfl⟩:∃P:qS,P=wr:=⟨_,rfl⟩
  go_loopw [4] (λd wx=>∃b:Nat,128<=b/\b<=192/\(1<q.length->b=128)/\d=qC b/\(∀f:Int,128<=f->f<b->zg (XM q a f)=false)/\qY w wx)
   (λd _=>192-(intOf d).toNat)
  case atStart=>exact⟨128,qF,qF,λ_=>rfl,rfl,λf a1 y=>qF,H⟩
  obtain⟨b,bl,bn,g,rfl,ac,E⟩:=hrel;have a8:=zC ac;have I:=zC E;have j:=E.size;have s:=zC g;clear ac E g;by_cases bg:b<192
  ·have ai:=zC (Pg (t:=a) ah (show(0:Int)<=b by omega) qF)
   have aj:=zC (show XM q a b=q++List.replicate _ 128 by rw[GJ];unfold Dd;rw[xJ qF]);have t:=zC (ag (wr.alloc (qR #[] 5)) (I.alloc j _));have ak:=zC (kr (e:=5) (size:=1) wr #[] 0 j (xK _) rfl);have a9:((q.length:Int)==1)=false:=qJ;go_wp2_with (at_builtin;have _t:=t;refine xM _ rfl _ _ 40 rfl _ 5 V _ 1 1 underlying40 n W X Y rfl qG _ 0 [] rfl ak _ _ C _ rfl (by simp[zI]) t (zJ _ _) qK qF qJ ?_;intro ba bc k x _;clear t;rw[xX,vq]at k;obtain⟨o,bp,rfl⟩:=Zx k qF;have al:=zC k;have am:=zC ((I.alloc j _).grown x qJ (λQ z=>by cases z;exact j));clear k x);obtain⟨R,rfl⟩:∃R:qS,R=wr:=⟨_,rfl⟩
   go_loopw [5] (λA wy=>∃c S T:Nat,q.length+c<=a/\A= .slice (qD S 0) (q.length+c) T/\wy.ownsRow w.heap.size 5 1 (qM (qD S 0) (q.length+c) T) (q.length+c) (zI .u8 (q++List.replicate c 128))/\qY w wy)
    (λA _=>a-lenOf A)
   case atStart=>exact⟨0,_,_,qF,rfl,by simpa using al.out,am⟩
   obtain⟨c,p,bq,br,rfl,ad,F⟩:=hrel;have u:=zC ad;have J:=zC F;have g:=F.size;clear ad F;by_cases bh:q.length+c<a
   ·go_wp2_with (at_builtin;refine xM _ rfl _ _ 40 rfl _ 5 V _ 1 1 underlying40 n W X Y rfl qG _ _ _ rfl (u.alloc _) _ 1 1 _ rfl rfl (zV wr 5 _) (zJ .u8 [128]) qK qF qJ ?_;intro bd bf l N _;obtain⟨i,a6,rfl⟩:=Zx l qF)
    have an:=zC ((J.alloc g _).grown N qJ (λQ z=>(u.lt Q z).1));have K:zI .u8 (q++List.replicate c 128)++ [.int .u8 128]=zI .u8 (q++List.replicate (c+1) 128):=(by rw[<- Df];simp[zI]);rw[K]at l;have ao:=zC l;clear l N K;go_wp2;go_roundw
    case rel=>exact⟨_,i,a6,qF,rfl,ao,an⟩
    simp[lenOf];omega
   have L:=zC (show wr.ownsRow _ 5 1 _ _ (zI .u8 (XM q a b))by
    rw[aj.out,show a-q.length=c by omega];exact u)
   have ap:(XM q a b).length=a:=(by have:=L.1;rw[zG]at this;omega);have aq:1<=(XM q a b).length:=qF;have ar:(XM q a b).length<=4:=qF;clear ap;go_wp2_with fail;refine(GI _ _ _ (Rd.qa L) ai aq ar).mono ?_;rintro h bs ⟨bt,rfl,-,ae⟩;have M:=zC (J.trans (ae.mono g));clear ae;cases hok:zg _ with
   | true=>
    go_wp2;go_ret;exact⟨true,rfl,⟨λ_=>⟨a,b,a5,ax,qF,qF,λa2=>by have:=s a2;omega,hok⟩,λ_=>rfl⟩,M⟩
   | false=>
    have au:=zC hok;clear hok;have x:(1:Int)<q.length:=qF;go_wp2;go_roundw
    case rel=>exact⟨a+1,qF,qF,qL,λe f o a3 p i r=>by
     by_cases m:e=a
     ·subst m
      have av:=r qF;have aw:=s qF;subst aw;rw[av];exact au
     exact G e f o qF p i r,M⟩
    simp[intOf];omega
  obtain rfl:b=192:=qF;have:=s qF;omega
 go_wp2;go_ret;refine⟨false,rfl,⟨(λB=>by cases B),?_⟩,H⟩;rintro ⟨e,b,o,a3,p,i,r,m⟩;rw[G.out e b o qF p i r]at m;cases m
def Dh(q)(v)(w)(b:Rd .u8 w v q)(c:bytes q)(i:1<=q.length)(g:q.length<=3):
  Calls prog 155 #[v] w λe f=>∃a:Bool,e=qQ (.bool a)/\(a=true↔Zf q)/\qY w f:=by
 by_cases d:q.length=1
 ·obtain⟨h,rfl⟩:=List.length_eq_one_iff.1 d
  exact Lm h v w b c
 exact Lo q v w b c qF g
def E5{a r}(b:a<128):step (a::r)=(a,1):=by
 rcases shape (show a::r≠ []by simp)with ⟨x,e⟩ | ⟨x,y,e⟩ | ⟨x,y,z,e⟩ | ⟨x,y,z,u,q,e⟩
 all_goals
  cases e;simp[step,b]
def rd_take{w b off cap k}{a:qV}(e:∀c,c<a.length->w.cell? (qP b (off+c))=some (.int .u8 (a.getD c 0)))(h:1<=k)(i:k<=a.length)(j:a.length<=cap)(f:cap<=maxLen):Rd .u8 w (qM (qD b off) k cap) (a.take k):=by
 have d:(a.take k).length=k:=by rw[xi];omega
 refine .inr ⟨b,off,cap,by rw[d],⟨qF,qF,f⟩,λc g=>?_⟩;rw[e c qF,xP,xP,vf,xS qF]
def XN{bs}(c:bytes bs)(k):bytes (bs.take k):=λa b=>c a (vO b)
def l1Step(bs)(v)(w)(K:Rd .u8 w v bs)(M:bytes bs)(y:bs≠ [])(az:bs.length<=1048576):
  Calls prog 126 #[v] w λr aq=>r=qQ (.tuple #[.int .i32 (step bs).1,qC (step bs).2])/\qY w aq:=by
 have ay:=kK.2 y;rcases K with ⟨_,_,_,r⟩ | ⟨ac,aw,a0,rfl,⟨ad,ax,ae⟩,F⟩
 ·exact absurd r y
 have al:ac<w.heap.size:=vQ w _ (F 0 ad);have S:=M (bs.getD 0 0) (by simp_all);have am:w.cell? (qP ac aw)=some _:=F 0 ad
 have T:bs.getD 0 0<128->step bs=(bs.getD 0 0,1):=by
  cases bs with
  | nil=>exact absurd rfl y
  | cons aa G=>exact λK=>E5 K
 have H:=zC T;generalize bs.getD 0 0=aa at am S H;obtain⟨a1,a2⟩:=S;clear T;by_cases ap:aa<128
 ·rw[H.out ap]
  go_enter func126,ntmps126;go_wp2;go_ret2;exact⟨rfl,xe _ _⟩
 have I:=zC (λar(au:Below _ w ar)a E o=>rd_take (k:=a) (λd av=>(au.cell al).trans (F d av)) E o ax ae);have m:=zC M;have U:=zC y;unfold maxLen at ae;clear F M y H;go_enter func126,ntmps126;go_wp2;go_loopw [4] (λd wr=>∃a:Nat,1<=a/\a<=5/\a<=bs.length+1/\d=qC a/\(∀b,1<=b->b<a->zg (bs.take b)=false)/\qY w wr) (λd _=>5-(intOf d).toNat)
 case atStart=>exact⟨1,qF,qF,qF,rfl,λb E ab=>qF,xe _ _⟩
 obtain⟨a,s,af,ag,rfl,ah,f⟩:=hrel;have C:=zC ah;have D:=zC f;have an:=f.size;clear ah f;by_cases o:a<=4/\a<=bs.length
 ·obtain⟨N,t⟩:=o
  have V:(a:Int)<=4:=qF;have W:(a:Int)<=bs.length:=qF;have X:(bs.take a).length=a:=(by rw[xi];omega);have h:=zC X;clear X;go_wp2_with fail;refine(GI _ _ _ (I wr D a s t) (XN m a) (by rw[h.out];omega) (by rw[h.out];omega)).mono ?_;rintro r ai ⟨a3,rfl,O,g⟩;have i:=zC (D.trans (g.mono an));cases hok:zg _ with
  | true=>
   have hst:=Ll m s N t hok C;have Y:=numZ_le m hok;rw[<- O hok]at hst Y;obtain⟨a4,a5⟩:=Y;have q:=zC hst;clear hst g O hok;go_wp2;go_ret2;exact⟨by rw[q.out];rfl,i⟩
  | false=>
   have ao:=zC hok;clear hok g O;go_wp2;go_roundw
   case rel=>
    have u:∀b,1<=b->b<a+1->zg (bs.take b)=false:=λb e p=>by
     by_cases l:b=a
     ·rw[l];exact ao
     exact C b e qF
    exact⟨_,qF,qF,qF,qL,u,i⟩
   simp[intOf];omega
 have Z:=zC (show ∀b,1<=b->b<=4->b<=bs.length->zg _=false from λb e p l=>C b e qF);have j:¬ ((a:Int)<=4)\/((a:Int)<=4/\¬ (a:Int)<=bs.length):=qF
 clear C;rcases j with j | ⟨aj,ak⟩
 ·go_wp2
  go_loopw [7,8] (λtk d wr=>∃a c:Nat,1<=a/\a<=4/\a<=bs.length+1/\1<=c/\c<=3/\c<=bs.length/\tk=qC c/\d=qC a/\(c=1\/Zf (bs.take c))/\(∀b,c<b->b<a->¬Zf (bs.take b))/\qY w wr) (λ_ d _=>4-(intOf d).toNat)
  case atStart=>exact⟨1,1,qF,qF,qF,qF,qF,qF,rfl,rfl,.inl rfl,λb E ab=>qF,D⟩
  obtain⟨a,c,s,af,ag,P,Q,R,rfl,rfl,z,A,f⟩:=hrel;have HM:=zC z;have x:=zC A;have k:=zC f;have J:=f.size;clear z A f;by_cases o:a<=3/\a<=bs.length
  ·obtain⟨N,t⟩:=o
   have V:(a:Int)<=3:=qF;have W:(a:Int)<=bs.length:=qF;have h:=zC (show(bs.take a).length=a by simp_all);go_wp2_with fail;refine(Dh _ _ _ (I wr k a s t) (XN m a) (by rw[h.out];omega) (by rw[h.out];omega)).mono ?_;rintro r ai ⟨G,rfl,B,g⟩;have i:=zC (k.trans (g.mono J));have HR:=zC B;clear g B;cases G with
   | true=>
    have n:=zC (HR.1 rfl);clear HR;go_wp2;go_roundw
    case rel=>exact⟨a+1,a,qF,qF,qF,qF,qF,qF,rfl,qL,.inr n,λb e p=>qF,i⟩
    simp[intOf];omega
   | false=>
    have n:=zC (show ¬Zf _ from λL=>by have:=HR.2 L;cases this);clear HR;go_wp2;go_roundw
    case rel=>
     have u:∀b,c<b->b<a+1->¬Zf (bs.take b):=λb e p=>by
      by_cases l:b=a
      ·rw[l];exact n
      exact x b e qF
     exact⟨_,c,qF,qF,qF,qF,qF,qF,rfl,qL,HM,u,i⟩
    simp[intOf];omega
  have q:=zC (Db m U Z P Q R HM (λb e p l=>x b e qF));have j:¬ ((a:Int)<=3)\/((a:Int)<=3/\¬ (a:Int)<=bs.length):=qF;rcases j with j | ⟨aj,ak⟩
  ·go_wp2
   go_ret2;exact⟨by rw[q.out];rfl,k⟩
  go_wp2;go_ret2;omega
 go_wp2;go_loopw [7,8] (λtk d wr=>∃a c:Nat,1<=a/\a<=4/\a<=bs.length+1/\1<=c/\c<=3/\c<=bs.length/\tk=qC c/\d=qC a/\(c=1\/Zf (bs.take c))/\(∀b,c<b->b<a->¬Zf (bs.take b))/\qY w wr) (λ_ d _=>4-(intOf d).toNat)
 case atStart=>exact⟨1,1,qF,qF,qF,qF,qF,qF,rfl,rfl,.inl rfl,λb E ab=>qF,D⟩
 obtain⟨a,c,s,af,ag,P,Q,R,rfl,rfl,z,A,f⟩:=hrel;have HM:=zC z;have x:=zC A;have k:=zC f;have J:=f.size;clear z A f;by_cases o:a<=3/\a<=bs.length
 ·obtain⟨N,t⟩:=o
  have V:(a:Int)<=3:=qF;have W:(a:Int)<=bs.length:=qF;have h:=zC (show(bs.take a).length=a by simp_all);go_wp2_with fail;refine(Dh _ _ _ (I wr k a s t) (XN m a) (by rw[h.out];omega) (by rw[h.out];omega)).mono ?_;rintro r ai ⟨G,rfl,B,g⟩;have i:=zC (k.trans (g.mono J));have HR:=zC B;clear g B;cases G with
  | true=>
   have n:=zC (HR.1 rfl);clear HR;go_wp2;go_roundw
   case rel=>exact⟨a+1,a,qF,qF,qF,qF,qF,qF,rfl,qL,.inr n,λb e p=>qF,i⟩
   simp[intOf];omega
  | false=>
   have n:=zC (show ¬Zf _ from λL=>by have:=HR.2 L;cases this);clear HR;go_wp2;go_roundw
   case rel=>
    have u:∀b,c<b->b<a+1->¬Zf (bs.take b):=λb e p=>by
     by_cases l:b=a
     ·rw[l];exact n
     exact x b e qF
    exact⟨_,c,qF,qF,qF,qF,qF,qF,rfl,qL,HM,u,i⟩
   simp[intOf];omega
 have q:=zC (Db m U Z P Q R HM (λb e p l=>x b e qF));have j:¬ ((a:Int)<=3)\/((a:Int)<=3/\¬ (a:Int)<=bs.length):=qF
 rcases j with j | ⟨aj,ak⟩
 ·go_wp2
  go_ret2;exact⟨by rw[q.out];rfl,k⟩
 go_wp2;go_ret2;exact⟨by rw[q.out];rfl,k⟩
def Tryz.infoE:(prog.info? 21).map (λa=>(a.zero,a.size,a.bytes))=some (some (.int .i32 0),1,4):=qI
def E6{bs}(c:bytes bs)(k):bytes (bs.drop k):=λa b=>c a (vS b)
def Ik{w b off cap k}{a:qV}(e:∀c,c<a.length->w.cell? (qP b (off+c))=some (.int .u8 (a.getD c 0)))(g:k<a.length)(h:a.length<=cap)(i:cap<=maxLen):Rd .u8 w (qM (qD b (off+k)) (a.length-k) (cap-k)) (a.drop k):=by
 have d:(a.drop k).length=a.length-k:=by rw[xz]
 refine .inr ⟨b,_,_,by rw[d],⟨qF,qF,qF⟩,λc f=>?_⟩;rw[Qa,e _ qF,xP,xP,vJ]
def Ph{bs k xs}(d:ye bs=xs++ye (bs.drop k))(e:k<bs.length):
  ye bs=(xs++ [(step (bs.drop k)).1])++ye (bs.drop (k+(step (bs.drop k)).2))/\k+(step (bs.drop k)).2<=bs.length/\1<=(step (bs.drop k)).2:=by
 have a:bs.drop k≠ []:=by
  intro c;have:=ko List.length c;simp at this;omega
 have b:=Kl _ a;rw[xz]at b;refine⟨?_,qF,b.1⟩;rw[d,Pe a,List.drop_drop];simp
def step_bd{bs}(a:bytes bs)(h:bs≠ []):0<=(step bs).1/\(step bs).1<=1114111:=by
 rcases shape h with ⟨b,rfl⟩ | ⟨b,c,rfl⟩ | ⟨b,c,e,rfl⟩ | ⟨b,c,e,i,k,rfl⟩
 ·have d:=a b qH
  simp only[step]
  repeat' split
  all_goals simp only
  all_goals omega
 ·have d:=a b qH
  have f:=a c qH;simp only[step,yS]
  repeat' split
  all_goals simp only
  all_goals omega
 ·have d:=a b qH
  have f:=a c qH;have g:=a e qH;simp only[step,yS]
  repeat' split
  all_goals simp only
  all_goals (try unfold YM at *)
  all_goals (try unfold Jd at *)
  all_goals omega
 have d:=a b qH;have f:=a c qH;have g:=a e qH;have j:=a i qH;simp only[step,yS]
 repeat' split
 all_goals simp only
 all_goals (try unfold YM at *)
 all_goals (try unfold Jd at *)
 all_goals omega
def Il(bs)(v)(w)(Z:Rd .u8 w v bs)(B:bytes bs)(af:bs.length<=1048576):
  Calls prog 99 #[v] w λf x=>∃y,f=qQ y/\x.ownsRow w.heap.size 21 1 y (ye bs).length (zI .i32 (ye bs))/\qY w x:=by
 obtain⟨ag,A,ah,ai,aj⟩:=vw Tryz.infoE;have d:(w.alloc (qR #[] 21)).ownsRow w.heap.size 21 1 (qM (qD w.heap.size 0) 0 0) 0 []:=kr w #[] 0 lR (xK _) rfl;have m:=zC d;clear d;rcases Z with ⟨ak,C,rfl,rfl⟩ | ⟨aa,al,C,rfl,⟨ab,ac,D⟩,i⟩
 ·go_enter func99,ntmps99
  go_wp2;refine xQ 1 ?_;rw[xG];go_wp2;go_ret;exact⟨_,rfl,by rw[JP];exact m,(xe _ _).alloc lR _⟩
 have G:aa<w.heap.size:=vQ w _ (i 0 ab);have H:=zC (λU(V:qY w U)a z=>Ik (k:=a) (λe A=>(V.cell G).trans (i e A)) z ac D);have I:=zC B;have J:=zC (YN bs);unfold maxLen at D;clear i B;go_enter func99,ntmps99;go_wp2
 go_loopw [3,4] (λW e wr=>∃(a:Nat)(b:qV),a<=bs.length/\e=qC a/\ye bs=b++ye (bs.drop a)/\wr.ownsRow w.heap.size 21 1 W b.length (zI .i32 b)/\qY w wr)
  (λ_ e _=>bs.length-(intOf e).toNat)
 case atStart=>exact⟨0,[],xK _,rfl,qH,by simpa[zI]using m.out,(xe _ _).alloc lR _⟩
 obtain⟨a,b,z,rfl,j,d,k⟩:=hrel;have g:=zC j;have n:=zC d;have h:=zC k;have K:=k.size;have ad:b.length<=1048576:=by have L:=J.out;rw[j,xg]at L;omega
 clear j d k;by_cases u:a<bs.length
 ·have ae:¬C=a:=qF
  obtain⟨E,am,an⟩:=Ph g u;have o:bs.drop a≠ []:=(by intro f;have:=ko List.length f;simp at this;omega);have p:=zC (l1Step (bs.drop a) _ wr (H wr h a u) (E6 I a) o (by rw[xz];omega));have M:=zC E;clear E o;generalize (step (bs.drop a)).1=c at *;generalize (step (bs.drop a)).2=T at *;go_wp2_with fail;refine p.mono ?_;rintro f F ⟨rfl,l⟩;have q:=zC (zE n l lR);have r:=zC (h.trans (l.mono K));have N:=r.size;clear l p;go_wp2_with (at_builtin;refine a48 _ rfl _ _ rfl w.heap.size _ _ _ rfl (q.alloc _) (qP F.heap.size 0) 1 1 [.int .i32 c] rfl rfl (zV F 21 [.int .i32 c]) (zJ .i32 [c]) qK qF qJ ?_;intro R S s t _);have O:=zC ((r.alloc N _).grown t qJ (λX Y=>(q.lt X Y).1))
  have P:=zC (show S.ownsRow w.heap.size 21 1 R (b++ [c]).length (zI .i32 (b++ [c]))by
   rw[xg,zm];exact s)
  clear s t;go_wp2;go_roundw
  case rel=>exact⟨a+T,b++ [c],qF,qL,M,P,O⟩
  simp[intOf];omega
 obtain rfl:a=bs.length:=qF
 have Q:=zC (show ye bs=b by rw[g.out,List.drop_length,JP,vT]);clear g;go_wp2;go_ret;exact⟨_,rfl,by rw[Q.out];exact n,h⟩
def tA:qV:=[0,194,224,225,237,238,240,241,244]
def tB:qV:=[127,223,224,236,237,239,240,243,244]
def tC:qV:=[0,128,160,128,128,128,144,128,128]
def tD:qV:=[0,191,191,191,159,191,191,191,143]
def tE:qV:=[1,2,3,3,3,3,4,4,4]
def tF:qV:=[127,31,15,15,15,15,7,7,7]
def fA(a:Nat):Int:=tA.getD a 0
def fB(a:Nat):Int:=tB.getD a 0
def fC(a:Nat):Int:=tC.getD a 0
def fD(a:Nat):Int:=tD.getD a 0
def fE(a:Nat):Int:=tE.getD a 0
def fF(a:Nat):Int:=tF.getD a 0
def Zm(a:Nat):qX:=#[.int .u8 (fA a),.int .u8 (fB a),.int .u8 (fC a),.int .u8 (fD a),qC (fE a),.int .u8 (fF a)]
def UZ:qX:=Zm 0++Zm 1++Zm 2++Zm 3++Zm 4++Zm 5++Zm 6++Zm 7++Zm 8
def RZ:qX:=#[.int .u8 0,.int .u8 0,.int .u8 0,.int .u8 0,qC 0,.int .u8 0]
def idx0(w):(Instr.index 285 (.agg UZ) (qC 0)).run prog w= .ok (.agg (Zm 0)) w:=qI
def idx1(w):(Instr.index 285 (.agg UZ) (qC 1)).run prog w= .ok (.agg (Zm 1)) w:=qI
def idx2(w):(Instr.index 285 (.agg UZ) (qC 2)).run prog w= .ok (.agg (Zm 2)) w:=qI
def idx3(w):(Instr.index 285 (.agg UZ) (qC 3)).run prog w= .ok (.agg (Zm 3)) w:=qI
def idx4(w):(Instr.index 285 (.agg UZ) (qC 4)).run prog w= .ok (.agg (Zm 4)) w:=qI
def idx5(w):(Instr.index 285 (.agg UZ) (qC 5)).run prog w= .ok (.agg (Zm 5)) w:=qI
def idx6(w):(Instr.index 285 (.agg UZ) (qC 6)).run prog w= .ok (.agg (Zm 6)) w:=qI
def idx7(w):(Instr.index 285 (.agg UZ) (qC 7)).run prog w= .ok (.agg (Zm 7)) w:=qI
def idx8(w):(Instr.index 285 (.agg UZ) (qC 8)).run prog w= .ok (.agg (Zm 8)) w:=qI
def idx(a:Nat)(c:a<9)(w):(Instr.index 285 (.agg UZ) (qC a)).run prog w= .ok (.agg (Zm a)) w:=by
 have b:a=0\/a=1\/a=2\/a=3\/a=4\/a=5\/a=6\/a=7\/a=8:=qF
 rcases b with rfl | rfl | rfl | rfl | rfl | rfl | rfl | rfl | rfl
 ·exact idx0 w
 ·exact idx1 w
 ·exact idx2 w
 ·exact idx3 w
 ·exact idx4 w
 ·exact idx5 w
 ·exact idx6 w
 ·exact idx7 w
 exact idx8 w
def WN(a lo hi)(w)(d:lo<=a)(e:a<=hi):Calls prog 191 #[.int .u8 a,.int .u8 lo,.int .u8 hi] w λb c=>b=qQ (.bool true)/\c=w:=by
 go_enter func191,ntmps191;go_wp2;go_ret;simp
def XR(a lo hi)(w)(b:¬ (lo<=a/\a<=hi)):Calls prog 191 #[.int .u8 a,.int .u8 lo,.int .u8 hi] w λd e=>d=qQ (.bool false)/\e=w:=by
 by_cases c:lo<=a
 ·have g:¬a<=hi:=λf=>b ⟨c,f⟩
  clear b;go_enter func191,ntmps191;go_wp2;go_ret;simp
 clear b;go_enter func191,ntmps191;go_wp2;go_ret;simp
def W9(c:qS):Prop:=∃a b,c.heap[1]?=some (qR UZ a b)
def WO:(∀(d)(e)(aa:e<9)(a)(p:W9 a)(D:fA e<=d/\d<=fB e)(j:∀b,b<e->¬ (fA b<=d/\d<=fB b)),Calls prog 176 #[.int .u8 d] a λi C=>i=qQ (.tuple #[.agg (Zm e),.bool true])/\qY a C)/\(∀(d)(a)(p:W9 a)(j:∀b,b<9->¬ (fA b<=d/\d<=fB b)),Calls prog 176 #[.int .u8 d] a λi C=>i=qQ (.tuple #[.agg RZ,.bool false])/\qY a C):=by
 refine⟨@λd e aa a p D j=>have n:=zC xB;?_,@λd a p j=>?_⟩
 all_goals
  obtain⟨L,M,N⟩:=p
  have Q:1<a.heap.size:=by
   rcases vV 1 a.heap.size with O | O
   ·exact O
   simp_all
  have F:(a.alloc (qR #[.int .u8 0,.int .u8 0,.int .u8 0,.int .u8 0,qC 0,.int .u8 0] 271)).heap[1]?=some (qR UZ L M):=by
   rw[kL _ _ _ Q];exact N
  have HG:=zC F;clear N F;go_enter func176,ntmps176;go_wp2_with (refine wpList_load_row rfl 285 _ rfl 1 rfl L UZ M _ HG underlying285 rfl qI ?_);generalize l:a.alloc (qR _ 271)=m;have o:a.heap.size<m.heap.size:=(by rw[<- l];simp);have q:m.heap[a.heap.size]?=some (qR #[.int .u8 0,.int .u8 0,.int .u8 0,.int .u8 0,qC 0,.int .u8 0] 271 (0,0)):=(by rw[<- l];exact xI _ _);have r:qY a m:=(by rw[<- l];exact(xe _ _).alloc lR _);have G:=zC q;have H:=zC r;have I:=zC j
  first
   |(revert n;intro n;have J:=zC D;clear l q r j D HG;go_loopw [7] (λg wr=>∃b:Nat,b<=e/\g=qC b/\qY m wr) (λg _=>9-(intOf g).toNat))
   |(clear l q r j HG;go_loopw [7] (λg wr=>∃b:Nat,b<=9/\g=qC b/\qY m wr) (λg _=>9-(intOf g).toNat))
  case atStart=>exact⟨0,xK _,rfl,xe _ _⟩
  first
   |(revert n;intro n;skip
     obtain⟨b,ab,rfl,h⟩:=hrel;have R:(b:Int)<9:=qF;have s:=λE=>idx b qF E
     have k:Zm b= #[.int .u8 _,.int .u8 _,.int .u8 _,.int .u8 _,.int _ _,.int .u8 _]:=rfl;simp only[k]at s;have f:=zC h;have t:=h.size;clear h k;by_cases Z:b=e
     ·subst Z
      have c:=(f.block _ o).trans G;have u:wr.cell? (qP a.heap.size 0)=some (.int .u8 0):=(by rw[xF wr a.heap.size 0 _ _ _ c];rfl);have v:wr.cell? (qP a.heap.size 1)=some (.int .u8 0):=(by rw[xF wr a.heap.size 1 _ _ _ c];rfl);have w:wr.cell? (qP a.heap.size 2)=some (.int .u8 0):=(by rw[xF wr a.heap.size 2 _ _ _ c];rfl);have x:wr.cell? (qP a.heap.size 3)=some (.int .u8 0):=(by rw[xF wr a.heap.size 3 _ _ _ c];rfl);have y:wr.cell? (qP a.heap.size 4)=some (qC 0):=(by rw[xF wr a.heap.size 4 _ _ _ c];rfl);have z:wr.cell? (qP a.heap.size 5)=some (.int .u8 0):=(by rw[xF wr a.heap.size 5 _ _ _ c];rfl);have S:=xY wr _ 0 _ _ c;have T:=xY wr _ 1 _ _ c;have U:=xY wr _ 2 _ _ c;have V:=xY wr _ 3 _ _ c;have W:=xY wr _ 4 _ _ c;have X:=xY wr _ 5 _ _ c;have Y:a.heap.size<wr.heap.size:=qF;clear c;go_wp2_with fail;refine(WN d _ _ _ J.1 J.2).mono ?_;rintro i P ⟨rfl,rfl⟩;go_wp2;have A:=zC (H.trans (f.mono (kG o)));refine vg (by simp[results,go_sem,u,v,w,x,y,z,Y,Zm]) rfl ⟨rfl,?_⟩;exact((((((A.setCell lR _).setCell lR _).setCell lR _).setCell lR _).setCell lR _).setCell lR _).alloc qJ _
     have B:=zC (I b qF);go_wp2_with fail;refine(XR d _ _ _ B).mono ?_;rintro i P ⟨rfl,rfl⟩;go_wp2;go_roundw
     case rel=>exact⟨b+1,qF,qL,f.alloc t _⟩
     simp[intOf];omega)
   |(skip
     obtain⟨b,ab,rfl,h⟩:=hrel;have f:=zC h;have t:=h.size;clear h;by_cases K:b<9
     ·have R:(b:Int)<9:=qF
      have s:=λE=>idx b K E
      have k:Zm b= #[.int .u8 _,.int .u8 _,.int .u8 _,.int .u8 _,.int _ _,.int .u8 _]:=rfl;simp only[k]at s;clear k;have B:=zC (I b K);go_wp2_with fail;refine(XR d _ _ _ B).mono ?_;rintro i P ⟨rfl,rfl⟩;go_wp2;go_roundw
      case rel=>exact⟨b+1,qF,qL,f.alloc t _⟩
      simp[intOf];omega
     obtain rfl:b=9:=qF;have c:=(f.block _ o).trans G;have u:wr.cell? (qP a.heap.size 0)=some (.int .u8 0):=(by rw[xF wr a.heap.size 0 _ _ _ c];rfl);have v:wr.cell? (qP a.heap.size 1)=some (.int .u8 0):=(by rw[xF wr a.heap.size 1 _ _ _ c];rfl);have w:wr.cell? (qP a.heap.size 2)=some (.int .u8 0):=(by rw[xF wr a.heap.size 2 _ _ _ c];rfl);have x:wr.cell? (qP a.heap.size 3)=some (.int .u8 0):=(by rw[xF wr a.heap.size 3 _ _ _ c];rfl);have y:wr.cell? (qP a.heap.size 4)=some (qC 0):=(by rw[xF wr a.heap.size 4 _ _ _ c];rfl);have z:wr.cell? (qP a.heap.size 5)=some (.int .u8 0):=(by rw[xF wr a.heap.size 5 _ _ _ c];rfl);have S:=xY wr _ 0 _ _ c;have T:=xY wr _ 1 _ _ c;have U:=xY wr _ 2 _ _ c;have V:=xY wr _ 3 _ _ c;have W:=xY wr _ 4 _ _ c;have X:=xY wr _ 5 _ _ c;clear c;go_wp2;have A:=zC (H.trans (f.mono (kG o)));refine vg (by simp[results,go_sem,u,v,w,x,y,z,RZ]) rfl ⟨rfl,?_⟩
     exact(((((A.setCell lR _).setCell lR _).setCell lR _).setCell lR _).setCell lR _).setCell lR _)
def GU:=@WO.1
def Dp:=@WO.2
def inr(b c:Int)(d:Nat)(a:Int):Prop:=if d=1 then b<=a/\a<=c else 128<=a/\a<=191
def matched(r0 r1 lo c r5)(d:Nat)(bs)(v)(w)(S:Rd .u8 w v bs)(o:bs≠ [])(af:bs.length<=1048576)(T:1<=d/\d<=4):
  Calls prog 177 #[.agg #[.int .u8 r0,.int .u8 r1,.int .u8 lo,.int .u8 c,qC d,.int .u8 r5],v] w λk M=>∃g:Nat,k=qQ (qC g)/\1<=g/\g<=d/\(∀a,1<=a->a<g->a<bs.length/\inr lo c a (bs.getD a 0))/\(g=d\/(g<d/\(g=bs.length\/¬inr lo c g (bs.getD g 0))))/\g<=bs.length/\qY w M:=by
 have W:=kK.2 o;rcases S with ⟨_,_,_,k⟩ | ⟨p,C,ag,rfl,⟨U,ah,ai⟩,q⟩
 ·exact absurd k o
 have F:p<w.heap.size:=vQ w _ (q 0 U);obtain⟨aj,ak⟩:=T
 have u:∀a,a<bs.length->(w.alloc (qR #[.int .u8 r0,.int .u8 r1,.int .u8 lo,.int .u8 c,qC d,.int .u8 r5] 271)).cell? (qP p (C+a))=some (.int .u8 (bs.getD a 0)):=λa c=>by
  rw[xV _ _ (qP p (C+a)) F];exact q a c
 have G:=zC u;have f:=zC ((xe w.heap.size w).alloc lR (qR #[.int .u8 r0,.int .u8 r1,.int .u8 lo,.int .u8 c,qC d,.int .u8 r5] 271));have X:(w.alloc (qR #[.int .u8 r0,.int .u8 r1,.int .u8 lo,.int .u8 c,qC d,.int .u8 r5] 271)).cell? (qP w.heap.size 2)=some (.int .u8 lo):=qH
 have Y:(w.alloc (qR #[.int .u8 r0,.int .u8 r1,.int .u8 lo,.int .u8 c,qC d,.int .u8 r5] 271)).cell? (qP w.heap.size 3)=some (.int .u8 c):=qH
 have Z:(w.alloc (qR #[.int .u8 r0,.int .u8 r1,.int .u8 lo,.int .u8 c,qC d,.int .u8 r5] 271)).cell? (qP w.heap.size 4)=some (qC d):=qH
 clear q u o;go_enter func177,ntmps177;go_wp2_with fail;generalize w.alloc (qR #[.int .u8 r0,.int .u8 r1,.int .u8 lo,.int .u8 c,qC d,.int .u8 r5] 271)=ab at *;go_quiet (fail);go_wp2_with fail;go_loop [5,6,7] (λN O a=>∃(b:Nat)(i j:Int),1<=b/\b<=d/\b<=bs.length/\N= .int .u8 i/\O= .int .u8 j/\a=qC b/\(∀e,(i<=e/\e<=j)↔inr lo c b e)/\(∀a,1<=a->a<b->a<bs.length/\inr lo c a (bs.getD a 0))) (λ_ _ a=>d-(intOf a).toNat)
 case atStart=>exact⟨1,lo,c,qF,qF,qF,rfl,rfl,rfl,(λe=>by rfl),λa ac ad=>qF⟩
 obtain⟨b,i,j,r,s,t,rfl,rfl,rfl,D,E⟩:=hrel;have x:=zC D;have l:=zC E;clear D E;by_cases A:b<d
 ·by_cases n:b=bs.length
  ·have H:((b:Int)==bs.length)=true:=qJ
   have I:=zC n;clear n;go_wp2;go_ret;exact⟨b,rfl,r,s,l,.inr ⟨A,.inl I⟩,t,⟨f.os,f.tape,f.output,f.size,f.block⟩⟩
  have H:((b:Int)==bs.length)=false:=qJ;have y:b<bs.length:=qF;have J:=G b y;have aa:=zC (show ∀e,e=bs.getD b 0->(inr lo c b e↔inr lo c b (bs.getD b 0))from λe P=>by rw[P]);generalize B:bs.getD b 0=e at J;have z:=zC B;clear B n;by_cases h:i<=e/\e<=j
  ·go_wp2_with fail
   refine(WN e i j _ h.1 h.2).mono ?_;rintro k V ⟨rfl,rfl⟩;have m:=zC h;clear h;go_wp2;go_round
   case rel=>
    have K:∀a,1<=a->a<b+1->a<bs.length/\inr lo c a (bs.getD a 0):=λa Q ae=>by
     by_cases L:a=b
     ·subst L;exact⟨y,by rw[z.out];exact(x e).1 m⟩
     exact l a Q qF
    exact⟨b+1,128,191,qF,qF,qF,rfl,rfl,qL,(λe=>by unfold inr;rw[xJ qF]),K⟩
   simp[intOf];omega
  go_wp2_with fail;refine(XR e i j _ h).mono ?_;rintro k V ⟨rfl,rfl⟩;have m:=zC h;clear h;go_wp2;go_ret;exact⟨b,rfl,r,s,l,.inr ⟨A,.inr (by rw[z.out];exact λR=>m ((x e).2 R))⟩,t,⟨f.os,f.tape,f.output,f.size,f.block⟩⟩
 obtain rfl:b=d:=qF
 go_wp2;go_ret;exact⟨b,rfl,r,s,l,.inl rfl,t,⟨f.os,f.tape,f.output,f.size,f.block⟩⟩
def zR{F n P ops rest d a w Q}(g:d.guard=none)(ty)(x y)(e:d.op= .store ty x y)
  (b) (c c') (t) (h:a.eval x= .pointer (qD b 0)) (i:a.eval y= .agg c') (j:w.heap[b]?=some (qR c t (0,0))) (k:(P.info? ty).map (·.size)=some c'.size) (l:c.size=c'.size) (m:c'.all (·.oneCell')=true)
  (o:wpListIn F n P ops Q rest (a.put d.dst undef) (w.setRow b c')):wpListIn F n P ops Q (d::rest) a w:=by
 refine wpListIn_plain g λp f=>?_
 unfold Oper.wpIn;refine⟨?_,?_⟩
 ·simp[Oper.about,e]
 rw[Oper.semAt_plain F _ _ (by simp_all)];simp only[execOp,e,h,i,Instr.storeAt,Instr.sureAddr,QE,Sem.run_pure,Result.andThen_ok,run_storeVar_row w b t ty c c' j k l m];exact f _ _ o

import Derived.Deep.AppendLies
import Derived.Test.YtljnflecikholaaGreatDoorMq08
import Derived.Test.YtljnflecikholaaGreatDoorMq07
import Derived.Test.YtljnflecikholaaGreatDoorMq98
set_option linter.all false
set_option maxRecDepth 100000
set_option maxHeartbeats 8000000
namespace Go.Proofs.YtljnflecikholaaGreatDoor
open Go Go.RowKit Go.Proofs.Tryz
def DZ(lo hi n)(b):
  Calls prog 135 #[qC lo,qC hi,qC n] b λa h=>a=qQ (jH (decide ((0<=hi/\hi<=n)/\(0<=lo/\lo<=hi))) 2)/\h=b:=by
 have c:=zC (λb=>Xm hi 0 n b);have e:=zC (λb=>Xm lo 0 hi b);by_cases d:(0<=hi/\hi<=n)
 ·rw[show decide _=true by simpa using d]at c
  by_cases f:(0<=lo/\lo<=hi)
  ·rw[show decide _=true by simpa using f]at e
   rw[show decide _=true by simp_all];clear d f;go_enter func135,ntmps135;go_wp2_with fail;refine(c _).mono ?_;rintro a g ⟨rfl,rfl⟩;go_wp2_with fail;refine(e _).mono ?_;rintro a g ⟨rfl,rfl⟩;go_wp2;go_ret;exact⟨rfl,rfl⟩
  rw[show decide _=false by simpa using f]at e;rw[show decide _=false by simp_all];clear d f;go_enter func135,ntmps135;go_wp2_with fail;refine(c _).mono ?_;rintro a g ⟨rfl,rfl⟩;go_wp2_with fail;refine(e _).mono ?_;rintro a g ⟨rfl,rfl⟩;go_wp2;go_ret;exact⟨rfl,rfl⟩
 rw[show decide _=false by simpa using d]at c;rw[show decide _=false by rw[QA];omega];clear d;go_enter func135,ntmps135;go_wp2_with fail;refine(c _).mono ?_;rintro a g ⟨rfl,rfl⟩;go_wp2;go_ret;exact⟨rfl,rfl⟩
structure GC(w:qS)(a o:Nat)(v:qT)(lo hi:Int):Prop where
 c0:w.cell? (qP a o)=some v
 c1:w.cell? (qP a (o+1))=some (qC lo)
 c2:w.cell? (qP a (o+2))=some (qC hi)
def GC.same{w w' B o v lo hi}(a:GC w B o v lo hi)(b:w'.heap=w.heap):GC w' B o v lo hi:=
 ⟨(xq (by rw[b])).trans a.c0,(xq (by rw[b])).trans a.c1,(xq (by rw[b])).trans a.c2⟩
def GC.drew{w B o v lo hi}(a:GC w B o v lo hi)(n):GC (w.drewN n) B o v lo hi:=
 ⟨by simpa using a.c0,by simpa using a.c1,by simpa using a.c2⟩
def Kg(B o)(v)(lo hi)(w)(d:GC w B o v lo hi)(e:0<=lo)(f:lo<=hi)(g:hi<=1099511627776):
  Calls prog 250 #[qO B o] w λa b=>a=qQ (qC (hi-lo))/\∃c,b=w.drewN c:=by
 obtain⟨h,i,j⟩:=d;go_enter func250,ntmps250;go_wp2;go_quiet (fail);go_wp2;go_ret;exact⟨rfl,_,rfl⟩
def Jb(B o)(ao)(a cap)(lo hi)(b)(c:GC b B o (qM ao a cap) lo hi)(h:0<=lo)(i:lo<=hi)(j:hi<=a)(k:a<=1099511627776):
  Calls prog 241 #[qO B o] b λf g=>f=qQ (qC (a-(hi-lo)))/\∃a,g=b.drewN a:=by
 have d:=zC (λb c=>Kg B o (qM ao a cap) lo hi b c h i qF);have e:=zC c;obtain⟨l,m,n⟩:=c;go_enter func241,ntmps241;go_wp2;go_quiet ((go_at_call 250;exact Calls.quiet_of (d _ (e.drew _))));go_wp2;go_ret;exact⟨rfl,_,rfl⟩
def Tryz.qc:(prog.info? 21).map (λa=>(a.zero,a.size,a.bytes))=some (some (.int .i32 0),1,4):=qI
def Sl(h:IntKind)(e:qS)(f:qT)(a:qV):Prop:=
 (f= .slice none 0 0/\a= [])\/
 (∃b d g,f= .slice (qD b d) a.length g/\b<e.heap.size/\∀c,c<a.length->e.cell? (qP b (d+c))=some (.int h (a.getD c 0)))
def Sl.qa{k w base e v n zs}(a:w.ownsRow base e 1 v n (zI k zs)):Sl k w v zs:=by
 have d:=by have:=a.1;simpa[zI]using this
 rcases a.2 with ⟨b,i⟩ | ⟨c,g,j,b,_⟩
 ·left;simp_all
 subst b;right;exact⟨c,0,g,by rw[d],(a.lt c rfl).2,λf h=>by rw[xX];exact yL a f qF⟩
def Sl.below{k w w' v zs}(a:Sl k w v zs)(b:qY w w'):Sl k w' v zs:=by
 rcases a with a | ⟨f,g,h,i,c,j⟩
 ·exact .inl a
 exact .inr ⟨f,g,h,i,ve c b.size,λd e=>(b.cell c).trans (j d e)⟩
def Sl.rd{k w v zs}(e:Sl k w v zs){b off cap}(f:v= .slice (qD b off) zs.length cap):∀c d,(zI k zs)[c]?=some d->w.cell? (((qP b off):Addr).add c)=some d:=by
 rcases e with ⟨e,_⟩ | ⟨h,i,j,a,_,g⟩
 ·simp_all
 rw[f]at a;simp at a;obtain⟨⟨rfl,rfl⟩,_⟩:=a;have:=ZE (o:=0) (l:=zs.length) g;simpa using this
def JN(a b:qV)(i):(a++b).getD i 0=if i<a.length then a.getD i 0 else b.getD (i-a.length) 0:=by
 simp only[xP,List.getElem?_append]
 split<;>rfl
def Zk(a:qV)(n i):(a.take n).getD i 0=if i<n then a.getD i 0 else 0:=by
 simp only[xP,vf]
 split<;>rfl
def Zl(a:qV)(n i):(a.drop n).getD i 0=a.getD (n+i) 0:=by
 simp
def Kh(n i):(List.replicate n (0:Int)).getD i 0=0:=by
 simp only[xP,Qd]
 split<;>rfl
def Kj{b c:qV}(e:b.length=c.length)(f:∀a,a<b.length->b.getD a 0=c.getD a 0):b=c:=by
 apply List.ext_getElem e;intro a d g;have:=f a d
 simp_all
def zW(a:qV)(b c:Nat):qV:=a.take b++a.drop c
def yU(a:qV)(b c:Nat):qV:=a.take b++(List.replicate (c-a.length) 0++a.drop b)
structure GV(zs:qV)(lo hi:Nat):Prop where
 a:lo<=hi
 b:hi<=zs.length
 z:∀i,lo<=i->i<hi->zs.getD i 0=0
 c:zs.length<=65536
 t:zs.length-(hi-lo)<=8192
def zP{zs lo hi}(a:lo<=hi)(b:hi<=zs.length):(zW zs lo hi).length=zs.length-(hi-lo):=by
 simp only[zW,xg,xi,xz];omega
def za{xs p n}(a:p<=xs.length)(b:xs.length<=n):(yU xs p n).length=n:=by
 simp only[yU,xg,xi,xz,xD];omega
def gread{zs lo hi a b}(c:lo<=hi)(d:hi<=zs.length)(i:a<=b)(g:b<=(zW zs lo hi).length):
  (zs.drop (min a lo)).take (min b lo-min a lo)++(zs.drop (max (a+(hi-lo)) hi)).take (max (b+(hi-lo)) hi-max (a+(hi-lo)) hi)=((zW zs lo hi).drop a).take (b-a):=by
 rw[zP c d]at g;have e:=zP c d;apply Kj
 ·simp only[xg,xi,xz,e];omega
 intro h f;simp at f;simp only[JN,Zk,Zl,zW,xi,xz]
 repeat' split
 all_goals first
  | omega
  |(congr 1;omega)
def jq(L)(off)(a:qV)(i)(b:off+a.length<=L.length):(splice L off a).getD i 0=if i<off then L.getD i 0 else if i<off+a.length then a.getD (i-off) 0 else L.getD i 0:=by
 simp only[splice,JN,Zk,Zl,xi]
 repeat' split
 all_goals first
  | omega
  |(congr 1;omega)
def Fz{zs lo hi p}(b:GV zs lo hi)(j:p<lo):
  splice (splice zs (p+(hi-lo)) ((zs.drop p).take (lo-p))) p (List.replicate (min lo (p+(hi-lo))-p) 0)=yU (zW zs lo hi) p zs.length:=by
 have e:=b.a;have f:=b.b;have c:((zs.drop p).take (lo-p)).length=lo-p:=by simp only[xi,xz];omega
 have a:(splice zs (p+(hi-lo)) _).length=zs.length:=length_splice _ _ _ (by rw[c];omega);have h:=zP e f
 have d:(splice (splice zs (p+(hi-lo)) ((zs.drop p).take (lo-p))) p (List.replicate (min lo (p+(hi-lo))-p) 0)).length=zs.length:=by
  rw[length_splice _ _ _ (by rw[a,xD];omega),a]
 apply Kj
 ·rw[d,za qF qF]
 intro i g;rw[d]at g;rw[jq _ _ _ _ (by rw[a,xD];omega),jq _ _ _ _ (by rw[c];omega)];simp only[yU,JN,Zk,Zl,Kh,zW,xi,xz,xD,xg]
 repeat' split
 all_goals first
  | omega
  |(congr 1;omega)
  |(apply b.z<;>omega)
def Tp{zs lo hi p}(b:GV zs lo hi)(j:lo<=p)(k:p+(hi-lo)<=zs.length):
  splice (splice zs lo ((zs.drop hi).take (p+(hi-lo)-hi))) (max hi p) (List.replicate (p+(hi-lo)-max hi p) 0)=yU (zW zs lo hi) p zs.length:=by
 have e:=b.a;have f:=b.b;have c:((zs.drop hi).take (p+(hi-lo)-hi)).length=p-lo:=by simp only[xi,xz];omega
 have a:(splice zs lo _).length=zs.length:=length_splice _ _ _ (by rw[c];omega);have h:=zP e f
 have d:(splice (splice zs lo ((zs.drop hi).take (p+(hi-lo)-hi))) (max hi p) (List.replicate (p+(hi-lo)-max hi p) 0)).length=zs.length:=by
  rw[length_splice _ _ _ (by rw[a,xD];omega),a]
 apply Kj
 ·rw[d,za qF qF]
 intro i g;rw[d]at g;rw[jq _ _ _ _ (by rw[a,xD];omega),jq _ _ _ _ (by rw[c];omega)];simp only[yU,JN,Zk,Zl,Kh,zW,xi,xz,xD,xg]
 repeat' split
 all_goals first
  | omega
  |(congr 1;omega)
  |(apply b.z<;>omega)
def ggrow{zs lo hi n}(d:lo<=hi)(e:hi<=zs.length)(h:zs.length<=n):
  splice (splice (List.replicate n 0) 0 (zs.take lo)) (n-(zs.length-hi)) (zs.drop hi)=yU (zW zs lo hi) lo n:=by
 have a:(splice (List.replicate n 0) 0 (zs.take lo)).length=n:=by
  rw[length_splice _ _ _ (by simp only[xi,xD];omega),xD]
 have f:=zP d e
 have b:(splice (splice (List.replicate n 0) 0 (zs.take lo)) (n-(zs.length-hi)) (zs.drop hi)).length=n:=by
  rw[length_splice _ _ _ (by rw[a,xz];omega),a]
 apply Kj
 ·rw[b,za qF qF]
 intro g c;rw[b]at c;rw[jq _ _ _ _ (by rw[a,xz];omega),jq _ _ _ _ (by simp only[xi,xD];omega)];simp only[yU,JN,Zk,Zl,Kh,zW,xi,xz,xD,xg]
 repeat' split
 all_goals first
  | omega
  | rfl
  |(congr 1;omega)
def Yn{xs p n}(a:p<=xs.length)(b:xs.length<=n)(c:n<=65536)(g:xs.length<=8192):GV (yU xs p n) p (p+(n-xs.length)):=by
 refine⟨qF,by rw[za a b];omega,λd e f=>?_,by rw[za a b];exact c,by rw[za a b];omega⟩;simp only[yU,JN,Zk,Zl,Kh,xi,xD]
 repeat' split
 all_goals first | omega
def Jc{xs p n}(a:p<=xs.length)(b:xs.length<=n):zW (yU xs p n) p (p+(n-xs.length))=xs:=by
 unfold zW;rw[yU,vB (by simp_all),xU (by simp_all)];rw[<- vK,ki (by simp_all),vx (by simp_all),vq,vy]
def Tq{xs ts p n}(c:p<=xs.length)(f:xs.length+ts.length<=n):
  splice (yU xs p n) p ts=yU (xs.take p++(ts++xs.drop p)) (p+ts.length) n:=by
 have a:(yU xs p n).length=n:=za c qF;have d:(xs.take p++(ts++xs.drop p)).length=xs.length+ts.length:=by simp only[xg,xi,xz];omega
 apply Kj
 ·rw[length_splice _ _ _ qF,a,za qF qF]
 intro e b;rw[length_splice _ _ _ qF,a]at b;rw[jq _ _ _ _ qF];simp only[yU,JN,Zk,Zl,Kh,xi,xz,xD,xg]
 repeat' split
 all_goals first
  | omega
  |(congr 1;omega)
def Tr{xs p q n}(e:p<=q)(f:q<=xs.length)(g:xs.length<=n):
  splice (yU xs p n) (p+(n-xs.length)) (List.replicate (q-p) 0)=yU (xs.take p++xs.drop q) p n:=by
 have a:(yU xs p n).length=n:=za qF qF;have c:(xs.take p++xs.drop q).length=xs.length-(q-p):=by simp only[xg,xi,xz];omega
 apply Kj
 ·rw[length_splice _ _ _ (by rw[xD];omega),a,za qF qF]
 intro d b;rw[length_splice _ _ _ (by rw[xD];omega),a]at b;rw[jq _ _ _ _ (by rw[xD];omega)];simp only[yU,JN,Zk,Zl,Kh,xi,xz,xD,xg]
 repeat' split
 all_goals first
  | omega
  |(congr 1;omega)
inductive XJ (m:Nat):Nat->Nat->Prop
 | stop (c:Nat) (a:m<=c):XJ m c c
 | more (c r:Nat) (a:c<m) (k:XJ m (c*2) r):XJ m c r
def Ts(m):∀b a:Nat,1<=a->m-a<=b->∃c,XJ m a c:=by
 intro b
 induction b with
 | zero=>intro a d e;exact⟨a,.stop a qF⟩
 | succ b h=>
  intro a d e;by_cases f:a<m
  ·obtain⟨c,g⟩:=h (a*2) qF qF
   exact⟨c,.more a c f g⟩
  exact⟨a,.stop a qF⟩
def JO{m b a}(c:XJ m b a):b<=a/\m<=a/\(a=b\/a<2*m):=by
 induction c with
 | stop b c=>omega
 | more b a c d e=>omega
def Cl(c:qS)(d:Nat)(b:qV):Prop:=∀a,a<b.length->c.cell? (qP d a)=some (.int .i32 (b.getD a 0))
def Cl.below{w w' g D zs}(c:Cl w g zs)(d:Below D w w')(e:g<D):Cl w' g zs:=λa b=>(d.cell e).trans (c a b)
def Cl.cut{w g p l c zs}(d:Cl w g zs)(e:g<w.heap.size)(h:p+l<=zs.length):Sl .i32 w (qM (qD g p) l c) ((zs.drop p).take l):=by
 have a:((zs.drop p).take l).length=l:=by simp only[xi,xz];omega
 refine .inr ⟨g,p,c,by rw[a],e,λf b=>?_⟩;rw[a]at b;rw[d _ qF,Zk,xS b,Zl]
def Sl.empty{w g c xs}(b:g<w.heap.size)(d:xs.length=0):Sl .i32 w (qM (qD g 0) 0 c) xs:=by
 obtain rfl:=xL d;exact .inr ⟨g,0,c,qH,b,λe a=>by simp at a⟩
def Gs(d:qS)(e:qT)(a:qV):Prop:=
 (e= .slice none 0 0/\a= [])\/∃b c,e= .slice (qD b 0) a.length c/\b<d.heap.size/\a.length<=c/\c<=maxLen/\Cl d b a
def Gs.below{w w' D v zs}(a:Gs w v zs)(b:Below D w w')(d:w.heap.size<=D):Gs w' v zs:=by
 rcases a with a | ⟨e,f,g,c,h,i,j⟩
 ·exact .inl a
 exact .inr ⟨e,f,g,ve c b.size,h,i,j.below b (ve c d)⟩
def Gs.qa{w base v n zs}(a:w.ownsRow base 21 1 v n (zI .i32 zs)):Gs w v zs:=by
 have d:=by have:=a.1;simpa[zI]using this
 rcases a.2 with ⟨b,j⟩ | ⟨c,f,k,b,g⟩
 ·left;simp_all
 obtain⟨_,_,l,h,_⟩:=g;subst b;exact .inr ⟨c,f,by rw[d],(a.lt c rfl).2,qF,h,λe i=>yL a e qF⟩
def Gs.val{w v zs}(a:Gs w v zs):∃c b,v= .slice c zs.length b:=by
 rcases a with ⟨a,rfl⟩ | ⟨e,b,d,_⟩
 ·exact⟨_,_,a⟩
 exact⟨_,_,d⟩
def T3(a:qS)(b:Nat)(c d e:qT)(f:TypeId):Prop:=a.heap[b]?=some (qR #[c,d,e] f (0,0))
def T3.c{w b x y z t}(a:T3 w b x y z t):w.cell? (qP b 0)=some x/\w.cell? (qP b 1)=some y/\w.cell? (qP b 2)=some z:=by
 refine⟨?_,?_,?_⟩<;>rw[xF w b _ _ _ _ a]<;>rfl
def T3.fz{w b x y z t}(a:T3 w b x y z t)(j):w.frozen? (qP b j)=false:=xY w b j _ _ a
def T3.below{B w w' b x y z t}(a:T3 w b x y z t)(c:Below B w w')(d:b<B):T3 w' b x y z t:=(c.block b d).trans a
def T3.new(a:qS)(x y z)(t):T3 (a.alloc (qR #[x,y,z] t)) a.heap.size x y z t:=xI a _
def Wc(a:qS):(a.alloc (qR #[] 21)).ownsRow a.heap.size 21 1 (qM (qD a.heap.size 0) 0 0) 0 []:=by
 have:=kr (base:=a.heap.size) (e:=21) (size:=1) a #[] 0 qH (xK _) rfl;simpa using this
def Cl.app{w g zs}(e:Cl w g zs)(p l)(f:p+l<=zs.length):∀a b,(zI .i32 ((zs.drop p).take l))[a]?=some b->w.cell? (((qP g p):Addr).add a)=some b:=by
 have:=ZE (o:=p) (l:=l) (λc d=>by rw[xX];exact e c d);simpa using this
def GD(w):
  Calls prog 40 #[.agg #[qN,qC 0,qC 0]] w λg c=>∃d e,g=qQ (qM (qD d 0) 0 e)/\c.ownsRow w.heap.size 21 1 (qM (qD d 0) 0 e) 0 (zI .i32 [])/\qY w c:=by
 obtain⟨h,i,j,k,l⟩:=vw Tryz.qc;have f:=zC (((xe _ w).alloc lR (qR #[qN,qC 0,qC 0] 86)).alloc qH (qR #[] 21));have a:=zC (zF (base':=w.heap.size) (Wc (w.alloc (qR #[qN,qC 0,qC 0] 86))) qH);have b:(w.alloc (qR #[qN,qC 0,qC 0] 86)).heap.size=w.heap.size+1:=qH
 rw[b]at a;clear b;go_enter func40,ntmps40;go_wp2_with (at_builtin;refine wpList_append_own_none rfl _ _ 48 rfl _ 21 h 1 underlying48 i _ _ _ rfl a rfl ?_);go_ret;exact⟨_,_,rfl,a,f⟩
def GE(g cap n)(zs)(lo a)(w)(R:Cl w g zs)(ab:g<w.heap.size)(S:zs.length=n)(ae:n<=cap)(af:cap<=maxLen)(ag:lo<=a)(ah:a<=n)(ai:n<=65536):
  Calls prog 40 #[.agg #[qM (qD g 0) n cap,qC lo,qC a]] w λb Q=>∃B,b=qQ B/\B≠ .slice none 0 0/\Q.ownsRow w.heap.size 21 1 B (n-(a-lo)) (zI .i32 (zW zs lo a))/\qY w Q:=by
 obtain⟨C,D,E,F,G⟩:=vw Tryz.qc;have j:=zC (((xe _ w).alloc lR (qR #[qM (qD g 0) n cap,qC lo,qC a] 86)).alloc qH (qR #[] 21));have k:=zC (zF (base':=w.heap.size) (Wc (w.alloc (qR #[qM (qD g 0) n cap,qC lo,qC a] 86))) qH);have H:(w.alloc (qR #[qM (qD g 0) n cap,qC lo,qC a] 86)).heap.size=w.heap.size+1:=qH
 rw[H]at k;have I:=zC ((T3.new w (qM (qD g 0) n cap) (qC lo) (qC a) 86).below ((xe _ _).alloc lR (qR #[] 21)) qH);have p:=zC (R.below j ab);have J:=zC (p.app 0 lo qF);have K:(zI .i32 ((zs.drop 0).take lo)).length=lo*1:=by rw[zG,xi,vz];omega
 have L:=zC K;have e:=zC S;have q:((w.alloc (qR #[qM (qD g 0) n cap,qC lo,qC a] 86)).alloc (qR #[] 21)).heap.size=w.heap.size+2:=qH
 have r:=j.size;clear H K S R;go_enter func40,ntmps40;go_upto_region 2 with (at_builtin;refine xM _ rfl _ _ 48 rfl _ 21 C _ 1 4 underlying48 D E F G rfl qG _ 0 [] rfl k _ lo cap _ rfl L J (zJ _ _) qF qF r ?_;intro W z d c P)
 have M:=zC (show W≠ .slice none 0 0 from λb=>by
  have T:Value.slice _ 0 0= .slice none 0 0:=(P.1 b).1
  cases T)
 have m:=zC d;have s:=zC (j.grown c r (λh i=>(k.lt h i).1));have t:((w.alloc (qR _ 86)).alloc (qR #[] 21)).grownBy z (some (w.heap.size+1)):=c;have U:=zC (show T3 z _ _ _ _ 86 from(t.block _ (by rw[q];omega) qH).trans I);have N:=zC (show Cl z g zs from λaa a=>(xq (t.block g (by rw[q];omega) qJ)).trans (p aa a));have o:=s.size;obtain⟨aj,ak,al⟩:=U.c;clear d c t P j k I p J L q r;by_cases Z:cap=a
 ·have O:=zC (N.app a 0 (by rw[e.out];omega))
  obtain rfl:n=a:=qF;have u:=zC (show zW zs lo n=(zs.drop 0).take lo++(zs.drop n).take 0 by rw[zW,vz,vY,vx (by rw[e.out];omega)]);subst Z;go_wp2_with (at_builtin;refine xM _ rfl _ _ 48 rfl _ 21 C _ 1 4 underlying48 D E F G rfl qG _ _ _ rfl m _ 0 _ (zI .i32 ((zs.drop cap).take 0)) rfl (by simp[zI]) (by intro ac ad X;simp[zI]at X) (zJ _ _) qF qF o ?_;intro A Y d c f);have v:=zC (show A≠ .slice none 0 0 from λb=>M (f.1 b).1);have x:=zC d;have y:=zC (s.grown c o (λh i=>(m.lt h i).1));clear d c f;go_wp2;go_ret;refine⟨_,rfl,v,?_,y⟩;rw[u.out,zm];have b:cap-(cap-lo)=0+lo+0:=qF;rw[b];simpa using x.out
 have O:=zC (N.app a (n-a) (by rw[e.out];omega));have u:=zC (show zW zs lo a=(zs.drop 0).take lo++(zs.drop a).take _ by rw[zW,vz,xU (l:=zs.drop a) (by rw[xz,e.out];exact lR)]);have V:=zC (show(zI .i32 ((zs.drop a).take (n-a))).length=(n-a)*1 by rw[zG,xi,xz,e.out];omega);go_wp2_with (at_builtin;refine xM _ rfl _ _ 48 rfl _ 21 C _ 1 4 underlying48 D E F G rfl qG _ _ _ rfl m _ _ _ _ rfl V O (zJ _ _) qF qF o ?_;intro A Y d c f);have v:=zC (show A≠ .slice none 0 0 from λb=>M (f.1 b).1);have x:=zC d;have y:=zC (s.grown c o (λh i=>(m.lt h i).1));clear d c f;go_wp2;go_ret;refine⟨_,rfl,v,?_,y⟩;rw[u.out,zm];have b:n-(a-lo)=0+lo+(n-a):=qF
 rw[b];simpa using x.out
def UP(zs)(v)(lo hi)(w)(l:Gs w v zs)(d:GV zs lo hi):
  Calls prog 40 #[.agg #[v,qC lo,qC hi]] w λf b=>∃c,f=qQ c/\c≠ .slice none 0 0/\b.ownsRow w.heap.size 21 1 c (zW zs lo hi).length (zI .i32 (zW zs lo hi))/\qY w b:=by
 have e:=d.a;have a:=d.b;rcases l with ⟨rfl,rfl⟩ | ⟨g,h,rfl,m,n,o,p⟩
 ·obtain rfl:=by simpa using a
  obtain rfl:lo=0:=qF;exact(GD w).mono λf b⟨g,h,i,j,k⟩=>⟨_,i,qH,by simpa[zW]using j,k⟩
 rw[zP e a];exact GE g h _ zs lo hi w p m rfl n o e a d.c
def Zn{d:qS}{base b e size v n xs}(f:d.ownsRow base e size v n xs)(h:b<base)(x y z):(((d.setCell (qP b 0) x).setCell (qP b 1) y).setCell (qP b 2) z).ownsRow base e size v n xs:=by
 have a:∀c,v.ownBlock≠some ((qP b c):Addr).block:=by
  intro c g;have:=(f.lt b g).1;omega
 exact ownsRow_setCell_other (ownsRow_setCell_other (ownsRow_setCell_other f (a 0) x) (a 1) y) (a 2) z
structure Src32(w:qS)(v:qT)(xs:qV):Prop where
 p:v= .slice none 0 0/\xs= []\/∃a c,v= .slice (some a) xs.length c/\∀j u,(zI .i32 xs)[j]?=some u->w.cell? (a.add j)=some u
def Sl.src{w v xs}(a:Sl .i32 w v xs):Src32 w v xs:=by
 rcases a with ⟨a,b⟩ | ⟨e,f,c,rfl,g,d⟩
 ·exact⟨.inl ⟨a,b⟩⟩
 refine⟨.inr ⟨_,c,rfl,?_⟩⟩;have:=ZE (o:=0) (l:=xs.length) d;simpa using this
def Yo(g cap n)(tx ps)(a b)(vp)(w)(P:Cl w g tx)(ac:g<w.heap.size)(ad:tx.length=n)(Q:n<=cap)(a0:cap<=maxLen)(a1:a<=b)(a2:b<=n)(a3:n<=1048576)(R:Sl .i32 w vp ps)(av:ps.length<=1048576):
  Calls prog 70 #[qM (qD g 0) n cap,qC a,qC b,vp] w λc aa=>∃M,c=qQ M/\M≠ .slice none 0 0/\aa.ownsRow w.heap.size 21 1 M (a+ps.length+(n-b)) (zI .i32 (tx.take a++(ps++tx.drop b)))/\qY w aa:=by
 obtain⟨r,s,A,B,C⟩:=vw Tryz.qc;have t:=zC ((xe _ w).alloc lR (qR #[] 21));have E:=zC (Wc w);have T:=zC (P.below t ac);have ah:=zC P;have ai:=zC R;have F:=t.size;have U:=zC (T.app 0 a qF);have V:=zC (show(zI .i32 ((tx.drop 0).take a)).length=a*1 by rw[zG,xi,vz];omega);have u:=zC ad;obtain⟨l,S⟩:∃l,l=ps.length:=⟨_,rfl⟩
 rw[<- S]at av |-;have HM:=zC S
 have aj:∃ab N,vp= .slice ab l N:=by
  rcases R with ⟨f,c⟩ | ⟨a4,a5,a6,f,_,_⟩
  ·simp_all
  simp_all
 clear ad P R S;obtain⟨ab,N,rfl⟩:=aj;go_enter func70,ntmps70;go_upto_region 2 with (at_builtin;refine xM _ rfl _ _ 48 rfl _ 21 r _ 1 4 underlying48 s A B C rfl qG _ 0 [] rfl E _ a cap _ rfl V U (zJ _ _) qF qF F ?_;intro ap ax d e Y)
 have G:=zC (show ap≠ .slice none 0 0 from λc=>by
  have ak:Value.slice _ 0 0= .slice none 0 0:=(Y.1 c).1
  cases ak)
 have m:=zC d;have o:=zC (t.grown e F (λh i=>(E.lt h i).1));have W:=zC (ai.below o).src;have X:=o.size;clear d e Y t E T U V F;have step:∃O:qS->qT->Prop,(∀k p,O k p↔p≠ .slice none 0 0/\k.ownsRow w.heap.size 21 1 p (0+a+l) ([]++zI .i32 ((tx.drop 0).take a)++zI .i32 ps)/\qY w k):=⟨_,λ_ _=>Iff.rfl⟩
 obtain⟨O,ae⟩:=step;have v:=zC ae;clear ae;go_cut [9] (λau k=>O k au)
 case first=>
  rcases W.out.p with ⟨f,c⟩ | ⟨aw,a7,f,Q⟩
  ·simp at f
   obtain⟨rfl,rfl,rfl⟩:=f;subst c;go_wp2_with (at_builtin;refine wpList_append_own_none rfl _ _ 48 rfl _ 21 r 1 underlying48 s _ _ _ rfl m rfl ?_);go_meet;exact(v _ _).2 ⟨G,by simpa[zI]using m.out,o⟩
  simp at f;obtain⟨rfl,rfl,rfl⟩:=f;have al:=zC Q;clear Q;go_wp2_with (at_builtin;refine xM _ rfl _ _ 48 rfl _ 21 r _ 1 4 underlying48 s A B C rfl qG _ _ _ rfl m aw _ N _ rfl (by rw[zG,Qm]) al (zJ _ _) qK qF X ?_;intro p k d e Z);have x:=zC (show p≠ .slice none 0 0 from λc=>G (Z.1 c).1);have j:=zC d;have y:=zC (o.grown e X (λh i=>(m.lt h i).1));clear d e Z;go_wp2;go_meet;exact(v _ _).2 ⟨x,j,y⟩
 obtain⟨af,ag,D⟩:=(v _ _).1 hcut;have x:=zC af;have j:=zC ag;have y:=zC D;have am:=zC (ah.below D ac);have z:=D.size;clear hcut af ag D W m o G v;by_cases ar:cap=b
 ·have H:=zC (show tx.drop b= []from vx (by rw[u.out];omega))
  obtain rfl:n=b:=qF;subst ar;go_wp2_with (at_builtin;refine xM _ rfl _ _ 48 rfl _ 21 r _ 1 4 underlying48 s A B C rfl qG _ _ _ rfl j _ 0 _ (zI .i32 []) rfl (by simp[zI]) (by intro ay az f;simp[zI]at f) (zJ _ _) qK qF z ?_;intro L aq d e q);have I:=zC (show L≠ .slice none 0 0 from λc=>x (q.1 c).1);have J:=zC d;have K:=zC (y.grown e z (λh i=>(j.lt h i).1));clear d e q;go_wp2;go_ret;refine⟨_,rfl,I,?_,K⟩;rw[H.out,vT,zm];simpa[zI]using J.out
 have an:=zC (am.app b (n-b) (by rw[u.out];omega));have H:=zC (show tx.drop b=(tx.drop b).take _ by rw[xU (by rw[xz,u.out];exact lR)]);have ao:=zC (show(zI .i32 ((tx.drop b).take (n-b))).length=(n-b)*1 by rw[zG,xi,xz,u.out];omega);go_wp2_with (at_builtin;refine xM _ rfl _ _ 48 rfl _ 21 r _ 1 4 underlying48 s A B C rfl qG _ _ _ rfl j _ _ _ _ rfl ao an (zJ _ _) qK qF z ?_;intro L aq d e q);have I:=zC (show L≠ .slice none 0 0 from λc=>x (q.1 c).1);have J:=zC d;have K:=zC (y.grown e z (λh i=>(j.lt h i).1));clear d e q;go_wp2;go_ret;refine⟨_,rfl,I,?_,K⟩;rw[H.out,zm,zm];have c:a+l+(n-b)=0+a+l+(n-b):=qF
 rw[c];simpa using J.out
def D6{d:qS}{base n v zs}(c:d.ownsRow base 21 1 v n (zI .i32 zs)):∃a b,v= .slice a n b:=by
 have e:=by have:=c.1;simpa[zI]using this
 obtain⟨a,b,f⟩:=(Gs.qa c).val
 simp_all
theorem Pb (g cap n) (tx) (p c) (w) (P:Cl w g tx) (ai:g<w.heap.size) (Q:tx.length=n) (hc:n<=cap) (bg:cap<=maxLen) (bh:p<=n) (bi:n<=c) (bj:c<=1048576):
  Calls prog 69 #[.slice (some ⟨g,0,none⟩) n cap,.int .i64 p,.int .i64 c] w fun e w'=>∃ag ah,e= .returned (.agg #[.slice ag c ah,.int .i64 p,.int .i64 ((p+(c - n):Nat))])∧w'.ownsRow w.heap.size 21 1 (.slice ag c ah) c (zI .i32 (yU tx p c))∧Below w.heap.size w w':=by
 obtain⟨A,hi',B,C,D⟩:=vw Tryz.qc;obtain⟨i,R⟩:∃i:Nat,i=c - n:=⟨_,rfl⟩;rw [<- R]
 have a7:(c:Int) - n=i:=by omega
 have H:=zC (((xe _ w).alloc lR (.cells #[.slice none 0 0,.int .i64 0,.int .i64 0] 86)).alloc (by simp) (.cells #[] 21))
 have m:=zC (zF (base':=w.heap.size+1) (Wc (w.alloc (.cells #[.slice none 0 0,.int .i64 0,.int .i64 0] 86))) (by simp))
 have V:(w.alloc (.cells #[.slice none 0 0,.int .i64 0,.int .i64 0] 86)).heap.size=w.heap.size+1:=by simp
 rw [V]at m
 have W:=zC ((T3.new w (.slice none 0 0) (.int .i64 0) (.int .i64 0) 86).below ((xe _ _).alloc lR (.cells #[] 21)) (by simp))
 have X:=zC (P.below H.out ai);have aj:=zC P
 have Y:=zC (X.out.app 0 p (by omega))
 have Z:=zC (show(zI .i32 ((tx.drop 0).take p)).length=p*1 by rw [zG,xi,vz];omega)
 have x:=zC Q
 have I:w.heap.size+1<=((w.alloc (.cells #[.slice none 0 0,.int .i64 0,.int .i64 0] 86)).alloc (.cells #[] 21)).heap.size:=by simp
 have aa:=zC (show zI _ (yU tx p c)=zI _ ((tx.drop 0).take p)++(zI _ (List.replicate i 0)++zI .i32 (tx.drop p))by rw [yU,Q,<- R,zm,zm,vz])
 have ak:w.heap.size+1<((w.alloc (.cells #[.slice none 0 0,.int .i64 0,.int .i64 0] 86)).alloc (.cells #[] 21)).heap.size:=by simp
 generalize yU tx p c=af at *
 have a8:i<=c:=by omega
 have ab:n+i=c:=by omega
 have a9:=zC ab;clear Q P V R ab;go_enter func69,ntmps69
 go_upto_region 3 with (at_builtin;refine xM _ rfl _ _ 48 rfl _ 21 A _ 1 4 underlying48 hi' B C D rfl (by decide) _ 0 [] rfl m.out _ p cap _ rfl Z.out Y.out (zJ _ _) (by omega) (by omega) I ?_;intro ba ae f a a2)
 have al:=zC f
 have am:=zC (H.out.grown a (by omega) (fun q b=>by have:=(m.out.lt q b).1;omega))
 have d:=zC (show Below _ ((w.alloc (.cells _ 86)).alloc (.cells #[] 21)) ae from(xe _ _).grown a I (fun q b=>(m.out.lt q b).1))
 have an:=zC (W.out.below d.out (by omega))
 have ao:w.heap.size+1<=ae.heap.size:=by have:=d.out.size;omega
 clear f a a2 H m X Y Z I ak d W;go_wp2_with fail
 go_loopw [8,9] (fun a6 k wr=>∃j:Nat,j<=i∧k= .int .i64 j∧wr.ownsRow (w.heap.size+1) 21 1 a6 (0+p+j) ([]++zI .i32 ((tx.drop 0).take p)++zI .i32 (List.replicate j 0))∧Below w.heap.size w wr∧T3 wr w.heap.size (.slice none 0 0) (.int .i64 0) (.int .i64 0) 86∧w.heap.size+1<=wr.heap.size)
  (fun _ k _=>i - (intOf k).toNat)
 case atStart=>exact⟨0,xK _,rfl,by simpa [zI]using al.out,am.out,an.out,ao⟩
 rename_i u8 u9 bc
 obtain⟨j,bk,rfl,E,r,F,G⟩:=hrel
 by_cases bf:j<i
 ·have h:=zC (zE E ((xe _ wr).alloc lR (.cells #[.int .i32 0] 21)) lR)
  have y:=zC (r.alloc (by omega) (.cells #[.int .i32 0] 21))
  have z:=zC (F.below ((xe _ wr).alloc lR (.cells #[.int .i32 0] 21)) (by omega))
  have ac:w.heap.size+1<=(wr.alloc (.cells #[.int .i32 0] 21)).heap.size:=by simp;omega
  have ap:=zC (zV wr 21 (zI .i32 [0]));clear E r F
  go_wp2_with (at_builtin;refine xM _ rfl _ _ 48 rfl _ 21 A _ 1 4 underlying48 hi' B C D rfl (by decide) _ _ _ rfl h.out _ 1 1 (zI _ [0]) rfl (by simp [zI]) (ap.out) (zJ _ _) (by unfold maxLen;omega) (by omega) ac ?_;intro bd w3 f a a3)
  have aq:=zC f
  have ar:=zC (y.out.grown a (by omega) (fun q b=>by have:=(h.out.lt q b).1;omega))
  have d:=zC (show Below _ (wr.alloc (.cells _ 21)) w3 from(xe _ _).grown a ac (fun q b=>(h.out.lt q b).1))
  have au:=zC (z.out.below d.out (by omega))
  have av:w.heap.size+1<=w3.heap.size:=by have:=d.out.size;omega
  clear f a a3 d;go_wp2;go_roundw
  case rel=>exact⟨j+1,by omega,by go_num,by
   have ad:=aq.out;rw [vK,<- zm]at ad;rw [List.replicate_succ']
   exact ad,ar.out,au.out,av⟩
  simp [intOf];omega
 obtain rfl:j=i:=by omega
 have h:=zC E;have y:=zC r;have z:=zC F;have aw:=zC (aj.out.below r ai);clear E r F
 by_cases a5:cap=p
 ·obtain rfl:n=p:=by omega
  subst a5
  have J:=zC (vx (by rw [x.out];exact lR))
  go_upto_region 8 with (at_builtin;refine xM _ rfl _ _ 48 rfl _ 21 A _ 1 4 underlying48 hi' B C D rfl (by decide) _ _ _ rfl h.out _ 0 _ (zI .i32 []) rfl (by simp [zI]) (by intro j u a4;simp [zI]at a4) (zJ _ _) (by unfold maxLen;omega) (by omega) G ?_;intro M N f a O)
  have o:=zC (show N.ownsRow _ 21 1 M c (zI _ af)from by
   have K:=f;rw [aa.out,J.out]
   rw [show c=0+cap+j+0 by omega]
   simpa [zI]using K)
  have L:=zC (y.out.grown a (by omega) (fun q b=>by have:=(h.out.lt q b).1;omega))
  have d:=zC ((xe _ _).grown a G (fun q b=>(h.out.lt q b).1))
  have l:=zC (z.out.below d.out (by omega))
  obtain⟨s,t,S⟩:=D6 o.out;subst S;obtain⟨T,g1,U⟩:=l.out.c;have ax:=l.out.fz 0;have ay:=l.out.fz 1;have az:=l.out.fz 2;clear f a O d;go_wp2
  refine vg (v:=.agg #[.slice s c t,.int .i64 cap,.int .i64 ((cap+j:Nat))]) (by simp [results,go_sem,T,g1,U]) rfl ?_
  exact⟨s,t,rfl,zF (Zn o.out (by omega) _ _ _) (by omega),((L.out.setCell (by simp) _).setCell (by simp) _).setCell (by simp) _⟩
 have a0:=zC (aw.out.app p (n - p) (by rw [x.out];omega))
 have J:=zC (show tx.drop p=(tx.drop p).take _ by rw [xU (by rw [xz,x.out];exact lR)])
 have a1:=zC (show(zI .i32 ((tx.drop p).take (n - p))).length=(n - p)*1 by rw [zG,xi,xz,x.out];omega)
 go_upto_region 8 with (at_builtin;refine xM _ rfl _ _ 48 rfl _ 21 A _ 1 4 underlying48 hi' B C D rfl (by decide) _ _ _ rfl h.out _ _ _ _ rfl a1.out a0.out (zJ _ _) (by unfold maxLen;omega) (by omega) G ?_;intro M N f a O)
 have o:=zC (show N.ownsRow _ 21 1 M c (zI _ af)from by
  have K:=f;rw [aa.out,J.out]
  rw [show c=0+p+j+(n - p)by omega]
  simpa using K)
 have L:=zC (y.out.grown a (by omega) (fun q b=>by have:=(h.out.lt q b).1;omega))
 have d:=zC ((xe _ _).grown a G (fun q b=>(h.out.lt q b).1))
 have l:=zC (z.out.below d.out (by omega))
 obtain⟨s,t,S⟩:=D6 o.out;subst S;obtain⟨T,g1,U⟩:=l.out.c;have ax:=l.out.fz 0;have ay:=l.out.fz 1;have az:=l.out.fz 2;clear f a O d;go_wp2
 refine vg (v:=.agg #[.slice s c t,.int .i64 p,.int .i64 ((p+j:Nat))]) (by simp [results,go_sem,T,g1,U]) rfl ?_
 exact⟨s,t,rfl,zF (Zn o.out (by omega) _ _ _) (by omega),((L.out.setCell (by simp) _).setCell (by simp) _).setCell (by simp) _⟩
structure zZ(w w':qS)(g:Nat)(L:qU)(t:TypeId):Prop where
 row:w'.heap[g]?=some (qR L.toArray t (0,0))
 os:w'.os=w.os
 tape:w'.tape=w.tape
 output:w'.output=w.output
 size:w'.heap.size=w.heap.size
 block:∀k,k≠g->w'.heap[k]? =w.heap[k]?
def zZ.ql{w g old t}(L)(c:w.heap[g]?=some (qR old t (0,0))):zZ w (w.setRow g L.toArray) g L t:=
 ⟨kT w g old _ t _ c,rfl,rfl,rfl,qH,λa b=>vG w g a _ b⟩
def zZ.refl{w g L t}(a:w.heap[g]?=some (qR L.toArray t (0,0))):zZ w w g L t:=⟨a,rfl,rfl,rfl,rfl,λ_ _=>rfl⟩
section
variable {P:Program}
def Jy{ops o a w K Q E}(u:o.guard=none)(d s)(dT sT)
  (j:o.op= .call {callee:=.builtin .copy,args:=#[d,s],argTypes:=#[dT,sT]}) (elem) (k:P.underlying dT=some (.slice elem)) (l:(P.info? elem).map (·.size)=some 1)
  (dp sp) (dLen dCap sLen sCap) (m:a.eval d= .slice dp dLen dCap) (n:a.eval s= .slice sp sLen sCap)
  (g off) (cur) (t) (f:w.heap[g]?=some (qR cur.toArray t (0,0))) (cs) (v:cs.length=Nat.min sLen dLen)
  (x:0<cs.length->dp=some (qP g off)/\∃b,sp=some b/\∀h c,cs[h]?=some c->w.cell? (b.add h)=some c)
  (y:off+cs.length<=cur.length) (z:∀c∈cs,c.oneCell'=true)
  (p:∀i,Hid (zZ w i g (splice cur off cs) t)->K (a.put o.dst (goInt cs.length)) i):
  if Region.wanted o (yielded ops a.tmps)=true then Oper.wp P o a w K Q else E:=by
 have q:Region.wanted o (yielded ops a.tmps)=true:=by simp[Region.wanted,u]
 rw[xS q];by_cases r:cs.length=0
 ·obtain rfl:=xL r
  have e:=run_copy_none w dT sT o.type elem dp sp dLen dCap sLen sCap k l qF;unfold Oper.wp;simp[execOp,j,resolve,invoke,builtin,m,n,e];exact p w (zC (by simpa[splice]using zZ.refl f))
 obtain⟨rfl,b,rfl,A⟩:=x qF;have e:=run_copy_row (P:=P) w dT sT o.type elem g off dLen dCap b sLen sCap _ t cs k l f v A (by simpa using y) z;unfold Oper.wp;simp[execOp,j,resolve,invoke,builtin,m,n,e];exact p _ (zC (by simpa[splice]using zZ.ql _ f))
def zb{w ops rest e a Q}(j:e.guard=none)(d s)(dT sT)
  (k:e.op= .call {callee:=.builtin .copy,args:=#[d,s],argTypes:=#[dT,sT]}) (elem) (l:P.underlying dT=some (.slice elem)) (m:(P.info? elem).map (·.size)=some 1)
  (dp sp) (dLen dCap sLen sCap) (n:a.eval d= .slice dp dLen dCap) (o:a.eval s= .slice sp sLen sCap)
  (g off) (cur) (t) (f:w.heap[g]?=some (qR cur.toArray t (0,0))) (cs) (r:cs.length=Nat.min sLen dLen)
  (u:0<cs.length->dp=some (qP g off)/\∃b,sp=some b/\∀h c,cs[h]?=some c->w.cell? (b.add h)=some c)
  (v:off+cs.length<=cur.length) (x:∀c∈cs,c.oneCell'=true)
  (p:∀i,Hid (zZ w i g (splice cur off cs) t)->wpList P ops Q rest (a.put e.dst (goInt cs.length)) i):
  wpList P ops Q (e::rest) a w:=by
 by_cases q:cs.length=0
 ·obtain rfl:=xL q
  refine wpList_copy_nothing j d s dT sT k elem l m dp sp dLen dCap sLen sCap n o qF ?_;exact p w (zC (by simpa[splice]using zZ.refl f))
 obtain⟨rfl,b,rfl,y⟩:=u qF;refine wpList_copy_own j d s dT sT k elem l m g off dLen dCap b sLen sCap n o _ t f cs r y (by simpa using v) x ?_;exact p _ (zC (by simpa[splice]using zZ.ql _ f))
def Jz(a)(t e ty)(z)(ht:P.underlying t=some (.slice e))(h:∀a,(zeroValue e).run P a= .ok z a)(i:z.cells= #[z])(f:z.oneCell'=true)(g o n c)(p:0<n)
  (cur) (et) (j:a.heap[g]?=some (qR cur.toArray et (0,0))) (k:o+n<=cur.length):
  (Builtin.clear_ #[t] ty #[qM (qD g o) n c]).run P a= .ok (.tuple #[]) (a.setRow g (splice cur o (List.replicate n z)).toArray):=by
 have d:(Builtin.zeroCells z.cells n).toList=List.replicate n z:=by
  rw[i];simp[Builtin.zeroCells];apply List.ext_getElem
  ·simp
  intro l f m;simp[Nat.mod_one]
 have hst:=run_storeCells_at P g o et (List.replicate n z) 0 _ a j (by simpa using k) (by simp_all);simp only[kW]at hst;obtain⟨b,rfl⟩:∃b,n=b+1:=⟨n-1,qF⟩
 simp[Builtin.clear_,Qz ht,h,d,hst,splice]
def jv(w)(t e ty)(ht:P.underlying t=some (.slice e))(a)(c):(Builtin.clear_ #[t] ty #[qM a 0 c]).run P w= .ok (.tuple #[]) w:=by
 cases a<;>simp[Builtin.clear_,Qz ht]
def step_clear_row{ops o a b K Q E}(p:o.guard=none)(d)(dT)
  (i:o.op= .call {callee:=.builtin .clear,args:=#[d],argTypes:=#[dT]}) (e) (j:P.underlying dT=some (.slice e)) (z) (q:∀b,(zeroValue e).run P b= .ok z b) (r:z.cells= #[z]) (s:z.oneCell'=true)
  (dp) (dLen dCap) (k:a.eval d= .slice dp dLen dCap) (g off) (cur) (t) (f:b.heap[g]?=some (qR cur.toArray t (0,0)))
  (u:0<dLen->dp=some (qP g off)) (v:off+dLen<=cur.length)
  (l:∀h,Hid (zZ b h g (splice cur off (List.replicate dLen z)) t)->K (a.put o.dst (.tuple #[])) h):
  if Region.wanted o (yielded ops a.tmps)=true then Oper.wp P o a b K Q else E:=by
 have m:Region.wanted o (yielded ops a.tmps)=true:=by simp[Region.wanted,p]
 rw[xS m];by_cases n:dLen=0
 ·subst n
  have c:=jv b dT e o.type j dp dCap;unfold Oper.wp;simp[execOp,i,resolve,invoke,builtin,k,c];exact l b (zC (by simpa[splice]using zZ.refl f))
 obtain rfl:=u qF;have c:=Jz b dT e o.type z j q r s g off dLen dCap qF cur t f v;unfold Oper.wp;simp[execOp,i,resolve,invoke,builtin,k,c];exact l _ (zC (zZ.ql _ f))
def jE{b ops rest c a Q}(p:c.guard=none)(d)(dT)
  (k:c.op= .call {callee:=.builtin .clear,args:=#[d],argTypes:=#[dT]}) (e) (l:P.underlying dT=some (.slice e)) (z) (q:∀b,(zeroValue e).run P b= .ok z b) (r:z.cells= #[z]) (s:z.oneCell'=true)
  (dp) (dLen dCap) (m:a.eval d= .slice dp dLen dCap) (g off) (cur) (t) (h:b.heap[g]?=some (qR cur.toArray t (0,0)))
  (u:0<dLen->dp=some (qP g off)) (v:off+dLen<=cur.length)
  (n:∀i,Hid (zZ b i g (splice cur off (List.replicate dLen z)) t)->wpList P ops Q rest (a.put c.dst (.tuple #[])) i):
  wpList P ops Q (c::rest) a b:=by
 refine QT p λw j=>?_
 by_cases o:dLen=0
 ·subst o
  have f:=jv b dT e c.type l dp dCap;unfold Oper.wp;simp[execOp,k,resolve,invoke,builtin,m,f];exact j _ _ (n b (zC (by simpa[splice]using zZ.refl h)))
 obtain rfl:=u qF;have f:=Jz b dT e c.type z l q r s g off dLen dCap qF cur t h v;unfold Oper.wp;simp[execOp,k,resolve,invoke,builtin,m,f];exact j _ _ (n _ (zC (zZ.ql _ h)))
end
abbrev Fl:=qT×qT×qT
def jD:List Fl->qU
 | []=>[]
 | a::b=>a.1::a.2.1::a.2.2::jD b
def zO(a):(jD a).length=a.length*3:=by
 induction a with
 | nil=>rfl
 | cons c a b=>simp only[jD,vh,b];omega
def Io(a b):jD (a++b)=jD a++jD b:=by
 induction a with
 | nil=>rfl
 | cons d a c=>simp only[vI,jD,c]
def Eb(b)(a):(jD b).take (a*3)=jD (b.take a):=by
 induction a generalizing b with
 | zero=>simp[jD]
 | succ a c=>
  cases b with
  | nil=>simp[jD]
  | cons d b=>
   rw[show(a+1)*3=a*3+1+1+1 by omega];simp only[jD,vc,c]
def Ec(b)(a):(jD b).drop (a*3)=jD (b.drop a):=by
 induction a generalizing b with
 | zero=>simp
 | succ a c=>
  cases b with
  | nil=>simp[jD]
  | cons d b=>
   rw[show(a+1)*3=a*3+1+1+1 by omega];simp only[jD,vE,c]
def ZJ{R cs sp off}(c:off+cs.length<=R.length):splice (jD R++sp) (off*3) (jD cs)=jD (splice R off cs)++sp:=by
 unfold splice;have b:=zO R;have a:=zO cs;rw[Io,Io,vB qF,ki qF,Eb,a,show off*3+cs.length*3=(off+cs.length)*3 by omega,Ec];simp
def fl3_get{R i x}(a:R[i]?=some x):(jD R)[i*3]?=some x.1/\(jD R)[i*3+1]?=some x.2.1/\(jD R)[i*3+2]?=some x.2.2:=by
 induction R generalizing i with
 | nil=>simp at a
 | cons c R b=>
  cases i with
  | zero=>simp at a;subst a;exact⟨rfl,rfl,rfl⟩
  | succ i=>
   simp at a;have:=b a;rw[show(i+1)*3=i*3+1+1+1 by omega,show i*3+1+1+1+1=i*3+1+1+1+1 by omega,show i*3+1+1+1+2=i*3+2+1+1+1 by omega];simp only[jD,List.getElem?_cons_succ];exact this
def yD(a:List Fl):Prop:=∀x∈a,x.1.oneCell'=true/\x.2.1.oneCell'=true/\x.2.2.oneCell'=true
def yD.fl{b}(e:yD b):∀d∈jD b,d.oneCell'=true:=by
 induction b with
 | nil=>simp[jD]
 | cons h b i=>
  intro d a;simp only[jD,kS]at a;have c:=e h qH;rcases a with rfl | rfl | rfl | a
  ·exact c.1
  ·exact c.2.1
  ·exact c.2.2
  exact i (λf g=>e f (kM _ g)) d a
def yD.take{R}(c:yD R)(n):yD (R.take n):=λa b=>c a (vO b)
def yD.drop{R}(c:yD R)(n):yD (R.drop n):=λa b=>c a (vS b)
def yD.app{a b}(f:yD a)(g:yD b):yD (a++b):=λd e=>by
 rcases vD.1 e with c | c
 ·exact f d c
 exact g d c
section
variable {P:Program}
def JT(a:qS)(d j k b:TypeId)(e f:qW)(g l h m:Nat)(n:P.underlying d=some (.slice b))(o:(P.info? b).map (·.size)=some 3)(p:Nat.min h g=0):
  (Builtin.copy_ #[d,j] k #[qM e g l,qM f h m]).run P a= .ok (goInt 0) a:=by
 cases hq:P.info? b with
 | none=>simp[hq]at o
 | some q=>
  have i:∀(c:Addr),(loadCells c 0).run P a= .ok #[] a:=λc=>by rfl
  cases e<;>cases f<;>simp[Builtin.copy_,Qz n,Builtin.lenOf,Builtin.firstCells,sizeOf,typeInfo,hq,p,storeCells,i]
def XB(w)(dT sT ty elem)(g o dLen dCap)(a)(sLen sCap)(cur)(t)(m)(cs)
  (h:P.underlying dT=some (.slice elem)) (e:(P.info? elem).map (·.size)=some 3)
  (i:w.heap[g]?=some (qR cur t (0,0))) (j:m=Nat.min sLen dLen) (k:cs.length=m*3)
  (l:∀d b,cs[d]?=some b->w.cell? (a.add d)=some b) (n:o+cs.length<=cur.size) (p:∀b∈cs,b.oneCell'=true):
  (Builtin.copy_ #[dT,sT] ty #[qM (qD g o) dLen dCap,qM (some a) sLen sCap]).run P w=
   .ok (goInt m) (w.setRow g (cur.toList.take o++cs++cur.toList.drop (o+cs.length)).toArray):=by
 have c:=run_loadCells_list (P:=P) w a cs l;have hst:=run_storeCells_at P g o t cs 0 cur w i (by simpa using n) p;cases hq:P.info? elem with
 | none=>simp[hq]at e
 | some q=>
  have f:=(by simpa[hq]using e);rw[k]at c;simp[Builtin.copy_,Qz h,Builtin.lenOf,Builtin.firstCells,sizeOf,typeInfo,hq,f,<- j,c,hst]
def JU{ops o a w K Q E}(x:o.guard=none)(d s)(dT sT)
  (j:o.op= .call {callee:=.builtin .copy,args:=#[d,s],argTypes:=#[dT,sT]}) (elem) (k:P.underlying dT=some (.slice elem)) (l:(P.info? elem).map (·.size)=some 3)
  (dp sp) (dLen dCap sLen sCap) (n:a.eval d= .slice dp dLen dCap) (p:a.eval s= .slice sp sLen sCap)
  (g off) (cur) (t) (f:w.heap[g]?=some (qR cur.toArray t (0,0))) (m) (q:m=Nat.min sLen dLen) (cs) (y:cs.length=m*3)
  (z:0<m->dp=some (qP g off)/\∃b,sp=some b/\∀h c,cs[h]?=some c->w.cell? (b.add h)=some c)
  (A:off+cs.length<=cur.length) (B:∀c∈cs,c.oneCell'=true)
  (r:∀i,Hid (zZ w i g (splice cur off cs) t)->K (a.put o.dst (goInt m)) i):
  if Region.wanted o (yielded ops a.tmps)=true then Oper.wp P o a w K Q else E:=by
 have u:Region.wanted o (yielded ops a.tmps)=true:=by simp[Region.wanted,x]
 rw[xS u];by_cases v:m=0
 ·subst v
  obtain rfl:=xL qF;have e:=JT w dT sT o.type elem dp sp dLen dCap sLen sCap k l q.symm;unfold Oper.wp;simp[execOp,j,resolve,invoke,builtin,n,p,e];exact r w (zC (by simpa[splice]using zZ.refl f))
 obtain⟨rfl,b,rfl,C⟩:=z qF;have e:=XB w dT sT o.type elem g off dLen dCap b sLen sCap _ t m cs k l f q y C (by simpa using A) B;unfold Oper.wp;simp[execOp,j,resolve,invoke,builtin,n,p,e];exact r _ (zC (by simpa[splice]using zZ.ql _ f))
def zk{w ops rest b a Q}(x:b.guard=none)(d s)(dT sT)
  (l:b.op= .call {callee:=.builtin .copy,args:=#[d,s],argTypes:=#[dT,sT]}) (elem) (n:P.underlying dT=some (.slice elem)) (o:(P.info? elem).map (·.size)=some 3)
  (dp sp) (dLen dCap sLen sCap) (p:a.eval d= .slice dp dLen dCap) (q:a.eval s= .slice sp sLen sCap)
  (g off) (cur) (t) (h:w.heap[g]?=some (qR cur.toArray t (0,0))) (m) (r:m=Nat.min sLen dLen) (cs) (y:cs.length=m*3)
  (z:0<m->dp=some (qP g off)/\∃c,sp=some c/\∀i e,cs[i]?=some e->w.cell? (c.add i)=some e)
  (A:off+cs.length<=cur.length) (B:∀e∈cs,e.oneCell'=true)
  (u:∀j,Hid (zZ w j g (splice cur off cs) t)->wpList P ops Q rest (a.put b.dst (goInt m)) j):
  wpList P ops Q (b::rest) a w:=by
 refine QT x λD k=>?_
 by_cases v:m=0
 ·subst v
  obtain rfl:=xL qF;have f:=JT w dT sT b.type elem dp sp dLen dCap sLen sCap n o r.symm;unfold Oper.wp;simp[execOp,l,resolve,invoke,builtin,p,q,f];exact k _ _ (u w (zC (by simpa[splice]using zZ.refl h)))
 obtain⟨rfl,c,rfl,C⟩:=z qF;have f:=XB w dT sT b.type elem g off dLen dCap c sLen sCap _ t m cs n o h r y C (by simpa using A) B;unfold Oper.wp;simp[execOp,l,resolve,invoke,builtin,p,q,f];exact k _ _ (u _ (zC (by simpa[splice]using zZ.ql _ h)))
def zero3(a b c)(n):(Builtin.zeroCells #[a,b,c] n).toList=jD (List.replicate n (a,b,c)):=by
 apply kZ;intro d;have g:=zO (List.replicate n (a,b,c));rw[xD]at g;by_cases j:d<n*3
 ·have h:d/3<n:=qF
  have f:=fl3_get (R:=List.replicate n (a,b,c)) (i:=d/3) (x:=(a,b,c)) (by simp[h]);have e:d%3=0\/d%3=1\/d%3=2:=qF
  have i:(Builtin.zeroCells #[a,b,c] n).toList[d]?=some (#[a,b,c][d%3]!):=by
   simp[Builtin.zeroCells,j]
  rw[i];rcases e with e | e | e
  ·rw[show d/3*3=d by omega]at f
   rw[f.1,e];rfl
  ·rw[show d/3*3+1=d by omega]at f
   rw[f.2.1,e];rfl
  rw[show d/3*3+2=d by omega]at f;rw[f.2.2,e];rfl
 rw[vW (by simp[Builtin.zeroCells];omega),vW qF]
def Ed(a)(t e ty)(z)(z0 z1 z2)(ht:P.underlying t=some (.slice e))(h:∀a,(zeroValue e).run P a= .ok z a)(i:z.cells= #[z0,z1,z2])(m:z0.oneCell'=true/\z1.oneCell'=true/\z2.oneCell'=true)(g o n c)(p:0<n)
  (cur) (et) (j:a.heap[g]?=some (qR cur.toArray et (0,0))) (q:o+n*3<=cur.length):
  (Builtin.clear_ #[t] ty #[qM (qD g o) n c]).run P a= .ok (.tuple #[]) (a.setRow g (splice cur o (jD (List.replicate n (z0,z1,z2)))).toArray):=by
 have d:(Builtin.zeroCells z.cells n).toList=jD (List.replicate n (z0,z1,z2)):=by rw[i];exact zero3 z0 z1 z2 n
 have f:=zO (List.replicate n (z0,z1,z2));rw[xD]at f;have hst:=run_storeCells_at P g o et (jD (List.replicate n (z0,z1,z2))) 0 _ a j (by simp_all) (yD.fl (λk l=>by simp_all));simp only[kW]at hst;obtain⟨b,rfl⟩:∃b,n=b+1:=⟨n-1,qF⟩
 simp[Builtin.clear_,Qz ht,h,d,hst,splice]
def jA{b ops rest c a Q}(p:c.guard=none)(d)(dT)
  (k:c.op= .call {callee:=.builtin .clear,args:=#[d],argTypes:=#[dT]}) (e) (l:P.underlying dT=some (.slice e)) (z z0 z1 z2) (q:∀b,(zeroValue e).run P b= .ok z b) (r:z.cells= #[z0,z1,z2]) (s:z0.oneCell'=true/\z1.oneCell'=true/\z2.oneCell'=true)
  (dp) (dLen dCap) (m:a.eval d= .slice dp dLen dCap) (g off) (cur) (t) (h:b.heap[g]?=some (qR cur.toArray t (0,0)))
  (u:0<dLen->dp=some (qP g off)) (v:off+dLen*3<=cur.length)
  (n:∀i,Hid (zZ b i g (splice cur off (jD (List.replicate dLen (z0,z1,z2)))) t)->wpList P ops Q rest (a.put c.dst (.tuple #[])) i):
  wpList P ops Q (c::rest) a b:=by
 refine QT p λw j=>?_
 by_cases o:dLen=0
 ·subst o
  have f:=jv b dT e c.type l dp dCap;unfold Oper.wp;simp[execOp,k,resolve,invoke,builtin,m,f];exact j _ _ (n b (zC (by simpa[splice,jD]using zZ.refl h)))
 obtain rfl:=u qF;have f:=Ed b dT e c.type z z0 z1 z2 l q r s g off dLen dCap qF cur t h v;unfold Oper.wp;simp[execOp,k,resolve,invoke,builtin,m,f];exact j _ _ (n _ (zC (zZ.ql _ h)))
end
def Tryz.infoS:(prog.info? 48).map (λa=>(a.zero,a.size,a.bytes))=some (some qN,1,24):=qI
def ix(a:qV):Int:=if fb a<a.length then fb a else -1
def indexL(zs)(b o cap)(w)(p:∀d,d<zs.length->w.cell? (qP b (o+d))=some (.int .i32 (zs.getD d 0)))(G:zs.length<=1048576)(H:zs.length<=cap)(B:cap<=maxLen):
  Calls prog 74 #[qM (qD b o) zs.length cap,.int .i32 10] w λz A=>z=qQ (qC (ix zs))/\A=w:=by
 have q:=zC p;have r:=zC (λa(m:a<fb zs)=>fb_no m);have s:=zC (fun(i:fb zs<zs.length)=>fb_at i);have C:=zBc zs;unfold ix;generalize E:fb zs=f at *;generalize F:zs.length=c at *;unfold maxLen at B;obtain⟨n,j⟩:∃n:Int,n=if f<c then(f:Int)else -1:=⟨_,rfl⟩
 rw[<- j];have k:=zC j;clear p j;go_enter func74,ntmps74;go_wp2_with fail;go_loop [8] (λd=>∃a:Nat,a<=f/\d=qC a) (λd=>c-(intOf d).toNat)
 case atStart=>exact⟨0,xK _,rfl⟩
 obtain⟨a,m,rfl⟩:=hrel;by_cases g:a<c
 ·have t:=q a g
  by_cases x:a=f
  ·subst x
   have u:=s g;rw[u]at t;have h:=zC g;have l:(a:Int)<c:=qF;clear g;go_wp2;go_ret;exact⟨by have e:=k.out;rw[xS h.out]at e;rw[e];rfl,rfl⟩
  have v:=r a qF;generalize zs.getD a 0=y at *;have D:¬10=y:=λi=>v i.symm
  have l:(a:Int)<c:=qF;go_wp2;go_round
  case rel=>exact⟨a+1,qF,qL⟩
  simp[intOf];omega
 have l:¬ (a:Int)<c:=qF
 have h:=zC (show ¬f<c by omega);go_wp2;go_ret;exact⟨by have e:=k.out;rw[xJ h.out]at e;rw[e];rfl,rfl⟩
def RE(w):Calls prog 74 #[qN,.int .i32 10] w λa b=>a=qQ (qC (-1))/\b=w:=by
 go_enter func74,ntmps74;go_wp2_with fail;refine xQ 1 ?_;rw[xG];go_wp2;go_ret;simp
def bdP(b:Nat)(c a:Int):Prop:=(b:Int)<=65536/\(0<=a/\a<=b)/\(0<=c/\c<=a)/\b-(a-c)<=8192
def Kq(b:qV)(c d:Int):Prop:=bdP b.length c d/\∀a:Nat,c<=a->a<d->b.getD a 0=0
def zK(a:Gr):qV:=zW a.cells a.lo.toNat a.hi.toNat
def Pm(a:Gr):Prop:=Kq a.cells a.lo a.hi/\10∉zK a
def ZR{g}(a:Kq g.cells g.lo g.hi):((zK g).length)=g.cells.length-(g.hi-g.lo)/\(zK g).length<=8192/\g.cells.length<=65536:=by
 obtain⟨⟨b,⟨c,d⟩,⟨e,f⟩,h⟩,_⟩:=a;have:=zP (zs:=g.cells) (lo:=g.lo.toNat) (hi:=g.hi.toNat) qF qF;unfold zK;omega
def jt:List (qV)->qV
 | []=>[]
 | a::ls=>10::(a++jt ls)
def jn:List (qV)->qV
 | []=>[]
 | a::ls=>a++jt ls
def jt_snoc(ls)(l):jt (ls++ [l])=jt ls++10::l:=by
 induction ls with
 | nil=>simp[jt]
 | cons b ls a=>simp[jt,a]
def jn_snoc{ls}(a:ls≠ [])(l):jn (ls++ [l])=jn ls++10::l:=by
 cases ls with
 | nil=>exact absurd rfl a
 | cons b ls=>simp[jn,jt_snoc]
def jt_len(ls):(jt ls).length=jR ls+ls.length:=by
 induction ls with
 | nil=>rfl
 | cons b ls a=>simp only[jt,jR,vh,xg,a];omega
def jl{ls}(a:ls≠ []):(jn ls).length+1=jR ls+ls.length:=by
 cases ls with
 | nil=>exact absurd rfl a
 | cons b ls=>simp only[jn,jR,vh,xg,jt_len];omega
def jf{ls:List (qV)}{i l}(a:ls[i]?=some l):jR (ls.take (i+1))=jR (ls.take i)+l.length:=by
 rw[vH,a,IZ];simp[jR]
def jB(ls)(i):jR (ls.take i)<=jR ls:=by
 have:=IZ (ls.take i) (ls.drop i);rw[vy]at this;omega
def jL(ls:List (qV)):qV:=(List.range ls.length).map λa:Nat=>((jR (ls.take a)+a:Nat))
def ji(ls):(jL ls).length=ls.length:=by simp[jL]
def UV{ls i}(a:i<ls.length):(jL ls)[i]?=some ((jR (ls.take i)+i:Nat):Int):=by simp[jL,a]
def Y7{ls i}(a:i<ls.length):(jL ls).getD i 0=((jR (ls.take i)+i:Nat)):=by simp[jL,a]
def YZ{ls i}(a:i<ls.length):(jL ls).take (i+1)=(jL ls).take i++ [((jR (ls.take i)+i:Nat):Int)]:=by
 rw[vH,UV a];rfl
def LV(a:List Gr)(b:qV):Prop:=(1<=a.length/\a.length<=8193/\1<=b.length/\b.length<=a.length)/\(∀g∈a,Pm g)/\(jn (a.map zK)).length<=8192/\b=(jL (a.map zK)).take b.length
def RF(ls:List (qV))(a b:Int):Int:=
 if 0<=a/\a<ls.length/\0<=b/\b<=(ls.getD a.toNat []).length then((jR (ls.take a.toNat)+a.toNat:Nat))+b else -1
def plainRN(ao)(n cap)(w):
  Calls prog 45 #[qM ao n cap] w λb c=>b=qQ (.agg #[qM ao n cap,qC n,qC n])/\qY w c:=by
 have a:=zC ((xe _ w).alloc lR (qR #[qM ao n cap,qC n,qC n] 97));go_enter func45,ntmps45;go_wp2;refine vg (by simp[results,go_sem]) rfl ⟨rfl,a⟩
def Ee{a}(b:10∉a):Zo a=0:=by
 induction a with
 | nil=>rfl
 | cons f a e=>
  rw[Zy,xJ (λc=>b (by simp[c])),e (λd=>b (kM _ d))]
def Dl{l r}(e:10∉l){c}(f:c<=l.length):Yi (l++r) c=0/\JD (l++r) c=c:=by
 have a:(l++r).take c=l.take c:=vB f;have b:Zo (l.take c)=0:=Ee (λd=>e (vO d));unfold Yi JD;rw[a,b];simp[ls]
def RQ{l J}(a:10∉l)(b)(d:b<=Zo J):ls (l++10::J) (b+1)=l.length+1+ls J b:=by
 unfold ls;rw[xJ qF,show b+1-1=b by omega];rw[Ea l _ b (by rw[Ee a];omega) (by rw[Ee a,Zy,xS rfl];omega),Ee a,Nat.sub_zero];rw[bb,xS rfl];by_cases c:b=0
 ·simp[c]
 simp[c];omega
def RS{l J}(a:10∉l){k}(d:k<=J.length):Yi (l++10::J) (l.length+1+k)=Yi J k+1/\JD (l++10::J) (l.length+1+k)=JD J k:=by
 have b:(l++10::J).take (l.length+1+k)=l++10::J.take k:=by
  rw[show l.length+1+k=l.length+(k+1)by omega,List.take_append,xU qF];simp
 have c:Zo (l++10::J.take k)=Zo (J.take k)+1:=by
  rw[E8,Ee a,Zy,xS rfl];omega
 unfold Yi JD;rw[b,c,RQ a _ (JQ J k)];constructor<;>omega
def Ip:∀(b)(c:∀e∈b,10∉e)(a d)(e),b[a]?=some e->d<=e.length->Yi (jn b) (jR (b.take a)+a+d)=a/\JD (jn b) (jR (b.take a)+a+d)=d/\jR (b.take a)+a+d<=(jn b).length
 | [],_,a,d,e,c,_=>by simp at c
 | [f],h,a,d,e,c,i=>by
  cases a with
  | zero=>
   simp at c;subst c;have:=Dl (r:=[]) (h f qH) i;simp at this;simp[jn,jt,jR];omega
  | succ a=>simp at c
 | f::g::b,h,a,d,e,c,i=>by
  have k:jn (f::g::b)=f++10::jn (g::b):=(by simp[jn,jt]);cases a with
  | zero=>
   simp at c;subst c;have:=Dl (r:=10::jn (g::b)) (h f qH) i;rw[k];simp[jR];omega
  | succ a=>
   simp at c;have j:=Ip _ (λe n=>h e (kM _ n)) a d e c i;have l:=RS (h f qH) j.2.2;rw[k]
   have m:jR ((f::g::b).take (a+1))+(a+1)+d=f.length+1+(jR ((g::b).take a)+a+d):=by
    simp only[vc,jR];omega
   rw[m,l.1,l.2,j.1,j.2.1];refine⟨qF,rfl,?_⟩;simp;omega
def GP:∀(a)(m:a≠ [])(b),b<=(jn a).length->∃d e f,a[d]?=some f/\e<=f.length/\b=jR (a.take d)+d+e
 | [],g,_,_=>absurd rfl g
 | [c],_,b,i=>⟨0,b,c,qH,by simpa[jn,jt]using i,by simp[jR]⟩
 | c::h::a,_,b,i=>by
  have j:jn (c::h::a)=c++10::jn (h::a):=(by simp[jn,jt]);rw[j,xg,vh]at i;by_cases g:b<=c.length
  ·exact⟨0,b,c,qH,g,by simp[jR]⟩
  obtain⟨d,e,f,k,l,n⟩:=GP (h::a) qH (b-c.length-1) qF;refine⟨d+1,e,f,by simpa using k,l,?_⟩;simp only[vc,jR];omega
def UW{L}(o:L≠ [])(i:∀d∈L,10∉d)(line col):Zd (jn L) line col=RF L line col:=by
 unfold RF
 split
 ·rename_i g
  obtain⟨c,j,p,k⟩:=g;obtain⟨a,rfl⟩:∃a:Nat,line=a:=⟨line.toNat,qF⟩
  obtain⟨b,rfl⟩:∃b:Nat,col=b:=⟨col.toNat,qF⟩
  rw[kI]at k |-;have e:a<L.length:=qF;have l:L[a]?=some L[a]:=(by simp[e]);have f:L.getD a []=L[a]:=(by simp[xP,e]);rw[f]at k;have:=Ip L i a b _ l qF;rw[Pi this.2.2 (by rw[this.1]) (by rw[this.2.1])];omega
 rename_i g;refine Pj (λm n h=>g ?_);obtain⟨a,b,d,c,j,rfl⟩:=GP L o m n;have:=Ip L i a b d c j;have e:=(xp.1 c).1;rw[this.1,this.2.1]at h;obtain⟨rfl,rfl⟩:=h;refine⟨qF,qF,qF,?_⟩;rw[kI];have f:L.getD a []=d:=by simp[xP,c]
 rw[f];omega
noncomputable def RT (M c:Nat):Nat:=open Classical in if h:∃r,XJ M c r then Classical.choose h else 0
def GS{M c}(b:1<=c):XJ M c (RT M c):=by
 have a:=Ts M _ c b lR;unfold RT;rw[dif_pos a];exact Classical.choose_spec a
noncomputable def zy (zs:List Int) (lo hi n:Nat):Nat:=if n<=hi - lo then zs.length else RT ((zW zs lo hi).length+n) (max zs.length 16)
def Jf(zs)(lo hi n):(n<=hi-lo/\zy zs lo hi n=zs.length)\/(hi-lo<n/\XJ ((zW zs lo hi).length+n) (max zs.length 16) (zy zs lo hi n)):=by
 unfold zy;by_cases a:n<=hi-lo
 ·simp_all
 exact .inr ⟨qF,by rw[xJ a];exact GS qF⟩
def Jg{zs lo hi n}(a:GV zs lo hi)(h:(zW zs lo hi).length+n<=8192):(zW zs lo hi).length+n<=zy zs lo hi n/\zy zs lo hi n<=65536:=by
 have b:=a.a;have c:=a.b;have f:=a.c;have g:=zP b c;rcases Jf zs lo hi n with ⟨d,i⟩ | ⟨d,e⟩
 ·omega
 have:=JO e;omega
structure Kr(w:qS)(a:qU)(L:List (qV)):Prop where
 len:a.length=L.length
 at_:∀(i:Nat)v l,a[i]?=some v->L[i]?=some l->Sl .i32 w v l
def Kr.nil(w):Kr w [] []:=⟨rfl,λb v c a=>by simp at a⟩
def Kr.snoc{w vals L v l}(d:Kr w vals L)(h:Sl .i32 w v l):Kr w (vals++ [v]) (L++ [l]):=by
 refine⟨by simp[d.len],λe f g a b=>?_⟩;rcases kU e vals.length with c | c | c
 ·rw[xW c]at a
  rw[xW (by rw[<- d.len];exact c)]at b;exact d.at_ e f g a b
 ·subst c
  rw[vb lR]at a;rw[d.len,vb lR]at b;simp at a b;subst a b;exact h
 rw[vW qJ]at a;cases a
def Kr.below{w w' vals L}(a:Kr w vals L)(g:qY w w'):Kr w' vals L:=⟨a.len,λb c d e f=>(a.at_ b c d e f).below g⟩
def Iq{w b o c}{d:qV}(f:∀a,a<d.length->w.cell? (qP b (o+a))=some (.int .i32 (d.getD a 0)))(g:b<w.heap.size){k}(h:k<=d.length):Sl .i32 w (qM (qD b o) k c) (d.take k):=by
 refine .inr ⟨b,o,c,by simp_all,g,λa e=>?_⟩;rw[xi]at e;rw[f a qF];simp[show a<k by omega]
def zB4:qT->Nat
 | .slice _ a _=>a
 | _=>0
def SlB(f:qS)(d:Nat)(g:qT)(b:qV):Prop:=∃c e,g= .slice (qD d c) b.length e/\∀a,a<b.length->f.cell? (qP d (c+a))=some (.int .i32 (b.getD a 0))
structure WM(w:qS)(b:Nat)(a:qU)(L:List (qV)):Prop where
 len:a.length=L.length
 at_:∀(i:Nat)v l,a[i]?=some v->L[i]?=some l->SlB w b v l
def WM.nil(w)(b):WM w b [] []:=⟨rfl,λc v d a=>by simp at a⟩
def WM.snoc{w b vals L v l}(e:WM w b vals L)(i:SlB w b v l):WM w b (vals++ [v]) (L++ [l]):=by
 refine⟨by simp[e.len],λf g h a c=>?_⟩;rcases kU f vals.length with d | d | d
 ·rw[xW d]at a
  rw[xW (by rw[<- e.len];exact d)]at c;exact e.at_ f g h a c
 ·subst d
  rw[vb lR]at a;rw[e.len,vb lR]at c;simp at a c;subst a c;exact i
 rw[vW qJ]at a;cases a
def Dm{w b o c}{d:qV}(f:∀a,a<d.length->w.cell? (qP b (o+a))=some (.int .i32 (d.getD a 0))){k}(g:k<=d.length):SlB w b (qM (qD b o) k c) (d.take k):=by
 refine⟨o,c,by simp_all,λa e=>?_⟩;rw[xi]at e;rw[f a qF];simp[show a<k by omega]
def zBh:(∀(e)(f l k)(d)(F:∀c,c<e.length->d.cell? (qP f (l+c))=some (.int .i32 (e.getD c 0)))(x:f<d.heap.size)(U:e.length<=1048576)(G:e.length<=k)(H:k<=maxLen),Calls prog 47 #[qM (qD f l) e.length k] d λC D=>∃E h,C=qQ E/\D.ownsRow d.heap.size 48 1 E (yI e).length h/\Kr d h (yI e)/\qY d D)/\(∀(e)(f l k)(d)(F:∀c,c<e.length->d.cell? (qP f (l+c))=some (.int .i32 (e.getD c 0)))(x:f<d.heap.size)(U:e.length<=1048576)(G:e.length<=k)(H:k<=maxLen),Calls prog 47 #[qM (qD f l) e.length k] d λC D=>∃E h,C=qQ E/\D.ownsRow d.heap.size 48 1 E (yI e).length h/\WM d f h (yI e)/\qY d D):=by
 refine⟨@λe f l k d F x U G H=>have M:=zC xB;?_,@λe f l k d F x U G H=>have ac:=zC xB;?_⟩
 all_goals
  obtain⟨V,g,W,X,Y⟩:=vw Tryz.infoS;have ad:=zC F;have ao:=zC (j9 e);generalize aj:yI e=al at *;have ae:=zC aj;generalize ak:e.length=am at *;have n:=zC ak;clear F aj ak;go_enter func47,ntmps47;go_wp2_with fail
  first
   |(revert ac;intro ac;skip
     go_loopw [0,3] (λt ls wr=>∃(m:List _)(b:qV)(i a:Nat)(h:qU),al=m++yI b/\t= .slice (qD f i) b.length a/\b.length<=a/\a<=maxLen/\b.length<=am/\
       (∀c,c<b.length->d.cell? (qP f (i+c))=some (.int .i32 (b.getD c 0)))/\wr.ownsRow d.heap.size 48 1 ls m.length h/\WM d f h m/\qY d wr)
      (λt _ _=>zB4 t)
     exact⟨[],e,l,k,[],by simp[ae.out],by rw[n.out],by rw[n.out];exact G,H,by rw[n.out];omega,λc g=>ad c (by rw[<- n.out];exact g),xR _ _ _ _,WM.nil _ _,xe _ _⟩)
   |(skip
     go_loopw [0,3] (λt ls wr=>∃(m:List _)(b:qV)(i a:Nat)(h:qU),al=m++yI b/\t= .slice (qD f i) b.length a/\b.length<=a/\a<=maxLen/\b.length<=am/\
       (∀c,c<b.length->d.cell? (qP f (i+c))=some (.int .i32 (b.getD c 0)))/\wr.ownsRow d.heap.size 48 1 ls m.length h/\Kr d h m/\qY d wr)
      (λt _ _=>zB4 t)
     exact⟨[],e,l,k,[],by simp[ae.out],by rw[n.out],by rw[n.out];exact G,H,by rw[n.out];omega,λc g=>ad c (by rw[<- n.out];exact g),xR _ _ _ _,Kr.nil _,xe _ _⟩)
  obtain⟨m,b,i,a,h,Z,rfl,au,an,a4,Q,aa,ab,K⟩:=hrel;have CL:=zC Q;have u:=zC aa;have R:=zC ab;have S:=zC K;have y:=zC Z;have r:=zC (indexL b f i a wr (λc g=>(K.cell x).trans (Q c g)) qF au an);have aw:=K.size;have ax:m.length<=1048577:=(by have ap:=ao.2;have aq:=y.out;rw[aq,xg]at ap;omega);unfold ix at r;unfold maxLen at an;by_cases w:fb b<b.length
  ·rw[xS w]at r
   have z:=zC (fb_lns w)
   first
    |(revert M;intro M;have s:=zC (Iq (c:=a) CL x (kG w)))
    |(have s:=zC (Dm (c:=a) CL (kG w)))
   generalize a3:fb b=j at *;generalize O:b.length=P at *;have HR:=zC O;clear Q aa ab K Z O;go_wp2_with fail;refine r.mono ?_;rintro C av ⟨rfl,L⟩;have T:=L.symm;subst T;clear L r;have ay:¬ (j:Int)<0:=qF;have az:(j:Int)<=a:=qF;have a0:(j:Int)+1<=a:=qF;have N:=zC (zV wr 48 [qM (qD f i) j a]);by_cases ar:a=j+1
   ·subst ar
    go_wp2_with (at_builtin;refine xM _ rfl _ _ 83 rfl _ 48 V _ 1 24 underlying83 g W X Y rfl qG _ _ _ rfl (u.alloc _) _ 1 1 _ rfl rfl N (by intro ag o;simp at o;subst o;rfl) qK qF qJ ?_;intro ah ai p q _);have A:=zC ((S.alloc qF _).grown q qJ (λI J=>(u.lt I J).1));have B:=zC p;clear p q;go_wp2;go_roundw
    case rel=>
     have v:=vx (by rw[HR.out];omega);refine⟨_,[],i,0,_,?_,?_,xK _,qF,xK _,λc g=>by simp at g,?_,R.snoc s,A⟩
     ·rw[y.out,z.out,v];simp
     ·simp
     rw[xg];exact B
    simp[zB4];omega
   have a1:¬ ((a:Int)=j+1):=qF;have a2:(j:Int)+1<a:=qF;go_wp2_with (at_builtin;refine xM _ rfl _ _ 83 rfl _ 48 V _ 1 24 underlying83 g W X Y rfl qG _ _ _ rfl (u.alloc _) _ 1 1 _ rfl rfl N (by intro ag o;simp at o;subst o;rfl) qK qF qJ ?_;intro ah ai p q _);have A:=zC ((S.alloc qF _).grown q qJ (λI J=>(u.lt I J).1));have B:=zC p;clear p q;go_wp2;go_roundw
   case rel=>
    have v:(b.drop (j+1)).length=P-(j+1):=(by rw[xz,HR.out]);refine⟨_,_,i+(j+1),a-(j+1),_,?_,?_,by rw[v];omega,qK,by rw[v];omega,?_,?_,R.snoc s,A⟩
    ·rw[y.out,z.out];simp
    ·rw[v]
    ·intro c g
     rw[v]at g;rw[Qa,CL.out _ qF];simp
    rw[xg];exact B
   simp[zB4];omega
  rw[xJ w]at r;have af:fb b=b.length:=(by have:=zBc b;omega);have z:=zC (fb_lns0 af)
  first
   |(revert M;intro M;have s:=zC (Iq (c:=a) CL x lR))
   |(have s:=zC (Dm (c:=a) CL lR))
  rw[xU lR]at s;generalize O:b.length=P at *;clear Q aa ab K Z O af w;go_wp2_with fail;refine r.mono ?_;rintro C av ⟨rfl,L⟩;have T:=L.symm;subst T;clear L r;have N:=zC (zV wr 48 [qM (qD f i) P a]);go_wp2_with (at_builtin;refine xM _ rfl _ _ 83 rfl _ 48 V _ 1 24 underlying83 g W X Y rfl qG _ _ _ rfl (u.alloc _) _ 1 1 _ rfl rfl N (by intro ag o;simp at o;subst o;rfl) qK qF qJ ?_;intro ah ai p q _);have A:=zC ((S.alloc qF _).grown q qJ (λI J=>(u.lt I J).1));have B:=zC p;clear p q;go_wp2;go_ret;refine⟨_,h++ [qM (qD f i) P a],rfl,?_,?_,A⟩
  ·rw[y.out,z.out,xg];exact B
  rw[y.out,z.out];exact R.snoc s
def cutL:=@zBh.1
def cutLB:=@zBh.2
def yZ(a:qS)(e):(a.alloc (qR #[] e)).ownsRow a.heap.size e 1 (qM (qD a.heap.size 0) 0 0) 0 []:=by
 have:=kr (base:=a.heap.size) (e:=e) (size:=1) a #[] 0 qH (xK _) rfl;simpa using this
def jC{c:qS}{d e f:Nat}{v n xs}(g:c.ownsRow d e f v n xs):∃b a,v= .slice b n a:=by
 rcases g.2 with ⟨rfl,h⟩ | ⟨i,a,j,rfl,_⟩
 ·simp_all
 simp
def Tryz.info64T:(prog.info? 3).map (λa=>(a.zero,a.size,a.bytes))=some (some (qC 0),1,8):=qI
def Tryz.infoGPT:(prog.info? 86).map (λa=>(a.zero,a.size,a.bytes))=some (some (.agg #[qN,qC 0,qC 0]),3,40):=qI
def allS(gs)(st)(vr vt)(lo hi)(w)(E:Zh w lo hi vr vt gs st)(bn:hi<=w.heap.size)(bp:gs.length<=8193)(bq:1<=gs.length)(Y:∀b∈gs,Kq b.cells b.lo b.hi)(D:jR (gs.map zK)+gs.length<=4194304):
  Calls prog 42 #[.agg #[vr,vt]] w λl p=>∃C,l=qQ C/\C≠ .slice none 0 0/\Zr p w.heap.size C (jL (gs.map zK))/\qY w p:=by
 obtain⟨LS,u⟩:∃LS,LS=gs.map zK:=⟨_,rfl⟩
 have Z:=zC (((xe w.heap.size w).alloc lR (qR #[vr,vt] 28)).alloc qH (qR #[] 3));have H:=zC (zF (base':=w.heap.size) (yZ (w.alloc (qR #[vr,vt] 28)) 3) qH);have I:(w.alloc (qR #[vr,vt] 28)).heap.size=w.heap.size+1:=qH
 rw[I]at H;have ba:((w.alloc (qR #[vr,vt] 28)).alloc (qR #[] 3)).heap.size=w.heap.size+2:=qH
 obtain⟨br,a0,a1,a2,rfl,rfl⟩:=E.val;obtain⟨a3,v⟩:=E.rows;rcases v.row.2 with ⟨_,c⟩ | ⟨a4,bs,bt,c,_,_,bu,a5,_⟩
 ·omega
 simp only[jW,true_and]at c;obtain⟨rfl,rfl⟩:=c;have aa:=zC (λp(D:qY w p)=>v.frame (λc _ W=>D.block c qF))
 have ab:=zC (fun(a:Nat) q=>(show ∃b r,gs[a]?=some b/\a3[a]?=some r/\LS[a]?=some (zK b)/\Kq b.cells b.lo b.hi from by
  obtain⟨b,r,d,m⟩:=v.get q
  exact⟨b,r,d,m,by rw[u];simp[d],Y b (xH d)⟩))
 rw[<- u]at D |-;have J:LS.length=gs.length:=by rw[u,xO]
 have ac:=zC (λa q=>YZ (ls:=LS) (i:=a) q);have SS:=zC (λa ay(s:LS[a]?=some ay)=>jf s);have ad:=zC (λa=>jB LS a);have K:=zC (ji LS);generalize V:gs.length=e at *;generalize st.length=ax at *;have ae:=zC V;have z:=zC J;unfold maxLen at a5;clear E v Y u I J V;go_enter func42,ntmps42;go_wp2_with fail;generalize (w.alloc (qR #[qM (qD a4 0) e a0,qM a1 ax a2] 28)).alloc (qR #[] 3)=bl at *
 go_loopw [3,4,11] (λX az t wr=>∃a:Nat,a<=e/\t=qC a/\az=qC ((jR (LS.take a)+a:Nat))/\X≠ .slice none 0 0/\qY w wr/\w.heap.size+1<=wr.heap.size/\wr.ownsRow w.heap.size 3 1 X a (zI .i64 ((jL LS).take a)))
  (λ_ _ t _=>e-(intOf t).toNat)
 case atStart=>exact⟨0,xK _,rfl,by simp[jR],qH,Z,qF,by simpa[zI]using H.out⟩
 obtain⟨a,q,rfl,rfl,F,x,bv,y⟩:=hrel;have A:=zC x;have n:=zC y;have L:=zC F;obtain⟨bw,bx,rfl⟩:=jC y;have bc:=ad a;by_cases U:a<e
 ·obtain⟨b,r,d,m,s,G⟩:=ab a U
  have B:=aa wr x;obtain⟨bz,b0,b1⟩:=B.cells ae d m;obtain⟨i,j,a6⟩:=yw (B.inner d m);have af:=ZR G
  have bd:0<=b.lo/\b.lo<=b.hi/\b.hi<=b.cells.length:=by
   obtain⟨⟨_,⟨_,a7⟩,⟨a8,a9⟩,_⟩,_⟩:=G;exact⟨a8,a9,a7⟩
  have M:=SS a _ s;have ag:=zC (ac a (by rw[z.out];exact U));have N:((jR (LS.take a)+a:Nat))+(b.cells.length-(b.hi-b.lo)+1)=((jR (LS.take (a+1))+(a+1):Nat)):=(by rw[M];omega);have ah:=zC N;generalize bh:jR (LS.take a)+a=k at *;generalize bi:b.cells.length=f at *;generalize bj:b.lo=g at *;generalize bk:b.hi=h at *;have bf:k<=4194304:=qF;have ai:(a:Int)<e:=qF;have aj:=A.size;have bg:=af.2.2;subst a6;clear y x B d m s G F M N;have O:=zC ((xe wr.heap.size wr).alloc lR (qR #[qM i f j,qC g,qC h] 86));have ak:=zC (Q3.new wr (qM i f j) (qC g) (qC h) 86);have al:(wr.alloc (qR #[qM i f j,qC g,qC h] 86)).heap.size=wr.heap.size+1:=qH;have P:=zC (zE n O lR);have am:=zC (A.trans (O.mono aj));have Q:=zC (zV (wr.alloc (qR #[qM i f j,qC g,qC h] 86)) 3 [qC k]);rw[al]at Q;go_upto_region 7 with (at_builtin;refine a26 _ rfl _ _ rfl w.heap.size _ _ _ rfl (P.alloc _) (qP (wr.heap.size+1) 0) 1 1 [qC (k:Int)] rfl rfl Q (zJ .i64 [k]) qK qF qJ ?_;intro av aw S o T)
  have an:=zC (show av≠ .slice none 0 0 from λl=>L (T.1 l).1);have R:=((xe w.heap.size (wr.alloc (qR #[qM i f j,qC g,qC h] 86))).alloc qF (qR #[qC (k:Int)] 3)).grown o qJ (λc W=>(P.lt c W).1);have ao:=zC (am.trans R);have ap:=o.size;simp at ap
  have aq:=zC (show Q3 aw wr.heap.size (qM i f j) (qC g) (qC h) 86 from by
   refine((o.block wr.heap.size qJ (λl=>?_)).trans (kL _ _ _ qH)).trans ak;have:=(n.lt wr.heap.size l.symm).2
   omega)
  have ar:=zC S;clear S o T R;obtain⟨b2,b3,b4⟩:=aq.c;go_wp2;go_roundw
  case rel=>
   refine⟨a+1,qF,qL,by rw[<- ah.out],an,ao,qF,?_⟩;rw[ag.out,zm];exact ar
  simp[intOf];omega
 obtain rfl:a=e:=qF
 have ai:¬ (a:Int)<a:=qF
 have au:=xU (by rw[K.out,z.out];exact lR);rw[au]at n;clear y x F;go_wp2;go_ret;refine⟨_,rfl,L,?_,A⟩;unfold Zr;rw[K.out,z.out];exact n

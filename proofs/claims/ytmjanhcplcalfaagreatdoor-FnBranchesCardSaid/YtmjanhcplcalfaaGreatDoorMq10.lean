import Derived.Test.YtmjanhcplcalfaaGreatDoorMq03
import Derived.Deep.QuietTactic
import Derived.BigQuiet
import Derived.Laws.AppendOwnNone
import Derived.Lib.SliceRun
import Derived.Laws.CopyOwn
import Derived.Test.YtmjanhcplcalfaaGreatDoorMq98
set_option linter.all false
set_option maxRecDepth 100000
set_option maxHeartbeats 8000000
namespace Go.Proofs.YtmjanhcplcalfaaGreatDoor
open Go Go.RowKit Go.Proofs.Tryz
theorem Tryz.qw:(prog.info? 21).map (fun i=>(i.zero,i.size,i.bytes))=some (some (.int .i32 0),1,4):=by kernel_rfl
def Sl (k:IntKind) (w:World) (v:Value) (zs:List Int):Prop:=
 (v= .slice none 0 0∧zs= [])∨
 (∃b off cap,v= .slice (qK b off) zs.length cap∧b<w.heap.size∧∀i,i<zs.length->w.cell? ⟨b,off+i,none⟩=some (.int k (zs.getD i 0)))
theorem Sl.qd {k:IntKind} {w:World} {base:Nat} {e:TypeId} {v:Value} {n:Nat} {zs:List Int} (a:w.ownsRow base e 1 v n (ints k zs)):Sl k w v zs:=by
 have c:zs.length=n:=by have:=a.1;simpa [ints]using this
 rcases a.2 with ⟨b,d⟩ | ⟨g,cap,f,b,_⟩
 ·left;exact⟨b,by apply qW;omega⟩
 subst b;right;exact⟨g,0,cap,by rw [c],(a.lt g rfl).2,fun i hi=>by rw [xP];exact yb a i (by omega)⟩
theorem Sl.below {k:IntKind} {w w':World} {v:Value} {zs:List Int} (a:Sl k w v zs) (c:Below w.heap.size w w'):Sl k w' v zs:=by
 rcases a with a | ⟨b,off,cap,e,d,f⟩
 ·exact .inl a
 exact .inr ⟨b,off,cap,e,xq d c.size,fun i hi=>(c.cell (p:=⟨b,off+i,none⟩) d).trans (f i hi)⟩
theorem Sl.rd {k:IntKind} {w:World} {v:Value} {zs:List Int} (a:Sl k w v zs) {b off cap:Nat} (c:v= .slice (qK b off) zs.length cap):∀j e,(ints k zs)[j]? =some e->w.cell? ((⟨b,off,none⟩:Addr).add j)=some e:=by
 rcases a with ⟨a,_⟩ | ⟨g,h,i,d,_,f⟩
 ·rw [a]at c;cases c
 rw [c]at d;simp only [xB,xz,vY,kS,kt]at d;obtain⟨⟨rfl,rfl⟩,_⟩:=d;have:=j9 (o:=0) (l:=zs.length) f;simpa using this
theorem nanSN (x:Int) (w:World):Calls prog 162 #[qJ x] w fun e w'=>e= .returned (.bool false)∧w'=w:=by
 go_enter func162,ntmps162;go_wp2;go_ret;exact⟨by simp,rfl⟩
theorem nanCN (x:Int) (w:World):Calls prog 163 #[qJ x] w fun e w'=>e= .returned (.bool false)∧w'=w:=by
 go_enter func163,ntmps163;go_wp2;go_ret;exact⟨by simp,rfl⟩
theorem lessIN (x y:Int) (w:World):Calls prog 161 #[qJ x,qJ y] w fun e w'=>e= .returned (.bool (decide (x<y)))∧w'=w:=by
 go_enter func161,ntmps161;go_wp2_with (refine(nanCN _ _).mono ?_;rintro e w1 ⟨rfl,rfl⟩);go_ret;exact⟨by simp,rfl⟩
theorem searchIN (g cap n:Nat) (x:Int) (f:Nat->Int) (w:World) (u:∀j,j<n->w.cell? ⟨g,j,none⟩=some (qJ (f j))) (L:n<=cap) (M:n<=1048576) (v:∀i j,i<j->j<n->f i<f j):
  Calls prog 160 #[.slice (qK g 0) n cap,qJ x] w fun e w'=>∃k:Nat,e= .returned (.tuple #[qJ k,.bool (decide (k<n∧f k=x))])∧k<=n∧(∀j,j<k->f j<x)∧(∀j,k<=j->j<n->x<=f j)∧w'=w:=by
 have p:=qG u;have r:=qG v;clear u v;go_enter func160,ntmps160;go_wp2_with fail
 go_loopw [7,8] (fun i j wr=>∃lo hi:Nat,i=qJ lo∧j=qJ hi∧lo<=hi∧hi<=n∧wr=w∧(∀q,q<lo->f q<x)∧(∀q,hi<=q->q<n->x<=f q))
  (fun i j _=>(intOf j).toNat - (intOf i).toNat)
 case atStart=>exact⟨0,n,rfl,rfl,xX _,lR,rfl,fun q o=>by omega,fun q o K=>by omega⟩
 obtain⟨lo,hi,rfl,rfl,N,h,rfl,z,A⟩:=hrel;have c:=qG z;have d:=qG A;clear z A;by_cases J:lo<hi
 ·have l:=p.out ((lo+hi)/2) (by omega)
  have B:(lo:Int)<(hi:Int):=(by omega);have E:((lo:Int)+(hi:Int))/2<(n:Int):=(by omega);have F:(0:Int)<=((lo:Int)+(hi:Int))/2:=(by omega);have G:(((lo:Int)+(hi:Int))/2).toNat=(lo+hi)/2:=(by omega);have s:=qG (show ∃y,f ((lo+hi)/2)=y from⟨_,rfl⟩);obtain⟨y,b⟩:=s.out;rw [b]at l;have a:=qG b;clear b s;by_cases C:y<x
  ·go_wp2_with (refine(lessIN _ _ _).mono ?_;rintro e w1 ⟨rfl,rfl⟩)
   go_roundw
   case rel=>
    refine⟨(lo+hi)/2+1,hi,by rw [show((lo:Int)+(hi:Int))/2+1=(((lo+hi)/2+1:Nat):Int)by omega],rfl,by omega,h,xn,fun q o=>?_,d.out⟩;by_cases e:q=(lo+hi)/2
    ·rw [e,a.out];exact C
    have:=r.out q ((lo+hi)/2) (by omega) (by omega);rw [a.out]at this;omega
   simp [intOf];omega
  go_wp2_with (refine(lessIN _ _ _).mono ?_;rintro e w1 ⟨rfl,rfl⟩);go_roundw
  case rel=>
   refine⟨lo,(lo+hi)/2,rfl,by rw [show((lo:Int)+(hi:Int))/2=(((lo+hi)/2:Nat):Int)by omega],by omega,by omega,xn,c.out,fun q o D=>?_⟩;by_cases e:q=(lo+hi)/2
   ·rw [e,a.out];omega
   have:=r.out ((lo+hi)/2) q (by omega) D;rw [a.out]at this;omega
  simp [intOf];omega
 obtain rfl:lo=hi:=by omega
 have H:¬ (lo:Int)<(lo:Int):=by omega
 by_cases t:lo<n
 ·have l:=p.out lo t
  have B:(lo:Int)<(n:Int):=(by omega);obtain⟨y,b⟩:∃y,f lo=y:=⟨_,rfl⟩
  rw [b]at l;have a:=qG b;clear b;by_cases m:y=x
  ·subst m
   go_wp2_with (refine(nanSN _ _).mono ?_;rintro e w1 ⟨rfl,rfl⟩);go_ret2;exact⟨lo,by simp [t,a.out],h,c.out,d.out,rfl⟩
  have I:(y==x)=false:=(by simpa using m);go_wp2_with (refine(nanSN _ _).mono ?_;rintro e w1 ⟨rfl,rfl⟩);go_ret2;exact⟨lo,by simp [m,a.out],h,c.out,d.out,rfl⟩
 obtain rfl:lo=n:=by omega
 go_wp2_with fail;go_ret2;exact⟨lo,by simp,h,c.out,d.out,rfl⟩
def cutT (U:List Int) (a b:Int):List Int:=(U.drop a.toNat).take (b.toNat - a.toNat)
theorem Jv (A B:List Int) (a b:Int) (c:a<=b):cutT (A++B) a b=cutT A a b++cutT B (a - A.length) (b - A.length):=by
 unfold cutT;rw [kI,List.take_append,qR]
 congr 1
 rw [show(a - (A.length:Int)).toNat=a.toNat - A.length by omega]
 congr 1
 omega
theorem zC3 (U:List Int) (a b:Int) (c:b<=0):cutT U a b= []:=by
 unfold cutT;rw [show b.toNat - a.toNat=0 by omega,kn]
theorem Ko (U:List Int) (a b:Int) (c:(U.length:Int)<=a):cutT U a b= []:=by
 unfold cutT;rw [vE (by omega),List.take_nil]
def acr (lo hi:Int):AT->Int->List (Int×Pc)
 | .nil,_=>[]
 | .node l p r,s=>if hi<=s∨s+(AT.node l p r).rns<=lo then []else
  acr lo hi l s++((if s+l.rns<hi∧lo<s+l.rns+p.len then [(s+l.rns,p)]else [])++acr lo hi r (s+l.rns+p.len))
def txA (zs:List Int) (lo hi:Int):List (Int×Pc)->List Int
 | []=>[]
 | y::ys=>cutT (ptx zs y.2) (lo - y.1) (hi - y.1)++txA zs lo hi ys
theorem Ye (zs:List Int) (lo hi:Int) (a b:List (Int×Pc)):txA zs lo hi (a++b)=txA zs lo hi a++txA zs lo hi b:=by
 induction a with
 | nil=>rfl
 | cons x a c=>simp [txA,c]
theorem zDe (zs:List Int) (lo hi:Int) (b:lo<=hi):∀ (T:AT) (s:Int),T.wp zs->txA zs lo hi (acr lo hi T s)=cutT (T.tx zs) (lo - s) (hi - s)
 | .nil,s,_=>by simp [acr,txA,cutT,AT.tx]
 | .node l p r,s,d=>by
  have e:=d;obtain⟨c,h,i⟩:=d;have f:=AT.qE c;have g:=YF h;have j:=AT.qE e;unfold acr
  split
  ·rename_i a
   rcases a with a | a
   ·rw [zC3 _ _ _ (by omega)];rfl
   rw [Ko _ _ _ (by omega)];rfl
  simp only [AT.tx];rw [Ye,Ye,zDe zs lo hi b l s c,zDe zs lo hi b r _ i,Jv _ _ _ _ (by omega),Jv _ _ _ _ (by omega),f,g]
  congr 1
  rw [show lo - s - l.rns - p.len=lo - (s+l.rns+p.len)by omega,show hi - s - l.rns - p.len=hi - (s+l.rns+p.len)by omega]
  congr 1
  split
  ·simp only [txA,jd]
   rw [show lo - s - l.rns=lo - (s+l.rns)by omega,show hi - s - l.rns=hi - (s+l.rns)by omega]
  rename_i k;by_cases m:s+l.rns<hi
  ·rw [Ko _ _ _ (by omega)];rfl
  rw [zC3 _ _ _ (by omega)];rfl
def AT.pos:AT->Prop
 | .nil=>True
 | .node l p r=>l.pos∧1<=p.len∧r.pos
def AcQ (zs:List Int) (lo hi:Int) (y:Int×Pc):Prop:=WP zs y.2∧0<=y.1∧y.1<=8192∧y.1<hi∧lo<y.1+y.2.len∧y.2.len<=8192∧1<=y.2.len
theorem acr_q (zs:List Int) (lo hi:Int):∀ (T:AT) (s:Int),T.wp zs->T.pos->0<=s->s+T.rns<=8192->∀y∈acr lo hi T s,AcQ zs lo hi y
 | .nil,s,_,_,_,_=>by simp [acr]
 | .node l p r,s,i,j,k,m=>by
  obtain⟨c,d,e⟩:=i;obtain⟨f,g,h⟩:=j;have n:=AT.qE c;have o:=AT.qE e;have q:=d.2.1;simp only [AT.rns]at m;intro y a;unfold acr at a
  split at a
  ·cases a
  rcases xb.1 a with a | a
  ·exact acr_q zs lo hi l s c f k (by omega) y a
  rcases xb.1 a with a | a
  ·split at a
   ·rename_i b
    obtain rfl:y=(s+l.rns,p):=(by simpa using a);exact⟨d,by simp only;omega,by simp only;omega,b.1,b.2,by simp only;omega,g⟩
   cases a
  exact acr_q zs lo hi r _ e h (by omega) (by omega) y a
theorem zAr (lo hi:Int):∀ (T:AT) (s:Int),(acr lo hi T s).length<=T.its
 | .nil,_=>by simp [acr]
 | .node l p r,s=>by
  have a:=zAr lo hi l s;have b:=zAr lo hi r (s+l.rns+p.len);unfold acr;simp only [AT.its]
  split
  ·simp
  split
  ·simp only [qM,xe,xK];omega
  simp only [qM,xK];omega
theorem ZC (lo hi n:Int) (w:World):
  Calls prog 73 #[qJ lo,qJ hi,qJ n] w fun e w'=>e= .returned (errV (decide ((0<=hi∧hi<=n)∧(0<=lo∧lo<=hi))) 2)∧w'=w:=by
 have c:=qG (fun w=>yg hi 0 n w);have d:=qG (fun w=>yg lo 0 hi w);by_cases a:(0<=hi∧hi<=n)
 ·rw [show decide (0<=hi∧hi<=n)=true by simpa using a]at c
  by_cases b:(0<=lo∧lo<=hi)
  ·rw [show decide (0<=lo∧lo<=hi)=true by simpa using b]at d
   rw [show decide ((0<=hi∧hi<=n)∧(0<=lo∧lo<=hi))=true by rw [qU];exact⟨a,b⟩];clear a b;go_enter func73,ntmps73;go_wp2_with fail;refine(c _).mono ?_;rintro e w1 ⟨rfl,rfl⟩;go_wp2_with fail;refine(d _).mono ?_;rintro e w1 ⟨rfl,rfl⟩;go_wp2;go_ret;exact⟨rfl,rfl⟩
  rw [show decide (0<=lo∧lo<=hi)=false by simpa using b]at d;rw [show decide ((0<=hi∧hi<=n)∧(0<=lo∧lo<=hi))=false by rw [vC];exact fun f=>b f.2];clear a b;go_enter func73,ntmps73;go_wp2_with fail;refine(c _).mono ?_;rintro e w1 ⟨rfl,rfl⟩;go_wp2_with fail;refine(d _).mono ?_;rintro e w1 ⟨rfl,rfl⟩;go_wp2;go_ret;exact⟨rfl,rfl⟩
 rw [show decide (0<=hi∧hi<=n)=false by simpa using a]at c;rw [show decide ((0<=hi∧hi<=n)∧(0<=lo∧lo<=hi))=false by rw [vC];exact fun f=>a f.1];clear a;go_enter func73,ntmps73;go_wp2_with fail;refine(c _).mono ?_;rintro e w1 ⟨rfl,rfl⟩;go_wp2;go_ret;exact⟨rfl,rfl⟩
theorem zDg (c m:Int) (w:World) (g:0<=c) (h:c<=1048576):
  Calls prog 57 #[qJ c,qJ m,qJ 8192] w fun e w'=>e= .returned (errV (decide (c<=8192∧m<=8192 - c)) 10)∧w'=w:=by
 by_cases a:c<=8192
 ·by_cases b:m<=8192 - c
  ·rw [show decide (c<=8192∧m<=8192 - c)=true by rw [qU];exact⟨a,b⟩]
   have d:¬ (8192:Int)<c:=(by omega);have f:¬ (8192:Int) - c<m:=(by omega);go_enter func57,ntmps57;go_wp2;go_ret;exact⟨rfl,rfl⟩
  rw [show decide (c<=8192∧m<=8192 - c)=false by rw [vC];exact fun x=>b x.2];have d:¬ (8192:Int)<c:=(by omega);have f:(8192:Int) - c<m:=(by omega);go_enter func57,ntmps57;go_wp2;go_ret;exact⟨rfl,rfl⟩
 rw [show decide (c<=8192∧m<=8192 - c)=false by rw [vC];exact fun x=>a x.1];have d:(8192:Int)<c:=by omega
 go_enter func57,ntmps57;go_wp2;go_ret;exact⟨rfl,rfl⟩
def msgLd:ByteArray:=⟨#[108,111,97,100,105,110,103,32,97,32,116,101,120,116]⟩
theorem zDh (ao:Option Addr) (n cap:Nat) (w:World):
  Calls prog 30 #[.slice ao n cap] w fun e w'=>e= .returned (if n<=8192 then .nilIface else .iface 109 (.agg #[.string msgLd,.iface 110 (qJ 10)]))∧w'=w:=by
 have a:=qG (zDg 0 n w (by omega) (by omega));by_cases b:n<=8192
 ·rw [xd b]
  rw [show decide ((0:Int)<=8192∧(n:Int)<=8192 - 0)=true by rw [qU];omega]at a;simp only [errV,kA]at a;go_enter func30,ntmps30;go_wp2_with fail;refine a.mono ?_;rintro e w1 ⟨rfl,rfl⟩;go_wp2;go_ret;exact⟨rfl,rfl⟩
 rw [qZ b];rw [show decide ((0:Int)<=8192∧(n:Int)<=8192 - 0)=false by rw [vC];omega]at a;simp only [errV,vD,kH]at a;go_enter func30,ntmps30;go_wp2_with fail;refine a.mono ?_;rintro e w1 ⟨rfl,rfl⟩;go_wp2;go_ret;exact⟨rfl,rfl⟩
structure GC (w:World) (B o:Nat) (v:Value) (lo hi:Int):Prop where
 c0:w.cell? ⟨B,o,none⟩=some v
 c1:w.cell? ⟨B,o+1,none⟩=some (qJ lo)
 c2:w.cell? ⟨B,o+2,none⟩=some (qJ hi)
theorem GC.same {w w':World} {B o:Nat} {v:Value} {lo hi:Int} (a:GC w B o v lo hi) (b:w'.heap=w.heap):GC w' B o v lo hi:=
 ⟨(qV (w:=w) (by rw [b])).trans a.c0,(qV (w:=w) (by rw [b])).trans a.c1,(qV (w:=w) (by rw [b])).trans a.c2⟩
theorem GC.drew {w:World} {B o:Nat} {v:Value} {lo hi:Int} (a:GC w B o v lo hi) (n:Nat):GC (w.drewN n) B o v lo hi:=
 ⟨by simpa using a.c0,by simpa using a.c1,by simpa using a.c2⟩
theorem gapN (B o:Nat) (v:Value) (lo hi:Int) (w:World) (a:GC w B o v lo hi) (b:0<=lo) (c:lo<=hi) (d:hi<=1099511627776):
  Calls prog 117 #[.pointer (qK B o)] w fun e w'=>e= .returned (qJ (hi - lo))∧∃n,w'=w.drewN n:=by
 obtain⟨f,g,h⟩:=a;go_enter func117,ntmps117;go_wp2;go_quiet (fail);go_wp2;go_ret;exact⟨rfl,_,rfl⟩
theorem Za (B o:Nat) (ao:Option Addr) (n cap:Nat) (lo hi:Int) (w:World) (a:GC w B o (.slice ao n cap) lo hi) (d:0<=lo) (f:lo<=hi) (g:hi<=n) (h:n<=1099511627776):
  Calls prog 99 #[.pointer (qK B o)] w fun e w'=>e= .returned (qJ (n - (hi - lo)))∧∃n,w'=w.drewN n:=by
 have b:=qG (fun w a=>gapN B o (.slice ao n cap) lo hi w a d f (by omega));have c:=qG a;obtain⟨i,j,k⟩:=a;go_enter func99,ntmps99;go_wp2;go_quiet ((go_at_call 117;exact Calls.quiet_of (b _ (c.drew _))));go_wp2;go_ret;exact⟨rfl,_,rfl⟩
theorem clone32 (xs:List Int) (v:Value) (w:World) (i:Sl .i32 w v xs) (r:xs.length<=1048576):
  Calls prog 95 #[v] w fun e w'=>∃h,e= .returned h∧w'.ownsRow w.heap.size 21 1 h xs.length (ints .i32 xs)∧Below w.heap.size w w':=by
 have j:=qG i;rcases i with ⟨rfl,rfl⟩ | ⟨b,off,cap,rfl,_,_⟩
 ·have a:=fun w:World=>Lib.run_eql_slice_nil (P:=prog) w 25 21 none 0 0 0 0 underlying25
  simp only [Option.isNone_none]at a;go_enter func95,ntmps95;go_wp2;go_ret;exact⟨_,rfl,kh _ _ _ _,qO _ _⟩
 have f:(w.alloc (.cells #[] 21)).ownsRow w.heap.size 21 1 (.slice (qK w.heap.size 0) 0 0) 0 []:=by
  have:=kJ (base:=w.heap.size) (e:=21) (size:=1) w #[] 0 (by simp) (xX _) rfl;simpa using this
 have k:=qG f;have c:=qG ((qO w.heap.size w).alloc lR (.cells #[] 21));have l:=qG ((j.below c).rd rfl);have a:=fun w:World=>Lib.run_eql_slice_nil (P:=prog) w 25 21 (qK b off) xs.length cap 0 0 underlying25
 simp only [Option.isNone_some]at a;clear f;go_enter func95,ntmps95;go_wp2_with (at_builtin;refine Ql _ rfl _ _ rfl w.heap.size _ 0 [] rfl k ⟨b,off,none⟩ xs.length cap (ints .i32 xs) rfl (by rw [zC,vP]) l (zG _ _) (by unfold maxLen;omega) (by omega) c.size ?_;intro o p d g _);rw [xP,xH]at d;have m:=qG d;have n:=qG (c.grown g c.size (fun q a=>by cases a;exact lR));clear d g;go_wp2;go_ret;exact⟨_,rfl,m,n⟩
section
variable {α:Type} {z:α}
theorem Zb (a b:List α) (i:Nat):(a++b).getD i z=if i<a.length then a.getD i z else b.getD (i - a.length) z:=by
 simp only [q9,List.getElem?_append]
 split<;>rfl
theorem jp (a:List α) (n i:Nat):(a.take n).getD i z=if i<n then a.getD i z else z:=by
 simp only [q9,xN]
 split<;>rfl
theorem jq (a:List α) (n i:Nat):(a.drop n).getD i z=a.getD (n+i) z:=by
 simp only [q9,vn]
theorem YP (n i:Nat):(List.replicate n (z:α)).getD i z=z:=by
 simp only [q9,List.getElem?_replicate]
 split<;>rfl
theorem JA {a b:List α} (e:a.length=b.length) (f:∀i,i<a.length->a.getD i z=b.getD i z):a=b:=by
 apply List.ext_getElem e;intro i c d;have:=f i c;simpa [q9,c,d]using this
def zU (zs:List α) (lo hi:Nat):List α:=zs.take lo++zs.drop hi
def glayA (z:α) (xs:List α) (p n:Nat):List α:=xs.take p++(List.replicate (n - xs.length) z++xs.drop p)
structure GVA (z:α) (zs:List α) (lo hi:Nat):Prop where
 a:lo<=hi
 b:hi<=zs.length
 zz:∀i,lo<=i->i<hi->zs.getD i z=z
 c:zs.length<=65536
 t:zs.length - (hi - lo)<=16384
theorem yP {zs:List α} {lo hi:Nat} (a:lo<=hi) (b:hi<=zs.length):(zU zs lo hi).length=zs.length - (hi - lo):=by
 simp only [zU,qM,qN,qR];omega
theorem zL {xs:List α} {p n:Nat} (a:p<=xs.length) (b:xs.length<=n):(glayA z xs p n).length=n:=by
 simp only [glayA,qM,qN,qR,qQ];omega
theorem ya (L:List α) (off:Nat) (cs:List α) (i:Nat) (a:off+cs.length<=L.length):(splice L off cs).getD i z=if i<off then L.getD i z else if i<off+cs.length then cs.getD (i - off) z else L.getD i z:=by
 simp only [splice,Zb,jp,jq,qN]
 repeat' split
 all_goals first
  | omega
  | rfl
  | (congr 1;omega)
theorem zC6 {zs:List α} {lo hi p:Nat} (a:GVA z zs lo hi) (h:p<lo):
  splice (splice zs (p+(hi - lo)) ((zs.drop p).take (lo - p))) p (List.replicate (min lo (p+(hi - lo)) - p) z)=glayA z (zU zs lo hi) p zs.length:=by
 have e:=a.a;have f:=a.b;have c:((zs.drop p).take (lo - p)).length=lo - p:=by simp only [qN,qR];omega
 have b:(splice zs (p+(hi - lo)) ((zs.drop p).take (lo - p))).length=zs.length:=length_splice _ _ _ (by rw [c];omega);have g:(zU zs lo hi).length=zs.length - (hi - lo):=yP e f
 have d:(splice (splice zs (p+(hi - lo)) ((zs.drop p).take (lo - p))) p (List.replicate (min lo (p+(hi - lo)) - p) z)).length=zs.length:=by
  rw [length_splice _ _ _ (by rw [b,qQ];omega),b]
 apply JA (z:=z)
 ·rw [d,zL (by omega) (by omega)]
 intro i hi';rw [d]at hi';rw [ya _ _ _ _ (by rw [b,qQ];omega),ya _ _ _ _ (by rw [c];omega)];simp only [glayA,Zb,jp,jq,YP,zU,qN,qR,qQ,qM]
 repeat' split
 all_goals first
  | omega
  | rfl
  | (congr 1;omega)
  | (apply a.zz<;>omega)
  | (symm;apply a.zz<;>omega)
theorem zG9 {zs:List α} {lo hi p:Nat} (a:GVA z zs lo hi) (h:lo<=p) (j:p+(hi - lo)<=zs.length):
  splice (splice zs lo ((zs.drop hi).take (p+(hi - lo) - hi))) (max hi p) (List.replicate (p+(hi - lo) - max hi p) z)=glayA z (zU zs lo hi) p zs.length:=by
 have e:=a.a;have f:=a.b;have c:((zs.drop hi).take (p+(hi - lo) - hi)).length=p - lo:=by simp only [qN,qR];omega
 have b:(splice zs lo ((zs.drop hi).take (p+(hi - lo) - hi))).length=zs.length:=length_splice _ _ _ (by rw [c];omega);have g:(zU zs lo hi).length=zs.length - (hi - lo):=yP e f
 have d:(splice (splice zs lo ((zs.drop hi).take (p+(hi - lo) - hi))) (max hi p) (List.replicate (p+(hi - lo) - max hi p) z)).length=zs.length:=by
  rw [length_splice _ _ _ (by rw [b,qQ];omega),b]
 apply JA (z:=z)
 ·rw [d,zL (by omega) (by omega)]
 intro i hi';rw [d]at hi';rw [ya _ _ _ _ (by rw [b,qQ];omega),ya _ _ _ _ (by rw [c];omega)];simp only [glayA,Zb,jp,jq,YP,zU,qN,qR,qQ,qM]
 repeat' split
 all_goals first
  | omega
  | rfl
  | (congr 1;omega)
  | (apply a.zz<;>omega)
  | (symm;apply a.zz<;>omega)
theorem ggrowA {zs:List α} {lo hi n:Nat} (c:lo<=hi) (d:hi<=zs.length) (f:zs.length<=n):
  splice (splice (List.replicate n z) 0 (zs.take lo)) (n - (zs.length - hi)) (zs.drop hi)=glayA z (zU zs lo hi) lo n:=by
 have a:(splice (List.replicate n (z:α)) 0 (zs.take lo)).length=n:=by
  rw [length_splice _ _ _ (by simp only [qN,qQ];omega),qQ]
 have e:(zU zs lo hi).length=zs.length - (hi - lo):=yP c d
 have b:(splice (splice (List.replicate n z) 0 (zs.take lo)) (n - (zs.length - hi)) (zs.drop hi)).length=n:=by
  rw [length_splice _ _ _ (by rw [a,qR];omega),a]
 apply JA (z:=z)
 ·rw [b,zL (by omega) (by omega)]
 intro i hi';rw [b]at hi';rw [ya _ _ _ _ (by rw [a,qR];omega),ya _ _ _ _ (by simp only [qN,qQ];omega)];simp only [glayA,Zb,jp,jq,YP,zU,qN,qR,qQ,qM]
 repeat' split
 all_goals first
  | omega
  | rfl
  | (congr 1;omega)
theorem zC7 {xs:List α} {p n:Nat} (c:p<=xs.length) (d:xs.length<=n) (e:n<=65536) (f:xs.length<=16384):GVA z (glayA z xs p n) p (p+(n - xs.length)):=by
 refine⟨by omega,by rw [zL c d];omega,fun i a b=>?_,by rw [zL c d];exact e,by rw [zL c d];omega⟩;simp only [glayA,Zb,jp,jq,YP,qN,qQ]
 repeat' split
 all_goals first | omega | rfl
theorem zDk {xs:List α} {p n:Nat} (a:p<=xs.length) (b:xs.length<=n):zU (glayA z xs p n) p (p+(n - xs.length))=xs:=by
 unfold zU;rw [glayA,xI (by simp only [qN];omega),xu (by simp only [qN];omega)];rw [<- xj,xS (by simp only [qM,qN,qQ];omega),vE (by simp only [qM,qN,qQ];omega),xH,xw]
theorem zGa {xs ts:List α} {p n:Nat} (b:p<=xs.length) (d:xs.length+ts.length<=n):
  splice (glayA z xs p n) p ts=glayA z (xs.take p++(ts++xs.drop p)) (p+ts.length) n:=by
 have a:(glayA z xs p n).length=n:=zL b (by omega);have c:(xs.take p++(ts++xs.drop p)).length=xs.length+ts.length:=by simp only [qM,qN,qR];omega
 apply JA (z:=z)
 ·rw [length_splice _ _ _ (by omega),a,zL (by omega) (by omega)]
 intro i hi;rw [length_splice _ _ _ (by omega),a]at hi;rw [ya _ _ _ _ (by omega)];simp only [glayA,Zb,jp,jq,YP,qN,qR,qQ,qM]
 repeat' split
 all_goals first
  | omega
  | rfl
  | (congr 1;omega)
theorem zGb {xs:List α} {p q n:Nat} (c:p<=q) (d:q<=xs.length) (e:xs.length<=n):
  splice (glayA z xs p n) (p+(n - xs.length)) (List.replicate (q - p) z)=glayA z (xs.take p++xs.drop q) p n:=by
 have a:(glayA z xs p n).length=n:=zL (by omega) (by omega);have b:(xs.take p++xs.drop q).length=xs.length - (q - p):=by simp only [qM,qN,qR];omega
 apply JA (z:=z)
 ·rw [length_splice _ _ _ (by rw [qQ];omega),a,zL (by omega) (by omega)]
 intro i hi;rw [length_splice _ _ _ (by rw [qQ];omega),a]at hi;rw [ya _ _ _ _ (by rw [qQ];omega)];simp only [glayA,Zb,jp,jq,YP,qN,qR,qQ,qM]
 repeat' split
 all_goals first
  | omega
  | rfl
  | (congr 1;omega)
end
end Go.Proofs.YtmjanhcplcalfaaGreatDoor

import Derived.Test.YtljdnoinennfaaaGreatDoorMq07
import Derived.Deep.QuietTactic
import Derived.BigQuiet
import Derived.Laws.AppendOwnNone
import Derived.Lib.SliceRun
import Derived.Laws.CopyOwn
import Derived.Laws.BytesString
import Derived.Laws.Cells
import Derived.Test.YtljdnoinennfaaaGreatDoorMq98
set_option linter.all false
set_option maxRecDepth 100000
set_option maxHeartbeats 8000000
namespace Go.Proofs.YtljdnoinennfaaaGreatDoor
open Go Go.RowKit
theorem Tryz.qx:(Tryz.prog.info? 21).map (fun i=>(i.zero,i.size,i.bytes))=some (some (.int .i32 0),1,4):=by kernel_rfl
def Sl (k:IntKind) (w:World) (v:Value) (zs:List Int):Prop:=
 (v= .slice none 0 0∧zs= [])∨
 (∃b off cap,v= .slice (qK b off) zs.length cap∧b<w.heap.size∧∀i,i<zs.length->w.cell? ⟨b,off+i,none⟩=some (.int k (zs.getD i 0)))
theorem Sl.qd {k:IntKind} {w:World} {base:Nat} {e:TypeId} {v:Value} {n:Nat} {zs:List Int} (a:w.ownsRow base e 1 v n (ints k zs)):Sl k w v zs:=by
 have c:zs.length=n:=by have:=a.1;simpa [ints]using this
 rcases a.2 with ⟨b,d⟩ | ⟨g,cap,f,b,_⟩
 ·left;exact⟨b,by apply qU;omega⟩
 ·subst b
  right
  exact⟨g,0,cap,by rw [c],(a.lt g rfl).2,fun i hi=>by rw [xN];exact yh a i (by omega)⟩
theorem Sl.below {k:IntKind} {w w':World} {v:Value} {zs:List Int} (a:Sl k w v zs) (c:Below w.heap.size w w'):Sl k w' v zs:=by
 rcases a with a | ⟨b,off,cap,e,d,f⟩
 ·exact .inl a
 ·exact .inr ⟨b,off,cap,e,xz d c.size,fun i hi=>(c.cell (p:=⟨b,off+i,none⟩) d).trans (f i hi)⟩
theorem Sl.rd {k:IntKind} {w:World} {v:Value} {zs:List Int} (a:Sl k w v zs) {b off cap:Nat} (c:v= .slice (qK b off) zs.length cap):∀j u,(ints k zs)[j]? =some u->w.cell? ((⟨b,off,none⟩:Addr).add j)=some u:=by
 rcases a with ⟨a,_⟩ | ⟨f,g,h,d,_,e⟩
 ·rw [a]at c;cases c
 ·rw [c]at d
  simp only [xF,xw,ka,kW,kJ]at d;obtain⟨⟨rfl,rfl⟩,_⟩:=d;have:=jJ (o:=0) (l:=zs.length) e;simpa using this
end Go.Proofs.YtljdnoinennfaaaGreatDoor
namespace Go.Proofs.YtljdnoinennfaaaGreatDoor
open Go Go.RowKit Go.Proofs.Tryz
theorem nanSN (x:Int) (w:World):Calls prog 190 #[qJ x] w fun e w'=>e= .returned (.bool false)∧w'=w:=by
 go_enter func190,ntmps190;go_wp2;go_ret
 exact⟨by simp,rfl⟩
theorem nanCN (x:Int) (w:World):Calls prog 191 #[qJ x] w fun e w'=>e= .returned (.bool false)∧w'=w:=by
 go_enter func191,ntmps191;go_wp2;go_ret
 exact⟨by simp,rfl⟩
theorem lessIN (x y:Int) (w:World):Calls prog 189 #[qJ x,qJ y] w fun e w'=>e= .returned (.bool (decide (x<y)))∧w'=w:=by
 go_enter func189,ntmps189;go_wp2_with (refine(nanCN _ _).mono ?_;rintro e w1 ⟨rfl,rfl⟩);go_ret
 exact⟨by simp,rfl⟩
theorem searchIN (g cap n:Nat) (x:Int) (f:Nat->Int) (w:World) (u:∀j,j<n->w.cell? ⟨g,j,none⟩=some (.int .i64 (f j))) (L:n<=cap) (M:n<=1048576) (v:∀i j,i<j->j<n->f i<f j):
  Calls prog 188 #[.slice (some ⟨g,0,none⟩) n cap,.int .i64 x] w fun e w'=>∃k:Nat,e= .returned (.tuple #[.int .i64 k,.bool (decide (k<n∧f k=x))])∧k<=n∧(∀j,j<k->f j<x)∧(∀j,k<=j->j<n->x<=f j)∧w'=w:=by
 have p:=qG u;have r:=qG v;clear u v;go_enter func188,ntmps188;go_wp2_with fail
 go_loopw [7,8] (fun i j wr=>∃lo hi:Nat,i= .int .i64 lo∧j= .int .i64 hi∧lo<=hi∧hi<=n∧wr=w∧(∀q,q<lo->f q<x)∧(∀q,hi<=q->q<n->x<=f q))
  (fun i j _=>(intOf j).toNat - (intOf i).toNat)
 case atStart=>exact⟨0,n,rfl,rfl,xP _,lR,rfl,fun q o=>by omega,fun q o K=>by omega⟩
 case round=>
  obtain⟨lo,hi,rfl,rfl,N,h,rfl,z,A⟩:=hrel;have c:=qG z;have d:=qG A;clear z A
  by_cases J:lo<hi
  ·have l:=p.out ((lo+hi)/2) (by omega)
   have B:(lo:Int)<(hi:Int):=by omega
   have E:((lo:Int)+(hi:Int))/2<(n:Int):=by omega
   have F:(0:Int)<=((lo:Int)+(hi:Int))/2:=by omega
   have G:(((lo:Int)+(hi:Int))/2).toNat=(lo+hi)/2:=by omega
   have s:=qG (show ∃y,f ((lo+hi)/2)=y from⟨_,rfl⟩)
   obtain⟨y,b⟩:=s.out;rw [b]at l;have a:=qG b;clear b s
   by_cases C:y<x
   ·go_wp2_with (refine(lessIN _ _ _).mono ?_;rintro e w1 ⟨rfl,rfl⟩)
    go_roundw
    case rel=>
     refine⟨(lo+hi)/2+1,hi,by rw [show((lo:Int)+(hi:Int))/2+1=(((lo+hi)/2+1:Nat):Int)by omega],rfl,by omega,h,xH,fun q o=>?_,d.out⟩
     by_cases e:q=(lo+hi)/2
     ·rw [e,a.out];exact C
     ·have:=r.out q ((lo+hi)/2) (by omega) (by omega);rw [a.out]at this;omega
    case measure=>simp [intOf];omega
   ·go_wp2_with (refine(lessIN _ _ _).mono ?_;rintro e w1 ⟨rfl,rfl⟩)
    go_roundw
    case rel=>
     refine⟨lo,(lo+hi)/2,rfl,by rw [show((lo:Int)+(hi:Int))/2=(((lo+hi)/2:Nat):Int)by omega],by omega,by omega,xH,c.out,fun q o D=>?_⟩
     by_cases e:q=(lo+hi)/2
     ·rw [e,a.out];omega
     ·have:=r.out ((lo+hi)/2) q (by omega) D;rw [a.out]at this;omega
    case measure=>simp [intOf];omega
  ·obtain rfl:lo=hi:=by omega
   have H:¬ (lo:Int)<(lo:Int):=by omega
   by_cases t:lo<n
   ·have l:=p.out lo t
    have B:(lo:Int)<(n:Int):=by omega
    obtain⟨y,b⟩:∃y,f lo=y:=⟨_,rfl⟩;rw [b]at l;have a:=qG b;clear b
    by_cases m:y=x
    ·subst m
     go_wp2_with (refine(nanSN _ _).mono ?_;rintro e w1 ⟨rfl,rfl⟩);go_ret2
     exact⟨lo,by simp [t,a.out],h,c.out,d.out,rfl⟩
    ·have I:(y==x)=false:=by simpa using m
     go_wp2_with (refine(nanSN _ _).mono ?_;rintro e w1 ⟨rfl,rfl⟩);go_ret2
     exact⟨lo,by simp [m,a.out],h,c.out,d.out,rfl⟩
   ·obtain rfl:lo=n:=by omega
    go_wp2_with fail;go_ret2
    exact⟨lo,by simp,h,c.out,d.out,rfl⟩
end Go.Proofs.YtljdnoinennfaaaGreatDoor
namespace Go.Proofs.YtljdnoinennfaaaGreatDoor
open Go Go.RowKit
def cutT (U:List Int) (a b:Int):List Int:=(U.drop a.toNat).take (b.toNat - a.toNat)
theorem Jj (A B:List Int) (a b:Int) (c:a<=b):cutT (A++B) a b=cutT A a b++cutT B (a - A.length) (b - A.length):=by
 unfold cutT;rw [Qf,List.take_append,qS]
 congr 1
 rw [show(a - (A.length:Int)).toNat=a.toNat - A.length by omega]
 congr 1
 omega
theorem zBq (U:List Int) (a b:Int) (c:b<=0):cutT U a b= []:=by
 unfold cutT;rw [show b.toNat - a.toNat=0 by omega,kT]
theorem Kd (U:List Int) (a b:Int) (c:(U.length:Int)<=a):cutT U a b= []:=by
 unfold cutT;rw [kt (by omega),List.take_nil]
def acr (lo hi:Int):AT->Int->List (Int×Pc)
 | .nil,_=>[]
 | .node l p r,s=>if hi<=s∨s+(AT.node l p r).rns<=lo then []else
  acr lo hi l s++((if s+l.rns<hi∧lo<s+l.rns+p.len then [(s+l.rns,p)]else [])++acr lo hi r (s+l.rns+p.len))
def txA (zs:List Int) (lo hi:Int):List (Int×Pc)->List Int
 | []=>[]
 | y::ys=>cutT (ptx zs y.2) (lo - y.1) (hi - y.1)++txA zs lo hi ys
theorem YZ (zs:List Int) (lo hi:Int) (a b:List (Int×Pc)):txA zs lo hi (a++b)=txA zs lo hi a++txA zs lo hi b:=by
 induction a with
 | nil=>rfl
 | cons x a c=>simp [txA,c]
theorem zDb (zs:List Int) (lo hi:Int) (b:lo<=hi):∀ (T:AT) (s:Int),T.wp zs->txA zs lo hi (acr lo hi T s)=cutT (T.tx zs) (lo - s) (hi - s)
 | .nil,s,_=>by simp [acr,txA,cutT,AT.tx]
 | .node l p r,s,d=>by
  have e:=d;obtain⟨c,h,i⟩:=d;have f:=AT.qD c;have g:=Zq h;have j:=AT.qD e;unfold acr
  split
  ·rename_i a
   rcases a with a | a
   ·rw [zBq _ _ _ (by omega)];rfl
   ·rw [Kd _ _ _ (by omega)];rfl
  ·simp only [AT.tx]
   rw [YZ,YZ,zDb zs lo hi b l s c,zDb zs lo hi b r _ i,Jj _ _ _ _ (by omega),Jj _ _ _ _ (by omega),f,g]
   congr 1
   rw [show lo - s - l.rns - p.len=lo - (s+l.rns+p.len)by omega,show hi - s - l.rns - p.len=hi - (s+l.rns+p.len)by omega]
   congr 1
   split
   ·simp only [txA,kA]
    rw [show lo - s - l.rns=lo - (s+l.rns)by omega,show hi - s - l.rns=hi - (s+l.rns)by omega]
   ·rename_i k
    by_cases m:s+l.rns<hi
    ·rw [Kd _ _ _ (by omega)];rfl
    ·rw [zBq _ _ _ (by omega)];rfl
def AT.pos:AT->Prop
 | .nil=>True
 | .node l p r=>l.pos∧1<=p.len∧r.pos
def AcQ (zs:List Int) (lo hi:Int) (y:Int×Pc):Prop:=WP zs y.2∧0<=y.1∧y.1<=8192∧y.1<hi∧lo<y.1+y.2.len∧y.2.len<=8192∧1<=y.2.len
theorem acr_q (zs:List Int) (lo hi:Int):∀ (T:AT) (s:Int),T.wp zs->T.pos->0<=s->s+T.rns<=8192->∀y∈acr lo hi T s,AcQ zs lo hi y
 | .nil,s,_,_,_,_=>by simp [acr]
 | .node l p r,s,i,j,k,m=>by
  obtain⟨c,d,e⟩:=i;obtain⟨f,g,h⟩:=j;have n:=AT.qD c;have o:=AT.qD e;have q:=d.2.1;simp only [AT.rns]at m;intro y a;unfold acr at a
  split at a
  ·cases a
  ·rcases xv.1 a with a | a
   ·exact acr_q zs lo hi l s c f k (by omega) y a
   ·rcases xv.1 a with a | a
    ·split at a
     ·rename_i b
      obtain rfl:y=(s+l.rns,p):=by simpa using a
      exact⟨d,by simp only;omega,by simp only;omega,b.1,b.2,by simp only;omega,g⟩
     ·cases a
    ·exact acr_q zs lo hi r _ e h (by omega) (by omega) y a
theorem zAi (lo hi:Int):∀ (T:AT) (s:Int),(acr lo hi T s).length<=T.its
 | .nil,_=>by simp [acr]
 | .node l p r,s=>by
  have a:=zAi lo hi l s;have b:=zAi lo hi r (s+l.rns+p.len);unfold acr;simp only [AT.its]
  split
  ·simp
  ·split
   ·simp only [qM,q9,xC];omega
   ·simp only [qM,xC];omega
theorem zBs (lo hi n:Int) (w:World):
  Calls Tryz.prog 56 #[qJ lo,qJ hi,qJ n] w fun e w'=>e= .returned (errV (decide ((0<=hi∧hi<=n)∧(0<=lo∧lo<=hi))) 2)∧w'=w:=by
 have c:=qG (fun w=>yw hi 0 n w)
 have d:=qG (fun w=>yw lo 0 hi w)
 by_cases a:(0<=hi∧hi<=n)
 ·rw [show decide (0<=hi∧hi<=n)=true by simpa using a]at c
  by_cases b:(0<=lo∧lo<=hi)
  ·rw [show decide (0<=lo∧lo<=hi)=true by simpa using b]at d
   rw [show decide ((0<=hi∧hi<=n)∧(0<=lo∧lo<=hi))=true by rw [qZ];exact⟨a,b⟩]
   clear a b;go_enter Tryz.func56,Tryz.ntmps56;go_wp2_with fail;refine(c _).mono ?_;rintro e w1 ⟨rfl,rfl⟩;go_wp2_with fail;refine(d _).mono ?_;rintro e w1 ⟨rfl,rfl⟩;go_wp2;go_ret;exact⟨rfl,rfl⟩
  ·rw [show decide (0<=lo∧lo<=hi)=false by simpa using b]at d
   rw [show decide ((0<=hi∧hi<=n)∧(0<=lo∧lo<=hi))=false by rw [vQ];exact fun f=>b f.2]
   clear a b;go_enter Tryz.func56,Tryz.ntmps56;go_wp2_with fail;refine(c _).mono ?_;rintro e w1 ⟨rfl,rfl⟩;go_wp2_with fail;refine(d _).mono ?_;rintro e w1 ⟨rfl,rfl⟩;go_wp2;go_ret;exact⟨rfl,rfl⟩
 ·rw [show decide (0<=hi∧hi<=n)=false by simpa using a]at c
  rw [show decide ((0<=hi∧hi<=n)∧(0<=lo∧lo<=hi))=false by rw [vQ];exact fun f=>a f.1]
  clear a;go_enter Tryz.func56,Tryz.ntmps56;go_wp2_with fail;refine(c _).mono ?_;rintro e w1 ⟨rfl,rfl⟩;go_wp2;go_ret;exact⟨rfl,rfl⟩
def msgLd:ByteArray:=⟨#[108,111,97,100,105,110,103,32,97,32,116,101,120,116]⟩
theorem zDe (ao:Option Addr) (n cap:Nat) (w:World):
  Calls Tryz.prog 38 #[.slice ao n cap] w fun e w'=>e= .returned (if n<=8192 then .nilIface else .iface 120 (.agg #[.string msgLd,.iface 121 (qJ 10)]))∧w'=w:=by
 have a:=qG (zDd 0 n w (by omega) (by omega))
 by_cases b:n<=8192
 ·rw [xj b]
  rw [show decide ((0:Int)<=8192∧(n:Int)<=8192 - 0)=true by rw [qZ];omega]at a
  simp only [errV,kP]at a;go_enter Tryz.func38,Tryz.ntmps38;go_wp2_with fail;refine a.mono ?_;rintro e w1 ⟨rfl,rfl⟩;go_wp2;go_ret;exact⟨rfl,rfl⟩
 ·rw [qT b]
  rw [show decide ((0:Int)<=8192∧(n:Int)<=8192 - 0)=false by rw [vQ];omega]at a
  simp only [errV,vK,kQ]at a;go_enter Tryz.func38,Tryz.ntmps38;go_wp2_with fail;refine a.mono ?_;rintro e w1 ⟨rfl,rfl⟩;go_wp2;go_ret;exact⟨rfl,rfl⟩
structure GC (w:World) (B o:Nat) (v:Value) (lo hi:Int):Prop where
 c0:w.cell? ⟨B,o,none⟩=some v
 c1:w.cell? ⟨B,o+1,none⟩=some (qJ lo)
 c2:w.cell? ⟨B,o+2,none⟩=some (qJ hi)
theorem GC.same {w w':World} {B o:Nat} {v:Value} {lo hi:Int} (a:GC w B o v lo hi) (b:w'.heap=w.heap):GC w' B o v lo hi:=
 ⟨(qV (w:=w) (by rw [b])).trans a.c0,(qV (w:=w) (by rw [b])).trans a.c1,(qV (w:=w) (by rw [b])).trans a.c2⟩
theorem GC.drew {w:World} {B o:Nat} {v:Value} {lo hi:Int} (a:GC w B o v lo hi) (n:Nat):GC (w.drewN n) B o v lo hi:=
 ⟨by simpa using a.c0,by simpa using a.c1,by simpa using a.c2⟩
theorem gapN (B o:Nat) (v:Value) (lo hi:Int) (w:World) (a:GC w B o v lo hi) (b:0<=lo) (c:lo<=hi) (d:hi<=1099511627776):
  Calls Tryz.prog 145 #[.pointer (qK B o)] w fun e w'=>e= .returned (qJ (hi - lo))∧∃n,w'=w.drewN n:=by
 obtain⟨f,g,h⟩:=a;go_enter Tryz.func145,Tryz.ntmps145;go_wp2;go_quiet (fail);go_wp2;go_ret;exact⟨rfl,_,rfl⟩
theorem ZU (B o:Nat) (ao:Option Addr) (n cap:Nat) (lo hi:Int) (w:World) (a:GC w B o (.slice ao n cap) lo hi) (d:0<=lo) (f:lo<=hi) (g:hi<=n) (h:n<=1099511627776):
  Calls Tryz.prog 124 #[.pointer (qK B o)] w fun e w'=>e= .returned (qJ (n - (hi - lo)))∧∃n,w'=w.drewN n:=by
 have b:=qG (fun w a=>gapN B o (.slice ao n cap) lo hi w a d f (by omega))
 have c:=qG a;obtain⟨i,j,k⟩:=a;go_enter Tryz.func124,Tryz.ntmps124;go_wp2;go_quiet ((go_at_call 145;exact Calls.quiet_of (b _ (c.drew _))));go_wp2;go_ret;exact⟨rfl,_,rfl⟩
theorem clone32 (xs:List Int) (v:Value) (w:World) (i:Sl .i32 w v xs) (r:xs.length<=1048576):
  Calls Tryz.prog 120 #[v] w fun e w'=>∃h,e= .returned h∧w'.ownsRow w.heap.size 21 1 h xs.length (ints .i32 xs)∧Below w.heap.size w w':=by
 have j:=qG i
 rcases i with ⟨rfl,rfl⟩ | ⟨b,off,cap,rfl,_,_⟩
 ·have a:=fun w:World=>Lib.run_eql_slice_nil (P:=Tryz.prog) w 25 21 none 0 0 0 0 Tryz.underlying25
  simp only [Option.isNone_none]at a;go_enter Tryz.func120,Tryz.ntmps120;go_wp2;go_ret;exact⟨_,rfl,km _ _ _ _,qO _ _⟩
 ·have f:(w.alloc (.cells #[] 21)).ownsRow w.heap.size 21 1 (.slice (qK w.heap.size 0) 0 0) 0 []:=by
   have:=ke (base:=w.heap.size) (e:=21) (size:=1) w #[] 0 (by simp) (xP _) rfl
   simpa using this
  have k:=qG f;have c:=qG ((qO w.heap.size w).alloc lR (.cells #[] 21));have l:=qG ((j.below c).rd rfl)
  have a:=fun w:World=>Lib.run_eql_slice_nil (P:=Tryz.prog) w 25 21 (qK b off) xs.length cap 0 0 Tryz.underlying25
  simp only [Option.isNone_some]at a;clear f;go_enter Tryz.func120,Tryz.ntmps120
  go_wp2_with (at_builtin;refine a25 _ rfl _ _ rfl w.heap.size _ 0 [] rfl k ⟨b,off,none⟩ xs.length cap (ints .i32 xs) rfl (by rw [zC,vI]) l (zF _ _) (by unfold maxLen;omega) (by omega) c.size ?_;intro o p d g _)
  rw [xN,xJ]at d;have m:=qG d
  have n:=qG (c.grown g c.size (fun q a=>by cases a;exact lR))
  clear d g;go_wp2;go_ret;exact⟨_,rfl,m,n⟩
section
variable {α:Type} {z:α}
theorem YF (a b:List α) (i:Nat):(a++b).getD i z=if i<a.length then a.getD i z else b.getD (i - a.length) z:=by
 simp only [qW,List.getElem?_append]
 split<;>rfl
theorem jz (a:List α) (n i:Nat):(a.take n).getD i z=if i<n then a.getD i z else z:=by
 simp only [qW,xO]
 split<;>rfl
theorem ZA (a:List α) (n i:Nat):(a.drop n).getD i z=a.getD (n+i) z:=by
 simp only [qW,vn]
theorem Yp (n i:Nat):(List.replicate n (z:α)).getD i z=z:=by
 simp only [qW,List.getElem?_replicate]
 split<;>rfl
theorem XI {a b:List α} (e:a.length=b.length) (f:∀i,i<a.length->a.getD i z=b.getD i z):a=b:=by
 apply List.ext_getElem e;intro i c d;have:=f i c;simpa [qW,c,d]using this
def zh (zs:List α) (lo hi:Nat):List α:=zs.take lo++zs.drop hi
def glayA (z:α) (xs:List α) (p n:Nat):List α:=xs.take p++(List.replicate (n - xs.length) z++xs.drop p)
structure GVA (z:α) (zs:List α) (lo hi:Nat):Prop where
 a:lo<=hi
 b:hi<=zs.length
 zz:∀i,lo<=i->i<hi->zs.getD i z=z
 c:zs.length<=65536
 t:zs.length - (hi - lo)<=16384
theorem yd {zs:List α} {lo hi:Nat} (a:lo<=hi) (b:hi<=zs.length):(zh zs lo hi).length=zs.length - (hi - lo):=by
 simp only [zh,qM,qN,qS];omega
theorem zg {xs:List α} {p n:Nat} (a:p<=xs.length) (b:xs.length<=n):(glayA z xs p n).length=n:=by
 simp only [glayA,qM,qN,qS,qP];omega
theorem yg (a:List α) (off:Nat) (cs:List α) (i:Nat) (b:off+cs.length<=a.length):(splice a off cs).getD i z=if i<off then a.getD i z else if i<off+cs.length then cs.getD (i - off) z else a.getD i z:=by
 simp only [splice,YF,jz,ZA,qN]
 repeat' split
 all_goals first
  | omega
  | rfl
  | (congr 1;omega)
theorem zBu {zs:List α} {lo hi p:Nat} (a:GVA z zs lo hi) (h:p<lo):
  splice (splice zs (p+(hi - lo)) ((zs.drop p).take (lo - p))) p (List.replicate (min lo (p+(hi - lo)) - p) z)=glayA z (zh zs lo hi) p zs.length:=by
 have e:=a.a;have f:=a.b
 have c:((zs.drop p).take (lo - p)).length=lo - p:=by simp only [qN,qS];omega
 have b:(splice zs (p+(hi - lo)) ((zs.drop p).take (lo - p))).length=zs.length:=length_splice _ _ _ (by rw [c];omega)
 have g:(zh zs lo hi).length=zs.length - (hi - lo):=yd e f
 have d:(splice (splice zs (p+(hi - lo)) ((zs.drop p).take (lo - p))) p (List.replicate (min lo (p+(hi - lo)) - p) z)).length=zs.length:=by
  rw [length_splice _ _ _ (by rw [b,qP];omega),b]
 apply XI (z:=z)
 ·rw [d,zg (by omega) (by omega)]
 ·intro i hi'
  rw [d]at hi'
  rw [yg _ _ _ _ (by rw [b,qP];omega),yg _ _ _ _ (by rw [c];omega)]
  simp only [glayA,YF,jz,ZA,Yp,zh,qN,qS,qP,qM]
  repeat' split
  all_goals first
   | omega
   | rfl
   | (congr 1;omega)
   | (apply a.zz<;>omega)
   | (symm;apply a.zz<;>omega)
theorem zGd {zs:List α} {lo hi p:Nat} (a:GVA z zs lo hi) (h:lo<=p) (j:p+(hi - lo)<=zs.length):
  splice (splice zs lo ((zs.drop hi).take (p+(hi - lo) - hi))) (max hi p) (List.replicate (p+(hi - lo) - max hi p) z)=glayA z (zh zs lo hi) p zs.length:=by
 have e:=a.a;have f:=a.b
 have c:((zs.drop hi).take (p+(hi - lo) - hi)).length=p - lo:=by simp only [qN,qS];omega
 have b:(splice zs lo ((zs.drop hi).take (p+(hi - lo) - hi))).length=zs.length:=length_splice _ _ _ (by rw [c];omega)
 have g:(zh zs lo hi).length=zs.length - (hi - lo):=yd e f
 have d:(splice (splice zs lo ((zs.drop hi).take (p+(hi - lo) - hi))) (max hi p) (List.replicate (p+(hi - lo) - max hi p) z)).length=zs.length:=by
  rw [length_splice _ _ _ (by rw [b,qP];omega),b]
 apply XI (z:=z)
 ·rw [d,zg (by omega) (by omega)]
 ·intro i hi'
  rw [d]at hi'
  rw [yg _ _ _ _ (by rw [b,qP];omega),yg _ _ _ _ (by rw [c];omega)]
  simp only [glayA,YF,jz,ZA,Yp,zh,qN,qS,qP,qM]
  repeat' split
  all_goals first
   | omega
   | rfl
   | (congr 1;omega)
   | (apply a.zz<;>omega)
   | (symm;apply a.zz<;>omega)
theorem ggrowA {zs:List α} {lo hi n:Nat} (c:lo<=hi) (d:hi<=zs.length) (f:zs.length<=n):
  splice (splice (List.replicate n z) 0 (zs.take lo)) (n - (zs.length - hi)) (zs.drop hi)=glayA z (zh zs lo hi) lo n:=by
 have a:(splice (List.replicate n (z:α)) 0 (zs.take lo)).length=n:=by
  rw [length_splice _ _ _ (by simp only [qN,qP];omega),qP]
 have e:(zh zs lo hi).length=zs.length - (hi - lo):=yd c d
 have b:(splice (splice (List.replicate n z) 0 (zs.take lo)) (n - (zs.length - hi)) (zs.drop hi)).length=n:=by
  rw [length_splice _ _ _ (by rw [a,qS];omega),a]
 apply XI (z:=z)
 ·rw [b,zg (by omega) (by omega)]
 ·intro i hi'
  rw [b]at hi'
  rw [yg _ _ _ _ (by rw [a,qS];omega),yg _ _ _ _ (by simp only [qN,qP];omega)]
  simp only [glayA,YF,jz,ZA,Yp,zh,qN,qS,qP,qM]
  repeat' split
  all_goals first
   | omega
   | rfl
   | (congr 1;omega)
theorem zBv {xs:List α} {p n:Nat} (c:p<=xs.length) (d:xs.length<=n) (e:n<=65536) (f:xs.length<=16384):GVA z (glayA z xs p n) p (p+(n - xs.length)):=by
 refine⟨by omega,by rw [zg c d];omega,fun i a b=>?_,by rw [zg c d];exact e,by rw [zg c d];omega⟩
 simp only [glayA,YF,jz,ZA,Yp,qN,qP]
 repeat' split
 all_goals first | omega | rfl
theorem zDh {xs:List α} {p n:Nat} (a:p<=xs.length) (b:xs.length<=n):zh (glayA z xs p n) p (p+(n - xs.length))=xs:=by
 unfold zh
 rw [glayA,xW (by simp only [qN];omega),xE (by simp only [qN];omega)]
 rw [<- xq,vo (by simp only [qM,qN,qP];omega),kt (by simp only [qM,qN,qP];omega),xJ,xG]
theorem zGe {xs ts:List α} {p n:Nat} (b:p<=xs.length) (d:xs.length+ts.length<=n):
  splice (glayA z xs p n) p ts=glayA z (xs.take p++(ts++xs.drop p)) (p+ts.length) n:=by
 have a:(glayA z xs p n).length=n:=zg b (by omega)
 have c:(xs.take p++(ts++xs.drop p)).length=xs.length+ts.length:=by simp only [qM,qN,qS];omega
 apply XI (z:=z)
 ·rw [length_splice _ _ _ (by omega),a,zg (by omega) (by omega)]
 ·intro i hi
  rw [length_splice _ _ _ (by omega),a]at hi
  rw [yg _ _ _ _ (by omega)]
  simp only [glayA,YF,jz,ZA,Yp,qN,qS,qP,qM]
  repeat' split
  all_goals first
   | omega
   | rfl
   | (congr 1;omega)
end
def encZ (r:Int):List Int:=
 if r<0∨1114111<r∨(55296<=r∧r<=57343)then [239,191,189]
 else if r<128 then [r]
 else if r<2048 then [192+r/64,128+r%64]
 else if r<65536 then [224+r/4096,128+r/64%64,128+r%64]
 else [240+r/262144,128+r/4096%64,128+r/64%64,128+r%64]
theorem yG {r:Int} (a:r<0∨1114111<r∨(55296<=r∧r<=57343)):encZ r= [239,191,189]:=by
 unfold encZ;rw [xj a]
theorem yY {r:Int} (b:0<=r) (a:r<128):encZ r= [r]:=by
 unfold encZ;rw [qT (by omega),xj a]
theorem yK {r:Int} (b:128<=r) (a:r<2048):encZ r= [192+r/64,128+r%64]:=by
 unfold encZ;rw [qT (by omega),qT (by omega),xj a]
theorem zP {r:Int} (b:2048<=r) (a:r<65536) (c:r<55296∨57343<r):encZ r= [224+r/4096,128+r/64%64,128+r%64]:=by
 unfold encZ;rw [qT (by omega),qT (by omega),qT (by omega),xj a]
theorem yB {r:Int} (a:65536<=r) (b:r<=1114111):encZ r= [240+r/262144,128+r/4096%64,128+r/64%64,128+r%64]:=by
 unfold encZ;rw [qT (by omega),qT (by omega),qT (by omega),qT (by omega)]
theorem zy (r:Int):(r<0∨1114111<r∨(55296<=r∧r<=57343))∨(0<=r∧r<128)∨(128<=r∧r<2048)∨(2048<=r∧r<55296)∨(57343<r∧r<65536)∨(65536<=r∧r<=1114111):=by omega
theorem yH (r:Int):1<=(encZ r).length∧(encZ r).length<=4:=by
 rcases zy r with a | a | a | a | a | a
 ·rw [yG a];simp
 ·rw [yY a.1 a.2];simp
 ·rw [yK a.1 a.2];simp
 ·rw [zP a.1 (by omega) (.inl a.2)];simp
 ·rw [zP (by omega) a.2 (.inr a.1)];simp
 ·rw [yB a.1 a.2];simp
def encs (zs:List Int):List Int:=zs.flatMap encZ
theorem Jk (zs:List Int):(encs zs).length<=4*zs.length:=by
 induction zs with
 | nil=>simp [encs]
 | cons z zs a=>
  have:=yH z;simp only [encs,kG,qM,q9]at *;omega
theorem zGg (zs:List Int) (k:Nat) (a:k<zs.length):encs (zs.take (k+1))=encs (zs.take k)++encZ (zs.getD k 0):=by
 have e:zs.getD k 0=zs[k]:=by simp [qW,a]
 rw [e,Qa a];unfold encs;rw [List.flatMap_append,List.flatMap_singleton]
end Go.Proofs.YtljdnoinennfaaaGreatDoor
namespace Go.Proofs.YtljdnoinennfaaaGreatDoor
open Go Go.RowKit Go.Proofs.Tryz
theorem l1b_bad (r:Int) (w:World) (a:r<0∨1114111<r∨(55296<=r∧r<=57343)) (g: -2147483648<=r) (h:r<2147483648):
  Calls prog 91 #[qJ r] w fun e w'=>e= .returned (.slice (qK w.heap.size 0) 3 3)∧w'=w.alloc (.cells #[.int .u8 239,.int .u8 191,.int .u8 189] 5):=by
 rcases a with a | a | a
 ·have b:r<0:=a
  go_enter func91,ntmps91;go_wp2;go_ret;exact⟨rfl,rfl⟩
 ·have b:¬r<0:=by omega
  go_enter func91,ntmps91;go_wp2;go_ret;exact⟨rfl,rfl⟩
 ·have b:¬r<0:=by omega
  have c:¬1114111<r:=by omega
  have d:55296<=r:=a.1;have f:r<=57343:=a.2;clear a;go_enter func91,ntmps91;go_wp2;go_ret;exact⟨rfl,rfl⟩
theorem l1b_one (r:Int) (w:World) (d:0<=r) (f:r<128):
  Calls prog 91 #[qJ r] w fun e w'=>e= .returned (.slice (qK w.heap.size 0) 1 1)∧w'=w.alloc (.cells #[.int .u8 r] 5):=by
 have a:¬r<0:=by omega
 have b:¬1114111<r:=by omega
 have c:¬55296<=r:=by omega
 go_enter func91,ntmps91;go_wp2;go_ret;exact⟨rfl,rfl⟩
theorem l1b_two (r:Int) (w:World) (d:128<=r) (f:r<2048):
  Calls prog 91 #[qJ r] w fun e w'=>e= .returned (.slice (qK w.heap.size 0) 2 2)∧w'=w.alloc (.cells #[.int .u8 (192+r/64),.int .u8 (128+r%64)] 5):=by
 have a:¬r<0:=by omega
 have b:¬1114111<r:=by omega
 have c:¬55296<=r:=by omega
 go_enter func91,ntmps91;go_wp2;go_ret;exact⟨rfl,rfl⟩
theorem Kj (r:Int) (w:World) (g:2048<=r) (h:r<65536) (a:r<55296∨57343<r):
  Calls prog 91 #[qJ r] w fun e w'=>e= .returned (.slice (qK w.heap.size 0) 3 3)∧w'=w.alloc (.cells #[.int .u8 (224+r/4096),.int .u8 (128+r/64%64),.int .u8 (128+r%64)] 5):=by
 have c:¬r<0:=by omega
 have d:¬1114111<r:=by omega
 rcases a with a | a
 ·have b:¬55296<=r:=by omega
  go_enter func91,ntmps91;go_wp2;go_ret;exact⟨rfl,rfl⟩
 ·have b:55296<=r:=by omega
  have f:¬r<=57343:=by omega
  go_enter func91,ntmps91;go_wp2;go_ret;exact⟨rfl,rfl⟩
theorem l1b_four (r:Int) (w:World) (f:65536<=r) (g:r<=1114111):
  Calls prog 91 #[qJ r] w fun e w'=>e= .returned (.slice (qK w.heap.size 0) 4 4)∧w'=w.alloc (.cells #[.int .u8 (240+r/262144),.int .u8 (128+r/4096%64),.int .u8 (128+r/64%64),.int .u8 (128+r%64)] 5):=by
 have a:¬r<0:=by omega
 have b:¬1114111<r:=by omega
 have c:55296<=r:=by omega
 have d:¬r<=57343:=by omega
 go_enter func91,ntmps91;go_wp2;go_ret;exact⟨rfl,rfl⟩
theorem l1b (r:Int) (w:World) (b: -2147483648<=r) (c:r<2147483648):
  Calls prog 91 #[qJ r] w fun e w'=>e= .returned (.slice (qK w.heap.size 0) (encZ r).length (encZ r).length)∧w'=w.alloc (.cells (ints .u8 (encZ r)).toArray 5):=by
 rcases zy r with a | a | a | a | a | a
 ·rw [yG a];exact l1b_bad r w a b c
 ·rw [yY a.1 a.2];exact l1b_one r w a.1 a.2
 ·rw [yK a.1 a.2];exact l1b_two r w a.1 a.2
 ·rw [zP a.1 (by omega) (.inl a.2)];exact Kj r w a.1 (by omega) (.inl a.2)
 ·rw [zP (by omega) a.2 (.inr a.1)];exact Kj r w (by omega) a.2 (.inr a.1)
 ·rw [yB a.1 a.2];exact l1b_four r w a.1 a.2
end Go.Proofs.YtljdnoinennfaaaGreatDoor
namespace Go.Proofs.YtljdnoinennfaaaGreatDoor
open Go Go.RowKit
def numZ:List Int->Int
 | [a]=>a
 | [a,b]=>(a - 192)*64+b - 128
 | [a,b,c]=>(a - 224)*4096+(b - 128)*64+c - 128
 | [a,b,c,d]=>(a - 240)*262144+(b - 128)*4096+(c - 128)*64+d - 128
 | _=> -1
def zT (q:List Int):Bool:=decide (0<=numZ q∧encZ (numZ q)=q)
theorem zo (q:List Int):zT q=true↔0<=numZ q∧encZ (numZ q)=q:=by unfold zT;exact Qj
def bytes (q:List Int):Prop:=∀z∈q,0<=z∧z<=255
theorem form1 {a:Int} (d:0<=a):zT [a]=true↔a<128:=by
 rw [zo];simp only [numZ];constructor
 ·rintro ⟨_,b⟩
  rcases zy a with c | c | c | c | c | c
  ·rw [yG c]at b;simp at b
  ·exact c.2
  ·rw [yK c.1 c.2]at b;simp at b
  ·rw [zP c.1 (by omega) (.inl c.2)]at b;simp at b
  ·rw [zP (by omega) c.2 (.inr c.1)]at b;simp at b
  ·rw [yB c.1 c.2]at b;simp at b
 ·intro b;exact⟨d,yY d b⟩
theorem form2 {a b:Int} (h:0<=a∧a<=255) (i:0<=b∧b<=255):zT [a,b]=true↔(194<=a∧a<=223)∧(128<=b∧b<=191):=by
 rw [zo];simp only [numZ];generalize g:(a - 192)*64+b - 128=v;constructor
 ·rintro ⟨j,d⟩
  rcases zy v with c | c | c | c | c | c
  ·rw [yG c]at d;simp at d
  ·rw [yY c.1 c.2]at d;simp at d
  ·rw [yK c.1 c.2]at d;simp at d;omega
  ·rw [zP c.1 (by omega) (.inl c.2)]at d;simp at d
  ·rw [zP (by omega) c.2 (.inr c.1)]at d;simp at d
  ·rw [yB c.1 c.2]at d;simp at d
 ·intro d
  refine⟨by omega,?_⟩
  rw [yK (by omega) (by omega)]
  have e:192+v/64=a:=by omega
  have f:128+v%64=b:=by omega
  rw [e,f]
theorem form3 {a b c:Int} (j:0<=a∧a<=255) (k:0<=b∧b<=255) (l:0<=c∧c<=255):zT [a,b,c]=true↔
  ((a=224∧160<=b∧b<=191)∨(a=237∧128<=b∧b<=159)∨((225<=a∧a<=236∨a=238∨a=239)∧128<=b∧b<=191))∧(128<=c∧c<=191):=by
 rw [zo];simp only [numZ];generalize i:(a - 224)*4096+(b - 128)*64+c - 128=v;constructor
 ·rintro ⟨m,d⟩
  rcases zy v with e | e | e | e | e | e
  ·rw [yG e]at d;simp at d;omega
  ·rw [yY e.1 e.2]at d;simp at d
  ·rw [yK e.1 e.2]at d;simp at d
  ·rw [zP e.1 (by omega) (.inl e.2)]at d;simp at d;omega
  ·rw [zP (by omega) e.2 (.inr e.1)]at d;simp at d;omega
  ·rw [yB e.1 e.2]at d;simp at d
 ·intro d
  refine⟨by omega,?_⟩
  rw [zP (by omega) (by omega) (by omega)]
  have f:224+v/4096=a:=by omega
  have g:128+v/64%64=b:=by omega
  have h:128+v%64=c:=by omega
  rw [f,g,h]
theorem form4 {a b c d:Int} (l:0<=a∧a<=255) (m:0<=b∧b<=255) (n:0<=c∧c<=255) (o:0<=d∧d<=255):zT [a,b,c,d]=true↔
  ((a=240∧144<=b∧b<=191)∨(a=244∧128<=b∧b<=143)∨(241<=a∧a<=243∧128<=b∧b<=191))∧(128<=c∧c<=191)∧(128<=d∧d<=191):=by
 rw [zo];simp only [numZ];generalize k:(a - 240)*262144+(b - 128)*4096+(c - 128)*64+d - 128=v;constructor
 ·rintro ⟨p,f⟩
  rcases zy v with e | e | e | e | e | e
  ·rw [yG e]at f;simp at f
  ·rw [yY e.1 e.2]at f;simp at f
  ·rw [yK e.1 e.2]at f;simp at f
  ·rw [zP e.1 (by omega) (.inl e.2)]at f;simp at f
  ·rw [zP (by omega) e.2 (.inr e.1)]at f;simp at f
  ·rw [yB e.1 e.2]at f;simp at f;omega
 ·intro f
  refine⟨by omega,?_⟩
  rw [yB (by omega) (by omega)]
  have g:240+v/262144=a:=by omega
  have h:128+v/4096%64=b:=by omega
  have i:128+v/64%64=c:=by omega
  have j:128+v%64=d:=by omega
  rw [g,h,i,j]
theorem zGi {q:List Int} (f:4<q.length):zT q=false:=by
 match q,f with
 | a::b::c::d::e::r,_=>simp [zT,numZ]
def ok3 (a b:Int):Prop:=(a=224∧160<=b∧b<=191)∨(a=237∧128<=b∧b<=159)∨((225<=a∧a<=236∨a=238∨a=239)∧128<=b∧b<=191)
def ok4 (a b:Int):Prop:=(a=240∧144<=b∧b<=191)∨(a=244∧128<=b∧b<=143)∨(241<=a∧a<=243∧128<=b∧b<=191)
instance (a b:Int):Decidable (ok3 a b):=by unfold ok3;infer_instance
instance (a b:Int):Decidable (ok4 a b):=by unfold ok4;infer_instance
def step:List Int->Int×Nat
 | []=>(65533,1)
 | [a]=>if a<128 then(a,1)else(65533,1)
 | [a,b]=>if a<128 then(a,1)else if(194<=a∧a<=223)∧128<=b∧b<=191 then(numZ [a,b],2)else if ok3 a b∨ok4 a b then(65533,2)else(65533,1)
 | [a,b,c]=>if a<128 then(a,1)else if(194<=a∧a<=223)∧128<=b∧b<=191 then(numZ [a,b],2)
   else if ok3 a b then(if 128<=c∧c<=191 then(numZ [a,b,c],3)else(65533,2))
   else if ok4 a b then(if 128<=c∧c<=191 then(65533,3)else(65533,2))else(65533,1)
 | a::b::c::d::_=>if a<128 then(a,1)else if(194<=a∧a<=223)∧128<=b∧b<=191 then(numZ [a,b],2)
   else if ok3 a b then(if 128<=c∧c<=191 then(numZ [a,b,c],3)else(65533,2))
   else if ok4 a b then(if 128<=c∧c<=191 then(if 128<=d∧d<=191 then(numZ [a,b,c,d],4)else(65533,3))else(65533,2))else(65533,1)
theorem shape {bs:List Int} (e:bs≠ []):(∃a,bs= [a])∨(∃a b,bs= [a,b])∨(∃a b c,bs= [a,b,c])∨∃a b c d r,bs=a::b::c::d::r:=by
 match bs,e with
 | [a],_=>exact .inl ⟨a,rfl⟩
 | [a,b],_=>exact .inr (.inl ⟨a,b,rfl⟩)
 | [a,b,c],_=>exact .inr (.inr (.inl ⟨a,b,c,rfl⟩))
 | a::b::c::d::r,_=>exact .inr (.inr (.inr ⟨a,b,c,d,r,rfl⟩))
theorem YG (bs:List Int) (e:bs≠ []):1<=(step bs).2∧(step bs).2<=bs.length:=by
 rcases shape e with ⟨a,rfl⟩ | ⟨a,b,rfl⟩ | ⟨a,b,c,rfl⟩ | ⟨a,b,c,d,r,rfl⟩
 all_goals
  simp only [step]
  repeat' split
  all_goals simp
def ext (q:List Int) (t:Nat) (s:Int):List Int:=
 let w:=if q.length=1 then q++ [s]else q
 w++List.replicate (t - w.length) 128
def begOk (q:List Int):Prop:=∃ (t:Nat) (s:Int),q.length<t∧t<=4∧128<=s∧s<192∧(1<q.length->s=128)∧zT (ext q t s)=true
theorem beg1 {a:Int} (b:0<=a∧a<=255):begOk [a]↔194<=a∧a<=244:=by
 constructor
 ·rintro ⟨t,s,d,g,f,i,-,c⟩
  have ht:t=2∨t=3∨t=4:=by simp at d;omega
  rcases ht with rfl | rfl | rfl
  ·have e:ext [a] 2 s= [a,s]:=rfl
   rw [e,form2 b (by omega)]at c;omega
  ·have e:ext [a] 3 s= [a,s,128]:=rfl
   rw [e,form3 b (by omega) (by omega)]at c;omega
  ·have e:ext [a] 4 s= [a,s,128,128]:=rfl
   rw [e,form4 b (by omega) (by omega) (by omega)]at c;omega
 ·intro h
  by_cases d:a<=223
  ·exact⟨2,128,by simp,by omega,by omega,by omega,by simp,by rw [show ext [a] 2 128= [a,128]from rfl,form2 b (by omega)];omega⟩
  by_cases g:a<=239
  ·by_cases f:a=224
   ·exact⟨3,160,by simp,by omega,by omega,by omega,by simp,by rw [show ext [a] 3 160= [a,160,128]from rfl,form3 b (by omega) (by omega)];omega⟩
   ·exact⟨3,128,by simp,by omega,by omega,by omega,by simp,by rw [show ext [a] 3 128= [a,128,128]from rfl,form3 b (by omega) (by omega)];omega⟩
  ·by_cases f:a=240
   ·exact⟨4,144,by simp,by omega,by omega,by omega,by simp,by rw [show ext [a] 4 144= [a,144,128,128]from rfl,form4 b (by omega) (by omega) (by omega)];omega⟩
   ·exact⟨4,128,by simp,by omega,by omega,by omega,by simp,by rw [show ext [a] 4 128= [a,128,128,128]from rfl,form4 b (by omega) (by omega) (by omega)];omega⟩
theorem beg2 {a b:Int} (c:0<=a∧a<=255) (d:0<=b∧b<=255):begOk [a,b]↔ok3 a b∨ok4 a b:=by
 unfold ok3 ok4;constructor
 ·rintro ⟨t,s,f,h,i,j,-,e⟩
  have ht:t=3∨t=4:=by simp at f;omega
  rcases ht with rfl | rfl
  ·rw [show ext [a,b] 3 s= [a,b,128]from rfl,form3 c d (by omega)]at e;omega
  ·rw [show ext [a,b] 4 s= [a,b,128,128]from rfl,form4 c d (by omega) (by omega)]at e;omega
 ·rintro (g | g)
  ·exact⟨3,128,by simp,by omega,by omega,by omega,by simp,by rw [show ext [a,b] 3 128= [a,b,128]from rfl,form3 c d (by omega)];omega⟩
  ·exact⟨4,128,by simp,by omega,by omega,by omega,by simp,by rw [show ext [a,b] 4 128= [a,b,128,128]from rfl,form4 c d (by omega) (by omega)];omega⟩
theorem beg3 {a b c:Int} (d:0<=a∧a<=255) (e:0<=b∧b<=255) (f:0<=c∧c<=255):begOk [a,b,c]↔ok4 a b∧128<=c∧c<=191:=by
 unfold ok4;constructor
 ·rintro ⟨t,s,g,i,j,k,-,h⟩
  have ht:t=4:=by simp at g;omega
  subst ht
  rw [show ext [a,b,c] 4 s= [a,b,c,128]from rfl,form4 d e f (by omega)]at h;omega
 ·rintro l
  exact⟨4,128,by simp,by omega,by omega,by omega,by simp,by rw [show ext [a,b,c] 4 128= [a,b,c,128]from rfl,form4 d e f (by omega)];omega⟩
theorem Kk {bs:List Int} (h:bytes bs) {k:Nat} (v:1<=k) (w:k<=4) (m:k<=bs.length) (e:zT (bs.take k)=true) (t:∀j,1<=j->j<k->zT (bs.take j)=false):step bs=(numZ (bs.take k),k):=by
 have o:k=1∨k=2∨k=3∨k=4:=by omega
 have p:bs≠ []:=by rintro rfl;simp at m;omega
 rcases shape p with ⟨a,rfl⟩ | ⟨a,b,rfl⟩ | ⟨a,b,c,rfl⟩ | ⟨a,b,c,d,r,rfl⟩
 ·have f:=h a (by simp)
  obtain rfl:k=1:=by simp at m;omega
  rw [show [a].take 1= [a]from rfl,form1 f.1]at e
  simp [step,e,numZ]
 ·have f:=h a (by simp)
  have i:=h b (by simp)
  rcases o with rfl | rfl | rfl | rfl
  ·rw [show [a,b].take 1= [a]from rfl,form1 f.1]at e
   simp [step,e,numZ]
  ·have u:=t 1 (by omega) (by omega)
   rw [show [a,b].take 2= [a,b]from rfl,form2 f i]at e
   have g:¬a<128:=by omega
   simp only [step,qT g,xj e];rfl
  ·simp at m
  ·simp at m
 ·have f:=h a (by simp)
  have i:=h b (by simp)
  have n:=h c (by simp)
  rcases o with rfl | rfl | rfl | rfl
  ·rw [show [a,b,c].take 1= [a]from rfl,form1 f.1]at e
   simp [step,e,numZ]
  ·rw [show [a,b,c].take 2= [a,b]from rfl,form2 f i]at e
   have g:¬a<128:=by omega
   simp only [step,qT g,xj e];rfl
  ·rw [show [a,b,c].take 3= [a,b,c]from rfl,form3 f i n]at e
   have g:¬a<128:=by omega
   have l:¬ ((194<=a∧a<=223)∧128<=b∧b<=191):=by omega
   simp only [step,qT g,qT l]
   rw [xj (show ok3 a b from e.1),xj e.2];rfl
  ·simp at m
 ·have f:=h a (by simp)
  have i:=h b (by simp)
  have n:=h c (by simp)
  have q:=h d (by simp)
  rcases o with rfl | rfl | rfl | rfl
  ·rw [show(a::b::c::d::r).take 1= [a]from rfl,form1 f.1]at e
   simp [step,e,numZ]
  ·rw [show(a::b::c::d::r).take 2= [a,b]from rfl,form2 f i]at e
   have g:¬a<128:=by omega
   simp only [step,qT g,xj e];rfl
  ·rw [show(a::b::c::d::r).take 3= [a,b,c]from rfl,form3 f i n]at e
   have g:¬a<128:=by omega
   have l:¬ ((194<=a∧a<=223)∧128<=b∧b<=191):=by omega
   simp only [step,qT g,qT l]
   rw [xj (show ok3 a b from e.1),xj e.2];rfl
  ·rw [show(a::b::c::d::r).take 4= [a,b,c,d]from rfl,form4 f i n q]at e
   have g:¬a<128:=by omega
   have l:¬ ((194<=a∧a<=223)∧128<=b∧b<=191):=by omega
   have s:¬ok3 a b:=by unfold ok3;omega
   simp only [step,qT g,qT l,qT s]
   rw [xj (show ok4 a b from e.1),xj e.2.1,xj e.2.2];rfl
theorem zC3 {bs:List Int} (o:bytes bs) (E:bs≠ []) (p:∀k,1<=k->k<=4->k<=bs.length->zT (bs.take k)=false)
  {m:Nat} (F:1<=m) (G:m<=3) (B:m<=bs.length) (f:m=1∨begOk (bs.take m)) (x:∀j,m<j->j<=3->j<=bs.length->¬begOk (bs.take j)):step bs=(65533,m):=by
 have y:m=1∨m=2∨m=3:=by omega
 rcases shape E with ⟨a,rfl⟩ | ⟨a,b,rfl⟩ | ⟨a,b,c,rfl⟩ | ⟨a,b,c,d,r,rfl⟩
 ·have h:=o a (by simp)
  obtain rfl:m=1:=by simp at B;omega
  have n:=p 1 (by omega) (by omega) (by simp)
  have t:¬a<128:=fun e=>by rw [show [a].take 1= [a]from rfl,(form1 h.1).2 e]at n;cases n
  simp [step,t]
 ·have h:=o a (by simp)
  have i:=o b (by simp)
  have n:=p 1 (by omega) (by omega) (by simp)
  have q:=p 2 (by omega) (by omega) (by simp)
  have t:¬a<128:=fun e=>by rw [show [a,b].take 1= [a]from rfl,(form1 h.1).2 e]at n;cases n
  have u:¬ ((194<=a∧a<=223)∧128<=b∧b<=191):=fun e=>by rw [show [a,b].take 2= [a,b]from rfl,(form2 h i).2 e]at q;cases q
  simp only [step,qT t,qT u]
  rcases y with rfl | rfl | rfl
  ·have g:=x 2 (by omega) (by omega) (by simp)
   rw [show [a,b].take 2= [a,b]from rfl,beg2 h i]at g
   rw [qT g]
  ·rcases f with f | f
   ·omega
   ·rw [show [a,b].take 2= [a,b]from rfl,beg2 h i]at f
    rw [xj f]
  ·simp at B
 ·have h:=o a (by simp)
  have i:=o b (by simp)
  have s:=o c (by simp)
  have n:=p 1 (by omega) (by omega) (by simp)
  have q:=p 2 (by omega) (by omega) (by simp)
  have v:=p 3 (by omega) (by omega) (by simp)
  have t:¬a<128:=fun e=>by rw [show [a,b,c].take 1= [a]from rfl,(form1 h.1).2 e]at n;cases n
  have u:¬ ((194<=a∧a<=223)∧128<=b∧b<=191):=fun e=>by rw [show [a,b,c].take 2= [a,b]from rfl,(form2 h i).2 e]at q;cases q
  have z:¬ (ok3 a b∧128<=c∧c<=191):=fun e=>by rw [show [a,b,c].take 3= [a,b,c]from rfl,(form3 h i s).2 e]at v;cases v
  simp only [step,qT t,qT u]
  rcases y with rfl | rfl | rfl
  ·have g:=x 2 (by omega) (by omega) (by simp)
   rw [show [a,b,c].take 2= [a,b]from rfl,beg2 h i]at g
   rw [qT (fun e=>g (.inl e)),qT (fun e=>g (.inr e))]
  ·have g:=x 3 (by omega) (by omega) (by simp)
   rw [show [a,b,c].take 3= [a,b,c]from rfl,beg3 h i s]at g
   rcases f with f | f
   ·omega
   ·rw [show [a,b,c].take 2= [a,b]from rfl,beg2 h i]at f
    by_cases l:ok3 a b
    ·rw [xj l,qT (fun e=>z ⟨l,e⟩)]
    ·have w:ok4 a b:=f.resolve_left l
     rw [qT l,xj w,qT (fun e=>g ⟨w,e⟩)]
  ·rcases f with f | f
   ·omega
   ·rw [show [a,b,c].take 3= [a,b,c]from rfl,beg3 h i s]at f
    have l:¬ok3 a b:=by have:=f.1;unfold ok4 at this;unfold ok3;omega
    rw [qT l,xj f.1,xj f.2]
 ·have h:=o a (by simp)
  have i:=o b (by simp)
  have s:=o c (by simp)
  have C:=o d (by simp)
  have n:=p 1 (by omega) (by omega) (by simp)
  have q:=p 2 (by omega) (by omega) (by simp)
  have v:=p 3 (by omega) (by omega) (by simp)
  have A:=p 4 (by omega) (by omega) (by simp)
  have t:¬a<128:=fun e=>by rw [show(a::b::c::d::r).take 1= [a]from rfl,(form1 h.1).2 e]at n;cases n
  have u:¬ ((194<=a∧a<=223)∧128<=b∧b<=191):=fun e=>by rw [show(a::b::c::d::r).take 2= [a,b]from rfl,(form2 h i).2 e]at q;cases q
  have z:¬ (ok3 a b∧128<=c∧c<=191):=fun e=>by rw [show(a::b::c::d::r).take 3= [a,b,c]from rfl,(form3 h i s).2 e]at v;cases v
  have D:¬ (ok4 a b∧(128<=c∧c<=191)∧128<=d∧d<=191):=fun e=>by rw [show(a::b::c::d::r).take 4= [a,b,c,d]from rfl,(form4 h i s C).2 e]at A;cases A
  simp only [step,qT t,qT u]
  rcases y with rfl | rfl | rfl
  ·have g:=x 2 (by omega) (by omega) (by simp)
   rw [show(a::b::c::d::r).take 2= [a,b]from rfl,beg2 h i]at g
   rw [qT (fun e=>g (.inl e)),qT (fun e=>g (.inr e))]
  ·have g:=x 3 (by omega) (by omega) (by simp)
   rw [show(a::b::c::d::r).take 3= [a,b,c]from rfl,beg3 h i s]at g
   rcases f with f | f
   ·omega
   ·rw [show(a::b::c::d::r).take 2= [a,b]from rfl,beg2 h i]at f
    by_cases l:ok3 a b
    ·rw [xj l,qT (fun e=>z ⟨l,e⟩)]
    ·have w:ok4 a b:=f.resolve_left l
     rw [qT l,xj w,qT (fun e=>g ⟨w,e⟩)]
  ·rcases f with f | f
   ·omega
   ·rw [show(a::b::c::d::r).take 3= [a,b,c]from rfl,beg3 h i s]at f
    have l:¬ok3 a b:=by have:=f.1;unfold ok4 at this;unfold ok3;omega
    rw [qT l,xj f.1,xj f.2,qT (fun e=>D ⟨f.1,f.2,e⟩)]
def decs (bs:List Int):List Int:=
 if h:bs= []then []else(step bs).1::decs (bs.drop (step bs).2)
termination_by bs.length
decreasing_by
 have:=YG bs h;rw [qS];have:0<bs.length:=kD.2 h;omega
theorem jX:decs []= []:=by rw [decs];simp
theorem ZB {bs:List Int} (a:bs≠ []):decs bs=(step bs).1::decs (bs.drop (step bs).2):=by rw [decs,dif_neg a]
theorem ju (bs:List Int):(decs bs).length<=bs.length:=by
 by_cases a:bs= []
 ·subst a;simp [jX]
 ·have c:=YG bs a
  have d:0<bs.length:=kD.2 a;have b:=ju (bs.drop (step bs).2);rw [ZB a];simp only [q9,qS]at b |-;omega
termination_by bs.length
decreasing_by
 rw [qS];omega
theorem numZ_le {bs:List Int} (d:bytes bs) {k:Nat} (a:zT (bs.take k)=true):0<=numZ (bs.take k)∧numZ (bs.take k)<=1114111:=by
 rw [zo]at a;refine⟨a.1,?_⟩;have b:=a.2
 rcases zy (numZ (bs.take k))with c | c | c | c | c | c
 ·rw [yG c]at b
  rw [<- b]at c |-;simp [numZ]
 all_goals omega
def real (z:Int):Prop:=0<=z∧z<=1114111∧(z<55296∨57343<z)
theorem Kl {z:Int} (a:real z):numZ (encZ z)=z:=by
 obtain⟨b,d,e⟩:=a
 rcases zy z with c | c | c | c | c | c
 ·omega
 ·rw [yY c.1 c.2];rfl
 ·rw [yK c.1 c.2];simp only [numZ];omega
 ·rw [zP c.1 (by omega) (.inl c.2)];simp only [numZ];omega
 ·rw [zP (by omega) c.2 (.inr c.1)];simp only [numZ];omega
 ·rw [yB c.1 c.2];simp only [numZ];omega
theorem Km {z:Int} (a:real z):zT (encZ z)=true:=by
 rw [zo,Kl a];exact⟨a.1,rfl⟩
theorem yZ (z:Int):bytes (encZ z):=by
 intro x a
 rcases zy z with c | c | c | c | c | c
 ·rw [yG c]at a;simp at a;omega
 ·rw [yY c.1 c.2]at a;simp at a;omega
 ·rw [yK c.1 c.2]at a;simp at a;omega
 ·rw [zP c.1 (by omega) (.inl c.2)]at a;simp at a;omega
 ·rw [zP (by omega) c.2 (.inr c.1)]at a;simp at a;omega
 ·rw [yB c.1 c.2]at a;simp at a;omega
theorem Xl (zs:List Int):bytes (encs zs):=by
 intro x a;unfold encs at a;obtain⟨z,_,b⟩:=List.mem_flatMap.1 a;exact yZ z x b
theorem take_no {q:List Int} (e:bytes q) (h:zT q=true):∀j,1<=j->j<q.length->zT (q.take j)=false:=by
 intro j p g;rw [Bool.eq_false_iff];intro k
 have n:q.length<=4:=by
  apply Classical.byContradiction;intro r
  rw [zGi (by omega)]at h
  cases h
 match q,g,n,e,h with
 | [a],g,_,_,_=>simp at g;omega
 | [a,b],g,_,e,h=>
  have f:=e a (by simp)
  have i:=e b (by simp)
  obtain rfl:j=1:=by simp at g;omega
  rw [form2 f i]at h
  rw [show [a,b].take 1= [a]from rfl,form1 f.1]at k
  omega
 | [a,b,c],g,_,e,h=>
  have f:=e a (by simp)
  have i:=e b (by simp)
  have l:=e c (by simp)
  rw [form3 f i l]at h
  have m:j=1∨j=2:=by simp at g;omega
  rcases m with rfl | rfl
  ·rw [show [a,b,c].take 1= [a]from rfl,form1 f.1]at k
   omega
  ·rw [show [a,b,c].take 2= [a,b]from rfl,form2 f i]at k
   omega
 | [a,b,c,d],g,_,e,h=>
  have f:=e a (by simp)
  have i:=e b (by simp)
  have l:=e c (by simp)
  have o:=e d (by simp)
  rw [form4 f i l o]at h
  have m:j=1∨j=2∨j=3:=by simp at g;omega
  rcases m with rfl | rfl | rfl
  ·rw [show [a,b,c,d].take 1= [a]from rfl,form1 f.1]at k
   omega
  ·rw [show [a,b,c,d].take 2= [a,b]from rfl,form2 f i]at k
   omega
  ·rw [show [a,b,c,d].take 3= [a,b,c]from rfl,form3 f i l]at k
   omega
theorem decs_enc {z:Int} (a:real z) {r:List Int} (i:bytes r):decs (encZ z++r)=z::decs r:=by
 have b:=yH z
 have c:bytes (encZ z++r):=fun x f=>by
  rcases xv.1 f with q | q
  ·exact yZ z x q
  ·exact i x q
 have ht:(encZ z++r).take (encZ z).length=encZ z:=by simp
 have d:=Kk c b.1 b.2 (by simp) (by rw [ht];exact Km a) (fun j g h=>by
  rw [xW (by omega)]
  exact take_no (yZ z) (Km a) j g h)
 rw [ZB (by intro e;have:=kO List.length e;rw [qM]at this;simp only [xC]at this;omega),d,ht,Kl a]
 simp
theorem Ko:∀ (zs:List Int),(∀z∈zs,real z)->decs (encs zs)=zs
 | [],_=>by unfold encs;rw [List.flatMap_nil,jX]
 | z::zs,a=>by
  have e:encs (z::zs)=encZ z++encs zs:=by unfold encs;rw [kG]
  rw [e,decs_enc (a z List.mem_cons_self) (Xl zs),Ko zs (fun x b=>a x (kn _ b))]
theorem zGj (bs:List Int) (e:bytes bs):real (step bs).1:=by
 have f:real 65533:=by unfold real;omega
 match bs,e with
 | [],_=>exact f
 | [a],e=>
  have g:=e a (by simp)
  simp only [step]
  split
  ·exact⟨g.1,by omega,by omega⟩
  ·exact f
 | [a,b],e=>
  have g:=e a (by simp)
  have h:=e b (by simp)
  simp only [step]
  repeat' split
  all_goals first | exact f | (simp only [numZ,real];omega)
 | [a,b,c],e=>
  have g:=e a (by simp)
  have h:=e b (by simp)
  have i:=e c (by simp)
  simp only [step]
  repeat' split
  all_goals first | exact f | (simp only [numZ,real];(try unfold ok3 at *);(try unfold ok4 at *);omega)
 | a::b::c::d::r,e=>
  have g:=e a (by simp)
  have h:=e b (by simp)
  have i:=e c (by simp)
  have j:=e d (by simp)
  simp only [step]
  repeat' split
  all_goals first | exact f | (simp only [numZ,real];(try unfold ok3 at *);(try unfold ok4 at *);omega)
theorem J5:∀ (n:Nat) (bs:List Int),bs.length<=n->bytes bs->∀z∈decs bs,real z
 | 0,bs,b,_=>by
  obtain rfl:=qU (Nat.le_zero.1 b);rw [jX];simp
 | n+1,bs,b,c=>by
  by_cases a:bs= []
  ·rw [a,jX];simp
  ·rw [ZB a]
   intro z d;have f:=YG bs a
   rcases xR.1 d with q | q
   ·rw [q];exact zGj bs c
   ·exact J5 n _ (by rw [qS];omega) (fun x e=>c x (xX e)) z q
theorem zGk {bs:List Int} (a:bytes bs):decs (encs (decs bs))=decs bs:=Ko _ (J5 _ bs lR a)
theorem decs_pos {bs:List Int} (a:0<bs.length):0<(decs bs).length:=by
 rw [ZB (by intro e;rw [e]at a;simp at a)]
 simp
def strOf (a:List Int):ByteArray:=a.foldl (fun r n=>r.push (UInt8.ofNat n.toNat)) ByteArray.empty
theorem zDr (a:List Int) (s:ByteArray):(a.foldl (fun r n=>r.push (UInt8.ofNat n.toNat)) s).data.toList=s.data.toList++a.map fun n=>UInt8.ofNat n.toNat:=by
 induction a generalizing s with
 | nil=>simp
 | cons n a b=>rw [List.foldl_cons,b];simp [ByteArray.push]
theorem Xm (a:List Int):(strOf a).data.toList=a.map fun n=>UInt8.ofNat n.toNat:=by
 unfold strOf;rw [zDr];rfl
theorem map_inj {xs ys:List Int} (c:bytes xs) (d:bytes ys) (a:(xs.map fun n=>UInt8.ofNat n.toNat)=ys.map fun n=>UInt8.ofNat n.toNat):xs=ys:=by
 induction xs generalizing ys with
 | nil=>cases ys with
  | nil=>rfl
  | cons y ys=>simp at a
 | cons x xs f=>cases ys with
  | nil=>simp at a
  | cons y ys=>
   simp only [vN,List.cons.injEq]at a
   have g:=c x (by simp)
   have h:=d y (by simp)
   have e:x=y:=by
    have:=kO UInt8.toNat a.1;simp at this;omega
   rw [e,f (fun z b=>c z (by simp [b])) (fun z b=>d z (by simp [b])) a.2]
theorem Jm (s:ByteArray):s.toList=s.data.toList:=by
 exact ByteArray.toList_eq s
theorem same_iff {xs ys:List Int} (b:bytes xs) (c:bytes ys):((strOf xs).toList==(strOf ys).toList)=decide (xs=ys):=by
 rw [Jm,Jm,Xm,Xm]
 by_cases a:xs=ys
 ·subst a;simp
 ·rw [decide_eq_false a,beq_eq_false_iff_ne]
  exact fun e=>a (map_inj b c e)
theorem zC5 {w:World} {v:Value} {zs:List Int} (a:Rd .u8 w v zs) (g:0<zs.length):(convert 22 9 v).run Tryz.prog w= .ok (.string (strOf zs)) w:=by
 rcases a with ⟨_,_,_,rfl⟩ | ⟨b,off,cap,rfl,_,h⟩
 ·simp at g
 ·rw [run_convert_bytes_string w 22 9 5 (qK b off) zs.length cap Tryz.underlying22 Tryz.underlying5 Tryz.underlying9]
  refine run_bytesToString w ⟨b,off,none⟩ zs.length cap zs ?_
  have e:=run_loadCells_list (P:=Tryz.prog) (w:=w) ⟨b,off,none⟩ (zs.map (Value.int .u8)) (fun j u d=>by
   rw [zK];simp only [vA,Option.map_eq_some_iff]at d;obtain⟨z,c,rfl⟩:=d
   have f:j<zs.length:=by
    rcases xS j zs.length with a | a
    ·exact a
    ·rw [xQ a]at c;cases c
   rw [h j f,qW,c];rfl)
  simpa using e
theorem zAp (xs ys:List Int) (v u:Value) (w:World) (a:Rd .u8 w v xs) (b:Rd .u8 w u ys) (c:bytes xs) (d:bytes ys) (f:0<xs.length) (g:0<ys.length):
  Calls Tryz.prog 127 #[v,u] w fun e w'=>e= .returned (.bool (decide (xs=ys)))∧w'=w:=by
 have h:=zC5 a f;have i:=zC5 b g;rw [<- same_iff c d];generalize strOf xs=j at *;generalize strOf ys=k at *;clear a b;go_enter Tryz.func127,Tryz.ntmps127;go_wp2;go_ret;exact⟨rfl,rfl⟩
end Go.Proofs.YtljdnoinennfaaaGreatDoor

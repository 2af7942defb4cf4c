import Derived.Lib.ItoaLen
import Derived.Lib.AppendIntMem
import Derived.Deep.CutBlock
import Derived.Deep.DeepCutAuto
import Derived.Laws.AppendOwnNone
import Derived.Deep.AppendLies
import Derived.Maps.OwnIn
import Derived.Shelf.SlSortCmp.QuietGrown
import Derived.BigQuiet
import Derived.StillTailTactics
import Derived.Test.YtacmdegboldnlaaGreatDoorMq02
import Derived.Test.YtacmdegboldnlaaGreatDoorMq03
import Derived.Test.YtacmdegboldnlaaGreatDoorMq04
set_option linter.all false
set_option maxRecDepth 100000
set_option maxHeartbeats 8000000
namespace Go.Proofs.YtacmdegboldnlaaGreatDoor
open Go Go.RowKit Go.Proofs.Tryz
open _root_.Array renaming size→N
open Bool renaming false→VP,true→VR
open Go renaming Calls→VM,maxLen→VL
open List renaming length→L,replicate→VH
open Option renaming some→O
open _root_.Go.Value renaming ownBlock→VD
open _root_.Go.World renaming cell?→VE,heap→Y
def Rd(h:IntKind)(i:V8)(f:Jo)(a:qa0):Prop:=
 (∃g b,f= .slice g 0 b/\a= [])\/
 (∃d e b,f= .slice (qQ d e) (L a) b/\(0<L a/\L a<=b/\b<=VL)/\∀c<L a,VE i (V4 d (e+c))=O (.int h (a.getD c 0)))
def zQ(a:IntKind)(b:qa0):Ki:=b.map (Value.int a)
theorem Rd.I{k w w' v zs}(a:Rd k w v zs)(e:qa3 w w'):Rd k w' v zs:=by
 obtain a|⟨f,g,h,i,j,l⟩:=a
 ·exact .inl a
 refine .inr ⟨f,g,h,i,j,λc d=>?_⟩;have b:=l c d;rw[e.U (kR w _ b)];exact b
def Rd.cells{k w w' v zs}(a:Rd k w v zs)(d:w'.heap=w.heap):Rd k w' v zs:=by
 obtain a|⟨e,f,g,h,i,j⟩:=a
 ·exact .inl a
 exact .inr ⟨e,f,g,h,i,λb c=>by rw[vO (w:=w) (by rw[d])];exact j b c⟩
def Rd.qe{k w base e v n zs}(a:w.ownsRow base e 1 v n (zQ k zs)):Rd k w v zs:=by
 have c:=by have:=a.1;simpa[zQ]using this
 obtain⟨b,m⟩|⟨h,i,o,b,j⟩:=a.2
 ·left;simp_all
 obtain⟨_,_,p,l,_⟩:=j;subst b;by_cases d:n=0
 ·left;subst d;simp_all
 right;refine⟨h,0,i,by rw[c],⟨VC,VC,l⟩,λf g=>?_⟩;rw[vg,a.cellAt f VC];simp[zQ,xI g]
def zD{c w':V8}{base e size v n xs}(d:c.ownsRow base e size v n xs)
  (h:∀a,VD v=O a->w'.heap[a]? =c.heap[a]?):w'.ownsRow base e size v n xs:=by
 refine⟨d.1,?_⟩;obtain b|⟨f,i,j,g,k,b,l⟩:=d.2
 ·exact .inl b
 exact .inr ⟨f,i,j,g,k,by rw[h f (by rw[g];rfl)];exact b,l⟩
def zE{w w' base B e size v n xs}(b:w.ownsRow base e size v n xs)
  (d:Below B w w') (f:N (Y w)<=B):w'.ownsRow base e size v n xs:=
 zD b λa c=>d.block a (by have:=(b.lt a c).2;omega)
theorem zF{b:V8}{base base' e size v n xs}(c:b.ownsRow base e size v n xs)(i:base'<=base):b.ownsRow base' e size v n xs:=by
 refine⟨c.1,?_⟩;obtain a|⟨d,f,g,h,j,a⟩:=c.2
 ·exact .inl a
 exact .inr ⟨d,f,g,h,VC,a⟩
def Kv{a:qa0}{k}(d:k<L a):(a.take k++VH (L a-k) 0).set k (a.getD k 0)=a.take (k+1)++VH (L a-(k+1)) 0:=by
 apply List.ext_getElem
 ·simp;omega
 intro b e f;simp only[List.getElem_set,List.getElem_append,xO,List.getElem_take,List.getElem_replicate];by_cases c:k=b
 ·subst c
  simp[d];intro g;omega
 simp only[xK c];by_cases h:b<k
 ·rw[dif_pos VC,dif_pos VC]
 rw[dif_neg VC,dif_neg VC]
def E6(k)(zs)(j)(z):(zQ k zs).set j (.int k z)=zQ k (zs.set j z):=by
 simp[zQ]
def zC{p}(a:p):Hid p:=a
def jN{k}{a:V8}{base g cap e n zs}(b:a.ownsRow base e 1 (VZ (qQ g 0) n cap) n (zQ k zs))(j)(d:j<n):VE a (V4 g j)=O (.int k (zs.getD j 0)):=by
 have c:=by have:=b.1;simpa[zQ]using this
 rw[b.cellAt j VC];simp[zQ,xI (show j<L zs by omega)]
def Pk(k)(n):(madeCells (Value.int k 0).cells (n*1)).toList=zQ k (VH n 0):=by
 have a:(Value.int k 0).cells= #[Value.int k 0]:=rfl;rw[a,toList_madeCells_one];simp[zQ]
def yW(a:V8)(row):a.grownBy a row:=⟨rfl,rfl,rfl,lR,λ_ _ _=>rfl⟩
def zJ{f g h:V8}{row}(a:f.grownBy g row)(b:g.grownBy h row):f.grownBy h row:=
 ⟨b.os.R a.os,b.tape.R a.tape,b.output.R a.output,ku a.size b.size,λc d e=>(b.block c (vh d a.size) e).R (a.block c d e)⟩
def marks(b:IntKind)(c:Int)(d:Nat):qa0:=(List.range d).map λa:Nat=>b.wrap (c+a)
def yp(k)(k0)(n):L (marks k k0 n)=n:=by simp[marks]
def GX{k k0 n i}(a:i<n):(marks k k0 n).getD i 0=k.wrap (k0+i):=by
 simp[marks,a]
def Pm{k k0 j}{a:qa0}(b:j<L a):(marks k k0 j++a.drop j).set j (k.wrap (k0+j))=marks k k0 (j+1)++a.drop (j+1):=by
 rw[kE _ _ (by simp[marks])];rw[yp,Qj,ko b,Vn];simp[marks,VB]
def za(a:V8)(t)(c:Ki):∀b d,c[b]?=O d->VE (a.alloc (V6 c.toArray t)) (((V4 (N (Y a)) 0):Addr).add b)=O d:=by
 intro b d g
 have e:(a.alloc (V6 c.toArray t)).heap[N (Y a)]?=O (V6 c.toArray t (0,0)):=by
  show(a.heap.push _)[N (Y a)]? =_
  simp
 have f:(((V4 (N (Y a)) 0):Addr).add b)=(V4 (N (Y a)) b):=by
  simp only[Addr.add,vg];split
  ·subst_vars;rfl
  rfl
 rw[f,xH _ _ b _ t _ e];simpa using g
theorem Rd.of_row{k w x len cap}{b:qa0}(f:∀a<L b,VE w (x.add a)=O (.int k (b.getD a 0)))(o:len<=L b)(p:len<=cap)(m:cap<=VL):Rd k w (VZ (O x) len cap) (b.take len):=by
 have g:L (b.take len)=len:=by rw[xO];omega
 by_cases l:len=0
 ·subst l;exact .inl ⟨_,_,rfl,VT⟩
 obtain⟨c,d,q⟩:=x;have h:=f 0 VC;have i:=by simpa[Addr.add]using World.cell?_spot h
 subst i;refine .inr ⟨c,d,cap,by rw[g],⟨VC,VC,m⟩,λa n=>?_⟩;have e:=f a VC
 have j:(((V4 c d):Addr).add a)=(V4 c (d+a)):=by
  simp only[Addr.add];split
  ·subst_vars;rfl
  rfl
 rw[j]at e;rw[e]
 have:(b.take len).getD a 0=b.getD a 0:=by
  rw[vv,vv,kN,xU VC]
 rw[this]
def jG(k)(a b):zQ k (a++b)=zQ k a++zQ k b:=by simp[zQ]
def zc(k)(a):L (zQ k a)=L a:=by simp[zQ]
def zn(k)(a):∀b∈zQ k a,b.oneCell'=VR:=by
 intro b c;simp only[zQ,Vf]at c;obtain⟨d,_,rfl⟩:=c;rfl
theorem zR(b off i):(((V4 b off):Addr).add i)=(V4 b (off+i)):=by
 simp only[Addr.add];split
 ·subst_vars;rfl
 rfl
def YT{k}{h:V8}{b off o l}{d:qa0}(j:∀f<L d,VE h (V4 b (off+f))=O (.int k (d.getD f 0))):
  ∀a e,(zQ k ((d.drop o).take l))[a]?=O e->VE h (((V4 b (off+o)):Addr).add a)=O e:=by
 intro a e c;rw[zR];simp only[zQ,vZ,Option.map_eq_some_iff,kN,kO]at c;obtain⟨m,g,rfl⟩:=c
 split at g
 ·have i:o+a<L d:=by
   obtain c|c:=kC (o+a) (L d)
   ·exact c
   simp_all
  rw[QU,j _ i,vv,g];rfl
 cases g
def Tryz.info8:(prog.info? 5).map (λa=>(a.zero,a.size,a.bytes))=O (O (.int .u8 0),1,1):=VU
def K8(e f:V8):Prop:=∀(b:Nat)(c)(a)(d),a≠5->e.heap[b]?=O (V6 c a d)->f.heap[b]?=O (V6 c a d)
abbrev Mk:=Int×Int×Int
def bef(a b:Mk):Bool:=decide (a.2.1<b.2.1\/(a.2.1=b.2.1/\a.1<b.1))
def Xe(a:Mk):Bool:=decide (-1000000000<=a.1/\a.1<=1000000000)&&decide (0<=a.2.2/\a.2.2<=1)
def Ts(a:Mk):Bool:=decide (0<=a.2.1/\a.2.1<=8192)
def yF(b:List Mk)(c:Int):Bool:=b.any λa=>decide (a.1=c)
def late(a:List Mk)(b:Mk):Bool:=match a.getLast? with
 | none=>VP
 | some c=> !bef c b
def Vd(a:List Mk):Prop:=L a<=128/\(∀x∈a,Xe x=VR/\Ts x=VR)/\a.Pairwise λb c=>bef b c=VR/\b.1≠c.1
def Zz(a b):bef a b=VR↔(a.2.1<b.2.1\/(a.2.1=b.2.1/\a.1<b.1)):=by simp[bef]
def Jp{a b c}(d:bef a b=VR)(e:bef b c=VR):bef a c=VR:=by rw[Zz]at *;omega
def E8(a):bef a a=VP:=by simp[bef]
def Pn{a b}(c:bef a b=VR):bef b a=VP:=by
 cases h2:bef b a with
 | false=>rfl
 | true=>rw[Zz]at *;omega
def Po{a b}(e:a.1≠b.1)(c:bef a b=VP):bef b a=VR:=by
 have d:¬ (a.2.1<b.2.1\/(a.2.1=b.2.1/\a.1<b.1)):=by rw[<- Zz,c];simp
 rw[Zz];omega
def Kw(xs)(i):yF xs i=VR↔∃x∈xs,x.1=i:=by simp[yF]
theorem ZI(xs)(i):yF xs i=VP↔∀a∈xs,a.1≠i:=by
 rw[<- Bool.not_eq_true,Kw];exact⟨λb a c d=>b ⟨a,c,d⟩,λb⟨a,c,d⟩=>b a c d⟩
def Vd.nil:Vd []:=⟨VT,VT,List.Pairwise.nil⟩
def Vd.snoc_get{a:List Mk}{k m}(b:a[k]?=O m):a.take (k+1)=a.take k++ [m]:=by
 rw[Qa,b];rfl
def Dd{e c:List Mk}(i:e.Perm c)(s:e.Pairwise λa b=>bef b a=VP)(t:c.Pairwise λa b=>bef b a=VP)(j:c.Pairwise λa b=>a.1≠b.1):e=c:=by
 refine List.Perm.eq_of_pairwise (λa b p q h r=>?_) s t i;have m:=i.subset p;by_cases o:a=b
 ·exact o
 have n:a.1≠b.1:=by
  obtain⟨f,k,u⟩:=QE m;obtain⟨g,l,v⟩:=QE q;subst u v;obtain d|d|d:=QN f g
  ·exact QJ.1 j f g k l d
  ·simp_all
  exact(QJ.1 j g f l k d).J
 rw[Po n r]at h;cases h
def yG(a:List Mk):Nat->Nat
 | 0=>0
 | b+1=>if bef (a.getD b (0,0,0)) (a.getD (yG a b) (0,0,0))=VR then b else yG a b
def JY(xs)(a)(c:a<=L xs)(b:0<L xs):yG xs a<L xs:=by
 induction a with
 | zero=>exact b
 | succ a d=>unfold yG;split<;>omega
def MB(c:List Mk)(b):∀a<b,bef (c.getD a (0,0,0)) (c.getD (yG c b) (0,0,0))=VP:=by
 induction b with
 | zero=>intro a h;omega
 | succ b g=>
  intro a h;unfold yG
  split
  ·rename_i e
   by_cases f:a=b
   ·subst f;exact E8 _
   have d:=g a VC;cases h2:bef _ _ with
   | false=>rfl
   | true=>rw[Jp h2 e]at d;cases d
  rename_i e;by_cases f:a=b
  ·simp_all
  exact g a VC
def Ip:Nat->List Mk->List Mk
 | 0,_=>[]
 | b+1,a=>if a= []then []else a.getD (yG a (L a)) (0,0,0)::Ip b (a.eraseIdx (yG a (L a)))
def Df(b):∀a:List Mk,L a<=b->(Ip b a).Perm a:=by
 induction b with
 | zero=>intro a i;obtain rfl:a= []:=xR VC;rfl
 | succ b j=>
  intro a i;unfold Ip
  split
  ·rename_i d;rw[d]
  rename_i d;have e:0<L a:=by obtain _|⟨k,l⟩:=a<;>simp_all
  have c:=JY a _ lR e;have f:L (a.eraseIdx (yG a (L a)))<=b:=(by rw[QM,xU c];omega);refine(List.Perm.cons _ (j _ f)).R ?_;have g:a.getD (yG a (L a)) (0,0,0)=a[yG a _]:=(by simp[vv,c]);rw[g];rw[Vi]
  have h:a=a.take (yG a (L a))++a[yG a _]::a.drop (yG a (L a)+1):=by
   rw[<- ko c,vK]
  exact(List.perm_middle).J.R (by rw[<- h])
def GY(b):∀a:List Mk,L a<=b->(Ip b a).Pairwise λe c=>bef c e=VP:=by
 induction b with
 | zero=>intro a i;exact List.Pairwise.nil
 | succ b m=>
  intro a i;unfold Ip
  split
  ·simp
  rename_i n;have f:0<L a:=by obtain _|⟨e,c⟩:=a<;>simp_all
  have g:=JY a _ lR f;have d:L (a.eraseIdx (yG a (L a)))<=b:=(by rw[QM,xU g];omega);refine List.pairwise_cons.2 ⟨λc j=>?_,m _ d⟩;have h:=List.mem_of_mem_eraseIdx ((Df b _ d).subset j);obtain⟨k,l,rfl⟩:=QE h;have:=MB a _ k l
  simp_all
def Z0(a:List Mk):List Mk:=Ip (L a) a
def Zh(xs):(Z0 xs).Perm xs:=Df _ xs lR
def Ea(xs):(Z0 xs).Pairwise λa b=>bef b a=VP:=GY _ xs lR
def Dg{xs ys}(d:ys.Perm xs)(e:ys.Pairwise λa b=>bef b a=VP)(f:xs.Pairwise λa b=>a.1≠b.1):ys=Z0 xs:=by
 refine Dd (d.R (Zh xs).J) e (Ea xs) ?_;exact f.perm (Zh xs).J (λc=>Ne.J c)
def Xf(xs):L (Z0 xs)=L xs:=(Zh xs).length_eq
def Iq{xs m k}(i:Vd xs)(s:yF xs m.1=VP)(v:k<=L xs)(t:∀b e,b<k->xs[b]?=O e->bef e m=VR)(u:∀b e,k<=b->xs[b]?=O e->bef e m=VP):
  xs.take k++m::xs.drop k=Z0 (xs++ [m]):=by
 have l:=(ZI _ _).1 s
 have n:(xs++ [m]).Pairwise λc d=>c.1≠d.1:=by
  rw[Vg];exact⟨i.2.2.imp λh=>h.2,List.pairwise_singleton _ _,λc f d a=>by simp at a;subst a;exact l c f⟩
 refine Dg ?_ ?_ n
 ·refine(List.perm_middle).R ?_
  rw[vK];exact(List.perm_append_comm (l₁:=[m]))
 rw[Vg,List.pairwise_cons];have g:=i.2.2.imp λh=>Pn h.1
 have o:∀d∈xs.drop k,bef d m=VP:=λd a=>by
  obtain⟨b,j,rfl⟩:=QE a;rw[List.getElem_drop];exact u (k+b) _ VC VT
 have p:∀c∈xs.take k,bef c m=VR:=λc f=>by
  obtain⟨b,j,rfl⟩:=QE f;rw[List.getElem_take];rw[xO]at j;exact t b _ VC VT
 refine⟨g.take,⟨λd a=>o d a,g.drop⟩,λc f d a=>?_⟩;simp at a;obtain rfl|a:=a
 ·exact Pn (p c f)
 have q:=vK k xs;have r:=g;rw[<- q,Vg]at r
 simp_all
def Xy(b:List UInt8):qa0:=b.map λa=>a.toNat
theorem yX(l):L (Xy l)=L l:=by simp[Xy]
def Tt(b:V8)(c:Nat)(d:Jo)(a:qa0):Prop:=b.ownsRow c 5 1 d (L a) (zQ .u8 a)
def Tt.rd{w base v zs}(a:Tt w base v zs):Rd .u8 w v zs:=Rd.qe a
def Eb{w base v zs}(c:Tt w base v zs):∃b a,v= .slice b (L zs) a:=by
 obtain⟨rfl,d⟩|⟨e,a,f,g,_⟩:=c.2
 ·simp_all
 simp_all
def ZJ(a:Int):qa0:=
 if a<0\/1114111<a\/(55296<=a/\a<=57343)then [239,191,189]
 else if a<128 then [a]
 else if a<2048 then [192+a/64,128+a%64]
 else if a<65536 then [224+a/4096,128+a/64%64,128+a%64]
 else [240+a/262144,128+a/4096%64,128+a/64%64,128+a%64]
def Zi{r}(a:r<0\/1114111<r\/(55296<=r/\r<=57343)):ZJ r= [239,191,189]:=by
 unfold ZJ;rw[xU a]
def Zj{r}(b:0<=r)(a:r<128):ZJ r= [r]:=by
 unfold ZJ;rw[xK VC,xU a]
def ZK{r}(b:128<=r)(a:r<2048):ZJ r= [192+r/64,128+r%64]:=by
 unfold ZJ;rw[xK VC,xK VC,xU a]
def yH{r}(b:2048<=r)(a:r<65536)(c:r<55296\/57343<r):ZJ r= [224+r/4096,128+r/64%64,128+r%64]:=by
 unfold ZJ;rw[xK VC,xK VC,xK VC,xU a]
def jw{r}(a:65536<=r)(b:r<=1114111):ZJ r= [240+r/262144,128+r/4096%64,128+r/64%64,128+r%64]:=by
 unfold ZJ;rw[xK VC,xK VC,xK VC,xK VC]
def jH(a:Int):(a<0\/1114111<a\/(55296<=a/\a<=57343))\/(0<=a/\a<128)\/(128<=a/\a<2048)\/(2048<=a/\a<55296)\/(57343<a/\a<65536)\/(65536<=a/\a<=1114111):=VC
def ZM(r):1<=L (ZJ r)/\L (ZJ r)<=4:=by
 obtain a|a|a|a|a|a:=jH r
 ·rw[Zi a];simp
 ·rw[Zj a.1 a.2];simp
 ·rw[ZK a.1 a.2];simp
 ·rw[yH a.1 VC (.inl a.2)];simp
 ·rw[yH VC a.2 (.inr a.1)];simp
 rw[jw a.1 a.2];simp
def Ty(a:qa0):qa0:=a.flatMap ZJ
def YR(a:Mk):Ki:=[qP a.1,qP a.2.1,qP a.2.2]
def jF(a:Mk):Jo:=.agg #[qP a.1,qP a.2.1,qP a.2.2]
def z8(a:List Mk):Ki:=a.flatMap YR
def zO(a):L (z8 a)=L a*3:=by
 induction a with
 | nil=>rfl
 | cons c a b=>simp only[z8,Qv,xL]at b |-;rw[b];simp[YR];omega
def jc(a b):z8 (a++b)=z8 a++z8 b:=by simp[z8]
def zx(xs)(a k)(x)(b:xs[a]?=O x)(d:k<3):(z8 xs)[a*3+k]? =(YR x)[k]?:=by
 induction xs generalizing a with
 | nil=>simp at b
 | cons e f c=>
  cases a with
  | zero=>
   simp at b;subst b;simp only[z8,Qv,QV,vg];rw[vN (by simp[YR];omega)]
  | succ a=>
   simp at b;have:=c a b;simp only[z8,Qv]at this |-;rw[xQ (by simp[YR];omega)];rw[<- this]
   congr 1
   simp[YR];omega
def zq(xs):∀b∈z8 xs,b.oneCell'=VR:=by
 intro b c;simp only[z8,YR,List.mem_flatMap,vC,QB,Vz]at c;obtain⟨d,_,a | a | a⟩:=c<;>subst a<;>rfl
def Tz(a)(y x)(b):(((z8 (a++y::b)).set (L a*3) (qP x.1)).set (L a*3+1) (qP x.2.1)).set (L a*3+2) (qP x.2.2)=z8 (a++x::b):=by
 have d:∀c:Mk,z8 (a++c::b)=z8 a++([qP c.1,qP c.2.1,qP c.2.2]++z8 b):=λc=>by simp[z8,YR]
 have e:=zO a;rw[d,d];rw[kE _ _ VC,kE _ _ VC,kE _ _ VC,e];rw[Qj,show L a*3+1-L a*3=1 by omega,show L a*3+2-L a*3=2 by omega];rfl
def MG(a)(d:Mk)(c)(b):(z8 (a++d::b)).set (L a*3+1) (qP c)=z8 (a++(d.1,c,d.2.2)::b):=by
 have e:∀c:Mk,z8 (a++c::b)=z8 a++([qP c.1,qP c.2.1,qP c.2.2]++z8 b):=λc=>by simp[z8,YR]
 have f:=zO a;rw[e,e,kE _ _ VC,f,show L a*3+1-L a*3=1 by omega];rfl
def Ec(a:V8)(b c:Nat)(d:Mk):Prop:=
 VE a (V4 b c)=O (qP d.1)/\VE a (V4 b (c+1))=O (qP d.2.1)/\VE a (V4 b (c+2))=O (qP d.2.2)
def JM(i:Nat)(j:V8)(g:Jo)(b:List Mk):Prop:=
 (∃h a,g= .slice h 0 a/\b= [])\/
 (∃c d a,g= .slice (qQ c d) (L b) a/\(0<L b/\L b<=a/\a<=VL)/\c<i/\∀e f,b[e]?=O f->Ec j c (d+e*3) f)
theorem JM.I{B B' w w' v xs}(b:JM B w v xs)(h:Below B' w w')(o:B<=B'):JM B w' v xs:=by
 obtain b|⟨c,i,j,k,l,m,n⟩:=b
 ·exact .inl b
 refine .inr ⟨c,i,j,k,l,m,λd e f=>?_⟩;have a:=λg=>h.U (p:=(V4 c g)) (by show c<B';omega)
 have:=n d e f;unfold Ec at this |-;rw[a,a,a];exact this
def JM.heap{B w w' v xs}(b:JM B w v xs)(h:w'.heap=w.heap):JM B w' v xs:=by
 obtain b|⟨d,i,j,k,l,m,n⟩:=b
 ·exact .inl b
 refine .inr ⟨d,i,j,k,l,m,λe f g=>?_⟩;have a:∀c,w'.cell? _=VE w (V4 d c):=λc=>vO (by rw[h])
 have:=n e f g;unfold Ec at this |-;rw[a,a,a];exact this
def JM.G{B B' w v xs}(a:JM B w v xs)(h:B<=B'):JM B' w v xs:=by
 obtain a|⟨b,c,d,e,f,i,g⟩:=a
 ·exact .inl a
 exact .inr ⟨b,c,d,e,f,VC,g⟩
theorem JM.val{B w v xs}(c:JM B w v xs):∃b a,v= .slice b (L xs) a:=by
 obtain⟨b,a,rfl,rfl⟩|⟨d,e,a,rfl,_⟩:=c
 ·simp
 simp
def JM.at{B w v xs}(c:JM B w v xs)(g:xs≠ []):∃b d a,v= .slice (qQ b d) (L xs) a/\(0<L xs/\L xs<=a/\a<=VL)/\b<B/\∀e f,xs[e]?=O f->Ec w b (d+e*3) f:=by
 obtain⟨h,a,rfl,rfl⟩|c:=c
 ·exact absurd rfl g
 exact c
def zW(b:V8)(c:Nat)(d:Jo)(a:List Mk):Prop:=b.ownsRow c 168 3 d (L a) (z8 a)
def zW.rd{w base v xs}(e:zW w base v xs):JM (N (Y w)) w v xs:=by
 unfold zW at e;have h:=e.lt;obtain⟨g,z⟩|⟨c,p,A,g,r⟩:=e.2
 ·left;simp_all
 obtain⟨B,s,t,u,C,x⟩:=r;subst g;have i:=(h c rfl).2;by_cases m:L xs=0
 ·left;rw[m];simp_all
 right;refine⟨c,0,p,rfl,⟨VC,t,u⟩,i,λb f n=>?_⟩
 have y:b<L xs:=by
  obtain q|q:=kC b (L xs)
  ·exact q
  simp_all
 have d:∀a<3,VE w (V4 c (b*3+a))=(YR f)[a]?:=λa o=>by
  rw[xH w c _ _ _ _ s,<- zx xs b a f n o,<- x,kN,xU VC];simp
 have j:=d 0 VC;have k:=d 1 VC;have l:=d 2 VC;simp;exact⟨j,k,l⟩
theorem zW.I{w w' base B v xs}(a:zW w base v xs)(b:Below B w w')(c:N (Y w)<=B):zW w' base v xs:=zE a b c
theorem zW.base{w base base' v xs}(a:zW w base v xs)(b:base'<=base):zW w base' v xs:=zF a b
def zW.shape{w base v xs}(d:zW w base v xs):(v= .slice none 0 0/\xs= [])\/∃a b,v= .slice (qQ a 0) (L xs) b/\L xs<=b/\b<=VL/\base<=a/\a<N (Y w):=by
 obtain⟨c,e⟩|⟨a,b,h,c,e,i,f,g,_⟩:=d.2
 ·simp_all
 exact .inr ⟨a,b,c,f,g,e,(d.lt a (by rw[c];rfl)).2⟩
def zW.cells{w base g cap xs}(e:zW w base (VZ (qQ g 0) (L xs) cap) xs):∀a b,(z8 xs)[a]?=O b->VE w (((V4 g 0):Addr).add a)=O b:=by
 intro a b c;have d:=e.cellAt a (by have:=(xS.1 c).1;rw[zO]at this;omega);rw[Addr.add_lit,vg,d,c]
theorem zW.val{w base v xs}(c:zW w base v xs):∃a b,v= .slice a (L xs) b:=c.rd.val
def Z6{w b off}{c:List Mk}(e:∀d a,c[d]?=O a->Ec w b (off+d*3) a){j}(f:j<L c):∃a,c[j]?=O a/\Ec w b (off+j*3) a:=
 ⟨c[j],VT,e j _ VT⟩
def Jq{a:V8}{base g cap n e xs}(b:a.ownsRow base e 3 (VZ (qQ g 0) n cap) n xs)(j)(d:j<n*3):∃c,VE a (V4 g j)=O c:=by
 have f:=b.cellAt j d;have h:=b.1;refine⟨xs[j]'VC,?_⟩
 simp_all
def Xz{c:V8}{base e size v n xs}(d:c.ownsRow base e size v n xs):∀a,VD v=O a->base<=a:=λa b=>(d.lt a b).1
def KE{d:V8}{base e size v n xs}(f:d.ownsRow base e size v n xs):∃b c a,v= .slice b c a:=by
 obtain⟨rfl,_⟩|⟨g,a,h,rfl,_⟩:=f.2
 ·simp
 simp
def Tryz.qt:(prog.info? 168).map (λa=>(a.zero,a.size,a.bytes))=O (O (.agg #[qP 0,qP 0,qP 0]),3,24):=VU
def GU(b:Int)(c:Nat):List Mk:=(List.range c).map λa:Nat=>(b+3*a,b+3*a+1,b+3*a+1+1)
def jx(k0)(n):L (GU k0 n)=n:=by simp[GU]
def mmk_get{k0 n i}(a:i<n):(GU k0 n)[i]?=O (k0+3*i,k0+3*i+1,k0+3*i+1+1):=by simp[GU,a]
def mmk_set{k0 j}{a:List Mk}(c:j<L a):(((z8 (GU k0 j++a.drop j)).set (j*3) (qP (k0+3*j))).set (j*3+1) (qP (k0+3*j+1))).set (j*3+2) (qP (k0+3*j+1+1))=z8 (GU k0 (j+1)++a.drop (j+1)):=by
 rw[ko c];have b:=Tz (GU k0 j) a[j] (k0+3*j,k0+3*j+1,k0+3*j+1+1) (a.drop (j+1));rw[jx]at b;simp only at b;rw[b]
 congr 1
 simp[GU,VB]
structure Ob where
 c:Int
 x:Int
 y:Int
 t:qa0
 m:List Mk
 l:Int
 n:Int
 u:Int
 r:Int
 o:Int
def zBm(a:Ob):Nat:=L a.t+L a.m
def ZT(a:List Ob):Nat:=L a+(a.map zBm).sum
def Jr(a)(bs):ZT (a::bs)=1+zBm a+ZT bs:=by simp[ZT];omega
def Pp(b)(a):ZT (b.take a)<=ZT b:=by
 induction b generalizing a with
 | nil=>simp
 | cons d b c=>
  cases a with
  | zero=>simp[ZT]
  | succ a=>rw[vQ,Jr,Jr];have:=c a;omega
def JZ{c:List Ob}{a b}(d:c[a]?=O b):ZT (c.take (a+1))=ZT (c.take a)+1+zBm b:=by
 induction c generalizing a with
 | nil=>simp at d
 | cons f c e=>
  cases a with
  | zero=>simp at d;subst d;simp[ZT]
  | succ a=>
   simp at d;rw[vQ,vQ,Jr,Jr,e d];omega
def Js{α:Type}{a:List α}{k x}(b:a[k]?=O x):a.take (k+1)=a.take k++ [x]:=by
 rw[Qa,b];rfl
def GV(a:Ob)(b c:Jo):Ki:=[qP a.c,qP a.x,qP a.y,b,c,qP a.l,qP a.n,qP a.u,qP a.r,qP a.o]
def Ua(b:V8)(f g:Nat)(a:Ob):Prop:=
 ∃d e,(∀c<10,VE b (V4 f (g+c))=(GV a d e)[c]?)/\Rd .i32 b d a.t/\JM (N (Y b)) b e a.m/\L a.t<=VL/\L a.m<=VL
def Ua.lt{w b o x}(a:Ua w b o x):b<N (Y w):=by
 obtain⟨d,e,c,_⟩:=a;exact kR w _ (c 0 VC)
theorem Ua.I{w w' b o x}(c:Ua w b o x)(a:qa3 w w'):Ua w' b o x:=by
 have d:=c.lt;obtain⟨g,h,i,ht,j,k,l⟩:=c;exact⟨g,h,λe f=>(a.U d).R (i e f),ht.I a,(j.I a lR).G a.size,k,l⟩
def RA(i:V8)(g:Jo)(b:List Ob):Prop:=
 (∃h a,g= .slice h 0 a/\b= [])\/
 (∃c d a,g= .slice (qQ c d) (L b) a/\(0<L b/\L b<=a/\a<=VL)/\∀e f,b[e]?=O f->Ua i c (d+e*10) f)
theorem RA.I{w w' v xs}(a:RA w v xs)(e:qa3 w w'):RA w' v xs:=by
 obtain a|⟨f,g,h,i,j,k⟩:=a
 ·exact .inl a
 exact .inr ⟨f,g,h,i,j,λb c d=>(k b c d).I e⟩
theorem RA.val{w v xs}(c:RA w v xs):∃b a,v= .slice b (L xs) a:=by
 obtain⟨b,a,rfl,rfl⟩|⟨d,e,a,rfl,_⟩:=c
 ·simp
 simp
def RA.at{w v xs}(e:RA w v xs){k x}(d:xs[k]?=O x):∃b c a,v= .slice (qQ b c) (L xs) a/\(L xs<=a/\a<=VL)/\Ua w b (c+k*10) x:=by
 obtain⟨i,a,rfl,rfl⟩|⟨b,c,a,f,g,h⟩:=e
 ·simp at d
 exact⟨b,c,a,f,g.2,h k x d⟩
def MH{a:V8}{b:Nat}{o o'}(c:a.heap[b]?=O o):(a.alloc o').heap[b]?=O o:=(kX _ _ _ (xG.1 c).1).R c
def DX(a:V8)(b:Nat)(c:Ki)(d:TypeId):Prop:=a.heap[b]?=O (V6 c.toArray d (0,0))
section
variable {w w':World} {b i:Nat} {vs:List Value} {v:Value} {t:TypeId}
def DX.lt(a:DX w b vs t):b<N (Y w):=(xG.1 a).1
theorem DX.U(a:DX w b vs t)(c:vs[i]?=O v):VE w (V4 b i)=O v:=by
 rw[xH w b i _ _ _ a];simpa using c
def DX.fz(a:DX w b vs t)(i):w.frozen? (V4 b i)=VP:=xW w b i _ _ a
theorem DX.I(a:DX w b vs t)(c:qa3 w w'):DX w' b vs t:=(c.block b a.lt).R a
theorem DX.set(a:DX w b vs t)(i)(v):DX (w.setCell (V4 b i) v) b (vs.set i v) t:=by
 unfold DX;rw[vf w b i _ _ _ a];simp
def DX.other{p u}(a:DX w b vs t)(c:b≠p.block):DX (w.setCell p u) b vs t:=(xM _ _ _ _ c).R a
theorem DX.new(a:V8)(vs)(t):DX (a.alloc (V6 vs.toArray t)) (N (Y a)) vs t:=xJ _ _
def DX.old(a:DX w b vs t)(o):DX (w.alloc o) b vs t:=MH a
end
def Ua.cells{w a o x}(j:Ua w a o x):∃c d,(VE w (V4 a o)=O (qP x.c)/\VE w (V4 a (o+1))=O (qP x.x)/\VE w (V4 a (o+2))=O (qP x.y)/\VE w (V4 a (o+3))=O c/\VE w (V4 a (o+4))=O d/\VE w (V4 a (o+5))=O (qP x.l)/\VE w (V4 a (o+6))=O (qP x.n)/\VE w (V4 a (o+7))=O (qP x.u)/\VE w (V4 a (o+8))=O (qP x.r)/\VE w (V4 a (o+9))=O (qP x.o))/\(∃f g,c= .slice f (L x.t) g)/\(∃h i,d= .slice h (L x.m) i)/\Rd .i32 w c x.t/\JM (N (Y w)) w d x.m/\L x.t<=VL/\L x.m<=VL:=by
 obtain⟨c,d,b,ht,e,k,l⟩:=j;refine⟨c,d,⟨b 0 VC,b 1 VC,b 2 VC,b 3 VC,b 4 VC,b 5 VC,b 6 VC,b 7 VC,b 8 VC,b 9 VC⟩,?_,e.val,ht,e,k,l⟩;obtain⟨n,m,rfl,p⟩|⟨a,q,m,rfl,_⟩:=ht
 ·simp_all
 simp
def belO(b:Nat)(c:Jo):Prop:=∀a,VD c=O a->a<b
structure yI(e:TypeId)(size:Nat)(w:V8)(lo hi:Nat)(vs:Ki)(cs:List (Ki))(a:List Nat):Prop where
 len:L vs=L cs
 len2:L vs=L a
 own:∀(i:Nat)v c n,vs[i]?=O v->cs[i]?=O c->a[i]?=O n->w.ownsRow lo e size v n c
 bl:∀v∈vs,belO hi v
 ne:∀(i j:Nat)u v q,i≠j->vs[i]?=O u->vs[j]?=O v->VD u=O q->VD v≠O q
section
variable {e:TypeId} {size:Nat} {w w':World} {lo hi hi':Nat} {vs:List Value} {cs:List (List Value)} {ns:List Nat} {v:Value} {c:List Value} {n:Nat}
def yI.nil:yI e size w lo hi [] [] []:=⟨rfl,rfl,λb v c n a=>by simp at a,λv a=>by simp at a,λb d f v g _ a=>by simp at a⟩
def yI.frame(b:yI e size w lo hi vs cs ns)(j:∀a,lo<=a->a<hi->w'.heap[a]? =w.heap[a]?):yI e size w' lo hi vs cs ns:=
 ⟨b.len,b.len2,λf v c n d g h=>zD (b.own f v c n d g h) (λa i=>j a ((b.own f v c n d g h).lt a i).1 (b.bl v (vc d) a i)),b.bl,b.ne⟩
def yI.snoc(f:yI e size w lo hi vs cs ns)(K:w.ownsRow lo e size v n c)(t:∀a,VD v=O a->hi<=a/\a<hi')(M:hi<=hi'):yI e size w lo hi' (vs++ [v]) (cs++ [c]) (ns++ [n]):=by
 have x:=f.len;have y:=f.len2
 have g:∀{m:Type}(h:List m)(o k:m)(b:Nat),(h++ [o])[b]?=O k->h[b]?=O k/\b<L h\/b=L h/\k=o:=by
  intro m h o k b hi;obtain a|a|a:=QN b (L h)
  ·left;rw[vN a]at hi;exact⟨hi,a⟩
  ·simp_all
  rw[vY VV]at hi;cases hi
 refine⟨by simp[x],by simp[y],?_,?_,?_⟩
 ·intro b H I J B C D
  obtain⟨j,a⟩|⟨rfl,rfl⟩:=g _ _ _ _ B
  ·obtain⟨d,_⟩|⟨d,_⟩:=g _ _ _ _ C
   ·obtain⟨u,_⟩|⟨u,_⟩:=g _ _ _ _ D
    ·exact f.own b _ _ _ j d u
    omega
   omega
  simp_all
 ·intro l i a E
  obtain i|i:=xV.1 i
  ·have:=f.bl l i a E;omega
  simp_all
 intro b F l r a G i s p q;obtain⟨j,_⟩|⟨j,rfl⟩:=g _ _ _ _ i
 ·obtain⟨d,_⟩|⟨d,rfl⟩:=g _ _ _ _ s
  ·exact f.ne b F l r a G j d p q
  have z:=f.bl l (vc j) a p;have A:=(t a q).1;omega
 obtain⟨d,_⟩|⟨d,rfl⟩:=g _ _ _ _ s
 ·have z:=f.bl r (vc d) a q
  have A:=(t a p).1;omega
 omega
end
def jI:Ki->Ki->List Ob->Ki
 | a::b,c::d,e::f=>GV e a c++jI b d f
 | _,_,_=>[]
def WY{b c a}(d:L b=L a)(e:L c=L a):L (jI b c a)=L a*10:=by
 induction a generalizing b c with
 | nil=>cases b<;>cases c<;>simp_all[jI]
 | cons g a f=>
  match b,c,d,e with
  | h::b,i::c,d,e=>
   simp only[jI,xL,vA]at *;rw[f VC VC];simp[GV];omega
def Dh{d e f g k vt vm x}(a:d[g]?=O vt)(b:e[g]?=O vm)(c:f[g]?=O x)(m:k<10):(jI d e f)[g*10+k]? =(GV x vt vm)[k]?:=by
 induction g generalizing d e f with
 | zero=>
  match d,e,f,a,b,c with
  | h::d,i::e,j::f,a,b,c=>
   simp at a b c;subst a b c;simp only[jI,QV,vg];rw[vN (by simp[GV];omega)]
 | succ g l=>
  match d,e,f,a,b,c with
  | h::d,i::e,j::f,a,b,c=>
   simp at a b c;simp only[jI];rw[xQ (by simp[GV];omega),<- l a b c]
   congr 1
   simp[GV];omega
theorem Di{a us b ns c ys}(d:L a=L c)(e:L b=L c):jI (a++us) (b++ns) (c++ys)=jI a b c++jI us ns ys:=by
 induction c generalizing a b with
 | nil=>cases a<;>cases b<;>simp_all[jI]
 | cons f c g=>
  match a,b,d,e with
  | v::a,h::b,d,e=>
   simp at d e;simp only[vH,jI]
   simp_all
structure ZU(w:V8)(lo hi:Nat)(v:Jo)(a b:Ki)(xs:List Ob):Prop where
 row:w.ownsRow lo 79 10 v (L xs) (jI a b xs)
 rb:belO hi v
 nt:yI 21 1 w lo hi a (xs.map λx=>zQ .i32 x.t) (xs.map λx=>L x.t)
 nm:yI 168 3 w lo hi b (xs.map λx=>z8 x.m) (xs.map λx=>L x.m)
def ZU.frame{w w' lo hi v vts vms xs}(b:ZU w lo hi v vts vms xs)(c:∀a,lo<=a->a<hi->w'.heap[a]? =w.heap[a]?):ZU w' lo hi v vts vms xs:=
 ⟨zD b.row (λa d=>c a (b.row.lt a d).1 (b.rb a d)),b.rb,b.nt.frame c,b.nm.frame c⟩
theorem ZU.I{w w' lo hi v vts vms xs}(b:ZU w lo hi v vts vms xs)(c:qa3 w w')(e:hi<=N (Y w)):ZU w' lo hi v vts vms xs:=b.frame (λa _ d=>c.block a VC)
def ZU.rd{w lo hi v vts vms xs}(b:ZU w lo hi v vts vms xs)(ht:∀d∈xs,L d.t<=VL/\L d.m<=VL):RA w v xs:=by
 obtain⟨rfl,h⟩|⟨l,m,t,rfl,u,x,n,o,y,z⟩:=b.row.2
 ·left;simp_all
 by_cases h:L xs=0
 ·left;rw[h];simp_all
 right;refine⟨l,0,m,rfl,⟨VC,n,o⟩,λc d a=>?_⟩;have p:=(xS.1 a).1;have q:L vts=L xs:=by rw[b.nt.len,vW]
 have r:L vms=L xs:=by rw[b.nm.len,vW]
 have e:=xI (show c<L vts by omega);have f:=xI (show c<L vms by omega);have i:=b.nt.own c _ _ _ e (by rw[vZ,a];rfl) (by rw[vZ,a];rfl);have j:=b.nm.own c _ _ _ f (by rw[vZ,a];rfl) (by rw[vZ,a];rfl);have g:=ht d (vc a);refine⟨_,_,λs k=>?_,Rd.qe i,zW.rd (j),g.1,g.2⟩;rw[vg,b.row.cellAt _ VC];exact Dh e f a k
def Tryz.infoOB:(prog.info? 79).map (λa=>(a.zero,a.size,a.bytes))=O (O (.agg #[qP 0,qP 0,qP 0,V0,V0,qP 0,qP 0,qP 0,qP 0,qP 0]),10,112):=VU
structure ye(w w':V8)(S:Nat->Prop):Prop where
 os:w'.os=w.os
 tape:w'.tape=w.tape
 output:w'.output=w.output
 size:N (Y w)<=N (Y w')
 block:∀k,k<N (Y w)->¬S k->w'.heap[k]? =w.heap[k]?
def ye.reflS(w)(S):ye w w S:=⟨rfl,rfl,rfl,lR,λ_ _ _=>rfl⟩
def ye.allocS{w x S}(a:ye w x S)(o):ye w (x.alloc o) S:=
 ⟨a.os,a.tape,a.output,by have:=a.size;simp;omega,λb c d=>(((xF _ x).alloc lR o).block b (by have:=a.size;omega)).R (a.block b c d)⟩
def ye.grownS{w x y S r}(b:ye w x S)(c:x.grownBy y r)(h:∀a,r=O a->S a\/N (Y w)<=a):ye w y S:=
 ⟨c.os.R b.os,c.tape.R b.tape,c.output.R b.output,ku b.size c.size,λd f e=>(c.block d (by have:=b.size;omega) (λg=>by obtain a|a:=h d g.J;exact e a;omega)).R (b.block d f e)⟩
def ye.setS{w x S}(a:ye w x S)(p)(v)(g:S p.block\/N (Y w)<=p.block):ye w (x.setCell p v) S:=
 ⟨a.os,a.tape,a.output,by simp;exact a.size,λc e d=>(xM x p c v (λf=>by obtain b|b:=g;rw[<- f]at b;exact d b;omega)).R (a.block c e d)⟩
def ye.transS{w x y S T}(b:ye w x S)(c:ye x y T)(h:∀a,T a->S a\/N (Y w)<=a):ye w y S:=
 ⟨c.os.R b.os,c.tape.R b.tape,c.output.R b.output,ku b.size c.size,λa f d=>(c.block a (by have:=b.size;omega) (λg=>by obtain e|e:=h a g;exact d e;omega)).R (b.block a f d)⟩
def ye.belowS{w x y S B}(a:ye w x S)(b:Below B x y)(f:N (Y w)<=B):ye w y S:=
 ⟨b.os.R a.os,b.tape.R a.tape,b.output.R a.output,ku a.size b.size,λc d e=>(b.block c VC).R (a.block c d e)⟩
def ye.qa{w x S B}(a:Below B w x)(b:N (Y w)<=B):ye w x S:=(ye.reflS w S).belowS a b
def ye.sameS{w x y S}(a:ye w x S)(b:y.heap=x.heap)(f:y.os=x.os)(g:y.tape=x.tape)(h:y.output=x.output):ye w y S:=
 ⟨f.R a.os,g.R a.tape,h.R a.output,by rw[b];exact a.size,λc d e=>by rw[b];exact a.block c d e⟩
def Ue(c:V8)(d e:Nat)(b:qa0):Prop:=∀a<L b,VE c (V4 d (e+a))=O (.int .i32 (b.getD a 0))
theorem Ue.I{B w w' b o zs}(d:Ue w b o zs)(e:Below B w w')(f:b<B):Ue w' b o zs:=λa c=>(e.U f).R (d a c)
def zH(b:V8)(c:Nat)(d:Jo)(a:qa0):Prop:=b.ownsRow c 21 1 d (L a) (zQ .i32 a)
def Tryz.qn:(prog.info? 21).map (λa=>(a.zero,a.size,a.bytes))=O (O (.int .i32 0),1,4):=VU
def YW(a:V8):zH (a.alloc (V6 #[] 21)) (N (Y a)) (VZ (qQ (N (Y a)) 0) 0 0) []:=by
 have:=Qo (base:=N (Y a)) (e:=21) (size:=1) a #[] 0 VT (xY _) rfl;simpa[zH,zQ]using this
def Ps{W base v E F n m}(a:L E=n)(b:L F=m)(c:W.ownsRow base 21 1 v (n+m) (zQ .i32 E++zQ .i32 F)):zH W base v (E++F):=by
 unfold zH;rw[xL,a,b,jG];exact c
def zS{w base v zs}(c:zH w base v zs):∃b a,v= .slice b (L zs) a:=by
 obtain⟨rfl,d⟩|⟨e,a,f,rfl,_⟩:=c.2
 ·simp_all
 simp
def Ue.app{w b o zs}(i:Ue w b o zs)(p l)(j:p+l<=L zs):∀a d,(zQ .i32 ((zs.drop p).take l))[a]?=O d->VE w (((V4 b (o+p)):Addr).add a)=O d:=by
 intro a d c
 have g:a<l:=by
  obtain f|f:=kC a l
  ·exact f
  rw[vY (by simp[zQ];omega)]at c;cases c
 have h:((zs.drop p).take l)[a]?=O (zs.getD (p+a) 0):=by
  rw[kN,xU g,kO];simp[vv,xI (show p+a<L zs by omega)]
 simp only[zQ,vZ,h,Vr,xP]at c;subst c;have e:=i (p+a) VC;rw[<- QU]at e;rw[zR];exact e
def J1{w base g cap zs}(c:zH w base (VZ (qQ g 0) (L zs) cap) zs):Ue w g 0 zs:=by
 intro a b;have:=c.cellAt a VC;rw[vg,this];simp[zQ,xI b]
structure SR where
 put:Bool
 off:Nat
 n:Nat
 bef:qa0
 aft:qa0
 was:List Mk
 is:List Mk
structure SK where
 tx:qa0
 ms:List Mk
 un:List (List SR)
 re:List (List SR)
structure LE where
 kd:Nat
 lo:Nat
 hi:Nat
 tx:qa0
structure SS where
 tx:qa0
 ms:List Mk
 un:List (List SR)
 re:List (List SR)
 gr:List SR
 op:Bool
 sp:Nat
 cp:Nat
 sl:List (Option SK)
 lg:List LE
structure V7 where
 tv:Jo
 mv:Jo
 uv:Jo
 rv:Jo
 gv:Jo
 slv:Jo
 lv:Jo
def KT(c d:V8):Prop:=N (Y c)<=N (Y d)/\∀(b:Nat)(e)(a)(f),c.heap[b]?=O (V6 e a f)->(a≠54/\a≠210/\a≠56/\a≠79)->d.heap[b]? =c.heap[b]?
theorem KT.R{a b c}(j:KT a b)(k:KT b c):KT a c:=⟨ku j.1 k.1,λd e f g h i=>(k.2 d e f g ((j.2 d e f g h i).R h) i).R (j.2 d e f g h i)⟩
theorem KT.of{w w'}(a:qa3 w w'):KT w w':=⟨a.size,λb d e f c _=>a.block b (xG.1 c).1⟩
def KT.at{w w' s cs t f}(k:w.heap[s]?=O (V6 cs t f))(ht:t=54\/t=210\/t=56\/t=79)(c:N (Y w)<=N (Y w'))(d:∀a,a<N (Y w)->a≠s->w'.heap[a]? =w.heap[a]?):KT w w':=
 ⟨c,λa e g h b i=>d a (xG.1 b).1 (λj=>by simp_all)⟩
theorem jg{c:V8}{base t size n v xs}(f:c.ownsRow base t size v n xs){q}(a:VD v=O q):∃d e,c.heap[q]?=O (V6 d t e):=by
 obtain⟨b,_⟩|⟨h,i,j,b,_,g,_⟩:=f.2
 ·rw[b]at a;cases a
 rw[b]at a;simp only[VD,xP]at a;subst a;exact⟨_,_,g⟩
def GZ{w w' base t size n v xs}(a:w.ownsRow base t size v n xs)(d:KT w w')(e:t≠54/\t≠210/\t≠56/\t≠79):w'.ownsRow base t size v n xs:=
 zD a (λb c=>by obtain⟨f,g,h⟩:=jg a c;exact d.2 b f t g h e)
section
variable {w w':World}
def zH.kt{b v zs}(a:zH w b v zs)(c:KT w w'):zH w' b v zs:=GZ a c VS
def zW.kt{b v zs}(a:zW w b v zs)(c:KT w w'):zW w' b v zs:=GZ a c VS
def zBn(b:V8)(g:Ki)(a:SR):Prop:=∃c d e f,g= [.bool a.put,qP a.off,qP a.n,c,d,e,f]/\(zH b 0 c a.bef/\zH b 0 d a.aft)/\zW b 0 e a.was/\zW b 0 f a.is
def zBn.kt{xs r}(c:zBn w xs r)(a:KT w w'):zBn w' xs r:=by
 obtain⟨d,e,f,g,h,b,i,j⟩:=c;exact⟨d,e,f,g,h,⟨b.1.kt a,b.2.kt a⟩,i.kt a,j.kt a⟩
def PF(d:V8):Ki->List SR->Prop
 | a,[]=>a= []
 | a,e::f=>∃b c,a=b++c/\zBn d b e/\PF d c f
def PF.kt(a:KT w w'):∀{xs g},PF w xs g->PF w' xs g
 | _,[],b=>b
 | _,_::_,⟨c,d,e,f,h⟩=>⟨c,d,e,f.kt a,PF.kt a h⟩
def PF.app:∀{xs ys g k},PF w xs g->PF w ys k->PF w (xs++ys) (g++k)
 | _,_,[],_,b,a=>by cases b;exact a
 | _,_,_::_,_,⟨c,d,h,e,f⟩,a=>⟨c,d++_,by simp_all,e,PF.app f a⟩
def PF.one{xs r}(a:zBn w xs r):PF w xs [r]:=⟨xs,[],VT,a,rfl⟩
def PF.get:∀{xs d h e},PF w xs d->d[h]?=O e->∃b,zBn w b e/\∀a<7,xs[h*7+a]? =b[a]?
 | _,_::d,0,e,⟨j,o,g,k,l⟩,f=>by
  simp at f;subst f;obtain⟨_,_,_,_,c,_⟩:=id k;refine⟨j,k,λa i=>?_⟩;rw[g,QV,vg,vN (by rw[c];simp;omega)]
 | _,_::d,h+1,e,⟨j,o,g,⟨_,_,_,_,c,_⟩,l⟩,f=>by
  obtain⟨b,m,n⟩:=PF.get l (by simpa using f);refine⟨b,m,λa i=>?_⟩;rw[<- n a i,g,xQ (by rw[c];simp;omega)]
  congr 1;rw[c];simp;omega
def Ko(b:V8)(d:Jo)(c:List SR):Prop:=∃a,b.ownsRow 0 208 7 d (L c) a/\PF b a c
def Ko.kt{v g}(b:Ko w v g)(a:KT w w'):Ko w' v g:=by
 obtain⟨c,d,e⟩:=b;exact⟨c,GZ d a VS,e.kt a⟩
def Ko.nil:Ko w V0 []:=⟨[],vz _ _ _ _,rfl⟩
theorem Ko.val{v g}(d:Ko w v g):∃b c,v= .slice b (L g) c:=by
 obtain⟨f,e,_⟩:=d;obtain⟨a,h⟩|⟨i,j,k,a,_⟩:=e.2
 ·simp_all
 exact⟨_,_,a⟩
def Kq(a:V8):Ki->List (List SR)->Prop
 | [],[]=>True
 | b::c,d::e=>Ko a b d/\Kq a c e
 | _,_=>False
def Kq.kt(b:KT w w'):∀{vs gs},Kq w vs gs->Kq w' vs gs
 | [],[],_=>trivial
 | _::_,_::_,a=>⟨a.1.kt b,Kq.kt b a.2⟩
 | [],_::_,a=>a
 | _::_,[],a=>a
def Kq.len:∀{vs gs},Kq w vs gs->L vs=L gs
 | [],[],_=>rfl
 | _::_,_::_,a=>by simp[Kq.len a.2]
def Kq.app:∀{vs us gs ks},Kq w vs gs->Kq w us ks->Kq w (vs++us) (gs++ks)
 | [],_,[],_,_,a=>a
 | _::_,_,_::_,_,a,b=>⟨a.1,Kq.app a.2 b⟩
def Kq.drop1:∀{vs gs},Kq w vs gs->Kq w (vs.drop 1) (gs.drop 1)
 | [],[],_=>trivial
 | _::_,_::_,a=>a.2
def Kq.sl:∀{b f},Kq w b f->∀u∈b,∃c h d,u= .slice c h d
 | [],_,_,e,a=>by simp at a
 | x::b,j::f,g,e,a=>by
  obtain rfl|a:=vC.1 a
  ·obtain⟨c,d,i⟩:=g.1.val;simp_all
  exact Kq.sl g.2 e a
def Iu(g:V8)(h:Jo)(a:Ki):Prop:=h= .slice none 0 0/\a= []\/∃b d c,h= .slice (qQ b d) (L a) c/\(L a<=c/\c<=VL/\∃i j,g.heap[b]?=O (V6 i 50 j))/\∀e f,a[e]?=O f->VE g (V4 b (d+e))=O f
def Iu.kt{v us}(a:Iu w v us)(j:KT w w'):Iu w' v us:=by
 obtain a|⟨c,k,l,m,⟨n,o,d,e,f⟩,p⟩:=a
 ·exact .inl a
 have b:=j.2 c d _ e f VS;exact .inr ⟨c,k,l,m,⟨n,o,d,e,b.R f⟩,λg h i=>(vO b).R (p g h i)⟩
theorem Iu.val{v us}(a:Iu w v us):∃b c,v= .slice b (L us) c:=by
 obtain⟨a,rfl⟩|⟨e,f,g,d,_⟩:=a
 ·simp_all
 exact⟨_,_,d⟩
def Iu.own{B v us}(a:w.ownsRow B 50 1 v (L us) us):Iu w v us:=by
 obtain⟨d,e⟩|⟨f,g,m,rfl,_,h,i,j,_⟩:=id a.2
 ·exact .inl ⟨d,xR e⟩
 refine .inr ⟨f,0,g,rfl,⟨i,j,_,_,h⟩,λb l c=>?_⟩;have k:=a.cellAt b (by have:=(xS.1 c).1;omega)
 simp_all
def Xg(b:V8)(c:Jo)(d:List (List SR)):Prop:=∃a,Iu b c a/\Kq b a d
def Xg.kt{v gs}(b:Xg w v gs)(a:KT w w'):Xg w' v gs:=by
 obtain⟨us,c,d⟩:=b;exact⟨us,c.kt a,d.kt a⟩
def Xg.nil:Xg w V0 []:=⟨[],.inl ⟨rfl,rfl⟩,xN⟩
theorem Xg.val{v gs}(c:Xg w v gs):∃a b,v= .slice a (L gs) b:=by
 obtain⟨f,d,e⟩:=c;rw[<- e.len];exact d.val
def HK7(a:V8)(g:Ki):Option SK->Prop
 | none=>g= [.bool VP,V0,V0,V0,V0]
 | some b=>∃c d e f,g= [.bool VR,c,d,e,f]/\zH a 0 c b.tx/\zW a 0 d b.ms/\Xg a e b.un/\Xg a f b.re
def HK7.kt{xs}:∀{b},HK7 w xs b->KT w w'->HK7 w' xs b
 | none,c,_=>c
 | some b,⟨d,e,f,g,h,i,j,k,l⟩,a=>⟨d,e,f,g,h,i.kt a,j.kt a,k.kt a,l.kt a⟩
def Pt(e:V8)(f:Jo)(a:qa0):Prop:=f= .slice none 0 0/\a= []\/∃b d c,f= .slice (qQ b d) (L a) c/\(L a<=c/\c<=VL/\∃g h,e.heap[b]?=O (V6 g 21 h))/\Ue e b d a
def Pt.own{B v ts}(a:zH w B v ts):Pt w v ts:=by
 obtain⟨b,c⟩|⟨d,e,i,rfl,_,f,g,h,_⟩:=id a.2
 ·exact .inl ⟨b,xR c⟩
 exact .inr ⟨d,0,e,rfl,⟨g,h,_,_,f⟩,J1 a⟩
def Pt.sub{g cap lo m ts}(e:zH w 0 (VZ (qQ g 0) (L ts) cap) ts)(i:lo+m<=L ts):Pt w (VZ (qQ g lo) m (cap-lo)) ((ts.drop lo).take m):=by
 have a:L ((ts.drop lo).take m)=m:=by rw[xO,xZ];omega
 obtain⟨b,j⟩|⟨k,l,n,b,_,h,o,p,_⟩:=id e.2
 ·cases b
 injection b with e1 e2 e3
 injection e1 with e1
 injection e1 with e1
 subst e1 e3;refine .inr ⟨g,lo,_,by rw[a],⟨by rw[a];omega,VC,_,_,h⟩,λf d=>?_⟩;rw[a]at d;have c:=J1 e (lo+f) VC;rw[vg]at c;rw[c];simp only[vv,kN,xU d,kO]
theorem Pt.val{v ts}(a:Pt w v ts):∃b c,v= .slice b (L ts) c:=by
 obtain⟨a,rfl⟩|⟨e,f,g,d,_⟩:=a
 ·simp_all
 exact⟨_,_,d⟩
def Tu(b e:V8):Prop:=∀(a:Nat)(c)(d),b.heap[a]?=O (V6 c 21 d)->e.heap[a]? =b.heap[a]?
def KT.k32(e:KT w w'):Tu w w':=λa b c d=>e.2 a b _ c d VS
theorem Tu.R{a b c}(h:Tu a b)(i:Tu b c):Tu a c:=λd e f g=>(i d e f ((h d e f g).R g)).R (h d e f g)
def Pt.k32{v ts}(a:Pt w v ts)(i:Tu w w'):Pt w' v ts:=by
 obtain a|⟨c,j,k,l,⟨m,n,d,e,f⟩,o⟩:=a
 ·exact .inl a
 have b:=i c d e f;exact .inr ⟨c,j,k,l,⟨m,n,d,e,b.R f⟩,λg h=>(vO b).R (o g h)⟩
def D8(e:V8):Ki->List LE->Prop
 | b,[]=>b= []
 | b,a::f=>∃c d,b= [qP a.kd,qP a.lo,qP a.hi,c]++d/\Pt e c a.tx/\D8 e d f
def D8.k32(a:Tu w w'):∀{xs g},D8 w xs g->D8 w' xs g
 | _,[],b=>b
 | _,_::_,⟨c,d,e,f,h⟩=>⟨c,d,e,f.k32 a,D8.k32 a h⟩
def D8.snoc{l tv}(ht:Pt w tv l.tx):∀{xs g},D8 w xs g->D8 w (xs++ [qP l.kd,qP l.lo,qP l.hi,tv]) (g++ [l])
 | _,[],a=>by cases a;exact⟨tv,[],VT,ht,rfl⟩
 | _,_::_,⟨b,e,f,c,d⟩=>⟨b,_,by simp_all,c,D8.snoc ht d⟩
end
def S7(b:V8)(c:Nat)(a:V7)(d:Bool)(e f:Int):Prop:=b.heap[c]?=O (V6 #[a.tv,a.mv,a.uv,a.rv,a.gv,.bool d,qP e,qP f,a.slv,a.lv] 54 (0,0))
structure SM(w:V8)(B a:Nat)(x:V7)(M:SS):Prop where
 blk:S7 w a x M.op M.sp M.cp
 tx:zH w 0 x.tv M.tx
 ms:zW w 0 x.mv M.ms
 un:Xg w x.uv M.un
 re:Xg w x.rv M.re
 gr:Ko w x.gv M.gr
 sl:∃xs,w.ownsRow B 210 5 x.slv 8 xs/\L M.sl=8/\∀i k,M.sl[i]?=O k->HK7 w ((xs.drop (i*5)).take 5) k
 lg:∃ls,w.ownsRow B 56 4 x.lv (L M.lg) ls/\D8 w ls M.lg
 bs:B<=a
 cp:1<=M.cp/\M.cp<=1000
 ul:L M.un<=M.cp
section
variable {w w':World} {B s:Nat} {x:V7} {M:SS}
def SM.lt(a:SM w B s x M):s<N (Y w):=(xG.1 a.blk).1
def SM.to{x' M'}(b:SM w B s x M)(d:KT w w')(g:S7 w' s x' M'.op M'.sp M'.cp)(c:x'.slv=x.slv/\x'.lv=x.lv/\M'.sl=M.sl/\M'.lg=M.lg)(h:∀a,VD x.slv=O a->w'.heap[a]? =w.heap[a]?)(i:∀a,VD x.lv=O a->w'.heap[a]? =w.heap[a]?)
  (j:zH w' 0 x'.tv M'.tx) (k:zW w' 0 x'.mv M'.ms) (l:Xg w' x'.uv M'.un) (m:Xg w' x'.rv M'.re) (n:Ko w' x'.gv M'.gr) (o:M'.cp=M.cp) (p:L M'.un<=M'.cp):SM w' B s x' M':=by
 obtain⟨q,r,z,t⟩:=b.sl;obtain⟨ls,u,v⟩:=b.lg;refine⟨g,j,k,l,m,n,⟨q,?_,by simp_all,λe f y=>(t e f (by simp_all)).kt d⟩,⟨ls,?_,by rw[c.2.2.2];exact v.k32 d.k32⟩,b.bs,by rw[o];exact b.cp,p⟩
 ·rw[c.1];exact zD r h
 rw[c.2.1,c.2.2.2];exact zD u i
theorem SM.I(a:SM w B s x M)(d:qa3 w w'):SM w' B s x M:=by
 have b:=KT.of d;obtain⟨h,f,_⟩:=a.sl;obtain⟨ls,g,_⟩:=a.lg;exact a.to b ((d.block s a.lt).R a.blk) ⟨rfl,rfl,rfl,rfl⟩ (λc e=>d.block c (f.lt c e).2) (λc e=>d.block c (g.lt c e).2) (a.tx.kt b) (a.ms.kt b) (a.un.kt b) (a.re.kt b) (a.gr.kt b) rfl a.ul
def SM.slne(a:SM w B s x M){q}(d:VD x.slv=O q):q≠s:=λc=>by
 obtain⟨f,e,_⟩:=a.sl;obtain⟨g,h,b⟩:=jg e d;subst c;have:=a.blk;unfold S7 at this;rw[this]at b;simp only[xP,kl]at b
 simp_all
def SM.lvne(a:SM w B s x M){q}(d:VD x.lv=O q):q≠s:=λc=>by
 obtain⟨f,e,_⟩:=a.lg;obtain⟨g,h,b⟩:=jg e d;subst c;have:=a.blk;unfold S7 at this;rw[this]at b;simp only[xP,kl]at b
 simp_all
structure Dn(w:V8)(B:Nat)(w':V8):Prop where
 kt:KT w w'
 bl:Below B w w'
 ob:∀(q:Nat)(cs:qa2)(f:Nat×Nat),w.heap[q]?=O (V6 cs 79 f)->w'.heap[q]? =w.heap[q]?
theorem Dn.of(a:qa3 w w')(d:B<=N (Y w)):Dn w B w':=⟨KT.of a,a.G d,λb e f c=>a.block b (xG.1 c).1⟩
theorem Dn.R{a b c}(d:Dn a B b)(i:Dn b B c):Dn a B c:=⟨d.kt.R i.kt,d.bl.R i.bl,λe f g h=>(i.ob e f g ((d.ob e f g h).R h)).R (d.ob e f g h)⟩
def SM.ob{x M}(g:SM w B s x M)(i:∀a,a<N (Y w)->a≠s->VD x.lv≠O a->w'.heap[a]? =w.heap[a]?):∀(a:Nat)(e)(f),w.heap[a]?=O (V6 e 79 f)->w'.heap[a]? =w.heap[a]?:=λa e f b=>by
 refine i a (xG.1 b).1 (λc=>?_) (λc=>?_)
 ·have d:=g.blk
  unfold S7 at d;subst c;rw[d]at b;simp only[xP,kl]at b
  simp_all
 obtain⟨ls,j,_⟩:=g.lg;obtain⟨_,_,h⟩:=jg j c;rw[b]at h;simp only[xP,kl]at h
 simp_all
theorem Dn.set(c:SM w B s x M)(j)(v):Dn w B (w.setCell (V4 s j) v):=by
 have d:=c.blk;unfold S7 at d;have e:=c.bs;exact⟨KT.at d (.inl rfl) VT (λa _ b=>xM w _ a v b),⟨rfl,rfl,rfl,VT,λa b=>xM w _ a v (by show a≠s;omega)⟩,c.ob (λa _ b _=>xM w _ a v b)⟩
end
theorem c7{a:V8}{b i cs t f v}(c:a.heap[b]?=O (V6 cs t f))(d:cs[i]?=O v):VE a (V4 b i)=O v:=(xH a b i cs t f c).R d
section
variable {w:World} {s:Nat} {x:V7} {op:Bool} {sp cp:Int}
def S7.c(a:S7 w s x op sp cp):VE w (V4 s 0)=O x.tv/\VE w (V4 s 1)=O x.mv/\VE w (V4 s 2)=O x.uv/\VE w (V4 s 3)=O x.rv/\VE w (V4 s 4)=O x.gv/\VE w (V4 s 5)=O (.bool op)/\VE w (V4 s 6)=O (qP sp)/\VE w (V4 s 7)=O (qP cp)/\VE w (V4 s 8)=O x.slv/\VE w (V4 s 9)=O x.lv:=
 ⟨c7 a rfl,c7 a rfl,c7 a rfl,c7 a rfl,c7 a rfl,c7 a rfl,c7 a rfl,c7 a rfl,c7 a rfl,c7 a rfl⟩
def S7.f(a:S7 w s x op sp cp)(j):w.frozen? (V4 s j)=VP:=xW w s j _ _ a
def S7.set0(a:S7 w s x op sp cp)(v):S7 (w.setCell (V4 s 0) v) s {x with tv:=v} op sp cp:=(vf w s 0 _ _ v a).R rfl
def S7.set1(a:S7 w s x op sp cp)(v):S7 (w.setCell (V4 s 1) v) s {x with mv:=v} op sp cp:=(vf w s 1 _ _ v a).R rfl
def S7.set2(a:S7 w s x op sp cp)(v):S7 (w.setCell (V4 s 2) v) s {x with uv:=v} op sp cp:=(vf w s 2 _ _ v a).R rfl
def S7.set3(a:S7 w s x op sp cp)(v):S7 (w.setCell (V4 s 3) v) s {x with rv:=v} op sp cp:=(vf w s 3 _ _ v a).R rfl
def S7.set4(a:S7 w s x op sp cp)(v):S7 (w.setCell (V4 s 4) v) s {x with gv:=v} op sp cp:=(vf w s 4 _ _ v a).R rfl
def S7.set5(a:S7 w s x op sp cp)(b):S7 (w.setCell (V4 s 5) (.bool b)) s x b sp cp:=(vf w s 5 _ _ _ a).R rfl
def S7.set6(a:S7 w s x op sp cp)(v):S7 (w.setCell (V4 s 6) (qP v)) s x op v cp:=(vf w s 6 _ _ _ a).R rfl
def S7.set9(a:S7 w s x op sp cp)(v):S7 (w.setCell (V4 s 9) v) s {x with lv:=v} op sp cp:=(vf w s 9 _ _ v a).R rfl
end
section
variable {w w':World} {B s:Nat} {x:V7} {M:SS}
theorem SM.put{x' M' j v}(b:SM w B s x M)(e:S7 (w.setCell (V4 s j) v) s x' M'.op M'.sp M'.cp)(f:x'.slv=x.slv/\x'.lv=x.lv/\M'.sl=M.sl/\M'.lg=M.lg)
  (g:zH w 0 x'.tv M'.tx) (h:zW w 0 x'.mv M'.ms) (i:Xg w x'.uv M'.un) (k:Xg w x'.rv M'.re) (l:Ko w x'.gv M'.gr) (m:M'.cp=M.cp) (n:L M'.un<=M'.cp):SM (w.setCell (V4 s j) v) B s x' M':=
 have a:=(Dn.set b j v).kt
 b.to a e f (λc d=>xM w _ c v (b.slne d)) (λc d=>xM w _ c v (b.lvne d)) (g.kt a) (h.kt a) (i.kt a) (k.kt a) (l.kt a) m n
def SM.tx'(a:SM w B s x M){v t}(b:zH w 0 v t):SM (w.setCell (V4 s 0) v) B s {x with tv:=v} {M with tx:=t}:=a.put (a.blk.set0 v) ⟨rfl,rfl,rfl,rfl⟩ b a.ms a.un a.re a.gr rfl a.ul
def SM.ms'(a:SM w B s x M){v t}(b:zW w 0 v t):SM (w.setCell (V4 s 1) v) B s {x with mv:=v} {M with ms:=t}:=a.put (a.blk.set1 v) ⟨rfl,rfl,rfl,rfl⟩ a.tx b a.un a.re a.gr rfl a.ul
def SM.un'(a:SM w B s x M){v t}(b:Xg w v t)(c:L t<=M.cp):SM (w.setCell (V4 s 2) v) B s {x with uv:=v} {M with un:=t}:=a.put (a.blk.set2 v) ⟨rfl,rfl,rfl,rfl⟩ a.tx a.ms b a.re a.gr rfl c
def SM.re'(a:SM w B s x M){v t}(b:Xg w v t):SM (w.setCell (V4 s 3) v) B s {x with rv:=v} {M with re:=t}:=a.put (a.blk.set3 v) ⟨rfl,rfl,rfl,rfl⟩ a.tx a.ms a.un b a.gr rfl a.ul
def SM.gr'(a:SM w B s x M){v t}(b:Ko w v t):SM (w.setCell (V4 s 4) v) B s {x with gv:=v} {M with gr:=t}:=a.put (a.blk.set4 v) ⟨rfl,rfl,rfl,rfl⟩ a.tx a.ms a.un a.re b rfl a.ul
def SM.op'(a:SM w B s x M)(b):SM (w.setCell (V4 s 5) (.bool b)) B s x {M with op:=b}:=a.put (a.blk.set5 b) ⟨rfl,rfl,rfl,rfl⟩ a.tx a.ms a.un a.re a.gr rfl a.ul
def SM.sp'(a:SM w B s x M)(b:Nat):SM (w.setCell (V4 s 6) (qP b)) B s x {M with sp:=b}:=a.put (a.blk.set6 b) ⟨rfl,rfl,rfl,rfl⟩ a.tx a.ms a.un a.re a.gr rfl a.ul
def SM.D{x' M' j v}(a:SM w B s x M)(b:SM (w.setCell (V4 s j) v) B s x' M'):SM (w.setCell (V4 s j) v) B s x' M'/\Dn w B (w.setCell (V4 s j) v):=⟨b,Dn.set a j v⟩
def SM.hB(a:SM w B s x M):B<=N (Y w):=Qr (Nat.lt_of_le_of_lt a.bs a.lt)
def SM.vs(c:SM w B s x M):(∃a b,x.tv= .slice a (L M.tx) b)/\(∃a b,x.mv= .slice a (L M.ms) b)/\(∃a b,x.uv= .slice a (L M.un) b)/\(∃a b,x.rv= .slice a (L M.re) b)/\(∃a b,x.gv= .slice a (L M.gr) b):=
 ⟨zS c.tx,c.ms.val,c.un.val,c.re.val,c.gr.val⟩
def St(d:V8)(a e:Nat)(f:SS)(b:V8):Prop:=∃c,SM b a e c f/\Dn d a b
def RB(n)(a:SM w B s x M)(f:M.sp<=200000)(g:n<=1000000000)(h:M.sp+n<=200000):
  VM prog 103 #[V3 s 0,qP n] w λc w'=>c=V5 (.bool VR)/\St w B s {M with sp:=M.sp+n} w':=by
 have b:=zC a;obtain⟨_,_,_,_,_,_,i,_⟩:=a.blk.c;have d:=a.blk.f 6;have e:¬ ((M.sp:Int)+n > 200000):=VC
 clear a;go_enter func103,ntmps103;go_wp2;go_ret;exact⟨rfl,x,b.sp' _,Dn.set b 6 _⟩
def Dk(n)(a:SM w B s x M)(d:M.sp<=200000)(e:n<=1000000000)(f:¬M.sp+n<=200000):
  VM prog 103 #[V3 s 0,qP n] w λb w'=>b=V5 (.bool VP)/\w'=w:=by
 obtain⟨_,_,_,_,_,_,g,_⟩:=a.blk.c;have c:(M.sp:Int)+n > 200000:=VC
 clear a;go_enter func103,ntmps103;go_wp2;go_ret;simp
end
def Tryz.infoLC7:(prog.info? 56).map (λa=>(a.zero,a.size,a.bytes))=O (O (.agg #[qP 0,qP 0,qP 0,V0]),4,48):=VU
def Tryz.infoLR7:(prog.info? 50).map (λa=>(a.zero,a.size,a.bytes))=O (O V0,1,24):=VU
def ap7{P w ops rest f a Q}(k:f.guard=none)(s x)(t)
  (l:f.op= .call {callee:=.builtin .append,args:=#[s,x],argTypes:=#[t,t]})
  (base) (e) (i) (z) (size bytes) (ht:P.underlying t=O (.slice e)) (o:P.info? e=O i) (A:i.zero=O z)
  (B:i.size=size) (C:i.bytes=bytes) (D:z.cells.size=size) (E:0<size)
  (v) (n) (xs) (p:a.eval s=v) (h:w.ownsRow base e size v n xs) (xv) (m) (news) (q:a.eval x=xv)
  (F:xv= .slice none 0 0/\m=0\/∃b g,xv= .slice (O b) m g/\∀j c,news[j]?=O c->VE w (b.add j)=O c) (r:L news=m*size) (G:∀c∈news,c.oneCell'=VR)
  (H:n+m<=VL) (I:(n+m)*bytes<=140737488355328) (J:base<=N (Y w))
  (u:∀d w',w'.ownsRow base e size d (n+m) (xs++news)->w.grownBy w' (VD v)->wpList P ops Q rest (a.put f.dst d) w'):wpList P ops Q (f::rest) a w:=by
 obtain⟨rfl,rfl⟩|⟨b,g,rfl,K⟩:=F
 ·refine wpList_append_own_none k s x t l base e i size ht o _ n xs p h q (u v w ?_ ⟨rfl,rfl,rfl,lR,λ_ _ _=>rfl⟩)
  rw[show news= []from xR (by simpa using r),kW];exact h
 exact wpList_append_own_at _ k s x t l base e i z size bytes ht o A B C D E v n xs p h b m g news q r K G H I J (λd w' a y _ _=>u d w' a y)
def XV{F nF P w ops rest b a Q}(l:b.guard=none)(s x)(t)
  (h:b.op= .call {callee:=.builtin .append,args:=#[s,x],argTypes:=#[t,t]})
  (base) (e) (i) (z) (size bytes) (ht:P.underlying t=O (.slice e)) (o:P.info? e=O i) (C:i.zero=O z)
  (D:i.size=size) (E:i.bytes=bytes) (G:z.cells.size=size) (H:0<size)
  (v) (n) (xs) (p:a.eval s=v) (j:w.ownsRow base e size v n xs) (xv) (m) (news) (q:a.eval x=xv)
  (I:xv= .slice none 0 0/\m=0\/∃c g,xv= .slice (O c) m g/\∀k d,news[k]?=O d->VE w (c.add k)=O d) (r:L news=m*size) (J:∀d∈news,d.oneCell'=VR)
  (K:n+m<=VL) (M:(n+m)*bytes<=140737488355328) (R:base<=N (Y w))
  (u:∀f w',w'.ownsRow base e size f (n+m) (xs++news)->w.grownBy w' (VD v)->wpListIn F nF P ops Q rest (a.put b.dst f) w'):wpListIn F nF P ops Q (b::rest) a w:=by
 obtain⟨rfl,rfl⟩|⟨c,g,rfl,S⟩:=I
 ·refine wpListIn_plain l λT A=>?_
  have y:=run_append_owned_none (w:=w) base t b.type e i size ht o v n xs j;unfold Oper.wpIn;refine⟨by simp[Oper.about,h,resolve,Target.leads],?_⟩;rw[Oper.semAt_plain F _ _ (by simp_all)];simp[execOp,h,resolve,invoke,builtin,p,q,y];refine A _ _ (u v w ?_ ⟨rfl,rfl,rfl,lR,λ_ _ _=>rfl⟩);rw[show news= []from xR (by simpa using r),kW];exact j
 exact wpListIn_append_own_at _ l s x t h base e i z size bytes ht o C D E G H v n xs p j c m g news q r S J K M R (λf w' a B _ _=>u f w' a B)
section
variable {w w':World} {B s:Nat} {x:V7} {M:SS}
def NoteP(b:V8)(g h:Nat)(i:V7)(c:SS)(j:LE)(d:V8):Prop:=
 ∃e ls,S7 d h {i with lv:=e} c.op c.sp c.cp/\d.ownsRow g 56 4 e (L c.lg+1) ls/\(∀f,Tu b f->D8 f ls (c.lg++ [j]))/\(∀a,a<N (Y b)->a≠h->VD i.lv≠O a->d.heap[a]? =b.heap[a]?)/\KT b d/\Below g b d
def SM.apart(a:SM w B s x M){q}(d:VD x.slv=O q):VD x.lv≠O q:=λc=>by
 obtain⟨ls,e,_⟩:=a.lg;obtain⟨h,f,_⟩:=a.sl;obtain⟨i,j,b⟩:=jg e c;obtain⟨k,l,g⟩:=jg f d;rw[g]at b;simp only[xP,kl]at b
 simp_all
def SM.noted{W x' l ls ms}(a:SM w B s x M)(b:KT w W)(h:S7 W s x' M.op M.sp M.cp)(d:x'={x with mv:=x'.mv,lv:=x'.lv})(i:zW W 0 x'.mv ms)(j:W.ownsRow B 56 4 x'.lv (L M.lg+1) ls)(k:D8 W ls (M.lg++ [l]))(m:∀c,VD x.slv=O c->W.heap[c]? =w.heap[c]?):SM W B s x' {M with ms:=ms,lg:=M.lg++ [l]}:=by
 obtain⟨n,o,p,q⟩:=a.sl;obtain⟨r,mv,t,u,v,y,lv⟩:=x';simp at d;obtain⟨rfl,rfl,rfl,rfl,rfl⟩:=d;exact⟨h,a.tx.kt b,i,a.un.kt b,a.re.kt b,a.gr.kt b,⟨n,zD o m,p,λe f g=>(q e f g).kt b⟩,⟨ls,by simpa using j,k⟩,a.bs,a.cp,a.ul⟩
theorem Ee (kd lo hi:Nat) (tv) (ts) (d:SM w B s x M) (ht:Pt w tv ts) (u:L M.lg<=1000000000):
  VM prog 105 #[.pointer (qQ s 0),qP kd,qP lo,qP hi,tv] w fun e w'=>e= .returned (.tuple #[])∧NoteP w B s x M ⟨kd,lo,hi,ts⟩ w':=by
 obtain⟨ac,ad,ae,af,ag⟩:=kB Tryz.infoLC7;have n:=zC d;obtain⟨ls,h,G⟩:=d.lg;have p:=zC h;have HT:=zC ht;have H:=zC G;obtain⟨ta,tk,rfl⟩:=ht.val;obtain⟨_,_,_,_,_,_,_,_,_,c9⟩:=d.blk.c;have I:=d.lt;have aj:=d.hB;have D:=zC (fun q c=>d.lvne (q:=q) c)
 obtain⟨ah,ai,z⟩:∃a k,x.lv= .slice a (L M.lg) k:=by
  obtain⟨e,ap⟩|⟨g,cap,aq,e,_⟩:=h.2
  ·simp_all
  exact⟨_,_,e⟩
 rw [z]at c9;have J:=zC (za w 56 [qP kd,qP lo,qP hi,.slice ta (L ts) tk]);have j:=zC ((xF _ w).alloc lR (.cells #[qP kd,qP lo,qP hi,.slice ta (L ts) tk] 56));have ak:N (Y w)+1=N (Y (w.alloc (.cells #[qP kd,qP lo,qP hi,.slice ta (L ts) tk] 56))):=by simp
 obtain⟨m,A⟩:∃m,m=L M.lg:=⟨_,rfl⟩
 have K:=zC A;have l:=zC z;rw [<- A]at u p l c9;rw [l.A]at p;clear d h ht z A G;go_enter func105,ntmps105;go_wp2_with (at_builtin;refine wpList_append_lies _ rfl _ _ 52 rfl B 56 ac _ 4 48 underlying52 ad ae af ag rfl (by decide) (.slice ah m ai) m ls rfl (p.alloc _) _ 1 1 _ rfl rfl J (by simp [Value.oneCell']) (by omega) (by unfold VL;omega) (by omega) (by omega) _ rfl ?_;intro g U b V i X an;have o:=zC (show S7 b s x _ _ _ from(i.block s (by omega) (fun e=>D s (by rw [l.A];exact e.J) rfl)).R ((j.block s I).R n.blk));have al:=o.c.2.2.2.2.2.2.2.2.2;have am:=o.f 9);go_end0
 have P:VD x.lv=O g∨N (Y w)<=g:=by
  rw [l.A];exact X.imp id (fun ao=>by omega)
 have Q:=P.elim (fun e=>D g e) (fun e=>by omega);have r:∀q,q<N (Y w)->VD x.lv≠O q->b.heap[q]? =w.heap[q]?:=fun q c u=>(i.block q (by omega) (by rw [<- l.A];exact fun e=>u e.J)).R (j.block q c)
 have E:N (Y w)<=N (Y b):=by have:=i.size;omega
 have R:KT w b:=⟨E,fun q cs t f e v=>r q (xG.1 e).1 (fun y=>by
  obtain⟨ls,h,_⟩:=n.A.lg;obtain⟨ar,au,C⟩:=jg h y;rw [e]at C;simp at C
  exact v.2.2.1 C.2.1)⟩
 have S:Below B w b:=⟨i.os.R j.os,i.tape.R j.tape,i.output.R j.output,E,fun q c=>r q (by omega) (fun y=>by
  obtain⟨ls,h,_⟩:=n.A.lg
  have:=(h.lt q y).1;omega)⟩
 have T:KT b (b.setCell ⟨s,9,none⟩ (.slice (qQ g 0) (m+1) U)):=KT.at o (.inl rfl) (by simp) (fun q _ c=>xM b _ q _ c);refine⟨rfl,_,_,o.set9 _,zD V (fun q c=>xM b ⟨s,9,none⟩ q _ (by simp only [VD,xP]at c;subst c;exact Q)) |> fun Z=>by rw [<- K.A];exact Z,fun W F=>(H.k32 F).snoc (HT.k32 F),fun q v aa ab=>(xM b _ q _ aa).R (r q v ab),R.R T,S.R ⟨rfl,rfl,rfl,by simp,fun q c=>xM b _ q _ (by have:=n.bs;show q≠s;omega)⟩⟩
def Iw(d e f:Nat)(tv)(ts)(a:SM w B s x M)(ht:Pt w tv ts)(j:L M.lg<=1000000000):
  VM prog 105 #[V3 s 0,qP d,qP e,qP f,tv] w λg w'=>g=V5 (.tuple #[])/\St w B s {M with lg:=M.lg++ [⟨d,e,f,ts⟩]} w':=by
 refine(Ee d e f tv ts a ht j).G ?_;rintro g w' ⟨rfl,p,ls,k,l,m,i,b,n⟩;obtain⟨q,o,_⟩:=a.sl;exact⟨rfl,_,a.noted b k rfl (a.ms.kt b) l (m w' b.k32) (λh c=>i h (o.lt h c).2 (a.slne c) (a.apart c)),b,n,a.ob i⟩
def jT{α:Type}(c:Nat)(a:List α)(b:α):List α:=if c<L a+1 then(a++ [b]).drop 1 else a++ [b]
theorem Ef{α c l}{a:α}(b:L l<=c):L (jT c l a)<=c:=by unfold jT;split<;>simp<;>omega
def Kq.psh{us gs v g}(b:Kq w us gs)(d:Ko w v g)(c):Kq w (jT c us v) (jT c gs g):=by
 have a:Kq w (us++ [v]) (gs++ [g]):=b.app ⟨d,xN⟩;unfold jT;rw[b.len]
 split
 ·exact a.drop1
 exact a
def Iu.src{v us}(d:Iu w v us):v= .slice none 0 0/\L us=0\/∃c e,v= .slice (O c) (L us) e/\∀a b,us[a]?=O b->VE w (c.add a)=O b:=by
 obtain⟨d,rfl⟩|⟨j,k,g,h,_,i⟩:=d
 ·simp_all
 exact .inr ⟨_,g,h,λa b f=>by rw[zR];exact i a b f⟩
theorem RE (gv) (g) (b:SM w B s x M) (P:Ko w gv g):
  VM prog 110 #[.pointer (qQ s 0),gv] w fun e w'=>e= .returned (.tuple #[])∧St w B s {M with un:=jT M.cp M.un g} w':=by
 obtain⟨ag,ah,ai,aj,ak⟩:=kB Tryz.infoLR7;have D:=zC b;have HG:=zC P;obtain⟨o,p,rfl⟩:=P.val;obtain⟨us,j,A⟩:=b.un;have am:=zC A;have a6:=b.lt;have an:=b.cp;have R:=b.ul;have E:=zC ((xF _ w).alloc lR (.cells #[] 50));have F:=zC (j.kt (KT.of E)).src;have ao:=zC (show ∀u∈us,u.oneCell'=VR from fun u j=>by obtain⟨a,l,k,rfl⟩:=A.sl u j;rfl);have S:=zC (show(w.alloc _).ownsRow _ 50 1 _ 0 []from Qo w #[] 0 lR (xY _) rfl);have ap:N (Y (w.alloc (.cells #[] 50)))=N (Y w)+1:=by simp
 obtain⟨ua,uk,al⟩:=j.val;have aq:=zC (show(L (jT _ _ g))<=M.cp from Ef b.ul);obtain⟨_,_,d,_,_,_,_,c7,_⟩:=b.blk.c;rw [al]at d F;obtain⟨n,C⟩:∃n,n=L us:=⟨_,rfl⟩
 have f:=zC C;rw [<- A.len,<- C]at R;rw [<- C]at d F;obtain⟨z,Q⟩:∃c,c=M.cp:=⟨_,rfl⟩
 have T:=zC Q;rw [<- Q]at c7 an R;clear b P j Q A al C;go_enter func110,ntmps110;go_upto_region 1 with (at_builtin;refine ap7 rfl _ _ 49 rfl _ 50 ag _ 1 24 underlying49 ah ai aj ak rfl (by decide) (.slice _ 0 0) 0 [] rfl (S) _ n us rfl (F) (by rw [<- f.A];omega) (ao) (by unfold VL;omega) (by omega) (by omega) ?_;intro ay J h ab)
 rw [vg,vL]at h;have r:=zC (E.grown ab (by omega) (fun q m=>by simp only [VD,xP]at m;omega));have U:=zC (za J 50 [.slice o (L g) p]);have G:=zC (r.alloc r.size (.cells #[.slice o (L g) p] 50));have V:=zC (h.alloc (.cells #[.slice o (L g) p] 50));have ar:N (Y (J.alloc (.cells #[.slice o (L g) p] 50)))=N (Y J)+1:=by simp
 have y1:=r.size
 obtain⟨a1,a2,rfl⟩:∃a k,ay= .slice a n k:=by
  obtain⟨e,bd⟩|⟨g,cap,a3,e,_⟩:=h.2
  ·simp_all
  exact⟨_,_,e⟩
 have au:=zC (fun q m=>(h.lt q m).1);clear h ab S E ap d c7 r;go_upto_region 2 with (at_builtin;refine wpList_append_lies _ rfl _ _ 49 rfl _ 50 ag _ 1 24 underlying49 ah ai aj ak rfl (by decide) (.slice a1 n a2) n us rfl (V) _ 1 1 _ rfl rfl U (by simp [Value.oneCell']) (by omega) (by unfold VL;omega) (by omega) (by omega) _ rfl ?_;intro ac d az K ad a0 bc)
 have t:=zC (G.grown ad G.size (fun q m=>au q m));have y:=zC (D.I t);have W:=zC (HG.kt (KT.of t));have X:=zC (am.kt (KT.of t));have H:=zC K
 have av:n+1<=d∧d<=VL:=by
  obtain⟨e,_⟩|⟨bf,bg,a3,e,_,_,bh,bi,_⟩:=K.2
  ·cases e
  simp_all
 obtain⟨_,_,bj,_,_,_,_,a4,_⟩:=y.A.blk.c;rw [<- T.A]at a4;have a7:=y.blk.f 2
 have Z:=zC (show ∀v,Iu az v (jT z us _)->SM _ B s _ _∧Dn w B _ from fun v af=>
  ⟨y.un' ⟨_,by rw [T.A]at af;exact af,X.psh W _⟩ aq,(Dn.of t D.hB).R (Dn.set y 2 v)⟩)
 clear K ad a0 V U G ar D W X;by_cases ae:z<n+1
 ·have aw:(z:Int)<n+1:=by omega
  have a8:¬d=1:=(by omega);have a9:n+1 - 1=n:=(by omega);unfold VL at av;refine vI 2 ?_;rw [ve];go_wp2;rw [ve];go_wp2;go_end0;refine⟨rfl,_,Z _ ?_⟩;unfold jT;rw [<- f.A,xU ae];have aa:L ((us++ [Value.slice o (L g) p]).drop 1)=n:=(by simp;exact f.J);obtain⟨cs,a5,I⟩:=jg H (q:=ac) rfl;refine .inr ⟨ac,1,_,by rw [aa],⟨by rw [aa];omega,by unfold VL;omega,cs,a5,I⟩,fun i u hi=>?_⟩;rw [kO]at hi;have ax:=H.cellAt (1+i) (by have:=(xS.1 hi).1;have ba:=f.A;simp at this;omega);rw [ax,hi]
 have aw:¬ (z:Int)<n+1:=by omega
 refine vI 1 ?_;rw [ve];go_wp2;go_end0
 have I:=Z _ (by
  unfold jT;rw [<- f.A,xK ae]
  exact Iu.own (by rw [xL,<- f.A];exact H))
 exact⟨rfl,_,I⟩
end
def Jt(v lo hi)(w):VM prog 93 #[qP v,qP lo,qP hi] w λd e=>d=V5 (.bool (decide (lo<=v/\v<=hi)))/\e=w:=by
 by_cases b:lo<=v
 ·by_cases c:v<=hi
  ·have a:decide (lo<=v/\v<=hi)=VR:=by simp[b,c]
   rw[a];clear a;go_enter func93,ntmps93;go_wp2;go_ret;simp
  have a:decide (lo<=v/\v<=hi)=VP:=(by simp[b,c]);rw[a];clear a;go_enter func93,ntmps93;go_wp2;go_ret;simp
 have a:decide (lo<=v/\v<=hi)=VP:=by simp[b]
 rw[a];clear a;go_enter func93,ntmps93;go_wp2;go_ret;simp
def yq(ok:Bool)(a:Int):Jo:=if ok then .nilIface else .iface 109 (qP a)
def Tb(a:V8)(b:Nat)(c:Jo):Prop:=a.heap[b]?=O (V6 #[c] 132 (0,0))
def Tb.c{w rb v}(a:Tb w rb v):VE w (V4 rb 0)=O v:=by rw[xH w rb 0 _ _ _ a];rfl
def Tb.lt{w rb v}(a:Tb w rb v):rb<N (Y w):=by
 obtain b|b:=kC rb (N (Y w))
 ·exact b
 unfold Tb at a;rw[Q0 b]at a;cases a
theorem Tb.I{B w w' rb v}(a:Tb w rb v)(b:Below B w w')(c:rb<B):Tb w' rb v:=(b.block rb c).R a
def yD(a:Int):List Mk->Nat->Int
 | [],_=> -1
 | c::d,b=>if c.1=a then b else yD a d (b+1)
def Ix(id)(b):∀c,yD id b c<0↔yF b id=VP:=by
 induction b with
 | nil=>intro c;simp[yD,yF]
 | cons d b e=>
  intro c;unfold yD;by_cases a:d.1=id
  ·rw[xU a];simp[yF,a]
  rw[xK a,e];simp[yF,a]
def KI(id)(a):∀b,(∀c∈a,c.1≠id)->yD id a b= -1:=by
 induction a with
 | nil=>intro b _;rfl
 | cons c a e=>intro b d;unfold yD;rw[xK (d c VT)];simp_all
def Iy(id)(xs):∀(e a)(b),(∀c d,c<a->xs[c]?=O d->d.1≠id)->xs[a]?=O b->b.1=id->yD id xs e=(e+a:Nat):=by
 induction xs with
 | nil=>simp
 | cons d m k=>
  intro e a b f g h;unfold yD;cases a with
  | zero=>simp_all
  | succ a=>
   rw[xK (f 0 d VC rfl),k _ a b (λc i l j=>f (c+1) i VC (by simpa using j)) (by simpa using g) h];omega
def Eg(id)(xs):∀a,0<=yD id xs a->∃c d,yD id xs a=(a+c:Nat)/\xs[c]?=O d:=by
 induction xs with
 | nil=>intro a b;simp[yD]at b
 | cons f j i=>
  intro a b;unfold yD at b |-;by_cases e:f.1=id
  ·rw[xU e];exact⟨0,f,VT,rfl⟩
  rw[xK e]at b |-;obtain⟨c,d,g,h⟩:=i _ b;exact⟨c+1,d,by rw[g];omega,by simpa using h⟩
def RH(x)(id)(B)(w)(f:B<N (Y w))(g:VE w (V4 B 0)=O (qP id)):
  VM prog 192 #[jF x,V3 B 0] w λc d=>c=V5 (.bool (x.1==id))/\qa3 w d:=by
 unfold jF;generalize a:(x.1==id)=e;have b:=zC a;clear a;go_enter func192,ntmps192;go_wp2
 all_goals (go_ret;exact⟨by rw[<- b.A];rfl,(xF _ _).alloc lR _⟩)
def Ga:∀a b,(callFunc 192 a).run prog b= .ok (.enter 192 a) b:=Go.Proofs.enters_of func192 VU rfl
def Dp(C B)(xs)(v)(id)(w)(K:JM C w v xs)(ad:C<=N (Y w))(ae:L xs<=1048576)(M:B<N (Y w))(z:VE w (V4 B 0)=O (qP id)):
  VM prog 191 #[v,.func (.func 192) #[] #[V3 B 0]] w λg I=>g=V5 (qP (yD id xs 0))/\qa3 w I:=by
 have V:=Ga;obtain⟨af,P,rfl,rfl⟩|⟨Q,ag,P,rfl,R,ah,A⟩:=K
 ·unfold yD
  go_enter func191,ntmps191;go_wp2;refine vI 1 ?_;rw[ve];go_wp2;go_ret;exact⟨rfl,xF _ _⟩
 have H:=zC A;have HG:=zC z;generalize x:L xs=h at*;generalize y:yD id xs 0=ac;have HR:=zC y;have s:=zC x;unfold VL at R;clear A z y x;go_enter func191,ntmps191;go_wp2_with fail;go_loopw [8] (λb wr=>∃a:Nat,a<=h/\b=qP a/\qa3 w wr/\∀b d,b<a->xs[b]?=O d->d.1≠id) (λb _=>h-(intOf b).toNat)
 case atStart=>exact⟨0,xY _,rfl,xF _ _,λb d J=>VC⟩
 obtain⟨a,ai,rfl,c,q⟩:=hrel;have l:=zC c;have m:=zC q;have t:=c.size;by_cases ab:a<h
 ·obtain⟨r,D,E,F,G⟩:=Z6 H (by rw[s.A];omega)
  have n:Q<N (Y w):=VC;have W:=(c.U n).R E;have e:=(c.U n).R F;have X:=(c.U n).R G;have Z:(a:Int)<h:=VC;have k:=zC (RH r id B wr VC ((c.U M).R HG));have u:=zC D;clear E F G D c q;cases hq:(r.1==id)with
  | true=>
   rw[hq]at k;have f:=(by simpa using hq);have o:=zC f;clear hq f;go_wp2_with fail;refine k.G ?_;rintro g S ⟨rfl,j⟩;have p:=zC (l.R (j.G t));clear j;go_wp2;go_ret;refine⟨?_,p⟩;have e:=Iy id xs 0 a r m u o;rw[vg]at e;rw[<- HR.A,e];rfl
  | false=>
   rw[hq]at k;have f:=(by simpa using hq);have o:=zC f;clear hq f;go_wp2_with fail;refine k.G ?_;rintro g S ⟨rfl,j⟩;have p:=zC (l.R (j.G t));clear j;go_wp2;go_roundw
   case rel=>
    refine⟨a+1,VC,VY,p,λb d J i=>?_⟩;by_cases g:b=a
    ·subst g
     obtain rfl:=(by rw[u.A]at i;exact(kK i).J);exact o
    exact m b d VC i
   simp[intOf];omega
 obtain rfl:a=h:=VC
 have aa:¬ (a:Int)<a:=VC
 clear c q;go_wp2;go_ret;refine⟨?_,l⟩
 have e:=KI id xs 0 λd i=>by
  obtain⟨T,U,rfl⟩:=QE i;exact m T _ (by rw[<- s.A];exact U) VT
 rw[<- HR.A,e];rfl
def rankMkL(C tb)(xs)(v)(id)(w)(ht:Tb w tb v)(b:JM C w v xs)(j:C<=N (Y w))(k:L xs<=1048576):
  VM prog 173 #[V3 tb 0,qP id] w λd i=>d=V5 (qP (yD id xs 0))/\qa3 w i:=by
 have f:=ht.lt;have a:=zC ((xF _ w).alloc lR (V6 #[qP id] 3));have l:=(ht.I a f).c;have c:VE (w.alloc (V6 #[qP id] 3)) (V4 (N (Y w)) 0)=O (qP id):=by rw[Ql _ _ _ _ rfl];rfl
 have m:N (Y (w.alloc (V6 #[qP id] 3)))=N (Y w)+1:=VT
 have g:=zC (Dp C _ xs v id _ (b.I a j) VC k VC c);obtain⟨q,r,rfl⟩:=b.val;generalize yD id xs 0=n at*;generalize L xs=o at*;clear b ht c;go_enter func173,ntmps173;go_wp2_with fail;generalize w.alloc _=p at*;refine g.G ?_;rintro d s ⟨rfl,e⟩;have h:=zC (a.R (e.G VC));clear e;go_wp2;go_ret;exact⟨rfl,h⟩
def J2(a:List Mk)(b:Int):Jo:=
 if yF a b=VR then .tuple #[jF (a.getD (yD b a 0).toNat (0,0,0)),.nilIface]
 else .tuple #[jF (0,0,0),.iface 130 (.agg #[.string {data:=#[102,105,110,100,105,110,103,32,97,32,109,97,114,107]},.iface 109 (qP 4)])]
def Ei(zs)(v)(w)(m:Rd .i32 w v zs)(s:L zs<=1099511627776):
  VM prog 66 #[v] w λj k=>j=V5 (qP (brk zs))/\k=w:=by
 obtain⟨t,n,rfl,rfl⟩|⟨u,x,n,rfl,o,g⟩:=m
 ·go_enter func66,ntmps66
  go_wp2;refine vI 1 ?_;rw[ve];go_wp2;go_ret;exact⟨rfl,rfl⟩
 have h:=zC g;clear g o;go_enter func66,ntmps66;go_wp2;go_loop [3,8] (λl d=>∃a:Nat,a<=L zs/\d=qP a/\l=qP (brk (zs.take a))) (λ_ d=>L zs-(intOf d).toNat)
 case atStart=>exact⟨0,xY _,rfl,rfl⟩
 obtain⟨a,y,rfl,rfl⟩:=hrel;have p:=J5 (zs.take a);have q:L (zs.take a)<=a:=List.length_take_le _ _;by_cases e:a<L zs
 ·have i:=h a e
  have b:=Eh zs a e;generalize zs.getD a 0=f at i b;by_cases c:f=10
  ·rw[xU c]at b
   subst c;have HS:=zC b;clear b;go_wp2;go_round
   case rel=>exact⟨a+1,VC,VY,by rw[HS.A]⟩
   simp[intOf];omega
  rw[xK c]at b;have r:(f==10)=VP:=(by simp[c]);have HS:=zC b;clear b c;go_wp2;go_round
  case rel=>exact⟨a+1,VC,VY,by rw[HS.A,Q4]⟩
  simp[intOf];omega
 obtain rfl:a=L zs:=VC
 go_wp2;go_ret;simp
def Xh(b:qa0)(i:Jo)(f:V8)(p:Rd .i32 f i b)(v:L b<=1099511627776):
  VM prog 72 #[i] f λm n=>m=V5 (qP (brk b))/\n=f:=by
 obtain⟨w,q,rfl,rfl⟩|⟨x,y,q,rfl,r,j⟩:=p
 ·go_enter func72,ntmps72
  go_wp2;refine vI 1 ?_;rw[ve];go_wp2;go_ret;exact⟨rfl,rfl⟩
 have k:=zC j;clear j r;go_enter func72,ntmps72;go_wp2;go_loop [3,8] (λo e=>∃a:Nat,a<=L b/\e=qP a/\o=qP (brk (b.take a))) (λ_ e=>L b-(intOf e).toNat)
 case atStart=>exact⟨0,xY _,rfl,rfl⟩
 obtain⟨a,z,rfl,rfl⟩:=hrel;have s:=J5 (b.take a);have t:L (b.take a)<=a:=List.length_take_le _ _;by_cases g:a<L b
 ·have l:=k a g
  have c:=Eh b a g;generalize b.getD a 0=h at l c;by_cases d:h=10
  ·rw[xU d]at c
   subst d;have HS:=zC c;clear c;go_wp2;go_round
   case rel=>exact⟨a+1,VC,VY,by rw[HS.A]⟩
   simp[intOf];omega
  rw[xK d]at c;have u:(h==10)=VP:=(by simp[d]);have HS:=zC c;clear c d;go_wp2;go_round
  case rel=>exact⟨a+1,VC,VY,by rw[HS.A,Q4]⟩
  simp[intOf];omega
 obtain rfl:a=L b:=VC
 go_wp2;go_ret;exact⟨rfl,rfl⟩
section
open Go.Sort
def yf(b:Bool)(c:List SR):Nat:=(c.map (λa=>if a.put=b then 0 else a.n)).sum
def Ej{b}{a:List SR}{k r}(c:a[k]?=O r):yf b (a.take (k+1))=yf b (a.take k)+(if r.put=b then 0 else r.n):=by
 unfold yf;rw[Qa,c];simp
def Uf{b a m}(d:∀c∈a,c.n<=m):yf b a<=L a*m:=by
 induction a with
 | nil=>simp[yf]
 | cons c a h=>
  have e:=h (λf g=>d f (Qm _ g));have i:=d c (List.mem_cons_self ..);simp only[yf,QK,VA,vA,Nat.add_mul,Nat.one_mul]at e |-
  split<;>omega
def Dq{b g}(k):yf b (g.take k)<=yf b g:=by
 rw[show yf b g=yf b (g.take k++g.drop k)by simp];unfold yf;rw[Qy,Ve];omega
section
variable {w w':World} {B s:Nat} {x:V7} {M:SS}
def Ko.at{b k cap g r}(u:Ko w (VZ (qQ b 0) (L g) cap) g)(o:g[k]?=O r):∃d e f h i j l m,zBn w [.bool r.put,qP r.off,qP r.n,VZ d (L r.bef) e,VZ f (L r.aft) h,VZ i (L r.was) j,VZ l (L r.is) m] r/\VE w (V4 b (k*7))=O (.bool r.put)/\VE w (V4 b (k*7+1))=O (qP r.off)/\VE w (V4 b (k*7+2))=O (qP r.n)/\VE w (V4 b (k*7+3))=O (VZ d (L r.bef) e)/\VE w (V4 b (k*7+4))=O (VZ f (L r.aft) h)/\VE w (V4 b (k*7+5))=O (VZ i (L r.was) j)/\VE w (V4 b (k*7+6))=O (VZ l (L r.is) m):=by
 obtain⟨C,v,x⟩:=u;obtain⟨D,p,y⟩:=x.get o;have B:=(xS.1 o).1;obtain⟨E,F,G,H,rfl,q,z,A⟩:=id p;obtain⟨d,e,rfl⟩:=zS q.1;obtain⟨f,h,rfl⟩:=zS q.2;obtain⟨i,j,rfl⟩:=z.val;obtain⟨l,m,rfl⟩:=A.val
 have a:∀c n,c<7-> [Value.bool r.put,qP r.off,qP r.n,VZ d (L r.bef) e,VZ f (L r.aft) h,VZ i (L r.was) j,VZ l (L r.is) m][c]?=O n->VE w (V4 b (k*7+c))=O n:=λc n s t=>by
  rw[v.cellAt (k*7+c) VC,y c s];exact t
 exact⟨d,e,f,h,i,j,l,m,p,a 0 _ VC rfl,a 1 _ VC rfl,a 2 _ VC rfl,a 3 _ VC rfl,a 4 _ VC rfl,a 5 _ VC rfl,a 6 _ VC rfl⟩
def Ko.lt{b cap n g}(a:Ko w (VZ (qQ b 0) n cap) g):b<N (Y w):=by
 obtain⟨d,c,_⟩:=a;exact(c.lt b rfl).2
def Ko.form{v g}(d:Ko w v g)(i:0<L g):∃b a,v= .slice (qQ b 0) (L g) a/\L g<=a/\a<=VL:=by
 obtain⟨j,e,_⟩:=d;obtain⟨_,c⟩|⟨b,a,k,c,_,_,f,h,_⟩:=e.2
 ·omega
 exact⟨b,a,c,f,h⟩
def Iz(b)(v)(g)(i:Ko w v g)(n:∀c∈g,c.n<=8192)(Q:L g<=100000):
  VM prog 111 #[v,.bool b] w λP w'=>P=V5 (qP (yf b g))/\qa3 w w':=by
 by_cases r:0<L g
 ·obtain⟨am,an,rfl,R,S⟩:=i.form r
  have E:=zC i;have e:=i.lt;have HM:=zC n;have F:=zC (show ∀a,yf b (g.take a)<=819200000 from λa=>by have:=Dq (b:=b) (g:=g) a;have:=Uf (b:=b) n;omega);obtain⟨f,o⟩:∃f,f=L g:=⟨_,rfl⟩
  have G:=zC o;have HT:=zC (show yf b (g.take (L g))=yf b g by simp);rw[<- o]at HT Q r R |-;unfold VL at S;clear i n o;go_enter func111,ntmps111;go_wp2_with fail;go_loopw [10,5] (λm s wr=>∃a:Nat,a<=f/\m=qP a/\s=qP (yf b (g.take a))/\qa3 w wr) (λm _ _=>f-(intOf m).toNat)
  case atStart=>exact⟨0,xY _,rfl,by simp[yf],xF _ _⟩
  obtain⟨a,ao,rfl,rfl,d⟩:=hrel;have p:=zC d;have H:=d.size;have I:=F a;by_cases M:a<f
  ·obtain⟨c,j⟩:∃c,g[a]?=O c:=⟨_,xI (by rw[<- G.A];exact M)⟩
   obtain⟨T,U,V,W,X,Z,aa,ab,_,u,x,y,z,A,B,C⟩:=E.at j;have ac:=(d.U e).R u;have ad:=(d.U e).R x;have ae:=(d.U e).R y;have af:=(d.U e).R z;have ag:=(d.U e).R A;have ah:=(d.U e).R B;have ai:=(d.U e).R C;have aj:(a:Int)<f:=VC;have ak:=HM c (vc j);have k:=zC (Ej (b:=b) j);have q:=zC (p.R (((xF (N (Y wr)) wr).alloc lR (V6 #[.bool c.put,qP c.off,qP c.n,VZ T (L c.bef) U,VZ V (L c.aft) W,VZ X (L c.was) Z,VZ aa (L c.is) ab] 208)).G H));obtain⟨t,D⟩:∃t,t=yf b (g.take a):=⟨_,rfl⟩
   rw[<- D]at I k |-;clear u x y z A B C d j D;by_cases h:c.put=b
   ·have J:(c.put==b)=VR:=by simpa using h
    have l:=zC h;clear h;go_wp2;go_roundw
    case rel=>exact⟨a+1,VC,VY,by rw[k.A,xU l.A,QI],q⟩
    simp[intOf];omega
   have J:(c.put==b)=VP:=(by simpa using h);have l:=zC h;clear h;go_wp2;go_roundw
   case rel=>exact⟨a+1,VC,VY,by rw[k.A,xK l.A];go_num,q⟩
   simp[intOf];omega
  obtain rfl:a=f:=VC;have al:¬ (a:Int)<a:=VC;rw[HT.A];clear d;go_wp2;go_ret;exact⟨rfl,p⟩
 have K:g= []:=xR VC;subst K;obtain⟨s,a,rfl⟩:=i.val;go_enter func111,ntmps111;go_wp2;refine vI 1 ?_;rw[ve];go_wp2;go_ret;exact⟨rfl,xF _ _⟩
def brk7(b:SM w B s x M)(f:L M.tx<=8192):VM prog 65 #[V3 s 0] w λa w'=>a=V5 (qP (brk M.tx))/\w'=w:=by
 obtain⟨g,tk,a⟩:=zS b.tx;have d:=b.blk.c.1;have c:=b.tx;rw[a]at d c;have e:=zC (Ei _ _ w (Rd.qe c) VC);clear b c a;go_enter func65,ntmps65;go_wp2_with fail;refine e.G ?_;rintro a h ⟨rfl,rfl⟩;go_wp2;go_ret;simp
end
end
section
open Go.Sort Go.BigFrame
def RJ:prog.follows .mixedOrders=VR:=VU
def jd{B w0 w}(a:Below B w0 w)(d:B<=N (Y w))(n)(os):Below B w0 (grow (w.drewN n) os):=by
 refine⟨a.os,a.tape,a.output,ku a.size VT,λb c=>?_⟩;rw[<- a.block b c]
 show(w.heap++os)[b]? =w.heap[b]?
 rw[Q9 VC]
def OD(x y)(w):VM prog 164 #[jF x,jF y] w λf g=>f=V5 (.bool (bef x y))/\∃h i,g=grow (w.drewN h) i:=by
 have b:=zC (show(w.alloc _).alloc _=grow (w.drewN 0) #[V6 #[qP x.1,qP x.2.1,qP x.2.2] 168,V6 #[qP y.1,qP y.2.1,qP y.2.2] 168]by rw[alloc_eq_grow,alloc_eq_grow,grow_grow];rfl);unfold jF bef;by_cases c:x.2.1<y.2.1
 ·rw[show decide _=VR by simp[c]]
  go_enter func164,ntmps164;go_wp2;go_ret;exact⟨rfl,0,_,b⟩
 by_cases a:x.2.1=y.2.1
 ·have e:(x.2.1==y.2.1)=VR:=by simpa using a
  by_cases d:x.1<y.1
  ·rw[show decide _=VR by simp[a,d]]
   clear a;go_enter func164,ntmps164;go_wp2;go_ret;exact⟨rfl,0,_,b⟩
  rw[show decide _=VP by simp[c,d]];clear a;go_enter func164,ntmps164;go_wp2;go_ret;exact⟨rfl,0,_,b⟩
 have e:(x.2.1==y.2.1)=VP:=by simpa using a
 rw[show decide _=VP by simp[c,a]];clear a;go_enter func164,ntmps164;go_wp2;go_ret;exact⟨rfl,0,_,b⟩
end
def yn(b c:Int)(a:Mk):Int:=if a.2.1 > b\/(a.2.1=b/\a.2.2=1)then a.2.1+c else a.2.1
def js(b c:Int)(a:Mk):Int:=if a.2.1 > b then max b (a.2.1-c)else a.2.1
def mov(b:Mk->Int)(a:Mk):Mk:=(a.1,b a,a.2.2)
def KJ(f)(a:List Mk)(k)(x)(b:a[k]?=O x):(z8 ((a.take k).map (mov f)++a.drop k)).set (k*3+1) (qP (f x))=z8 ((a.take (k+1)).map (mov f)++a.drop (k+1)):=by
 have d:=(xS.1 b).1
 have e:a.drop k=x::a.drop (k+1):=by
  rw[ko d];have:=xS.1 b;rw[this.2]
 have g:L ((a.take k).map (mov f))=k:=VV
 have c:=MG ((a.take k).map (mov f)) x (f x) (a.drop (k+1));rw[g]at c;rw[e,c,Qa,b];simp[mov]
def Ju(v lo hi c)(w):VM prog 74 #[qP v,qP lo,qP hi,qP c] w λb d=>b=V5 (yq (decide (lo<=v/\v<=hi)) c)/\d=w:=by
 have a:=zC (Jt v lo hi w);cases hd:decide (lo<=v/\v<=hi)with
 | true=>
  rw[hd]at a;clear hd;go_enter func74,ntmps74;go_wp2_with fail;refine a.G ?_;rintro b e ⟨rfl,rfl⟩;go_wp2;go_ret;exact⟨rfl,rfl⟩
 | false=>
  rw[hd]at a;clear hd;go_enter func74,ntmps74;go_wp2_with fail;refine a.G ?_;rintro b e ⟨rfl,rfl⟩;go_wp2;go_ret;exact⟨rfl,rfl⟩
def bel(b:Nat)(c:Jo):Prop:=∀a,VD c=O a->a<b
structure Gr where
 cells:qa0
 lo:Int
 hi:Int

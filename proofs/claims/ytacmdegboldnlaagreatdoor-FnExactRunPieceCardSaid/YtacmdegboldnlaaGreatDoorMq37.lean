import Derived.Test.YtacmdegboldnlaaGreatDoorMq32
import Derived.Test.YtacmdegboldnlaaGreatDoorMq34
import Derived.Test.YtacmdegboldnlaaGreatDoorMq36
set_option linter.all false
set_option maxRecDepth 100000
set_option maxHeartbeats 8000000
namespace Go.Proofs.YtacmdegboldnlaaGreatDoor
open Go Go.RowKit Go.Proofs.Tryz
open _root_.Array renaming size→N
open Bool renaming false→VP,true→VR
open List renaming length→L
open Option renaming some→O
open _root_.Go.Value renaming ownBlock→VD
open _root_.Go.World renaming alloc→VF,cell?→VE,heap→Y
inductive LS:List LE->qa0->Prop
 | nil:LS [] []
 | ins {g:List LE} {t ts:qa0} {off:Nat}:LS g t->off<=L t->0<L ts->L t+L ts<=8192->YF g+L ts<=220000->LS (g++ [⟨1,off,0,ts⟩]) (t.take off++(ts++t.drop off))
 | rem {g:List LE} {t:qa0} {lo hi:Nat}:LS g t->lo<hi->hi<=L t->LS (g++ [⟨2,lo,hi,[]⟩]) (t.take lo++t.drop hi)
 | lod {g:List LE} {t ts:qa0}:LS g t->L ts<=8192->LS (g++ [⟨3,0,0,ts⟩]) ts
 | see {g:List LE} {t:qa0} {off:Nat}:LS g t->off<=L t->LS (g++ [⟨4,off,0,[]⟩]) t
 | kno {g:List LE} {t:qa0} {line:Nat}:LS g t->(line:Int)<=brk t->LS (g++ [⟨5,line,0,[]⟩]) t
structure zC1(d k:Nat)(a:qa0)(ms:List Mk)(b c:List (List SR))(e:List SR):Prop where
 tl:L a<=8192
 mv:MV ms (L a)
 nl:L b+L c<=d
 gl:∀g,g∈b\/g∈c->0<L g/\L g<=k
 cu:∃t,Ch t (b.flatten++e) a
 cr:∃t,Ch a c.reverse.flatten t
structure Iv(k:Nat)(M:SS):Prop where
 cp:1<=M.cp/\M.cp<=1000
 sp:M.sp<=200000
 doc:zC1 M.cp k M.tx M.ms M.un M.re (if M.op then M.gr else [])
 gr:L M.gr<=k
 og:M.op=VR->M.gr≠ []->M.re= []
 sl:L M.sl=8/\∀(i:Nat)(a:SK),M.sl[i]?=O (O a)->zC1 M.cp k a.tx a.ms a.un a.re []
 ll:L M.lg<=k*10000
 ls:LS M.lg M.tx
 sz:YF M.lg<=M.sp+8192
section
variable {k:Nat} {M:SS} {cp:Nat} {tx:List Int} {ms:List Mk} {un re:List (List SR)} {gr:List SR}
def zC1.G{k'}(a:zC1 cp k tx ms un re gr)(d:k<=k'):zC1 cp k' tx ms un re gr:=⟨a.tl,a.mv,a.nl,λb c=>⟨(a.gl b c).1,ku (a.gl b c).2 d⟩,a.cu,a.cr⟩
def Iv.lm(a:Iv k M):L M.lg<=(k+1)*10000:=ku a.ll (Vw _ (Nat.le_succ k))
def Iv.qk(c:Iv k M):L M.sl=8/\∀(b:Nat)(a),M.sl[b]?=O (O a)->zC1 M.cp (k+1) a.tx a.ms a.un a.re []:=⟨c.sl.1,λb a d=>(c.sl.2 b a d).G VC⟩
def Iv.next(a:Iv k M):Iv (k+1) M:=⟨a.cp,a.sp,a.doc.G VC,by have:=a.gr;omega,a.og,a.qk,a.lm,a.ls,a.sz⟩
def Iv.paid{n}(a:Iv k M)(b:n<=200000)(c:M.sp<=n):Iv k {M with sp:=n}:=⟨a.cp,b,a.doc,a.gr,a.og,a.sl,a.ll,a.ls,ku a.sz (by simp_all)⟩
def Iv.see{off}(a:Iv k M)(b:off<=L M.tx):Iv (k+1) {M with lg:=M.lg++ [⟨4,off,0,[]⟩]}:=⟨a.cp,a.sp,a.doc.G VC,by have:=a.gr;grind,a.og,a.qk,by have:=a.ll;grind,a.ls.see b,by show YF (_++ [_])<=M.sp+8192;rw[Jb];exact a.sz⟩
def Iv.kno{b:Nat}(a:Iv k M)(c:b<=brk M.tx):Iv (k+1) {M with lg:=M.lg++ [⟨5,b,0,[]⟩]}:=⟨a.cp,a.sp,a.doc.G VC,by have:=a.gr;grind,a.og,a.qk,by have:=a.ll;grind,a.ls.kno c,by show YF (_++ [_])<=M.sp+8192;rw[Jb];exact a.sz⟩
def Iv.begin(a:Iv k M)(d:M.op=VP):Iv (k+1) {M with op:=VR,gr:=[]}:=by
 have b:=a.doc;rw[d]at b;exact⟨a.cp,a.sp,b.G VC,xY _,λ_ c=>absurd rfl c,a.qk,a.lm,a.ls,a.sz⟩
def GJ{α c l}{b a:α}(d:a∈jT c l b):a∈l\/a=b:=by
 grind [jT,List.mem_of_mem_drop]
def Ch.psh{t v g c}(a:Ch t (un.flatten++g) v):∃d,Ch d (jT c un g).flatten v:=by
 have b:(un++ [g]).flatten=un.flatten++g:=VT
 rw[<- b]at a;unfold jT
 split
 ·cases hl:un++ [g]with
  | nil=>grind
  | cons h i=>
   rw[hl,List.flatten_cons]at a;obtain⟨e,_,f⟩:=a.cut
   grind
 grind
def Iv.endE(a:Iv k M)(d:M.op=VR)(e:M.gr= []):Iv (k+1) {M with op:=VP}:=by
 have b:=a.doc;rw[d,xU rfl,e]at b;exact⟨a.cp,a.sp,b.G VC,by simp_all,λc=>(by cases c),a.qk,a.lm,a.ls,a.sz⟩
def Iv.end(a:Iv k M)(e:M.op=VR)(m:0<L M.gr):Iv (k+1) {M with op:=VP,un:=jT M.cp M.un M.gr}:=by
 have b:=a.doc;have i:=a.og e (by grind);rw[e,xU rfl]at b;obtain⟨n,ht⟩:=b.cu;have j:=b.nl;have l:=a.gr;refine⟨a.cp,a.sp,⟨b.tl,b.mv,?_,λf g=>?_,?_,b.cr⟩,by grind,λd=>(by cases d),a.qk,a.lm,a.ls,a.sz⟩
 ·grind [jT,Ef]
 ·obtain d|d:=g
  ·obtain h|rfl:=GJ d
   ·have:=b.gl f (.inl h);omega
   omega
  grind
 obtain⟨o,d⟩:=ht.psh (c:=M.cp)
 grind
def edR_rv{lo hi ps}(b:MV M.ms (L M.tx))(l:L M.tx<=8192)(h:hi=lo/\0<L ps/\lo<=L M.tx/\L M.tx+L ps<=8192\/lo<hi/\hi<=L M.tx/\ps= []):RV (Xd M lo hi ps)/\MV (Lf M lo hi ps) (L (PI M lo hi ps)):=by
 have c:MV (Lf M lo hi ps) (L (PI M lo hi ps)):=by
  unfold Lf PI;obtain⟨rfl,e,f,i⟩|⟨e,f,rfl⟩:=h
  ·rw[xU rfl]
   have:=b.push (off:=hi) i
   grind
  rw[xK VC];have:=b.pull (off:=lo) (k:=hi-lo) VC l
  grind
 refine⟨?_,c⟩;obtain⟨rfl,e,f,i⟩|⟨e,f,rfl⟩:=h
 ·have a:U6 (Xd M hi hi ps)=PI M hi hi ps:=by simp[U6,Xd]
  have d:Tg (Xd M hi hi ps)=M.tx:=by simp[Tg,Xd]
  have j:L (PI M hi hi ps)=L M.tx+L ps:=by
   unfold PI;simp only[xL,xO,xZ];omega
  refine⟨by show 0<hi-hi+L ps;omega,by rw[a,j];show hi+(hi-hi+L ps)<=_;omega,by simp_all,?_,b,c⟩;rw[a,d]
  show M.tx=(PI M hi hi ps).take hi++(PI M hi hi ps).drop (hi+(hi-hi+L ps))
  have m:L (M.tx.take hi)=hi:=(by rw[xO];omega);unfold PI
  simp_all[kg,vX,QT,Qb,vL,Qn,Vj,vK]
 have g:decide (hi=lo)=VP:=decide_eq_false VC;have a:U6 (Xd M lo hi [])=M.tx:=by simp[U6,Xd,g]
 have d:Tg (Xd M lo hi [])=PI M lo hi []:=by simp[Tg,Xd,g]
 refine⟨by show 0<hi-lo+0;omega,by rw[a];show lo+(hi-lo+0)<=_;omega,by simp_all,?_,b,c⟩;rw[a,d]
 show PI M lo hi []=M.tx.take lo++M.tx.drop (lo+(hi-lo+0))
 rw[show lo+(hi-lo+0)=hi by omega];rfl
def Iv.ed{lo hi ps}(a:Iv k M)(i:hi=lo/\0<L ps/\lo<=L M.tx/\L M.tx+L ps<=8192\/lo<hi/\hi<=L M.tx/\ps= [])(x:YF M.lg+L ps<=M.sp+8192):Iv (k+1) (Fy M lo hi ps):=by
 obtain⟨s,p⟩:=edR_rv a.doc.mv a.doc.tl i;have v:=a.gr;have w:=a.ll;have j:=a.cp;have b:=a.doc
 have l:L (PI M lo hi ps)<=8192:=by
  have:=b.tl;unfold PI;simp only[xL,xO,xZ];obtain⟨rfl,e,f,q⟩|⟨e,f,rfl⟩:=i<;>simp<;>omega
 have m:LS (M.lg++ [zAp lo hi ps]) (PI M lo hi ps):=by
  unfold zAp PI;obtain⟨rfl,e,f,q⟩|⟨e,f,rfl⟩:=i
  ·rw[xU rfl];exact a.ls.ins f e q (by have:=a.sp;omega)
  rw[xK VC,vL];exact a.ls.rem e f
 have n:YF (M.lg++ [zAp lo hi ps])<=M.sp+8192:=by
  rw[Jb];unfold zBq zAp
  split<;>simp<;>omega
 have o:Ch M.tx [Xd M lo hi ps] (PI M lo hi ps):=⟨s,rfl,rfl⟩
 unfold Fy;cases ho:M.op with
 | true=>
  rw[ho,xU rfl]at b;obtain⟨r,ht⟩:=b.cu;refine⟨j,a.sp,⟨l,p,?_,λg h=>?_,⟨r,?_⟩,⟨_,rfl⟩⟩,?_,λ_ _=>rfl,a.qk,?_,m,n⟩
  ·have:=b.nl;grind
  ·obtain d|d:=h
   ·have:=b.gl g (.inl (by simp_all));omega
   grind
  ·have:=ht.app o;simp_all
  ·grind
  grind
 | false=>
  rw[ho]at b;obtain⟨r,ht⟩:=b.cu;obtain⟨t,y⟩:=Ch.psh (c:=M.cp) (Ch.app (by simpa using ht) o);refine⟨j,a.sp,⟨l,p,?_,λg h=>?_,⟨t,?_⟩,⟨_,rfl⟩⟩,?_,λd=>(by cases d),a.qk,?_,m,n⟩
  ·have:=b.nl
   grind [Xd,Ef]
  ·obtain d|d:=h
   ·simp at d
    obtain u|rfl:=GJ d
    ·have:=b.gl g (.inl u);omega
    simp
   grind
  ·simp_all
  ·grind
  grind
def Iv.marks{ms'}(a:Iv k M)(b:MV ms' (L M.tx)):Iv (k+1) {M with ms:=ms'}:=⟨a.cp,a.sp,⟨a.doc.tl,b,a.doc.nl,(a.doc.G (Nat.le_succ k)).gl,a.doc.cu,a.doc.cr⟩,by have:=a.gr;grind,a.og,a.qk,a.lm,a.ls,a.sz⟩
theorem MV.set{m n}(h:MV ms n)(q:n<=8192)(d:Wm ms m n=0):MV (Z0 (ms++ [m])) n:=by
 unfold Wm at d
 split at d
 ·omega
 split at d
 ·omega
 split at d
 ·omega
 split at d
 ·omega
 rename_i g i f j;have g:=by simpa using g
 have i:=by simpa using i
 have f:=by simpa using f
 have j:=by simpa using j
 have k:∀a∈ms++ [m],(Xe a=VR/\Ts a=VR)/\a.2.1<=n:=λa c=>by
  obtain e|e:=xV.1 c
  ·exact⟨h.1.2.1 a e,h.2 a e⟩
  rw[Vb]at e;subst e;exact⟨⟨g,decide_eq_true ⟨f.1,VC⟩⟩,f.2⟩
 refine⟨zAc (by grind) (λa c=>(k a c).1) ?_,λa c=>(k a ((Zh _).subset c)).2⟩;rw[Vg];refine⟨h.1.ids,VT,λl o b p=>?_⟩
 grind [List.mem_singleton,ZI]
def MV.cut{j n}(b:MV ms n):MV (GI ms j) n:=by
 have a:(GI ms j).Sublist ms:=by
  have:(ms.take j++ms.drop (j+1)).Sublist (ms.take j++ms.drop j):=List.Sublist.append (Vv _) (by grind);rw[vK]at this;exact this
 exact⟨⟨ku a.length_le b.1.1,λc d=>b.1.2.1 c (a.subset d),b.1.2.2.sublist a⟩,λc d=>b.2 c (a.subset d)⟩
def Iv.snap{i}(c:Iv k M)(g:M.op=VP):Iv (k+1) {M with sl:=M.sl.set i (O ⟨M.tx,M.ms,M.un,M.re⟩)}:=by
 have d:=c.doc;rw[g]at d;have a:=c.next;refine⟨a.cp,a.sp,a.doc,a.gr,a.og,⟨by simp[c.sl.1],λe f b=>?_⟩,a.ll,a.ls,c.sz⟩;rw[QG]at b
 split at b
 ·split at b
  ·simp at b
   subst b;exact d.G VC
  grind
 exact c.qk.2 e f b
def Iv.back{c:Nat}{kk}(a:Iv k M)(f:M.op=VP)(d:M.sl[c]?=O (O kk)):Iv (k+1) {M with tx:=kk.tx,ms:=kk.ms,un:=kk.un,re:=kk.re,lg:=M.lg++ [⟨3,0,0,kk.tx⟩]}:=by
 have b:=a.qk.2 c kk d;refine⟨a.cp,a.sp,?_,by have:=a.gr;grind,λe=>(by simp_all),a.qk,by have:=a.ll;grind,a.ls.lod b.tl,by show YF (_++ [_])<=M.sp+8192;rw[Jb];have:=b.tl;grind [zBq]⟩
 simp_all
end
section
variable {k:Nat} {M:SS} {b:Bool}
theorem XK(b):∀(a:List SR)(M),(a.foldl (JX b) M).sp=M.sp/\(a.foldl (JX b) M).sl=M.sl/\(a.foldl (JX b) M).gr=M.gr/\(a.foldl (JX b) M).op=M.op
 | [],_=>⟨rfl,rfl,rfl,rfl⟩
 | c::a,M=>XK b a (JX b M c)
def RV.ls{r}(a:RV r)(ht:M.tx=Kj r (!b))(c:LS M.lg M.tx)(h:(r.put != b)=VR->YF M.lg+r.n<=220000):LS (JX b M r).lg (JX b M r).tx:=by
 have e:=a.sl;have f:=a.lb;have d:=a.on;have g:=a.n0
 show LS (M.lg++ [Tw r b]) (Kj r b)
 unfold Tw;cases hp:(r.put != b)with
 | true=>
  rw[ht,(JI hp).2]at c;rw[cond_true,(JI hp).1,<- Ih,<- a.go];exact c.ins VC (by have:=a.rl;omega) (by have:=a.rl;omega) (by have:=a.rl;simp_all)
 | false=>
  rw[ht,(YK hp).2]at c;rw[cond_false,(YK hp).1,a.ed];exact c.rem VC d
def Ch.undoL{t u g}(f:Ch t g u)(ht:M.tx=u)(h:MV M.ms (L M.tx))(n:LS M.lg M.tx)(o:YF M.lg+yf VR g<=220000):∀a≤L g,LS (jq g (L g-a) M).lg (jq g (L g-a) M).tx
 | 0,_=>by
  grind [jq]
 | a+1,y=>by
  have d:=Ch.undoL f ht h n o a VC;obtain⟨i,s⟩:=Ch.undo f ht h a VC;have e:L g-a=L g-(a+1)+1:=VC;have c:g[L g-(a+1)]?=O _:=xI VC;generalize g[L g-(a+1)]=l at c;generalize L g-(a+1)=m at*;rw[e,Qa,c]at i;rw[e]at d;obtain⟨v,w,p,x,q⟩:=i.cut;rw[Kk c]
  exact p.ls q.J d (λr=>by
   have j:=JK VR (g.drop (m+1)).reverse M;have k:=DU (b:=VR) c;rw[DT]at j;rw[xK (by simp_all)]at k
   show YF ((g.drop _).reverse.foldl _ M).lg+l.n<=220000
   omega)
def Ch.redoL{u v g}(e:Ch u g v)(ht:M.tx=u)(f:MV M.ms (L M.tx))(h:LS M.lg M.tx)(k:YF M.lg+yf VP g<=220000):∀a≤L g,LS (yT g a M).lg (yT g a M).tx
 | 0,_=>h
 | a+1,o=>by
  have i:=Ch.redoL e ht f h k a VC;obtain⟨c,n⟩:=Ch.redo e ht f a VC;have d:g[a]?=O g[a]:=xI VC;rw[ko VC]at c;rw[XH d]
  exact c.1.ls c.2.1 i (λm=>by
   have l:=JK VP (g.take a) M;have j:=DU (b:=VP) d;rw[xK (by simp_all)]at j
   show YF ((g.take a).foldl _ M).lg+(g[a]'VC).n<=220000
   omega)
def Iv.undoT{U g}(d:Iv k M)(e:M.op=VP)(f:M.un=U++ [g]):∃c a,Ch c U.flatten a/\Ch a g M.tx:=by
 have b:=d.doc;rw[e,f]at b;obtain⟨c,ht⟩:=b.cu;simp at ht;obtain⟨a,h,i⟩:=ht.cut
 grind
def Iv.redoT{U g}(d:Iv k M)(e:M.re=U++ [g]):∃a c,Ch M.tx g a/\Ch a U.reverse.flatten c:=by
 have b:=d.doc;rw[e]at b;obtain⟨f,ht⟩:=b.cr;simp at ht;obtain⟨a,h,i⟩:=ht.cut
 grind
def Iv.undo{U g}(a:Iv k M)(R:k<=10000)(w:M.op=VP)(m:M.un=U++ [g])(S:M.sp+yf VR g<=200000):Iv (k+1) {jq g 0 {M with sp:=M.sp+yf VR g} with un:=U,re:=M.re++ [g]}:=by
 obtain⟨x,y,T,c⟩:=a.undoT w m;have H:=a.doc.gl g (.inl (by simp_all));have f:=a.doc.mv;obtain⟨n,o⟩:=c.undo (M:={M with sp:=M.sp+yf VR g}) rfl f (L g) lR;have h:=c.undoL (M:={M with sp:=M.sp+yf VR g}) rfl f a.ls (by have:=a.sz;grind) (L g) lR;have i:=XK VR (g.drop 0).reverse {M with sp:=M.sp+yf VR g};have j:=JG VR (g.drop 0).reverse {M with sp:=M.sp+yf VR g};have r:=Kl VR (g.drop 0).reverse {M with sp:=M.sp+yf VR g};have l:=JK VR (g.drop 0).reverse {M with sp:=M.sp+yf VR g};rw[DT,ke]at l;have I:=a.sz;rw[Qj]at n o h
 change (jq g 0 _).sp=_/\(jq g 0 _).sl=_/\(jq g 0 _).gr=_/\(jq g 0 _).op=_ at i
 change (jq g 0 _).un=_/\(jq g 0 _).re=_/\(jq g 0 _).cp=_ at j
 change L (jq g 0 _).lg=_ at r
 change YF (jq g 0 _).lg<=YF M.lg+_ at l
 generalize jq g 0 {M with sp:=M.sp+yf VR g}=N at*;obtain⟨z,A,B,C⟩:=i;obtain⟨D,E,F⟩:=j;simp at z A B C D E F;have J:=a.qk;have K:=a.cp;have P:=a.gr;have Q:=a.ll;have s:=a.doc.nl;have t:=a.doc.cr;rw[m]at s;have u:y=N.tx:=n;subst u;refine⟨by simp_all,by simp_all,⟨?_,o,?_,λd v=>?_,⟨x,?_⟩,?_⟩,by grind,λe=>?_,?_,?_,h,by grind⟩
 ·show L N.tx<=8192
  cases hgq:g with
  | nil=>simp_all
  | cons V d=>
   rw[hgq]at c;rw[c.2.1];exact c.1.tl (b:=VR)
 ·grind
 ·show 0<L d/\L d<=k+1
  obtain e|e:=v
  ·have:=a.doc.gl d (.inl (by simp_all));omega
  obtain p|p:=xV.1 e
  ·have:=a.doc.gl d (.inr p);omega
  grind
 ·simp_all
 ·obtain⟨q,G⟩:=t
  refine⟨q,?_⟩
  show Ch N.tx (M.re++ [g]).reverse.flatten q
  simp;exact c.app G
 ·simp_all
 ·grind
 grind
def Iv.redo{U g}(a:Iv k M)(W:k<=10000)(q:M.op=VP)(r:M.re=U++ [g])(X:M.sp+yf VP g<=200000):Iv (k+1) {yT g (L g) {M with sp:=M.sp+yf VP g} with re:=U,un:=M.un++ [g]}/\M.un++ [g]=jT M.cp M.un g:=by
 obtain⟨A,B,d,C⟩:=a.redoT r;have K:=a.doc.gl g (.inr (by simp_all));have h:=a.doc.mv;obtain⟨s,D⟩:=d.redo (M:={M with sp:=M.sp+yf VP g}) rfl h (L g) lR;have v:=d.redoL (M:={M with sp:=M.sp+yf VP g}) rfl h a.ls (by have:=a.sz;grind) (L g) lR;have i:=XK VP (g.take (L g)) {M with sp:=M.sp+yf VP g};have j:=JG VP (g.take (L g)) {M with sp:=M.sp+yf VP g};have w:=Kl VP (g.take (L g)) {M with sp:=M.sp+yf VP g};have m:=JK VP (g.take (L g)) {M with sp:=M.sp+yf VP g};have P:=a.sz;rw[Vj]at s
 change (yT g (L g) _).sp=_/\(yT g (L g) _).sl=_/\(yT g (L g) _).gr=_/\(yT g (L g) _).op=_ at i
 change (yT g (L g) _).un=_/\(yT g (L g) _).re=_/\(yT g (L g) _).cp=_ at j
 change L (yT g (L g) _).lg=_ at w
 change YF (yT g (L g) _).lg<=YF M.lg+_ at m
 rw[QD]at m;generalize yT g (L g) {M with sp:=M.sp+yf VP g}=N at*;obtain⟨E,F,G,t⟩:=i;obtain⟨H,I,J⟩:=j;simp at E F G t H I J;have Q:=a.qk;have R:=a.cp;have S:=a.gr;have T:=a.ll;have n:=a.doc.nl;have o:=a.doc.cu;rw[r]at n;simp only[xL,vA,vS]at n;have x:N.tx=A:=s;subst x;refine⟨⟨by simp_all,by simp_all,⟨?_,D,?_,λe z=>?_,?_,⟨B,C⟩⟩,by grind,λc=>?_,?_,?_,v,by grind⟩,?_⟩
 ·show L N.tx<=8192
  have y:g[L g-1]?=O g[L g-1]:=xI VC
  have p:g=g.take (L g-1)++ [g[L g-1]]:=by
   conv=>lhs;rw[<- QD (l:=g),show L g=L g-1+1 by omega,Qa,y]
   rfl
  generalize g[L g-1]=V at p;rw[p]at d;obtain⟨_,_,f,_,c⟩:=d.cut;rw[<- (c)];exact f.tl (b:=VP)
 ·grind
 ·show 0<L e/\L e<=k+1
  obtain c|c:=z
  ·obtain f|f:=xV.1 c
   ·have:=a.doc.gl e (.inl f);omega
   grind
  have:=a.doc.gl e (.inr (by simp_all));omega
 ·rw[q]at o
  obtain⟨u,ht⟩:=o;refine⟨u,?_⟩
  show Ch u ((M.un++ [g]).flatten++if N.op then N.gr else []) N.tx
  rw[t,q];simp at ht |-;exact ht.app d
 ·simp_all
 ·grind
 ·grind
 grind [jT]
def Iv.gn{g}(c:Iv k M)(d:g∈M.un\/g∈M.re)(e:M.op=VP):∀a∈g,RV a:=by
 intro a i;have b:=c.doc;rw[e]at b;obtain f|f:=d
 ·obtain⟨h,ht⟩:=b.cu
  exact ht.rv a (by simp;grind)
 obtain⟨h,ht⟩:=b.cr;exact ht.rv a (by simp;grind)
end
noncomputable def WV (g:List LE):Xc:=zBv.run g
noncomputable def apQ (s:Xc) (l:LE):Xc:=if l.kd=1 then WR s l.lo l.tx else if l.kd=2 then WS s l.lo (l.hi - l.lo)else if l.kd=3 then Ji l.tx else if l.kd=4 then s else s
def Zq(g)(l):WV (g++ [l])=apQ (WV g) l:=KX.run_snoc zBv g l
def LS.vq{b c}(j:LS b c):VQ (WV b)/\(WV b).t=c:=by
 induction j with
 | nil=>exact⟨VQ.nil,rfl⟩
 | @ins b c k g e f l o n a=>
  have i:=KX.siz_run zBv b;have d:=a.1.ins (by rw[a.2];exact f) l (by simp_all) (ku (Nat.add_le_add_right i _) n);rw[Zq];exact⟨d.1,d.2.R (by rw[a.2])⟩
 | @rem b c lo hi e h p a=>
  have d:=a.1.rem (off:=lo) (m:=hi-lo) (by grind);rw[Zq];exact⟨d.1,d.2.R (by grind)⟩
 | @lod b c k e h a=>rw[Zq];exact VQ.lod h
 | @see b c g e f a=>rw[Zq];exact a
 | @kno b c q e f a=>rw[Zq];exact a
structure WW(w:V8)(lo hi:Nat)(vs a:Jo)(b:qa0×List It):Prop where
 st:zH w lo vs b.1
 sb:bel hi vs
 it:zL w lo a b.2
 ib:bel hi a
abbrev DV(b:V8)(c d:Nat)(e f:Jo)(a:Xc):Prop:=WW b c d e f (a.1,a.2.tT 0)
section
variable {w w':World} {lo hi lo' hi':Nat} {vs vi:Value} {z:List Int×List It} {s:Xc}
def WW.frame(b:WW w lo hi vs vi z)(d:∀a,lo<=a->a<hi->w'.heap[a]? =w.heap[a]?):WW w' lo hi vs vi z:=
 ⟨zD b.st (λa c=>d a (b.st.lt a c).1 (b.sb a c)),b.sb,zD b.it (λa c=>d a (Qu b.it a c).1 (b.ib a c)),b.ib⟩
theorem WW.I{B}(c:WW w lo hi vs vi z)(d:Below B w w')(e:hi<=B):WW w' lo hi vs vi z:=c.frame (λa _ b=>d.block a (vh b e))
def WW.G(a:WW w lo hi vs vi z)(d:lo'<=lo)(e:hi<=hi'):WW w lo' hi' vs vi z:=
 ⟨zF a.st d,λb c=>vh (a.sb b c) e,zF a.it d,λb c=>vh (a.ib b c) e⟩
theorem WW.val(e:WW w lo hi vs vi z):∃a b c d,vs= .slice a (L z.1) b/\vi= .slice c (L z.2) d:=by
 obtain⟨a,b,f⟩:=zS e.st;obtain⟨c,d,g⟩:=yg e.it
 simp_all
def WW.none(w)(lo hi):WW w lo hi V0 V0 ([],[]):=
 ⟨vz _ _ _ _,λq a=>by grind [VD],vz _ _ _ _,λq a=>by grind [VD]⟩
theorem DV.val(e:DV w lo hi vs vi s):∃a b c d,vs= .slice a (L s.1) b/\vi= .slice c s.2.tI d:=by
 grind [WW.val,AT.tQ]
def DV.src{sa sc}(a:DV w lo hi (VZ sa (L s.1) sc) vi s):Me w sa (L s.1) sc s.1:=by
 refine⟨rfl,?_⟩;obtain⟨b,d⟩|⟨c,e,f,b,_⟩:=id a.st.2
 ·simp_all
 simp only[kL]at b;obtain⟨rfl,_,rfl⟩:=b;exact .inr ⟨c,0,rfl,(a.st.lt c rfl).2,zy rfl a.st⟩
def QbP(b:V8)(c:Xc)(d:Ending)(a:V8):Prop:=∃vs vi,d=V5 (.agg #[vs,vi])/\DV a (N (Y b)) (N (Y a)) vs vi c/\qa3 b a
def XF.qb{S T a}(f:XF w S (T.tT 0) a w'):QbP w (S,T) a w':=by
 obtain⟨vs,vi,a,d,e,g,_⟩:=f;exact⟨vs,vi,a,⟨d,λb c=>(d.lt b c).2,e,λb c=>(Qu e b c).2⟩,g⟩
def repInsQ{off b o ct ts}(a:DV w lo hi vs vi s)(c:VQ s)(m:off<=L s.t)(n:0<L ts)(p:L s.t+L ts<=8192)(e:L s.1+L ts<=220000)(f:b<N (Y w))(g:yl w b o ts):
  Calls prog 15 #[.agg #[vs,vi],qP off,VZ (qQ b o) (L ts) ct] w (QbP w (WR s off ts)):=by
 obtain⟨h,i,j,k,rfl,rfl⟩:=a.val;have l:=c.rns;have d:=insS s.1 ts s.2 h i lo j k b o ct off w a.src g f a.it c.ok c.bal c.wp VC VC VC e;rw[xK VC]at d;exact d.G (λd w' a=>a.qb)
def repDelQ{a b}(c:DV w lo hi vs vi s)(d:VQ s)(r:a<b)(f:b<=L s.t):
  Calls prog 16 #[.agg #[vs,vi],qP a,qP b] w (QbP w (WS s a (b-a))):=by
 obtain⟨t,i,j,k,rfl,rfl⟩:=c.val;have q:=d.rns;obtain⟨_,⟨rfl,l,_⟩ | ⟨m,n,rfl,o,p⟩⟩:=c.src
 ·have g:s.t= []:=by unfold Xc.t;rw[xR l,EC]
  rw[g]at f;simp at f;omega
 have e:=delS s.1 s.2 m n i lo j k a b w p o c.it d.ok d.bal d.wp VC VC VC d.n;rw[xK VC]at e;have h:WS s a (b-a)=(s.1,YO s.1 s.2 a b):=by unfold WS;rw[show a+(b-a)=b by omega]
 rw[h];exact e.G (λe w' c=>c.qb)
def repLodQ{v ts}(i:Pt w v ts)(f:L ts<=8192):
  Calls prog 17 #[v] w λe w'=>∃vs vi,e=V5 (.tuple #[.agg #[vs,vi],qP 0])/\DV w' (N (Y w)) (N (Y w')) vs vi (Ji ts)/\qa3 w w':=by
 obtain⟨a,b,rfl,j⟩:∃a b,v= .slice a (L ts) b/\Me w a (L ts) b ts:=by
  obtain⟨rfl,rfl⟩|⟨k,l,p,rfl,⟨_,_,q,r,m⟩,n⟩:=i
  ·exact⟨none,0,rfl,rfl,.inl ⟨rfl,rfl,rfl⟩⟩
  exact⟨_,_,rfl,rfl,.inr ⟨k,l,rfl,(xG.1 m).1,n⟩⟩
 refine(SF ts a b w j f).G ?_;rintro e w' ⟨vs,vi,rfl,g,h,o,_⟩;rw[DD f];exact⟨vs,vi,rfl,⟨g,λc d=>(g.lt c d).2,h,λc d=>(Qu h c d).2⟩,o⟩
end
def Tk(a:V8):Prop:=VE a (V4 0 0)=O (.iface 179 (.agg #[V3 2 66]))
def BM(i:SS)(j k l m:Int)(n:qa0)(o p q:Int)(r:qa0)(s:List Mk)(t:SS):Prop:=∀(a)(c b)(h)(d)(e f),SM a c b h i->(∀g,qa3 a g->Rd .u8 g (VZ d e f) n)->
 Calls prog 33 #[V3 b 0,.agg (yZ j k l m (VZ d e f))] a (zCc a c b o p q r s t)
def BE(k:SS)(l m n o:Int)(p:qa0)(q r s:Int)(t:qa0)(u:List Mk)(v:SS):Prop:=∀(d)(a)(e)(b f)(j)(g)(h i),EX d a e b f j k->(∀c,qa3 a c->Rd .u8 c (VZ g h i) p/\Wt c)->Tk a->
 Calls prog 50 #[V3 b 0,.agg (yZ l m n o (VZ g h i))] a (SX d a e b f q r s t u v)
section
variable {k:Nat} {M M':SS} {kd b0 b1 b2:Int} {bs:List Int} {x1 x2:Int} {T:List Int} {ms:List Mk} {ec:Int}
def Iv.hx(a:Iv k M):L M.tx<=8192/\L M.un<=1000000/\L M.re<=1000000:=by
 have:=a.doc.tl;have:=a.doc.nl;have:=a.cp;omega
def Tl{zs line col}(a:0<=ZV zs line col):0<=line/\line<=brk zs:=by
 grind [ZV]
def ja{w W W2}(a:qa3 w W)(b:qa3 W W2):qa3 w W2:=a.R (b.G a.size)
def Pg(i:FuncId)(j:SS)(k l m n:Int)(o:qa0)(p q r:Int)(s:qa0)(t:List Mk)(u:SS):Prop:=∀(a)(b c)(h)(d)(e f),SM a b c h j->(∀g,qa3 a g->Rd .u8 g (VZ d e f) o)->A7 i a b c k l m n (VZ d e f) p q r s t u
def bm(c:Iv k M')(o:Pg 64 M kd b0 b1 b2 bs 0 x1 x2 T ms M'):BM M kd b0 b1 b2 bs 0 x1 x2 T ms M':=λp d e f g h i a j=>step7 kd a (λl b=>o l d e f g h i (a.I b) (λm n=>j m (ja b n))) c.hx.1 c.hx.2
def Wn(c:Iv k M)(o:¬ec=0)(p:Pg 64 M kd b0 b1 b2 bs ec 0 0 [] [] M):BM M kd b0 b1 b2 bs ec 0 0 [] [] M:=λq d e f g h i a j=>stepN7 ec kd o a (λl b=>p l d e f g h i (a.I b) (λm n=>j m (ja b n))) c.hx.1 c.hx.2
def GN(m:kd=1\/kd=2\/kd=3\/kd=4\/kd=5\/kd=16)(n:Pg 86 M kd b0 b1 b2 bs ec x1 x2 T ms M'):Pg 64 M kd b0 b1 b2 bs ec x1 x2 T ms M':=λo c d e f g h a i=>actT7 kd m a (λj b=>n j c d e f g h (a.I b) (λk l=>i k (ja b l)))
def amM(m:kd=6\/kd=7\/kd=8)(n:Pg 87 M kd b0 b1 b2 bs ec x1 x2 T ms M'):Pg 64 M kd b0 b1 b2 bs ec x1 x2 T ms M':=λo c d e f g h a i=>actM7 kd m a (λj b=>n j c d e f g h (a.I b) (λk l=>i k (ja b l)))
def Tm(m:kd=9\/kd=10\/kd=11\/kd=12)(n:Pg 88 M kd b0 b1 b2 bs ec x1 x2 T ms M'):Pg 64 M kd b0 b1 b2 bs ec x1 x2 T ms M':=λo c d e f g h a i=>actP7 kd m a (λj b=>n j c d e f g h (a.I b) (λk l=>i k (ja b l)))
def amS(m:kd=13\/kd=14)(n:Pg 89 M kd b0 b1 b2 bs ec x1 x2 T ms M'):Pg 64 M kd b0 b1 b2 bs ec x1 x2 T ms M':=λo c d e f g h a i=>actS7 kd m a (λj b=>n j c d e f g h (a.I b) (λk l=>i k (ja b l)))
def AnsE(k:FuncId)(l:SS)(m n o p:Int)(q:qa0)(r s:Int)(t:qa0)(u:List Mk)(v:SS):Prop:=∀(c)(a)(d)(e f)(j)(g)(h i),EX c a d e f j l->(∀b,qa3 a b->Rd .u8 b (VZ g h i) q/\Wt b)->AX c k a d e f m n o p (VZ g h i) 0 r s t u v
def RefE(k:FuncId)(l:SS)(m n o p:Int)(q:qa0)(r:Jo):Prop:=∀(g)(a)(h)(c i)(j)(d)(e f),EX g a h c i j l->(∀b,qa3 a b->Rd .u8 b (VZ d e f) q/\Wt b)->BX k a c m n o p (VZ d e f) r
def be{ws f}(q:Pf kd ws f)(r:AnsE f M kd b0 b1 b2 bs x1 x2 T ms M'):BE M kd b0 b1 b2 bs 0 x1 x2 T ms M':=λd s e g h i j k l a m _=>step9 a (λt b=>answer9 q (a.I b) (λn c=>r d n e g h i j k l (a.I (ja b c)) (λo p=>m o (ja (ja b c) p))))
def Tk.to{w W}(a:Tk w)(b:qa3 w W):Tk W:=(b.U (kR w _ a)).R a
def U7{ws f}(s:Pf kd ws f)(t:RefE f M kd b0 b1 b2 bs (.iface 109 (qP ec))):BE M kd b0 b1 b2 bs ec 0 0 [] [] M:=λe u g h i j k l m b n o=>Ij b (λc a=>Gc ws ec c (o.to a)) (λc a=>GL s (b.I a) (λp d=>t e p g h i j k l m (b.I (ja a d)) (λq r=>n q (ja (ja a d) r))))
def beW{ws msg f}(s:Pf kd ws f)(t:RefE f M kd b0 b1 b2 bs (.iface 130 (.agg #[.string msg,.iface 109 (qP ec)]))):BE M kd b0 b1 b2 bs ec 0 0 [] [] M:=λe u g h i j k l m b n o=>Ij b (λc a=>codeOf2 ws msg ec c (o.to a)) (λc a=>GL s (b.I a) (λp d=>t e p g h i j k l m (b.I (ja a d)) (λq r=>n q (ja (ja a d) r))))
def Yf:Pf 1 ⟨#[73,110,115,101,114,116]⟩ 116:=⟨zk 1 _ _ VC rfl rfl,Go.Proofs.enters_of func116 (by rfl) rfl⟩
def WX:Pf 2 ⟨#[68,101,108,101,116,101]⟩ 117:=⟨zk 2 _ _ VC rfl rfl,Go.Proofs.enters_of func117 (by rfl) rfl⟩
def Hx:Pf 3 ⟨#[83,108,105,99,101]⟩ 118:=⟨zk 3 _ _ VC rfl rfl,Go.Proofs.enters_of func118 (by rfl) rfl⟩
def Hy:Pf 4 ⟨#[76,105,110,101,67,111,108]⟩ 119:=⟨zk 4 _ _ VC rfl rfl,Go.Proofs.enters_of func119 (by rfl) rfl⟩
def U8:Pf 5 ⟨#[79,102,102,115,101,116]⟩ 120:=⟨zk 5 _ _ VC rfl rfl,Go.Proofs.enters_of func120 (by rfl) rfl⟩
def Lt:Pf 6 ⟨#[77,97,114,107]⟩ 121:=⟨zk 6 _ _ VC rfl rfl,Go.Proofs.enters_of func121 (by rfl) rfl⟩
def Lu:Pf 7 ⟨#[68,114,111,112]⟩ 122:=⟨zk 7 _ _ VC rfl rfl,Go.Proofs.enters_of func122 (by rfl) rfl⟩
def Lv:Pf 8 ⟨#[76,111,111,107]⟩ 123:=⟨zk 8 _ _ VC rfl rfl,Go.Proofs.enters_of func123 (by rfl) rfl⟩
def EZ:Pf 9 ⟨#[85,110,100,111]⟩ 124:=⟨zk 9 _ _ VC rfl rfl,Go.Proofs.enters_of func124 (by rfl) rfl⟩
def E4:Pf 10 ⟨#[82,101,100,111]⟩ 125:=⟨zk 10 _ _ VC rfl rfl,Go.Proofs.enters_of func125 (by rfl) rfl⟩
def GO:Pf 11 ⟨#[66,101,103,105,110]⟩ 126:=⟨zk 11 _ _ VC rfl rfl,Go.Proofs.enters_of func126 (by rfl) rfl⟩
def Il:Pf 12 ⟨#[69,110,100]⟩ 127:=⟨zk 12 _ _ VC rfl rfl,Go.Proofs.enters_of func127 (by rfl) rfl⟩
def D7:Pf 13 ⟨#[83,110,97,112]⟩ 128:=⟨zk 13 _ _ VC rfl rfl,Go.Proofs.enters_of func128 (by rfl) rfl⟩
def E5:Pf 14 ⟨#[66,97,99,107]⟩ 129:=⟨zk 14 _ _ VC rfl rfl,Go.Proofs.enters_of func129 (by rfl) rfl⟩
def aerMove:Pf 15 ⟨#[77,111,118,101]⟩ 130:=⟨zk 15 _ _ VC rfl rfl,Go.Proofs.enters_of func130 (by rfl) rfl⟩
def Lw:Pf 16 ⟨#[68,117,109,112]⟩ 131:=⟨zk 16 _ _ VC rfl rfl,Go.Proofs.enters_of func131 (by rfl) rfl⟩
def spF{n}(b)(a:List SR):M.sp+(L ([]:qa0)+L ([]:List Mk))<=(a.foldl (JX b) {M with sp:=M.sp+n}).sp:=by
 grind [XK]
def Bo(g:Nat)(a:SS)(b c d e:Int)(f:qa0):Prop:=∃ec x1 x2 T ms M',Iv (g+1) M'/\a.sp+(L T+L ms)<=M'.sp/\BM a b c d e f ec x1 x2 T ms M'/\BE a b c d e f ec x1 x2 T ms M'
theorem zBb(c:Iv k M)(H:k<10000)(j:bytes bs)(l:L bs<=1048576):Bo k M 1 b0 b1 b2 bs:=by
 have C:=c.ll;have D:=c.gr;have y:=c.doc.mv;have E:=c.doc.nl;have F:=c.cp;have ht:=c.doc.tl;have r:=c.sp;by_cases A:0<=b0/\b0<=L M.tx
 ·obtain⟨m,rfl⟩:∃m:Nat,b0=m:=⟨b0.toNat,VC⟩
  have e:m<=L M.tx:=VC;have G:=YB bs;by_cases o:yJ bs= []
  ·exact⟨0,_,_,_,_,_,c.next,lR,bm c.next (GN VC (λf s t d g h i a b=>insE7 m bs a b j l e o)),be Yf (λu f v w x d g h i a b=>insE9 a b j l e o r)⟩
  have n:=QF.2 o;by_cases p:L M.tx+L (yJ bs)<=8192
  ·by_cases q:M.sp+L (yJ bs)<=200000
   ·have z:=(c.paid q VC).ed (.inl ⟨rfl,n,e,p⟩) (by have:=c.sz;grind)
    exact⟨0,_,_,_,_,_,z,Nat.le_add_right _ _,bm z (GN VC (λf s t d g h i a b=>ins7 m bs a b j l e n p r q (by have:=y.1.1;omega) (λd B=>by have:=y.off B;omega) VC VC)),be Yf (λu f v w x d g h i a b=>ins9 a b j l e n p q (by have:=c.sz;omega) y.1 VC VC VC)⟩
   exact⟨_,0,0,[],[],M,c.next,lR,Wn c VS (GN VC (λf s t d g h i a b=>insG7 m bs a b j l e n p r q)),U7 Yf (λu f v w x d g h i a b=>insG9 a b j l e p r q)⟩
  exact⟨_,0,0,[],[],M,c.next,lR,Wn c VS (GN VC (λf s t d g h i a b=>insF7 m bs a b j l e n ht VC VC)),U7 Yf (λu f v w x d g h i a b=>insF9 a b j l e VC)⟩
 refine⟨_,0,0,[],[],M,c.next,lR,Wn c VS (GN VC (λf s t d g h i a b=>?_)),U7 Yf (λu f v w x d g h i a b=>insB9 a b j l A)⟩;by_cases o:b0<0
 ·exact insN7 a o
 exact insP7 a VC
def zBc(b:Iv k M)(E:k<10000):Bo k M 2 b0 b1 b2 bs:=by
 have A:=b.ll;have B:=b.gr;have l:=b.doc.mv;have C:=b.doc.nl;have D:=b.cp;have ht:=b.doc.tl;by_cases x:(0<=b1/\b1<=L M.tx)/\(0<=b0/\b0<=b1)
 ·obtain⟨j,rfl⟩:∃n:Nat,b0=n:=⟨b0.toNat,VC⟩
  obtain⟨c,rfl⟩:∃n:Nat,b1=n:=⟨b1.toNat,VC⟩
  by_cases m:c=j
  ·subst m
   exact⟨0,_,_,_,_,_,b.next,lR,bm b.next (GN VC (λe q r d f g h a i=>del0 c c a VC rfl)),be WX (λs e t u v d f g h a i=>delE9 a VC)⟩
  obtain⟨o,w⟩:∃o,c=j+o:=⟨c-j,VC⟩
  have p:Iv _ (Fy M j c []):=b.ed (.inr ⟨VC,VC,rfl⟩) b.sz;exact⟨0,_,_,_,_,_,p,lR,bm p (GN VC (λe q r d f g h a i=>del7 j c o a VC w VC ht (by have:=l.1.1;omega) (λd z=>by have:=l.off z;omega) VC VC)),be WX (λs e t u v d f g h a i=>del9 a w VC VC l.1 VC VC VC)⟩
 refine⟨_,0,0,[],[],M,b.next,lR,Wn b VS (GN VC (λe q r d f g h a i=>?_)),U7 WX (λs e t u v d f g h a i=>delB9 a x)⟩;by_cases m:b0<0
 ·exact delN7 a m
 by_cases y:b1<b0
 ·exact delQ7 a VC y
 exact delP7 a VC VC VC
def boSlice(b:Iv k M)(A:k<10000):Bo k M 3 b0 b1 b2 bs:=by
 have z:=b.ll;have ht:=b.doc.tl;have o:=b.sp;by_cases x:(0<=b1/\b1<=L M.tx)/\(0<=b0/\b0<=b1)
 ·obtain⟨e,rfl⟩:∃p:Nat,b0=p:=⟨b0.toNat,VC⟩
  obtain⟨m,rfl⟩:∃p:Nat,b1=p:=⟨b1.toNat,VC⟩
  obtain⟨d,n⟩:∃d,m=e+d:=⟨m-e,VC⟩
  by_cases c:M.sp+d<=200000
  ·have q:Iv _ {M with sp:=M.sp+d,lg:=M.lg++ [⟨4,e,0,[]⟩]}:=(b.paid c VC).see (show e<=L M.tx by omega)
   exact⟨0,_,_,_,_,_,q,(by grind),bm q (GN VC (λf r s g h i j a l=>sli7 e m d a VC n ht o c VC)),be Hx (λt f u v w g h i j a l=>sli9 a n VC c)⟩
  exact⟨_,0,0,[],[],M,b.next,lR,Wn b VS (GN VC (λf r s g h i j a l=>sliF7 e m d a VC n ht o c)),U7 Hx (λt f u v w g h i j a l=>sliF9 a n VC o c)⟩
 refine⟨_,0,0,[],[],M,b.next,lR,Wn b VS (GN VC (λf r s g h i j a l=>?_)),U7 Hx (λt f u v w g h i j a l=>sliB9 a x)⟩;by_cases c:b0<0
 ·exact sliN7 a c
 by_cases y:b1<b0
 ·exact sliQ7 a VC y
 exact sliP7 a VC VC VC
def Tn(b:Iv k M)(u:k<10000):Bo k M 4 b0 b1 b2 bs:=by
 have t:=b.ll;have ht:=b.doc.tl;by_cases l:0<=b0/\b0<=L M.tx
 ·obtain⟨d,rfl⟩:∃d:Nat,b0=d:=⟨b0.toNat,VC⟩
  have c:d<=L M.tx:=VC;exact⟨0,_,_,_,_,_,b.see c,lR,bm (b.see c) (GN VC (λe n o f g h i a j=>lc7 d a c ht VC)),be Hy (λp e q r s f g h i a j=>lc9 a c)⟩
 refine⟨_,0,0,[],[],M,b.next,lR,Wn b VS (GN VC (λe n o f g h i a j=>?_)),beW Hy (λp e q r s f g h i a j=>lcB9 a l)⟩;by_cases m:b0<0
 ·exact lcN7 a m
 exact lcP7 a VC
def zBd(b:Iv k M)(w:k<10000):Bo k M 5 b0 b1 b2 bs:=by
 have v:=b.ll;have ht:=b.doc.tl;by_cases n:0<=ZV M.tx b0 b1
 ·have l:=Tl n
  obtain⟨j,rfl⟩:∃o:Nat,b0=o:=⟨b0.toNat,VC⟩
  obtain⟨c,m⟩:∃c:Nat,ZV M.tx j b1=c:=⟨(ZV M.tx j b1).toNat,VC⟩
  exact⟨0,_,_,_,_,_,b.kno l.2,lR,bm (b.kno l.2) (GN VC (λd p q e f g h a i=>off7 j c a ht m VC)),be U8 (λr d s t u e f g h a i=>off9 a m)⟩
 exact⟨_,0,0,[],[],M,b.next,lR,Wn b VS (GN VC (λd p q e f g h a i=>offN7 a ht _ rfl VC)),beW U8 (λr d s t u e f g h a i=>offB9 a VC)⟩
def boMark(d:Iv k M)(s:k<10000):Bo k M 6 b0 b1 b2 bs:=by
 have a:=d.doc.mv;have ht:=d.doc.tl;by_cases c:Wm M.ms (b0,b1,b2) (L M.tx)=0
 ·have l:=d.marks (a.set ht c)
  exact⟨0,_,_,_,_,_,l,lR,bm l (amM VC (λe m n f g h i b j=>mark7 b a.1 (by have:=a.1.1;omega) ht c)),be Lt (λo e p q r f g h i b j=>mark9 b a.1 c)⟩
 exact⟨_,0,0,[],[],M,d.next,lR,Wn d c (amM VC (λe m n f g h i b j=>markN7 _ b a.1 (by have:=a.1.1;omega) ht rfl c)),beW Lt (λo e p q r f g h i b j=>markB9 b a.1 rfl c)⟩
def boDrop(f:Iv k M)(w:k<10000):Bo k M 7 b0 b1 b2 bs:=by
 have b:=f.doc.mv;cases h1:yF _ b0 with
 | true=>
  obtain⟨x,t,u,y,z⟩:=Ig h1;have l:=f.marks (b.cut (j:=PP M.ms b0));exact⟨0,_,_,_,_,_,l,lR,bm l (amM VC (λg n o h c d e a i=>drop7 _ _ a (by have:=b.1.1;omega) t u)),be Lu (λp g q r s h c d e a i=>(by have v:=drop9 (b1:=b1) (b2:=b2) (ta:=c) (tl:=d) (tq:=e) a b.1 h1;simp_all))⟩
 | false=>
  have m:=KI b0 _ 0 ((ZI _ b0).1 h1);exact⟨_,0,0,[],[],M,f.next,lR,Wn f VS (amM VC (λg n o h c d e a i=>dropN7 a (by have:=b.1.1;omega) m)),beW Lu (λp g q r s h c d e a i=>dropB9 a b.1 h1)⟩
def boLook(f:Iv k M)(v:k<10000):Bo k M 8 b0 b1 b2 bs:=by
 have e:=f.doc.mv;cases h1:yF _ b0 with
 | true=>
  obtain⟨w,s,t,x,y⟩:=Ig h1;have j:=f.next;exact⟨0,_,_,_,_,_,j,lR,bm j (amM VC (λg m n h b c d a i=>look7 _ _ a (by have:=e.1.1;omega) s t)),be Lv (λo g p q r h b c d a i=>(by have u:=look9 (b1:=b1) (b2:=b2) (ta:=b) (tl:=c) (tq:=d) a e.1 h1;simp_all))⟩
 | false=>
  have l:=KI b0 _ 0 ((ZI _ b0).1 h1);exact⟨_,0,0,[],[],M,f.next,lR,Wn f VS (amM VC (λg m n h b c d a i=>lookN7 a (by have:=e.1.1;omega) l)),beW Lv (λo g p q r h b c d a i=>lookB9 a e.1 h1)⟩
def boUndo(b:Iv k M)(K:k<10000):Bo k M 9 b0 b1 b2 bs:=by
 have G:=b.ll;have D:=b.doc.mv;have H:=b.doc.nl;have I:=b.cp;have n:=b.sp;cases ho:M.op with
 | true=>exact⟨_,0,0,[],[],M,b.next,lR,Wn b VS (Tm VC (λg p q h i j l c a=>undoO7 c ho)),U7 EZ (λr g s t u h i j l c a=>undoO9 c ho)⟩
 | false=>
  obtain e|⟨w,f,e⟩:=List.eq_nil_or_concat M.un
  ·exact⟨_,0,0,[],[],M,b.next,lR,Wn b VS (Tm VC (λg p q h i j l c a=>undoE7 c ho e)),U7 EZ (λr g s t u h i j l c a=>undoE9 c ho e)⟩
  rw[List.concat_eq_append]at e;have x:f∈M.un\/f∈M.re:=.inl (by simp_all);have E:=b.doc.gl f x;have y:=b.gn x ho;have J:L M.un=L w+1:=(by rw[e];simp);have o:∀d∈f,d.n<=8192:=λd a=>by have z:=y d a;have:=z.on;have:=z.lb;omega
  have A:∀d∈f,L (Zs d)=d.n/\d.n<=8192:=λd a=>⟨(y d a).rl,o d a⟩
  by_cases m:M.sp+yf VR f<=200000
  ·obtain⟨u1,u2,P,F⟩:=b.undoT ho e
   have B:=F.undoOk (M:={M with sp:=M.sp+yf VR f}) rfl D (by have:=b.sz;grind);have C:=b.undo VC ho e m;exact⟨0,_,_,_,_,_,C,(spF VR _),bm C (Tm VC (λg p q h i j l c a=>undo7 w f c ho e o VC E.1 n m VC VC (λv d a=>(B v d a).2))),be EZ (λr g s t u h i j l c a=>undo9 c ho e VC VC A m (λv d a=>(B v d a).1))⟩
  exact⟨_,0,0,[],[],M,b.next,lR,Wn b VS (Tm VC (λg p q h i j l c a=>undoF7 w f c ho e o VC n m)),U7 EZ (λr g s t u h i j l c a=>undoF9 c ho e VC VC A n VC)⟩
def boRedo(a:Iv k M)(K:k<10000):Bo k M 10 b0 b1 b2 bs:=by
 have G:=a.ll;have B:=a.doc.mv;have H:=a.doc.nl;have I:=a.cp;have t:=a.sp;cases ho:M.op with
 | true=>exact⟨_,0,0,[],[],M,a.next,lR,Wn a VS (Tm VC (λg n o h i j l b c=>redoO7 b ho)),U7 E4 (λp g q r s h i j l b c=>redoO9 b ho)⟩
 | false=>
  obtain e|⟨z,f,e⟩:=List.eq_nil_or_concat M.re
  ·exact⟨_,0,0,[],[],M,a.next,lR,Wn a VS (Tm VC (λg n o h i j l b c=>redoE7 b ho e)),U7 E4 (λp g q r s h i j l b c=>redoE9 b ho e)⟩
  rw[List.concat_eq_append]at e;have u:f∈M.un\/f∈M.re:=.inr (by simp_all);have C:=a.doc.gl f u;have v:=a.gn u ho;have J:L M.re=L z+1:=(by rw[e];simp);have w:∀d∈f,d.n<=8192:=λd c=>by have x:=v d c;have:=x.on;have:=x.lb;omega
  have y:∀d∈f,L (Zs d)=d.n/\d.n<=8192:=λd c=>⟨(v d c).rl,w d c⟩
  by_cases m:M.sp+yf VP f<=200000
  ·obtain⟨u1,u2,F,P⟩:=a.redoT e
   have D:=F.redoOk (M:={M with sp:=M.sp+yf VP f}) rfl B (by have:=a.sz;grind);obtain⟨A,Q⟩:=a.redo VC ho e m;refine⟨0,_,_,_,_,_,A,(spF VP _),bm A (Tm VC (λg n o h i j l b c=>?_)),be E4 (λp g q r s h i j l b c=>redo9 b ho e VC VC C.1 y m (λE d c=>(D E d c).1))⟩
   grind [redo7]
  exact⟨_,0,0,[],[],M,a.next,lR,Wn a VS (Tm VC (λg n o h i j l b c=>redoF7 z f b ho e w VC t m VC)),U7 E4 (λp g q r s h i j l b c=>redoF9 b ho e VC VC y t VC)⟩
def boBegin(b:Iv k M)(p:k<10000):Bo k M 11 b0 b1 b2 bs:=by
 cases ho:M.op with
 | true=>exact⟨_,0,0,[],[],M,b.next,lR,Wn b VS (Tm VC (λc i j d e f g a h=>beginN7 a ho)),U7 GO (λl c m n o d e f g a h=>beginB9 a ho)⟩
 | false=>exact⟨0,_,_,_,_,_,b.begin ho,lR,bm (b.begin ho) (Tm VC (λc i j d e f g a h=>begin7 a ho)),be GO (λl c m n o d e f g a h=>begin9 a ho)⟩
def boEnd(b:Iv k M)(u:k<10000):Bo k M 12 b0 b1 b2 bs:=by
 have r:=b.gr;have s:=b.doc.nl;have t:=b.cp;cases ho:M.op with
 | false=>exact⟨_,0,0,[],[],M,b.next,lR,Wn b VS (Tm VC (λd l m e f g h a i=>endN7 a ho)),U7 Il (λn d o p q e f g h a i=>endB9 a ho)⟩
 | true=>
  by_cases c:M.gr= []
  ·exact⟨0,_,_,_,_,_,b.endE ho c,lR,bm (b.endE ho c) (Tm VC (λd l m e f g h a i=>endE7 a ho c)),be Il (λn d o p q e f g h a i=>endE9 a ho c)⟩
  have j:=QF.2 c;exact⟨0,_,_,_,_,_,b.end ho j,lR,bm (b.end ho j) (Tm VC (λd l m e f g h a i=>end7 _ a ho j rfl VC)),be Il (λn d o p q e f g h a i=>end9 a ho j rfl VC VC)⟩
def boSnap(b:Iv k M)(v:k<10000):Bo k M 13 b0 b1 b2 bs:=by
 have t:=b.doc.nl;have u:=b.cp;cases ho:M.op with
 | true=>exact⟨_,0,0,[],[],M,b.next,lR,Wn b VS (amS VC (λc i j d e f g a h=>snapO7 a ho)),U7 D7 (λl c m n o d e f g a h=>snapO9 a ho)⟩
 | false=>
  by_cases p:0<=b0/\b0<=7
  ·obtain⟨s,rfl⟩:∃r:Nat,b0=r:=⟨b0.toNat,VC⟩
   exact⟨0,_,_,_,_,_,b.snap ho,lR,bm (b.snap ho) (amS VC (λc i j d e f g a h=>snap7 s a ho VC)),be D7 (λl c m n o d e f g a h=>snap9 a ho VC VC)⟩
  refine⟨_,0,0,[],[],M,b.next,lR,Wn b VS (amS VC (λc i j d e f g a h=>?_)),U7 D7 (λl c m n o d e f g a h=>snapB9 a ho p)⟩;by_cases q:b0<0
  ·exact snapN7 a ho q
  exact snapP7 a ho VC
def boBack(b:Iv k M)(z:k<10000):Bo k M 14 b0 b1 b2 bs:=by
 have x:=b.ll;have y:=b.cp;cases ho:M.op with
 | true=>exact⟨_,0,0,[],[],M,b.next,lR,Wn b VS (amS VC (λd l m e f g h a i=>backO7 a ho)),U7 E5 (λn d o p q e f g h a i=>backO9 a ho)⟩
 | false=>
  by_cases t:0<=b0/\b0<=7
  ·obtain⟨j,rfl⟩:∃w:Nat,b0=w:=⟨b0.toNat,VC⟩
   have c:M.sl[j]?=O (M.sl[j]'(by have:=b.sl.1;omega)):=xI _;generalize M.sl[j]'_=v at c;cases v with
   | none=>exact⟨_,0,0,[],[],M,b.next,lR,Wn b VS (amS VC (λd l m e f g h a i=>backE7 j a ho VC c)),U7 E5 (λn d o p q e f g h a i=>backE9 a ho VC c)⟩
   | some s=>
    have r:=b.sl.2 j s c;have:=r.nl;exact⟨0,_,_,_,_,_,b.back ho c,lR,bm (b.back ho c) (amS VC (λd l m e f g h a i=>back7 j s a ho VC c VC VC)),be E5 (λn d o p q e f g h a i=>back9 a ho VC c VC r.tl)⟩
  refine⟨_,0,0,[],[],M,b.next,lR,Wn b VS (amS VC (λd l m e f g h a i=>?_)),U7 E5 (λn d o p q e f g h a i=>backB9 a ho t)⟩;by_cases u:b0<0
  ·exact backN7 a ho u
  exact backP7 a ho VC
def boMove(b:Iv k M)(p:k<10000):Bo k M 15 b0 b1 b2 bs:=by
 exact⟨0,_,_,_,_,_,b.next,lR,bm b.next (λc i j d e f g a h=>actMv7 a),be aerMove (λl c m n o d e f g a h=>move9 a)⟩
theorem boDump(b:Iv k M)(t:k<10000):Bo k M 16 b0 b1 b2 bs:=by
 have d:=b.doc.mv;have ht:=b.doc.tl;have e:=b.sp;have s:=d.1.1;by_cases c:M.sp+(L M.tx+L M.ms)<=200000
 ·exact⟨0,_,_,_,_,_,(b.paid c VC).next,lR,bm (b.paid c VC).next (GN VC (λf m n g h i j a l=>dump7 a ht VC e c)),be Lw (λo f p q r g h i j a l=>dump9 a d.1 c)⟩
 exact⟨_,0,0,[],[],M,b.next,lR,Wn b VS (GN VC (λf m n g h i j a l=>dumpF7 a ht VC e c)),U7 Lw (λo f p q r g h i j a l=>dumpF9 a d.1 e c)⟩
def bo(b:Iv k M)(c:k<10000)(w:bytes bs)(x:L bs<=1048576):Bo k M kd b0 b1 b2 bs:=by
 by_cases p:1<=kd/\kd<=16
 ·obtain⟨a,rfl⟩:∃a:Nat,kd=a:=⟨kd.toNat,VC⟩
  have d:a=1\/a=2\/a=3\/a=4\/a=5\/a=6\/a=7\/a=8\/a=9\/a=10\/a=11\/a=12\/a=13\/a=14\/a=15\/a=16:=VC;obtain rfl|rfl|rfl|rfl|rfl|rfl|rfl|rfl|rfl|rfl|rfl|rfl|rfl|rfl|rfl|rfl:=d
  ·grind [zBb]
  ·exact zBc b c
  ·exact boSlice b c
  ·exact Tn b c
  ·exact zBd b c
  ·exact boMark b c
  ·exact boDrop b c
  ·exact boLook b c
  ·exact boUndo b c
  ·exact boRedo b c
  ·exact boBegin b c
  ·exact boEnd b c
  ·exact boSnap b c
  ·exact boBack b c
  ·exact boMove b c
  grind [boDump]
 have d:kd<1\/16<kd:=VC
 exact⟨_,0,0,[],[],M,b.next,lR,Wn b VS (λh q r i j l m e n=>actK7 kd d e),λs h t u v i j l m e n o=>Ij e (λg f=>Gc zCi 13 g (o.to f)) (λg f=>zB6 d (e.I f))⟩
end
def tT(a:List Rs):Nat:=(a.map λr=>L r.T+L r.ms).sum
structure To(M0:SS)(os:List YE)(a:List Rs):Prop where
 len:L os=L a
 st:∀k o r,os[k]?=O o->a[k]?=O r->BM (Mt M0 a k) o.k o.a o.b o.c (Xy o.t) r.ec r.x1 r.x2 r.T r.ms r.M/\BE (Mt M0 a k) o.k o.a o.b o.c (Xy o.t) r.ec r.x1 r.x2 r.T r.ms r.M
 iv:∀k≤L os,Iv k (Mt M0 a k)
 sz:tT a<=(Mt M0 a (L os)).sp
def bts_by(l):bytes (Xy l):=λc a=>by
 unfold Xy at a;obtain⟨b,_,rfl⟩:=Vf.1 a;have:=b.toNat_lt;omega
theorem Ph{α:Type}{xs}{d c:α}{i}(a:(xs++ [d])[i]?=O c):xs[i]?=O c/\i<L xs\/i=L xs/\c=d:=by
 obtain b|b|b:=QN i (L xs)
 ·left;rw[vN b]at a;exact⟨a,b⟩
 ·simp_all
 rw[vY VV]at a;cases a
def To.ex{M0}(t:Iv 0 M0)(d:List YE)(D:L d<=10000)(u:∀b∈d,L b.t<=1048576):∀a≤L d,∃f,To M0 (d.take a) f
 | 0,_=>⟨[],rfl,λc b A e=>by simp at e,λc h=>(show c=0 by simpa using h)▸t,xY _⟩
 | a+1,M=>by
  obtain⟨f,e⟩:=To.ex t d D u a VC;have j:L (d.take a)=a:=(by rw[xO];omega);have H:L f=a:=(by rw[<- e.len];exact j);obtain⟨b,v⟩:∃b,d[a]?=O b:=⟨_,xI VC⟩
  have y:=e.iv a VC;obtain⟨k,l,m,n,o,i,E,J,F,G⟩:=bo (kd:=b.k) (b0:=b.a) (b1:=b.b) (b2:=b.c) y VC (bts_by b.t) (by rw[yX];exact u b (vc v));have g:d.take (a+1)=d.take a++ [b]:=(by rw[Qa,v];rfl);have q:Mt M0 (f++ [⟨k,l,m,n,o,i⟩]) (a+1)=i:=DO (r:=⟨k,l,m,n,o,i⟩) (by simp_all);refine⟨f++ [⟨k,l,m,n,o,i⟩],by rw[g];simp[e.len],λc B C r s=>?_,λc h=>?_,?_⟩
  ·rw[g]at r
   obtain⟨w,K⟩|⟨w,rfl⟩:=Ph r
   ·obtain⟨p,x⟩|⟨p,_⟩:=Ph s
    ·rw[Ib VC];exact e.st c B C w p
    omega
   obtain⟨_,x⟩|⟨_,rfl⟩:=Ph s
   ·omega
   rw[Ib VC,show c=a by omega];exact⟨F,G⟩
  ·rw[g,xL]at h
   by_cases I:c<=a
   ·rw[Ib VC];exact e.iv c VC
   have:c=a+1:=(by simp at h;omega);subst this;rw[q];exact E
  have z:=e.sz;rw[j]at z;rw[g,xL,j]
  show tT _<=(Mt M0 _ (a+1)).sp
  rw[q];unfold tT at*;rw[Qy,Ve];simp;omega
def To.all{M0}(c:Iv 0 M0)(os)(d:L os<=10000)(e:∀o∈os,L o.t<=1048576):∃a,To M0 os a:=by
 obtain⟨a,b⟩:=To.ex c os d e (L os) lR;rw[QD]at b;exact⟨a,b⟩
def ZR(a:Int):Nat:=(min (max a 1) 1000).toNat
def Lx(hc):1<=ZR hc/\ZR hc<=1000:=by unfold ZR;omega
def Jn(a:Nat):SS:=⟨[],[],[],[],[],VP,0,a,List.replicate 8 none,[]⟩
def ss0_iv(b:Int):Iv 0 (Jn (ZR b)):=by
 refine⟨Lx b,by simp[Jn],⟨by simp[Jn],⟨Vd.nil,by simp[Jn]⟩,by simp[Jn],λe c=>by simp[Jn]at c,⟨[],rfl⟩,⟨[],rfl⟩⟩,lR,λd=>by simp[Jn]at d,⟨by simp[Jn],λf g a=>?_⟩,by simp[Jn],LS.nil,by simp[Jn,YF]⟩;simp only[Jn,List.getElem?_replicate]at a
 split at a<;>cases a
def Ly:∀{a:List Nat}{c},c∈a->c<=a.sum
 | d::a,c,b=>by
  rw[VA];obtain rfl|b:=vC.1 b
  ·omega
  have:=Ly b;omega
def To.small{M0 os rs}(b:To M0 os rs)(h:L os<=10000):ZT (rs.map yc)<=210000/\∀a∈rs.map yc,L a.t<=maxLen/\L a.m<=maxLen:=by
 have f:=b.sz;have g:=(b.iv _ lR).sp
 have c:((rs.map yc).map zBm).sum=tT rs:=by
  unfold tT;rw[List.map_map];rfl
 refine⟨by unfold ZT;rw[c,vW,<- b.len];omega,λa e=>?_⟩;have d:zBm a<=tT rs:=by rw[<- c];exact Ly (List.mem_map_of_mem e)
 unfold zBm at d;unfold maxLen;omega
section
open Go.Sort Go.BigFrame
def Tryz.infoLK7:(prog.info? 210).map (λa=>(a.zero,a.size,a.bytes))=O (O (.agg #[.bool VP,V0,V0,V0,V0]),5,104):=VU
def sm_new{w w1}{c:Nat}{xs}(e:1<=c/\c<=1000)(f:qa3 w w1)(g:w1.ownsRow (N (Y w)) 210 5 (VZ (qQ (N (Y w)) 0) 8 8) 8 xs)(h:∀b<8,(xs.drop (b*5)).take 5= [.bool VP,V0,V0,V0,V0]):
  SM (VF w1 (V6 #[V0,V0,V0,V0,V0,.bool VP,qP 0,qP c,VZ (qQ (N (Y w)) 0) 8 8,V0] 54)) (N (Y w)) (N (Y w1)) ⟨V0,V0,V0,V0,V0,VZ (qQ (N (Y w)) 0) 8 8,V0⟩ (Jn c):=by
 refine⟨xJ _ _,vz _ _ _ _,vz _ _ _ _,Xg.nil,Xg.nil,Ko.nil,⟨xs,g.alloc _,by simp[Jn],λb i a=>?_⟩,⟨[],vz _ _ _ _,rfl⟩,f.size,e,xY _⟩;simp only[Jn,List.getElem?_replicate]at a
 split at a
 ·rename_i d
  simp at a;subst a;exact h b d
 cases a
def NewP(b:V8)(e:Nat)(f:Ending)(c:V8):Prop:=∃a d,f=V5 (V3 a 0)/\SM c (N (Y b)) a d (Jn e)/\qa3 b c
def new7(hc)(w):Calls prog 32 #[qP hc] w (NewP w (ZR hc)):=by
 obtain⟨s,j,t,u,v⟩:=kB Tryz.infoLK7;obtain⟨b,f⟩:∃b,b=ZR hc:=⟨_,rfl⟩
 have l:=zC f;have g:=zC (Lx hc);rw[<- f]at g |-;have m:hc<1\/(¬hc<1/\1000<hc)\/(¬hc<1/\¬1000<hc):=VC
 clear f;obtain k|⟨k,x⟩|⟨k,x⟩:=m
 all_goals
  go_enter func32,ntmps32;go_wp2_with (at_make;refine Vy _ rfl _ _ 51 rfl _ 210 s _ 5 underlying51 j t u _ _ _ _ 8 rfl rfl VC VC (by rw[v];omega) VW lR ?_;intro q h i);have e:=zC ((xF _ w).grown i lR (λz r=>by cases r));have n:=zC h;clear h i;go_ret;have o:=e.size
  have c:=sm_new g e n (λa j=>by
   have p:a=0\/a=1\/a=2\/a=3\/a=4\/a=5\/a=6\/a=7:=VC
   obtain rfl|rfl|rfl|rfl|rfl|rfl|rfl|rfl:=p<;>simp[madeCells,Value.cells,VB])
  have d:=zC (e.R ((bA (xF _ q) (V6 #[V0,V0,V0,V0,V0,.bool VP,qP 0,qP b,VZ (qQ (N (Y w)) 0) 8 8,V0] 54)).G o));have y:b=min (max hc 1) 1000:=by rw[l.A];unfold ZR;omega
  first | (rw[show(b:Int)=1 by omega]at c d;exact⟨_,_,rfl,c,d⟩) | (rw[show(b:Int)=1000 by omega]at c d;exact⟨_,_,rfl,c,d⟩) | (rw[show b=hc by omega]at c d;exact⟨_,_,rfl,c,d⟩)
def SM.grown{w w' B s x M v base n xs}(b:SM w B s x M)(p:w.ownsRow base 79 10 v n xs)(l:w.grownBy w' (VD v)):SM w' B s x M:=by
 have h:∀(a:Nat)(c:qa2)(g:TypeId)(d:Nat×Nat),w.heap[a]?=O (V6 c g d)->g≠79->w'.heap[a]? =w.heap[a]?:=λa c g d e ht=>l.block a (xG.1 e).1 (λm=>by
  obtain⟨t,u,j⟩:=jg p m.J;rw[e]at j;simp at j
  exact ht j.2.1)
 have f:KT w w':=⟨l.size,λa c g d e o=>h a c g d e o.2.2.2⟩
 obtain⟨y,q,_⟩:=b.sl;obtain⟨ls,r,_⟩:=b.lg;have k:=b.blk;unfold S7 at k;refine b.to f ((h s _ _ _ k VS).R b.blk) ⟨rfl,rfl,rfl,rfl⟩ (λa i=>?_) (λa i=>?_) (b.tx.kt f) (b.ms.kt f) (b.un.kt f) (b.re.kt f) (b.gr.kt f) rfl b.ul
 ·obtain⟨c,d,e⟩:=jg q i;exact h a c _ d e VS
 obtain⟨c,d,e⟩:=jg r i;exact h a c _ d e VS
structure RunM(a:V8)(e:Nat)(M0:SS)(b:List Rs)(k:Nat)(f:Jo)(w:V8):Prop where
 ob:∃c d,ZU w (N (Y a)) (N (Y w)) f c d ((b.take k).map yc)
 st:∃x,SM w (N (Y a)) e x (Mt M0 b k)
 bel:qa3 a w
def RunQ(c:V8)(d:SS)(e:List Rs)(f:Nat)(g:Ending)(h:V8):Prop:=∃a b,g=V5 (.tuple #[a,V3 b 0])/\RunM c b d e f a h
def ZU.next{i wr k f h:V8}{ov ov' vts vms xs o ua ma ul uk ml mk cells}(m:ZU wr (N (Y i)) (N (Y wr)) ov vts vms xs)(y:qa3 wr k)(P:N (Y wr)<=N (Y k))(Q:N (Y i)<=N (Y wr))
  (z:∀(a:Nat)(b)(d)(e),k.heap[a]?=O (V6 b d e)->(d=21\/d=168\/d=79)->f.heap[a]? =k.heap[a]?) (ht:zH f (N (Y k)) (VZ ua ul uk) o.t) (A:zW f (N (Y k)) (VZ ma ml mk) o.m) (R:N (Y k)<=N (Y f))
  (B:h.ownsRow (N (Y i)) 79 10 ov' (L xs+1) (jI vts vms xs++GV o (VZ ua ul uk) (VZ ma ml mk))) (C:(VF f (V6 cells 79)).grownBy h (VD ov)):ZU h (N (Y i)) (N (Y h)) ov' (vts++ [VZ ua ul uk]) (vms++ [VZ ma ml mk]) (xs++ [o]):=by
 have H:∀a,VD ov=O a->∃b e,f.heap[a]?=O (V6 b 79 e):=λa c=>by
  obtain⟨b,e,g⟩:=jg m.row c;have j:=(y.block a (m.row.lt a c).2).R g;exact⟨b,e,(z a b _ e j (.inr (.inr rfl))).R j⟩
 have s:∀{a:Nat}{b:qa2}{d:TypeId}{e:Nat×Nat},f.heap[a]?=O (V6 b d e)->d≠79->h.heap[a]? =f.heap[a]?:=λ{a b d e}g ht=>by
  have I:=(xG.1 g).1;have j:(VF f (V6 cells 79)).heap[a]? =f.heap[a]?:=kX _ _ _ I;rw[<- j];refine C.block a VV (λJ=>?_);obtain⟨S,T,l⟩:=H a J.J;rw[g]at l;simp at l;exact ht l.2.1
 have t:∀{g:TypeId}{n:Nat}{q:Ki}{b:List (Ki)}{r:List Nat},yI g n wr (N (Y i)) (N (Y wr)) q b r->(g=21\/g=168)->yI g n h (N (Y i)) (N (Y wr)) q b r:=λ{g n q b r}hn he=>hn.keep (λp w a c=>by
  obtain⟨b,e,G⟩:=hn.ty w c;have j:=(y.block a (hn.bl p w a c)).R G;have l:=(z a b _ e j (he.elim .inl (λm=>.inr (.inl m)))).R j
  rw[s l (by obtain rfl|rfl:=he<;>decide),l,G])
 have M:N (Y f)<=N (Y h):=by have:=C.size;simp at this;omega
 have g1:∀{D:Nat}{d:TypeId}{n E:Nat}{p:Jo}{F:Ki},f.ownsRow D d n p E F->d≠79->h.ownsRow D d n p E F:=λx K=>zD x (λa c=>by obtain⟨b,e,g⟩:=jg x c;exact s g K)
 have u:zH h (N (Y i)) (VZ ua ul uk) o.t:=zF (g1 ht VS) VC;have v:zW h (N (Y i)) (VZ ma ml mk) o.m:=zF (g1 A VS) VC;exact ZU.snoc (t m.nt (.inl rfl)) (t m.nm (.inr rfl)) B u v (λa c=>⟨by have:=(ht.lt a c).1;omega,(u.lt a c).2⟩) (λa c=>⟨by have:=(A.lt a c).1;omega,(v.lt a c).2⟩) VC (λa c=>(B.lt a c).2)
def run7(C)(v)(os)(vts)(rs)(hc)(w)(G:Xw w C v os vts)(h:To (Jn (ZR hc)) os rs)(bv:os.length<=10000):
  Calls prog 14 #[v,qP hc] w (RunQ w (Jn (ZR hc)) rs os.length):=by
 obtain⟨bw,bx,bz,b0,b1⟩:=kB Tryz.infoOB;obtain⟨b2,a0,rfl⟩:=yL G.o
 have ao:os.length<=a0/\a0<=maxLen:=by
  rcases G.o.2 with ⟨e,b3⟩ | ⟨F,b4,b5,e,_,_,ci,cj,_⟩
  ·simp_all
  simp_all
 have S:=zC G;have a4:=zC h;have ap:=zC (new7 hc w);obtain⟨g,i⟩:∃g,g=os.length:=⟨_,rfl⟩
 have n:=zC i;have aq:=zC (show g=rs.length by rw[i];exact h.len);rw[<- i]at bv ao |-;rw[<- i]at S;have a5:=ao.2;unfold maxLen at a5;clear G h i;go_enter func14,ntmps14;go_wp2_with fail;refine ap.G ?_;rintro e s ⟨ad,ae,rfl,a1,af⟩;have A:=af.size;have T:=zC (bA (xF s.heap.size s) (V6 #[] 79));have U:=zC (show RunM w ad (Jn (ZR hc)) rs 0 (VZ (qQ s.heap.size 0) 0 0) (s.alloc (V6 #[] 79))from⟨⟨[],[],Qo s #[] 0 A (xY _) rfl,λj h=>by simp only[Value.ownBlock,xP]at h;simp;omega,yI.nil,yI.nil⟩,⟨ae,a1.I T⟩,af.R (T.G A)⟩);clear a1 af ap T;go_wp2_with fail;generalize s.alloc (V6 #[] 79)=ce at *;go_loopw [7,15] (λbt k wr=>∃c:Nat,c<=g/\k=qP c/\RunM w ad (Jn (ZR hc)) rs c bt wr) (λ_ k _=>g-(intOf k).toNat)
 case atStart=>exact⟨0,xY _,rfl,U⟩
 obtain⟨c,ck,rfl,l⟩:=hrel;have o:=zC (S.I l.bel);have ar:=l.bel.size;by_cases Z:c<g
 ·have a6:(c:Int)<g:=VC
  obtain⟨a,m⟩:∃a,os[c]?=some a:=⟨_,xI (by rw[<- n.A];exact Z)⟩
  obtain⟨b,ag⟩:∃b,rs[c]?=some b:=⟨_,xI (by rw[<- aq.A];exact Z)⟩
  obtain⟨aa,p⟩:∃aa,vts[c]?=some aa:=⟨_,xI (by rw[<- S.A.hv,<- n.A];exact Z)⟩
  obtain⟨F,rfl⟩:∃F,b2=some (V4 F 0):=by
   rcases o.A.o.2 with ⟨e,b3⟩ | ⟨F,b4,b5,e,_⟩
   ·simp_all
   simp_all
  have TX:=zC (o.tx c a aa m p);obtain⟨t,u,rfl⟩:=yL TX;have au:=o.cellAt (f:=0) n.J m p VC rfl;rw[QI]at au;have a7:=o.cellAt (f:=1) n.J m p VC rfl;have a8:=o.cellAt (f:=2) n.J m p VC rfl;have a9:=o.cellAt (f:=3) n.J m p VC rfl;have av:=o.cellAt (f:=4) n.J m p VC rfl;obtain⟨x,ah⟩:∃d,d=(Xy a.t).length:=⟨_,rfl⟩
  rw[<- ah]at av TX;obtain⟨ae,ai⟩:=l.st;obtain⟨b6,b7,aj⟩:=l.ob;have q:=zC (bA (xF wr.heap.size wr) (V6 #[qP a.k,qP a.a,qP a.b,qP a.c,VZ t x u] 61))
  have B:=zC ((a4.st c a b m ag).1 _ w.heap.size ad ae t x u (ai.I q) (λcg bu=>by
   have D:=zE (zE TX q lR) bu lR;rw[<- ah]at D
   exact Rd.qe D))
  unfold zCc at B;obtain⟨L,ak⟩:∃d:Int,d=b.M.tx.length:=⟨_,rfl⟩
  obtain⟨N,i⟩:∃d:Int,d=brk b.M.tx+1:=⟨_,rfl⟩
  obtain⟨H,al⟩:∃d:Int,d=b.M.un.length:=⟨_,rfl⟩
  obtain⟨I,am⟩:∃d:Int,d=b.M.re.length:=⟨_,rfl⟩
  obtain⟨O,an⟩:∃d:Int,d=(if b.M.op then 1 else 0):=⟨_,rfl⟩
  rw[<- ak,<- i,<- al,<- am,<- an]at B;have ba:=zC (show ∀ab ac,GV (yc b) ab ac= [qP b.ec,qP b.x1,qP b.x2,ab,ac,qP L,qP N,qP H,qP I,qP O]from λab ac=>by rw[ak,i,al,am,an];rfl);have r:=zC (show(wr.alloc (V6 #[qP a.k,qP a.a,qP a.b,qP a.c,VZ t x u] 61)).heap[wr.heap.size]?=some (V6 #[qP a.k,qP a.a,qP a.b,qP a.c,VZ t x u] 61 (0,0))from xJ _ _);have bc:wr.heap.size<(wr.alloc (V6 #[qP a.k,qP a.a,qP a.b,qP a.c,VZ t x u] 61)).heap.size:=VT;have bd:=zC aj;have HM:=zC (ai.I q);have E:=zC (zE aj.row q lR);have HR:=zC ag;have aw:=zC (show((rs.take c).map yc).length=c by rw[vW,xO,<- aq.A];omega);have bf:=zC l.bel;rw[aw.A]at E;clear ai aj l m ag p ah ak i al am an TX U;go_upto_region 6 with fail;generalize wr.alloc (V6 #[qP a.k,qP a.a,qP a.b,qP a.c,VZ t x u] 61)=cf at *;have bg:=c8 0 r;have A:=c8 1 r;have bh:=c8 2 r;have bi:=c8 3 r;have bj:=c8 4 r;clear au a7 a8 a9 av;go_wp2_with fail;refine B.G ?_;rintro e J ⟨K,M,P,Q,R,mk,rfl,ht,a2,b8,a3,z⟩;have HT:=zC ht;have bk:=zC a2;have bl:=zC a3;have V:=zC z;have bn:=zC (za J 79 [qP b.ec,qP b.x1,qP b.x2,VZ K M P,VZ Q R mk,qP L,qP N,qP H,qP I,qP O]);have ax:=zC (zD E (λj h=>by obtain⟨y,f,e⟩:=jg E h;exact z.ob j y f e));have ay:=zC (ax.alloc (V6 #[qP b.ec,qP b.x1,qP b.x2,VZ K M P,VZ Q R mk,qP L,qP N,qP H,qP I,qP O] 79));have az:=zC ((bf.R (q.G ar)).R z.bl);have bp:=az.size;have bq:=z.kt.1;have W:=zC (bA (xF J.heap.size J) (V6 #[qP b.ec,qP b.x1,qP b.x2,VZ K M P,VZ Q R mk,qP L,qP N,qP H,qP I,qP O] 79));clear ht a2 a3 z B bg A bh bi bj r E;go_wp2_with (at_builtin;refine wpList_append_lies _ rfl _ _ 24 rfl w.heap.size 79 bw (.agg #[qP 0,qP 0,qP 0,V0,V0,qP 0,qP 0,qP 0,qP 0,qP 0]) 10 112 underlying24 bx bz b0 b1 rfl VS u7 c _ rfl (ay) (V4 J.heap.size 0) 1 1 _ rfl rfl bn (by simp[Value.oneCell']) VC VC VC VV _ rfl ?_;intro b9 ca cb bs X cc cd);go_roundw
  case rel=>
   refine⟨c+1,VC,VY,⟨⟨b6++ [VZ K M P],b7++ [VZ Q R mk],?_⟩,?_,?_⟩⟩
   ·rw[show(rs.take (c+1)).map yc=(rs.take c).map yc++ [yc b]by rw[Qa,HR.A,Qy];rfl]
    refine ZU.next bd q (Qr bc) ar (λj y ch f e D=>?_) HT bk bq ?_ X
    ·rcases D with rfl | rfl | rfl
     ·exact V.kt.2 j y _ f e VS
     ·exact V.kt.2 j y _ f e VS
     exact V.ob j y f e
    rw[aw.A,ba.A];exact bs
   ·rw[DO HR.A]
    exact⟨b8,(bl.I W).grown ay X⟩
   exact(az.R (W.G bp)).grown X (by have:=W.size;omega) (λj h=>(ax.lt j h).1)
  simp[intOf];omega
 have a6:¬ (c:Int)<g:=VC
 have br:c=g:=VC
 subst br;have HR:=zC l;clear l U;go_wp2;go_ret2;exact⟨_,_,rfl,HR⟩
abbrev jh(a b c:Jo)(d:Int):qa2:=#[a,b,c,qP d]
def srL{ops rest d a W Q b u v c ov vr vt}(e:W.heap[b]?=O (V6 (jh V0 V0 V0 0) 32 (0,0)))(f:wpList prog ops Q rest (a.put d.dst undef) (W.setRow b (jh ov vr vt c)))
  (g:d.guard=none:=by rfl) (h:d.op= .store 32 u v:=by rfl) (i:a.eval u= .pointer (qQ b 0):=by rfl) (j:a.eval v= .agg (jh ov vr vt c):=by rfl) (k:(jh ov vr vt c).all (·.oneCell')=VR:=by simp[Value.oneCell']):wpList prog ops Q (d::rest) a W:=
 yE g 32 u v h b _ _ 32 i j e VU rfl k f
def zC2{fn R tmps}{a:V8}{q c ov vr vt cs f}(j:fn.results= #[.cell 4 32])(k:a.heap[q]?=O (V6 cs 32 f))(l:tmps[4]?=O (V3 q 0))(m:R (V5 (.agg (jh ov vr vt c))) (a.setRow q (jh ov vr vt c)))(o:ov.oneCell'=VR/\vr.oneCell'=VR/\vt.oneCell'=VR):bodyPost prog fn R .ret {tmps:=tmps,defers:=[]} (a.setRow q (jh ov vr vt c)):=by
 have b:=QH a q _ (jh ov vr vt c) _ _ k;have d:=c8 0 b;have e:=c8 1 b;have g:=c8 2 b;have h:=c8 3 b;generalize a.setRow q _=n at*;exact vE (by simp[results,j,go_sem,l,d,e,g,h]) rfl m
def yI.upper{e size w lo hi hi' vs cs ns}(a:yI e size w lo hi vs cs ns)(g:hi<=hi'):yI e size w lo hi' vs cs ns:=⟨a.len,a.len2,a.own,λb c d f=>vh (a.bl b c d f) g,a.ne⟩
def yI.lower{e size w lo lo' hi vs cs ns}(a:yI e size w lo hi vs cs ns)(j:lo'<=lo):yI e size w lo' hi vs cs ns:=⟨a.len,a.len2,λb c d f g h i=>zF (a.own b c d f g h i) j,a.bl,a.ne⟩
def OkL(h:Nat)(c:qa0)(d:LE):Prop:=(∃b a,d=⟨1,b,0,a⟩/\b<=L c/\0<L a/\L c+L a<=8192/\h+L a<=220000)\/(∃f e,d=⟨2,f,e,[]⟩/\f<e/\e<=L c)\/(∃a,d=⟨3,0,0,a⟩/\L a<=8192)\/(∃b,d=⟨4,b,0,[]⟩/\b<=L c)\/(∃g,d=⟨5,g,0,[]⟩/\g<=brk c)
def LS.at{a h}(m:LS a h):∀b e,a[b]?=O e->∃f,LS (a.take b) f/\OkL (YF (a.take b)) f e:=by
 have g:∀{a:List LE}{h:qa0}{i:LE},LS a h->OkL (YF a) h i->(∀b e,a[b]?=O e->∃f,LS (a.take b) f/\OkL (YF (a.take b)) f e)->∀b e,(a++ [i])[b]?=O e->∃f,LS ((a++ [i]).take b) f/\OkL (YF ((a++ [i]).take b)) f e:=by
  intro a h i c r d b e l;obtain⟨s,t⟩|⟨rfl,rfl⟩:=Ph l
  ·grind
  grind
 induction m with
 | nil=>simp
 | ins c j n o p d=>exact g c (.inl ⟨_,_,rfl,j,n,o,p⟩) d
 | rem c k q d=>exact g c (.inr (.inl ⟨_,_,rfl,k,q⟩)) d
 | lod c k d=>exact g c (.inr (.inr (.inl ⟨_,rfl,k⟩))) d
 | see c j d=>exact g c (.inr (.inr (.inr (.inl ⟨_,rfl,j⟩)))) d
 | kno c j d=>exact g c (.inr (.inr (.inr (.inr ⟨_,rfl,j⟩)))) d
def D8.get{w}:∀{xs d b a},D8 w xs d->d[b]?=O a->∃c,Pt w c a.tx/\xs[b*4]?=O (qP a.kd)/\xs[b*4+1]?=O (qP a.lo)/\xs[b*4+2]?=O (qP a.hi)/\xs[b*4+3]?=O c
 | _,g::d,0,a,⟨c,h,i,j,e⟩,f=>by
  simp_all
 | _,g::d,b+1,a,⟨c,h,i,j,e⟩,f=>by
  obtain⟨k,l,m,n,o,p⟩:=D8.get e (by simpa using f)
  grind
def LoP9(b:V8)(h:List Ob)(i:Xc)(j:Ending)(a:V8):Prop:=∃c d e f g,j=V5 (.agg (jh c d e 0))/\ZU a (N (Y b)) (N (Y a)) c f g h/\DV a (N (Y b)) (N (Y a)) d e i/\qa3 b a
def T2.set2{w b x y t}(d:T2 w b x y t)(u v):T2 ((w.setCell (V4 b 0) u).setCell (V4 b 1) v) b u v t:=by
 unfold T2 at*;have a:=Go.heap_setCell_same w b 0 _ _ u d;have c:=Go.heap_setCell_same _ b 1 _ _ v a;exact c
structure Rq(c d:V8)(bb:Nat)(lg:List LE)(j:Nat)(wr:V8):Prop where
 buf:∃a b lo hi,T2 wr bb a b 30/\DV wr lo hi a b (WV (lg.take j))/\(bb<lo\/hi<=bb)/\hi<=N (Y wr)/\N (Y c)<=lo
 eo:EO bb d wr
def Rq.next{w0 w1 w2 w3 wr bb j lg l vr vt s'}(k:EO bb w1 wr)(a:∃c d,T2 wr bb c d 30)(b:qa3 wr w2)(m:DV w3 (N (Y w2)) (N (Y w3)) vr vt s')(f:qa3 w2 w3)(n:lg[j]?=O l)(o:apQ (WV (lg.take j)) l=s')(r:N (Y w0)<=N (Y wr)):Rq w0 w1 bb lg (j+1) ((w3.setCell (V4 bb 0) vr).setCell (V4 bb 1) vt):=by
 obtain⟨c,d,a⟩:=a;have g:=a.lt;have h:=b.size;have i:=(a.I b g).I f VC;refine⟨⟨vr,vt,N (Y w2),N (Y w3),i.set2 vr vt,?_,.inl VC,VT,VC⟩,?_⟩
 ·rw[Qa,n]
  show DV _ _ _ _ _ (WV (lg.take j++ [l]))
  rw[Zq,o];exact m.frame (λe p q=>(xM _ _ e _ (by grind)).R (xM _ _ e _ (by grind)))
 refine k.R (EO.R (EO.of (b.R (f.G h))) ((EO.set bb 0 vr w3).R (EO.set bb 1 vt _)))
def Rq.idle{w0 w1 w2 wr bb j lo hi lg l vr vt}(d:EO bb w1 wr)(c:T2 wr bb vr vt 30)(a:qa3 wr w2)(e:DV wr lo hi vr vt (WV (lg.take j)))(b:(bb<lo\/hi<=bb)/\hi<=N (Y wr)/\N (Y w0)<=lo)(f:lg[j]?=O l)(g:apQ (WV (lg.take j)) l=WV (lg.take j)):Rq w0 w1 bb lg (j+1) w2:=by
 refine⟨⟨vr,vt,lo,hi,c.I a c.lt,?_,b.1,ku b.2.1 a.size,b.2.2⟩,d.R (EO.of a)⟩;rw[Qa,f]
 show DV _ _ _ _ _ (WV (lg.take j++ [l]))
 rw[Zq,g];exact e.I a b.2.1
def specRq(C)(v)(os)(vts)(rs)(hc)(w)(b6:Xw w C v os vts)(y:To (Jn (ZR hc)) os rs)(d2:L os<=10000):
  Calls prog 5 #[v,qP hc] w (LoP9 w (rs.map yc) (WV (Mt (Jn (ZR hc)) rs (L os)).lg)):=by
 obtain⟨es,et,rfl⟩:=yL b6.o;have cd:=zC (λdx dy=>run7 C _ os vts rs hc dx (b6.I dy) y d2);have ce:=zC (y.iv (L os) lR).ls;have bz:=zC (y.iv (L os) lR).ll;have de:=zC (show rs.take (L os)=rs by rw[y.len,QD]);have bh:=zC (bA (xF (N (Y w)) w) (V6 (jh V0 V0 V0 0) 32));have bi:=zC (xJ w (V6 (jh V0 V0 V0 0) 32));have b0:¬ (10000:Int)<L os:=VC
 obtain⟨z,b7⟩:∃dz,dz=Mt (Jn (ZR hc)) rs (L os):=⟨_,rfl⟩
 have df:=zC b7;rw[<- b7]at ce bz |-;clear b7;generalize L os=er at*;clear b6 y;go_enter func5,ntmps5;go_upto_region 1 with fail;generalize VF w _=ar at*;go_wp2_with fail;refine(cd ar bh).G ?_;rintro x l ⟨eu,cm,rfl,br⟩;obtain⟨co,cp,B⟩:=br.ob;obtain⟨ev,b8⟩:=br.st;rw[<- df.A]at b8;have az:=br.bel;have ej:=az.size;rw[de.A]at B;obtain⟨bs,bt,rfl⟩:=yL B.row;obtain⟨on,cq⟩:∃h,h=L (rs.map yc):=⟨_,rfl⟩
 rw[<- cq]at B |-;have dg:=zC B;have HM:=zC b8;have bj:=zC (bh.R (az.G bh.size));have dh:=zC ((az.block (N (Y w)) (xG.1 bi).1).R bi);have di:=az.size;have ek:=(xG.1 bi).1;clear B b8 az br cd bi bh cq;have BX:=zC (bA (xF (N (Y l)) l) (V6 #[V0,V0] 30));have a0:=zC (HM.I BX);have aq:=zC (show Rq ar (VF l (V6 #[V0,V0] 30)) (N (Y l)) z.lg 0 (VF l (V6 #[V0,V0] 30))from⟨⟨_,_,N (Y l),N (Y l),T2.new l _ _ _,WW.none _ _ _,.inr lR,VT,di⟩,⟨rfl,rfl,rfl,lR,λ_ _ _=>rfl⟩⟩);have dj:N (Y l)<N (Y (VF l (V6 #[V0,V0] 30))):=VT
 clear HM;go_upto_region 5 with fail;obtain⟨bb,cr⟩:∃a6,a6=N (Y l):=⟨_,rfl⟩
 have el:N (Y l)<=bb:=VC
 have em:bb<=N (Y l):=VC
 rw[<- cr]at aq dj |-;clear cr;have ad:=zC BX;generalize VF l _=cl at*;have cf:=a0.blk.c.2.2.2.2.2.2.2.2.2;obtain⟨ls,av,cs⟩:=a0.A.lg;obtain⟨d3,ct,cu⟩:=yL av;rw[cu]at cf av;obtain⟨am,b9⟩:∃h,h=L z.lg:=⟨_,rfl⟩
 have cg:=zC b9;rw[<- b9]at cf av bz
 have dk:am<=ct/\ct<=maxLen:=by
  obtain⟨x,bu⟩|⟨b,d4,d5,x,_,_,X,a7,_⟩:=av.2
  ·grind
  simp_all
 have dl:=dk.2;unfold maxLen at dl;have ae:=zC av;have dm:=zC cs;have en:=a0.lt;have eo:=bz.A;have ep:=a0.A;clear av cs b9 cu;go_wp2_with fail;go_loopw [26] (λc wr=>∃a:Nat,a<=am/\c=qP a/\Rq ar cl bb z.lg a wr) (λc _=>am-(intOf c).toNat)
 case atStart=>exact⟨0,xY _,rfl,aq⟩
 obtain⟨a,ew,rfl,T⟩:=hrel;have eq:=T.eo.size;by_cases dv:a<am
 ·have dn:(a:Int)<am:=VC
  obtain⟨W,bv⟩:∃W,z.lg[a]?=O W:=⟨_,xI (by rw[<- cg.A];exact dv)⟩
  obtain⟨b,rfl⟩:∃b,d3=O (V4 b 0):=by
   obtain⟨x,bu⟩|⟨b,d4,d5,x,_⟩:=ae.A.2
   ·omega
   grind
  obtain⟨d6,ca,cv,cw,cx,cy⟩:=dm.get bv;obtain⟨ex,cz,d7⟩:=ce.at a W bv;obtain⟨c0,c1⟩:=cz.vq
  have dp:b≠bb:=λx=>by
   obtain⟨_,_,cb⟩:=jg ae (q:=b) rfl;obtain⟨d8,d9,_,_,ea,_⟩:=aq.A.buf
   grind [T2,Option.some.injEq,Obj.cells.injEq]
  have dq:=(ae.lt b rfl).2;have a1:∀b5,VE wr (V4 b b5)=VE cl (V4 b b5):=λb5=>vO (T.eo.block b dq dp)
  have H:VE wr (V4 b (a*4))=O (qP W.kd):=(by rw[a1,ae.A.cellAt (a*4) VC];exact cv);have s:VE wr (V4 b (a*4+1))=O (qP W.lo):=(by rw[a1,ae.A.cellAt (a*4+1) VC];exact cw);have o:VE wr (V4 b (a*4+2))=O (qP W.hi):=(by rw[a1,ae.A.cellAt (a*4+2) VC];exact cx);have I:VE wr (V4 b (a*4+3))=O d6:=(by rw[a1,ae.A.cellAt (a*4+3) VC];exact cy);obtain⟨g,i,rfl⟩:=ca.val;obtain⟨an,ao,c2,au,ap,Z,cc,aw,bw⟩:=T.buf;obtain⟨a8,a9,ba,bc,p,q⟩:=Z.val;obtain⟨eb,b0⟩:∃h,h=L (WV (z.lg.take a)).1:=⟨_,rfl⟩
  obtain⟨ec,c3⟩:∃h,h=(WV (z.lg.take a)).2.tI:=⟨_,rfl⟩
  rw[<- b0]at p;rw[<- c3]at q;clear b0 c3;subst p q
  have af:=zC (ca.k32 (λf d0 d1 x=>T.eo.block f (xG.1 x).1 (λbq=>by
   obtain⟨d8,d9,_,_,ea,_⟩:=aq.A.buf
   grind [T2,Option.some.injEq,Obj.cells.injEq])))
  have n:=zC ap;have J:=zC Z;have b1:=zC c0;have U:=zC (KX.siz_run zBv (z.lg.take a));have bk:=zC c1;have t:=zC T.eo;have a2:=zC bv;have a3:=ap.lt;have b2:N (Y ar)<=N (Y wr):=(by have:=ad.size;omega);clear T ca cz c0 c1 ap Z bv a1 cv cw cx cy aq;obtain⟨aa,bd⟩:∃cm,WV (z.lg.take a)=cm:=⟨_,rfl⟩
  have a4:=zC bd;have bl:=zC (bd);rw[bd]at J b1 bk
  change Hid (L (zBv.run (z.lg.take a)).1<=_)at U
  rw[show zBv.run (z.lg.take a)=aa from bd]at U;clear bd;obtain⟨m,e,rfl,X,a7,ed,ey⟩|⟨K,al,rfl,X,a7⟩|⟨e,rfl,X⟩|⟨m,rfl,X⟩|⟨bx,rfl,X⟩:=d7
  ·have ch:=zC (show ∀c<L e,∃a6 cn,g=O (V4 a6 cn)/\a6<N (Y wr)/\VE wr (V4 a6 (cn+c))=O (.int .i32 (e.getD c 0))from λc au=>by
    obtain⟨_,bq⟩|⟨c4,c5,ez,bq,⟨_,_,e0,e1,ee⟩,ef⟩:=af.A
    ·simp_all
    simp only[kL]at bq
    exact⟨c4,c5,bq.1,(xG.1 ee).1,ef c au⟩)
   have M:VE wr (V4 b (a*4))=O (qP 1):=H;have P:VE wr (V4 b (a*4+1))=O (qP m):=s;have Q:VE wr (V4 b (a*4+2))=O (qP 0):=o;have R:VE wr (V4 b (a*4+3))=O (VZ g (L e) i):=I;have k:=zC (bA (xF (N (Y wr)) wr) (V6 #[qP 1,qP (m:Nat),qP 0,VZ g (L e) i] 56));have d:=zC (xJ wr (V6 #[qP 1,qP m,qP 0,VZ g (L e) i] 56));have j:=zC (n.I k a3)
   have V:=zC (show Calls prog 15 #[.agg #[VZ a8 eb a9,VZ ba ec bc],qP (m:Nat),VZ g (L e) i] (VF wr (V6 #[qP 1,qP (m:Nat),qP 0,VZ g (L e) i] 56)) (QbP (VF wr (V6 #[qP 1,qP (m:Nat),qP 0,VZ g (L e) i] 56)) (WR aa m e))from by
    obtain⟨c4,c5,rfl,eg,_⟩:=ch.A 0 a7
    exact repInsQ (J.I k aw) b1 (by rw[bk.A];exact X) a7 (by rw[bk.A];exact ed) (by have:=U.A;omega) (vh eg k.size) (λc au=>by
     obtain⟨e2,e3,c6,eh,ei⟩:=ch c au;simp at c6;obtain⟨rfl,rfl⟩:=c6
     exact(k.U eh).R ei))
   have u:=zC (λr(an ao)(B:DV r (N (Y (VF wr (V6 #[qP 1,qP (m:Nat),qP 0,VZ g (L e) i] 56)))) (N (Y r)) an ao (WR aa m e))hB=>Rq.next t ⟨_,_,n⟩ k B hB a2 (by rw[bl.A];rfl) b2);generalize L e=dw at*;clear H s o I n J af a4 U;go_upto_region 8 with fail;generalize VF wr _=bp at*;have ag:=c8 0 d;have ah:=c8 1 d;have ai:=c8 2 d;have aj:=c8 3 d;have S:=j.c;obtain⟨ab,ac⟩:=S;have ak:=j.lt;clear M P Q R;go_wp2_with fail;refine V.G ?_;rintro x r ⟨bf,bg,rfl,D,E⟩;have A:=zC (j.I E ak);have a5:=zC (u r bf bg D E);obtain⟨da,db,dc,dd,p,q⟩:=D.val;obtain⟨ax,F⟩:∃h,h=L (WR aa m e).1:=⟨_,rfl⟩
   obtain⟨ay,G⟩:∃h,h=(WR aa m e).2.tI:=⟨_,rfl⟩
   rw[<- F]at p;rw[<- G]at q;clear F G;subst p q;obtain⟨bu,cb⟩:=A.A.c;have ci:=A.fz 0;have cj:=A.fz 1;clear D E V u j ab ac ag ah ai aj d;go_wp2;go_roundw
   case rel=>exact⟨a+1,VC,VY,a5⟩
   grind [intOf]
  ·have M:VE wr (V4 b (a*4))=O (qP 2):=H
   have P:VE wr (V4 b (a*4+1))=O (qP K):=s;have Q:VE wr (V4 b (a*4+2))=O (qP al):=o;have R:VE wr (V4 b (a*4+3))=O (VZ g 0 i):=I;have k:=zC (bA (xF (N (Y wr)) wr) (V6 #[qP 2,qP K,qP al,VZ g 0 i] 56));have d:=zC (xJ wr (V6 #[qP 2,qP K,qP al,VZ g 0 i] 56));have j:=zC (n.I k a3);have V:=zC (repDelQ (J.I k aw) b1 X (by rw[bk.A];exact a7));have u:=zC (λr(an ao)(B:DV r (N (Y (VF wr (V6 #[qP 2,qP (K:Nat),qP (al:Nat),VZ g 0 i] 56)))) (N (Y r)) an ao (WS aa K (al-K)))hB=>Rq.next t ⟨_,_,n⟩ k B hB a2 (by rw[bl.A];rfl) b2);clear H s o I n J af a4 U;go_upto_region 8 with fail;generalize VF wr _=bp at*;have ag:=c8 0 d;have ah:=c8 1 d;have ai:=c8 2 d;have aj:=c8 3 d;have S:=j.c;obtain⟨ab,ac⟩:=S;have ak:=j.lt;clear M P Q R;go_wp2_with fail;refine V.G ?_;rintro x r ⟨bf,bg,rfl,D,E⟩;have A:=zC (j.I E ak);have a5:=zC (u r bf bg D E);obtain⟨da,db,dc,dd,p,q⟩:=D.val;obtain⟨ax,F⟩:∃h,h=L (WS aa K (al-K)).1:=⟨_,rfl⟩
   obtain⟨ay,G⟩:∃h,h=(WS aa K (al-K)).2.tI:=⟨_,rfl⟩
   rw[<- F]at p;rw[<- G]at q;clear F G;subst p q;obtain⟨bu,cb⟩:=A.A.c;have ci:=A.fz 0;have cj:=A.fz 1;clear D E V u j ab ac ag ah ai aj d;go_wp2;go_roundw
   case rel=>exact⟨a+1,VC,VY,a5⟩
   grind [intOf]
  ·have M:VE wr (V4 b (a*4))=O (qP 3):=H
   have P:VE wr (V4 b (a*4+1))=O (qP 0):=s;have Q:VE wr (V4 b (a*4+2))=O (qP 0):=o;have R:VE wr (V4 b (a*4+3))=O (VZ g (L e) i):=I;have k:=zC (bA (xF (N (Y wr)) wr) (V6 #[qP 3,qP 0,qP 0,VZ g (L e) i] 56));have d:=zC (xJ wr (V6 #[qP 3,qP 0,qP 0,VZ g (L e) i] 56));have j:=zC (n.I k a3);have V:=zC (repLodQ (show Pt (VF wr (V6 #[qP 3,qP 0,qP 0,VZ g (L e) i] 56)) (VZ g (L e) i) e from af.k32 (λf d0 d1 x=>k.block f (xG.1 x).1)) X);have u:=zC (λr(an ao)(B:DV r (N (Y (VF wr (V6 #[qP 3,qP 0,qP 0,VZ g (L e) i] 56)))) (N (Y r)) an ao (Ji e))hB=>Rq.next t ⟨_,_,n⟩ k B hB a2 (by rfl) b2);generalize L e=dw at*;clear H s o I n J af a4 U;go_upto_region 8 with fail;generalize VF wr _=bp at*;have ag:=c8 0 d;have ah:=c8 1 d;have ai:=c8 2 d;have aj:=c8 3 d;have S:=j.c;obtain⟨ab,ac⟩:=S;have ak:=j.lt;clear M P Q R;go_wp2_with fail;refine V.G ?_;rintro x r ⟨bf,bg,rfl,D,E⟩;have A:=zC (j.I E ak);have a5:=zC (u r bf bg D E);obtain⟨da,db,dc,dd,p,q⟩:=D.val;obtain⟨ax,F⟩:∃h,h=L (Ji e).1:=⟨_,rfl⟩
   obtain⟨ay,G⟩:∃h,h=(Ji e).2.tI:=⟨_,rfl⟩
   rw[<- F]at p;rw[<- G]at q;clear F G;subst p q;obtain⟨bu,cb⟩:=A.A.c;have ci:=A.fz 0;have cj:=A.fz 1;clear D E V u j ab ac ag ah ai aj d;go_wp2;go_roundw
   case rel=>exact⟨a+1,VC,VY,a5⟩
   grind [intOf]
  ·have M:VE wr (V4 b (a*4))=O (qP 4):=H
   have P:VE wr (V4 b (a*4+1))=O (qP m):=s;have Q:VE wr (V4 b (a*4+2))=O (qP 0):=o;have R:VE wr (V4 b (a*4+3))=O (VZ g 0 i):=I;have k:=zC (bA (xF (N (Y wr)) wr) (V6 #[qP 4,qP m,qP 0,VZ g 0 i] 56));have d:=zC (xJ wr (V6 #[qP 4,qP m,qP 0,VZ g 0 i] 56));have j:=zC (n.I k a3);have u:=zC (Rq.idle (l:=⟨4,m,0,[]⟩) t n k (by rw[bl.A];exact J) ⟨cc,aw,bw⟩ a2 rfl);clear H s o I n J af a4 U;go_upto_region 8 with fail;generalize VF wr _=bp at*;have ag:=c8 0 d;have ah:=c8 1 d;have ai:=c8 2 d;have aj:=c8 3 d;have S:=j.c;obtain⟨ab,ac⟩:=S;have ak:=j.lt;clear M P Q R;go_wp2;go_roundw
   case rel=>exact⟨a+1,VC,VY,u⟩
   grind [intOf]
  have M:VE wr (V4 b (a*4))=O (qP 5):=H;have P:VE wr (V4 b (a*4+1))=O (qP bx):=s;have Q:VE wr (V4 b (a*4+2))=O (qP 0):=o;have R:VE wr (V4 b (a*4+3))=O (VZ g 0 i):=I;have k:=zC (bA (xF (N (Y wr)) wr) (V6 #[qP 5,qP bx,qP 0,VZ g 0 i] 56));have d:=zC (xJ wr (V6 #[qP 5,qP bx,qP 0,VZ g 0 i] 56));have j:=zC (n.I k a3);have u:=zC (Rq.idle (l:=⟨5,bx,0,[]⟩) t n k (by rw[bl.A];exact J) ⟨cc,aw,bw⟩ a2 rfl);clear H s o I n J af a4 U;go_upto_region 8 with fail;generalize VF wr _=bp at*;have ag:=c8 0 d;have ah:=c8 1 d;have ai:=c8 2 d;have aj:=c8 3 d;have S:=j.c;obtain⟨ab,ac⟩:=S;have ak:=j.lt;clear M P Q R;go_wp2;go_roundw
  case rel=>exact⟨a+1,VC,VY,u⟩
  grind [intOf]
 have dn:¬ (a:Int)<am:=VC
 obtain rfl:a=am:=VC
 obtain⟨an,ao,c2,au,ap,Z,cc,aw,bw⟩:=T.buf;rw[cg.A,QD]at Z;obtain⟨a8,a9,ba,bc,p,q⟩:=Z.val;obtain⟨ax,F⟩:∃h,h=L (WV z.lg).1:=⟨_,rfl⟩
 obtain⟨ay,G⟩:∃h,h=(WV z.lg).2.tI:=⟨_,rfl⟩
 rw[<- F]at p;rw[<- G]at q;subst p q;have t:=T.eo;have ck:=(t.block _ VC VC).R ((ad.block _ VC).R dh);have RR:=zC ck;obtain⟨ab,ac⟩:=ap.c;have dr:=zC (show qa3 w wr from⟨t.os.R (ad.os.R bj.os),t.tape.R (ad.tape.R bj.tape),t.output.R (ad.output.R bj.output),VC,λf y=>(t.block f VC VC).R ((ad.block f VC).R (bj.block f y))⟩);have ds:=zC (show ZU wr (N (Y ar)) (N (Y l)) (VZ bs on bt) co cp (rs.map yc)from dg.frame (λf s o=>(t.block f VC VC).R (ad.block f o)));have dt:=zC Z;have du:=zC (show bb<N (Y wr)/\au<=N (Y wr)/\N (Y ar)<=c2/\N (Y l)<=N (Y wr) from⟨ap.lt,aw,bw,VC⟩);clear T t ck ap Z F G aq a0;go_wp2_with (refine srL RR ?_);refine zC2 results5 RR rfl ?_ ⟨rfl,rfl,rfl⟩;have b3:∀f,f≠N (Y w)->(wr.setRow (N (Y w)) (jh (VZ bs on bt) (VZ a8 ax a9) (VZ ba ay bc) 0)).heap[f]? =wr.heap[f]?:=λf y=>kD wr _ f _ y
 refine⟨_,_,_,co,cp,rfl,?_,?_,?_⟩
 ·have bn:=ds.frame (w':=wr.setRow (N (Y w)) (jh (VZ bs on bt) (VZ a8 ax a9) (VZ ba ay bc) 0)) (λf s o=>b3 f VC)
  have b4:N (Y l)<=N (Y (wr.setRow (N (Y w)) (jh (VZ bs on bt) (VZ a8 ax a9) (VZ ba ay bc) 0))):=(by have:=du.A;simp;omega);exact⟨zF bn.row VC,λf y=>vh (bn.rb f y) b4,(bn.nt.lower VC).upper b4,(bn.nm.lower VC).upper b4⟩
 ·exact(dt.frame (λf s o=>b3 f VC)).G VC (by simp_all)
 exact dr.R ⟨rfl,rfl,rfl,VT,λf y=>b3 f VC⟩
end

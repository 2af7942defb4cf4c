import Derived.Deep.RegionHeld2
import Derived.Test.YtljnflecikholaaGreatDoorMq29
set_option linter.all false
set_option maxRecDepth 100000
set_option maxHeartbeats 8000000
namespace Go.Proofs.YtljnflecikholaaGreatDoor
open Go Go.RowKit Go.Proofs.Tryz
def YT{w lo ao n cap k st}(e:Zr w lo (qM ao n cap) st)(m:1<=k)(o:k<=st.length):Zr w lo (qM ao k cap) (st.take k):=by
 unfold Zr at *;rcases e.2 with ⟨b,p⟩ | ⟨f,q,c,b,g,h,r,i,j,l⟩
 ·omega
 simp at b;obtain⟨rfl,s,rfl⟩:=b;have a:(st.take k).length=k:=by rw[xi];omega
 refine⟨by rw[zG,a,Qm],.inr ⟨f,cap,c,by rw[a],g,h,qF,i,j,?_⟩⟩;rw[a];have d:List.take (k*1) c.toList=(List.take (st.length*1) c.toList).take (k*1):=by rw[ky,vu qF]
 rw[d,l];simp[zI]
def Ln.colS{L off k l}(a:Ln L off k)(j:off<=(jn L).length)(f:L[k]?=some l):off-zq L k<=l.length/\zq L k<=off:=by
 have b:=a.1;have c:=a.2.1;refine⟨?_,c⟩;have g:=KL f;by_cases e:k+1<L.length
 ·have:=a.2.2 e;omega
 have h:=jl (ls:=L) (by intro d;rw[d]at b;simp at b);have i:jR (L.take (k+1))=jR L:=by rw[xU qF]
 unfold zq at *;omega
def Kn.ltS{L s0 off m k}(c:Kn L s0 off m)(a:Ln L off k)(f:1<=s0):k<m:=by
 rcases vV k m with b | b
 ·exact b
 have d:=c.2.2.2 (by have:=a.1;omega);have e:=J0 L (show m-1<=k by omega);have:=a.2.1;omega
def Hg{t w lo hi g cap n us gs}(e:yt t w lo hi (qM (qD g 0) n cap) us gs)(f:gs.length=n)(k)(h:k<=n):∀a b,(zU (us.take k) (gs.take k))[a]?=some b->w.cell? (((qP g 0):Addr).add a)=some b:=by
 intro a b c;have d:=e.row;rw[f]at d;refine d.cells rfl a b ?_;rw[Pv e.len k qF,vf]at c
 split at c
 ·exact c
 cases c
def Hh{t w lo hi g cap n us gs}(f:yt t w lo hi (qM (qD g 0) n cap) us gs)(i:gs.length=n)(k)(l:k<=n):∀a b,(zU (us.drop k) (gs.drop k))[a]?=some b->w.cell? (((qP g (k*3)):Addr).add a)=some b:=by
 intro a b d;have c:=f.row;rw[i]at c;rw[Pw f.len k qF,vJ]at d;have:=c.cells rfl _ b d;unfold Addr.add at *;by_cases e:a=0
 ·subst e
  by_cases j:k=0
  ·simp_all
  have h:¬k*3=0:=qF;simpa[h]using this
 simpa[e]using this
def UC{b:qU}{a:List Gr}{n}(c:b.length=a.length)(d:a.length=n)(k)(e:k<=n):(zU (b.take k) (a.take k)).length=k*3:=by
 rw[yx (by simp[c])];simp;omega
def UD{b:qU}{a:List Gr}{n}(c:b.length=a.length)(d:a.length=n)(k):(zU (b.drop k) (a.drop k)).length=(n-k)*3:=by
 rw[yx (by simp[c])];simp[d]
def FK{w2 wc lo k j v0 c us ws gs xs}(y:yt 86 w2 lo w2.heap.size v0 us gs)(p:qY w2 wc)(q:lo<=w2.heap.size)(z:k<=j)
  (r:wc.ownsRow w2.heap.size 86 3 c (gs.take k++xs++gs.drop j).length (zU (us.take k++ws++us.drop j) (gs.take k++xs++gs.drop j))) (l:zd wc w2.heap.size wc.heap.size ws (xs.map Gr.cells)):
  yt 86 wc lo wc.heap.size c (us.take k++ws++us.drop j) (gs.take k++xs++gs.drop j):=by
 have n:=p.size;have e:=y.nest.frame (λa _ d=>p.block a d)
 have o:∀b∈ws,∀a,b.ownBlock=some a->w2.heap.size<=a:=by
  intro b f a d;obtain⟨m,A,rfl⟩:=kJ f;have s:m<(xs.map Gr.cells).length:=(by rw[<- l.len];exact A);exact((l.own m _ (xs.map Gr.cells)[m] qH (xw s)).lt a d).1
 have t:∀b∈us.take k,∀c∈ws,∀a,b.ownBlock=some a->c.ownBlock≠some a:=by
  intro b f c h a d i;have g:=e.bl b (vO f) a d;have u:=o c h a i;omega
 have v:=((e.take k).mono lR n).app (l.mono q lR) t
 have w:∀b∈us.take k++ws,∀c∈us.drop j,∀a,b.ownBlock=some a->c.ownBlock≠some a:=by
  intro b f c h a d i;rcases vD.1 f with g | g
  ·exact e.parts k j z b g c h a d i
  have u:=o b g a d;have B:=e.bl c (vS h) a i;omega
 have x:=v.app ((e.drop j).mono lR n) w;refine⟨zF r q,λa d=>(r.lt a d).2,?_⟩;rw[vX,vX,Qw,Qn];exact x
structure Fp(a wc:qS)(us c:qU)(gs xs:List Gr)(k:Nat)(v:qT):Prop where
 row:wc.ownsRow a.heap.size 86 3 v (k+xs.length) (zU (us.take k++c) (gs.take k++xs))
 nest:zd wc a.heap.size wc.heap.size c (xs.map Gr.cells)
 b:qY a wc
def Fp.start{w2 X wc us gs k v0 v}(a:qY w2 X)(d:X.ownsRow w2.heap.size 86 3 v0 0 [])(e:X.grownBy wc v0.ownBlock)(f:wc.ownsRow w2.heap.size 86 3 v k (zU (us.take k) (gs.take k))):Fp w2 wc us [] gs [] k v:=by
 refine⟨?_,zd.nil _ _ _,a.grown e a.size (λb c=>(d.lt b c).1)⟩;simpa using f
def Fp.put{w2 wc X wd us ws gs xs k v v' u x}(c:Fp w2 wc us ws gs xs k v)(r:us.length=gs.length)(d:qY wc X)(f:jU X wc.heap.size u x.cells)(g:(X.alloc (qR #[u,qC x.lo,qC x.hi] 86)).grownBy wd v.ownBlock)
  (s:wd.ownsRow w2.heap.size 86 3 v' (k+xs.length+1) (zU (us.take k++ws) (gs.take k++xs)++ [u,qC x.lo,qC x.hi])):Fp w2 wd us (ws++ [u]) gs (xs++ [x]) k v':=by
 have j:=c.b.size;have l:=d.size;have m:=g.size;rw[kE]at m;have e:=(xe _ X).alloc lR (qR #[u,qC x.lo,qC x.hi] 86);have h:=zE (zE c.row d lR) e lR
 have n:zd X w2.heap.size X.heap.size (ws++ [u]) ((xs++ [x]).map Gr.cells):=by
  rw[vX];exact(c.nest.frame (w':=X) (λa _ b=>d.block a b)).snoc (hi':=X.heap.size) (zF f qF) (λa b=>(f.lt a b).1) (λa b=>(f.lt a b).2) l
 have o:=(n.frame (λa _ b=>e.block a b)).keptY h qG g;refine⟨?_,o.mono lR qF,?_⟩
 ·have i:=c.nest.len
  rw[xO]at i
  have p:zU (us.take k++(ws++ [u])) (gs.take k++(xs++ [x]))=zU (us.take k++ws) (gs.take k++xs)++ [u,qC x.lo,qC x.hi]:=by
   rw[<- vK,<- vK,yy (by simp[r,i])];rfl
  rw[p,xg];exact s
 have q:=(c.b.trans (d.mono j)).trans (e.mono qF);exact q.grown g (by rw[kE];omega) (λa b=>(h.lt a b).1)
def Fp.row0{w2 wc us gs k v}(a:Fp w2 wc us [] gs [] k v):wc.ownsRow w2.heap.size 86 3 v k (zU (us.take k) (gs.take k)):=by simpa using a.row
def Fp.row1{w2 wc us gs k u v x}(a:Fp w2 wc us [u] gs [x] k v):wc.ownsRow w2.heap.size 86 3 v (k+1) (zU (us.take k++ [u]) (gs.take k++ [x])):=a.row
def Fp.put0{w2 wc X wd us gs k v v' u x}(a:Fp w2 wc us [] gs [] k v)(b:us.length=gs.length)(c:qY wc X)(d:jU X wc.heap.size u x.cells)(e:(X.alloc (qR #[u,qC x.lo,qC x.hi] 86)).grownBy wd v.ownBlock)
  (f:wd.ownsRow w2.heap.size 86 3 v' (k+1) (zU (us.take k) (gs.take k)++ [u,qC x.lo,qC x.hi])):Fp w2 wd us [u] gs [x] k v':=
 a.put b c d e (by simpa using f)
def Fp.fin{w2 wc wd lo j k n v0 v v' us ws gs xs}(a:Fp w2 wc us ws gs xs k v)(e:yt 86 w2 lo w2.heap.size v0 us gs)(m:gs.length=n)(o:lo<=w2.heap.size)(p:k<=j)(r:j<=n)(b:wc.grownBy wd v.ownBlock)
  (q:wd.ownsRow w2.heap.size 86 3 v' (k+xs.length+(n-j)) (zU (us.take k++ws) (gs.take k++xs)++zU (us.drop j) (gs.drop j))):yt 86 wd lo wd.heap.size v' (us.take k++ws++us.drop j) (gs.take k++xs++gs.drop j)/\qY w2 wd:=by
 have f:=a.b.size;have g:=b.size;have h:=e.len;have c:=a.nest.len;rw[xO]at c;have d:=a.b.grown b f (λi l=>(a.row.lt i l).1);refine⟨FK e d o p ?_ ((a.nest.keptY a.row qG b).mono lR g),d⟩;rw[yy (by simp[h,c])];rw[show(gs.take k++xs++gs.drop j).length=k+xs.length+(n-j)by simp[m];omega];exact q
def Ky{c:qS}{h d i j e f:Nat}{v xs cs t fz}(k:c.ownsRow h d i v j xs)(a:c.heap[f]?=some (qR cs t fz))(l:d≠t)(b:v.ownBlock=some e):e≠f:=by
 intro g;subst g;rcases k.2 with ⟨rfl,_⟩ | ⟨n,o,p,rfl,_,m,_⟩
 ·simp[Value.ownBlock]at b
 simp only[Value.ownBlock,xE]at b;subst b;rw[m]at a;simp only[xE]at a
 injection a with _ h2 _
 exact l h2
structure jy(c:qS)(a:Nat)(wc:qS)(us d:qU)(gs xs:List Gr)(k:Nat)(v:qT):Prop where
 row:wc.ownsRow a 86 3 v (k+xs.length) (zU (us.take k++d) (gs.take k++xs))
 nest:zd wc a wc.heap.size d (xs.map Gr.cells)
 b:qY c wc
 le:c.heap.size<=a/\a<=wc.heap.size
def jy.start{w2 X wc B us gs k v0 v}(a:qY w2 X)(b:w2.heap.size<=B)(i:B<=X.heap.size)(f:X.ownsRow B 86 3 v0 0 [])(c:X.grownBy wc v0.ownBlock)(g:wc.ownsRow B 86 3 v k (zU (us.take k) (gs.take k))):jy w2 B wc us [] gs [] k v:=by
 have h:=c.size;refine⟨?_,zd.nil _ _ _,a.grown c a.size (λd e=>vC b (f.lt d e).1),b,qF⟩;simpa using g
def jy.row0{w2 wc B us gs k v}(a:jy w2 B wc us [] gs [] k v):wc.ownsRow B 86 3 v k (zU (us.take k) (gs.take k)):=by simpa using a.row
def jy.put{w2 wc X wd B us ws gs xs k v v' u x}(c:jy w2 B wc us ws gs xs k v)(r:us.length=gs.length)(d:qY wc X)(f:jU X wc.heap.size u x.cells)(g:(X.alloc (qR #[u,qC x.lo,qC x.hi] 86)).grownBy wd v.ownBlock)
  (s:wd.ownsRow B 86 3 v' (k+xs.length+1) (zU (us.take k++ws) (gs.take k++xs)++ [u,qC x.lo,qC x.hi])):jy w2 B wd us (ws++ [u]) gs (xs++ [x]) k v':=by
 have j:=c.b.size;have l:=d.size;have m:=g.size;have le:=c.le;rw[kE]at m;have e:=(xe _ X).alloc lR (qR #[u,qC x.lo,qC x.hi] 86);have h:=zE (zE c.row d lR) e lR
 have n:zd X B X.heap.size (ws++ [u]) ((xs++ [x]).map Gr.cells):=by
  rw[vX];exact(c.nest.frame (w':=X) (λa _ b=>d.block a b)).snoc (hi':=X.heap.size) (zF f qF) (λa b=>(f.lt a b).1) (λa b=>(f.lt a b).2) l
 have o:=(n.frame (λa _ b=>e.block a b)).keptY h qG g;refine⟨?_,o.mono lR qF,?_,le.1,qF⟩
 ·have i:=c.nest.len
  rw[xO]at i
  have p:zU (us.take k++(ws++ [u])) (gs.take k++(xs++ [x]))=zU (us.take k++ws) (gs.take k++xs)++ [u,qC x.lo,qC x.hi]:=by
   rw[<- vK,<- vK,yy (by simp[r,i])];rfl
  rw[p,xg];exact s
 have q:=(c.b.trans (d.mono j)).trans (e.mono qF);exact q.grown g (by rw[kE];omega) (λa b=>vC le.1 (h.lt a b).1)
def jy.put0{w2 wc X wd B us gs k v v' u x}(a:jy w2 B wc us [] gs [] k v)(b:us.length=gs.length)(c:qY wc X)(d:jU X wc.heap.size u x.cells)(e:(X.alloc (qR #[u,qC x.lo,qC x.hi] 86)).grownBy wd v.ownBlock)
  (f:wd.ownsRow B 86 3 v' (k+1) (zU (us.take k) (gs.take k)++ [u,qC x.lo,qC x.hi])):jy w2 B wd us [u] gs [x] k v':=
 a.put b c d e (by simpa using f)
def jy.fin{w2 wc wd B lo j k n v0 v v' us ws gs xs}(a:jy w2 B wc us ws gs xs k v)(e:yt 86 w2 lo w2.heap.size v0 us gs)(m:gs.length=n)(o:lo<=w2.heap.size)(p:k<=j)(r:j<=n)(b:wc.grownBy wd v.ownBlock)
  (q:wd.ownsRow B 86 3 v' (k+xs.length+(n-j)) (zU (us.take k++ws) (gs.take k++xs)++zU (us.drop j) (gs.drop j))):yt 86 wd lo wd.heap.size v' (us.take k++ws++us.drop j) (gs.take k++xs++gs.drop j)/\qY w2 wd:=by
 have f:=a.b.size;have g:=b.size;have le:=a.le;have h:=e.len;have c:=a.nest.len;rw[xO]at c;have d:=a.b.grown b f (λi l=>vC le.1 (a.row.lt i l).1);refine⟨FK e d o p (zF ?_ le.1) ((a.nest.keptY a.row qG b).mono le.1 g),d⟩;rw[yy (by simp[h,c])];rw[show(gs.take k++xs++gs.drop j).length=k+xs.length+(n-j)by simp[m];omega];exact q
def jy.other{w2 wc wd we B us ws gs xs k n base v vp zs}(b:jy w2 B wc us ws gs xs k v)(l:wc.ownsRow base 21 1 vp n zs)(r:w2.heap.size<=base)(s:∀a,vp.ownBlock=some a->a<B)(i:wc.grownBy wd vp.ownBlock)
  {gl cs fz} (m:wd.heap[gl]?=some (qR cs 48 fz)) (z:w2.heap.size<=gl) (A:we.heap.size=wd.heap.size) (o:∀a,a≠gl->we.heap[a]? =wd.heap[a]?) (t:Below w2.heap.size wd we):jy w2 B we us ws gs xs k v:=by
 have p:=b.b.size;have w:=i.size;have le:=b.le;have j:=yX b.row l qG i
 have h:zd wd B _ ws _:=⟨b.nest.len,λd u e f g=>zD (b.nest.own d u e f g) (λa c=>i.block a ((b.nest.own d u e f g).lt a c).2 (λq=>by
  have x:=((b.nest.own d u e f g).lt a c).1;have y:=s a q.symm
  omega)),b.nest.bl,b.nest.ne⟩
 refine⟨zD j (λa c=>o a (Ky j m qG c)),?_,(b.b.grown i p (λa c=>vC r (l.lt a c).1)).trans t,le.1,qF⟩;refine zd.mono ⟨h.len,λd u e f g=>zD (h.own d u e f g) (λa c=>o a (Ky (h.own d u e f g) m qG c)),h.bl,h.ne⟩ lR qF
def UF(g p j):(⟨g,p,none⟩:Addr).add j=⟨g,p+j,none⟩:=by
 unfold Addr.add
 split
 ·simp
 rfl
def jy.drew{w2 wc B us ws gs xs k v}(a:jy w2 B wc us ws gs xs k v):jy w2 B wc.drew us ws gs xs k v:=
 ⟨zD a.row (λ_ _=>rfl),a.nest.frame (λ_ _ _=>rfl),⟨a.b.os,a.b.tape,a.b.output,a.b.size,a.b.block⟩,a.le⟩
def Sy{c f e b:qS}{us ws gs ys a gl cl n k ga n' c' g5 nn c5 v vals l z}(y:jy c f.heap.size e us ws gs ys a v)(g:e.ownsRow c.heap.size 48 1 (qM (qD gl 0) n cl) n vals)(C:k<n)(q:e.ownsRow c.heap.size 21 1 (qM (qD ga 0) n' c') n' (zI .i32 l))(D:ga<f.heap.size)(r:e.grownBy b (some ga))(s:b.ownsRow c.heap.size 21 1 (qM (qD g5 0) nn c5) nn (zI .i32 z))(A:z.length=nn):
  (b.setCell (qP gl k) (qM (qD g5 0) nn c5)).cell? (qP gl k)=some (qM (qD g5 0) nn c5)/\jU (b.setCell (qP gl k) (qM (qD g5 0) nn c5)) c.heap.size (qM (qD g5 0) nn c5) z/\jy c f.heap.size (b.setCell (qP gl k) (qM (qD g5 0) nn c5)) us ws gs ys a v:=by
 have i:=yX g q qG r;have j:=(g.lt gl rfl).1
 have w:∃o p,b.heap[gl]?=some (qR o 48 p):=by
  rcases i.2 with ⟨t,_⟩ | ⟨E,F,G,t,_,h,_⟩
  ·cases t
  simp_all
 obtain⟨o,p,h⟩:=w;have x:=i.cellAt k qF;have B:vals.length=n:=by have:=g.1;omega
 have m:∀a,a≠gl->(b.setCell (qP gl k) (qM (qD g5 0) nn c5)).heap[a]? =b.heap[a]?:=λa d=>kb _ _ _ _ qF
 refine⟨World.cell?_setCell_same _ _ _ (u:=vals[k]) (by rw[x];simp),?_,?_⟩
 ·unfold jU
  rw[A];exact zD s (λa d=>m a (Ky s h qG d))
 exact y.other q lR (λa d=>by simp only[Value.ownBlock,xE]at d;omega) r h j qH m ((xe _ _).setCell j _)
structure PS(a wc:qS)(d c e:Nat)(f:qV):Prop where
 b:qY a wc
 wh:wc.ownsRow a.heap.size 21 1 (qM (qD d 0) c e) c (zI .i32 f)
def PS.below{x4 wc X gw lx cw tx}(a:PS x4 wc gw lx cw tx)(b:qY wc X):PS x4 X gw lx cw tx:=
 ⟨a.b.trans (b.mono a.b.size),zE a.wh b lR⟩
def PS.grow{x4 X wd gw lx cw n tx o v xs}(a:PS x4 X gw lx cw tx)(d:(X.alloc o).ownsRow x4.heap.size 86 3 v n xs)(e:(X.alloc o).grownBy wd v.ownBlock):PS x4 wd gw lx cw tx:=by
 have f:=a.b.size;have b:=(xe _ X).alloc lR o;have c:=a.b.trans (b.mono f);exact⟨c.grown e c.size (λg h=>(d.lt g h).1),yX (zE a.wh b lR) d qG e⟩
def j8{d:qS}{base g n cap zs}(e:d.ownsRow base 3 1 (qM (qD g 0) n cap) n (zI .i64 zs))(k):∀a b,(zI .i64 (zs.take k))[a]?=some b->d.cell? (((qP g 0):Addr).add a)=some b:=by
 intro a b c;refine e.cells rfl a b ?_;simp only[zI,xZ,vf]at c |-
 split at c
 ·exact c
 cases c
def jx{c:qS}{h d i j e f:Nat}{v xs cs t fz}(k:c.ownsRow h d i v j xs)(a:c.heap[f]?=some (qR cs t fz))(l:d≠t)(b:v.ownBlock=some e):e≠f:=by
 intro g;subst g;rcases k.2 with ⟨rfl,_⟩ | ⟨n,o,p,rfl,_,m,_⟩
 ·simp[Value.ownBlock]at b
 simp only[Value.ownBlock,xE]at b;subst b;rw[m]at a;simp only[xE]at a
 injection a with _ h2 _
 exact l h2
def yt.offD{t w w'}{i j L:Nat}{v vs gs cs tt fz}(a:yt t w i j v vs gs)(k:w.heap[L]?=some (qR cs tt fz))(m:t≠tt)(n:21≠tt)(l:∀b,b≠L->w'.heap[b]? =w.heap[b]?):yt t w' i j v vs gs:=
 ⟨zD a.row (λb c=>l b (jx a.row k m c)),a.bl,⟨a.nest.len,λd e f g h=>zD (a.nest.own d e f g h) (λb c=>l b (jx (a.nest.own d e f g h) k n c)),a.nest.bl,a.nest.ne⟩⟩
structure FB(w1 a:qS)(c:qW)(n d:Nat)(us:qU)(gs:List Gr)(e m f:Nat)(S:qV):Prop where
 g:yt 86 a w1.heap.size a.heap.size (qM c n d) us gs
 s:a.ownsRow w1.heap.size 3 1 (qM (qD e 0) m f) m (zI .i64 S)
 l:S.length=m
 b:qY w1 a
structure FP(w1 wc:qS)(X n m:Nat)(a:qW)(c e f:Nat)(gs:List Gr)(S:qV):Prop where
 le:w1.heap.size<=X
 d:D2 wc X (qM a n c) (qM (qD e 0) m f) 28
 o:Zh wc w1.heap.size wc.heap.size (qM a n c) (qM (qD e 0) m f) gs S
 b:qY w1 wc
def WV{w1 x7 X x8 v us gs ar n cr g5 m cap5 S}(l:yt 86 x7 w1.heap.size x7.heap.size (qM ar n cr) us gs)(c:qY x7 X)(e:X.ownsRow w1.heap.size 3 1 v 0 [])(d:X.grownBy x8 v.ownBlock)(f:qY w1 x7)(g:x8.ownsRow w1.heap.size 3 1 (qM (qD g5 0) (0+m) cap5) (0+m) ([]++zI .i64 S))(o:S.length=m):
  FB w1 x8 ar n cr us gs g5 m cap5 S:=by
 have h:=d.size;have i:=f.size;have j:=c.size;have k:=(l.frame (λa _ b=>c.block a b)).mono lR j;have BX:=f.trans (c.mono i);rw[xX,vq]at g;exact⟨(k.kept e qG qG d).mono lR h,g,o,BX.grown d qF (λa b=>(e.lt a b).1)⟩
def D2.grown{X x8 L a b v base xs k}(c:D2 X L a b 28)(e:X.ownsRow base 3 1 v k xs)(f:X.grownBy x8 v.ownBlock):D2 x8 L a b 28:=
 (f.block L c.lt (λd=>jx e c qG d.symm rfl)).trans c
def D2.set2{w b x y t}(c:D2 w b x y t)(u v):D2 ((w.setCell (qP b 0) u).setCell (qP b 1) v) b u v t:=by
 unfold D2 at *;have a:=Qv w b 0 _ _ u c;rw[Qv _ b 1 _ _ v a];rfl
def ownLB{c:qS}(a:qS)(d:c.heap.size<=a.heap.size):((a.alloc (qR #[qN,qN] 28)).alloc (qR #[] 3)).ownsRow c.heap.size 3 1 (qM (qD (a.heap.size+1) 0) 0 0) 0 []:=by
 have b:=yZ (a.alloc (qR #[qN,qN] 28)) 3;rw[kE]at b;exact zF b qF
def dBL(a:qS):D2 ((a.alloc (qR #[] 3)).alloc (qR #[qN,qN] 28)) (a.heap.size+1) qN qN 28:=by
 have b:=D2.new (a.alloc (qR #[] 3)) qN qN 28;rw[kE]at b;exact b
def dLB(a:qS):D2 ((a.alloc (qR #[qN,qN] 28)).alloc (qR #[] 3)) a.heap.size qN qN 28:=
 (D2.new a _ _ 28).below ((xe _ _).alloc lR _) qH
def fp_set{w1 x8 ar n cr us gs g5 m cap5 L S a b}(d:FB w1 x8 ar n cr us gs g5 m cap5 S)(f:D2 x8 L a b 28)(g:w1.heap.size<=L):
  FP w1 ((x8.setCell (qP L 0) (qM ar n cr)).setCell (qP L 1) (qM (qD g5 0) m cap5)) L n m ar cr g5 cap5 gs S:=by
 have h:∀c,c≠L->((x8.setCell (qP L 0) (qM ar n cr)).setCell (qP L 1) (qM (qD g5 0) m cap5)).heap[c]? =x8.heap[c]?:=λc e=>by
  rw[kb _ _ _ _ qF,kb _ _ _ _ qF]
 refine⟨g,f.set2 _ _,⟨⟨us,?_⟩,?_,?_⟩,(d.b.setCell g _).setCell g _⟩
 ·exact(d.g.offD f qG qG h).mono lR qH
 ·unfold Zr
  rw[d.l];exact zD d.s (λc e=>h c (jx d.s f qG e))
 intro c e;have:=(d.s.lt c e).2;simp;omega
def fp_new{w1 x8 ar n cr us gs g5 m cap5 S}(a:FB w1 x8 ar n cr us gs g5 m cap5 S):
  FP w1 (x8.alloc (qR #[qM ar n cr,qM (qD g5 0) m cap5] 28)) x8.heap.size n m ar cr g5 cap5 gs S:=by
 refine⟨a.b.size,D2.new _ _ _ _,⟨⟨us,?_⟩,?_,?_⟩,a.b.alloc a.b.size _⟩
 ·exact(a.g.frame (λb _ c=>((xe _ x8).alloc lR _).block b c)).mono lR qH
 ·unfold Zr
  rw[a.l];exact a.s.alloc _
 intro b c;have:=(a.s.lt b c).2;simp;omega
def Kn.ln{L s0 off m k}(b:Kn L s0 off m)(f:k<m)(d:zq L k<=off)(g:∀a,k<a->a<m->off<zq L a):Ln L off k:=by
 refine⟨by have:=b.2.1;omega,d,λc=>?_⟩;rcases vV (k+1) m with e | e
 ·simp_all
 have:m=k+1:=qF
 subst this;have:=b.2.2.2 c;simp at this;omega
def Og(gs)(st)(j:Nat)(y vt)(lo Z)(w)(au:Zh w lo Z y vt gs st)(eb:Z<=w.heap.size)(cs:gs.length<=8193)(T:1<=gs.length)(ct:∀i∈gs,Kq i.cells i.lo i.hi)(aa:jR (gs.map zK)+gs.length<=4194304)(cu:∀i∈gs,i.cells.length<=1048576)(e8:1<=st.length)(ec:st.length<=gs.length)(e9:j<=20000):
  Calls prog 18 #[.agg #[y,vt],qC (j:Int)] w λX bj=>∃(co cp:qT)(n K:Nat),X=qQ (.tuple #[.agg #[co,cp],qC n,qC ((j:Int)-zq (gs.map zK) n)])/\Ln (gs.map zK) j n/\Kn (gs.map zK) st.length j K/\Zh bj w.heap.size bj.heap.size co cp gs ((jL (gs.map zK)).take K)/\qY w bj:=by
 obtain⟨L,M,N,z,B⟩:=vw Tryz.info64T;have E:=zC (((xe w.heap.size w).alloc lR (qR #[y,vt] 28)).alloc qH (qR #[qN,qN] 28));have bs:=zC ((D2.new w y vt 28).below ((xe _ _).alloc lR (qR #[qN,qN] 28)) qH);have av:=zC (D2.new (w.alloc (qR #[y,vt] 28)) qN qN 28);have bt:(w.alloc (qR #[y,vt] 28)).heap.size=w.heap.size+1:=qH
 rw[bt]at av;have bu:((w.alloc (qR #[y,vt] 28)).alloc (qR #[qN,qN] 28)).heap.size=w.heap.size+2:=qH
 have bv:=au.below E eb;have A:=zC (allS gs st y vt lo Z _ bv (by rw[bu];omega) cs T ct aa);obtain⟨fa,cv,ed,ee,rfl,rfl⟩:=au.val;obtain⟨ef,ai⟩:=au.rows;rcases ai.row.2 with ⟨_,n⟩ | ⟨cw,fc,fd,n,_⟩
 ·omega
 simp at n;obtain⟨rfl,rfl⟩:=n;have c4:=zC (fun(Y:qS) (S:qY w Y)=>Pn gs ef cw cv gs.length lo Z Y (ai.frame (λn _ e7=>S.block n qF)) rfl (by have:=S.size;omega) cs cu);obtain⟨LS,bq⟩:∃LS,LS=gs.map zK:=⟨_,rfl⟩
 rw[<- bq]at A aa |-;have am:LS.length=gs.length:=by rw[bq,xO]
 have aw:=zC (show(jL LS).length=gs.length by rw[ji,am])
 have c5:=zC (fun(f:Nat) (Z:f<gs.length)=>(show(jL LS).getD f 0=((zq LS f:Nat):Int)from by
  have ax:=Y7 (by rw[am];omega)
  rw[ax];rfl))
 have ay:=zC (fun(f:Nat) (Z:f<gs.length)=>(show zq LS f<=4194304 from by
  have:=jB LS f
  unfold zq;omega))
 have bw:=zC am;generalize d8:jL LS=x at *;generalize ci:st.length=ag at *;generalize cj:gs.length=k at *;have c6:=zC cj;clear au ai bv ct aa cu d8 ci bt cj bq am;go_enter func18,ntmps18;go_wp2_with fail;generalize (w.alloc (qR #[qM (qD cw 0) k cv,qM ed ag ee] 28)).alloc (qR #[qN,qN] 28)=e6 at *;refine A.mono ?_;rintro X b ⟨fe,rfl,cx,U,al⟩;have ej:=al.size;unfold Zr at U;rw[aw.out]at U;rcases U.2 with ⟨n,_⟩ | ⟨r,C,ff,n,_,_,fg,eg,_⟩
 ·exact absurd n cx
 subst n;have bx:=zC U;have az:=zC (bs.below al qF);have da:=zC (av.below al qF);have a0:=zC (E.trans (al.mono qF));have db:=(U.lt r rfl).2;have ek:r≠w.heap.size+1:=by have:=(U.lt r rfl).1;omega
 have a1:=zC (fun(ah:Nat) (cq:ah<k)=>(show b.cell? (qP r ah)=some (qC ((zq LS ah:Nat):Int))from by
  have:=yL bx ah cq
  rw[this,c5.out ah cq]))
 have el:=az.c.1;have em:=az.c.2;clear U al cx A bs av;unfold maxLen at eg;have dc:w.heap.size<b.heap.size:=qF
 have dd:w.heap.size+1<b.heap.size:=qF
 clear bu;go_wp2_with fail;go_loop [8] (λbk=>∃o:Nat,ag<=o/\o<=k/\bk=qC o/\∀f,ag<=f->f<o->zq LS (f-1)<=j) (λbk=>k-(intOf bk).toNat)
 case atStart=>exact⟨ag,lR,ec,rfl,λf T aq=>qF⟩
 obtain⟨o,eh,fh,rfl,cy⟩:=hrel;have a2:=zC cy;obtain⟨f,rfl⟩:∃f,o=f+1:=⟨o-1,qF⟩
 have de:=a1 f qF;have en:=ay f qF;generalize ck:zq LS f=R at *;have bz:=zC ck;clear cy ck;have eo:(f:Int)<k:=qF
 go_upto_region 3 with fail;go_cut [29]from 17 to 31 (λbl wc=>bl= .bool (decide (f+1<k/\R<=j))/\wc=b)
 case first=>
  by_cases d5:f+1<k
  ·have df:((f+1:Nat):Int)<k:=qF
   by_cases bh:R<=j
   ·have a3:(R:Int)<=j:=qF
    go_wp2_with fail;go_meet
    simp_all
   have a3:¬ (R:Int)<=j:=qF;go_wp2_with fail;go_meet
   simp_all
  have df:¬ ((f+1:Nat):Int)<k:=qF;go_wp2_with fail;go_meet;exact⟨by simp[d5],rfl⟩
 obtain⟨rfl,cz⟩:=hcut;have dg:=cz.symm;subst dg;clear cz;by_cases ap:f+1<k/\R<=j
 ·have an:decide (f+1<k/\R<=j)=true:=by simp[ap]
  simp only[an];go_wp2_with fail;go_round
  case rel=>
   refine⟨f+1+1,qF,qF,qL,λa z B=>?_⟩;by_cases d6:a<f+1
   ·exact a2 a z d6
   obtain rfl:a=f+1:=qF
   show zq LS f<=j
   rw[bz.out];exact ap.2
  simp[intOf];omega
 have an:decide (f+1<k/\R<=j)=false:=by simp[ap]
 simp only[an];have b0:=zC (show Kn LS ag j (f+1)from⟨eh,by rw[bw.out];omega,a2,λax=>by rw[bw.out]at ax;show j<zq LS f;rw[bz.out];omega⟩);clear de ap an a2;generalize ci:f+1=K at *;go_wp2_with fail;go_loop [9,10] (λd9 bn=>∃i a:Nat,a<=K/\d9=qC i/\bn=qC a/\(i<a\/i=0)/\zq LS i<=j/\∀o,i<o->o<a->j<zq LS o) (λ_ bn=>K-(intOf bn).toNat)
 case atStart=>exact⟨0,0,xK _,rfl,rfl,.inr rfl,by simp[zq,jR],λo T aq=>qF⟩
 obtain⟨i,a,ei,rfl,rfl,c0,c1,c2⟩:=hrel;have a4:=zC c0;have a5:=zC c1;have a6:=zC c2;clear c0 c1 c2;by_cases e5:a<K
 ·have dh:(a:Int)<K:=qF
  have ep:=a1 a qF;have eq:(a:Int)<k:=qF;have er:=ay a qF;generalize cl:zq LS a=bi at *;have b1:=zC cl;clear cl;by_cases bh:bi<=j
  ·have a3:(bi:Int)<=j:=qF
   go_wp2_with fail;go_round
   case rel=>exact⟨a,a+1,qF,rfl,qL,.inl qF,by rw[b1.out];exact bh,λo T aq=>qF⟩
   simp[intOf];omega
  have a3:¬ (bi:Int)<=j:=qF;go_wp2_with fail;go_round
  case rel=>
   refine⟨i,a+1,qF,rfl,qL,.inl (by have:=a4.out;omega),a5,λo T aq=>?_⟩;by_cases d7:o=a
   ·rw[d7,b1.out];omega
   exact a6 o T qF
  simp[intOf];omega
 obtain rfl:a=K:=qF
 have dh:¬ (a:Int)<(a:Int):=qF
 have di:i<a:=by have:=a4.out;omega
 have dj:=zC (b0.ln di a5 a6);have dk:=zC (a1 i qF);have es:(i:Int)<k:=qF
 have et:=ay i qF;clear a4 a5 a6 ei;have F:=zC (show(x.take a).length=a by rw[xi,aw.out];omega);have G:=zC (show(zI .i64 (x.take a)).length=a*1 by rw[zG,xi,aw.out];omega);have eu:(a:Int)<=(C:Int):=qF
 have H:=zC (zF bx lR);have dl:=zC (fun(Y:qS) (S:qY b Y)=>(c4 Y (a0.trans (S.mono qF))).mono (R':=λX c=>∃y bp,X=qQ y/\yt 86 c b.heap.size c.heap.size y bp gs/\qY b c/\qY Y c) (λX c⟨cr,bp,ea,ai,aa⟩=>⟨cr,bp,ea,ai.mono S.size lR,S.trans (aa.mono S.size),aa⟩));generalize cm:zq LS i=cn at *;have UU:=zC cm;clear cm;have E:=zC (show qY b b from(xe _ _));have ab:=zC (show qY b (b.alloc (qR #[] 3))from((xe _ _).alloc lR _));have A:=zC (show qY b (b.alloc (qR #[qN,qN] 28))from((xe _ _).alloc lR _));have ac:=zC (show qY b ((b.alloc (qR #[] 3)).alloc (qR #[qN,qN] 28))from(((xe _ _).alloc lR _).alloc qH _));have ad:=zC (show qY b ((b.alloc (qR #[qN,qN] 28)).alloc (qR #[] 3))from(((xe _ _).alloc lR _).alloc qH _));have b2:(b.alloc (qR #[] 3)).heap.size=b.heap.size+1:=qH
 have a7:(b.alloc (qR #[qN,qN] 28)).heap.size=b.heap.size+1:=qH
 have b3:=zC (yZ b 3);have dm:=zC ((yZ b 3).alloc (qR #[qN,qN] 28));have b4:=zC (zF (base':=b.heap.size) (yZ (b.alloc (qR #[qN,qN] 28)) 3) qH);rw[a7]at b4;have b5:=zC (D2.new b qN qN 28);have dn:=zC (b5.below ((xe _ _).alloc lR (qR #[] 3)) (by rw[a7];omega));have b6:=zC (D2.new (b.alloc (qR #[] 3)) qN qN 28);rw[b2]at b6;clear b2 a7;go_upto_region 11 with fail;go_cut [11]from 12 to 60 (λbl wc=>∃ar aj ak s t,bl= .pointer (qD ar 0)/\FP b wc ar k a aj ak s t gs (x.take a))
 case first=>
  go_region_law (first
   |(refine step_append_lies _ rfl _ _ 26 rfl b.heap.size 3 L (qC 0) 1 8 underlying26 M N z B rfl qG _ 0 [] rfl (cc) (qP r 0) a C (zI .i64 (x.take a)) rfl G (du) (zJ _ _) qF qF qF qF _ rfl ?_;intro s t Q h d _ q;have l:=zC (WV I cb cc d J h F);have O:=l.b.size;have P:=d.size;clear h d q)
   |(refine step_append_lies _ rfl _ _ 26 rfl b.heap.size 3 L (qC 0) 1 8 underlying26 M N z B rfl qG _ 0 [] rfl (bg) (qP r 0) a C (zI .i64 (x.take a)) rfl G (d1) (zJ _ _) qF qF qF qF _ rfl ?_;intro s t Q h d _ q;have l:=zC (WV I cg bg d J h F);have O:=l.b.size;have P:=d.size;have e:=zC (d2.grown bg d);have u0:=e.c.1;have u1:=e.c.2;have V:=e.fz 0;have W:=e.fz 1;have ae:=e.lt;clear h d q)
   |(refine step_append_lies _ rfl _ _ 26 rfl b.heap.size 3 L (qC 0) 1 8 underlying26 M N z B rfl qG _ 0 [] rfl (bf) (qP r 0) a C (zI .i64 (x.take a)) rfl G (dz) (zJ _ _) qF qF qF qF _ rfl ?_;intro s t Q h d _ q;have l:=zC (WV I cf bf d J h F);have O:=l.b.size;have P:=d.size;have e:=zC (d0.grown bf d);have u0:=e.c.1;have u1:=e.c.2;have V:=e.fz 0;have W:=e.fz 1;have ae:=e.lt;clear h d q)
   |(refine step_append_lies _ rfl _ _ 26 rfl b.heap.size 3 L (qC 0) 1 8 underlying26 M N z B rfl qG _ 0 [] rfl (bc) (qP r 0) a C (zI .i64 (x.take a)) rfl G (dv) (zJ _ _) qF qF qF (by first | (simp;omega)) _ rfl ?_;intro s t Q h d _ q;have l:=zC (WV I cd bc d J h F);have O:=l.b.size;have P:=d.size;have e:=zC (dw.grown bc d);have u0:=e.c.1;have u1:=e.c.2;have V:=e.fz 0;have W:=e.fz 1;have ae:=e.lt;clear h d q)
   |(refine step_append_lies _ rfl _ _ 26 rfl b.heap.size 3 L (qC 0) 1 8 underlying26 M N z B rfl qG _ 0 [] rfl (b8) (qP r 0) a C (zI .i64 (x.take a)) rfl G (dp) (zJ _ _) qF qF qF (by first | (simp;omega)) _ rfl ?_;intro s t Q h d _ q;have l:=zC (WV I b7 b8 d J h F);have O:=l.b.size;have P:=d.size;clear h d q)
   |(refine step_append_lies _ rfl _ _ 26 rfl b.heap.size 3 L (qC 0) 1 8 underlying26 M N z B rfl qG _ 0 [] rfl (bd) (qP r 0) a C (zI .i64 (x.take a)) rfl G (dx) (zJ _ _) qF qF qF (by first | (simp;omega)) _ rfl ?_;intro s t Q h d _ q;have l:=zC (WV I ce bd d J h F);have O:=l.b.size;have P:=d.size;have e:=zC (dy.grown bd d);have u0:=e.c.1;have u1:=e.c.2;have V:=e.fz 0;have W:=e.fz 1;have ae:=e.lt;clear h d q)
   |(refine step_append_lies _ rfl _ _ 26 rfl b.heap.size 3 L (qC 0) 1 8 underlying26 M N z B rfl qG _ 0 [] rfl (a9) (qP r 0) a C (zI .i64 (x.take a)) rfl G (dq) (zJ _ _) qF qF qF (by first | (simp;omega)) _ rfl ?_;intro s t Q h d _ q;have l:=zC (WV I b9 a9 d J h F);have O:=l.b.size;have P:=d.size;have e:=zC (dr.grown a9 d);have u0:=e.c.1;have u1:=e.c.2;have V:=e.fz 0;have W:=e.fz 1;have ae:=e.lt;clear h d q)
   |(refine step_append_lies _ rfl _ _ 26 rfl b.heap.size 3 L (qC 0) 1 8 underlying26 M N z B rfl qG _ 0 [] rfl (ba) (qP r 0) a C (zI .i64 (x.take a)) rfl G (ds) (zJ _ _) qF qF qF (by first | (simp;omega)) _ rfl ?_;intro s t Q h d _ q;have l:=zC (WV I ca ba d J h F);have O:=l.b.size;have P:=d.size;have e:=zC (dt.grown ba d);have u0:=e.c.1;have u1:=e.c.2;have V:=e.fz 0;have W:=e.fz 1;have ae:=e.lt;clear h d q)
   |(go_simp;go_wp2_with (go_at_call 43;refine(dl _ (by first | exact(show qY b _ from⟨E.os,E.tape,E.output,E.size,E.block⟩) | exact(show qY b _ from⟨ab.os,ab.tape,ab.output,ab.size,ab.block⟩) | exact(show qY b _ from⟨A.os,A.tape,A.output,A.size,A.block⟩) | exact(show qY b _ from⟨ac.os,ac.tape,ac.output,ac.size,ac.block⟩) | exact(show qY b _ from⟨ad.os,ad.tape,ad.output,ad.size,ad.block⟩))).mono ?_;rintro X c ⟨fi,fj,rfl,br,v,g⟩;obtain⟨fk,fl,c3⟩:=br.val;rw[c6.out]at c3;subst c3;have I:=zC br;have J:=zC v;have u:=v.size;have ev:w.heap.size+1<c.heap.size:=qF;have a8:=(az.below v dc);have ew:=a8.c.1;have ex:=a8.c.2;first | (have m:qY b c:=⟨g.os,g.tape,g.output,g.size,g.block⟩;have b7:=zC (show qY c (c.alloc (qR #[] 3))from((xe _ _).alloc lR _));have b8:=zC (zF (yZ c 3) u);have dp:=zC (j8 (zE H (v.trans (b7.mono u)) lR) a);have b9:=zC (show qY c ((c.alloc (qR #[] 3)).alloc (qR #[qN,qN] 28))from(((xe _ _).alloc lR _).alloc qH _));have a9:=zC (zF (base':=b.heap.size) ((yZ c 3).alloc (qR #[qN,qN] 28)) u);have dq:=zC (j8 (zE H (v.trans (b9.mono u)) lR) a);have dr:=zC (show D2 ((c.alloc (qR #[] 3)).alloc (qR #[qN,qN] 28)) (c.heap.size+1) qN qN 28 from dBL c);have ca:=zC (show qY c ((c.alloc (qR #[qN,qN] 28)).alloc (qR #[] 3))from(((xe _ _).alloc lR _).alloc qH _));have ba:=zC (ownLB c u);have ds:=zC (j8 (zE H (v.trans (ca.mono u)) lR) a);have dt:=zC (show D2 ((c.alloc (qR #[qN,qN] 28)).alloc (qR #[] 3)) c.heap.size qN qN 28 from dLB c);clear m) | (have m:Below (b.alloc (qR #[] 3)).heap.size (b.alloc (qR #[] 3)) c:=⟨g.os,g.tape,g.output,g.size,g.block⟩;have cb:=zC (show qY c c from(xe _ _));have cc:=zC (zE b3 m lR);have du:=zC (j8 (zE H (v.trans (cb.mono u)) lR) a);have cd:=zC (show qY c (c.alloc (qR #[qN,qN] 28))from((xe _ _).alloc lR _));have bc:=zC ((zE b3 m lR).alloc (qR #[qN,qN] 28));have dv:=zC (j8 (zE H (v.trans (cd.mono u)) lR) a);have dw:=zC (show D2 (c.alloc (qR #[qN,qN] 28)) c.heap.size qN qN 28 from D2.new c qN qN 28);clear m) | (have m:Below (b.alloc (qR #[qN,qN] 28)).heap.size (b.alloc (qR #[qN,qN] 28)) c:=⟨g.os,g.tape,g.output,g.size,g.block⟩;have ce:=zC (show qY c (c.alloc (qR #[] 3))from((xe _ _).alloc lR _));have bd:=zC (zF (base':=b.heap.size) (yZ c 3) u);have dx:=zC (j8 (zE H (v.trans (ce.mono u)) lR) a);have dy:=zC (show D2 (c.alloc (qR #[] 3)) b.heap.size qN qN 28 from(b5.below m (by simp<;>omega)).below ((xe c.heap.size c).alloc lR (qR #[] 3)) (by first | (have:=m.size;simp at this;omega)));clear m) | (have m:Below ((b.alloc (qR #[] 3)).alloc (qR #[qN,qN] 28)).heap.size ((b.alloc (qR #[] 3)).alloc (qR #[qN,qN] 28)) c:=⟨g.os,g.tape,g.output,g.size,g.block⟩;have cf:=zC (show qY c c from(xe _ _));have bf:=zC (zE dm m lR);have dz:=zC (j8 (zE H (v.trans (cf.mono u)) lR) a);have d0:=zC (show D2 c (b.heap.size+1) qN qN 28 from b6.below m (by simp<;>omega));clear m) | (have m:Below ((b.alloc (qR #[qN,qN] 28)).alloc (qR #[] 3)).heap.size ((b.alloc (qR #[qN,qN] 28)).alloc (qR #[] 3)) c:=⟨g.os,g.tape,g.output,g.size,g.block⟩;have cg:=zC (show qY c c from(xe _ _));have bg:=zC (zE b4 m lR);have d1:=zC (j8 (zE H (v.trans (cg.mono u)) lR) a);have d2:=zC (show D2 c b.heap.size qN qN 28 from dn.below m (by simp<;>omega));clear m);clear br v g a8)))
  all_goals
   go_wp2_with fail;go_meet
   first
    | exact⟨_,_,_,_,_,rfl,fp_set l e qF⟩
    | exact⟨_,_,_,_,_,rfl,fp_new l⟩
 obtain⟨ar,aj,ak,s,t,rfl,D⟩:=hcut;have ch:=zC D;have ey:=D.b.size;have ez:=D.d.c.1;have e0:=D.d.c.2;have bh:=D.le;have e1:=D.d.lt;have e2:ar≠w.heap.size+1:=qF
 have ao:=zC (da.below D.b dd);have V:=ao.fz 0;have W:=ao.fz 1;have d3:=ao.c.1;have d4:=ao.c.2;have e3:wc.cell? (qP r i)=some (qC (cn:Int)):=(D.b.cell (p:=(qP r i)) db).trans dk;have e4:=a0.size;clear D;go_upto_region 12 with fail;go_region
 all_goals
  go_wp2_with fail;refine vg (v:=.tuple #[.agg #[qM aj k ak,qM (qD s 0) a t],qC i,qC ((j:Int)-cn)]) (by simp[results,results18,go_sem,d3,d4]) rfl ⟨_,_,i,by rw[UU.out],dj,a,b0,?_,?_⟩
  ·refine(ch.o.frame (λn T aq=>?_)).mono qF qH
   change ((wc.setCell (qP (w.heap.size+1) 0) (qM aj k ak)).setCell (qP (w.heap.size+1) 1) (qM (qD s 0) a t)).heap[n]? =_
   rw[xj _ _ _ _ (by show n≠w.heap.size+1;omega),xj _ _ _ _ (by show n≠w.heap.size+1;omega)]
  have af:qY w ((wc.setCell (qP (w.heap.size+1) 0) (qM aj k ak)).setCell (qP (w.heap.size+1) 1) (qM (qD s 0) a t)):=((a0.trans (ch.b.mono qF)).setCell qH _).setCell qH _;exact⟨af.os,af.tape,af.output,af.size,af.block⟩
def zA1{x6 x8 X dc cap ao zs dl dh a b c}(g:jU x8 x6.heap.size (qM ao dc cap) zs)(l:qY x6 x8)(h:Q3 x8 X a b c 86)(f:x6.heap.size<=X):
  Q3 (((x8.setCell (qP X 0) (qM ao dc cap)).setCell (qP X 1) (qC dl)).setCell (qP X 2) (qC dh)) X (qM ao dc cap) (qC dl) (qC dh) 86/\jU (((x8.setCell (qP X 0) (qM ao dc cap)).setCell (qP X 1) (qC dl)).setCell (qP X 2) (qC dh)) x6.heap.size (qM ao dc cap) zs/\qY x6 (((x8.setCell (qP X 0) (qM ao dc cap)).setCell (qP X 1) (qC dl)).setCell (qP X 2) (qC dh)):=by
 refine⟨?_,zD g (λe k=>?_),((l.setCell f _).setCell f _).setCell f _⟩
 ·unfold Q3 at *
  have i:=Qv x8 X 0 _ _ (qM ao dc cap) h;have j:=Qv _ X 1 _ _ (qC dl) i;rw[Qv _ X 2 _ _ _ j];rfl
 have d:=jx g h qG k;rw[kb _ _ _ _ (by show e≠X;exact d),kb _ _ _ _ (by show e≠X;exact d),kb _ _ _ _ (by show e≠X;exact d)]
def q3_new{x6 x8 dc cap ao zs dl dh}(b:jU x8 x6.heap.size (qM ao dc cap) zs)(a:qY x6 x8):
  Q3 (x8.alloc (qR #[qM ao dc cap,qC dl,qC dh] 86)) x8.heap.size (qM ao dc cap) (qC dl) (qC dh) 86/\jU (x8.alloc (qR #[qM ao dc cap,qC dl,qC dh] 86)) x6.heap.size (qM ao dc cap) zs/\qY x6 (x8.alloc (qR #[qM ao dc cap,qC dl,qC dh] 86)):=
 ⟨Q3.new _ _ _ _ _,kB b _,a.alloc a.size _⟩
def Jq{e:qS}{X p v a b c}(f:e.cell? p=some v)(d:p.block≠X):(((e.setCell (qP X 0) a).setCell (qP X 1) b).setCell (qP X 2) c).cell? p=some v:=by
 refine Eq.trans (xq ?_) f;rw[kb _ _ _ _ d,kb _ _ _ _ d,kb _ _ _ _ d]
def Oh{w base g n cap zs}(b:w.ownsRow base 21 1 (qM (qD g 0) n cap) n (zI .i32 zs))(p)(j:p<=n)(ad)(i:(n=p/\ad=(qP g 0))\/ad=(qP g p))(c):Sl .i32 w (qM (some ad) (n-p) c) (zs.drop p):=by
 have d:=by have:=b.1;simpa[zI]using this
 have e:=(b.lt g rfl).2;rcases i with ⟨rfl,rfl⟩ | rfl
 ·have h:zs.drop n= []:=vx qF
  rw[h,kh];exact .inr ⟨g,0,c,rfl,e,λf a=>by simp at a⟩
 refine .inr ⟨g,p,c,by rw[xz,d],e,λf a=>?_⟩;rw[xz,d]at a;have:=yL b (p+f) qF;rw[this];simp[List.getD]
def zA2(gs)(st)(ae b k k2)(x y)(O P)(lo hi)(w)(W:Zh w lo hi O P gs st)(h6:hi<=w.heap.size)(ad:gs.length<=8193)(b1:1<=gs.length)(b3:∀x∈gs,Kq x.cells x.lo x.hi)(d7:jR (gs.map zK)+gs.length<=4194304)(ct:∀x∈gs,x.cells.length<=1048576)(d8:1<=st.length)(h7:st.length<=gs.length)(h8:(jn (gs.map zK)).length<=8192)(lt:ae<b)(h9:b<=(jn (gs.map zK)).length)(cu:Ln (gs.map zK) ae k)(cv:Ln (gs.map zK) b k2)(b4:gs[k]?=some x)(b5:gs[k2]?=some y):
  Calls prog 17 #[.agg #[O,P],qC ae,qC b] w λK N=>∃(f5 f6:qT),K=qQ (.agg #[f5,f6])/\Zh N w.heap.size N.heap.size f5 f6 (gs.take k++ [X9 k k2 x y (ae-zq (gs.map zK) k) (b-zq (gs.map zK) k2)]++gs.drop (k2+1)) ((jL (gs.map zK)).take (k+1))/\qY w N:=by
 have cz:=zC (((xe w.heap.size w).alloc lR (qR #[O,P] 28)).alloc qH (qR #[qN,qN] 28));have ef:=zC ((D2.new w O P 28).below ((xe _ _).alloc lR (qR #[qN,qN] 28)) qH);have c0:=zC (D2.new (w.alloc (qR #[O,P] 28)) qN qN 28);have eg:(w.alloc (qR #[O,P] 28)).heap.size=w.heap.size+1:=qH
 rw[eg]at c0;have eh:((w.alloc (qR #[O,P] 28)).alloc (qR #[qN,qN] 28)).heap.size=w.heap.size+2:=qH
 have ei:=zC (Og gs st ae O P lo hi _ (W.below cz h6) (by rw[eh];omega) ad b1 b3 d7 ct d8 h7 qF);have ej:=zC (fun(O P) hv (cp W) i hw hx hy hz=>Og gs hv b O P cp W i hw hx ad b1 b3 d7 ct hy hz qF);obtain⟨ic,id,ie,ig,rfl,rfl⟩:=W.val;have ek:=zC cu;have el:=zC cv;have c1:(gs.map zK)[k]?=some (zK x):=by rw[xZ,b4];rfl
 have c2:(gs.map zK)[k2]?=some (zK y):=by rw[xZ,b5];rfl
 have gq:=cu.colS qF c1;have c:=cv.colS h9 c2;have i5:=cu.mono cv qF;have em:=b3 x (xH b4);have en:=b3 y (xH b5);have HT:=zC (show k≠k2->(zK x).length+(zK y).length<=8192 from λlr=>Xa qF c1 c2 h8);have HS:=zC ct;have gr:=(xp.1 b4).1;have gt:=(xp.1 b5).1;have c3:=zC (show(jL (gs.map zK)).length=gs.length by rw[ji,xO]);have c4:=zC b4;have c5:=zC b5;obtain⟨n,gd⟩:∃d5,d5=ae-zq (gs.map zK) k:=⟨_,rfl⟩
 obtain⟨d,ge⟩:∃d5,d5=b-zq (gs.map zK) k2:=⟨_,rfl⟩
 have eo:=zC (show(ae-(zq (gs.map zK) k))=(n:Int)by omega);have ep:=zC (show(b-(zq (gs.map zK) k2))=(d:Int)by omega);have eq:k=k2->n<=d:=by intro K;subst K;omega
 rw[<- gd,<- ge];have er:n<=(zK x).length:=qF
 have gu:d<=(zK y).length:=qF
 have gv:=zC d8;have c6:=zC (show(gs.map zK).length=gs.length by rw[xO]);clear W b3 d7 ct c1 c2 cu cv b4 b5 eg gq c gd ge;generalize hl:gs.map zK=LS at *;generalize hm:jL LS=co at *;generalize fy:gs.length=j at *;have z:=zC fy;clear fy;have i6:¬ (ae:Int)=b:=qF
 go_enter func17,ntmps17;go_wp2_with fail;generalize hn:st.length=hu at *;generalize (w.alloc (qR #[qM ic j id,qM ie hu ig] 28)).alloc (qR #[qN,qN] 28)=lk at *;refine ei.mono ?_;rintro K au ⟨lu,lv,a,Y,rfl,a5,cw,ea,b7⟩;obtain rfl:=a5.uniq ek;have gw:=b7.size;have i7:=by have:=cw.2.1;rw[c6.out]at this;exact this
 have i8:1<=Y:=by have:=cw.1;omega
 have i9:=cw.ltS a5 qF;have ah:=zC (ef.below b7 qF);have es:=zC (c0.below b7 qF);have et:=zC (cz.trans (b7.mono qF));have bd:=zC (show(co.take Y).length=Y by rw[xi,c3.out];omega);have eu:=zC ea;obtain⟨a6,a7,a8,a9,b8,b9⟩:=ea.val;rw[z.out]at b8;rw[bd.out]at b9;subst b8 b9;have ai:=ah.fz 0;have aj:=ah.fz 1;have ak:=ah.c.1;have al:=ah.c.2;have j0:=ah.lt;rw[eo.out];clear ea b7 ei ef c0 cw a5;have gx:((au.setCell (qP w.heap.size 0) (qM a6 j a7)).setCell (qP w.heap.size 1) (qM a8 Y a9)).heap.size=au.heap.size:=qH
 have da:∀a,a≠w.heap.size->((au.setCell (qP w.heap.size 0) (qM a6 j a7)).setCell (qP w.heap.size 1) (qM a8 Y a9)).heap[a]? =au.heap[a]?:=λa b0=>by
  rw[kb _ _ _ _ (by show a≠w.heap.size;exact b0),kb _ _ _ _ (by show a≠w.heap.size;exact b0)]
 have ev:=zC (eu.frame (λa b1 f7=>da a qF));have ew:=zC (ah.set2 (qM a6 j a7) (qM a8 Y a9));have ex:=zC (show D2 ((au.setCell (qP w.heap.size 0) (qM a6 j a7)).setCell (qP w.heap.size 1) (qM a8 Y a9)) (w.heap.size+1) _ _ _ from(da _ qF).trans es);have ey:=zC (show qY w ((au.setCell (qP w.heap.size 0) (qM a6 j a7)).setCell (qP w.heap.size 1) (qM a8 Y a9))from(et.setCell lR _).setCell lR _);clear ah es et eu da;go_wp2_with fail;generalize (au.setCell (qP w.heap.size 0) (qM a6 j a7)).setCell (qP w.heap.size 1) (qM a8 Y a9)=ll at *;refine(ej _ _ _ _ _ _ ev qF (by rw[bd.out];omega) (by rw[bd.out];omega)).mono ?_;rintro K av ⟨lw,lx,c,ag,rfl,a5,cx,aw,ca⟩;obtain rfl:=a5.uniq el;rw[bd.out]at cx;have gy:=ca.size;have j1:=by have:=cx.2.1;rw[c6.out]at this;exact this
 have j2:=cx.1;have bf:=zC (show(co.take ag).length=ag by rw[xi,c3.out];omega);have gz:=zC aw;obtain⟨ly,E,lz,u,b8,b9⟩:=aw.val;rw[z.out]at b8;rw[bf.out]at b9;subst b8 b9;obtain⟨p,cy⟩:=aw.rows;have cd:=cy.len;rcases cy.row.2 with ⟨_,e⟩ | ⟨l,l0,l1,e,-,-,ih,ii,-⟩
 ·rw[z.out]at e;omega
 rw[z.out]at e ih;simp only[jW,true_and]at e;obtain⟨rfl,rfl⟩:=e;have hst2:=aw.starts;unfold Zr at hst2;rw[bf.out]at hst2;rcases hst2.2 with ⟨_,e⟩ | ⟨v,l2,l3,e,-,-,z3,ij,-⟩
 ·omega
 simp only[jW,true_and]at e;obtain⟨rfl,rfl⟩:=e;have ax:=zC (ew.below ca qF);have ez:=zC (ex.below ca qF);have e0:=zC (ey.trans (ca.mono qF));clear ai aj ak al;have ai:=ax.fz 0;have aj:=ax.fz 1;have ak:=ax.c.1;have al:=ax.c.2;rw[ep.out]
 have ce:∀a,a≠w.heap.size->((av.setCell (qP w.heap.size 0) (qM (qD l 0) j E)).setCell (qP w.heap.size 1) (qM (qD v 0) ag u)).heap[a]? =av.heap[a]?:=λa b0=>by
  rw[kb _ _ _ _ (by show a≠w.heap.size;exact b0),kb _ _ _ _ (by show a≠w.heap.size;exact b0)]
 have g0:((av.setCell (qP w.heap.size 0) (qM (qD l 0) j E)).setCell (qP w.heap.size 1) (qM (qD v 0) ag u)).heap.size=av.heap.size:=qH
 have e1:=zC (cy.frame (λa b1 f7=>ce a qF));have db:=zC (Zg aw.starts aw.bl (λa b1 f7=>ce a qF));have G:=zC (ax.set2 (qM (qD l 0) j E) (qM (qD v 0) ag u));have cf:=zC (show D2 ((av.setCell (qP w.heap.size 0) (qM (qD l 0) j E)).setCell (qP w.heap.size 1) (qM (qD v 0) ag u)) (w.heap.size+1) _ _ _ from(ce _ qF).trans ez);have cg:=zC (show qY w ((av.setCell (qP w.heap.size 0) (qM (qD l 0) j E)).setCell (qP w.heap.size 1) (qM (qD v 0) ag u))from(e0.setCell lR _).setCell lR _);clear ew ex ey ev ax ez e0 ce aw ca a5 cx ej cy hst2 gz;go_upto_region 5 with fail;generalize (av.setCell (qP w.heap.size 0) (qM (qD l 0) j E)).setCell (qP w.heap.size 1) (qM (qD v 0) ag u)=g at *;have aa:=zC (e1.mono (lo':=w.heap.size) (hi':=g.heap.size) qF qF);have dc:=zC (show Zr g w.heap.size _ _ from zF db qF)
 have dd:=zC (show bel g.heap.size (qM (qD v 0) (a+1) u)from λe q=>by
  have:=(db.lt v rfl).2;simp only[Value.ownBlock,xE]at q
  omega)
 have de:=cg.size;have ab:=G.lt;have e2:=cf.lt;have j3:=(aa.row.lt l rfl).2;clear e1 db ai aj ak al d8 gv hl hm hn bd gx g0 gw gy cz eh;unfold maxLen at ii ij;have df:=zC ((xe g.heap.size g).alloc lR (qR #[] 86));have dg:=zC (Ef g 86);have e3:=zC (Hg (aa.frame (w':=g.alloc (qR #[] 86)) (λe _ q=>df.block e q)) z a qF);have e4:=zC (UC cd z a qF);have dh:=zC (fun(h0:qU) (h1:List Gr) (h2:∀I∈h0,I∈p)=>Wt (gs:=h1) (λI b2=>aa.nest.one I (h2 I b2)));have e5:=zC (dh (p.take a) (gs.take a) (λI b2=>vO b2));have e6:=zC (dh (p.drop (c+1)) (gs.drop (c+1)) (λI b2=>vS b2));have bg:=G.c.1;have bh:=G.c.2;have j4:w.heap.size≠g.heap.size:=qF
 go_upto_if 41 with (at_builtin;refine QW _ rfl _ _ rfl g.heap.size _ 0 [] rfl dg (qP l 0) a E (zU (p.take a) (gs.take a)) rfl e4 e3 e5 qK qF qH ?_;intro k8 T cn fw _)
 rw[xX,vq]at cn;obtain⟨gf,gg,ik⟩:=jC cn;subst ik;have A:=zC (Fp.start df dg fw cn);have g1:=A.b.size;clear cn fw dg e3 df bg bh e4 e5 dh;obtain⟨il,ao,cb,U⟩:=aa.out.get (by rw[z.out];exact gr);obtain rfl:x=il:=by rw[c4.out]at cb;exact vU cb
 obtain⟨im,io,cc,eb⟩:=aa.out.get (by rw[z.out];exact gt);obtain rfl:y=im:=by rw[c5.out]at cc;exact vU cc
 have ay:=zC (fun(i:qS) (D:qY g i)=>aa.frame (w':=i) (λe _ q=>D.block e q));have az:=zC (λi D=>(ay i D).inner cb U);have ch:=zC (λi D=>(ay i D).inner cc eb);have a0:=zC (λi D=>(ay i D).cells z cb U);have YC:=zC (λi D=>(ay i D).cells z cc eb);obtain⟨ip,iq,gh⟩:=yw (az g (xe _ _));obtain⟨l4,l5,gi⟩:=yw (ch g (xe _ _));have bi:=zC em;have e7:=zC en;have bj:=zC gh;have di:=zC gi;have ka:(a:Int)<j:=qF
 have kc:(c:Int)<j:=qF
 clear cb U cc eb gh gi em en;go_cut [11]from 12 to 95 (λh3 wc=>∃cq cr a4,h3= .slice cq (a+1) cr/\Fp g wc p [a4] gs [X9 a c x y n d] a (qM cq (a+1) cr))
 case first=>
  by_cases d2:a=c
  ·subst d2
   have ci:=zC (show X9 a a x y n d=delG x n d by unfold X9;rw[xS rfl])
   have e8:x=y:=by
    have ac:=c5.out;rw[c4.out]at ac;exact vU ac
   have am:=zC (Sz x w.heap.size ao n d T (az T A.b) bi (eq rfl) (by rw[e8];exact gu));clear e8;obtain⟨ec,gj,gk⟩:=a0.out T A.b;have an:=G.below A.b ab;have bg:=an.c.1;have bh:=an.c.2;clear an;generalize ho:delG x n d=M at *;generalize hp:x.lo=f1 at *;generalize hq:x.hi=f2 at *;rw[bj.out]at ec am;generalize hr:x.cells.length=f3 at *;generalize d3:M.lo=ap at *;generalize d4:M.hi=aq at *;generalize hs:M.cells.length=X at *;have e9:=zC d3;have fa:=zC d4;clear d3 d4;go_wp2_with fail;refine am.mono ?_;rintro K h ⟨F,r,rfl,Z,s⟩;have fc:=s.size;have dj:=zC Z;have o:=zC s;have dk:=zC ((zE A.row0 s lR).alloc (qR #[qM F X r,qC ap,qC aq] 86));have dl:=zC (zV h 86 [qM F X r,qC ap,qC aq]);have dm:=zC (fun(b6:qT) (af:qS) (ad:(h.alloc (qR #[qM F X r,qC ap,qC aq] 86)).grownBy af (Value.slice gf a gg).ownBlock) (ar:af.ownsRow g.heap.size 86 3 b6 (a+1) (zU (p.take a) (gs.take a)++ [qM F X r,qC ap,qC aq]))=>A.put0 (x:=M) cd s Z (by rw[e9.out,fa.out];exact ad) (by rw[e9.out,fa.out];exact ar));clear Z s am;go_wp2_with (at_builtin;refine QW _ rfl _ _ rfl g.heap.size _ _ _ rfl dk (qP h.heap.size 0) 1 1 [qM F X r,qC ap,qC aq] rfl rfl dl (by intro ao U;simp at U;rcases U with rfl | rfl | rfl<;>rfl) qK qF qJ ?_;intro d0 m V bt _);have dn:=zC (dm d0 m bt V);obtain⟨ir,c7,ed⟩:=jC V;subst ed;clear V bt;go_wp2_with fail;go_meet;exact⟨_,_,_,rfl,by rw[ci.out];exact dn⟩
  have kd:¬ (a:Int)=(c:Int):=qF;have ci:=zC (show X9 a c x y n d=jh (delG x n (zK x).length) n ((zK y).drop d)by unfold X9;rw[xJ d2]);have g2:=HT d2;have dp:=j7 bi er lR;have fd:=zC dp.1;have fe:(zK (delG x n (zK x).length)).length=n:=(by rw[dp.2];simp;omega);have dq:=zC fe;clear dp fe;have dr:=zC (II y w.heap.size io T (ch T A.b) e7);have TX:=zC (fun(i:qS) (D:qY g i)=>II x w.heap.size ao i (az i D) bi);have am:=zC (fun(i:qS) (D:qY g i)=>Sz x w.heap.size ao n (zK x).length i (az i D) bi er lR);have ds:=zC (fun(I:qT) (cp:Nat) (gb:qW) (d9 gc:Nat) (i:qS) (ar:jU i cp I (delG x n (zK x).length).cells) (ia:d9=((zK y).drop d).length) (ib:Sl .i32 i (qM gb d9 gc) ((zK y).drop d))=>zA0 (delG x n (zK x).length) cp I n ((zK y).drop d) gb d9 gc i ar fd ia ib (by rw[dq.out];exact lR) (by rw[dq.out,xz];omega));rw[bj.out]at TX am;rw[di.out]at dr;generalize ho:delG x n (zK x).length=M at *;generalize q:jh M n ((zK y).drop d)=bv at *;have ff:=zC (show((zK y).drop d).length=(zK y).length-d by rw[xz]);have fg:=YC T A.b;rw[di.out]at fg;obtain⟨ec,gj,gk⟩:=fg;have an:=G.below A.b ab;have bg:=an.c.1;have bh:=an.c.2;clear an;generalize lb:zK y=f4 at *;generalize lc:y.lo=lm at *;generalize ld:y.hi=ln at *;generalize lf:y.cells.length=lp at *;generalize lh:(zK x).length=lq at *;generalize li:f4.length=bw at *;go_upto_region 8 with fail;go_cut [12]from 14 to 95 (λh4 wc=>∃cs f8,h4= .slice (some cs) (bw-d) f8/\Sl .i32 wc (qM (some cs) (bw-d) f8) (f4.drop d)/\qY T wc)
  case first=>
   go_wp2_with fail;refine dr.mono ?_;rintro K h ⟨gm,r,rfl,Z,⟨l6,it⟩,s⟩;unfold maxLen at it;have dj:=zC Z;have o:=zC s;clear Z s;by_cases la:r=d
   ·have g3:bw=d:=qF
    have g4:(r:Int)=(d:Int):=qF;go_wp2_with fail;go_meet;exact⟨(qP gm 0),0,by rw[show bw-d=0 by omega],Oh dj d qF _ (.inl ⟨g3,rfl⟩) _,o⟩
   have g4:¬ (r:Int)=(d:Int):=qF;go_wp2_with fail;go_meet;exact⟨(qP gm d),_,rfl,Oh dj d qF _ (.inr rfl) _,o⟩
  obtain⟨cs,iu,rfl,gn,s⟩:=hcut
  rename qS=>h
  have fh:=zC gn;have fi:=zC s;have fc:=s.size;have o:=zC (A.b.trans (s.mono g1));have fj:=a0 h o;rw[bj.out]at fj;obtain⟨iv,iw,iy⟩:=fj;have dt:=G.below o ab;have g5:=dt.c.1;have g6:=dt.c.2;clear dt ec gj gk bg bh gn s dr;generalize hp:x.lo=f1 at *;generalize hq:x.hi=f2 at *;generalize hr:x.cells.length=f3 at *;have kg:w.heap.size<h.heap.size:=qF;have kk:l<h.heap.size:=qF;have km:w.heap.size≠h.heap.size:=qF;have kn:l≠h.heap.size:=qF;have du:=zC ((xe h.heap.size h).alloc lR (qR #[qN,qC 0,qC 0] 86));have fk:=zC (Q3.new h qN (qC 0) (qC 0) 86);generalize d3:M.lo=ap at *;generalize d4:M.hi=aq at *;generalize hs:M.cells.length=X at *;go_upto_region 9 with fail;go_cut [13]from 14 to 95 (λh5 wc=>∃d6 f9 ga,h5= .pointer (qD d6 0)/\Q3 wc d6 (qM f9 X ga) (qC ap) (qC aq) 86/\jU wc h.heap.size (qM f9 X ga) M.cells/\qY h wc)
  case first=>
   have kp:=o.size;clear c4 c5 ek el eo ep HT eq c3 bf c6 aa ay dc dd e6 ci ds fh ff YC ch az A fi cf cg di HS bi e7 fd dq g2;have bk:=zC (o.trans (du.mono (by have:=o.size;omega)))
   go_region_held2 (λN=>N.cell? (qP w.heap.size 0)=some (qM (qD l 0) j E)/\N.cell? (qP l (a*3))=some (qM ip f3 iq)/\N.cell? (qP l (a*3+1))=some (qC f1)/\N.cell? (qP l (a*3+2))=some (qC f2)) (first | go_keep | exact⟨Jq g9 (by show w.heap.size≠_;omega),Jq i0 (by show l≠_;omega),Jq i1 (by show l≠_;omega),Jq i2 (by show l≠_;omega)⟩) (first
    |(go_at_call 40;refine(TX _ (by first | exact(show qY g _ from⟨o.os,o.tape,o.output,o.size,o.block⟩) | exact(show qY g _ from⟨bk.os,bk.tape,bk.output,bk.size,bk.block⟩))).mono ?_;rintro K m ⟨l7,c7,rfl,V,iz,t⟩;(first | (have a1:=zC (show qY h m from⟨t.os,t.tape,t.output,t.size,t.block⟩);have cj:=a1.size) | (have dv:Below (h.alloc (qR #[qN,qC 0,qC 0] 86)).heap.size (h.alloc (qR #[qN,qC 0,qC 0] 86)) m:=⟨t.os,t.tape,t.output,t.size,t.block⟩;have a1:=zC (show qY h m from du.trans (dv.mono qH));have cj:=a1.size;have fl:=zC (show Q3 m h.heap.size _ _ _ _ from fk.below dv qH);clear dv));have A7:=zC ((xe m.heap.size m).alloc lR (qR #[qN,qC 0,qC 0] 86));have g7:=zC (Q3.new m qN (qC 0) (qC 0) 86);have Q:=zC (o.trans (a1.mono (by have:=o.size;omega)));have bl:=zC (Q.trans (A7.mono (by have:=Q.size;omega)));have dw:=(G.below Q ab);have kq:=dw.c.1;have ks:=dw.c.2;have fm:=a0 m Q;rw[bj.out]at fm;obtain⟨l8,l9,ma⟩:=fm;have kt:w.heap.size<m.heap.size:=qF;have kv:l<m.heap.size:=qF;have kw:w.heap.size≠m.heap.size:=qF;have kx:l≠m.heap.size:=qF;clear V iz t dw)
    |(go_at_call 41;refine(am _ (by first | exact(show qY g _ from⟨Q.os,Q.tape,Q.output,Q.size,Q.block⟩) | exact(show qY g _ from⟨bl.os,bl.tape,bl.output,bl.size,bl.block⟩))).mono ?_;rintro K f ⟨ba,c8,rfl,H,J⟩;(first | (have R:qY m f:=⟨J.os,J.tape,J.output,J.size,J.block⟩;have ck:=R.size;have a2:=zC (show qY h f from a1.trans (R.mono cj));have cl:=zC (show jU f h.heap.size _ _ from zF H cj);(first | (have bn:=zC (fl.below R fl.lt);obtain⟨u0,u1,u2⟩:=bn.out.c;have ai:=bn.fz 0;have aj:=bn.fz 1;have g8:=bn.fz 2) | skip);clear R) | (have R:Below (m.alloc (qR #[qN,qC 0,qC 0] 86)).heap.size (m.alloc (qR #[qN,qC 0,qC 0] 86)) f:=⟨J.os,J.tape,J.output,J.size,J.block⟩;have ck:=R.size;have a2:=zC (show qY h f from(a1.trans (A7.mono cj)).trans (R.mono qJ));have cl:=zC (show jU f h.heap.size _ _ from zF H (by show h.heap.size<=(m.alloc (qR #[qN,qC 0,qC 0] 86)).heap.size;simp;omega));have bp:=zC (show Q3 f m.heap.size _ _ _ _ from g7.below R qH);obtain⟨u0,u1,u2⟩:=bp.out.c;have ai:=bp.fz 0;have aj:=bp.fz 1;have g8:=bp.fz 2;clear R));have fn:=zC (o.trans (a2.mono (by have:=o.size;omega)));have kz:=a2.size;have S:=(G.below fn ab);have g9:=S.c.1;have k0:=S.c.2;have fo:=a0 f fn;rw[bj.out]at fo;obtain⟨i0,i1,i2⟩:=fo;have k1:w.heap.size<f.heap.size:=qF;have k3:l<f.heap.size:=qF;have k4:w.heap.size≠f.heap.size:=qF;have k5:l≠f.heap.size:=qF;clear H J S))
   all_goals
    go_wp2_with fail;go_meet
    first
     | exact⟨_,_,_,rfl,zA1 cl a2 bn qF⟩
     | exact⟨_,_,_,rfl,zA1 cl a2 bp qF⟩
     | exact⟨_,_,_,rfl,q3_new cl a2⟩
  obtain⟨d6,i3,i4,rfl,go,gp,t⟩:=hcut
  rename qS=>m
  have k6:=t.size;have fp:=zC (ds (qM i3 X i4) h.heap.size (some cs) (bw-d) iu m gp (by rw[ff.out]) (fh.below t));obtain⟨u0,u1,u2⟩:=go.c;have dx:=zC (fi.trans (t.mono fc));generalize fz:bv.lo=bx at *;generalize f0:bv.hi=bz at *;generalize lj:bv.cells.length=a3 at *;have fq:=zC fz;have fr:=zC f0;clear fz f0 go gp t ds TX am du fk a0 YC iv iw iy g5 g6;go_wp2_with fail;refine fp.mono ?_;rintro K f ⟨F,r,rfl,Z,s⟩;have cm:qY T f:=dx.trans (s.mono (by have:=dx.size;omega));have ck:=cm.size;have fs:jU f T.heap.size (qM F a3 r) bv.cells:=zF Z (by have:=dx.size;omega);have dk:=zC ((zE A.row0 cm lR).alloc (qR #[qM F a3 r,qC bx,qC bz] 86));have dl:=zC (zV f 86 [qM F a3 r,qC bx,qC bz]);have dm:=zC (fun(b6:qT) (af:qS) (ad:(f.alloc (qR #[qM F a3 r,qC bx,qC bz] 86)).grownBy af (Value.slice gf a gg).ownBlock) (ar:af.ownsRow g.heap.size 86 3 b6 (a+1) (zU (p.take a) (gs.take a)++ [qM F a3 r,qC bx,qC bz]))=>A.put0 (x:=bv) cd cm fs (by rw[fq.out,fr.out];exact ad) (by rw[fq.out,fr.out];exact ar));clear Z s fp fs cm;go_wp2_with (at_builtin;refine QW _ rfl _ _ rfl g.heap.size _ _ _ rfl dk (qP f.heap.size 0) 1 1 [qM F a3 r,qC bx,qC bz] rfl rfl dl (by intro ao U;simp at U;rcases U with rfl | rfl | rfl<;>rfl) qK qF qJ ?_;intro d0 hj V bt _);have dn:=zC (dm d0 hj bt V);obtain⟨ir,c7,ed⟩:=jC V;subst ed;clear V bt;go_wp2_with fail;go_meet;exact⟨_,_,_,rfl,by rw[ci.out];exact dn⟩
 obtain⟨cq,cr,a4,rfl,bc⟩:=hcut;have ft:=zC bc.row1;have k7:=bc.b.size;have dy:=G.below bc.b ab;have bg:=dy.c.1;have bh:=dy.c.2;have ha:=zC (Hh (ay wc bc.b) z (c+1) qF);have fu:=zC (UD cd z (c+1));have fv:=zC (fun(b6:qT) (af:qS) (ad:wc.grownBy af (Value.slice cq (a+1) cr).ownBlock) (ar:af.ownsRow g.heap.size 86 3 b6 (a+1+(j-(c+1))) (zU (p.take a++ [a4]) (gs.take a++ [X9 a c x y n d])++zU (p.drop (c+1)) (gs.drop (c+1))))=>bc.fin aa z de (show a<=c+1 by omega) (show c+1<=j by omega) ad ar);clear dy bc a0 YC az ch;by_cases hk:E=c+1
 ·have hb:j=c+1:=qF
  have hc:(E:Int)=(c:Int)+1:=qF;have hd:=zC (show zU (p.drop (c+1)) (gs.drop (c+1))= []from xL (by rw[fu.out];omega));subst hk;go_upto_region 12 with (at_builtin;refine QW _ rfl _ _ rfl g.heap.size _ _ _ rfl ft (qP l 0) 0 _ [] rfl qH (by intro k9 ao W;simp at W) (by intro ao W;simp at W) qK qF qF ?_;intro fx f H bu d1)
  have bq:f.ownsRow g.heap.size 86 3 fx (a+1+(j-(c+1))) (zU (p.take a++ [a4]) (gs.take a++ [X9 a c x y n d])++zU (p.drop (c+1)) (gs.drop (c+1))):=by
   rw[hd.out,hb,kh];exact H
  obtain⟨ba,c8,ee⟩:=jC H;subst ee;have B:=zC (fv _ _ bu bq);clear H bq bu d1;have ck:=B.2.size;have C:=zC (cf.below B.2 e2);have S:=zC (G.below B.2 ab);have ak:=C.c.1;have al:=C.c.2;have ai:=C.fz 0;have aj:=C.fz 1;have he:=S.c.1;have hf:=S.c.2;have hg:(a:Int)+1<=(u:Int):=qF;have hh:w.heap.size≠w.heap.size+1:=qF;go_wp2;refine vg (v:=.agg #[qM ba (a+1) c8,qM (qD v 0) (a+1) u]) (by simp[results,results17,go_sem,ak,al]) rfl ?_;refine⟨_,_,rfl,⟨⟨p.take a++ [a4]++p.drop (c+1),?_⟩,?_,?_⟩,?_⟩
  ·have dz:f.heap.size<=((f.setCell (qP (w.heap.size+1) 0) (qM ba (a+1) c8)).setCell (qP (w.heap.size+1) 1) (qM (qD v 0) (a+1) u)).heap.size:=qH
   refine(B.1.offD (L:=w.heap.size+1) C qG qG (λe q=>?_)).mono lR dz;rw[xj _ _ _ _ (by show e≠w.heap.size+1;exact q),xj _ _ _ _ (by show e≠w.heap.size+1;exact q)]
  ·have ac:=YT (k:=a+1) dc qF (by rw[bf.out];omega)
   rw[ky,vu qF]at ac;have br:Zr f w.heap.size (qM (qD v 0) (a+1) u) (co.take (a+1)):=zE ac B.2 lR;refine zD br (λe q=>?_);have bs:e≠w.heap.size+1:=jx br C qG q;rw[xj _ _ _ _ (by show e≠w.heap.size+1;exact bs),xj _ _ _ _ (by show e≠w.heap.size+1;exact bs)]
  ·exact yW dd qJ
  exact((cg.trans (B.2.mono de)).setCell qH _).setCell qH _
 have hc:¬ (E:Int)=(c:Int)+1:=qF
 go_upto_region 12 with (at_builtin;refine QW _ rfl _ _ rfl g.heap.size _ _ _ rfl ft ⟨l,(c+1)*3,none⟩ (j-(c+1)) (E-(c+1)) (zU (p.drop (c+1)) (gs.drop (c+1))) rfl fu ha e6 qK qF qF ?_;intro fx f H bu d1)
 have bq:=H;obtain⟨ba,c8,ee⟩:=jC H;subst ee;have B:=zC (fv _ _ bu bq);clear H bq bu d1;have ck:=B.2.size;have C:=zC (cf.below B.2 e2);have S:=zC (G.below B.2 ab);have ak:=C.c.1;have al:=C.c.2;have ai:=C.fz 0;have aj:=C.fz 1;have he:=S.c.1;have hf:=S.c.2;have hg:(a:Int)+1<=(u:Int):=qF
 have hh:w.heap.size≠w.heap.size+1:=qF
 go_wp2;refine vg (v:=.agg #[qM ba (a+1+(j-(c+1))) c8,qM (qD v 0) (a+1) u]) (by simp[results,results17,go_sem,ak,al]) rfl ?_;refine⟨_,_,rfl,⟨⟨p.take a++ [a4]++p.drop (c+1),?_⟩,?_,?_⟩,?_⟩
 ·have dz:f.heap.size<=((f.setCell (qP (w.heap.size+1) 0) (qM ba (a+1+(j-(c+1))) c8)).setCell (qP (w.heap.size+1) 1) (qM (qD v 0) (a+1) u)).heap.size:=qH
  refine(B.1.offD (L:=w.heap.size+1) C qG qG (λe q=>?_)).mono lR dz;rw[xj _ _ _ _ (by show e≠w.heap.size+1;exact q),xj _ _ _ _ (by show e≠w.heap.size+1;exact q)]
 ·have ac:=YT (k:=a+1) dc qF (by rw[bf.out];omega)
  rw[ky,vu qF]at ac;have br:Zr f w.heap.size (qM (qD v 0) (a+1) u) (co.take (a+1)):=zE ac B.2 lR;refine zD br (λe q=>?_);have bs:e≠w.heap.size+1:=jx br C qG q;rw[xj _ _ _ _ (by show e≠w.heap.size+1;exact bs),xj _ _ _ _ (by show e≠w.heap.size+1;exact bs)]
 ·exact yW dd qJ
 exact((cg.trans (B.2.mono de)).setCell qH _).setCell qH _

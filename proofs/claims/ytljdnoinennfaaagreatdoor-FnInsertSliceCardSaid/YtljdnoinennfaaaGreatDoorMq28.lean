import Derived.Test.YtljdnoinennfaaaGreatDoorMq18
import Derived.ArgAppend
import Derived.Deep.AppendLies
set_option linter.all false
set_option maxRecDepth 100000
set_option maxHeartbeats 8000000
namespace Go.Proofs.YtljdnoinennfaaaGreatDoor
open Go Go.RowKit
def msgItems:ByteArray:=⟨#[114,101,97,100,105,110,103,32,116,104,101,32,105,116,101,109,115,32,111,102,32,97,32,116,114,101,101]⟩
def zB6:ByteArray:=⟨#[114,101,97,100,105,110,103,32,116,104,101,32,115,104,97,112,101,32,111,102,32,97,32,116,114,101,101]⟩
def ReadPost (w:World) (r:Option AT) (e:Ending) (w':World):Prop:=
 match r with
 | none=>(∃a,e= .returned (.tuple #[.pointer none,.iface 120 (.agg #[.string a,.iface 121 (qJ 1)])]))∧Below w.heap.size w w'
 | some T=>∃u bs,e= .returned (.tuple #[.pointer u,.nilIface])∧Lies w' w.heap.size T u bs∧bs.Nodup∧T.ok∧Below w.heap.size w w'
theorem zCt {xs:List It} (a:okI xs.length xs=true):Fine xs:=by
 simp only [okI,xV,qZ]at a
 have c:=yk xs (vm.2 fun x b=>by have:=vm.1 a.1 x b;simp only [xV]at this;exact this.1)
 refine⟨fun x b=>?_,a.2⟩
 have:=vm.1 a.1 x b;simp only [xV,qZ]at this
 exact⟨this.1,this.2.1,by omega⟩
theorem zFn (xs:List It):readT xs=(if okI xs.length xs=true then(match parse 8200 0 xs with | some (T,[])=>some T | _=>none)else none):=by
 unfold readT
 cases parse 8200 0 xs with
 | none=>rfl
 | some q=>obtain⟨T,ys⟩:=q;cases ys<;>rfl
theorem zFo (B:Nat) (v:Value) (xs:List It) (w:World) (m:RdI B w v xs) (J:B<=w.heap.size) (K:xs.length<=1048576):
  Calls Tryz.prog 82 #[.agg #[v]] w (ReadPost w (readT xs)):=by
 obtain⟨ao,cap,rfl⟩:=m.val;have r:=qG ((qO w.heap.size w).alloc lR (.cells #[.slice ao xs.length cap] 28));have s:(w.alloc (.cells #[.slice ao xs.length cap] 28)).heap[w.heap.size]? =some (.cells #[.slice ao xs.length cap] 28 (0,0)):=xm _ _
 have P:(w.alloc (.cells #[.slice ao xs.length cap] 28)).heap.size=w.heap.size+1:=by simp
 have j:=qG (m.below r J)
 have t:=qG (itemsI B _ xs _ j (by omega) K)
 have a:=qG (zFn xs);generalize readT xs=Y at a |-;generalize I:xs.length=n at *;clear m;go_enter Tryz.func82,Tryz.ntmps82;go_wp2_with fail;generalize w.alloc (.cells #[.slice ao n cap] 28)=Z at *;refine t.mono ?_;rintro e w1 ⟨rfl,d⟩;have Q:=d.size
 have x:=(d.block w.heap.size (by omega)).trans s
 have R:w1.cell? ⟨w.heap.size,0,none⟩=some (.slice ao n cap):=by rw [qQ w1 _ 0 _ _ _ x];rfl
 have k:=qG (r.trans (d.mono (by omega)))
 have D:=qG (j.below d (by omega))
 have S:w.heap.size<w1.heap.size:=by omega
 clear d x s t j
 cases hok:okI n xs with
 | false=>
  rw [hok]at a;simp only [vK,kQ]at a;simp only [errV,vK,kQ];clear hok;go_wp2_with fail;go_ret2;rw [a.out];exact⟨⟨msgItems,rfl⟩,k⟩
 | true=>
  rw [hok]at a;simp only [kP]at a
  have f:=qG (zCt (xs:=xs) (by rw [I];exact hok))
  have l:=qG ((qO w1.heap.size w1).alloc lR (.cells #[.slice ao n cap] 197));have z:Rdr (w1.alloc (.cells #[.slice ao n cap] 197)) w1.heap.size (.slice ao n cap):=xm _ _
  have A:=qG (subtreeN 8200 0 xs B w1.heap.size _ _ (by omega) (by omega) (by omega) f (D.below l (by omega)) z (by omega))
  have U:(w1.alloc (.cells #[.slice ao n cap] 197)).heap.size=w1.heap.size+1:=by simp
  simp only [errV,kP];clear hok z;go_wp2_with fail;generalize w1.alloc (.cells #[.slice ao n cap] 197)=aa at *;refine A.mono ?_;clear A
  cases hp:parse 8200 0 xs with
  | none=>
   rw [hp]at a;rintro e L ⟨rfl,b⟩
   have g:=qG (k.trans ((l.trans (b.below (by omega) (by simp))).mono (by omega)))
   clear b hp;go_wp2_with fail;go_ret2;rw [a.out];exact⟨⟨zB6,rfl⟩,g⟩
  | some q=>
   obtain⟨T,ys⟩:=q;rw [hp]at a;rintro e L ⟨u,bs,ab,rfl,o,p,h,i,b⟩
   have g:=qG (k.trans ((l.trans (b.below (by omega) (by simp))).mono (by omega)))
   have E:=qG (o.base (base':=w.heap.size) (by omega))
   have F:=qG p;have c:=(yi _ _ _ _ _ hp).1;have G:=qG (Fine.ok (Fine.left (c▸f)));have C:=i.c;have V:=i.lt
   cases ys with
   | nil=>
    obtain⟨M,N,rfl⟩:=h.val;simp only [xC]at C;simp only at a;clear h i b hp o p c;go_wp2_with fail;go_ret2;rw [a.out];exact⟨u,bs,rfl,E,F,G,g⟩
   | cons y O=>
    obtain⟨M,N,rfl⟩:=h.val;simp only [q9]at C;simp only at a
    have W:O.length<=8192:=by
     have H:=(Fine.right (c▸f)).len;have X:=(Fine.right (c▸f)).2;simp only [q9]at H;omega
    clear h i b hp o p c;go_wp2_with fail;go_ret2;rw [a.out];exact⟨⟨zB6,rfl⟩,g⟩
def Fnd (w:World) (b:Nat) (x y z i n k d s:Int):Prop:=w.heap[b]? =some (.cells #[qJ x,qJ y,qJ z,qJ i,qJ n,qJ k,qJ d,qJ s] 266 (0,0))
theorem Fnd.c {w:World} {b:Nat} {x y z i n k d s:Int} (a:Fnd w b x y z i n k d s):w.cell? ⟨b,0,none⟩=some (qJ x)∧w.cell? ⟨b,1,none⟩=some (qJ y)∧w.cell? ⟨b,2,none⟩=some (qJ z)∧w.cell? ⟨b,3,none⟩=some (qJ i)∧w.cell? ⟨b,4,none⟩=some (qJ n)∧w.cell? ⟨b,5,none⟩=some (qJ k)∧w.cell? ⟨b,6,none⟩=some (qJ d)∧w.cell? ⟨b,7,none⟩=some (qJ s):=by
 refine⟨?_,?_,?_,?_,?_,?_,?_,?_⟩<;>rw [qQ w b _ _ _ _ a]<;>rfl
theorem Fnd.fz {w:World} {b:Nat} {x y z i n k d s:Int} (a:Fnd w b x y z i n k d s) (j:Nat):w.frozen? ⟨b,j,none⟩=false:=xo w b j _ _ a
theorem Fnd.lt {w:World} {b:Nat} {x y z i n k d s:Int} (a:Fnd w b x y z i n k d s):b<w.heap.size:=by
 rcases xS b w.heap.size with c | c
 ·exact c
 ·unfold Fnd at a;rw [vJ c]at a;cases a
theorem Fnd.set7 {w:World} {b:Nat} {x y z i n k d s:Int} (a:Fnd w b x y z i n k d s) (u:Int):Fnd (w.setCell ⟨b,7,none⟩ (qJ u)) b x y z i n k d u:=by
 unfold Fnd at a |-;rw [xB w b 7 _ _ _ a];rfl
theorem Fnd.qE {w:World} {b:Nat} {x y z i n k d s:Int} (a:Fnd w b x y z i n k d s) (u v t:Int):Fnd (((w.setCell ⟨b,3,none⟩ (qJ u)).setCell ⟨b,4,none⟩ (qJ v)).setCell ⟨b,5,none⟩ (qJ t)) b x y z u v t d s:=by
 unfold Fnd at a |-;have c:=xB w b 3 _ _ (qJ u) a;have e:=xB _ b 4 _ _ (qJ v) c;have f:=xB _ b 5 _ _ (qJ t) e;rw [f];rfl
theorem Fnd.below {B:Nat} {w w':World} {b:Nat} {x y z i n k d s:Int} (a:Fnd w b x y z i n k d s) (c:Below B w w') (e:b<B):Fnd w' b x y z i n k d s:=(c.block b e).trans a
def fndV (x y z:Int) (r:Nat×Int×Int×Int×Int):Value:=.agg #[qJ x,qJ y,qJ z,qJ r.1,qJ r.2.1,qJ r.2.2.1,qJ r.2.2.2.1,qJ r.2.2.2.2]
def yN (m:Pc->Int) (T:AT) (k:Int) (i:Nat) (n b s:Int):Nat×Int×Int×Int×Int:=
 ((seekT m T k).1+i,(seekT m T k).2.1+n,(seekT m T k).2.2.1+b,(seekT m T k).2.2.2.1,(seekT m T k).2.2.2.2+s)
theorem Yd (m:Pc->Int) (T:AT) (k:Int):seekT m T k=yN m T k 0 0 0 0:=by simp [yN]
theorem Jd (m:Pc->Int) (k:Int) (i:Nat) (n b s:Int):yN m .nil k i n b s=(i,n,b,k,s):=by simp [yN,seekT]
theorem Ye (m:Pc->Int) (l:AT) (p:Pc) (r:AT) (k:Int) (i:Nat) (n b s:Int) (a:k<sumM m (l.told 0)):yN m (.node l p r) k i n b s=yN m l k i n b (s+1):=by
 simp only [yN,seekT,xj a];simp;omega
theorem Yf (m:Pc->Int) (l:AT) (p:Pc) (r:AT) (k:Int) (i:Nat) (n b s:Int) (a:¬k<sumM m (l.told 0)) (c:k - sumM m (l.told 0)<m p):yN m (.node l p r) k i n b s=(i+l.its,n+l.rns,b+l.bks,k - sumM m (l.told 0),s+1):=by
 simp only [yN,seekT,qT a,xj c];simp;omega
theorem YK (m:Pc->Int) (l:AT) (p:Pc) (r:AT) (k:Int) (i:Nat) (n b s:Int) (a:¬k<sumM m (l.told 0)) (c:¬k - sumM m (l.told 0)<m p):yN m (.node l p r) k i n b s=yN m r (k - sumM m (l.told 0) - m p) (i+l.its+1) (n+l.rns+p.len) (b+l.bks+p.brk) (s+1):=by
 simp only [yN,seekT,qT a,qT c];simp;omega
structure Rnd (w wx:World) (a:Nat) (i n b s c d lb e j:Int):Prop where
 f:Fnd wx (w.heap.size+1) 0 0 0 i n b 0 s
 g:Fnd wx w.heap.size 0 0 0 0 0 0 0 0
 h:Below w.heap.size w wx
 l:wx.heap[a]? =some (.cells #[qJ c,qJ d,qJ lb] 165 (0,0))
 o:wx.heap[a+1]? =some (.cells #[qJ 1,qJ e,qJ j] 165 (0,0))
 sz:a+2<=wx.heap.size
 lo:w.heap.size+1<a
theorem Rnd.below {w wx wy:World} {a:Nat} {i n b s d e lb f g:Int} (r:Rnd w wx a i n b s d e lb f g) (c:Below wx.heap.size wx wy):Rnd w wy a i n b s d e lb f g:=by
 have j:=r.sz;have h:=r.lo
 exact⟨r.f.below c (by omega),r.g.below c (by omega),r.h.trans (c.mono (by omega)),(c.block a (by omega)).trans r.l,(c.block (a+1) (by omega)).trans r.o,by have:=c.size;omega,h⟩
theorem Rnd.qE {w wx:World} {a:Nat} {i n b s e f lb g h:Int} (r:Rnd w wx a i n b s e f lb g h) (x y z:Int):
  Rnd w (((wx.setCell ⟨w.heap.size+1,3,none⟩ (qJ x)).setCell ⟨w.heap.size+1,4,none⟩ (qJ y)).setCell ⟨w.heap.size+1,5,none⟩ (qJ z)) a x y z s e f lb g h:=by
 have j:=r.sz;have l:=r.lo
 have c:∀k,k≠w.heap.size+1->(((wx.setCell ⟨w.heap.size+1,3,none⟩ (qJ x)).setCell ⟨w.heap.size+1,4,none⟩ (qJ y)).setCell ⟨w.heap.size+1,5,none⟩ (qJ z)).heap[k]? =wx.heap[k]?:=fun k d=>by
  rw [xn _ _ _ _ d,xn _ _ _ _ d,xn _ _ _ _ d]
 exact⟨r.f.qE x y z,(c _ (by omega)).trans r.g,((r.h.setCell (by simp) _).setCell (by simp) _).setCell (by simp) _,(c _ (by omega)).trans r.l,(c _ (by omega)).trans r.o,by simpa using j,l⟩
theorem cc3 {w:World} {b:Nat} {x y z:Int} {t:TypeId} (a:w.heap[b]? =some (.cells #[qJ x,qJ y,qJ z] t (0,0))):w.cell? ⟨b,0,none⟩=some (qJ x)∧w.cell? ⟨b,1,none⟩=some (qJ y)∧w.cell? ⟨b,2,none⟩=some (qJ z):=by
 refine⟨?_,?_,?_⟩<;>rw [qQ w b _ _ _ _ a]<;>rfl
theorem measR (i n k:Int) (w:World):Calls Tryz.prog 206 #[cnt i n k] w fun e w'=>e= .returned (qJ n)∧Below w.heap.size w w':=by
 unfold cnt;go_enter Tryz.func206,Tryz.ntmps206;go_wp2;go_ret;exact⟨rfl,(qO _ _).alloc lR _⟩
theorem sumM_okR {T:AT} (a:T.ok):sumM (fun p=>p.len) (T.told 0)=T.rns:=by
 rw [Ya,AT.rns_told]
theorem seekER (T:AT) (u:Option Addr) (bs:List Nat) (base:Nat) (k:Int) (w:World) (bt:Lies w base T u bs) (ar:T.ok) (cw:0<=k∧k<=8192):
  Calls Tryz.prog 205 #[.pointer u,qJ k,.func (.func 206) #[] #[]] w fun e w'=>e= .returned (fndV (seekP (fun p=>p.len) T k).off (seekP (fun p=>p.len) T k).len (seekP (fun p=>p.len) T k).brk (seekT (fun p=>p.len) T k))∧Below w.heap.size w w':=by
 have ah:=qG (Yd (fun p=>p.len) T k)
 generalize seekT (fun p=>p.len) T k=cp at ah |-
 generalize h:seekP (fun p=>p.len) T k=ae
 have a5:=qG h.symm;clear h;have a6:=qG bt;have P:=qG ar;have b7:=ar.bd
 have b8:(T.ht:Int)<=8192:=by have:=zv T;omega
 have a7:=qG (((qO w.heap.size w).alloc lR (.cells #[qJ 0,qJ 0,qJ 0,qJ 0,qJ 0,qJ 0,qJ 0,qJ 0] 266)).alloc (by simp) (.cells #[qJ 0,qJ 0,qJ 0,qJ 0,qJ 0,qJ 0,qJ 0,qJ 0] 266))
 have a8:Fnd ((w.alloc (.cells #[qJ 0,qJ 0,qJ 0,qJ 0,qJ 0,qJ 0,qJ 0,qJ 0] 266)).alloc (.cells #[qJ 0,qJ 0,qJ 0,qJ 0,qJ 0,qJ 0,qJ 0,qJ 0] 266)) (w.heap.size+1) 0 0 0 0 0 0 0 0:=by
  have:=xm (w.alloc (.cells #[qJ 0,qJ 0,qJ 0,qJ 0,qJ 0,qJ 0,qJ 0,qJ 0] 266)) (.cells #[qJ 0,qJ 0,qJ 0,qJ 0,qJ 0,qJ 0,qJ 0,qJ 0] 266);simpa [Fnd]using this
 have a9:Fnd ((w.alloc (.cells #[qJ 0,qJ 0,qJ 0,qJ 0,qJ 0,qJ 0,qJ 0,qJ 0] 266)).alloc (.cells #[qJ 0,qJ 0,qJ 0,qJ 0,qJ 0,qJ 0,qJ 0,qJ 0] 266)) w.heap.size 0 0 0 0 0 0 0 0:=by
  unfold Fnd;rw [vP _ _ _ (by simp)];exact xm _ _
 have ba:=qG a8;have bc:=qG a9;clear bt ar a8 a9;go_enter Tryz.func205,Tryz.ntmps205;go_wp2_with fail;generalize (w.alloc (.cells #[qJ 0,qJ 0,qJ 0,qJ 0,qJ 0,qJ 0,qJ 0,qJ 0] 266)).alloc (.cells #[qJ 0,qJ 0,qJ 0,qJ 0,qJ 0,qJ 0,qJ 0,qJ 0] 266)=dx at *
 go_loopg [0,1] T.ht (fun g ct cu wr=>∃ (S:AT) (aq:Option Addr) (cs:List Nat) (d:Int) (i:Nat) (n b s:Int),ct= .pointer aq∧cu=qJ d∧g=S.ht∧Lies w base S aq cs∧S.ok∧(0<=d∧d<=8192)∧
  ((i:Int)+S.its<=8192∧0<=n∧n+S.rns<=8192∧0<=b∧b+S.bks<=8192∧0<=s∧s+S.ht<=8192)∧Fnd wr (w.heap.size+1) 0 0 0 i n b 0 s∧Fnd wr w.heap.size 0 0 0 0 0 0 0 0∧Below w.heap.size w wr∧cp=yN (fun p=>p.len) S d i n b s∧Hid (ae=seekP (fun p=>p.len) S d))
 case atStart=>exact⟨T,u,bs,k,0,0,0,0,rfl,rfl,rfl,a6,P,cw,by omega,ba,bc,a7,ah,a5⟩
 case round=>
  obtain⟨S,aq,cs,d,i,n,b,s,rfl,rfl,rfl,bu,O,cx,bv,E,I,U,V,h⟩:=hrel;clear a6 P ah a5 a7 ba bc b7 b8;have c5:=E.lt;have c6:=I.lt
  cases S with
  | nil=>
   obtain⟨rfl,rfl⟩:=bu;rw [Jd]at V;have B:=qG V;have c7:=qG E;have c8:=qG I;have b9:=qG U;obtain⟨m,o,q,t,x,y,z,A⟩:=E.c;obtain⟨au,av,aw,ax,ay,az,a0,a1⟩:=I.c;have ca:=E.fz 6
   have C:=fun j=>I.fz j
   have cb:=C 0;have cc:=C 1;have cd:=C 2;have z3:=C 3;have ce:=C 4;have cf:=C 5;have cg:=C 6;have ch:=C 7;clear V E I U bv C;go_wp2
   refine xr (v:=fndV 0 0 0 (i,n,b,d,s)) (by simp [results,Tryz.results205,go_sem,au,av,aw,ax,ay,az,a0,a1];rfl) rfl ⟨by rw [B.out,h.out];rfl,?_⟩
   repeat (refine Below.setCell ?_ (by simp) _)
   exact b9
  | node l p r=>
   obtain⟨nb,af,bw,bx,cy,rfl,dy,W,bz,b0,rfl⟩:=bu;have c9:=O.left.bd;have da:=O.right.bd;have db:=O.piece;have ai:=sumM_okR O.left
   have bd:((AT.node l p r).ht:Int)=1+max (l.ht:Int) r.ht:=by simp only [AT.ht];omega
   have be:((AT.node l p r).its:Int)=l.its+1+r.its:=by simp only [AT.its];omega
   have bf:(AT.node l p r).rns=l.rns+p.len+r.rns:=rfl;have bg:(AT.node l p r).bks=l.bks+p.brk+r.bks:=rfl;rw [bd,be,bf,bg]at bv
   have dc:0<=l.rns∧l.rns<=8192∧0<=p.len∧p.len<=8192:=by omega
   have J:Hid (d<sumM (fun p=>p.len) (l.told 0)↔d<l.rns):=by rw [ai];exact Iff.rfl
   have D:=qG ai;have K:=qG V;have bh:=qG bz;have ci:=qG b0;have L:=qG W;have P:=qG O;have F:=W.lt;have aj:=qG (E.set7 (s+1))
   have bi:=qG (show Fnd (wr.setCell ⟨w.heap.size+1,7,none⟩ (qJ (s+1))) w.heap.size 0 0 0 0 0 0 0 0 from by unfold Fnd;rw [xn _ _ _ _ (by simp)];exact I)
   have ab:=qG (U.setCell (p:=⟨w.heap.size+1,7,none⟩) (by simp) (qJ (s+1)))
   obtain⟨m,o,q,t,x,y,z,A⟩:=E.c;have cj:=E.fz 7;have ak:=(U.cell (p:=⟨nb,3,none⟩) F).trans W.c3;have ck:(wr.setCell ⟨w.heap.size+1,7,none⟩ (qJ (s+1))).cell? ⟨nb,3,none⟩=some (.pointer af):=(ab.cell (p:=⟨nb,3,none⟩) F).trans W.c3;clear V E I U bz b0 W O ai bd be bf bg;go_wp2_with fail;generalize wr.setCell ⟨w.heap.size+1,7,none⟩ (qJ (s+1))=w1 at *;have dd:=aj.lt;refine(allN l af bx base w1 (bh.below ab lR)).mono ?_;rintro e cz ⟨rfl,ag⟩
   have al:=qG (aj.below ag (by omega))
   have bj:=qG (bi.below ag (by omega))
   have am:=qG (ab.trans (ag.mono (by omega)))
   clear ag aj bi ab ck ak m o q t x y z A cj;have de:=al.lt;go_wp2_with fail;refine(ownN p nb af bw _ _ _ _ cz ((am.block nb F).trans L)).mono ?_;rintro e f ⟨rfl,X⟩;have df:=X.size
   have bk:=qG ((al.below X (by omega)).below (((qO f.heap.size f).alloc lR (.cells #[qJ l.its,qJ l.rns,qJ l.bks] 165)).alloc (by simp) (.cells #[qJ 1,qJ p.len,qJ p.brk] 165)) (by omega))
   have bl:=qG ((bj.below X (by omega)).below (((qO f.heap.size f).alloc lR (.cells #[qJ l.its,qJ l.rns,qJ l.bks] 165)).alloc (by simp) (.cells #[qJ 1,qJ p.len,qJ p.brk] 165)) (by omega))
   have bm:=qG ((((am.trans (X.mono (by omega)))).alloc (by omega) (.cells #[qJ l.its,qJ l.rns,qJ l.bks] 165)).alloc (by simp;omega) (.cells #[qJ 1,qJ p.len,qJ p.brk] 165))
   clear X al bj am
   have bn:((f.alloc (.cells #[qJ l.its,qJ l.rns,qJ l.bks] 165)).alloc (.cells #[qJ 1,qJ p.len,qJ p.brk] 165)).heap[f.heap.size]? =some (.cells #[qJ l.its,qJ l.rns,qJ l.bks] 165 (0,0)):=by
    rw [vP _ _ _ (by simp)];exact xm _ _
   have bo:((f.alloc (.cells #[qJ l.its,qJ l.rns,qJ l.bks] 165)).alloc (.cells #[qJ 1,qJ p.len,qJ p.brk] 165)).heap[f.heap.size+1]? =some (.cells #[qJ 1,qJ p.len,qJ p.brk] 165 (0,0)):=by
    have:=xm (f.alloc (.cells #[qJ l.its,qJ l.rns,qJ l.bks] 165)) (.cells #[qJ 1,qJ p.len,qJ p.brk] 165);simpa using this
   have cl:((f.alloc (.cells #[qJ l.its,qJ l.rns,qJ l.bks] 165)).alloc (.cells #[qJ 1,qJ p.len,qJ p.brk] 165)).heap.size=f.heap.size+2:=by simp
   have an:=qG (Rnd.mk bk bl bm bn bo (by omega) (by omega))
   clear bn bo cl bk bl bm;unfold cnt;go_wp2_with fail;generalize (f.alloc (.cells #[qJ l.its,qJ l.rns,qJ l.bks] 165)).alloc (.cells #[qJ 1,qJ p.len,qJ p.brk] 165)=cq at *;generalize f.heap.size=a at *;have dg:=an.lo;refine(measR _ _ _ cq).mono ?_;rintro e c0 ⟨rfl,b1⟩;have G:=qG (an.below b1);clear b1 an;have ak:=(G.h.cell (p:=⟨nb,3,none⟩) F).trans L.c3;have dh:=G.sz
   by_cases ap:d<l.rns
   ·have B:=qG (K.trans (Ye _ _ _ _ _ _ _ _ _ (J.2 ap)))
    have cm:Hid (ae=seekP (fun p=>p.len) l d):=qG (h.trans (by simp only [seekP];rw [xj (J.out.2 ap)]))
    clear K J h;go_wp2;go_roundg l.ht
    case measure=>simp only [AT.ht];omega
    case rel=>exact⟨l,af,bx,d,i,n,b,s+1,rfl,rfl,rfl,bh,P.left,cx,by omega,G.f,G.g,G.h,B,cm⟩
   ·have M:=fun cv=>ap (J.1 cv)
    obtain⟨a2,a3,a4⟩:=cc3 G.l;go_wp2_with fail;refine(measR _ _ _ c0).mono ?_;rintro e c1 ⟨rfl,b2⟩;have Q:=qG (G.below b2);clear b2 G ak a2 a3 a4;obtain⟨a2,a3,a4⟩:=cc3 Q.l;obtain⟨m,o,q,t,x,y,z,A⟩:=Q.f.c;have di:=Q.sz;go_wp2_with fail
    refine(plusN _ _ _ _ _ _ c1 (by omega) (by omega) (by omega) (by omega) (by omega) (by omega)).mono ?_
    rintro e c2 ⟨rfl,b3⟩;have H:=qG (Q.below b3);clear b3 Q a2 a3 a4 m o q t x y z A;obtain⟨m,o,q,t,x,y,z,A⟩:=H.f.c;have bp:=H.f.fz 3;have bq:=H.f.fz 4;have br:=H.f.fz 5;have ao:=qG (H.qE (i+l.its) (n+l.rns) (b+l.bks));have dj:=H.sz;obtain⟨Y,Z,aa⟩:=cc3 ao.o;unfold cnt;go_wp2_with fail;generalize ((c2.setCell ⟨w.heap.size+1,3,none⟩ (qJ (i+l.its))).setCell ⟨w.heap.size+1,4,none⟩ (qJ (n+l.rns))).setCell ⟨w.heap.size+1,5,none⟩ (qJ (b+l.bks))=cr at *;clear H m o q t x y z A bp bq br;refine(measR _ _ _ cr).mono ?_;rintro e c3 ⟨rfl,b4⟩;have c:=qG (ao.below b4);clear b4 ao Y Z aa;have dk:=c.sz
    by_cases ad:d - l.rns<p.len
    ·have B:=qG (K.trans (Yf _ _ _ _ _ _ _ _ _ M (by rw [D.out];exact ad)))
     have cn:Hid (ae=p):=qG (h.trans (by simp only [seekP];rw [qT M,xj (by rw [D.out];exact ad)]))
     rw [D.out]at B;clear K J D M h;obtain⟨m,o,q,t,x,y,z,A⟩:=c.f.c;obtain⟨au,av,aw,ax,ay,az,a0,a1⟩:=c.g.c;have ca:=c.f.fz 6;have cb:=c.g.fz 0;have cc:=c.g.fz 1;have cd:=c.g.fz 2;have z3:=c.g.fz 3;have ce:=c.g.fz 4;have cf:=c.g.fz 5;have cg:=c.g.fz 6;have ch:=c.g.fz 7;have dl:=c.f.fz 0;have dm:=c.f.fz 1;have dn:=c.f.fz 2;have dp:=(c.h.cell (p:=⟨nb,0,none⟩) F).trans L.c0;have dq:=(c.h.cell (p:=⟨nb,1,none⟩) F).trans L.c1;have dr:=(c.h.cell (p:=⟨nb,2,none⟩) F).trans L.c2
     have ds:nb≠w.heap.size+1:=by omega
     have dt:nb≠w.heap.size:=by omega
     go_wp2
     refine xr (v:=fndV p.off p.len p.brk (i+l.its,n+l.rns,b+l.bks,d - l.rns,s+1)) (by simp [results,Tryz.results205,go_sem,au,av,aw,ax,ay,az,a0,a1];rfl) rfl ⟨by rw [B.out,cn.out],?_⟩
     repeat (refine Below.setCell ?_ (by simp) _)
     exact c.h
    ·have B:=qG (K.trans (YK _ _ _ _ _ _ _ _ _ M (by rw [D.out];exact ad)))
     have co:Hid (ae=seekP (fun p=>p.len) r (d - l.rns - p.len)):=qG (h.trans (by simp only [seekP];rw [qT M,qT (by rw [D.out];exact ad),D.out]))
     rw [D.out]at B;clear K J D M h;obtain⟨Y,Z,aa⟩:=cc3 c.o;go_wp2_with fail;refine(measR _ _ _ c3).mono ?_;rintro e c4 ⟨rfl,b5⟩;have R:=qG (c.below b5);clear b5 c Y Z aa;obtain⟨Y,Z,aa⟩:=cc3 R.o;obtain⟨m,o,q,t,x,y,z,A⟩:=R.f.c;have du:=R.sz;go_wp2_with fail
     refine(plusN _ _ _ _ _ _ c4 (by omega) (by omega) (by omega) (by omega) (by omega) (by omega)).mono ?_
     rintro e dz ⟨rfl,b6⟩;have N:=qG (R.below b6);clear b6 R Y Z aa m o q t x y z A;obtain⟨m,o,q,t,x,y,z,A⟩:=N.f.c;have bp:=N.f.fz 3;have bq:=N.f.fz 4;have br:=N.f.fz 5;have ac:=qG (N.qE (i+l.its+1) (n+l.rns+p.len) (b+l.bks+p.brk));have dv:=N.sz;have dw:=(ac.h.cell (p:=⟨nb,4,none⟩) F).trans L.c4;unfold cnt;go_wp2;go_roundg r.ht
     case measure=>simp only [AT.ht];omega
     case rel=>exact⟨r,bw,cy,d - l.rns - p.len,i+l.its+1,n+l.rns+p.len,b+l.bks+p.brk,s+1,rfl,rfl,rfl,ci,P.right,by omega,by omega,ac.f,ac.g,ac.h,B,co⟩
end Go.Proofs.YtljdnoinennfaaaGreatDoor
namespace Go.Proofs.YtljdnoinennfaaaGreatDoor
open Go Go.RowKit Go.Shelf Go.Sort
structure PM (w:World) (base c b o cap:Nat) (S:List Int) (T:AT) (u:Option Addr) (bs:List Nat):Prop where
 k:PK w c b o S.length cap u
 t:Lies w base T u bs
 nd:bs.Nodup
 cb:c∉bs
 bb:b∉bs
 bc:b≠c
 rt:At32' w b o S
 lb:b<w.heap.size
 cap1:S.length<=cap
 cap2:cap<=maxLen
 n:S.length<=220000
theorem PK.chg {w w':World} {c b o n cap:Nat} {u:Option Addr} {bs:List Nat} (a:PK w c b o n cap u) (d:Chg bs w w') (e:c∉bs):PK w' c b o n cap u:=(d.block c a.lt e).trans a
theorem PK.set1 {w:World} {c b o n cap:Nat} {u:Option Addr} (a:PK w c b o n cap u) (d:Option Addr):PK (w.setCell ⟨c,1,none⟩ (.pointer d)) c b o n cap d:=by
 unfold PK at a |-;rw [xB w c 1 _ _ _ a];rfl
theorem PK.fz {w:World} {c b o n cap:Nat} {u:Option Addr} (a:PK w c b o n cap u) (j:Nat):w.frozen? ⟨c,j,none⟩=false:=xo w c j _ _ a
theorem At32'.chg {w w':World} {b o:Nat} {zs:List Int} {bs:List Nat} (a:At32' w b o zs) (c:Chg bs w w') (d:b<w.heap.size) (e:b∉bs):At32' w' b o zs:=fun i hi=>by
 have:=a i hi;unfold World.cell? at this |-;rw [c.block b d e];exact this
def CutPost (w:World) (base c b o n cap:Nat) (T:AT) (bs:List Nat) (w':World):Prop:=
 ∃d a,PK w' c b o n cap d∧Lies w' base T d a∧a.Nodup∧(∀x∈a,x∈bs∨w.heap.size<=x)∧Chg (c::bs) w w'
theorem cutA (c b o n cap q m j g base:Nat) (off s t v y:Int) (u:Option Addr) (an ao:AT) (bs:List Nat) (z A:Pc) (w:World) (L:PK w c b o n cap u) (M:c∉bs) (be:∀x∈bs,x<w.heap.size) (bp:0<=off∧off<=8192) (bq:0<j) (br:j<m) (bt:m<=8192) (bu:q<=220000) (bv:g<=8192) (bw:base<=w.heap.size)
  (ap:Hid (Calls Tryz.prog 205 #[.pointer u,qJ off,.func (.func 206) #[] #[]] w fun e w'=>e= .returned (fndV (q:Int) (m:Int) s (g,t,v,(j:Int),y))∧Below w.heap.size w w'))
  (aq:Hid (∀W,Below w.heap.size w W->Calls Tryz.prog 119 #[.pointer (qK c 0),qJ (q:Int),qJ (j:Int)] W fun e w'=>e= .returned (.agg #[qJ z.off,qJ z.len,qJ z.brk])∧Below W.heap.size W w'))
  (ar:Hid (∀W,Below w.heap.size w W->Calls Tryz.prog 199 #[.pointer u,qJ (g:Int),.agg #[qJ z.off,qJ z.len,qJ z.brk]] W fun e w'=>e= .returned (.tuple #[])∧Lies w' base an u bs∧Chg bs W w'))
  (au:Hid (∀W,Chg bs w W->Calls Tryz.prog 119 #[.pointer (qK c 0),qJ ((q:Int)+(j:Int)),qJ ((m:Int) - (j:Int))] W fun e w'=>e= .returned (.agg #[qJ A.off,qJ A.len,qJ A.brk])∧Below W.heap.size W w'))
  (av:Hid (∀W,Lies W base an u bs->base<=W.heap.size->Calls Tryz.prog 201 #[.pointer u,qJ ((g:Int)+1),.agg #[qJ A.off,qJ A.len,qJ A.brk]] W (MutPost base ao bs W))):
  Calls Tryz.prog 196 #[.pointer (qK c 0),qJ off] w fun e w'=>e= .returned (qJ ((g:Int)+1))∧CutPost w base c b o n cap ao bs w':=by
 have k:=L.c1;have a1:=L.lt;have S:=qG L;clear L;go_enter Tryz.func196,Tryz.ntmps196;go_wp2_with fail;refine ap.mono ?_;rintro e H ⟨rfl,N⟩;have B:=qG (N.alloc N.size (.cells #[qJ (q:Int),qJ (m:Int),qJ s,qJ (g:Int),qJ t,qJ v,qJ (j:Int),qJ y] 266));have ae:(H.alloc (.cells #[qJ (q:Int),qJ (m:Int),qJ s,qJ (g:Int),qJ t,qJ v,qJ (j:Int),qJ y] 266)).heap[H.heap.size]? =some (.cells #[qJ (q:Int),qJ (m:Int),qJ s,qJ (g:Int),qJ t,qJ v,qJ (j:Int),qJ y] 266 (0,0)):=xm _ _;have h:=qG ae;have af:w.heap.size<=(H.alloc (.cells #[qJ (q:Int),qJ (m:Int),qJ s,qJ (g:Int),qJ t,qJ v,qJ (j:Int),qJ y] 266)).heap.size:=B.size;have bf:=N.size;clear N ap k ae;unfold fndV;simp only
 go_upto_region 2 with fail
 generalize H.alloc (.cells #[qJ (q:Int),qJ (m:Int),qJ s,qJ (g:Int),qJ t,qJ v,qJ (j:Int),qJ y] 266)=f at *;generalize H.heap.size=fb at *;have T:fb<f.heap.size:=(xU.1 h).1;have k:=(B.cell (p:=⟨c,1,none⟩) a1).trans S.c1
 have C:f.cell? ⟨fb,0,none⟩=some (qJ (q:Int)):=by rw [qQ f _ 0 _ _ _ h.out];rfl
 have a2:f.cell? ⟨fb,3,none⟩=some (qJ (g:Int)):=by rw [qQ f _ 3 _ _ _ h.out];rfl
 have D:f.cell? ⟨fb,6,none⟩=some (qJ (j:Int)):=by rw [qQ f _ 6 _ _ _ h.out];rfl
 have bg:¬ (j:Int)=0:=by omega
 have bh:¬j=0:=by omega
 go_upto_region 5 with fail
 have U:=fun d os=>cell_regrown k d os
 have V:=fun d os=>cell_regrown C d os
 have X:=fun d os=>cell_regrown D d os
 have l:=qG (fun d os=>CallsIn.regrown_of (F:=Fence.wide) (r:=5) (w:=f) (d:=d) (os:=os) (vf.2 (aq _ (B.trans ((below_regrown f d os).mono af)))))
 refine wpIn_wide.1 (yx (n:=6) 12 (by kernel_rfl) (by kernel_rfl) ?_)
 simp only [ki,kT,ku,vZ]
 repeat (refine wpQuietIn_step (fun _ _ _ _=>trivial) (fun G i=>?_);go_simp;first | (refine i _ ?_;clear i G) | (apply Exists.intro;refine⟨fun _=>?_,i _ ?_⟩;(first | exact⟨xH,l _ _⟩ | exact l _ _);clear i G))
 refine wpQuietIn_nil ?_;intro _ Z;obtain⟨⟨O,P⟩,aa⟩:=Z;subst aa;have I:=qG (B.trans ((below_regrown f O P).mono af));have ag:=qG (((below_regrown f O P).block fb T).trans h);have ah:=xz T (below_regrown f O P).size;clear V U X l C a2 D k h T;generalize grow (redrawn f O) P=wc at *;have bi:=I.size
 gi_wp2_with fail
 refine⟨xH,(vf.2 (ar _ I)).mono ?_⟩;rintro e wd ⟨rfl,aw,Q⟩;have ai:=qG aw
 have E:=qG ((Chg.qa (bs:=bs) I).trans Q (fun _ a _=>a) (fun _ a _=>a) (ds:=bs))
 have a3:fb∉bs:=fun a=>by have:=be fb a;omega
 have aj:=qG (S.chg E M);have J:=(Q.block fb ah a3).trans ag;have bj:fb<wd.heap.size:=xz ah Q.size
 have C:wd.cell? ⟨fb,0,none⟩=some (qJ (q:Int)):=by rw [qQ wd _ 0 _ _ _ J];rfl
 have ak:wd.cell? ⟨fb,1,none⟩=some (qJ (m:Int)):=by rw [qQ wd _ 1 _ _ _ J];rfl
 have D:wd.cell? ⟨fb,6,none⟩=some (qJ (j:Int)):=by rw [qQ wd _ 6 _ _ _ J];rfl
 have k:=aj.c1;have bk:=E.size;clear aw Q J ag I ar aq B
 gi_wp2_with fail
 go_upto_region 6 with fail
 have U:=fun d os=>cell_regrown k d os
 have V:=fun d os=>cell_regrown C d os
 have a4:=fun d os=>cell_regrown ak d os
 have X:=fun d os=>cell_regrown D d os
 have w1:IntKind.i64.wrap ((g:Int)+1)=(g:Int)+1:=i64w _ (by omega) (by omega)
 have a5:IntKind.i64.wrap ((q:Int)+(j:Int))=(q:Int)+(j:Int):=i64w _ (by omega) (by omega)
 have a6:IntKind.i64.wrap ((m:Int) - (j:Int))=(m:Int) - (j:Int):=i64w _ (by omega) (by omega)
 have l:=qG (fun d os=>CallsIn.regrown_of (F:=Fence.wide) (r:=5) (w:=wd) (d:=d) (os:=os) (vf.2 (au _ (E.trans (Chg.qa (bs:=[]) (below_regrown wd d os)) (fun _ a _=>a) (fun _ a _=>by cases a)))))
 refine(wpIn_wide (n:=6)).1 ?_
 refine jq 20 (.pointer (qK c 0)) (by kernel_rfl) (by kernel_rfl) (fun _ _ _ a=>a) ⟨Or.inl ⟨by rfl,?_⟩,fun w=>by rfl⟩ ?_
 ·intro w;go_simp
 simp only [ki,kT,ku,vZ]
 repeat (refine wpQuietIn_step (fun _ _ _ _=>trivial) (fun G i=>?_);go_simp;first | (refine i _ ?_;clear i G) | (apply Exists.intro;refine⟨fun _=>?_,i _ ?_⟩;(first | exact⟨xH,l _ _⟩ | exact l _ _);clear i G))
 refine wpQuietIn_nil ?_;intro _ Z;obtain⟨⟨ax,ay⟩,aa⟩:=Z;subst aa;have Y:=qG (below_regrown wd ax ay);clear V U a4 X l C ak D k a5 a6 au;generalize grow (redrawn wd ax) ay=bo at *;have al:=qG (ai.below Y lR)
 have K:=qG (E.trans (Chg.qa (bs:=[]) Y) (fun _ a _=>a) (fun _ a _=>by cases a) (ds:=bs))
 have bl:=K.size;have am:=qG (S.chg K M);clear ai E Y aj
 gi_wp2_with fail
 refine⟨xH,(vf.2 (av _ al (by omega))).mono ?_⟩
 rintro e bx ⟨R,ab,rfl,az,a0,ac,ad⟩;have h:=qG (am.chg ad M);have a7:=qG az
 have a8:c∉ab:=fun a=>by
  rcases ac c a with a | a
  ·exact M a
  ·omega
 have a9:=qG (show ∀x∈ab,x∈bs∨w.heap.size<=x from fun x bd=>(ac x bd).imp id (fun a=>by omega))
 have ba:=qG (K.trans ad (fun _ a _=>a) (fun _ a _=>a) (ds:=bs))
 have bc:=qG a0;have bm:=h.c1;have bn:=h.fz 1;clear az a0 ac ad K al am av
 gi_wp2_with fail
 go_wp2;go_ret
 exact⟨rfl,R,ab,h.set1 R,a7.other ⟨c,1,none⟩ (.pointer R) a8,bc,a9,(ba.trans (Chg.refl [] _) (fun x a _=>by simp [a]) (fun x a _=>by cases a) (ds:=c::bs)).setCell ⟨c,1,none⟩ (.pointer R) (.inl (by simp))⟩
end Go.Proofs.YtljdnoinennfaaaGreatDoor
namespace Go.Proofs.YtljdnoinennfaaaGreatDoor
open Go Go.RowKit
theorem measI (i n k:Int) (w:World):Calls Tryz.prog 207 #[cnt i n k] w fun e w'=>e= .returned (qJ i)∧Below w.heap.size w w':=by
 unfold cnt;go_enter Tryz.func207,Tryz.ntmps207;go_wp2;go_ret;exact⟨rfl,(qO _ _).alloc lR _⟩
theorem zB9:∀xs:List It,sumM (fun _=>1) xs=(xs.length:Int)
 | []=>rfl
 | x::xs=>by simp only [sumM,zB9 xs,q9];omega
theorem sumM_okI {T:AT} (a:T.ok):sumM (fun _=>1) (T.told 0)=(T.its:Int):=by
 rw [zB9,AT.told_length]
theorem seekEI (T:AT) (u:Option Addr) (bs:List Nat) (base:Nat) (k:Int) (w:World) (bt:Lies w base T u bs) (ar:T.ok) (cw:0<=k∧k<=8192):
  Calls Tryz.prog 205 #[.pointer u,qJ k,.func (.func 207) #[] #[]] w fun e w'=>e= .returned (fndV (seekP (fun _=>1) T k).off (seekP (fun _=>1) T k).len (seekP (fun _=>1) T k).brk (seekT (fun _=>1) T k))∧Below w.heap.size w w':=by
 have ah:=qG (Yd (fun _=>1) T k)
 generalize seekT (fun _=>1) T k=cp at ah |-
 generalize h:seekP (fun _=>1) T k=ae
 have a5:=qG h.symm;clear h;have a6:=qG bt;have P:=qG ar;have b7:=ar.bd
 have b8:(T.ht:Int)<=8192:=by have:=zv T;omega
 have a7:=qG (((qO w.heap.size w).alloc lR (.cells #[qJ 0,qJ 0,qJ 0,qJ 0,qJ 0,qJ 0,qJ 0,qJ 0] 266)).alloc (by simp) (.cells #[qJ 0,qJ 0,qJ 0,qJ 0,qJ 0,qJ 0,qJ 0,qJ 0] 266))
 have a8:Fnd ((w.alloc (.cells #[qJ 0,qJ 0,qJ 0,qJ 0,qJ 0,qJ 0,qJ 0,qJ 0] 266)).alloc (.cells #[qJ 0,qJ 0,qJ 0,qJ 0,qJ 0,qJ 0,qJ 0,qJ 0] 266)) (w.heap.size+1) 0 0 0 0 0 0 0 0:=by
  have:=xm (w.alloc (.cells #[qJ 0,qJ 0,qJ 0,qJ 0,qJ 0,qJ 0,qJ 0,qJ 0] 266)) (.cells #[qJ 0,qJ 0,qJ 0,qJ 0,qJ 0,qJ 0,qJ 0,qJ 0] 266);simpa [Fnd]using this
 have a9:Fnd ((w.alloc (.cells #[qJ 0,qJ 0,qJ 0,qJ 0,qJ 0,qJ 0,qJ 0,qJ 0] 266)).alloc (.cells #[qJ 0,qJ 0,qJ 0,qJ 0,qJ 0,qJ 0,qJ 0,qJ 0] 266)) w.heap.size 0 0 0 0 0 0 0 0:=by
  unfold Fnd;rw [vP _ _ _ (by simp)];exact xm _ _
 have ba:=qG a8;have bc:=qG a9;clear bt ar a8 a9;go_enter Tryz.func205,Tryz.ntmps205;go_wp2_with fail;generalize (w.alloc (.cells #[qJ 0,qJ 0,qJ 0,qJ 0,qJ 0,qJ 0,qJ 0,qJ 0] 266)).alloc (.cells #[qJ 0,qJ 0,qJ 0,qJ 0,qJ 0,qJ 0,qJ 0,qJ 0] 266)=dx at *
 go_loopg [0,1] T.ht (fun g ct cu wr=>∃ (S:AT) (aq:Option Addr) (cs:List Nat) (d:Int) (i:Nat) (n b s:Int),ct= .pointer aq∧cu=qJ d∧g=S.ht∧Lies w base S aq cs∧S.ok∧(0<=d∧d<=8192)∧
  ((i:Int)+S.its<=8192∧0<=n∧n+S.rns<=8192∧0<=b∧b+S.bks<=8192∧0<=s∧s+S.ht<=8192)∧Fnd wr (w.heap.size+1) 0 0 0 i n b 0 s∧Fnd wr w.heap.size 0 0 0 0 0 0 0 0∧Below w.heap.size w wr∧cp=yN (fun _=>1) S d i n b s∧Hid (ae=seekP (fun _=>1) S d))
 case atStart=>exact⟨T,u,bs,k,0,0,0,0,rfl,rfl,rfl,a6,P,cw,by omega,ba,bc,a7,ah,a5⟩
 case round=>
  obtain⟨S,aq,cs,d,i,n,b,s,rfl,rfl,rfl,bu,O,cx,bv,E,I,U,V,h⟩:=hrel;clear a6 P ah a5 a7 ba bc b7 b8;have c5:=E.lt;have c6:=I.lt
  cases S with
  | nil=>
   obtain⟨rfl,rfl⟩:=bu;rw [Jd]at V;have B:=qG V;have c7:=qG E;have c8:=qG I;have b9:=qG U;obtain⟨m,o,q,t,x,y,z,A⟩:=E.c;obtain⟨au,av,aw,ax,ay,az,a0,a1⟩:=I.c;have ca:=E.fz 6
   have C:=fun j=>I.fz j
   have cb:=C 0;have cc:=C 1;have cd:=C 2;have z3:=C 3;have ce:=C 4;have cf:=C 5;have cg:=C 6;have ch:=C 7;clear V E I U bv C;go_wp2
   refine xr (v:=fndV 0 0 0 (i,n,b,d,s)) (by simp [results,Tryz.results205,go_sem,au,av,aw,ax,ay,az,a0,a1];rfl) rfl ⟨by rw [B.out,h.out];rfl,?_⟩
   repeat (refine Below.setCell ?_ (by simp) _)
   exact b9
  | node l p r=>
   obtain⟨nb,af,bw,bx,cy,rfl,dy,W,bz,b0,rfl⟩:=bu;have c9:=O.left.bd;have da:=O.right.bd;have db:=O.piece;have ai:=sumM_okI O.left
   have bd:((AT.node l p r).ht:Int)=1+max (l.ht:Int) r.ht:=by simp only [AT.ht];omega
   have be:((AT.node l p r).its:Int)=l.its+1+r.its:=by simp only [AT.its];omega
   have bf:(AT.node l p r).rns=l.rns+p.len+r.rns:=rfl;have bg:(AT.node l p r).bks=l.bks+p.brk+r.bks:=rfl;rw [bd,be,bf,bg]at bv
   have dc:0<=(l.its:Int)∧(l.its:Int)<=8192∧0<=1∧1<=8192:=by omega
   have J:Hid (d<sumM (fun _=>1) (l.told 0)↔d<(l.its:Int)):=by rw [ai];exact Iff.rfl
   have D:=qG ai;have K:=qG V;have bh:=qG bz;have ci:=qG b0;have L:=qG W;have P:=qG O;have F:=W.lt;have aj:=qG (E.set7 (s+1))
   have bi:=qG (show Fnd (wr.setCell ⟨w.heap.size+1,7,none⟩ (qJ (s+1))) w.heap.size 0 0 0 0 0 0 0 0 from by unfold Fnd;rw [xn _ _ _ _ (by simp)];exact I)
   have ab:=qG (U.setCell (p:=⟨w.heap.size+1,7,none⟩) (by simp) (qJ (s+1)))
   obtain⟨m,o,q,t,x,y,z,A⟩:=E.c;have cj:=E.fz 7;have ak:=(U.cell (p:=⟨nb,3,none⟩) F).trans W.c3;have ck:(wr.setCell ⟨w.heap.size+1,7,none⟩ (qJ (s+1))).cell? ⟨nb,3,none⟩=some (.pointer af):=(ab.cell (p:=⟨nb,3,none⟩) F).trans W.c3;clear V E I U bz b0 W O ai bd be bf bg;go_wp2_with fail;generalize wr.setCell ⟨w.heap.size+1,7,none⟩ (qJ (s+1))=w1 at *;have dd:=aj.lt;refine(allN l af bx base w1 (bh.below ab lR)).mono ?_;rintro e cz ⟨rfl,ag⟩
   have al:=qG (aj.below ag (by omega))
   have bj:=qG (bi.below ag (by omega))
   have am:=qG (ab.trans (ag.mono (by omega)))
   clear ag aj bi ab ck ak m o q t x y z A cj;have de:=al.lt;go_wp2_with fail;refine(ownN p nb af bw _ _ _ _ cz ((am.block nb F).trans L)).mono ?_;rintro e f ⟨rfl,X⟩;have df:=X.size
   have bk:=qG ((al.below X (by omega)).below (((qO f.heap.size f).alloc lR (.cells #[qJ l.its,qJ l.rns,qJ l.bks] 165)).alloc (by simp) (.cells #[qJ 1,qJ p.len,qJ p.brk] 165)) (by omega))
   have bl:=qG ((bj.below X (by omega)).below (((qO f.heap.size f).alloc lR (.cells #[qJ l.its,qJ l.rns,qJ l.bks] 165)).alloc (by simp) (.cells #[qJ 1,qJ p.len,qJ p.brk] 165)) (by omega))
   have bm:=qG ((((am.trans (X.mono (by omega)))).alloc (by omega) (.cells #[qJ l.its,qJ l.rns,qJ l.bks] 165)).alloc (by simp;omega) (.cells #[qJ 1,qJ p.len,qJ p.brk] 165))
   clear X al bj am
   have bn:((f.alloc (.cells #[qJ l.its,qJ l.rns,qJ l.bks] 165)).alloc (.cells #[qJ 1,qJ p.len,qJ p.brk] 165)).heap[f.heap.size]? =some (.cells #[qJ l.its,qJ l.rns,qJ l.bks] 165 (0,0)):=by
    rw [vP _ _ _ (by simp)];exact xm _ _
   have bo:((f.alloc (.cells #[qJ l.its,qJ l.rns,qJ l.bks] 165)).alloc (.cells #[qJ 1,qJ p.len,qJ p.brk] 165)).heap[f.heap.size+1]? =some (.cells #[qJ 1,qJ p.len,qJ p.brk] 165 (0,0)):=by
    have:=xm (f.alloc (.cells #[qJ l.its,qJ l.rns,qJ l.bks] 165)) (.cells #[qJ 1,qJ p.len,qJ p.brk] 165);simpa using this
   have cl:((f.alloc (.cells #[qJ l.its,qJ l.rns,qJ l.bks] 165)).alloc (.cells #[qJ 1,qJ p.len,qJ p.brk] 165)).heap.size=f.heap.size+2:=by simp
   have an:=qG (Rnd.mk bk bl bm bn bo (by omega) (by omega))
   clear bn bo cl bk bl bm;unfold cnt;go_wp2_with fail;generalize (f.alloc (.cells #[qJ l.its,qJ l.rns,qJ l.bks] 165)).alloc (.cells #[qJ 1,qJ p.len,qJ p.brk] 165)=cq at *;generalize f.heap.size=a at *;have dg:=an.lo;refine(measI _ _ _ cq).mono ?_;rintro e c0 ⟨rfl,b1⟩;have G:=qG (an.below b1);clear b1 an;have ak:=(G.h.cell (p:=⟨nb,3,none⟩) F).trans L.c3;have dh:=G.sz
   by_cases ap:d<(l.its:Int)
   ·have B:=qG (K.trans (Ye _ _ _ _ _ _ _ _ _ (J.2 ap)))
    have cm:Hid (ae=seekP (fun _=>1) l d):=qG (h.trans (by simp only [seekP];rw [xj (J.out.2 ap)]))
    clear K J h;go_wp2;go_roundg l.ht
    case measure=>simp only [AT.ht];omega
    case rel=>exact⟨l,af,bx,d,i,n,b,s+1,rfl,rfl,rfl,bh,P.left,cx,by omega,G.f,G.g,G.h,B,cm⟩
   ·have M:=fun cv=>ap (J.1 cv)
    obtain⟨a2,a3,a4⟩:=cc3 G.l;go_wp2_with fail;refine(measI _ _ _ c0).mono ?_;rintro e c1 ⟨rfl,b2⟩;have Q:=qG (G.below b2);clear b2 G ak a2 a3 a4;obtain⟨a2,a3,a4⟩:=cc3 Q.l;obtain⟨m,o,q,t,x,y,z,A⟩:=Q.f.c;have di:=Q.sz;go_wp2_with fail
    refine(plusN _ _ _ _ _ _ c1 (by omega) (by omega) (by omega) (by omega) (by omega) (by omega)).mono ?_
    rintro e c2 ⟨rfl,b3⟩;have H:=qG (Q.below b3);clear b3 Q a2 a3 a4 m o q t x y z A;obtain⟨m,o,q,t,x,y,z,A⟩:=H.f.c;have bp:=H.f.fz 3;have bq:=H.f.fz 4;have br:=H.f.fz 5;have ao:=qG (H.qE (i+l.its) (n+l.rns) (b+l.bks));have dj:=H.sz;obtain⟨Y,Z,aa⟩:=cc3 ao.o;unfold cnt;go_wp2_with fail;generalize ((c2.setCell ⟨w.heap.size+1,3,none⟩ (qJ (i+l.its))).setCell ⟨w.heap.size+1,4,none⟩ (qJ (n+l.rns))).setCell ⟨w.heap.size+1,5,none⟩ (qJ (b+l.bks))=cr at *;clear H m o q t x y z A bp bq br;refine(measI _ _ _ cr).mono ?_;rintro e c3 ⟨rfl,b4⟩;have c:=qG (ao.below b4);clear b4 ao Y Z aa;have dk:=c.sz
    by_cases ad:d - (l.its:Int)<1
    ·have B:=qG (K.trans (Yf _ _ _ _ _ _ _ _ _ M (by rw [D.out];exact ad)))
     have cn:Hid (ae=p):=qG (h.trans (by simp only [seekP];rw [qT M,xj (by rw [D.out];exact ad)]))
     rw [D.out]at B;clear K J D M h;obtain⟨m,o,q,t,x,y,z,A⟩:=c.f.c;obtain⟨au,av,aw,ax,ay,az,a0,a1⟩:=c.g.c;have ca:=c.f.fz 6;have cb:=c.g.fz 0;have cc:=c.g.fz 1;have cd:=c.g.fz 2;have z3:=c.g.fz 3;have ce:=c.g.fz 4;have cf:=c.g.fz 5;have cg:=c.g.fz 6;have ch:=c.g.fz 7;have dl:=c.f.fz 0;have dm:=c.f.fz 1;have dn:=c.f.fz 2;have dp:=(c.h.cell (p:=⟨nb,0,none⟩) F).trans L.c0;have dq:=(c.h.cell (p:=⟨nb,1,none⟩) F).trans L.c1;have dr:=(c.h.cell (p:=⟨nb,2,none⟩) F).trans L.c2
     have ds:nb≠w.heap.size+1:=by omega
     have dt:nb≠w.heap.size:=by omega
     go_wp2
     refine xr (v:=fndV p.off p.len p.brk (i+l.its,n+l.rns,b+l.bks,d - (l.its:Int),s+1)) (by simp [results,Tryz.results205,go_sem,au,av,aw,ax,ay,az,a0,a1];rfl) rfl ⟨by rw [B.out,cn.out],?_⟩
     repeat (refine Below.setCell ?_ (by simp) _)
     exact c.h
    ·have B:=qG (K.trans (YK _ _ _ _ _ _ _ _ _ M (by rw [D.out];exact ad)))
     have co:Hid (ae=seekP (fun _=>1) r (d - (l.its:Int) - 1)):=qG (h.trans (by simp only [seekP];rw [qT M,qT (by rw [D.out];exact ad),D.out]))
     rw [D.out]at B;clear K J D M h;obtain⟨Y,Z,aa⟩:=cc3 c.o;go_wp2_with fail;refine(measI _ _ _ c3).mono ?_;rintro e c4 ⟨rfl,b5⟩;have R:=qG (c.below b5);clear b5 c Y Z aa;obtain⟨Y,Z,aa⟩:=cc3 R.o;obtain⟨m,o,q,t,x,y,z,A⟩:=R.f.c;have du:=R.sz;go_wp2_with fail
     refine(plusN _ _ _ _ _ _ c4 (by omega) (by omega) (by omega) (by omega) (by omega) (by omega)).mono ?_
     rintro e dz ⟨rfl,b6⟩;have N:=qG (R.below b6);clear b6 R Y Z aa m o q t x y z A;obtain⟨m,o,q,t,x,y,z,A⟩:=N.f.c;have bp:=N.f.fz 3;have bq:=N.f.fz 4;have br:=N.f.fz 5;have ac:=qG (N.qE (i+l.its+1) (n+l.rns+p.len) (b+l.bks+p.brk));have dv:=N.sz;have dw:=(ac.h.cell (p:=⟨nb,4,none⟩) F).trans L.c4;unfold cnt;go_wp2;go_roundg r.ht
     case measure=>simp only [AT.ht];omega
     case rel=>exact⟨r,bw,cy,d - (l.its:Int) - 1,i+l.its+1,n+l.rns+p.len,b+l.bks+p.brk,s+1,rfl,rfl,rfl,ci,P.right,by omega,by omega,ac.f,ac.g,ac.h,B,co⟩
end Go.Proofs.YtljdnoinennfaaaGreatDoor
namespace Go.Proofs.YtljdnoinennfaaaGreatDoor
open Go Go.RowKit Go.Shelf Go.Sort Go.Proofs.Tryz
theorem cutB (c b o n cap a:Nat) (off x y d f g h:Int) (u:Option Addr) (w:World) (p:PK w c b o n cap u)
  (q:Hid (Calls prog 205 #[.pointer u,qJ off,.func (.func 206) #[] #[]] w fun e w'=>e= .returned (fndV x y d (a,f,g,0,h))∧Below w.heap.size w w')):
  Calls prog 196 #[.pointer (qK c 0),qJ off] w fun e w'=>e= .returned (qJ (a:Int))∧Below w.heap.size w w':=by
 have r:=p.c1;clear p;go_enter func196,ntmps196;go_wp2_with fail;refine q.mono ?_;rintro e j ⟨rfl,k⟩;have s:=qG (k.alloc k.size (.cells #[qJ x,qJ y,qJ d,qJ (a:Int),qJ f,qJ g,qJ 0,qJ h] 266));have l:(j.alloc (.cells #[qJ x,qJ y,qJ d,qJ (a:Int),qJ f,qJ g,qJ 0,qJ h] 266)).heap[j.heap.size]? =some (.cells #[qJ x,qJ y,qJ d,qJ (a:Int),qJ f,qJ g,qJ 0,qJ h] 266 (0,0)):=xm _ _;have m:=qG l;clear k q r l;unfold fndV;simp only
 go_upto_region 2 with fail
 generalize j.alloc (.cells #[qJ x,qJ y,qJ d,qJ (a:Int),qJ f,qJ g,qJ 0,qJ h] 266)=i at *;generalize j.heap.size=fb at *
 have t:i.cell? ⟨fb,3,none⟩=some (qJ (a:Int)):=by rw [qQ i _ 3 _ _ _ m.out];rfl
 have v:i.cell? ⟨fb,6,none⟩=some (qJ 0):=by rw [qQ i _ 6 _ _ _ m.out];rfl
 go_wp2;go_ret;exact⟨rfl,s⟩
theorem PM.below {w w':World} {base c b o cap:Nat} {S:List Int} {T:AT} {u:Option Addr} {bs:List Nat} (a:PM w base c b o cap S T u bs) (d:Below w.heap.size w w'):PM w' base c b o cap S T u bs:=
 ⟨a.k.below d a.k.lt,a.t.below d lR,a.nd,a.cb,a.bb,a.bc,fun i hi=>(d.cell (p:=⟨b,o+i,none⟩) a.lb).trans (a.rt i hi),xz a.lb d.size,a.cap1,a.cap2,a.n⟩
theorem cutI (S:List Int) (T:AT) (u:Option Addr) (bs:List Nat) (base c b o cap:Nat) (off:Int) (w:World) (d:PM w base c b o cap S T u bs) (k:T.ok) (ab:T.bal) (I:T.wp S) (J:0<=off) (K:off<=T.rns) (ac:base<=w.heap.size):
  Calls prog 196 #[.pointer (qK c 0),qJ off] w fun e w'=>e= .returned (qJ (cutN T off:Nat))∧∃v s,PM w' base c b o cap S (cutP S T off) v s∧(∀x∈s,x∈bs∨w.heap.size<=x)∧Chg (c::bs) w w':=by
 have ag:=k.bd;obtain⟨a,ai,cc⟩:=sk_at k J K
 have B:=seekER T u bs base off w d.t k (by omega)
 have C:=d.n
 by_cases hi:skI T off=0
 ·have t:Calls prog 205 #[.pointer u,qJ off,.func (.func 206) #[] #[]] w fun e w'=>e= .returned (fndV (seekP (fun p=>p.len) T off).off (seekP (fun p=>p.len) T off).len (seekP (fun p=>p.len) T off).brk (skR T off,(seekT (fun p=>p.len) T off).2.1,(seekT (fun p=>p.len) T off).2.2.1,0,(seekT (fun p=>p.len) T off).2.2.2.2))∧Below w.heap.size w w':=by
   have e:seekT (fun p=>p.len) T off=(skR T off,(seekT (fun p=>p.len) T off).2.1,(seekT (fun p=>p.len) T off).2.2.1,0,(seekT (fun p=>p.len) T off).2.2.2.2):=by rw [<- hi];rfl
   rw [<- e];exact B
  refine(cutB c b o S.length cap (skR T off) off _ _ _ _ _ _ u w d.k (qG t)).mono ?_;rintro e w' ⟨rfl,L⟩
  refine⟨by rw [cutN,xj hi];rfl,u,bs,?_,fun x n=>.inl n,Chg.qa L⟩
  rw [cutP,xj hi];exact d.below L
 ·obtain⟨aj,ak,r⟩:=cc.resolve_left hi
  have N:=(zW S T).1 I _ (xg r);have O:=k.1 _ (xg r);simp only [pcOk,qZ]at O;have ah:=N.2.2.1;have D:=(zX r).2;rw [AT.qf]at D;have E:=ZI k I C J K
  have P:(T.put (skR T off) (pcAt S (skP T off).off (skI T off))).ok:=by
   have F:=ym T (skR T off) (pcAt S (skP T off).off (skI T off)) _ r
   refine⟨fun q g=>?_,?_⟩
   ·rw [F]at g
    simp only [xv,xR]at g
    rcases g with g | rfl | g
    ·exact k.1 q (xI g)
    ·exact Zr (by omega) (by omega) (by omega) (by omega) C
    ·exact k.1 q (xX g)
   ·have f:=k.2
    rw [AT.qe]at f |-;rw [F,zO,zJ]
    have:lsum T.flat=lsum (T.flat.take (skR T off))+((skP T off).len+lsum (T.flat.drop (skR T off+1))):=by
     conv=>lhs;rw [(zX r).1]
     rw [zO,zJ]
    simp only [pcAt];omega
  obtain⟨q,g⟩:∃q:Nat,(skP T off).off=q:=⟨(skP T off).off.toNat,by omega⟩
  obtain⟨m,M⟩:∃m:Nat,(skP T off).len=m:=⟨(skP T off).len.toNat,by omega⟩
  obtain⟨j,y⟩:∃j:Nat,skI T off=j:=⟨(skI T off).toNat,by omega⟩
  have t:Calls prog 205 #[.pointer u,qJ off,.func (.func 206) #[] #[]] w fun e w'=>e= .returned (fndV (q:Int) (m:Int) (skP T off).brk (skR T off,(seekT (fun p=>p.len) T off).2.1,(seekT (fun p=>p.len) T off).2.2.1,(j:Int),(seekT (fun p=>p.len) T off).2.2.2.2))∧Below w.heap.size w w':=by
   have e:seekT (fun p=>p.len) T off=(skR T off,(seekT (fun p=>p.len) T off).2.1,(seekT (fun p=>p.len) T off).2.2.1,(j:Int),(seekT (fun p=>p.len) T off).2.2.2.2):=by rw [<- y];rfl
   rw [<- e,<- g,<- M];exact B
  have G:∀x∈bs,x<w.heap.size:=fun x n=>(d.t.lt x n).2
  have Q:=cutA c b o S.length cap q m j (skR T off) base off (skP T off).brk _ _ _ u (T.put (skR T off) (pcAt S (skP T off).off (skI T off))) (cutP S T off) bs (pcAt S (skP T off).off (skI T off)) (pcAt S ((skP T off).off+skI T off) ((skP T off).len - skI T off)) w d.k d.cb G (by omega) (by omega) (by omega) (by omega) (by omega) (by omega) ac (qG t)
   (qG fun W h=>by
    have:=Yg S c b o cap q j W (fun i hi=>(h.cell (p:=⟨b,o+i,none⟩) d.lb).trans (d.rt i hi)) ((h.cell (p:=⟨c,0,none⟩) d.k.lt).trans d.k.c0) (xz d.lb h.size) (xz d.k.lt h.size) (by omega) (by omega) d.cap1 d.cap2 (by omega)
    simp only [pcAt,g,y,vH]
    exact this)
   (qG fun W h=>zB5 T (skR T off) _ u bs base W k P D (d.t.frame fun x n=>h.block x (G x n)) d.nd)
   (qG fun W h=>by
    have H:PK W c b o S.length cap u:=d.k.chg h d.cb;have R:=d.rt.chg h d.lb d.bb
    have:=Yg S c b o cap (q+j) (m - j) W R H.c0 (xz d.lb h.size) H.lt (by omega) (by omega) d.cap1 d.cap2 (by omega)
    have U:((q+j:Nat):Int)=(q:Int)+(j:Int):=by omega
    have V:((m - j:Nat):Int)=(m:Int) - (j:Int):=by omega
    rw [U,V]at this;simp only [pcAt,g,y,M]
    rw [show((q:Int)+(j:Int)).toNat=q+j by omega,show((m:Int) - (j:Int)).toNat=m - j by omega]
    exact this)
   (qG fun W Z aa=>by
    have X:((skR T off+1:Nat):Int)=(skR T off:Int)+1:=by omega
    rw [<- X]
    have Y:cutP S T off=(T.put (skR T off) (pcAt S (skP T off).off (skI T off))).ins (skR T off+1) (pcAt S ((skP T off).off+skI T off) ((skP T off).len - skI T off)):=by rw [cutP,qT hi]
    rw [Y]at E |-
    exact zEg (T.put (skR T off) (pcAt S (skP T off).off (skI T off))) (skR T off+1) _ u bs base W (AT.qn _ _ _ ab) E (by rw [AT.qi];omega) Z d.nd aa)
  refine Q.mono ?_;rintro e w' ⟨rfl,v,s,ad,ae,af,z,A⟩
  refine⟨by rw [cutN,qT hi];rfl,v,s,⟨ad,ae,af,?_,?_,d.bc,d.rt.chg A d.lb ?_,xz d.lb A.size,d.cap1,d.cap2,d.n⟩,z,A⟩
  ·intro l
   rcases z c l with f | f
   ·exact d.cb f
   ·have:=d.k.lt;omega
  ·intro l
   rcases z b l with f | f
   ·exact d.bb f
   ·have:=d.lb;omega
  ·intro l
   rcases xR.1 l with f | f
   ·exact d.bc f
   ·exact d.bb f
theorem Tryz.fldE (x y z r s t u v:Value) (w:World):(Instr.field 266 (.agg #[x,y,z,r,s,t,u,v]) 0).run prog w= .ok (.agg #[x,y,z]) w:=by kernel_rfl
theorem pieceN (T:AT) (u:Option Addr) (bs:List Nat) (base c b o n cap k:Nat) (p:Pc) (w:World) (g:PK w c b o n cap u) (ht:Lies w base T u bs) (m:T.ok) (h:T.flat[k]? =some p):
  Calls prog 197 #[.pointer (qK c 0),qJ (k:Int)] w fun e w'=>e= .returned (.agg #[qJ p.off,qJ p.len,qJ p.brk])∧Below w.heap.size w w':=by
 have B:=m.bd;have q:=(zX h).2;rw [AT.qf]at q;have j:=JK T k p h;have f:=qG ((qO w.heap.size w).alloc lR (.cells #[qJ 0,qJ 0,qJ 0] 69))
 have d:=qG (seekEI T u bs base (k:Int) (w.alloc (.cells #[qJ 0,qJ 0,qJ 0] 69)) (ht.below f lR) m (by omega))
 rw [j]at d
 generalize seekT (fun _=>1) T (k:Int)=G at d
 have r:=(f.cell (p:=⟨c,1,none⟩) g.lt).trans g.c1;have l:(w.alloc (.cells #[qJ 0,qJ 0,qJ 0] 69)).heap[w.heap.size]? =some (.cells #[qJ 0,qJ 0,qJ 0] 69 (0,0)):=xm _ _;have s:=qG l
 have t:w.heap.size<(w.alloc (.cells #[qJ 0,qJ 0,qJ 0] 69)).heap.size:=by simp
 clear l ht g h j;go_enter func197,ntmps197;go_wp2_with fail;generalize w.alloc (.cells #[qJ 0,qJ 0,qJ 0] 69)=H at *;refine d.mono ?_;rintro e w1 ⟨rfl,i⟩;have a:=(i.block w.heap.size t).trans s
 have x:w1.cell? ⟨w.heap.size,0,none⟩=some (qJ 0):=by rw [qQ w1 _ 0 _ _ _ a];rfl
 have y:w1.cell? ⟨w.heap.size,1,none⟩=some (qJ 0):=by rw [qQ w1 _ 1 _ _ _ a];rfl
 have z:w1.cell? ⟨w.heap.size,2,none⟩=some (qJ 0):=by rw [qQ w1 _ 2 _ _ _ a];rfl
 have C:=xo w1 w.heap.size 0 _ _ a;have D:=xo w1 w.heap.size 1 _ _ a;have E:=xo w1 w.heap.size 2 _ _ a
 have A:=qG (f.trans (i.mono (by omega)))
 clear d i a r;unfold fndV;simp only;have F:=Tryz.fldE;go_wp2
 refine xr (v:=.agg #[qJ p.off,qJ p.len,qJ p.brk]) (by simp [results,results197,go_sem,x,y,z]) rfl ⟨rfl,?_⟩
 exact((A.setCell (by simp) _).setCell (by simp) _).setCell (by simp) _
end Go.Proofs.YtljdnoinennfaaaGreatDoor
namespace Go.Proofs.YtljdnoinennfaaaGreatDoor
open Go Go.RowKit Go.Shelf Go.Sort
theorem meetsN (p q:Pc) (w:World) (d:0<=p.off∧p.off<=220000∧0<=p.len∧p.len<=8192):
  Calls Tryz.prog 198 #[.agg #[qJ p.off,qJ p.len,qJ p.brk],.agg #[qJ q.off,qJ q.len,qJ q.brk]] w fun e w'=>e= .returned (.bool (decide (p.off+p.len=q.off)))∧Below w.heap.size w w':=by
 obtain⟨a,b,f⟩:=p;obtain⟨g,h,i⟩:=q;simp only at *
 have c:IntKind.i64.wrap (a+b)=a+b:=i64w _ (by omega) (by omega)
 go_enter Tryz.func198,Tryz.ntmps198;go_wp2;go_ret
 refine⟨?_,((qO _ _).alloc lR _).alloc (by simp) _⟩
 first | rfl | simp [Int.beq_eq]
theorem withN (p q:Pc) (w:World) (h:0<=p.len∧p.len<=8192∧0<=p.brk∧p.brk<=8192) (i:0<=q.len∧q.len<=8192∧0<=q.brk∧q.brk<=8192):
  Calls Tryz.prog 200 #[.agg #[qJ p.off,qJ p.len,qJ p.brk],.agg #[qJ q.off,qJ q.len,qJ q.brk]] w fun e w'=>e= .returned (.agg #[qJ p.off,qJ (p.len+q.len),qJ (p.brk+q.brk)])∧Below w.heap.size w w':=by
 obtain⟨f,a,b⟩:=p;obtain⟨j,c,d⟩:=q;simp only at *
 have w1:IntKind.i64.wrap (a+c)=a+c:=i64w _ (by omega) (by omega)
 have g:IntKind.i64.wrap (b+d)=b+d:=i64w _ (by omega) (by omega)
 go_enter Tryz.func200,Tryz.ntmps200;go_wp2
 refine xr (v:=.agg #[qJ f,qJ (a+c),qJ (b+d)]) (by simp [results,Tryz.results200,go_sem]) rfl ⟨rfl,?_⟩
 exact(((qO _ _).alloc lR _).alloc (by simp) _).alloc (by simp;omega) _
end Go.Proofs.YtljdnoinennfaaaGreatDoor

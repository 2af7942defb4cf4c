import Derived.Test.YtljdnoinennfaaaGreatDoorMq39
set_option linter.all false
set_option maxRecDepth 100000
set_option maxHeartbeats 8000000
namespace Go.Proofs.YtljdnoinennfaaaGreatDoor
open Go Go.RowKit
theorem plain32N (ao:Option Addr) (n cap:Nat) (w:World):
  Calls Tryz.prog 111 #[.slice ao n cap] w fun e w'=>e= .returned (.agg #[.slice ao n cap,qJ n,qJ n])∧Below w.heap.size w w':=by
 have a:=qG ((qO w.heap.size w).alloc lR (.cells #[.slice ao n cap,qJ n,qJ n] 129));go_enter Tryz.func111,Tryz.ntmps111;go_wp2
 refine xr (v:=.agg #[.slice ao n cap,qJ n,qJ n]) (by simp [results,Tryz.results111,go_sem]) rfl ⟨rfl,a⟩
def plR (a:List (List Int)) (t:List Int):List Gr:=a.dropLast.map plG++ [plG (a.getLastD []++t)]
theorem zF8 {a:List (List Int)} (b:a≠ []) (t:List Int):(plR a t).length=a.length:=by
 have:0<a.length:=kD.2 b;simp [plR];omega
theorem zCf {a:List (List Int)} {k:Nat} (b:a.length=k+1):a[k]? =some (a.getLastD []):=by
 rw [List.getLastD_eq_getLast?,List.getLast?_eq_getElem?,b]
 simp [show k<a.length by omega]
theorem YO {a:List (List Int)} {k:Nat} (b:a.length=k+1):a.dropLast=a.take k:=by
 rw [List.dropLast_eq_take,b];rfl
theorem plainRowsN (d:List (List Int)) (E:List Int) (base gl U:Nat) (V:List Value) (ai:Value) (w:World) (m:Nat) (F:d.length=m+1) (o:w.ownsRow base 25 1 (.slice (some ⟨gl,0,none⟩) (m+1) U) (m+1) V) (aj:LnAt w V d) (ht:Sl .i32 w ai E) (b7:m+1<=1048577) (a1:∀l∈d,l.length<=1048576) (bw:E.length<=1048576):
  Calls Tryz.prog 76 #[.slice (some ⟨gl,0,none⟩) (m+1) U,ai] w fun e w'=>∃bu,e= .returned (.slice (some ⟨w.heap.size,0,none⟩) (m+1) (m+1))∧OwG 129 w' w.heap.size w'.heap.size (.slice (some ⟨w.heap.size,0,none⟩) (m+1) (m+1)) bu (plR d E)∧Below w.heap.size w w':=by
 obtain⟨bx,hi,bz,b0,b1⟩:=xM Tryz.qz;have a3:gl<w.heap.size:=(o.lt gl rfl).2
 have a4:m+1<=U∧U<=maxLen:=by
  rcases o.2 with ⟨q,_⟩ | ⟨g',b8,b9,q,_,_,a2,ak,_⟩
  ·cases q
  ·simp only [xF,xw,ka,kW,kJ]at q
   obtain⟨_,rfl⟩:=q;exact⟨a2,ak⟩
 have a5:=qG (fun(k:Nat) (N:k<m+1)=>(show ∃v l,d[k]? =some l∧Sl .i32 w v l∧w.cell? ⟨gl,k,none⟩=some v from by
  have an:k<V.length:=by rw [aj.len,F];exact N
  have z:k<d.length:=by rw [F];exact N
  exact⟨V[k],d[k],by simp [z],aj.at_ k _ _ (by simp [an]) (by simp [z]),by rw [o.cellAt k (by omega)];simp [an]⟩))
 have a6:=qG ht
 have a7:=qG (fun(k:Nat) (l:List Int) (bv:d[k]? =some l)=>a1 l (xg bv))
 have a8:∃at_ t y,ai= .slice at_ t y:=by
  rcases ht with ⟨q,_⟩ | ⟨_,_,_,q,_⟩<;>exact⟨_,_,_,q⟩
 obtain⟨at_,t,y,rfl⟩:=a8;have a9:=qG F;obtain⟨a2,ak⟩:=a4;unfold maxLen at ak;have ba:=qG (YO F);have bc:=qG (zCf F);clear o aj ht a1 F;go_enter Tryz.func76,Tryz.ntmps76
 go_wp2_with (at_make;refine kC _ rfl _ _ 124 rfl w.heap.size 129 bx (.agg #[.slice none 0 0,.int .i64 0,.int .i64 0]) 3 Tryz.underlying124 hi bz b0 .i64 .i64 _ _ (m+1) rfl rfl (by omega) (by omega) (by rw [b1];omega) (by unfold maxLen;omega) lR ?_;intro w1 o ax)
 rw [Ys]at o
 have bd:=qG ((qO w.heap.size w).grown ax lR (fun k N=>by cases N))
 have be:=qG (show OwG 129 w1 w.heap.size w1.heap.size (.slice (some ⟨w.heap.size,0,none⟩) (m+1) (m+1)) (List.replicate (m+1) (.slice none 0 0)) (List.replicate (m+1) nilG)from⟨by rw [qP];exact o,fun q b=>(o.lt q b).2,Nest.nils _ _ _ _⟩)
 clear o ax
 go_loopw [19] (fun i wr=>∃k:Nat,k<=m∧i= .int .i64 k∧Below w.heap.size w wr∧∃O:List Value,O.length=k∧OwG 129 wr w.heap.size wr.heap.size (.slice (some ⟨w.heap.size,0,none⟩) (m+1) (m+1)) (O++List.replicate (m+1 - k) (.slice none 0 0)) ((d.take k).map plG++List.replicate (m+1 - k) nilG))
  (fun i _=>m - (intOf i).toNat)
 case atStart=>exact⟨0,xP _,rfl,bd.out,[],rfl,by simpa using be.out⟩
 case round=>
  obtain⟨k,N,rfl,G,O,al,W⟩:=hrel;have Z:=qG G;have ao:=G.size
  obtain⟨v,l,z,Y,am⟩:=a5.out k (by omega)
  have b5:=(G.cell (p:=⟨gl,k,none⟩) a3).trans am;have ap:=a7.out k l z
  have R:(d.take k).length=k:=by rw [qN,a9.out];omega
  have S:∀ (a0:Type) (x:a0),List.replicate (m+1 - k) x=x::List.replicate (m+1 - (k+1)) x:=fun a0 x=>by rw [show m+1 - k=(m+1 - (k+1))+1 by omega,Qe]
  rw [S,S]at W
  have aa:((d.take k).map plG++nilG::List.replicate (m+1 - (k+1)) nilG).length=m+1:=by simp only [qM,xL,R,q9,qP];omega
  have aq:=qG (Y.below G);have T:=qG W;have C:=qG aa;have D:=qG R;have H:=qG al;have ar:=qG z
  have bf:∃a f c,v= .slice a f c:=by
   rcases Y with ⟨q,_⟩ | ⟨_,_,_,q,_⟩<;>exact⟨_,_,_,q⟩
  obtain⟨a,f,c,rfl⟩:=bf;have ab:=qG ((qO wr.heap.size wr).alloc lR (.cells #[.slice a f c] 25))
  have au:(wr.alloc (.cells #[.slice a f c] 25)).cell? ⟨wr.heap.size,0,none⟩=some (.slice a f c):=by simp
  have av:(wr.alloc (.cells #[.slice a f c] 25)).heap.size=wr.heap.size+1:=by simp
  by_cases b6:k<m
  ·have I:=qG (zF7 l _ _ _ (aq.out.below ab.out) (by rw [av];omega) au ap)
   have bg:(k:Int)<m:=by omega
   clear W G am Y z al R aa S;go_wp2_with fail;generalize wr.alloc (.cells #[.slice a f c] 25)=bt at *;refine I.out.mono ?_;rintro e P ⟨u,rfl,r,Q⟩;obtain⟨A,B,rfl⟩:=y9 r;have ac:=qG r
   have J:=qG (ab.out.trans (Q.mono (by omega)))
   have K:=qG (fun q (b:(Value.slice A l.length B).ownBlock=some q)=>(r.lt q b))
   clear r Q I;go_wp2_with fail;refine(plain32N A l.length B P).mono ?_;rintro e h ⟨rfl,s⟩;have bh:=s.size;have bi:=J.out.size
   have L:=qG (J.out.trans (s.mono (by omega)))
   have M:=zA ac.out s lR
   have j:=T.out.frame (w':=h) (fun q _ b=>L.out.block q b)
   have n:=j.store (hi':=h.heap.size) l.length l.length C.out (by rw [H.out,xL,D.out]) (zD M (by omega)) (fun q b=>by have:=K.out q b;omega) (fun q b=>by have:=K.out q b;omega) (by omega) (by decide)
   have ad:=j.cells C.out (i:=k) (yD (by rw [xL,D.out])) (yD H.out)
   have g:=j.row;rw [C.out]at g;have bj:h.frozen? ⟨w.heap.size,k*3,none⟩=false:=g.frozenAt _;have bk:h.frozen? ⟨w.heap.size,k*3+1,none⟩=false:=g.frozenAt _;have bl:h.frozen? ⟨w.heap.size,k*3+2,none⟩=false:=g.frozenAt _;obtain⟨b2,b3,b4⟩:=ad;rw [xL,D.out]at n;have ae:=qG n.1
   have af:=qG ((Z.out.trans (L.out.mono ao)).grown n.2 (by omega) (fun q b=>by cases b;exact lR))
   clear s M j n g T;go_wp2;go_roundw
   case rel=>
    refine⟨k+1,by omega,by go_num,af.out,O++ [.slice A l.length B],by simp [H.out],?_⟩
    rw [vY,ar.out];have:=ae.out;simp only [Qi,vT,vN,List.map_nil,xq,xx,xJ]
    exact this.mono lR (by simp)
   case measure=>simp [intOf];omega
  ·obtain rfl:k=m:=by omega
   have bg:¬ (k:Int)<k:=by omega
   have ag:=qG ((qO wr.heap.size wr).alloc lR (.cells #[.slice a f c,.slice at_ t y] 25))
   have bm:(wr.alloc (.cells #[.slice a f c,.slice at_ t y] 25)).cell? ⟨wr.heap.size,0,none⟩=some (.slice a f c):=by simp
   have bn:(wr.alloc (.cells #[.slice a f c,.slice at_ t y] 25)).cell? ⟨wr.heap.size,1,none⟩=some (.slice at_ t y):=by simp
   have bo:(wr.alloc (.cells #[.slice a f c,.slice at_ t y] 25)).heap.size=wr.heap.size+1:=by simp
   have cc:=J6 l E _ _ _ _ (aq.out.below ag.out) ((a6.out.below Z.out).below ag.out) (by rw [bo];omega) bm bn ap bw
   generalize ay:l++E=X at cc;have bp:=qG ay;have I:=qG cc;clear cc ay;clear W G am Y z al R aa S au av ab;go_wp2_with fail;generalize wr.alloc (.cells #[.slice a f c,.slice at_ t y] 25)=bt at *;refine I.out.mono ?_;rintro e P ⟨u,rfl,r,Q⟩
   obtain⟨A,B,rfl⟩:=y9 (show o32 P _ u X from r)
   have ac:=qG (show o32 P _ _ X from r)
   have J:=qG (ag.out.trans (Q.mono (by omega)))
   have K:=qG (fun q (b:(Value.slice A X.length B).ownBlock=some q)=>(r.lt q b))
   clear r Q I;go_wp2_with fail;refine(plain32N A X.length B P).mono ?_;rintro e h ⟨rfl,s⟩;have bh:=s.size;have bi:=J.out.size
   have L:=qG (J.out.trans (s.mono (by omega)))
   have M:=zA ac.out s lR
   have j:=T.out.frame (w':=h) (fun q _ b=>L.out.block q b)
   have n:=j.store (hi':=h.heap.size) X.length X.length C.out (by rw [H.out,xL,D.out]) (zD M (by omega)) (fun q b=>by have:=K.out q b;omega) (fun q b=>by have:=K.out q b;omega) (by omega) (by decide)
   have ad:=j.cells C.out (i:=k) (yD (by rw [xL,D.out])) (yD H.out)
   have g:=j.row;rw [C.out]at g;have bj:h.frozen? ⟨w.heap.size,k*3,none⟩=false:=g.frozenAt _;have bk:h.frozen? ⟨w.heap.size,k*3+1,none⟩=false:=g.frozenAt _;have bl:h.frozen? ⟨w.heap.size,k*3+2,none⟩=false:=g.frozenAt _;obtain⟨b2,b3,b4⟩:=ad;rw [xL,D.out]at n;have ae:=qG n.1
   have af:=qG ((Z.out.trans (L.out.mono ao)).grown n.2 (by omega) (fun q b=>by cases b;exact lR))
   generalize az:X.length=ah at *;have bq:=qG az;clear s M j n g T az;go_wp2;go_ret;refine⟨O++ [.slice A ah B],rfl,?_,af.out⟩;have aw:=ae.out
   rw [show k+1 - (k+1)=0 by omega]at aw
   have br:d.getLastD []=l:=by have:=bc.out;rw [ar.out]at this;exact(vF this).symm
   have bs:plR d E=(d.take k).map plG++ [⟨X,ah,ah⟩]:=by rw [plR,ba.out,br,bp.out];simp only [plG,bq.out]
   rw [bs]
   exact aw.mono lR (by simp)
theorem plR_nil {a:List (List Int)} (b:a≠ []):plR a []=a.map plG:=by
 have e:=List.dropLast_concat_getLast b
 have c:a.getLastD []=a.getLast b:=by rw [List.getLastD_eq_getLast?,List.getLast?_eq_some_getLast b];rfl
 rw [plR,kA,c]
 conv=>rhs;rw [<- e]
 simp
theorem loadL (zs:List Int) (b o cap:Nat) (w:World) (z:∀i,i<zs.length->w.cell? ⟨b,o+i,none⟩=some (.int .i32 (zs.getD i 0))) (R:b<w.heap.size) (Z:zs.length<=8192) (S:zs.length<=cap) (T:cap<=maxLen):
  Calls Tryz.prog 40 #[.slice (qK b o) zs.length cap] w fun e w'=>∃c g O p,e= .returned (.pointer (qK c 0))∧w.heap.size<=c∧c<w'.heap.size∧LCr w' w.heap.size w'.heap.size c (.slice (qK g 0) (lns zs).length (lns zs).length) O p ((lns zs).map plG) (lns zs).length (lns zs).length zs.length [0]∧Below w.heap.size w w':=by
 have j:=qG (cutL zs b o cap w z R (by omega) S T)
 have C:=jE zs
 have D:=qG (fun l (P:l∈lns zs)=>jy P)
 have E:=qG (Zf zs);generalize M:lns zs=k at *
 obtain⟨m,r⟩:∃m,k.length=m+1:=⟨k.length - 1,by omega⟩
 generalize N:zs.length=n at *;have F:=qG r;rw [r]at C j |-;clear M N r z;go_enter Tryz.func40,Tryz.ntmps40;go_wp2_with fail;refine j.mono ?_;rintro e w1 ⟨aa,U,rfl,s,A,f⟩
 rcases s.2 with ⟨_,q⟩ | ⟨gl,V,ab,rfl,_⟩
 ·omega
 have u:=qG (plainRowsN k [] w.heap.size gl V U (.slice none 0 0) w1 m F s (A.below f) (.inl ⟨rfl,rfl⟩) (by omega) (fun l Q=>by have:=D l Q;omega) (by simp))
 have G:=qG f;have H:=f.size;clear s A f j;go_wp2_with fail;refine u.mono ?_;rintro e W ⟨p,rfl,B,t⟩;have v:=qG B;have I:=qG (G.trans (t.mono H));have X:=t.size;clear B t u;go_wp2_with fail;refine(plainRN _ _ _ W).mono ?_;rintro e a ⟨rfl,h⟩
 have J:=qG (v.frame (w':=a) (fun q _ d=>h.block q d))
 have K:=qG (I.trans (h.mono (by omega)))
 have Y:=h.size;clear h v;have L:=qG ((qO a.heap.size a).alloc lR (.cells #[qJ 0] 3))
 have x:=qG (L.alloc (by simp) (.cells #[.slice (qK w1.heap.size 0) (m+1) (m+1),qJ ((m+1:Nat):Int),qJ ((m+1:Nat):Int),qJ (n:Int),.slice (qK a.heap.size 0) 1 1] 134))
 go_wp2;go_ret;refine⟨_,w1.heap.size,.slice (qK a.heap.size 0) 1 1,p,rfl,?_,?_,⟨?_,?_,?_,?_⟩,?_⟩
 ·first | omega | (simp;omega)
 ·first | omega | simp
 ·have y:=xm (a.alloc (.cells #[qJ 0] 3)) (.cells #[.slice (qK w1.heap.size 0) (m+1) (m+1),qJ ((m+1:Nat):Int),qJ ((m+1:Nat):Int),qJ (n:Int),.slice (qK a.heap.size 0) 1 1] 134)
  first | exact y | simpa using y
 ·rw [<- plR_nil E.out]
  exact(J.frame (fun q _ d=>x.block q (by omega))).mono (by omega) (by simp;omega)
 ·exact(World.ownsRow_lit a #[qJ 0] 1 (by omega) (by unfold maxLen;omega) rfl).alloc _
 ·intro q d
  simp only [Value.ownBlock,xw]at d;simp;omega
 ·exact K.trans (x.mono (by omega))
def llG (zs:List Int):List Gr:=if zs.length<=8192 then(lns zs).map plG else []
def llS (zs:List Int):List Int:=if zs.length<=8192 then [0]else []
def llC (zs:List Int):Int:=if zs.length<=8192 then 0 else 10
def LlPost (w:World) (zs:List Int) (e:Ending) (w':World):Prop:=∃a b,e= .returned (.tuple #[.agg #[a,b],qJ (llC zs)])∧OwL w' w.heap.size w'.heap.size a b (llG zs) (llS zs)∧Below w.heap.size w w'
theorem implLl (base:Nat) (zs:List Int) (b cap:Nat) (w:World) (s:o32 w base (.slice (qK b 0) zs.length cap) zs) (aj:zs.length<=1048576) (C:zs.length<=cap∧cap<=maxLen) (t:w.cell? ⟨0,0,none⟩=some (.iface 215 (.agg #[.pointer (qK 2 73)]))) (S:zs.length<=8192):
  Calls Tryz.prog 8 #[.slice (qK b 0) zs.length cap] w (LlPost w zs):=by
 have F:0<w.heap.size:=xD w _ t;have ab:=(s.lt b rfl).2;have k:=qG ((qO w.heap.size w).alloc lR (.cells #[.slice none 0 0,.slice none 0 0] 36));have x:=qG (D2.new w (.slice none 0 0) (.slice none 0 0) 36)
 have G:(w.alloc (.cells #[.slice none 0 0,.slice none 0 0] 36)).heap.size=w.heap.size+1:=by simp
 have y:=qG (show o32 _ base _ zs from zA s k lR)
 have ac:=qG ((k.cell (p:=⟨0,0,none⟩) F).trans t)
 have l:=qG (fun w=>zDe (qK b 0) zs.length cap w)
 by_cases a:zs.length<=8192
 ·rw [xj a]at l
  have z:=qG (loadL zs b 0 cap _ (fun i hi=>by rw [xN];exact yh y i hi) (by rw [G];omega) a C.1 C.2)
  have ad:=jE zs
  have o:=qG (show(llC zs=0∧llG zs=(lns zs).map plG∧llS zs= [0])from⟨by rw [llC,xj a],by rw [llG,xj a],by rw [llS,xj a]⟩)
  generalize P:lns zs=f at *;generalize Q:zs.length=n at *;generalize B:f.length=m at *
  have H:=qG (show(f.map plG).length=m by rw [xL,B])
  clear s t Q P B;go_enter Tryz.func8,Tryz.ntmps8;go_wp2_with fail;generalize w.alloc (.cells #[.slice none 0 0,.slice none 0 0] 36)=R at *;refine(l _).mono ?_;rintro e w1 ⟨rfl,T⟩;have I:=T.symm;subst I;go_wp2_with fail;refine z.mono ?_;rintro e D ⟨c,g,U,V,rfl,ak,al,E,h⟩;have J:=h.size
  have r:=qG (tellL R.heap.size D.heap.size c g m m m m U V (f.map plG) n [0] D E H (by omega) (by omega) lR lR lR J (by omega))
  rw [zCb]at r
  have A:=qG (x.below h (by omega))
  have K:=qG (k.trans (h.mono (by omega)))
  clear E h l z x y;go_wp2_with fail;refine r.mono ?_;rintro e am ⟨an,rfl,u,j⟩;obtain⟨W,X,Y,Z,rfl,aa⟩:=u.val;subst aa;have ae:=j.size
  have d:=qG (A.below j (by omega))
  have L:=qG (K.trans (j.mono (by omega)))
  have M:=qG u;have N:=d.c.1;have O:=d.c.2;have af:=d.fz 0;have ag:=d.fz 1;clear u j A r;go_wp2
  refine xr (v:=.tuple #[.agg #[.slice W (f.map plG).length X,.slice Y [(0:Int)].length Z],qJ 0]) (by simp [results,Tryz.results8,go_sem,N,O]) rfl ⟨_,_,by rw [o.out.1],?_,?_⟩
  ·rw [o.out.2.1,o.out.2.2]
   exact(M.frame (fun q ah ai=>by rw [xn _ _ _ _ (by show q≠w.heap.size;omega),xn _ _ _ _ (by show q≠w.heap.size;omega)])).mono (by omega) (by simp)
  ·exact(L.setCell lR _).setCell lR _
 ·exact absurd S a
end Go.Proofs.YtljdnoinennfaaaGreatDoor
namespace Go.Proofs.YtljdnoinennfaaaGreatDoor
open Go Go.RowKit Go.Proofs.Tryz
theorem fb_mem (zs:List Int):10∈zs↔fb zs<zs.length:=by
 induction zs with
 | nil=>simp [fb]
 | cons c zs b=>
  simp only [fb,xR,q9]
  split
  ·rename_i a;simp [a]
  ·rename_i a
   rw [b];constructor
   ·rintro (q | q)
    ·exact absurd q.symm a
    ·omega
   ·intro q;right;omega
theorem zGu (zs:List Int) (v:Value) (b:Bool) (w:World) (j:Gs w v zs) (k:zs.length<=1048576) (a:b=true↔10∈zs):
  Calls prog 123 #[v,.int .i32 10] w fun e w'=>e= .returned (.bool b)∧w'=w:=by
 rcases j with ⟨rfl,rfl⟩ | ⟨g,cap,rfl,o,l,m,h⟩
 ·obtain rfl:b=false:=by cases b<;>simp_all
  have c:=qG (indexNil w);clear a;go_enter func123,ntmps123;go_wp2_with fail;refine c.mono ?_;rintro e w1 ⟨rfl,rfl⟩;go_wp2;go_ret;exact⟨rfl,rfl⟩
 ·have c:=qG (zDa zs g 0 cap w (fun i hi=>by rw [xN];exact h i hi) k l m)
  have d:=qG (show(decide (0<=ix zs))=b by
   rw [fb_mem]at a;unfold ix
   split
   ·rename_i q;rw [a.2 q];simp
   ·rename_i q
    have:b=false:=by cases b;rfl;exact absurd (a.1 rfl) q
    rw [this];rfl)
  generalize ix zs=x at *;generalize zs.length=n at *;clear h a
  by_cases f:0<=x
  ·obtain rfl:b=true:=by rw [<- d.out];exact decide_eq_true f
   go_enter func123,ntmps123;go_wp2_with fail;refine c.mono ?_;rintro e w1 ⟨rfl,rfl⟩;go_wp2;go_ret;exact⟨rfl,rfl⟩
  ·obtain rfl:b=false:=by rw [<- d.out];exact decide_eq_false f
   go_enter func123,ntmps123;go_wp2_with fail;refine c.mono ?_;rintro e w1 ⟨rfl,rfl⟩;go_wp2;go_ret
   exact⟨by show Ending.returned (.bool (decide (0<=x)))=_;rw [d.out],rfl⟩
theorem own_val4 {w:World} {base e size:Nat} {v:Value} {n:Nat} {xs:List Value} (a:w.ownsRow base e size v n xs):∃ao cap,v= .slice ao n cap:=by
 rcases a.2 with ⟨rfl,b⟩ | ⟨g,cap,c,rfl,_⟩
 ·exact⟨none,0,by rw [b]⟩
 ·exact⟨_,_,rfl⟩
def RV (gs:List Gr):Prop:=(1<=gs.length∧gs.length<=8193)∧(∀g∈gs,okG g)∧(jn (gs.map grT)).length<=8192
def BadE (e:Value):Prop:=e= .iface 121 (qJ 1)∨e= .iface 120 (.agg #[.string Xg,.iface 121 (qJ 1)])
def RRBad (w:World) (e:Ending) (w':World):Prop:=∃a,e= .returned (.tuple #[.slice none 0 0,qJ 0,a])∧BadE a∧Below w.heap.size w w'
def RROk (w:World) (gs:List Gr) (e:Ending) (w':World):Prop:=∃g a,e= .returned (.tuple #[.slice (qK g 0) gs.length gs.length,qJ ((jn (gs.map grT)).length:Nat),.nilIface])∧OwG 129 w' w.heap.size w'.heap.size (.slice (qK g 0) gs.length gs.length) a gs∧Below w.heap.size w w'
theorem zAu (ao:Option Addr) (n cap:Nat) (w:World) (b:¬ (1<=n∧n<=8193)) (c:n<=maxLen):
  Calls prog 86 #[.slice ao n cap] w (RRBad w):=by
 have a:=qG (jP (n:Int) 1 8193 1 w)
 rw [show decide ((1:Int)<=n∧(n:Int)<=8193)=false by rw [vQ];omega]at a
 simp only [errV,vK,kQ]at a;unfold RRBad;go_enter func86,ntmps86;go_wp2_with fail;refine a.mono ?_;rintro e w1 ⟨rfl,rfl⟩;go_wp2
 refine xr (v:=.tuple #[.slice none 0 0,qJ 0,.iface 121 (qJ 1)]) (by simp [results,results86,go_sem]) rfl ?_
 exact⟨_,rfl,.inl rfl,qO _ _⟩
theorem Jn (gs:List Gr) (c4:List Value) (lo hi bu cap n:Nat) (w:World) (c:OwG 91 w lo hi (.slice (some ⟨bu,0,none⟩) n cap) c4 gs) (dw:hi<=w.heap.size) (G:gs.length=n) (c5:1<=n) (c6:n<=8193) (bv:∀x∈gs,x.cells.length<=1048576):
  Calls prog 86 #[.slice (some ⟨bu,0,none⟩) n cap] w fun e w'=>(RV gs->RROk w gs e w')∧(¬RV gs->RRBad w e w'):=by
 obtain⟨c7,c8,c9,da,db⟩:=xM Tryz.qz;have aa:=qG (jP (n:Int) 1 8193 1 w)
 rw [show decide ((1:Int)<=n∧(n:Int)<=8193)=true by rw [qZ];omega]at aa
 simp only [errV,kP]at aa
 have b0:=qG (fun(i:Nat) (hi:i<n)=>c.get (i:=i) (by rw [G];exact hi))
 have F:=qG (fun(w':World) (E:Below w.heap.size w w')=>c.frame (w':=w') (fun q _ j=>E.block q (by omega)))
 have b1:=qG (fun(i:Nat) (x:Gr) (l:gs[i]? =some x)=>bv x (xg l))
 have s:=qG G
 have b2:n<=cap∧cap<=maxLen:=by
  have d:=c.row;rw [G]at d
  rcases d.2 with ⟨q,_⟩ | ⟨g',dx,dy,q,_,_,bw,a3,_⟩
  ·cases q
  ·simp only [xF,xw,ka,kW,kJ]at q
   obtain⟨_,rfl⟩:=q;exact⟨bw,a3⟩
 obtain⟨bw,a3⟩:=b2;unfold maxLen at a3;obtain⟨f,ah⟩:∃f,f=gs.map grT:=⟨_,rfl⟩;have R:=qG ah
 have a6:=qG (show(jn f).length+1=smL f+n from by
  have:=jM (ls:=f) (by rw [ah];intro e;have:=kO List.length e;simp at this;rw [this]at G;simp at G;omega)
  rw [this,ah,xL,G])
 clear c bv G ah;go_enter func86,ntmps86;go_wp2_with fail;refine aa.out.mono ?_;rintro e w1 ⟨rfl,bx⟩;have b3:=bx.symm;subst b3;clear bx aa
 go_wp2_with (at_make;refine kC _ rfl _ _ 124 rfl w.heap.size 129 c7 (.agg #[.slice none 0 0,.int .i64 0,.int .i64 0]) 3 underlying124 c8 c9 da .i64 .i64 _ _ n rfl rfl (by omega) (by omega) (by rw [db];omega) (by unfold maxLen;omega) lR ?_;intro w1 ag bn)
 rw [Ys]at ag
 have b4:=qG ((qO w.heap.size w).grown bn lR (fun k bs=>by cases bs))
 have b5:=qG (show OwG 129 w1 w.heap.size w1.heap.size (.slice (some ⟨w.heap.size,0,none⟩) n n) (List.replicate n (.slice none 0 0)) (List.replicate n nilG)from⟨by rw [qP];exact ag,fun q j=>(ag.lt q j).2,Nest.nils _ _ _ _⟩)
 clear ag bn
 go_loopw [2,3,4,22] (fun c0 c1 c2 i wr=>∃k:Nat,k<=n∧i= .int .i64 k∧c0= .slice (some ⟨w.heap.size,0,none⟩) n n∧c1= .int .i64 ((n:Int) - 1+smL (f.take k))∧c2= .nilIface∧(∀x∈gs.take k,okG x)∧n - 1+smL (f.take k)<=8192∧Below w.heap.size w wr∧∃X:List Value,X.length=k∧OwG 129 wr w.heap.size wr.heap.size (.slice (some ⟨w.heap.size,0,none⟩) n n) (X++List.replicate (n - k) (.slice none 0 0)) (gs.take k++List.replicate (n - k) nilG))
  (fun _ _ _ i _=>n - (intOf i).toNat)
 case atStart=>exact⟨0,xP _,rfl,rfl,by simp [smL],rfl,fun x l=>by simp at l,by simp [smL];omega,b4.out,[],rfl,by simpa using b5.out⟩
 case round=>
  obtain⟨k,bs,rfl,rfl,rfl,rfl,Y,dc,E,X,a4,N⟩:=hrel;have ab:=qG E;have b6:=qG Y;have al:=E.size
  by_cases cx:k<n
  ·obtain⟨x,u,l,ai⟩:=b0.out k cx
   have am:=F.out wr E;obtain⟨dz,d0,d1⟩:=am.cells s.out l ai;have an:=am.inner l ai;obtain⟨aj,ak,dd⟩:=y9 an;have ao:=b1.out k x l
   have ap:(gs.take k).length=k:=by rw [qN,s.out];omega
   have aq:∀ (bt:Type) (z:bt),List.replicate (n - k) z=z::List.replicate (n - (k+1)) z:=fun bt z=>by rw [show n - k=(n - (k+1))+1 by omega,Qe]
   rw [aq,aq]at N
   have a7:(gs.take k++nilG::List.replicate (n - (k+1)) nilG).length=n:=by simp only [qM,ap,q9,qP];omega
   have b7:=qG (Gs.qd an);have B:=qG N;have H:=qG a7;have I:=qG ap;have S:=qG a4;have b8:=qG l;have b9:=qG ai
   have a8:=qG (show gs.take (k+1)=gs.take k++ [x]by rw [vY,l];rfl)
   have ac:=qG (show smL (f.take (k+1))=smL (f.take k)+(grT x).length from jS (by rw [R.out];simp [l]))
   have a9:=qG (fun(c:¬okG x) (m:RV gs)=>c (m.2.1 x (xg l)))
   have ca:(k:Int)<n:=by omega
   have J:=qG ((qO wr.heap.size wr).alloc lR (.cells #[u,.int .i64 x.lo,.int .i64 x.hi] 91));have ar:=qG (T3.new wr u (.int .i64 x.lo) (.int .i64 x.hi) 91)
   have dk:(wr.alloc (.cells #[u,.int .i64 x.lo,.int .i64 x.hi] 91)).heap.size=wr.heap.size+1:=by simp
   have ba:=qG (b7.out.below J.out lR)
   have au:=qG (fun c=>zBt x.cells u x.lo x.hi _ ba.out ao c)
   have av:=qG (fun c=>zDf x.cells u x.lo x.hi _ ba.out ao c)
   have ad:=qG (fun(c:gkP x.cells x.lo x.hi)=>YE c)
   have aw:=qG (fun(c:gkP x.cells x.lo x.hi)=>zG9 c)
   have bc:okG x↔(gkP x.cells x.lo x.hi∧10∉grT x):=Iff.rfl;have bd:gkP x.cells x.lo x.hi↔gok x.cells x.lo x.hi:=Iff.rfl;have ax:=qG bc;have cb:=qG bd;generalize bp:x.lo=a at *;generalize bq:x.hi=b at *;generalize br:x.cells.length=g at *;have ay:=qG br;have cc:=qG bp;have cd:=qG bq;subst dd;clear N E am an Y ai l a4 ap a7 aq bc bd bp bq br
   have dl:w.heap.size<wr.heap.size:=by
    have d:=B.out.row;rw [H.out]at d;exact(d.lt w.heap.size rfl).2
   by_cases o:gkP x.cells a b
   ·have K:=qG (av.out o)
    have ce:=(ad.out o).1;have cf:=(ad.out o).2;have be:=qG (aw.out o);clear au av ad aw;have dm:=qG (ab.out.trans (J.out.mono al));go_wp2_with fail;generalize wr.alloc (.cells #[.slice aj g ak,.int .i64 a,.int .i64 b] 91)=cz at *;refine K.out.mono ?_;rintro e h ⟨d2,rfl,O,A⟩;obtain⟨P,Q,rfl⟩:=own_val4 O;have cg:=A.size
    have C:=qG (J.out.trans (A.mono (by omega)))
    have t:=B.out.frame (w':=h) (fun q _ j=>C.out.block q j)
    have dn:=qG O
    have U:=t.store (hi':=h.heap.size) a b H.out (by rw [S.out,I.out]) (show o32 h w.heap.size _ x.cells from(by unfold o32;rw [ay.out];exact zD O (by omega))) (fun q j=>by have:=O.lt q j;omega) (fun q j=>(O.lt q j).2) (by omega) (by decide)
    have az:=t.cells H.out (i:=k) (yD I.out) (yD S.out);have d:=t.row;rw [H.out]at d;have ch:h.frozen? ⟨w.heap.size,k*3,none⟩=false:=d.frozenAt _;have ci:h.frozen? ⟨w.heap.size,k*3+1,none⟩=false:=d.frozenAt _;have cj:h.frozen? ⟨w.heap.size,k*3+2,none⟩=false:=d.frozenAt _;obtain⟨de,df,dg⟩:=az;rw [I.out]at U
    have bf:=ar.out.below A (by omega)
    have bg:=qG U.1
    have r:=qG ((ab.out.trans (C.out.mono al)).grown U.2 (by omega) (fun q j=>by cases j;exact lR))
    have ck:=qG (show T3 (((h.setCell ⟨w.heap.size,k*3,none⟩ (.slice P g Q)).setCell ⟨w.heap.size,k*3+1,none⟩ (.int .i64 a)).setCell ⟨w.heap.size,k*3+2,none⟩ (.int .i64 b)) wr.heap.size (.slice aj g ak) (.int .i64 a) (.int .i64 b) 91 from(U.2.block wr.heap.size (by omega) (by simp only [ne_eq,xw];omega)).trans bf)
    have cl:(((h.setCell ⟨w.heap.size,k*3,none⟩ (.slice P g Q)).setCell ⟨w.heap.size,k*3+1,none⟩ (.int .i64 a)).setCell ⟨w.heap.size,k*3+2,none⟩ (.int .i64 b)).heap.size=h.heap.size:=by simp
    clear O A t U d bf K B ar J C
    go_upto_region 10 with fail
    generalize ((h.setCell ⟨w.heap.size,k*3,none⟩ (.slice P g Q)).setCell ⟨w.heap.size,k*3+1,none⟩ (.int .i64 a)).setCell ⟨w.heap.size,k*3+2,none⟩ (.int .i64 b)=D at *;have bh:=(F.out D r.out).inner b8.out b9.out
    have ae:=qG (zGu x.cells (.slice aj g ak) (@decide (10∈x.cells) (Classical.propDecidable _)) D (Gs.qd bh) (by rw [ay.out];exact ao) (by simp))
    have af:=bg.out.cells (by rw [qM,I.out,q9,qP];omega) (i:=k) (yD I.out) (yD S.out)
    have bi:=qG (show GC D w.heap.size (k*3) (.slice P g Q) a b from⟨af.1,af.2.1,af.2.2⟩)
    obtain⟨d3,d4,d5⟩:=ck.out.c;obtain⟨T,a5⟩:∃T,T=(grT x).length:=⟨_,rfl⟩;rw [<- a5]at ce cf ac;have dp:=qG a5
    have a0:0<=a∧a<=b∧b<=g:=by
     obtain⟨⟨_,⟨_,bz⟩,⟨dh,di⟩,_⟩,_⟩:=o;rw [ay.out]at bz;exact⟨dh,di,bz⟩
    have bj:=qG (fun(W:World) c=>ZU w.heap.size (k*3) P g Q a b W c a0.1 a0.2.1 a0.2.2 (by omega))
    clear bh af a5
    by_cases L:10∈x.cells
    ·rw [show(@decide (10∈x.cells) (Classical.propDecidable _))=true by simpa using L]at ae
     have V:=qG (a9.out (fun ok=>(ax.out.1 ok).2 (be.out.1 L)))
     clear bj bi L;go_wp2_with fail;refine ae.out.mono ?_;rintro e dj ⟨rfl,Z⟩;have a1:=Z.symm;subst a1;clear Z;go_wp2
     refine xr (v:=.tuple #[.slice none 0 0,.int .i64 0,.iface 121 (.int .i64 1)]) (by simp [results,results86,go_sem]) rfl ?_
     exact⟨fun m=>absurd m V.out,fun _=>⟨_,rfl,.inl rfl,r.out⟩⟩
    ·rw [show(@decide (10∈x.cells) (Classical.propDecidable _))=false by simpa using L]at ae
     have cm:=qG (ax.out.2 ⟨o,fun c3=>L (be.out.2 c3)⟩)
     generalize cy:smL (f.take k)=M at *;have dq:=qG cy
     have cn:(n:Int) - 1+(M:Int)+((g:Int) - (b - a))=(n:Int) - 1+(smL (f.take (k+1)):Nat):=by rw [ac.out];omega
     have co:=qG cn
     have dr: -9223372036854775808<=(n:Int) - 1+(M:Int)+((g:Int) - (b - a))∧(n:Int) - 1+(M:Int)+((g:Int) - (b - a))<=9223372036854775807:=by omega
     clear L o;go_wp2_with fail;refine ae.out.mono ?_;rintro e dj ⟨rfl,Z⟩;have a1:=Z.symm;subst a1;clear Z;go_wp2_with fail;refine(bj.out _ bi.out).mono ?_;rintro e d6 ⟨rfl,nq,rfl⟩
     have bk:=qG (show Below w.heap.size w (D.drewN nq)from⟨r.out.os,r.out.tape,r.out.output,r.out.size,r.out.block⟩)
     have cp:=qG (bg.out.frame (w':=D.drewN nq) (fun q _ _=>rfl))
     have cq:(D.drewN nq).heap.size=h.heap.size:=cl;generalize D.drewN nq=dv at *
     by_cases du:n - 1+(M+T)<=8192
     ·have cr:¬ (8192:Int)<(n:Int) - 1+(M:Int)+((g:Int) - (b - a)):=by omega
      go_wp2;go_roundw
      case rel=>
       refine⟨k+1,by omega,by go_num,rfl,by rw [<- co.out],rfl,?_,by rw [ac.out];omega,bk.out,X++ [.slice P g Q],by simp [S.out],?_⟩
       ·intro y bo
        rw [a8.out]at bo
        rcases xv.1 bo with q | q
        ·exact b6.out y q
        ·simp at q;rw [q];exact cm.out
       ·rw [a8.out,xq,xq]
        have cs:(⟨x.cells,a,b⟩:Gr)=x:=by rw [<- cc.out,<- cd.out]
        have bl:=cp.out;rw [cs]at bl
        exact bl.mono lR (by rw [cq];exact lR)
      case measure=>simp [intOf];omega
     ·have cr:(8192:Int)<(n:Int) - 1+(M:Int)+((g:Int) - (b - a)):=by omega
      have V:=qG (show ¬RV gs from fun m=>by
       have ct:=m.2.2;rw [<- R.out]at ct;have ds:=a6.out;have cu:=yr f (k+1);rw [ac.out]at cu
       omega)
      go_wp2
      refine xr (v:=.tuple #[.slice none 0 0,.int .i64 0,.iface 121 (.int .i64 1)]) (by simp [results,results86,go_sem]) rfl ?_
      exact⟨fun m=>absurd m V.out,fun _=>⟨_,rfl,.inl rfl,bk.out⟩⟩
   ·have K:=qG (au.out (fun c=>o (cb.out.2 c)))
    have V:=qG (a9.out (fun ok=>o (ax.out.1 ok).1))
    simp only [zeroG]at K;clear au av ad aw o;go_wp2_with fail;generalize wr.alloc (.cells #[.slice aj g ak,.int .i64 a,.int .i64 b] 91)=cz at *;refine K.out.mono ?_;rintro e h ⟨rfl,A⟩;have cg:=A.size
    have C:=qG (J.out.trans (A.mono (by omega)))
    have t:=B.out.frame (w':=h) (fun q _ j=>C.out.block q j)
    have az:=t.cells H.out (i:=k) (yD I.out) (yD S.out);have d:=t.row;rw [H.out]at d;have ch:h.frozen? ⟨w.heap.size,k*3,none⟩=false:=d.frozenAt _;have ci:h.frozen? ⟨w.heap.size,k*3+1,none⟩=false:=d.frozenAt _;have cj:h.frozen? ⟨w.heap.size,k*3+2,none⟩=false:=d.frozenAt _;obtain⟨de,df,dg⟩:=az;have r:=qG ((((ab.out.trans (C.out.mono al)).setCell (p:=⟨w.heap.size,k*3,none⟩) lR (.slice none 0 0)).setCell (p:=⟨w.heap.size,k*3+1,none⟩) lR (.int .i64 0)).setCell (p:=⟨w.heap.size,k*3+2,none⟩) lR (.int .i64 0));clear A t d K B ar J C;go_wp2
    refine xr (v:=.tuple #[.slice none 0 0,.int .i64 0,.iface 120 (.agg #[.string Xg,.iface 121 (.int .i64 1)])]) (by simp [results,results86,go_sem]) rfl ?_
    exact⟨fun m=>absurd m V.out,fun _=>⟨_,rfl,.inr rfl,r.out⟩⟩
  ·obtain rfl:k=n:=by omega
   have ca:¬ (k:Int)<k:=by omega
   have a2:gs.take k=gs:=xE (by rw [s.out];exact lR)
   rw [a2,vO,List.replicate_zero,List.replicate_zero,kA,kA]at N;rw [a2]at Y;have dt:=a6.out
   have bm:f.take k=f:=xE (by rw [R.out,xL,s.out];exact lR)
   rw [bm]at dc
   have cv:=qG (show RV gs from⟨⟨by rw [s.out];exact c5,by rw [s.out];exact c6⟩,Y,by rw [<- R.out];omega⟩)
   have B:=qG N;rw [bm]
   have cw:(k:Int) - 1+(smL f:Nat)=((jn f).length:Nat):=by omega
   rw [cw];clear N E Y a2 a4;go_wp2
   refine xr (v:=.tuple #[.slice (some ⟨w.heap.size,0,none⟩) k k,.int .i64 ((jn f).length:Nat),.nilIface]) (by simp [results,results86,go_sem]) rfl ?_
   refine⟨fun _=>⟨w.heap.size,X,by rw [s.out,R.out],?_,ab.out⟩,fun m=>absurd cv.out m⟩
   rw [s.out];exact B.out
def BadL (e:Value):Prop:=(∃a,e= .iface 120 (.agg #[.string a,.iface 121 (qJ 1)]))∨(∃a b,e= .iface 120 (.agg #[.string a,.iface 120 (.agg #[.string b,.iface 121 (qJ 1)])]))
def RLBad (w:World) (e:Ending) (w':World):Prop:=∃a,e= .returned (.tuple #[.pointer none,a])∧BadL a∧Below w.heap.size w w'
def RLOk (w:World) (gs:List Gr) (d:List Int) (e:Ending) (w':World):Prop:=∃c g a b,e= .returned (.tuple #[.pointer (qK c 0),.nilIface])∧w.heap.size<=c∧LCr w' w.heap.size w'.heap.size c (.slice (qK g 0) gs.length gs.length) a b gs gs.length gs.length ((jn (gs.map grT)).length:Nat) d∧Below w.heap.size w w'
def XK:ByteArray:=⟨#[114,101,97,100,105,110,103,32,114,111,119,115]⟩
def zAv:ByteArray:=⟨#[114,101,97,100,105,110,103,32,115,116,97,114,116,115,32,111,102,32,114,111,119,115]⟩
theorem zDx (gs:List Gr) (a:List Int):LV gs a↔RV gs∧(1<=a.length∧a.length<=gs.length)∧a=(stL (gs.map grT)).take a.length:=by
 unfold LV RV;constructor
 ·rintro ⟨⟨b,c,d,e⟩,f,g,h⟩;exact⟨⟨⟨b,c⟩,f,g⟩,⟨d,e⟩,h⟩
 ·rintro ⟨⟨⟨b,c⟩,f,g⟩,⟨d,e⟩,h⟩;exact⟨⟨b,c,d,e⟩,f,g,h⟩
theorem Xs (gs:List Gr) (b:List Int) (d f:Value) (lo hi:Nat) (w:World) (k:OwL w lo hi d f gs b) (z:hi<=w.heap.size) (s:∀x∈gs,x.cells.length<=1048576) (G:gs.length<=1048576) (hst:b.length<=1048576) (t:¬RV gs):
  Calls prog 45 #[.agg #[d,f]] w (RLBad w):=by
 have l:=qG ((qO w.heap.size w).alloc lR (.cells #[d,f] 36));have D:=qG (D2.new w d f 36);have o:=k.below l z;obtain⟨c,a,h,i,rfl,rfl⟩:=k.val
 have E:(w.alloc (.cells #[.slice c gs.length a,.slice h b.length i] 36)).heap.size=w.heap.size+1:=by simp
 have p:Calls prog 86 #[.slice c gs.length a] (w.alloc (.cells #[.slice c gs.length a,.slice h b.length i] 36)) (RRBad (w.alloc (.cells #[.slice c gs.length a,.slice h b.length i] 36))):=by
  by_cases j:1<=gs.length∧gs.length<=8193
  ·obtain⟨A,u⟩:=o.rows
   rcases u.row.2 with ⟨_,q⟩ | ⟨g,cap,H,q,_⟩
   ·omega
   simp only [xF,kJ]at q;obtain⟨rfl,rfl⟩:=q
   refine(Jn gs A lo hi g a gs.length _ u (by omega) rfl j.1 j.2 s).mono ?_
   rintro e w' ⟨_,B⟩;exact B t
  ·exact zAu c gs.length a _ j (by unfold maxLen;omega)
 have R:=qG p;unfold RRBad at R;clear p k o s t;generalize gs.length=n at *;generalize b.length=m at *;unfold RLBad;go_enter func45,ntmps45;go_wp2_with fail;generalize w.alloc (.cells #[.slice c n a,.slice h m i] 36)=F at *;refine R.mono ?_;rintro e w1 ⟨I,rfl,C,y⟩
 have r:=qG (l.trans (y.mono (by omega)))
 clear y R
 rcases C with rfl | rfl
 ·go_wp2
  refine xr (v:=.tuple #[.pointer none,.iface 120 (.agg #[.string XK,.iface 121 (qJ 1)])]) (by simp [results,results45,go_sem,XK]) rfl ?_
  exact⟨_,rfl,.inl ⟨_,rfl⟩,r⟩
 ·go_wp2
  refine xr (v:=.tuple #[.pointer none,.iface 120 (.agg #[.string XK,.iface 120 (.agg #[.string Xg,.iface 121 (qJ 1)])])]) (by simp [results,results45,go_sem,XK]) rfl ?_
  exact⟨_,rfl,.inr ⟨_,_,rfl⟩,r⟩
theorem stL_one {ls:List (List Int)} (a:1<=ls.length): [(0:Int)]=(stL ls).take [(0:Int)].length:=by
 have:=jT (ls:=ls) (i:=0) (by omega)
 simp [smL]at this;simp [this]
theorem zAw (gs:List Gr) (h:List Int) (J K:Value) (lo hi:Nat) (w:World) (p:OwL w lo hi J K gs h) (bm:hi<=w.heap.size) (au:∀x∈gs,x.cells.length<=1048576) (hst:h.length<=1048576) (L:RV gs):
  Calls prog 45 #[.agg #[J,K]] w fun e w'=>(LV gs h->RLOk w gs h e w')∧(¬LV gs h->RLBad w e w'):=by
 have ab:=qG ((qO w.heap.size w).alloc lR (.cells #[J,K] 36));have ac:=qG (D2.new w J K 36);have ad:=p.below ab bm;have a1:=qG (p.starts);have a2:=qG p.bl;obtain⟨z,t,A,B,rfl,rfl⟩:=p.val
 have bq:(w.alloc (.cells #[.slice z gs.length t,.slice A h.length B] 36)).heap.size=w.heap.size+1:=by simp
 obtain⟨Z,av⟩:=L.1
 have ae:Calls prog 86 #[.slice z gs.length t] (w.alloc (.cells #[.slice z gs.length t,.slice A h.length B] 36)) (RROk (w.alloc (.cells #[.slice z gs.length t,.slice A h.length B] 36)) gs):=by
  obtain⟨r,aw⟩:=ad.rows
  rcases aw.row.2 with ⟨_,q⟩ | ⟨g,cap,b1,q,_⟩
  ·omega
  simp only [xF,kJ]at q;obtain⟨rfl,rfl⟩:=q
  refine(Jn gs r lo hi g t gs.length _ aw (by omega) rfl Z av au).mono ?_
  rintro e w' ⟨bo,_⟩;exact bo L
 have R:=qG ae;unfold RROk at R
 have af:=qG (stL_one (ls:=gs.map grT) (by rw [xL];exact Z))
 have E:=qG (zDx gs h);have O:=qG L
 have F:=qG (fun W=>jP (h.length:Int) 1 (gs.length:Int) 1 W)
 have ag:=qG (show(stL (gs.map grT)).length=gs.length by rw [jG,xL])
 clear ae p ad au L;generalize ar:h.length=m at *;generalize X:gs.length=n at *;generalize Y:(((jn (gs.map grT)).length:Nat):Int)=o at *;have a3:=qG X;have a4:=qG ar;have a5:=qG Y;obtain⟨y,aa⟩:∃y,y=gs.map grT:=⟨_,rfl⟩
 have P:=qG (fun bi hi' bj g' bk bl r W p a b c (d:m<=n)=>learnN bi hi' bj g' bk n m bl r gs o [0] W p X av a b c (by simp) af (by simpa using Z) d O.2.1 O.2.2)
 rw [<- aa]at P af E ag Y;have br:=qG aa;unfold maxLen at *;clear ar X Y aa;go_enter func45,ntmps45;go_wp2_with fail;generalize w.alloc (.cells #[.slice z n t,.slice A m B] 36)=bf at *;refine R.mono ?_;rintro e w1 ⟨g,r,rfl,ax,M⟩;have ah:=qG ax
 have a6:=qG (ab.trans (M.mono (by omega)))
 have bs:=M.size
 have ai:=qG (ac.below M (by omega))
 clear ax M R ac;go_wp2_with fail;refine(plainRN _ _ _ w1).mono ?_;rintro e f ⟨rfl,C⟩
 have aj:=qG (ah.frame (w':=f) (fun q _ i=>C.block q i))
 have ak:=qG (a6.trans (C.mono (by omega)))
 have bt:=C.size
 have al:=qG (ai.below C (by omega))
 clear C ah ai;have am:=qG ((qO f.heap.size f).alloc lR (.cells #[qJ 0] 3))
 have G:=qG (am.alloc (by simp) (.cells #[.slice (qK g 0) n n,qJ (n:Int),qJ (n:Int),qJ o,.slice (qK f.heap.size 0) 1 1] 134))
 have an:=qG (show LCr ((f.alloc (.cells #[qJ 0] 3)).alloc (.cells #[.slice (qK g 0) n n,qJ (n:Int),qJ (n:Int),qJ o,.slice (qK f.heap.size 0) 1 1] 134)) bf.heap.size (f.heap.size+2) (f.heap.size+1) (.slice (qK g 0) n n) (.slice (qK f.heap.size 0) 1 1) r gs n n o [0]from by
  refine⟨?_,?_,?_,?_⟩
  ·have ao:=xm (f.alloc (.cells #[qJ 0] 3)) (.cells #[.slice (qK g 0) n n,qJ (n:Int),qJ (n:Int),qJ o,.slice (qK f.heap.size 0) 1 1] 134)
   rw [vE]at ao;exact ao
  ·exact(aj.frame (fun q _ i=>G.block q (by omega))).mono lR (by omega)
  ·exact(World.ownsRow_lit f #[qJ 0] 1 (by omega) (by unfold maxLen;omega) rfl).alloc _
  ·intro q i
   simp only [Value.ownBlock,xw]at i
   omega)
 have bu:((f.alloc (.cells #[qJ 0] 3)).alloc (.cells #[.slice (qK g 0) n n,qJ (n:Int),qJ (n:Int),qJ o,.slice (qK f.heap.size 0) 1 1] 134)).heap.size=f.heap.size+2:=by simp
 have ap:=qG (ak.trans (G.mono (by omega)))
 have Q:=qG (al.below G (by omega))
 have bv:=Q.c.2;clear aj al am G ak
 go_upto_region 5 with fail
 generalize (f.alloc (.cells #[qJ 0] 3)).alloc (.cells #[.slice (qK g 0) n n,qJ (n:Int),qJ (n:Int),qJ o,.slice (qK f.heap.size 0) 1 1] 134)=bg at *
 by_cases I:1<=m∧m<=n
 ·simp only [show decide ((1:Int)<=(m:Int)∧(m:Int)<=(n:Int))=true by rw [qZ];omega,errV,kP]at F
  have aq:=qG (P _ _ _ _ _ _ _ bg an (by omega) (by omega) (by omega) I.2)
  go_wp2_with fail;refine(F _).mono ?_;rintro e bp ⟨rfl,D⟩;have S:=D.symm;subst S;clear D;go_wp2_with fail;refine aq.mono ?_;rintro e l ⟨sv',rfl,u,N⟩
  rw [show max [(0:Int)].length m=m by simp;omega]at u
  obtain⟨ay,az,a0⟩:=j7 u.starts;rw [qN,ag.out,vG I.2]at a0;subst a0;have bw:=N.size
  have j:=qG (ap.trans (N.mono (by omega)))
  have a7:=qG (Q.below N (by omega))
  have bx:=u.cells.2.2.2.2;have bz:=a7.c.2
  have a8:=qG (ZS (w':=l) a1 a2 (fun q _ i=>j.block q (by omega)))
  have a9:=qG u.starts;have ba:=qG u
  have H:=qG (fun b (bn:b=true↔(stL y).take m=h) (W:World) (s:W.heap=l.heap)=>equalN ((stL y).take m) h (.slice ay m az) (.slice A m B) b W ((Rd.qd a9).cells s) ((Rd.qd a8).cells s) (by rw [qN];omega) (by rw [a4.out];exact hst) bn)
  clear u N aq P Q an
  by_cases i:(stL y).take m=h
  ·have T:=qG (fun W s=>H true (by simp [i]) W s)
   have bc:=qG (show LV gs h from E.2 ⟨O,I,i.symm⟩)
   have bd:=qG i;clear H i
   go_upto_region 9 with fail
   go_quiet ((go_at_call 88;exact Calls.quiet_of (T _ rfl)))
   have U:=qG (show Below w.heap.size w (l.drewN nq)from⟨j.os,j.tape,j.output,j.size,j.block⟩)
   have be:=qG (ba.same (w':=l.drewN nq) rfl);have b0:(l.drewN nq).heap.size=l.heap.size:=rfl;generalize l.drewN nq=bh at *;go_wp2
   refine xr (v:=.tuple #[.pointer (qK (f.heap.size+1) 0),.nilIface]) (by simp [results,results45,go_sem]) rfl ?_
   refine⟨fun _=>⟨f.heap.size+1,g,.slice ay m az,r,rfl,by omega,?_,U⟩,fun k=>absurd bc k⟩
   rw [a3.out,<- bd.out,a5.out]
   exact be.mono (by omega) (by omega)
  ·have T:=qG (fun W s=>H false (by simp [i]) W s)
   have V:=qG (show ¬LV gs h from fun k=>i (E.1 k).2.2.symm)
   clear H i
   go_upto_region 9 with fail
   go_quiet ((go_at_call 88;exact Calls.quiet_of (T _ rfl)))
   have U:=qG (show Below w.heap.size w (l.drewN nq)from⟨j.os,j.tape,j.output,j.size,j.block⟩)
   generalize l.drewN nq=bh at *;go_wp2
   refine xr (v:=.tuple #[.pointer none,.iface 120 (.agg #[.string zAv,.iface 121 (qJ 1)])]) (by simp [results,results45,go_sem,zAv]) rfl ?_
   exact⟨fun k=>absurd k V,fun _=>⟨_,rfl,.inl ⟨_,rfl⟩,U⟩⟩
 ·simp only [show decide ((1:Int)<=(m:Int)∧(m:Int)<=(n:Int))=false by rw [vQ];omega,errV,vK,kQ]at F
  have V:=qG (show ¬LV gs h from fun k=>I (E.1 k).2.1)
  go_wp2_with fail;refine(F _).mono ?_;rintro e bp ⟨rfl,D⟩;have S:=D.symm;subst S;clear D;go_wp2
  refine xr (v:=.tuple #[.pointer none,.iface 120 (.agg #[.string zAv,.iface 121 (qJ 1)])]) (by simp [results,results45,go_sem,zAv]) rfl ?_
  exact⟨fun k=>absurd k V,fun _=>⟨_,rfl,.inl ⟨_,rfl⟩,ap⟩⟩
end Go.Proofs.YtljdnoinennfaaaGreatDoor
namespace Go.Proofs.YtljdnoinennfaaaGreatDoor
open Go Go.RowKit
theorem zDy (gs:List Gr) (a:List Int) (b c:Value) (lo hi:Nat) (w:World) (f:OwL w lo hi b c gs a) (g:hi<=w.heap.size) (h:∀x∈gs,x.cells.length<=1048576) (k:gs.length<=1048576) (hst:a.length<=1048576):
  Calls Tryz.prog 45 #[.agg #[b,c]] w fun e w'=>(LV gs a->RLOk w gs a e w')∧(¬LV gs a->RLBad w e w'):=by
 by_cases d:RV gs
 ·exact zAw gs a b c lo hi w f g h hst d
 ·refine(Xs gs a b c lo hi w f g h k hst d).mono ?_
  intro e w' i
  exact⟨fun j=>absurd ((zDx gs a).1 j).1 d,fun _=>i⟩
theorem zCg (lo hi c g cap n a b:Nat) (F:Value) (G:List Value) (gs:List Gr) (H:Int) (h:List Int) (w:World) (I:LCr w lo hi c (.slice (qK g 0) n cap) F G gs a b H h) (J:gs.length=n) (R:1<=n) (S:n<=1048576) (T:a<=b) (U:b<=n) (V:1<=a+(n - b)) (W:hi<=w.heap.size) (o:lo<=hi) (af:c<hi):
  Calls Tryz.prog 46 #[.pointer (qK c 0),.nilIface] w fun e w'=>∃s D,e= .returned (.tuple #[.agg #[s,D],qJ 0])∧OwL w' lo w'.heap.size s D (cutG a b gs) h∧Below w.heap.size w w':=by
 have B:=qG ((qO w.heap.size w).alloc lR (.cells #[.slice none 0 0,.slice none 0 0] 36));have L:=qG (D2.new w (.slice none 0 0) (.slice none 0 0) 36)
 have Z:(w.alloc (.cells #[.slice none 0 0,.slice none 0 0] 36)).heap.size=w.heap.size+1:=by simp
 have C:=qG (tellL lo hi c g cap n a b F G gs H h _ (I.below B W (by omega)) J R S T U (by omega) o V)
 generalize cutG a b gs=m at *;clear I J;go_enter Tryz.func46,Tryz.ntmps46;go_wp2_with fail;generalize w.alloc (.cells #[.slice none 0 0,.slice none 0 0] 36)=ae at *;refine C.mono ?_;rintro e K ⟨s,rfl,j,p⟩;obtain⟨x,y,z,A,rfl,X⟩:=j.val;subst X;have aa:=p.size
 have k:=qG (L.below p (by omega))
 have M:=qG (B.trans (p.mono (by omega)))
 have ab:=qG j;have N:=k.c.1;have O:=k.c.2;have ac:=k.fz 0;have ad:=k.fz 1;obtain⟨Y,d⟩:=j.rows
 have P:∀q,(Value.slice x m.length y).ownBlock=some q∨(Value.slice z h.length A).ownBlock=some q->True:=fun _ _=>trivial
 have Q:=qG (show ∀w',(∀q,q≠w.heap.size->w'.heap[q]? =K.heap[q]?)->OwL w' lo K.heap.size (.slice x m.length y) (.slice z h.length A) m h from fun w' t=>by
  have r:=blk_row2 k;refine⟨⟨Y,⟨?_,d.bl,?_⟩⟩,?_,j.bl⟩
  ·exact zB d.row (fun q f=>t q (fun e=>zd d.row r (by decide) f (by simp [Value.ownBlock,e])))
  ·exact⟨d.nest.len,fun i u l E o=>zB (d.nest.own i u l E o) (fun q f=>t q (fun e=>zd (d.nest.own i u l E o) r (by decide) f (by simp [Value.ownBlock,e]))),d.nest.bl,d.nest.ne⟩
  ·exact zB j.starts (fun q f=>t q (fun e=>zd j.starts r (by decide) f (by simp [Value.ownBlock,e]))))
 clear j p C d P;go_wp2
 refine xr (v:=.tuple #[.agg #[.slice x m.length y,.slice z h.length A],qJ 0]) (by simp [results,Tryz.results46,go_sem,N,O]) rfl ⟨_,_,rfl,?_,?_⟩
 ·refine(Q _ (fun q f=>?_)).mono lR (by simp)
  rw [xn _ _ _ _ (by show q≠w.heap.size;exact f),xn _ _ _ _ (by show q≠w.heap.size;exact f)]
 ·exact(M.setCell lR _).setCell lR _
noncomputable def insG (x:Gr) (p:Nat) (ts:List Int):Gr:=
 ⟨glay ((grT x).take p++(ts++(grT x).drop p)) (p+ts.length) (zw x.cells x.lo.toNat x.hi.toNat ts.length),((p+ts.length:Nat):Int),((p+(zw x.cells x.lo.toNat x.hi.toNat ts.length - (grT x).length):Nat):Int)⟩
def delG (x:Gr) (a b:Nat):Gr:=⟨glay ((grT x).take a++(grT x).drop b) a x.cells.length,(a:Int),((b+(x.hi.toNat - x.lo.toNat):Nat):Int)⟩
theorem zGv {a:List Value} {gs:List Gr} {i:Nat} (u:Value) (x:Gr) (b:a.length=gs.length) (hi:i<gs.length):grVs (a.set i u) (gs.set i x)=(((grVs a gs).set (i*3) u).set (i*3+1) (qJ x.lo)).set (i*3+2) (qJ x.hi):=by
 induction i generalizing a gs with
 | zero=>
  cases a with
  | nil=>simp at b;rw [b]at hi;simp at hi
  | cons v a=>
   cases gs with
   | nil=>simp at hi
   | cons g gs=>simp [grVs]
 | succ i c=>
  cases a with
  | nil=>simp at b;rw [<- b]at hi;simp at hi
  | cons v a=>
   cases gs with
   | nil=>simp at hi
   | cons g gs=>
    simp only [q9]at b hi
    rw [show(i+1)*3=i*3+1+1+1 by omega,show i*3+1+1+1+1=(i*3+1)+1+1+1 by omega,show i*3+1+1+1+2=(i*3+2)+1+1+1 by omega]
    simp only [List.set_cons_succ,grVs]
    rw [c (by omega) (by omega)]
theorem zGw {d:Array Value} {o m:Nat} {a b c:Value}:(set3 d o a b c).toList.take m=(((d.toList.take m).set o a).set (o+1) b).set (o+2) c:=by
 unfold set3;simp only [Array.toList_setIfInBounds,List.take_set]
theorem ZZ {α:Type} {xs:List α} {i j:Nat} {a b:α} (c:(xs.set i a)[j]? =some b):(j=i∧b=a)∨(j≠i∧xs[j]? =some b):=by
 by_cases e:j=i
 ·subst e
  rw [List.getElem?_set_self']at c
  cases hx:xs[j]? with
  | none=>rw [hx]at c;simp at c
  | some y=>rw [hx]at c;simp at c;exact .inl ⟨rfl,c.symm⟩
 ·rw [List.getElem?_set_ne (fun q=>e q.symm)]at c
  exact .inr ⟨e,c⟩
theorem OwG.edit {w w1:World} {lo hi g cap n i:Nat} {t:List Value} {gs:List Gr} {x:Gr} {u o:Value} {H:Array Value} {zs:List Int} {C hi':Int}
  (c:OwG 129 w lo hi (.slice (qK g 0) n cap) t gs) (D:gs.length=n) (O:gs[i]? =some x) (E:t[i]? =some u) (ae:hi<=w.heap.size)
  (P:w.heap[g]? =some (.cells H 129 (0,0))) (Q:w1.heap[g]? =some (.cells (set3 H (i*3) o (qJ C) (qJ hi')) 129 (0,0)))
  (R:o32 w1 lo o zs) (S:bel w1.heap.size o) (I:∀q,o.ownBlock=some q->q<w.heap.size->u.ownBlock=some q)
  (J:ChgP w w1 (fun k=>k=g∨u.ownBlock=some k)):
  OwG 129 w1 lo w1.heap.size (.slice (qK g 0) n cap) (t.set i o) (gs.set i ⟨zs,C,hi'⟩):=by
 have K:i<gs.length:=(xK.1 O).1;have ac:=J.size;have ad:g<hi:=c.bl g rfl
 have L:∀ (j:Nat) v l,j≠i->t[j]? =some v->o32 w lo v l->o32 w1 lo v l:=by
  intro j v l M f A
  refine zB A (fun q d=>J.block q (A.lt q d).2 (fun s=>?_))
  rcases s with s | s
  ·exact zd A c.row (by decide) d (by simp [Value.ownBlock,s])
  ·exact c.nest.ne i j u v q (fun e=>M e.symm) E f s d
 refine⟨?_,fun q d=>?_,⟨?_,?_,?_,?_⟩⟩
 ·have G:=c.row
  rw [D]at G
  rcases G.2 with ⟨e,_⟩ | ⟨g',af,ag,e,z,h,T,U,V,W⟩
  ·cases e
  ·simp only [xF,xw,ka,kW,kJ]at e
   obtain⟨rfl,rfl⟩:=e;rw [P]at h;simp only [xw,Obj.cells.injEq,kW]at h;subst h;rw [kB,D]
   refine⟨by rw [yo (by simp [c.len]),kB,D],.inr ⟨g,cap,_,rfl,z,Q,T,U,by rw [zk];exact V,?_⟩⟩
   rw [zGw,W,zGv o ⟨zs,C,hi'⟩ c.len K]
 ·simp only [Value.ownBlock,xw]at d
  omega
 ·rw [kB,xL,kB];exact c.len
 ·intro j v l f B
  rw [List.map_set]at B
  rcases ZZ f with ⟨rfl,rfl⟩ | ⟨e,m⟩
  ·rcases ZZ B with ⟨_,rfl⟩ | ⟨e,_⟩
   ·exact R
   ·exact absurd rfl e
  ·rcases ZZ B with ⟨X,_⟩ | ⟨_,Y⟩
   ·exact absurd X e
   ·exact L j v l e m (c.nest.own j v l m Y)
 ·intro v f
  obtain⟨j,Z⟩:=kL f
  rcases ZZ Z with ⟨_,rfl⟩ | ⟨_,aa⟩
  ·exact S
  ·exact jF (c.nest.bl v (xg aa)) (by omega)
 ·intro a b y v q p N f d r
  rcases ZZ N with ⟨rfl,rfl⟩ | ⟨ah,F⟩
  ·rcases ZZ f with ⟨rfl,_⟩ | ⟨ab,m⟩
   ·exact absurd rfl p
   ·have z:=c.nest.bl v (xg m) q r
    have h:=I q d (by omega)
    exact c.nest.ne a b u v q p E m h r
  ·rcases ZZ f with ⟨rfl,rfl⟩ | ⟨ab,m⟩
   ·have z:=c.nest.bl y (xg F) q d
    have h:=I q r (by omega)
    exact c.nest.ne a b y u q p F E d h
   ·exact c.nest.ne a b y v q p F m d r
theorem OwG.gb {w:World} {lo hi g cap n i:Nat} {f:List Value} {gs:List Gr} {x:Gr} {u:Value} (m:OwG 129 w lo hi (.slice (qK g 0) n cap) f gs) (o:gs.length=n) (h:gs[i]? =some x) (p:f[i]? =some u):
  ∃a,w.heap[g]? =some (.cells a 129 (0,0))∧GB w g (i*3) a 129 u x.lo x.hi:=by
 have r:i<gs.length:=(xK.1 h).1;have c:=m.row;rw [o]at c
 rcases c.2 with ⟨e,_⟩ | ⟨g',s,a,e,t,j,v,y,z,q⟩
 ·cases e
 ·simp only [xF,xw,ka,kW,kJ]at e
  obtain⟨rfl,rfl⟩:=e
  have b:∀k,k<3->a[i*3+k]? = [u,qJ x.lo,qJ x.hi][k]?:=by
   intro k l;have d:=jW p h l
   rw [<- q,xO,xj (by omega)]at d
   rw [<- d];simp
  exact⟨a,j,j,by omega,b 0 (by omega),b 1 (by omega),b 2 (by omega)⟩
theorem J7 {x:Gr} (c:gkP x.cells x.lo x.hi):GV x.cells x.lo.toNat x.hi.toNat∧x.lo=(x.lo.toNat:Int)∧x.hi=(x.hi.toNat:Int):=by
 obtain⟨⟨e,⟨f,g⟩,⟨h,j⟩,k⟩,d⟩:=c
 refine⟨⟨by omega,by omega,fun i a b=>d i (by omega) (by omega),by omega,by omega⟩,by omega,by omega⟩
theorem zAx {x:Gr} {lo hi:Nat} (d:GV x.cells lo hi) (e:x.lo=lo) (f:x.hi=hi):gkP x.cells x.lo x.hi:=by
 have a:=d.a;have b:=d.b;have c:=d.c;have t:=d.t;rw [e,f]
 refine⟨⟨by omega,⟨by omega,by omega⟩,⟨by omega,by omega⟩,by omega⟩,fun i i1 i2=>d.z i (by omega) (by omega)⟩
theorem Y6 {x:Gr} {a b:Nat} (g:gkP x.cells x.lo x.hi) (l:a<=b) (m:b<=(grT x).length):gkP (delG x a b).cells (delG x a b).lo (delG x a b).hi∧grT (delG x a b)=(grT x).take a++(grT x).drop b:=by
 obtain⟨c,n,o⟩:=J7 g;have hgt:(grT x).length=x.cells.length - (x.hi.toNat - x.lo.toNat):=zQ c.a c.b;have h:=c.a;have i:=c.b;have d:=c.c;have j:=c.t
 have k:((grT x).take a++(grT x).drop b).length=(grT x).length - (b - a):=by simp only [qM,qN,qS];omega
 have e:b+(x.hi.toNat - x.lo.toNat)=a+(x.cells.length - ((grT x).take a++(grT x).drop b).length):=by omega
 have f:GV (delG x a b).cells a (b+(x.hi.toNat - x.lo.toNat)):=by
  show GV (glay ((grT x).take a++(grT x).drop b) a x.cells.length) a (b+(x.hi.toNat - x.lo.toNat))
  rw [e];exact ZT (by omega) (by omega) d (by omega)
 refine⟨zAx f rfl rfl,?_⟩
 show gtext (glay ((grT x).take a++(grT x).drop b) a x.cells.length) (Int.toNat (a:Int)) (Int.toNat ((b+(x.hi.toNat - x.lo.toNat):Nat):Int))=_
 rw [vH,vH,e]
 exact YD (by omega) (by omega)
theorem Z0 {x:Gr} {p:Nat} {ts:List Int} (d:gkP x.cells x.lo x.hi) (i:p<=(grT x).length) (f:(grT x).length+ts.length<=8192):gkP (insG x p ts).cells (insG x p ts).lo (insG x p ts).hi∧grT (insG x p ts)=(grT x).take p++(ts++(grT x).drop p):=by
 obtain⟨g,j,k⟩:=J7 d;have a:=Kg g (n:=ts.length) f;have b:(gtext x.cells x.lo.toNat x.hi.toNat).length=(grT x).length:=rfl;rw [b]at a
 have h:((grT x).take p++(ts++(grT x).drop p)).length=(grT x).length+ts.length:=by simp only [qM,qN,qS];omega
 have e:p+(zw x.cells x.lo.toNat x.hi.toNat ts.length - (grT x).length)=(p+ts.length)+(zw x.cells x.lo.toNat x.hi.toNat ts.length - ((grT x).take p++(ts++(grT x).drop p)).length):=by omega
 have c:GV (insG x p ts).cells (p+ts.length) (p+(zw x.cells x.lo.toNat x.hi.toNat ts.length - (grT x).length)):=by
  show GV (glay ((grT x).take p++(ts++(grT x).drop p)) (p+ts.length) (zw x.cells x.lo.toNat x.hi.toNat ts.length)) _ _
  rw [e];exact ZT (by omega) (by omega) (by omega) (by omega)
 refine⟨zAx c rfl rfl,?_⟩
 show gtext (glay ((grT x).take p++(ts++(grT x).drop p)) (p+ts.length) (zw x.cells x.lo.toNat x.hi.toNat ts.length)) (Int.toNat ((p+ts.length:Nat):Int)) (Int.toNat ((p+(zw x.cells x.lo.toNat x.hi.toNat ts.length - (grT x).length):Nat):Int))=_
 rw [vH,vH,e]
 exact YD (by omega) (by omega)
end Go.Proofs.YtljdnoinennfaaaGreatDoor

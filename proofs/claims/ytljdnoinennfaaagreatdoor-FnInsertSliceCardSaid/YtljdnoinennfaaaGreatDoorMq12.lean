import Derived.Test.YtljdnoinennfaaaGreatDoorMq10
import Derived.Test.YtljdnoinennfaaaGreatDoorMq11
set_option linter.all false
set_option maxRecDepth 100000
set_option maxHeartbeats 8000000
namespace Go.Proofs.YtljdnoinennfaaaGreatDoor
open Go Go.RowKit Go.Proofs.Tryz
theorem Tryz.qw:(prog.info? 5).map (fun i=>(i.zero,i.size,i.bytes))=some (some (.int .u8 0),1,1):=by kernel_rfl
theorem encZ_bts (r:Int):∀z∈encZ r,0<=z∧z<=255:=by
 intro z b
 rcases zy r with a | a | a | a | a | a
 ·rw [yG a]at b;simp at b;omega
 ·rw [yY a.1 a.2]at b;simp at b;omega
 ·rw [yK a.1 a.2]at b;simp at b;omega
 ·rw [zP a.1 (by omega) (.inl a.2)]at b;simp at b;omega
 ·rw [zP (by omega) a.2 (.inr a.1)]at b;simp at b;omega
 ·rw [yB a.1 a.2]at b;simp at b;omega
def Blk (g:Nat) (ys:List Int) (w:World):Prop:=w.heap[g]? =some (.cells (ints .u8 ys).toArray 5 (0,0))
theorem Blk.kept {g:Nat} {ys:List Int} {w w':World} {c:Option Nat} (a:Blk g ys w) (f:w.grownBy w' c) (h:c≠some g):Blk g ys w':=by
 have d:g<w.heap.size:=by
  rcases xS g w.heap.size with b | b
  ·exact b
  ·unfold Blk at a;rw [vJ b]at a;cases a
 exact(f.block g d (fun e=>h e.symm)).trans a
theorem Blk.cells {g:Nat} {ys:List Int} {w:World} (c:Blk g ys w) (m:Nat):∀j u,(ints .u8 (ys.take m))[j]? =some u->w.cell? ((⟨g,0,none⟩:Addr).add j)=some u:=by
 intro j u b;rw [zK,xN,qQ w g j _ _ _ c];simp only [ints,vA,Option.map_eq_some_iff,xO]at b;obtain⟨z,a,rfl⟩:=b
 split at a
 ·simp [ints,a]
 ·cases a
theorem Blk.cell {g:Nat} {ys:List Int} {w:World} (a:Blk g ys w) (j:Nat) (b:j<ys.length):w.cell? ⟨g,j,none⟩=some (.int .u8 (ys.getD j 0)):=by
 rw [qQ w g j _ _ _ a];simp [ints,b]
theorem Blk.set {g:Nat} {ys:List Int} {w:World} (a:Blk g ys w) (j:Nat) (z:Int):Blk g (ys.set j z) (w.setCell ⟨g,j,none⟩ (.int .u8 z)):=by
 have:=xB w g j _ _ (.int .u8 z) a;unfold Blk;rw [this,<- ints_set];simp
theorem Blk.new (ys:List Int) (w:World):Blk w.heap.size ys (w.alloc (.cells (ints .u8 ys).toArray 5)):=xm _ _
theorem l1bG (r:Int) (w:World) (c:0<=r) (d:r<=1114111):
  Calls prog 91 #[qJ r] w fun e w'=>∃ys g,e= .returned (.slice (qK g 0) ys.length ys.length)∧w.heap.size=g∧(1<=ys.length∧ys.length<=4)∧(∀z∈ys,0<=z∧z<=255)∧Blk g ys w'∧w.grownBy w' none:=
 (l1b r w (by omega) (by omega)).mono fun e w' ⟨b,a⟩=>⟨encZ r,w.heap.size,b,rfl,yH r,encZ_bts r,by subst a;exact Blk.new _ _,by subst a;exact jr _ _⟩
theorem js {xs ys:List Int} (c:∀z∈xs,0<=z∧z<=255) (d:∀z∈ys,0<=z∧z<=255):∀z∈xs++ys,0<=z∧z<=255:=by
 intro z b
 rcases xv.1 b with a | a
 ·exact c z a
 ·exact d z a
theorem Blk.all {g:Nat} {ys:List Int} {w:World} (a:Blk g ys w):∀j u,(ints .u8 ys)[j]? =some u->w.cell? ((⟨g,0,none⟩:Addr).add j)=some u:=by
 have:=a.cells ys.length
 rwa [List.take_length]at this
theorem Xk {w w':World} {a:Option Nat} {b o:Nat} {v:Value} (c:w.cell? ⟨b,o,none⟩=some v) (d:w.grownBy w' a) (f:a≠some b):w'.cell? ⟨b,o,none⟩=some v:=by
 rw [qV (w:=w) (d.block b (xD w _ c) (fun e=>f e.symm))]
 exact c
theorem Src.heap {bs:List Int} {c:Value} {p:Nat} {w w':World} (d:Src bs c p w) (e:w'.heap=w.heap):Src bs c p w':=by
 obtain⟨⟨i,x,f,g,h,j⟩,k,l,a⟩:=d
 refine⟨⟨i,x,f,g,h,by rw [e];exact j⟩,k,l,?_⟩
 rcases a with a | ⟨b,off,cap,m,n,o,q⟩
 ·exact .inl a
 ·exact .inr ⟨b,off,cap,m,n,o,fun i hi=>by rw [qV (w:=w) (by rw [e])];exact q i hi⟩
theorem DS.app' {k:IntKind} {e:TypeId} {bs:List Int} {b:Value} {p:Nat} {a w w':World} {c d:Value} {xs ys:List Int} {m:Nat} (f:DS k e bs b p a c xs w) (g:w.grownBy w' c.ownBlock) (h:ys.length=m) (i:w'.ownsRow a.heap.size e 1 d (xs.length+m) (ints k xs++ints k ys)):DS k e bs b p a d (xs++ys) w':=
 f.app g (by rw [qM,h,zZ];exact i)
def six:List Int:=[224,237,240,244,245,193]
theorem six_bd:∀z∈six,0<=z∧z<=255:=by decide
theorem Blk.six {g:Nat} {w:World} (c:Blk g six w) (j:Nat) (b:j<6):∃z:Int,(0<=z∧z<=255)∧w.cell? ⟨g,j,none⟩=some (.int .u8 z):=
 ⟨_,six_bd _ (by
  have a:j<Proofs.YtljdnoinennfaaaGreatDoor.six.length:=b
  rw [qW,qY a];exact Qg a),c.cell j b⟩
theorem zDl (bs:List Int) (o:Value) (p:Nat) (n:Nat) (w:World) (av:Src bs o p w) (b5:n<=100000):
  Calls prog 53 #[.pointer (some ⟨p,0,none⟩),.int .i64 n] w fun e w'=>∃af xs,e= .returned af∧(n<=xs.length∧xs.length<=4*n)∧(∀z∈xs,0<=z∧z<=255)∧DS .u8 5 bs o p w af xs w'∧af≠ .slice none 0 0:=by
 have aj:=qG (DS.start .u8 5 av);clear av;go_enter func53,ntmps53;go_wp2
 go_loopw [5,6] (fun au i wr=>∃ (k:Nat) (xs:List Int),k<=n∧i= .int .i64 k∧(k<=xs.length∧xs.length<=4*k)∧(∀z∈xs,0<=z∧z<=255)∧DS .u8 5 bs o p w au xs wr∧au≠ .slice none 0 0) (fun _ i _=>n - (intOf i).toNat)
 case atStart=>exact⟨0,[],xP _,rfl,⟨xP _,xP _⟩,by simp,aj.out,by simp⟩
 case round=>
  obtain⟨k,xs,b6,rfl,bj,aw,ax,ay⟩:=hrel;have W:=qG ax;have E:=qG aw;have F:=qG ay;clear ax aw ay aj
  by_cases b4:k<n
  ·go_wp2_with fail
   refine(zBj bs o p wr W.out.src).mono ?_;rintro e w1 ⟨r,rfl,⟨bk,bl⟩,az,a0⟩;have N:=qG (W.out.draw az a0);clear az a0 W;go_wp2_with fail;refine(l1bG r w1 bk bl).mono ?_;rintro e bm ⟨ys,g,rfl,bn,⟨b7,b8⟩,a1,a2,a3⟩;have K:=qG a1
   have aa:=qG (N.out.other a3 (fun q v=>by cases v) (fun q v=>by simp))
   have ak:=qG a2
   have a6:w.heap.size<=g:=by have:=N.out.size;omega
   have a7:=qG (show ∀q,u5.ownBlock=some q->some g≠some q from fun q v e=>by have:=(N.out.own.lt q v).2;cases e;omega)
   have B:(some p:Option Nat)≠some g:=fun e=>by have:=N.out.low.1;cases e;omega
   clear a1 a2 a3 bn N;go_wp2_with fail
   refine(drawN bs o p 9 bm aa.out.src (by omega) (by omega)).mono ?_
   rintro e Z ⟨G,rfl,R,a4,ah⟩;have x:=qG (aa.out.draw a4 ah);have L:=qG (ak.out.kept ah B);clear a4 ah aa ak;have a8:=x.out.size
   have a9:G=0∨G=1∨G=2∨G=3∨4<=G:=by omega
   rcases a9 with rfl | rfl | rfl | rfl | bo
   ·clear R
    go_wp2_with fail
    refine(drawN bs o p ys.length Z x.out.src (by omega) (by omega)).mono ?_
    rintro e D ⟨j,rfl,ai,d,c⟩;have m:=qG (x.out.draw d c);have C:=qG (L.out.kept c B);have H:=m.out.size;clear d c;obtain⟨j,rfl⟩:=xZ ai.1
    have al:j<ys.length:=by omega
    have bu:((j:Int)+1).toNat=j+1:=by omega
    have ab:=qG (show(ys.take (j+1)).length=j+1 by rw [qN];omega)
    go_wp2_with (at_builtin;refine a22 _ rfl _ _ rfl w.heap.size _ _ _ rfl m.out.own ⟨g,0,none⟩ (j+1) (ys.length) (ints .u8 (ys.take (j+1))) rfl ((zC .u8 _).trans ((ab.out).trans (vI _).symm)) (C.out.cells _) (zF .u8 _) (by unfold maxLen;omega) (by omega) H ?_;intro u I f h l)
    have s:=qG (m.out.app' (ys:=ys.take (j+1)) h (ab.out) f)
    have t:=qG (show u≠ .slice none 0 0 from fun e=>F.out (l.1 e).1);clear f h l
    go_wp2;go_roundw
    case rel=>exact⟨k+1,xs++(ys.take (j+1)),by omega,by go_num,by have v:=ab.out;rw [qM];omega,js E.out (fun z ag=>K.out z (xI ag)),s.out,t.out⟩
    case measure=>simp [intOf];omega
   ·clear R
    go_wp2_with fail
    refine(Yk bs o p 2 Z x.out.src (by omega) (by omega)).mono ?_
    rintro e D ⟨b,rfl,d,c⟩;have m:=qG (x.out.draw d c);have C:=qG (L.out.kept c B);have H:=m.out.size;clear d c
    cases b with
    | false=>
     go_wp2_with (at_builtin;refine a22 _ rfl _ _ rfl w.heap.size _ _ _ rfl m.out.own ⟨g,0,none⟩ (ys.length) (ys.length) (ints .u8 (ys)) rfl ((zC .u8 _).trans ((rfl:List.length _=_).trans (vI _).symm)) C.out.all (zF .u8 _) (by unfold maxLen;omega) (by omega) H ?_;intro u I f h l)
     have s:=qG (m.out.app' (ys:=ys) h (rfl) f)
     have t:=qG (show u≠ .slice none 0 0 from fun e=>F.out (l.1 e).1);clear f h l
     go_wp2;go_roundw
     case rel=>exact⟨k+1,xs++(ys),by omega,by go_num,by rw [qM];omega,js E.out (K.out),s.out,t.out⟩
     case measure=>simp [intOf];omega
    | true=>
     go_wp2_with fail
     refine(drawN bs o p ys.length D m.out.src (by omega) (by omega)).mono ?_
     rintro e Q ⟨j,rfl,ai,d,c⟩;have A:=qG (m.out.draw d c);have ac:=qG (C.out.kept c B);have am:=A.out.size;clear d c;go_wp2_with fail
     refine(drawN bs o p 256 Q A.out.src (by omega) (by omega)).mono ?_
     rintro e J ⟨z,rfl,ag,d,c⟩;have O:=qG (A.out.draw d c);have X:=qG (ac.out.kept c B);have ba:=O.out.size;clear d c;obtain⟨j,rfl⟩:=xZ ai.1
     have al:j<ys.length:=by omega
     have bv:=X.out.cell j al;have bw:J.frozen? ⟨g,j,none⟩=false:=xo J g j _ _ X.out
     have P:=qG (O.out.other (KI J g j (.int .u8 z)) (fun q v=>by cases v;omega) a7.out)
     have ad:=qG (X.out.set j z)
     have bc:w.heap.size<=(J.setCell ⟨g,j,none⟩ (.int .u8 z)).heap.size:=by simp;omega
     have ae:=qG (show(ys.set j z).length=ys.length by simp)
     go_wp2_with (at_builtin;refine a22 _ rfl _ _ rfl w.heap.size _ _ _ rfl P.out.own ⟨g,0,none⟩ (ys.length) (ys.length) (ints .u8 (ys.set j z)) rfl ((zC .u8 _).trans ((ae.out).trans (vI _).symm)) ad.out.all (zF .u8 _) (by unfold maxLen;omega) (by omega) bc ?_;intro u I f h l)
     have s:=qG (P.out.app' (ys:=ys.set j z) h (ae.out) f)
     have t:=qG (show u≠ .slice none 0 0 from fun e=>F.out (l.1 e).1);clear f h l
     go_wp2;go_roundw
     case rel=>exact⟨k+1,xs++(ys.set j z),by omega,by go_num,by have v:=ae.out;rw [qM];omega,js E.out (fun q v=>by rcases List.mem_or_eq_of_mem_set v with bp | rfl;exact K.out q bp;omega),s.out,t.out⟩
     case measure=>simp [intOf];omega
   ·clear R
    go_wp2_with fail
    refine(Yk bs o p 3 Z x.out.src (by omega) (by omega)).mono ?_
    rintro e D ⟨b,rfl,d,c⟩;have m:=qG (x.out.draw d c);have C:=qG (L.out.kept c B);have H:=m.out.size;clear d c
    cases b with
    | false=>
     go_wp2_with (at_builtin;refine a22 _ rfl _ _ rfl w.heap.size _ _ _ rfl m.out.own ⟨g,0,none⟩ (ys.length) (ys.length) (ints .u8 (ys)) rfl ((zC .u8 _).trans ((rfl:List.length _=_).trans (vI _).symm)) C.out.all (zF .u8 _) (by unfold maxLen;omega) (by omega) H ?_;intro u I f h l)
     have s:=qG (m.out.app' (ys:=ys) h (rfl) f)
     have t:=qG (show u≠ .slice none 0 0 from fun e=>F.out (l.1 e).1);clear f h l
     go_wp2;go_roundw
     case rel=>exact⟨k+1,xs++(ys),by omega,by go_num,by rw [qM];omega,js E.out (K.out),s.out,t.out⟩
     case measure=>simp [intOf];omega
    | true=>
     go_wp2_with fail
     refine(drawN bs o p 64 D m.out.src (by omega) (by omega)).mono ?_
     rintro e Q ⟨y,rfl,b9,d,c⟩;have A:=qG (m.out.draw d c);have ac:=qG (C.out.kept c B);have am:=A.out.size;clear d c;go_wp2_with fail
     refine(drawN bs o p 64 Q A.out.src (by omega) (by omega)).mono ?_
     rintro e J ⟨z,rfl,ag,d,c⟩;have O:=qG (A.out.draw d c);have X:=qG (ac.out.kept c B);have ba:=O.out.size;clear d c;have P:=qG (O.out.alloc (.cells (ints .u8 [192+y,128+z]).toArray 5));have ad:=qG (Blk.new [192+y,128+z] J)
     go_wp2_with (at_builtin;refine a22 _ rfl _ _ rfl w.heap.size _ _ _ rfl P.out.own ⟨J.heap.size,0,none⟩ (2) (2) (ints .u8 ([192+y,128+z])) rfl ((zC .u8 _).trans ((rfl:List.length _=_).trans (vI _).symm)) ad.out.all (zF .u8 _) (by unfold maxLen;omega) (by omega) (by simp;omega) ?_;intro u I f h l)
     have s:=qG (P.out.app' (ys:=[192+y,128+z]) h (rfl) f)
     have t:=qG (show u≠ .slice none 0 0 from fun e=>F.out (l.1 e).1);clear f h l
     go_wp2;go_roundw
     case rel=>exact⟨k+1,xs++([192+y,128+z]),by omega,by go_num,by rw [qM];simp only [q9,xC];omega,js E.out (by intro q v;simp at v;omega),s.out,t.out⟩
     case measure=>simp [intOf];omega
   ·clear R
    go_wp2_with fail
    refine(Yk bs o p 3 Z x.out.src (by omega) (by omega)).mono ?_
    rintro e D ⟨b,rfl,d,c⟩;have m:=qG (x.out.draw d c);have C:=qG (L.out.kept c B);have H:=m.out.size;clear d c
    cases b with
    | false=>
     go_wp2_with (at_builtin;refine a22 _ rfl _ _ rfl w.heap.size _ _ _ rfl m.out.own ⟨g,0,none⟩ (ys.length) (ys.length) (ints .u8 (ys)) rfl ((zC .u8 _).trans ((rfl:List.length _=_).trans (vI _).symm)) C.out.all (zF .u8 _) (by unfold maxLen;omega) (by omega) H ?_;intro u I f h l)
     have s:=qG (m.out.app' (ys:=ys) h (rfl) f)
     have t:=qG (show u≠ .slice none 0 0 from fun e=>F.out (l.1 e).1);clear f h l
     go_wp2;go_roundw
     case rel=>exact⟨k+1,xs++(ys),by omega,by go_num,by rw [qM];omega,js E.out (K.out),s.out,t.out⟩
     case measure=>simp [intOf];omega
    | true=>
     clear L C x B a6;have A:=qG (m.out.alloc (.cells #[.int .u8 224,.int .u8 237,.int .u8 240,.int .u8 244,.int .u8 245,.int .u8 193] 5))
     have bd:=qG (show Blk D.heap.size six (D.alloc (.cells #[.int .u8 224,.int .u8 237,.int .u8 240,.int .u8 244,.int .u8 245,.int .u8 193] 5))from Blk.new six D)
     have Y:(some p:Option Nat)≠some D.heap.size:=fun e=>by have:=m.out.low.1;cases e;omega
     have am:=A.out.size;clear m
     go_upto_region 18 with fail
     have be:True:=xH;generalize D.alloc (.cells #[.int .u8 224,.int .u8 237,.int .u8 240,.int .u8 244,.int .u8 245,.int .u8 193] 5)=Q at *
     go_region_with (first
      | (go_at_call_of 34 (Value.int IntKind.i64 6);refine(drawN bs o p 6 _ (by exact A.out.src.heap rfl) (by omega) (by omega)).mono ?_;rintro e bq ⟨ca,rfl,br,d,M⟩;have c:Q.grownBy bq (some p):=⟨M.os,M.tape,M.output,M.size,M.block⟩;clear M;obtain⟨a,rfl⟩:=xZ br.1;have bf:a<6:=(by omega);have an:=qG (A.out.draw d c);obtain⟨S,cb,bt⟩:=(bd.out.kept c Y).six a bf;clear d c)
      | (go_at_call_of 34 (Value.int IntKind.i64 96);refine(drawN bs o p 96 _ (by exact an.out.src) (by omega) (by omega)).mono ?_;rintro e cc ⟨T,rfl,cd,d,c⟩;have ao:=qG (an.out.draw d c);have bg:=Xk bt c Y;clear d c)
      | (go_at_call_of 34 (Value.int IntKind.i64 64);clear be;refine(drawN bs o p 64 _ (by exact ao.out.src) (by omega) (by omega)).mono ?_;rintro e ce ⟨U,rfl,cf,d,c⟩;have ap:=qG (ao.out.draw d c);have bh:=Xk bg c Y;clear d c)
      | (go_at_call_of 34 (Value.int IntKind.i64 64);refine(drawN bs o p 64 _ (by exact ap.out.src) (by omega) (by omega)).mono ?_;rintro e a5 ⟨V,rfl,cg,d,c⟩;have aq:=qG (ap.out.draw d c);have bx:=Xk bh c Y;clear d c))
     all_goals
      have bz:=aq.out.size;have ar:=qG (aq.out.alloc (.cells (ints .u8 [S,112+T,128+U,128+V]).toArray 5));have bi:=qG (Blk.new [S,112+T,128+U,128+V] a5)
      go_wp2_with (at_builtin;refine a22 _ rfl _ _ rfl w.heap.size _ _ _ rfl ar.out.own ⟨a5.heap.size,0,none⟩ 4 4 (ints .u8 [S,112+T,128+U,128+V]) rfl rfl bi.out.all (zF .u8 _) (by unfold maxLen;omega) (by omega) (by simp;omega) ?_;intro u I f h l)
      have s:=qG (ar.out.app' (ys:=[S,112+T,128+U,128+V]) h rfl f)
      have t:=qG (show u≠ .slice none 0 0 from fun e=>F.out (l.1 e).1);clear f h l
      go_wp2;go_roundw
      case rel=>exact⟨k+1,xs++ [S,112+T,128+U,128+V],by omega,by go_num,by rw [qM];simp only [q9,xC];omega,js E.out (by intro q v;simp at v;omega),s.out,t.out⟩
      case measure=>simp [intOf];omega
   ·have b0:(G==0)=false:=by simp;omega
    have b1:(G==1)=false:=by simp;omega
    have b2:(G==2)=false:=by simp;omega
    have b3:(G==3)=false:=by simp;omega
    clear R bo
    go_wp2_with (at_builtin;refine a22 _ rfl _ _ rfl w.heap.size _ _ _ rfl x.out.own ⟨g,0,none⟩ (ys.length) (ys.length) (ints .u8 (ys)) rfl ((zC .u8 _).trans ((rfl:List.length _=_).trans (vI _).symm)) L.out.all (zF .u8 _) (by unfold maxLen;omega) (by omega) a8 ?_;intro u I f h l)
    have s:=qG (x.out.app' (ys:=ys) h (rfl) f)
    have t:=qG (show u≠ .slice none 0 0 from fun e=>F.out (l.1 e).1);clear f h l
    go_wp2;go_roundw
    case rel=>exact⟨k+1,xs++(ys),by omega,by go_num,by rw [qM];omega,js E.out (K.out),s.out,t.out⟩
    case measure=>simp [intOf];omega
  ·obtain rfl:k=n:=by omega
   go_wp2;go_ret;exact⟨_,xs,rfl,bj,E.out,W.out,F.out⟩
theorem zGh (bs:List Int) (b:Value) (p:Nat) (n:Nat) (w:World) (c:Src bs b p w) (l:n<=100000):
  Calls prog 20 #[.pointer (qK p 0),qJ n] w fun e w'=>∃a xs,e= .returned a∧(n<=xs.length∧xs.length<=4*n)∧(∀z∈xs,0<=z∧z<=255)∧DS .u8 5 bs b p w a xs w'∧a≠ .slice none 0 0:=by
 have h:=qG c;clear c;go_enter func20,ntmps20;go_wp2_with fail;refine(zDl bs b p n w h l).mono ?_;rintro e w1 ⟨a,xs,rfl,m,d,f,g⟩;have i:=qG d;have j:=qG f;have k:=qG g;clear d f g;go_wp2;go_ret;exact⟨_,xs,rfl,m,i,j,k⟩
end Go.Proofs.YtljdnoinennfaaaGreatDoor

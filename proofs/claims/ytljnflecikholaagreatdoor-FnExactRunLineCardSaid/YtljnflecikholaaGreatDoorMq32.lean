import Derived.Test.YtljnflecikholaaGreatDoorMq31
set_option linter.all false
set_option maxRecDepth 100000
set_option maxHeartbeats 8000000
namespace Go.Proofs.YtljnflecikholaaGreatDoor
open Go Go.RowKit Go.Proofs.Tryz
section
open Go.Sort Go.BigFrame
section
variable {w w':World} {Z:Nat->Prop} {E c:Nat} {x:VX} {M:SS} {K:KX} {kd b0 b1 b2:Int} {ta:Option Addr} {tl tk:Nat}
def PX.held{W W2 Z1 op v ts}(f:PX K w Z E c op M Z1 W)(i:qY W W2)(d:zT W2 W.heap.size v ts):PX K w Z E c op M (λa=>Z1 a\/v.ownBlock=some a) W2/\TX W2 (λa=>Z1 a\/v.ownBlock=some a) v ts:=by
 obtain⟨⟨k,m⟩,n,j,o,p⟩:=f;have e:=KK.of (l:=YH) (Z:=Z1) i;refine⟨⟨⟨k,m.hold i (λ_ f=>.inl f) (λa b=>b.imp id (λg=>⟨(d.lt a g).1,(d.lt a g).2,λr s t h=>?_⟩))⟩,n.trans e j,λa b=>.inl (j a b),e.ty o qG,e.ty p qG⟩,zF d (xK _),λa b=>.inr b⟩;obtain⟨u,x,q⟩:=jr d g;rw[q]at h;simp at h;rw[<- h.2.1];decide
def edS_put(M)(off)(ts):Fo M off off ts=zAv (Wl true M off ts) (XV M off off ts):=by simp[Fo,zAv,Wl,Hs,OE,zB7]
def edS_cut(M){lo a ts}(d:a=lo+ts.length)(e:0<ts.length):Fo M lo a []=zAv (Wl false M lo ts) (XV M lo a []):=by
 have b:¬a=lo:=qF
 have c:((a:Int)-lo)=ts.length:=qF
 unfold Fo zAv Wl Hs OE zB7;rw[xJ b,xJ b,c,<- d];simp
def rtx_put(M){off ts}(b:off<=M.tx.length):YG (XV M off off ts)=ts:=by
 have a:(M.tx.take off).length=off:=by rw[xi];omega
 simp only[YG,XV,Hs,decide_true,if_true,kh,xX]
 simp_all
def rtx_cut(M){lo hi}(b:lo<hi):YG (XV M lo hi [])=(M.tx.take hi).drop lo:=by
 have a:¬hi=lo:=qF
 simp only[YG,XV,a,decide_false,Qb,if_false,ke,kW];rw[List.drop_take]
def WC{n}(a:EX K w Z E c x M)(d:M.sp+n<=200000):Calls prog 133 #[qO E 0,qC n] w λb w'=>b=qQ .nilIface/\EX K w' Z E c x {M with sp:=M.sp+n}/\KK YH Z w w':=by
 refine(spendG E _ n w a.ey.blk.cl.2.2.2.2.2.2.2 (a.ey.blk.f 15) qF qF).mono ?_;rintro b w' ⟨rfl,rfl⟩;have:=a.sp' (M.sp+n);rw[show(((M.sp+n:Nat)):Int)=M.sp+n by omega]at this;exact⟨rfl,this,a.ey.ek (EO.set E 15 _ w) qG⟩
def Hi{n}(d:EX K w Z E c x M)(f:M.sp<=200000)(g:200000<M.sp+n):Calls prog 133 #[qO E 0,qC n] w λb w'=>b=qQ (.iface 109 (qC 10))/\w'=w:=by
 have e:=d.ey.blk.cl.2.2.2.2.2.2.2;have a:=zC (zA4 M.sp n 200000 w qF qF qF);rw[show decide _=false by rw[QA];omega]at a;unfold jH at a;simp at a;clear d;go_enter func133,ntmps133;go_wp2_with fail;refine a.mono ?_;rintro b h ⟨rfl,rfl⟩;go_wp2;go_ret;simp
def endX{n}(a:EX K w Z E c x M)(u:M.op=true)(S:0<n)(H:n=M.gr.length)(I:M.un.length<=1000)(J:M.cp<=1000):∃r b,x.cv= .slice r n b/\Calls prog 149 #[.pointer (qD E 1)] w λf w'=>f= .returned (.tuple #[.slice r n b,.nilIface])/\Ht K w Z E c {M with op:=false,un:=jb M.cp M.un M.gr} w':=by
 obtain⟨⟨L,g,v⟩,N⟩:=a.ey.cu u
 have B:∃d b s,x.cv= .slice (qD d 0) n b/\w.heap[d]?=some (.cells s 232 (0,0)):=by
  rcases g.2 with ⟨f,T⟩ | ⟨U,V,W,f,_,X,_⟩
  ·omega
  simp_all
 obtain⟨d,b,s,e,y⟩:=B;refine⟨_,b,e,?_⟩;have h:=EO.set E 4 (.bool false) w;have C:d≠E:=a.ey.blk.ne g (by decide) (by rw[e];rfl);have o:(w.setCell ⟨E,4,none⟩ (.bool false)).heap[d]?=some _:=(xj w _ d _ C).trans y;have i:=zC (a.shut.freeze rfl o);have D:=zC (a.ey.ek (l:=YH) h (by decide));have j:=a.ey.ek (l:=[232,166]) h (by decide);have p:=zC (show zB2 _ (λk=>Z k\/k=d) (.slice _ n b) _ from⟨⟨L,by rw[<- e];exact yY g j (.inl (by decide)),v.kk j (by decide) (λ_ a=>.inl a)⟩,λk t=>.inr (by simp only[Value.ownBlock,xE]at t;exact t.symm)⟩);have q:=zC (zBq i p I J);obtain⟨_,_,_,_,O,_⟩:=a.ey.blk.cl;rw[u]at O;have Q:=a.ey.blk.f 4;obtain⟨_,_,_,_,_,P,_⟩:=i.out.ey.blk.cl;rw[e]at P;have F:=zC e;clear a g v N i p h j y o e H;go_enter func149,ntmps149;go_wp2_with fail;refine q.mono ?_;rintro f z ⟨rfl,⟨Y,m⟩,A⟩;have R:z.cell? ⟨E,5,none⟩=some (.slice (qD d 0) n b):=by have:=m.ey.blk.cl.2.2.2.2.2.1;rw[this];simp only[F.out]
 have G:=zC (show Ht K w Z E c _ z from⟨_,_,m,D.trans A (λ_ a=>.inl a),λ_ a=>.inl a⟩);clear m A q;go_wp2;exact vg (by simp[results,go_sem]) rfl ⟨rfl,G⟩
def endZX(a:EX K w Z E c x M)(g:M.op=true)(l:M.gr= []):∃d e,Calls prog 149 #[qO E 1] w λb w'=>b=qQ (.tuple #[qM d 0 e,.nilIface])/\Ht K w Z E c {M with op:=false} w':=by
 obtain⟨⟨r,f,m⟩,n⟩:=a.ey.cu g;rw[l]at f
 obtain⟨d,e,h⟩:∃j k,x.cv= .slice j 0 k:=by
  rcases f.2 with ⟨b,s⟩ | ⟨t,u,v,b,_,y,_⟩
  ·exact⟨_,_,b⟩
  exact⟨_,_,b⟩
 refine⟨d,e,?_⟩;have i:=zC (show Ht K w Z E c _ _ from⟨Z,_,a.shut,a.ey.ek (EO.set E 4 _ w) qG,λ_ a=>a⟩);obtain⟨_,_,_,_,o,p,_⟩:=a.ey.blk.cl;rw[g]at o;rw[h]at p;have q:=a.ey.blk.f 4;clear a f m n h;go_enter func149,ntmps149;go_wp2;exact vg (by simp[results,go_sem]) rfl ⟨rfl,i⟩
def endEX(a:EX K w Z E c x M)(d:M.op=false):Calls prog 149 #[qO E 1] w λb w'=>b=qQ (.tuple #[qN,.iface 109 (qC 8)])/\w'=w:=by
 obtain⟨_,_,_,_,e,f,_⟩:=a.ey.blk.cl;rw[d]at e;clear a;go_enter func149,ntmps149;go_wp2;exact vg (by simp[results,go_sem]) rfl ⟨rfl,rfl⟩
def end9{n}(d:EX K w Z E c x M)(k:M.op=true)(l:0<n)(e:n=M.gr.length)(m:M.un.length<=1000)(o:M.cp<=1000):AX K 121 w Z E c 12 b0 b1 b2 (qM ta tl tk) 0 n 0 [] [] {M with op:=false,un:=jb M.cp M.un M.gr}:=by
 unfold AX;have a:=zC (PX.start d (yp 12 b0 b1 b2 (qM ta tl tk)));clear d;go_enter func121,ntmps121;go_upto_region 1 with fail;generalize World.alloc _ _=p at *;obtain⟨q,f⟩:=a.out.1;have i:=zC f;clear f;obtain⟨r,s,_,g⟩:=endX i k l e m o;have BE:=zC g;clear g e;go_wp2_with fail;refine BE.mono ?_;rintro t u ⟨rfl,hst⟩;obtain⟨v,h,_⟩:=a.step hst;have b:=zC h;clear hst h BE;have RR:=zC b.2.2.2.2;have j:=zC (b.fin0 (x0:=0) (x1:=n) (x2:=0));go_wp2_with (refine ZM RR ?_);exact jK results121 RR rfl rfl j
def endE9(d:EX K w Z E c x M)(k:M.op=true)(e:M.gr= []):AX K 121 w Z E c 12 b0 b1 b2 (qM ta tl tk) 0 0 0 [] [] {M with op:=false}:=by
 unfold AX;have a:=zC (PX.start d (yp 12 b0 b1 b2 (qM ta tl tk)));clear d;go_enter func121,ntmps121;go_upto_region 1 with fail;generalize World.alloc _ _=l at *;obtain⟨m,f⟩:=a.out.1;have i:=zC f;clear f;obtain⟨n,o,g⟩:=endZX i k e;have BE:=zC g;clear g e;go_wp2_with fail;refine BE.mono ?_;rintro p q ⟨rfl,hst⟩;obtain⟨r,h,_⟩:=a.step hst;have b:=zC h;clear hst h BE;have RR:=zC b.2.2.2.2;have j:=zC (b.fin0 (x0:=0) (x1:=0) (x2:=0));go_wp2_with (refine ZM RR ?_);exact jK results121 RR rfl rfl j
def endB9(b:EX K w Z E c x M)(g:M.op=false):BX 121 w E 12 b0 b1 b2 (qM ta tl tk) (.iface 109 (qC 8)):=by
 unfold BX;have a:=zC (PB.start w (yp 12 b0 b1 b2 (qM ta tl tk)));have d:=zC b;clear b;go_enter func121,ntmps121;go_upto_region 1 with fail;generalize World.alloc _ _=i at *;have e:=zC (d.below a.1);have h:=zC a.2.1;have BE:=zC (endEX e g);go_wp2_with fail;refine BE.mono ?_;rintro j k ⟨rfl,rfl⟩;have RR:=zC a.2.2;have f:=zC (a.fin (row:=yg 0 0 0 qN qN));go_wp2_with (refine ZM RR ?_);exact jK results121 RR rfl rfl ⟨rfl,f⟩
end
section
variable {w w':World} {Z:Nat->Prop} {E c:Nat} {x:VX} {M:SS} {K:KX} {kd b0 b1 b2:Int} {ta:Option Addr} {tl tk:Nat} {bs:List Int} {off:Nat}
def Hj(a:EX K w Z E c x M):Calls prog K.fLen #[qO c 0] w λb w'=>b=qQ (qC M.tx.length)/\qY w w':=by have:=K.cLen a.cr;rw[a.tx]at this;exact this
def EX.c6(a:EX K w Z E c x M):w.cell? (qP E 6)=some (.iface K.ty (qO c 0)):=a.ey.blk.cl.2.2.2.2.2.2.1
def EX.len(a:EX K w Z E c x M):M.tx.length<=8192:=by have:=(K.lt a.cr).2;rw[a.tx]at this;exact this
def zB8{a n l}(w)(c:0<=l)(d:l<=1048576){er}(b:(if 0<=a/\a<=l then jH (decide (l<=8192/\n<=8192-l)) 10 else jH false 2)=er):Calls prog 132 #[qC a,qC n,qC l] w λb w'=>b=qQ er/\qY w w':=(Mj a n l w c d).mono (by rintro b w' ⟨rfl,rfl⟩;exact⟨by rw[b],xe _ _⟩)
def zA9{lo hi n}(w){er}(a:jH (decide ((0<=hi/\hi<=n)/\(0<=lo/\lo<=hi))) 2=er):Calls prog 135 #[qC lo,qC hi,qC n] w λa w'=>a=qQ er/\qY w w':=(DZ lo hi n w).mono (by rintro a w' ⟨rfl,rfl⟩;exact⟨by rw[a],xe _ _⟩)
def FT:(∀{b q h k t a j m o e f tk c d}(p:EX j b q h k t a)(w:∀g,qY b g->Rd .u8 g (qM e f tk) c/\W9 g)(C:bytes c)(D:c.length<=1048576)(E:d<=a.tx.length)(ai:0<(ye c).length)(al:a.tx.length+(ye c).length<=8192)(J:a.sp+(ye c).length<=200000)(ay:Vd a.ms)(az:a.un.length<=1000)(a0:a.cp<=1000)(a1:a.gr.length<=100000),AX j 110 b q h k 1 d m o (qM e f tk) 0 ((ye c).length) 0 [] [] (Fo {a with sp:=a.sp+(ye c).length} d d (ye c)))/\(∀{b q h k t a j m o e f tk c d}(p:EX j b q h k t a)(w:∀g,qY b g->Rd .u8 g (qM e f tk) c/\W9 g)(C:bytes c)(D:c.length<=1048576)(E:d<=a.tx.length)(ai:ye c= [])(J:a.sp<=200000),AX j 110 b q h k 1 d m o (qM e f tk) 0 0 0 [] [] a)/\(∀{b q h k t a j}{O:Int}{m o e f tk c}(p:EX j b q h k t a)(w:∀g,qY b g->Rd .u8 g (qM e f tk) c/\W9 g)(C:bytes c)(D:c.length<=1048576)(E:¬ (0<=O/\O<=a.tx.length)),BX 110 b h 1 O m o (qM e f tk) (.iface 109 (qC 2)))/\(∀{b q h k t a j m o e f tk c d}(p:EX j b q h k t a)(w:∀g,qY b g->Rd .u8 g (qM e f tk) c/\W9 g)(C:bytes c)(D:c.length<=1048576)(E:d<=a.tx.length)(J:8192<a.tx.length+(ye c).length),BX 110 b h 1 d m o (qM e f tk) (.iface 109 (qC 10)))/\(∀{b q h k t a j m o e f tk c d}(p:EX j b q h k t a)(w:∀g,qY b g->Rd .u8 g (qM e f tk) c/\W9 g)(C:bytes c)(D:c.length<=1048576)(E:d<=a.tx.length)(al:a.tx.length+(ye c).length<=8192)(a2:a.sp<=200000)(J:¬a.sp+(ye c).length<=200000),BX 110 b h 1 d m o (qM e f tk) (.iface 109 (qC 10))):=by
 refine⟨@λb q h k t a j m o e f tk c d p w C D E ai al J ay az a0 a1=>have P:=zC xB;have ae:=zC xB;?_,@λb q h k t a j m o e f tk c d p w C D E ai J=>have P:=zC xB;have U:=zC xB;?_,@λb q h k t a j O m o e f tk c p w C D E=>have L:=zC xB;have ap:=zC xB;?_,@λb q h k t a j m o e f tk c d p w C D E J=>have ak:=zC xB;have L:=zC xB;have af:=zC xB;?_,@λb q h k t a j m o e f tk c d p w C D E al a2 J=>have ak:=zC xB;have L:=zC xB;have ag:=zC xB;?_⟩
 all_goals
  first
   |(revert P;intro P;unfold AX;have u:=zC (PX.start p (yp 1 d m o (qM e f tk))))
   |(revert ak;intro ak;unfold BX;have u:=zC (PB.start b (yp 1 d m o (qM e f tk))))
   |(unfold BX;have u:=zC (PB.start b (yp 1 O m o (qM e f tk))))
  have bh:=p.lt
  first | (revert P;intro P;have aq:=zC (PB.start b (yp 1 d m o (qM e f tk))).1) | skip
  have bi:=λk b=>(j.mth k b).1
  have bj:=j.ent j.fLen qH
  first | (revert L;intro L;have a7:=zC p) | skip
  clear p;go_enter func110,ntmps110;go_upto_region 1 with fail;generalize World.alloc (World.alloc b _) _=N at *
  first
   |(revert P;intro P;obtain⟨bp,a3⟩:=u.out.1;have I:=zC a3;have Q:=zC u.2.2.2.1;clear a3)
   |(have I:=zC (a7.below u.1);have Q:=zC u.2.1)
  have Y:N.cell? (qP b.heap.size 4)=some (qM e f tk):=c8 4 Q
  first
   |(revert L;intro L;have R:=zC (Ir c (qM e f tk) N (w N u.1).1 C (w N u.1).2 D))
   |(have R:=zC (Ir c (qM e f tk) N (w N aq).1 C (w N aq).2 D))
  generalize ye c=s at *;go_wp2_with fail;refine R.mono ?_;rintro aj z ⟨bd,rfl,F,A⟩;have F:zT z N.heap.size bd s:=F;obtain⟨bq,br,bf⟩:=zX F;subst bf
  first
   |(revert U;intro U;obtain⟨K,ab⟩:=u.out.held A F;have B:=zC K;have ah:=zC ab;obtain⟨am,ac⟩:=K.1;have r:=zC ac;have v:=zC K.2.2.2.1;clear F A R Y K ab ac Q I;subst ai;(have G:=zC (show(if 0<=(d:Int)/\(d:Int)<=a.tx.length then jH (decide (((a.tx.length:Nat):Int)<=8192/\((0:Nat):Int)<=8192-(a.tx.length:Nat))) 10 else jH false 2)= .nilIface from by have:=r.len;rw[xS qF,show decide (((a.tx.length:Nat):Int)<=8192/\(((0:Nat):Nat):Int)<=8192-(a.tx.length:Nat))=true by rw[kV];omega];rfl));have M:z.cell? (qP b.heap.size 1)=some (qC d):=c8 1 v)
   |(revert ae;intro ae;obtain⟨K,ab⟩:=u.out.held A F;have B:=zC K;have ah:=zC ab;obtain⟨am,ac⟩:=K.1;have r:=zC ac;have v:=zC K.2.2.2.1;clear F A R Y K ab ac Q I;(have G:=zC (show(if 0<=(d:Int)/\(d:Int)<=a.tx.length then jH (decide (((a.tx.length:Nat):Int)<=8192/\((s.length:Nat):Int)<=8192-(a.tx.length:Nat))) 10 else jH false 2)= .nilIface from by rw[xS qF,show decide (((a.tx.length:Nat):Int)<=8192/\((s.length:Nat):Int)<=8192-(a.tx.length:Nat))=true by rw[kV];omega];rfl));have M:z.cell? (qP b.heap.size 1)=some (qC d):=c8 1 v)
   |(revert af;intro af;have B:=zC (u.below A);have r:=zC (I.below A);have v:=zC B.2.1;clear F A R Y Q I;have a8:=r.len;(have G:=zC (show(if 0<=(d:Int)/\(d:Int)<=a.tx.length then jH (decide (((a.tx.length:Nat):Int)<=8192/\((s.length:Nat):Int)<=8192-(a.tx.length:Nat))) 10 else jH false 2)=(.iface 109 (qC 10))from by rw[xS qF,show decide (((a.tx.length:Nat):Int)<=8192/\((s.length:Nat):Int)<=8192-(a.tx.length:Nat))=false by rw[QA];omega];rfl));have M:z.cell? (qP b.heap.size 1)=some (qC d):=c8 1 v)
   |(revert ag;intro ag;have B:=zC (u.below A);have r:=zC (I.below A);have v:=zC B.2.1;clear F A R Y Q I;(have G:=zC (show(if 0<=(d:Int)/\(d:Int)<=a.tx.length then jH (decide (((a.tx.length:Nat):Int)<=8192/\((s.length:Nat):Int)<=8192-(a.tx.length:Nat))) 10 else jH false 2)= .nilIface from by rw[xS qF,show decide (((a.tx.length:Nat):Int)<=8192/\((s.length:Nat):Int)<=8192-(a.tx.length:Nat))=true by rw[kV];omega];rfl));have M:z.cell? (qP b.heap.size 1)=some (qC d):=c8 1 v)
   |(have B:=zC (u.below A);have r:=zC (I.below A);have v:=zC B.2.1;clear F A R Y Q I;have a8:=r.len;(have G:=zC (show(if 0<=O/\O<=a.tx.length then jH (decide ((a.tx.length:Int)<=8192/\(s.length:Int)<=8192-a.tx.length)) 10 else jH false 2)=(.iface 109 (qC 2))from by rw[xJ E];rfl));have M:z.cell? (qP b.heap.size 1)=some (qC O):=c8 1 v)
  have a9:=λx y=>cell_regrown M x y
  have ar:=r.c6;have ba:=λx y=>cell_regrown ar x y
  have au:=zC (λx y=>Calls.regrown_of (Hj (r.below (below_regrown z x y))))
  first
   |(revert af;intro af;(have Z:=zC (λx y=>Calls.regrown_of (zB8 (grow (redrawn z x) y) qF qF G))))
   |(revert U;intro U;(have Z:=zC (λx y=>Calls.regrown_of (zB8 (grow (redrawn z x) y) qF (by have:=r.len;omega) G))))
   |(revert ap;intro ap;(have Z:=zC (λx y=>Calls.regrown_of (zB8 (grow (redrawn z x) y) qF qF G))))
   |((have Z:=zC (λx y=>Calls.regrown_of (zB8 (grow (redrawn z x) y) qF qF G))))
  clear M ar;go_wp2_with fail;refine wp_region_quiet_below qI qI ?_
  repeat (quiet_step (first | exact au _ _ | exact Z _ _))
  refine wpQuiet_nil ?_;intro _ bc;obtain⟨⟨a4,a5⟩,bg⟩:=bc;subst bg;have S:=zC (below_regrown z a4 a5);clear a9 ba au Z;generalize grow (redrawn z a4) a5=bn at *;have H:=zC (B.below S)
  first
   |(revert ae;intro ae;obtain⟨an,ad⟩:=H.out.1;have T:=zC (WC ad J);have av:=zC (ah.kk (l:=[]) (KK.of S) (λ_ p=>p));clear ad r v S ah B;(have bk:(0:Int)<s.length:=by omega);(have bl:s.length<=8192:=by omega);go_wp2_with fail;refine T.mono ?_;rintro aj ao ⟨rfl,W,X⟩;have V:=zC (H.same ⟨_,W⟩ X);(have aw:=zC (zBr (off:=d) true W (av.kk X (λ_ p=>p)) ⟨qF,by simp_all,ay⟩ az a0 a1 (XV {a with sp:=a.sp+s.length} d d s) ⟨by simp[XV],rfl,rtx_put _ E,rfl,by simp[XV,OE,Wl]⟩));have M:ao.cell? (qP b.heap.size 1)=some (qC d):=c8 1 V.2.2.2.1;clear W X T H av;go_wp2_with fail;refine aw.mono ?_;rintro aj bs ⟨rfl,hst⟩;rw[<- edS_put]at hst;obtain⟨bt,a6,_⟩:=V.out.step hst;have ax:=zC a6;clear hst a6 aw V M;have RR:=zC ax.2.2.2.2;have aa:=zC (ax.fin0 (x0:=0) (x1:=(s.length:Int)) (x2:=0)))
   |(revert U;intro U;obtain⟨an,ad⟩:=H.out.1;(have T:=zC (WC (n:=0) ad (by simpa using J)));clear ad r v S ah B;go_wp2_with fail;refine T.mono ?_;rintro aj ao ⟨rfl,W,X⟩;have V:=zC (H.same (M2:=a) ⟨_,W⟩ X);clear W X T H;have RR:=zC V.2.2.2.2;have aa:=zC (V.fin0 (x0:=0) (x1:=0) (x2:=0)))
   |(revert ag;intro ag;(have T:=zC (Hi (n:=s.length) (r.below S) a2 qF));clear r v S B G;go_wp2_with fail;refine T.mono ?_;rintro aj ao ⟨rfl,rfl⟩;have RR:=zC H.2.2;have aa:=zC (H.fin (row:=yg 0 0 0 qN qN)))
   |(clear r v S B G;have RR:=zC H.2.2;have aa:=zC (H.fin (row:=yg 0 0 0 qN qN)))
  go_wp2_with (refine ZM RR ?_)
  first
   |(revert L;intro L;exact jK results110 RR rfl rfl ⟨rfl,aa⟩)
   |(exact jK results110 RR rfl rfl aa)
def ins9:=@FT.1
def insE9:=@FT.2.1
def insB9:=@FT.2.2.1
def insF9:=@FT.2.2.2.1
def insG9:=@FT.2.2.2.2
end
section
variable {w w':World} {Z:Nat->Prop} {E c:Nat} {x:VX} {M:SS} {K:KX} {kd b0 b1 b2:Int} {ta:Option Addr} {tl tk:Nat} {ll hh d:Nat}
def del9(X:EX K w Z E c x M)(Y:hh=ll+d)(ak:0<d)(al:hh<=M.tx.length)(am:Vd M.ms)(an:M.un.length<=1000)(ao:M.cp<=1000)(ap:M.gr.length<=100000):AX K 111 w Z E c 2 ll hh b2 (qM ta tl tk) 0 d 0 [] [] (Fo M ll hh []):=by
 unfold AX;have y:=zC (PX.start X (yp 2 ll hh b2 (qM ta tl tk)));have ax:=λc w=>(K.mth c w).1
 have ay:=K.ent K.fLen qH;have f:=zC Y;clear Y;clear X;go_enter func111,ntmps111;go_upto_region 1 with fail;generalize World.alloc (World.alloc w _) _=g at *;obtain⟨a5,aa⟩:=y.out.1;have s:=zC aa;have z:=zC y.2.2.2.1;clear aa;have az:=s.len;have a0:(ll:Int)<hh:=by have:=f.out;omega
 have a1:hh<=8192:=qF
 have L:=zC (show jH (decide ((0<=(hh:Int)/\(hh:Int)<=(M.tx.length:Nat))/\(0<=(ll:Int)/\(ll:Int)<=(hh:Int)))) 2= .nilIface from by rw[show decide ((0<=(hh:Int)/\(hh:Int)<=(M.tx.length:Nat))/\(0<=(ll:Int)/\(ll:Int)<=(hh:Int)))=true by rw[kV];omega];rfl);have j:g.cell? (qP w.heap.size 1)=some (qC ll):=c8 1 z;have k:=λd e=>cell_regrown j d e
 have l:g.cell? (qP w.heap.size 2)=some (qC hh):=c8 2 z;have m:=λd e=>cell_regrown l d e
 have N:=s.c6;have o:=λd e=>cell_regrown N d e
 have O:=zC (λd e=>Calls.regrown_of (Hj (s.below (below_regrown g d e))));have P:=zC (λd e=>Calls.regrown_of (zA9 (grow (redrawn g d) e) L));clear j l N;go_wp2_with fail;refine wp_region_quiet_below qI qI ?_
 repeat (quiet_step (first | exact O _ _ | exact P _ _))
 refine wpQuiet_nil ?_;intro _ aj;obtain⟨⟨ab,ac⟩,aq⟩:=aj;subst aq;have Q:=zC (below_regrown g ab ac);clear k m o O P;generalize grow (redrawn g ab) ac=r at *;have t:=zC (y.below Q);obtain⟨ar,D⟩:=t.out.1;have u:=zC D;have p:=t.2.2.2.1
 have A:=zC (show ∀a:qS,qY r a->(a.cell? (qP w.heap.size 1)=some (qC ll)/\a.cell? (qP w.heap.size 2)=some (qC hh)/\a.cell? (qP E 6)=some (.iface K.ty (qO c 0)))from λa h=>by
  have R:=(h.block _ (qZ.1 p).1).trans p
  exact⟨c9 R rfl,c9 R rfl,(D.below h).c6⟩)
 have j:r.cell? (qP w.heap.size 1)=some (qC ll):=c8 1 p;have l:r.cell? (qP w.heap.size 2)=some (qC hh):=c8 2 p;have a2:=λc w=>(K.mth c w).2.2.2.2.1
 have a3:=K.ent K.fSli qH;clear D p s z Q L;go_upto_region 5 with fail;refine(vZ (n:=6)).1 ?_;refine Yp 12 (λa=>a.cell? (qP w.heap.size 1)=some (qC ll)/\a.cell? (qP w.heap.size 2)=some (qC hh)/\a.cell? (qP E 6)=some (.iface K.ty (qO c 0))) qI ?_;refine te 0 (qO E 0) ?_ ?_
 ·intro a b;go_simp
 go_simp;refine te 1 (qO w.heap.size 1) ?_ ?_
 ·intro a b;go_simp
 go_simp;refine te 2 (qC ll) ?_ ?_
 ·intro a b;obtain⟨k,m,o⟩:=b;go_simp
 go_simp;refine te 3 (qO E 0) ?_ ?_
 ·intro a b;go_simp
 go_simp;refine te 4 (qO E 0) ?_ ?_
 ·intro a b;go_simp
 go_simp;refine te 5 (qO E 6) ?_ ?_
 ·intro a b;go_simp
 go_simp;refine te 6 (.iface K.ty (qO c 0)) ?_ ?_
 ·intro a b;obtain⟨k,m,o⟩:=b;go_simp
 go_simp;refine te 7 (qO w.heap.size 1) ?_ ?_
 ·intro a b;go_simp
 go_simp;refine te 8 (qC ll) ?_ ?_
 ·intro a b;obtain⟨k,m,o⟩:=b;go_simp
 go_simp;refine te 9 (qO w.heap.size 2) ?_ ?_
 ·intro a b;go_simp
 go_simp;refine te 10 (qC hh) ?_ ?_
 ·intro a b;obtain⟨k,m,o⟩:=b;go_simp
 go_simp;obtain⟨ad,h⟩:∃a,a=r.drew:=⟨_,rfl⟩
 rw[<- h];have q:=zC (show qY r ad from by rw[h];exact⟨rfl,rfl,rfl,lR,λ_ _=>rfl⟩);clear h j l
 have S:=zC (by
  have:=K.cSli (lo:=ll) (hi:=hh) (u.below q).cr qF (by rw[u.out.tx];exact al)
  rw[u.out.tx]at this;exact this)
 refine one 11 (A ad q) ?_;gi_wp2_with fail;refine⟨xB,(vn.2 S).mono ?_⟩;rintro au av ⟨a6,rfl,F,G⟩;have ah:=zC (q.trans (G.mono q.size));obtain⟨a7,a8,ae⟩:=zX F;obtain⟨H,I⟩:=(t.below q).held G F;have B:((M.tx.take hh).drop ll).length=d:=by rw[xz,xi];have:=f.out;omega
 obtain⟨C,J⟩:∃C,C=(M.tx.take hh).drop ll:=⟨_,rfl⟩
 rw[<- J]at ae I B;subst ae;obtain⟨aw,af⟩:=H.1;have T:=zC H;have U:=zC (zBr (off:=ll) false af I ⟨qF,by simp;have:=f.out;omega,am⟩ an ao ap (XV M ll hh []) ⟨by simp[XV];have:=f.out;omega,rfl,by rw[rtx_cut M qF,J],rfl,by simp[XV,OE,Wl,show ¬hh=ll by omega,show((hh:Int)-ll)=C.length by have:=f.out;omega]⟩);have V:=zC B;clear H I af F G J B S;gi_wp2_with fail;refine fin (A av ah) ?_;gi_wp2_with fail;refine⟨xB,(vn.2 U).mono ?_⟩;rintro au ag ⟨rfl,hst⟩;rw[<- edS_cut M (by have:=f.out;rw[V.out];exact this) (by rw[V.out];exact ak)]at hst;obtain⟨a9,v,_⟩:=T.out.step hst;have W:=zC v;have j:ag.cell? (qP w.heap.size 1)=some (qC ll):=c8 1 v.2.2.2.1;have l:ag.cell? (qP w.heap.size 2)=some (qC hh):=c8 2 v.2.2.2.1;clear hst v U T t A u;gi_wp2_with fail;have a4:IntKind.i64.wrap (hh-ll)=d:=by have:=f.out;rw[vA];omega
 have RR:=zC W.2.2.2.2;have ai:=zC (W.fin0 (x0:=0) (x1:=d) (x2:=0));go_wp2_with (refine ZM RR ?_);exact jK results111 RR rfl rfl ai
def delE9(r:EX K w Z E c x M)(H:ll<=M.tx.length):AX K 111 w Z E c 2 ll ll b2 (qM ta tl tk) 0 0 0 [] [] M:=by
 unfold AX;have g:=zC (PX.start r (yp 2 ll ll b2 (qM ta tl tk)));have D:=λc w=>(K.mth c w).1
 have F:=K.ent K.fLen qH;clear r;go_enter func111,ntmps111;go_upto_region 1 with fail;generalize World.alloc (World.alloc w _) _=b at *;obtain⟨I,s⟩:=g.out.1;have e:=zC s;have h:=zC g.2.2.2.1;clear s;have G:=e.len;have l:=zC (show jH (decide ((0<=(ll:Int)/\(ll:Int)<=(M.tx.length:Nat))/\(0<=(ll:Int)/\(ll:Int)<=(ll:Int)))) 2= .nilIface from by rw[show decide ((0<=(ll:Int)/\(ll:Int)<=(M.tx.length:Nat))/\(0<=(ll:Int)/\(ll:Int)<=(ll:Int)))=true by simp_all];rfl);have j:b.cell? (qP w.heap.size 1)=some (qC ll):=c8 1 h;have v:=λd a=>cell_regrown j d a
 have k:b.cell? (qP w.heap.size 2)=some (qC ll):=c8 2 h;have y:=λd a=>cell_regrown k d a
 have m:=e.c6;have z:=λd a=>cell_regrown m d a
 have n:=zC (λd a=>Calls.regrown_of (Hj (e.below (below_regrown b d a))));have o:=zC (λd a=>Calls.regrown_of (zA9 (grow (redrawn b d) a) l));clear j k m;go_wp2_with fail;refine wp_region_quiet_below qI qI ?_
 repeat (quiet_step (first | exact n _ _ | exact o _ _))
 refine wpQuiet_nil ?_;intro _ B;obtain⟨⟨t,u⟩,C⟩:=B;subst C;have p:=zC (below_regrown b t u);clear v y z n o;generalize grow (redrawn b t) u=q at *;have f:=zC (g.below p);have j:q.cell? (qP w.heap.size 1)=some (qC ll):=c8 1 f.2.2.2.1;have k:q.cell? (qP w.heap.size 2)=some (qC ll):=c8 2 f.2.2.2.1;clear e h p l;have RR:=zC f.2.2.2.2;have A:=zC (f.fin0 (x0:=0) (x1:=0) (x2:=0));go_wp2_with (refine ZM RR ?_);exact jK results111 RR rfl rfl A
def Ioo:(∀{a s h q t c j e}{b:Int}{k l m tk}(u:EX j a s h q t c)(A:¬ ((0<=b/\b<=c.tx.length)/\(0<=e/\e<=b))),BX 111 a h 2 e b k (qM l m tk) (.iface 109 (qC 2)))/\(∀{a s h q t c j e}{b:Int}{k l m tk}(u:EX j a s h q t c)(A:¬ ((0<=b/\b<=c.tx.length)/\(0<=e/\e<=b))),BX 112 a h 3 e b k (qM l m tk) (.iface 109 (qC 2)))/\(∀{a s h q t c j k l m tk g f}{d:Nat}(u:EX j a s h q t c)(H:f=g+d)(A:f<=c.tx.length)(N:c.sp<=200000)(W:¬c.sp+d<=200000),BX 112 a h 3 g f k (qM l m tk) (.iface 109 (qC 10))):=by
 refine⟨@λa s h q t c j e b k l m tk u A=>have v:=zC xB;have w:=zC xB;?_,@λa s h q t c j e b k l m tk u A=>have w:=zC xB;?_,@λa s h q t c j k l m tk g f d u H A N W=>have p:=zC xB;?_⟩
 all_goals
  unfold BX
  first
   |(revert p;intro p;have x:=zC (PB.start a (yp 3 g f k (qM l m tk))))
   |(revert v;intro v;have x:=zC (PB.start a (yp 2 e b k (qM l m tk))))
   |(have x:=zC (PB.start a (yp 3 e b k (qM l m tk))))
  have Y:=λq a=>(j.mth q a).1
  have Z:=j.ent j.fLen qH
  first | (revert p;intro p;have I:=zC H;clear H) | skip
  have Q:=zC u;clear u
  first
   |(revert v;intro v;go_enter func111,ntmps111)
   |(go_enter func112,ntmps112)
  go_upto_region 1 with fail;generalize World.alloc (World.alloc a _) _=r at *;have y:=zC (Q.below x.1);have z:=zC x.2.1;have aa:=y.len
  first
   |(revert p;intro p;(have ab:f<=8192:=by omega);(have ac:g<=f:=by have:=I.out;omega);(have ad:IntKind.i64.wrap (f-g)=d:=by have:=I.out;rw[vA];omega);(have B:=zC (show jH (decide ((0<=(f:Int)/\(f:Int)<=(c.tx.length:Nat))/\(0<=(g:Int)/\(g:Int)<=(f:Int)))) 2= .nilIface from by rw[show decide ((0<=(f:Int)/\(f:Int)<=(c.tx.length:Nat))/\(0<=(g:Int)/\(g:Int)<=(f:Int)))=true by simp_all];rfl));have C:r.cell? (qP a.heap.size 1)=some (qC g):=c8 1 z)
   |((have B:=zC (show jH (decide ((0<=(b:Int)/\(b:Int)<=(c.tx.length:Nat))/\(0<=(e:Int)/\(e:Int)<=(b:Int)))) 2=(.iface 109 (qC 2))from by rw[show decide ((0<=(b:Int)/\(b:Int)<=(c.tx.length:Nat))/\(0<=(e:Int)/\(e:Int)<=(b:Int)))=false by simp_all];rfl));have C:r.cell? (qP a.heap.size 1)=some (qC e):=c8 1 z)
  have R:=λd o=>cell_regrown C d o
  first
   |(revert w;intro w;have D:r.cell? (qP a.heap.size 2)=some (qC b):=c8 2 z)
   |(have D:r.cell? (qP a.heap.size 2)=some (qC f):=c8 2 z)
  have S:=λd o=>cell_regrown D d o
  have J:=y.c6;have T:=λd o=>cell_regrown J d o
  have K:=zC (λd o=>Calls.regrown_of (Hj (y.below (below_regrown r d o))))
  first
   |(revert w;intro w;have F:=zC (λd o=>Calls.regrown_of (zA9 (grow (redrawn r d) o) B)))
   |(have F:=zC (λd o=>Calls.regrown_of (zA9 (grow (redrawn r d) o) B)))
  clear C D J;go_wp2_with fail;refine wp_region_quiet_below qI qI ?_
  repeat (quiet_step (first | exact K _ _ | exact F _ _))
  refine wpQuiet_nil ?_;intro _ V;obtain⟨⟨O,P⟩,X⟩:=V;subst X;have G:=zC (below_regrown r O P);clear R S T K F;generalize grow (redrawn r O) P=M at *;have E:=zC (x.below G)
  first | (revert p;intro p;have C:M.cell? (qP a.heap.size 1)=some (qC g):=c8 1 E.2.1;have D:M.cell? (qP a.heap.size 2)=some (qC f):=c8 2 E.2.1;(have U:=zC (Hi (n:=d) (y.below G) N qF))) | skip
  clear y z G B
  first | (revert p;intro p;go_wp2_with fail;refine U.mono ?_;rintro ae af ⟨rfl,rfl⟩) | skip
  have RR:=zC E.2.2;have L:=zC (E.fin (row:=yg 0 0 0 qN qN));go_wp2_with (refine ZM RR ?_)
  first
   |(revert v;intro v;exact jK results111 RR rfl rfl ⟨rfl,L⟩)
   |(exact jK results112 RR rfl rfl ⟨rfl,L⟩)
def delB9:=@Ioo.1
def sliB9:=@Ioo.2.1
def sliF9:=@Ioo.2.2
def sli9(V:EX K w Z E c x M)(av:hh=ll+d)(W:hh<=M.tx.length)(bc:M.sp+d<=200000):AX K 112 w Z E c 3 ll hh b2 (qM ta tl tk) 0 0 0 ((M.tx.drop ll).take (hh-ll)) [] {M with sp:=M.sp+d,lg:=M.lg++ [⟨4,ll,0,[]⟩]}:=by
 unfold AX;have H:=zC (PX.start V (yp 3 ll hh b2 (qM ta tl tk)));have bf:=V.lt;have bg:=λc w=>(K.mth c w).1
 have bh:=K.ent K.fLen qH;have I:=zC av;clear av;clear V;go_enter func112,ntmps112;go_upto_region 1 with fail;generalize World.alloc (World.alloc w _) _=m at *;obtain⟨br,aw⟩:=H.out.1;have u:=zC aw;have J:=zC H.2.2.2.1;clear aw;have bi:=u.len;have bj:hh<=8192:=qF
 have L:ll<=hh:=by have:=I.out;omega
 have a3:IntKind.i64.wrap (hh-ll)=d:=by have:=I.out;rw[vA];omega
 have af:=zC (show jH (decide ((0<=(hh:Int)/\(hh:Int)<=(M.tx.length:Nat))/\(0<=(ll:Int)/\(ll:Int)<=(hh:Int)))) 2= .nilIface from by rw[show decide ((0<=(hh:Int)/\(hh:Int)<=(M.tx.length:Nat))/\(0<=(ll:Int)/\(ll:Int)<=(hh:Int)))=true by simp_all];rfl);have v:m.cell? (qP w.heap.size 1)=some (qC ll):=c8 1 J;have y:=λd b=>cell_regrown v d b
 have z:m.cell? (qP w.heap.size 2)=some (qC hh):=c8 2 J;have A:=λd b=>cell_regrown z d b
 have o:=u.c6;have h:=λd b=>cell_regrown o d b
 have ag:=zC (λd b=>Calls.regrown_of (Hj (u.below (below_regrown m d b))));have ah:=zC (λd b=>Calls.regrown_of (zA9 (grow (redrawn m d) b) af));clear v z o;go_wp2_with fail;refine wp_region_quiet_below qI qI ?_
 repeat (quiet_step (first | exact ag _ _ | exact ah _ _))
 refine wpQuiet_nil ?_;intro _ U;obtain⟨⟨q,r⟩,X⟩:=U;subst X;have j:=zC (below_regrown m q r);clear y A h ag ah;generalize grow (redrawn m q) r=aq at *;have p:=zC (H.below j);obtain⟨bd,ax⟩:=p.out.1;have ai:=zC (WC ax bc);have v:aq.cell? (qP w.heap.size 1)=some (qC ll):=c8 1 p.2.2.2.1;have z:aq.cell? (qP w.heap.size 2)=some (qC hh):=c8 2 p.2.2.2.1;clear ax u J j af;go_wp2_with fail;refine ai.mono ?_;rintro C Y ⟨rfl,D,ay⟩;have N:=zC (p.same ⟨_,D⟩ ay);have aj:=zC D;have bk:=λc w=>(K.mth c w).2.2.2.2.2.2.1
 have bl:=K.ent K.fCol qH;have bn:=λc w=>(K.mth c w).2.2.2.2.1
 have bp:=K.ent K.fSli qH;have z3:Y.cell? (qP w.heap.size 1)=some (qC ll):=c8 1 N.2.2.2.1;have o:=D.c6;have a4:=λd b=>cell_regrown z3 d b
 have h:=λd b=>cell_regrown o d b
 clear D ay ai p v z a3;go_upto_region 6 with fail;refine(vZ (n:=6)).1 ?_;refine zM 6 qI qI ?_;simp only[vc,vY,vE,vz];clear z3 o
 repeat (refine wpQuietIn_step (λ_ _ _ _=>trivial) (λK ar=>?_);go_simp;first | (refine ar _ ?_;clear ar K))
 refine wpQuietIn_nil ?_;intro _ U;obtain⟨⟨q,r⟩,X⟩:=U;subst X;have j:=zC (below_regrown Y q r);clear a4 h;generalize grow (redrawn Y q) r=bq at *;have ak:=zC (N.below j);have f:=zC (aj.below j);have al:=zC (K.cCol f.cr f.ey.zl (by rw[f.out.tx];exact vC L W));clear N aj j;gi_wp2_with fail;refine⟨xB,(vn.2 al).mono ?_⟩;rintro C F ⟨rfl,az,aa⟩;have k:=zC (f.core (l:=⟨4,ll,0,[]⟩) (T:=M.tx) aa az (by simp[KX.app]) (by rw[K.tSee f.out.cr (by rw[f.out.tx];exact vC L W)];exact f.tx));have O:=zC (ak.same (M2:={M with sp:=M.sp+d,lg:=M.lg++ [⟨4,ll,0,[]⟩]}) ⟨_,k⟩ (aa.weak qG));clear az aa al ak f;gi_wp2_with fail;have P:=O.2.2.2.1
 have Q:=zC (show ∀a:qS,a.heap[w.heap.size]? =F.heap[w.heap.size]?->a.heap[E]? =F.heap[E]?->(a.cell? (qP w.heap.size 1)=some (qC ll)/\a.cell? (qP w.heap.size 2)=some (qC hh)/\a.cell? (qP E 6)=some (.iface K.ty (qO c 0)))from λa a7 a8=>by
  have am:=a7.trans P
  exact⟨c9 am rfl,c9 am rfl,(xq a8).trans k.c6⟩)
 have R:=zC (qZ.1 P).1;have S:=k.lt;clear P;go_upto_region 7 with fail;refine(vZ (n:=6)).1 ?_;refine Yp 11 (λa=>a.cell? (qP w.heap.size 1)=some (qC ll)/\a.cell? (qP w.heap.size 2)=some (qC hh)/\a.cell? (qP E 6)=some (.iface K.ty (qO c 0))) qI ?_;refine te 0 (qO E 0) ?_ ?_
 ·intro a e;go_simp
 go_simp;refine te 1 (qO E 0) ?_ ?_
 ·intro a e;go_simp
 go_simp;refine te 2 (qO E 6) ?_ ?_
 ·intro a e;go_simp
 go_simp;refine te 3 (.iface K.ty (qO c 0)) ?_ ?_
 ·intro a e;obtain⟨y,A,h⟩:=e;go_simp
 go_simp;refine te 4 (qO w.heap.size 1) ?_ ?_
 ·intro a e;go_simp
 go_simp;refine te 5 (qC ll) ?_ ?_
 ·intro a e;obtain⟨y,A,h⟩:=e;go_simp
 go_simp;refine te 6 (qO w.heap.size 2) ?_ ?_
 ·intro a e;go_simp
 go_simp;refine te 7 (qC hh) ?_ ?_
 ·intro a e;obtain⟨y,A,h⟩:=e;go_simp
 go_simp;obtain⟨s,ab⟩:∃a,a=F.drew:=⟨_,rfl⟩
 rw[<- ab];have g:=zC (show qY F s from by rw[ab];exact⟨rfl,rfl,rfl,lR,λ_ _=>rfl⟩);clear ab
 have an:=zC (show Calls prog K.fSli #[qO c 0,qC ll,qC hh] s λC w'=>∃au,C=qQ au/\zT w' s.heap.size au ((M.tx.take hh).drop ll)/\qY s w' from by
  have:=K.cSli (k.below g).cr L (by rw[k.out.tx];exact W)
  rw[k.out.tx]at this;exact this)
 refine one 8 (Q s (g.block _ R) (g.block _ S)) ?_;gi_wp2_with fail;refine⟨xB,(vn.2 an).mono ?_⟩;rintro C G ⟨bs,rfl,t,ac⟩;have B:=zC (g.trans (ac.mono g.size));rw[List.drop_take]at t;obtain⟨ad,ae,a0⟩:=zX t;obtain⟨a1,a2⟩:=(O.below g).held ac t;have ao:((M.tx.drop ll).take (hh-ll)).length=d:=by rw[xi,xz];have:=I.out;omega
 rw[ao]at a0;subst a0;have ap:=zC a1;have a5:=zC (And.intro (show zT G w.heap.size (qM ad d ae) ((M.tx.drop ll).take (hh-ll))from zF t (by have:=O.2.1.size;have:=g.size;omega)) (λa9 ba=>a2.2 a9 ba));clear a1 a2 t ac an ao;gi_wp2_with fail;refine te 9 (.agg (yg 0 0 0 (qM ad d ae) qN)) ?_ ?_
 ·intro a e;go_simp
 go_simp;have RR:=zC ap.2.2.2.2;have a6:=zC (ap.fin (x0:=0) (x1:=0) (x2:=0) (ms:=[]) a5 (xR _ _ _ _));refine one 10 (Q G (B.block _ R) (B.block _ S)) ?_;refine zR rfl 81 _ _ rfl (w.heap.size+1) _ (yg 0 0 0 (qM ad d ae) qN) 81 rfl rfl RR qI rfl (by simp[Value.oneCell']) ?_;refine kl ?_;go_simp;refine fin (Q _ ((vG G _ _ _ qF).trans (B.block _ R)) ((vG G _ _ _ qF).trans (B.block _ S))) ?_;gi_wp2_with fail;go_wp2_with fail;exact jK results112 RR rfl rfl a6
end
section
variable {w w':World} {Z:Nat->Prop} {E c:Nat} {x:VX} {M:SS} {K:KX} {kd b0 b1 b2:Int} {ta:Option Addr} {tl tq:Nat} {off line o:Nat}
def FU:ByteArray:=⟨#[112,108,97,99,105,110,103,32,97,110,32,111,102,102,115,101,116]⟩
def Hk:ByteArray:=⟨#[102,105,110,100,105,110,103,32,97,32,112,108,97,99,101]⟩
def Hl{v lo hi k}(w){er}(a:jH (decide (lo<=v/\v<=hi)) k=er):Calls prog 75 #[qC v,qC lo,qC hi,qC k] w λa w'=>a=qQ er/\w'=w:=(Ja v lo hi k w).mono (by simp_all)
def FV{p}[Decidable p]{k}(a:p):jH (decide p) k= .nilIface:=by rw[decide_eq_true a];rfl
def Ml{p}[Decidable p]{k}(a:¬p):jH (decide p) k= .iface 109 (qC k):=by rw[decide_eq_false a];rfl
def brkQ(a:EX K w Z E c x M):Calls prog K.fBrk #[qO c 0] w λb w'=>b=qQ (qC (js M.tx))/\qY w w':=by have:=K.cBrk a.cr;rw[a.tx]at this;exact this
def placeX(b:EX K w Z E c x M)(h:off<=M.tx.length):Calls prog 136 #[.iface K.ty (qO c 0),qC off] w λd w'=>d=qQ (.tuple #[qC (Yi M.tx off),qC (JD M.tx off),.nilIface])/\EX K w' Z E c x {M with lg:=M.lg++ [⟨4,off,0,[]⟩]}/\KK WL Z w w':=by
 have u:=λc w=>(K.mth c w).1
 have y:=K.ent K.fLen qH;have z:=λc w=>(K.mth c w).2.2.2.2.2.2.1
 have A:=K.ent K.fCol qH;have LE:=zC (Hj b);have m:=zC (λs=>Hl s (v:=off) (lo:=0) (hi:=M.tx.length) (k:=2) (FV qF));have n:=zC b;clear b;go_enter func136,ntmps136;go_wp2_with fail;refine LE.mono ?_;rintro d t ⟨rfl,f⟩;have a:=zC (n.below f);have o:=zC (KK.of (l:=WL) (Z:=Z) f);have e:=zC (K.cCol a.cr a.ey.zl (by rw[a.out.tx];exact h));rw[a.out.tx]at e;clear f LE;go_wp2_with fail;refine(m t).mono ?_;rintro d B ⟨rfl,i⟩;have p:=i.symm;subst p;clear i;go_wp2_with fail;refine e.mono ?_;rintro d C ⟨rfl,j,g⟩;have q:=zC (a.core (l:=⟨4,off,0,[]⟩) (T:=M.tx) g j (by simp[KX.app]) (by rw[K.tSee a.out.cr (by rw[a.out.tx];exact h)];exact a.tx));have r:=zC (o.trans g (λ_ b=>b));clear j g e;go_wp2;exact vg (by simp[results,go_sem]) rfl ⟨rfl,q,r⟩
def placeN{b:Int}(d:EX K w Z E c x M)(l:¬ (0<=b/\b<=M.tx.length)):Calls prog 136 #[.iface K.ty (qO c 0),qC b] w λa w'=>a=qQ (.tuple #[qC 0,qC 0,.iface 131 (.agg #[.string FU,.iface 109 (qC 2)])])/\qY w w':=by
 have n:=λc w=>(K.mth c w).1
 have o:=K.ent K.fLen qH;have LE:=zC (Hj d);have g:=zC (λj=>Hl j (k:=2) (Ml l));clear d;go_enter func136,ntmps136;go_wp2_with fail;refine LE.mono ?_;rintro a m ⟨rfl,e⟩;have h:=zC e;clear e LE;go_wp2_with fail;refine(g m).mono ?_;rintro a p ⟨rfl,f⟩;have i:=f.symm;subst i;clear f;go_wp2;exact vg (by simp[results,FU]) rfl ⟨rfl,h⟩
def offX{col}(a:EX K w Z E c x M)(h:Zd M.tx line col=o):Calls prog 137 #[.iface K.ty (qO c 0),qC line,qC col] w λd w'=>d=qQ (.tuple #[qC o,.nilIface])/\EX K w' Z E c x {M with lg:=M.lg++ [⟨5,line,0,[]⟩]}/\KK WL Z w w':=by
 have J:=λc w=>(K.mth c w).2.1
 have L:=K.ent K.fBrk qH;have N:=λc w=>(K.mth c w).2.2.2.2.2.2.2.1
 have O:=K.ent K.fOff qH;have P:=λc w=>(K.mth c w).2.2.2.2.2.2.2.2
 have Q:=K.ent K.fLin qH;have e:=K.brkO a.cr (by rw[a.tx,h];omega);rw[a.tx]at e;have LE:=zC (brkQ a);have u:=zC (λG=>Hl G (k:=3) (FV e));have v:=zC a;have n:=zC h;clear a h;go_enter func137,ntmps137;go_wp2_with fail;refine LE.mono ?_;rintro d H ⟨rfl,i⟩;have f:=zC (v.below i);have y:=zC (KK.of (l:=WL) (Z:=Z) i);have g:=zC (K.cLin f.cr (by rw[f.out.tx];exact e.2));rw[f.out.tx]at g;clear i LE;go_wp2_with fail;refine(u H).mono ?_;rintro d R ⟨rfl,q⟩;have z:=q.symm;subst z;clear q;go_wp2_with fail;refine g.mono ?_;rintro d I ⟨S,rfl,U,r,j⟩;have A:=(r col).1 (by rw[n.out];omega);have b:=zC (f.below j);have B:=zC (y.trans (KK.of j) (λ_ a=>a));have C:=zC (Hl I (k:=3) (FV A));have p:=zC (K.cOff b.cr b.ey.zl (by rw[b.out.tx];exact n));clear r j g;go_wp2_with fail;refine C.mono ?_;rintro d V ⟨rfl,s⟩;have D:=s.symm;subst D;clear s;go_wp2_with fail;refine p.mono ?_;rintro d W ⟨rfl,t,m⟩;have F:=zC (b.core (l:=⟨5,line,0,[]⟩) (T:=M.tx) m t (by simp[KX.app]) (by rw[K.tKno b.out.cr (by rw[b.out.tx];exact e.2)];exact b.tx));have K5:=zC (B.trans m (λ_ a=>a));clear t m p;go_wp2;exact vg (by simp[results,go_sem]) rfl ⟨rfl,F,K5⟩
def offN{line col}(m:EX K w Z E c x M)(p:Zd M.tx line col<0):Calls prog 137 #[.iface K.ty (qO c 0),qC line,qC col] w λa w'=>a=qQ (.tuple #[qC 0,.iface 131 (.agg #[.string Hk,.iface 109 (qC 3)])])/\qY w w':=by
 have H:=λc w=>(K.mth c w).2.1
 have I:=K.ent K.fBrk qH;have J:=λc w=>(K.mth c w).2.2.2.2.2.2.2.2
 have L:=K.ent K.fLin qH;have LE:=zC (brkQ m);have t:=zC m;have u:=zC p;clear m p;by_cases j:0<=line/\line<=js M.tx
 ·have f:=zC (λl=>Hl l (k:=3) (FV j))
  obtain⟨o,C⟩:∃o:Nat,line=o:=⟨line.toNat,qF⟩
  subst C;go_enter func137,ntmps137;go_wp2_with fail;refine LE.mono ?_;rintro a n ⟨rfl,b⟩;have g:=zC (t.below b);have e:=zC b;have h:=zC (K.cLin g.cr (by rw[g.out.tx];exact j.2));rw[g.out.tx]at h;clear b LE;go_wp2_with fail;refine(f n).mono ?_;rintro a D ⟨rfl,d⟩;have i:=d.symm;subst i;clear d;go_wp2_with fail;refine h.mono ?_;rintro a F ⟨G,rfl,N,q,r⟩;have v:¬ (0<=col/\col<=G):=λB=>by have:=(q col).2 B;have:=u.out;omega
  have y:=zC (e.trans (r.mono e.size));have z:=zC (Hl F (k:=3) (Ml v));clear q r h;go_wp2_with fail;refine z.mono ?_;rintro a O ⟨rfl,s⟩;have A:=s.symm;subst A;clear s;go_wp2;exact vg (by simp[results,Hk]) rfl ⟨rfl,y⟩
 have f:=zC (λl=>Hl l (k:=3) (Ml j));go_enter func137,ntmps137;go_wp2_with fail;refine LE.mono ?_;rintro a n ⟨rfl,b⟩;have e:=zC b;clear b LE;go_wp2_with fail;refine(f n).mono ?_;rintro a D ⟨rfl,d⟩;have i:=d.symm;subst i;clear d;go_wp2;exact vg (by simp[results,Hk]) rfl ⟨rfl,e⟩
theorem zB9:(∀ {w} {Z} {E} {c} {x} {M} {K} {b1} {b2} {ta} {tl} {tq} {off} (l:EX K w Z E c x M) (m:off<=M.tx.length),AX K 113 w Z E c 4 off b1 b2 (.slice ta tl tq) 0 (Yi M.tx off) (JD M.tx off) [] [] {M with lg:=M.lg++ [⟨4,off,0,[]⟩]})∧(∀ {w} {Z} {E} {c} {x} {M} {K} {b0:Int} {b1} {b2} {ta} {tl} {tq} (l:EX K w Z E c x M) (m:¬ (0<=b0∧b0<=M.tx.length)),BX 113 w E 4 b0 b1 b2 (.slice ta tl tq) (.iface 131 (.agg #[.string FU,.iface 109 (.int .i64 2)])))∧(∀ {w} {Z} {E} {c} {x} {M} {K} {b1} {b2} {ta} {tl} {tq} {line:Nat} {o:Nat} (l:EX K w Z E c x M) (m:Zd M.tx line b1=o),AX K 114 w Z E c 5 line b1 b2 (.slice ta tl tq) 0 o 0 [] [] {M with lg:=M.lg++ [⟨5,line,0,[]⟩]})∧(∀ {w} {Z} {E} {c} {x} {M} {K} {b0} {b1} {b2} {ta} {tl} {tq} (l:EX K w Z E c x M) (m:Zd M.tx b0 b1<0),BX 114 w E 5 b0 b1 b2 (.slice ta tl tq) (.iface 131 (.agg #[.string Hk,.iface 109 (.int .i64 3)]))):=by
 refine⟨@fun w Z E c x M K b1 b2 ta tl tq off l m=>have a:=zC xB;have H:=zC xB;have I:=zC xB;?_,@fun w Z E c x M K b0 b1 b2 ta tl tq l m=>have d:=zC xB;have A:=zC xB;have H:=zC xB;?_,@fun w Z E c x M K b1 b2 ta tl tq line o l m=>have g1:=zC xB;have g:=zC xB;have I:=zC xB;?_,@fun w Z E c x M K b0 b1 b2 ta tl tq l m=>have A:=zC xB;have f:=zC xB;have g:=zC xB;?_⟩
 all_goals
  first
   |(revert g1;intro g1;unfold AX;have h:=zC (PX.start l (yp 5 line b1 b2 (.slice ta tl tq))))
   |(revert a;intro a;unfold AX;have h:=zC (PX.start l (yp 4 off b1 b2 (.slice ta tl tq))))
   |(revert d;intro d;unfold BX;have h:=zC (PB.start w (yp 4 b0 b1 b2 (.slice ta tl tq))))
   |(unfold BX;have h:=zC (PB.start w (yp 5 b0 b1 b2 (.slice ta tl tq))))
  first
   |(revert g1;intro g1)
   |(revert a;intro a)
   |(skip)
  first | (revert A;intro A;have R:=zC l) | skip
  clear l
  first
   |(revert H;intro H;go_enter func113,ntmps113)
   |(go_enter func114,ntmps114)
  go_upto_region 1 with fail
  generalize World.alloc _ _=s at *
  first
   |(revert g1;intro g1;obtain⟨T,B⟩:=h.out.1;have u:=zC B;have j:=zC h.out.2.2.2.1;clear B;have p:=zC (show ∀y:World,y.heap[w.heap.size]? =s.heap[w.heap.size]?->y.cell? _=some (.iface K.ty (.pointer (some ⟨c,0,none⟩)))->(y.cell? _=some (.int _ line)∧y.cell? _=some (.int _ b1)∧y.cell? ⟨E,6,none⟩=some _)from fun y r t=>⟨c9 (i:=1) (r.trans j.out) rfl,c9 (i:=2) (r.trans j.out) rfl,t⟩))
   |(revert f;intro f;have u:=zC (R.out.below h.out.1);have j:=zC h.out.2.1;have p:=zC (show ∀y:World,y.heap[w.heap.size]? =s.heap[w.heap.size]?->y.cell? ⟨E,6,none⟩=some (.iface K.ty (.pointer (some ⟨c,0,none⟩)))->(y.cell? _=some (.int _ b0)∧y.cell? _=some (.int _ b1)∧y.cell? _=some _)from fun y r t=>⟨c9 (i:=1) (r.trans j.out) rfl,c9 (i:=2) (r.trans j.out) rfl,t⟩))
   |(revert a;intro a;obtain⟨T,B⟩:=h.out.1;have u:=zC B;have j:=zC h.out.2.2.2.1;clear B;have p:=zC (show ∀y:World,y.heap[w.heap.size]? =s.heap[w.heap.size]?->y.cell? ⟨E,6,none⟩=some _->(y.cell? _=some (.int _ off)∧y.cell? _=some (.iface K.ty (.pointer (some ⟨c,0,none⟩))))from fun y r t=>⟨c9 (i:=1) (r.trans j.out) rfl,t⟩))
   |(have u:=zC (R.out.below h.out.1);have j:=zC h.out.2.1;have p:=zC (show ∀y:World,y.heap[w.heap.size]? =s.heap[w.heap.size]?->y.cell? ⟨E,6,none⟩=some _->(y.cell? _=some (.int _ b0)∧y.cell? _=some (.iface K.ty (.pointer (some ⟨c,0,none⟩))))from fun y r t=>⟨c9 (i:=1) (r.trans j.out) rfl,t⟩))
  refine(vZ (n:=6)).1 ?_
  first
   |(revert g1;intro g1;(refine yf (fun y=>y.cell? ⟨w.heap.size,1,none⟩=some (.int .i64 line)∧y.cell? ⟨w.heap.size,2,none⟩=some (.int .i64 b1)∧y.cell? ⟨E,6,none⟩=some (.iface K.ty (.pointer (some ⟨c,0,none⟩)))) (by kernel_rfl) ?_))
   |(revert f;intro f;(refine yf (fun y=>y.cell? ⟨w.heap.size,1,none⟩=some (.int .i64 b0)∧y.cell? ⟨w.heap.size,2,none⟩=some (.int .i64 b1)∧y.cell? ⟨E,6,none⟩=some (.iface K.ty (.pointer (some ⟨c,0,none⟩)))) (by kernel_rfl) ?_))
   |(revert a;intro a;(refine yf (fun y=>y.cell? ⟨w.heap.size,1,none⟩=some (.int .i64 off)∧y.cell? ⟨E,6,none⟩=some (.iface K.ty (.pointer (some ⟨c,0,none⟩)))) (by kernel_rfl) ?_))
   |((refine yf (fun y=>y.cell? ⟨w.heap.size,1,none⟩=some (.int .i64 b0)∧y.cell? ⟨E,6,none⟩=some (.iface K.ty (.pointer (some ⟨c,0,none⟩)))) (by kernel_rfl) ?_))
  refine tk 0 (.pointer (some ⟨E,0,none⟩)) ?_ ?_
  ·first
    |(revert g;intro g;intro y b;go_simp)
    |(intro y b;go_simp)
  go_simp;refine tk 1 (.pointer (some ⟨E,0,none⟩)) ?_ ?_
  ·first
    |(revert g;intro g;intro y b;go_simp)
    |(intro y b;go_simp)
  go_simp;refine tk 2 (.pointer (some ⟨E,6,none⟩)) ?_ ?_
  ·first
    |(revert g;intro g;intro y b;go_simp)
    |(intro y b;go_simp)
  go_simp;refine tk 3 (.iface K.ty (.pointer (some ⟨c,0,none⟩))) ?_ ?_
  ·first
    |(revert g;intro g;intro y b;obtain⟨L,U,N⟩:=b;go_simp)
    |(intro y b;obtain⟨L,N⟩:=b;go_simp)
  go_simp;refine tk 4 (.pointer (some ⟨w.heap.size,1,none⟩)) ?_ ?_
  ·first
    |(revert g;intro g;intro y b;go_simp)
    |(intro y b;go_simp)
  go_simp
  first
   |(revert g1;intro g1;refine tk 5 (.int .i64 line) ?_ ?_)
   |(revert a;intro a;refine tk 5 (.int .i64 off) ?_ ?_)
   |(refine tk 5 (.int .i64 b0) ?_ ?_)
  ·first
    |(revert g;intro g;intro y b;obtain⟨L,U,N⟩:=b;go_simp)
    |(intro y b;obtain⟨L,N⟩:=b;go_simp)
  go_simp
  first
   |(revert g;intro g
     refine zi 6 _ ?_;go_simp;refine zi 7 _ ?_
     go_simp)
   | skip
  obtain⟨C,O⟩:∃y,y=s.drew:=⟨_,rfl⟩;rw [<- O]
  have v:=zC (show Below s.heap.size s C from by rw [O];exact⟨rfl,rfl,rfl,lR,fun _ _=>rfl⟩)
  have D:=zC (qZ.1 j.out).1;clear O;have G:=zC (h.out.below v.out);have k:=zC (u.out.below v.out)
  first
   |(revert g1;intro g1;have z:=zC (offX k.out m);refine on 8 (p.out C (v.out.block _ D.out) k.out.c6) ?_)
   |(revert a;intro a;have z:=zC (placeX k.out m);refine on 6 (p.out C (v.out.block _ D.out) k.out.c6) ?_)
   |(revert d;intro d;have z:=zC (placeN k.out m);refine on 6 (p.out C (v.out.block _ D.out) k.out.c6) ?_)
   |(have z:=zC (offN k.out m);refine on 8 (p.out C (v.out.block _ D.out) k.out.c6) ?_)
  gi_wp2_with fail
  refine⟨xB,(vn.2 z.out).mono ?_⟩
  first
   |(revert I;intro I;rintro e w3 ⟨rfl,P,S⟩;(have q:=zC (G.out.same ⟨_,P⟩ (S.weak (by decide))));have J:=zC (p.out w3 (q.out.2.2.2.1.trans j.out.symm) P.c6);clear P S z G k u)
   |(rintro e w3 ⟨rfl,Q⟩;have q:=zC (G.out.below Q);have J:=zC (p.out w3 (q.out.2.1.trans j.out.symm) (k.out.below Q).c6);clear Q z G k u)
  gi_wp2_with fail
  first
   |(revert d;intro d;refine tk 7 (.tuple #[.int .i64 0,.int .i64 0,.iface 131 (.agg #[.string FU,.iface 109 (.int .i64 2)])]) ?_ ?_)
   |(revert f;intro f;refine tk 9 (.tuple #[.int .i64 0,.iface 131 (.agg #[.string Hk,.iface 109 (.int .i64 3)])]) ?_ ?_)
   |(revert a;intro a;refine tk 7 (.tuple #[.int .i64 (Yi M.tx off),.int .i64 (JD M.tx off),.nilIface]) ?_ ?_)
   |(refine tk 9 (.tuple #[.int .i64 o,.nilIface]) ?_ ?_)
  ·intro y b;go_simp
  go_simp
  first
   |(revert a;intro a;refine tk 8 (.int .i64 (Yi M.tx off)) ?_ ?_)
   |(revert g1;intro g1;refine tk 10 (.int .i64 o) ?_ ?_)
   |(revert f;intro f;refine tk 10 (.int .i64 0) ?_ ?_)
   |(refine tk 8 (.int .i64 0) ?_ ?_)
  ·intro y b;go_simp
  go_simp
  first
   |(revert f;intro f;refine tk 11 (.iface 131 (.agg #[.string Hk,.iface 109 (.int .i64 3)])) ?_ ?_)
   |(revert a;intro a;refine tk 9 (.int .i64 (JD M.tx off)) ?_ ?_)
   |(revert d;intro d;refine tk 9 (.int .i64 0) ?_ ?_)
   |(refine tk 11 (.nilIface) ?_ ?_)
  ·intro y b;go_simp
  go_simp
  first
   |(revert d;intro d;refine tk 10 (.iface 131 (.agg #[.string FU,.iface 109 (.int .i64 2)])) ?_ ?_)
   |(revert g1;intro g1;refine tk 12 (.int .i64 o) ?_ ?_)
   |(revert f;intro f;refine tk 12 (.int .i64 0) ?_ ?_)
   |(refine tk 10 (.nilIface) ?_ ?_)
  ·intro y b;go_simp
  go_simp
  first
   |(revert f;intro f;refine tk 13 (.iface 131 (.agg #[.string Hk,.iface 109 (.int .i64 3)])) ?_ ?_)
   |(revert a;intro a;refine tk 11 (.int .i64 (Yi M.tx off)) ?_ ?_)
   |(revert d;intro d;refine tk 11 (.int .i64 0) ?_ ?_)
   |(refine tk 13 (.nilIface) ?_ ?_)
  ·intro y b;go_simp
  go_simp
  first
   |(revert d;intro d;skip
     refine zi 12 _ ?_;go_simp;refine zi 13 _ ?_
     go_simp)
   |(revert a;intro a;skip
     refine zi 12 _ ?_;go_simp;refine zi 13 _ ?_
     go_simp)
   |(skip)
  refine ZA (by kernel_rfl) J.out ?_ _
  clear p J
  first
   |(revert a;intro a;have RR:=zC q.out.2.2.2.2;have F:=zC (q.out.fin0 (x0:=0) (x1:=(Yi M.tx off)) (x2:=(JD M.tx off))))
   |(revert A;intro A;have RR:=zC q.out.2.2;have F:=zC (q.out.fin (row:=yg 0 0 0 (.slice none 0 0) (.slice none 0 0))))
   |(have RR:=zC q.out.2.2.2.2;have F:=zC (q.out.fin0 (x0:=0) (x1:=(o:Int)) (x2:=0)))
  go_wp2_with (refine ZM RR.out ?_)
  first
   |(revert d;intro d;exact jK results113 RR.out rfl rfl ⟨rfl,F.out⟩)
   |(revert f;intro f;exact jK results114 RR.out rfl rfl ⟨rfl,F.out⟩)
   |(revert a;intro a;exact jK results113 RR.out rfl rfl F.out)
   |(exact jK results114 RR.out rfl rfl F.out)
def lc9:=@zB9.1
def lcB9:=@zB9.2.1
def off9:=@zB9.2.2.1
def offB9:=@zB9.2.2.2
end
section
variable {w w':World} {Z:Nat->Prop} {E c:Nat} {x:VX} {M:SS} {K:KX} {kd b0 b1 b2:Int} {ta:Option Addr} {tl tq:Nat} {n m k:Nat}
def Wm(a:EX K w Z E c x M):Calls prog 166 #[qO E 1] w λd w'=>d=qQ (if M.op then .iface 109 (qC 9)else .nilIface)/\w'=w:=by
 obtain⟨_,_,_,_,b,_⟩:=a.ey.blk.cl;clear a;cases ho:M.op with
 | true=>
  rw[ho]at b;go_enter func166,ntmps166;go_wp2;go_ret;simp
 | false=>
  rw[ho]at b;go_enter func166,ntmps166;go_wp2;go_ret;simp
def FX(e:EX K w Z E c x M){er}(b:(if M.op then Value.iface 109 (qC 9)else jH (decide (0<=b0/\b0<=7)) 11)=er):Calls prog 150 #[qO E 0,qC b0] w λd w'=>d=qQ er/\w'=w:=by
 have a:=zC (Wm e);have g:=zC (Hl w (v:=b0) (lo:=0) (hi:=7) (k:=11) rfl);clear e;cases ho:M.op with
 | true=>
  rw[ho]at b a;simp at b a;subst b;go_enter func150,ntmps150;go_wp2_with fail;refine a.mono ?_;rintro d i ⟨rfl,rfl⟩;go_wp2;go_ret;simp
 | false=>
  rw[ho]at b a;simp only[Qb,if_false]at b a;subst b;generalize jH _ 11=er at *;go_enter func150,ntmps150;go_wp2_with fail;refine a.mono ?_;rintro d i ⟨rfl,f⟩;have h:=f.symm;subst h;clear f;go_wp2_with fail;refine g.mono ?_;rintro d j ⟨rfl,rfl⟩;go_wp2;go_ret;simp
def Wn:(∀{b k c l m d n a e f g h j}(o:EX n b k c l m d)(p:d.op=true),BX 122 b c 13 a e f (qM g h j) (.iface 109 (qC 9)))/\(∀{b k c l m d n a e f g h j}(o:EX n b k c l m d)(p:d.op=false)(s:¬ (0<=a/\a<=7)),BX 122 b c 13 a e f (qM g h j) (.iface 109 (qC 11)))/\(∀{b k c l m d n a e f g h j}(o:EX n b k c l m d)(p:d.op=true),BX 123 b c 14 a e f (qM g h j) (.iface 109 (qC 9)))/\(∀{b k c l m d n a e f g h j}(o:EX n b k c l m d)(p:d.op=false)(s:¬ (0<=a/\a<=7)),BX 123 b c 14 a e f (qM g h j) (.iface 109 (qC 11))):=by
 refine⟨@λb k c l m d n a e f g h j o p=>have q:=zC xB;?_,@λb k c l m d n a e f g h j o p s=>have q:=zC xB;have t:=zC xB;?_,@λb k c l m d n a e f g h j o p=>?_,@λb k c l m d n a e f g h j o p s=>have t:=zC xB;?_⟩
 all_goals
  unfold BX
  first
   |(revert q;intro q;have r:=zC (PB.start b (yp 13 a e f (qM g h j))))
   |(have r:=zC (PB.start b (yp 14 a e f (qM g h j))))
  have x:=zC o;clear o
  first
   |(revert q;intro q;go_enter func122,ntmps122)
   |(go_enter func123,ntmps123)
  go_upto_region 1 with fail;generalize World.alloc _ _=A at *;have u:=zC (x.below r.1);have y:=zC r.2.1
  first
   |(revert t;intro t;(have SX:=zC (FX u (er:=(.iface 109 _)) (by rw[p];simp only[Qb,if_false];exact Ml s))))
   |((have SX:=zC (FX (b0:=a) u (by rw[xS p]))))
  have B:A.cell? _=some (.int _ a):=c8 1 y;go_wp2_with fail;refine SX.mono ?_;rintro C D ⟨rfl,w⟩;have z:=w.symm;subst z;clear w SX;have RR:=zC r.2.2;have v:=zC (r.fin (row:=yg 0 0 0 qN qN));go_wp2_with (refine ZM RR ?_)
  first
   |(revert q;intro q;exact jK results122 RR rfl rfl ⟨rfl,v⟩)
   |(exact jK results123 RR rfl rfl ⟨rfl,v⟩)
def snapO9:=@Wn.1
def snapB9:=@Wn.2.1
def backO9:=@Wn.2.2.1
def backB9:=@Wn.2.2.2
end
section
variable {w w':World} {Z:Nat->Prop} {E c:Nat} {tv:Value} {x:VX} {M:SS} {K:KX} {n m k i j:Nat}
def Xb{base t size n v xs}(a:w.ownsRow base t size v n xs)(d:KA w w'):w'.ownsRow base t size v n xs:=zD a (λb c=>by obtain⟨e,f,g⟩:=jr a c;exact d.block b e t f g)
def TX.ka{v ts}(a:TX w Z v ts)(b:KA w w'):TX w' Z v ts:=⟨Xb a.1 b,a.2⟩
def We.ka(a:KA w w'):∀{xs g},We w Z xs g->We w' Z xs g
 | _,[],b=>b
 | _,_::_,⟨c,d,e,⟨tv,f,h,i,j,k,l⟩,m⟩=>⟨c,d,e,⟨tv,f,h,i,j.ka a,Xb k a,Xb l a⟩,We.ka a m⟩
def zB1.ka{v g}(b:zB1 w Z v g)(a:KA w w'):zB1 w' Z v g:=by
 obtain⟨c,d,e⟩:=b;exact⟨c,Xb d a,e.ka a⟩
def Jt.ka(b:KA w w'):∀{vs gs},Jt w Z vs gs->Jt w' Z vs gs
 | [],[],_=>trivial
 | _::_,_::_,a=>⟨⟨a.1.1.ka b,a.1.2⟩,Jt.ka b a.2⟩
 | [],_::_,a=>a
 | _::_,[],a=>a
def Ko.ka{v gs}(b:Ko w Z v gs)(a:KA w w'):Ko w' Z v gs:=by
 obtain⟨c,d,e⟩:=b;exact⟨c,Xb d a,e.ka a⟩
def UU.ka{v}:∀{b},UU w Z v b->KA w w'->UU w' Z v b
 | none,g,_=>g
 | some b,⟨c,tv,h,i,j,k,d,l,m,e,f⟩,a=>⟨c,tv,h,i,j,k,(a.block c _ _ _ d).trans d,l.ka a,Xb m a,⟨e.1.ka a,e.2⟩,⟨f.1.ka a,f.2⟩⟩
def EX.turn(a:EX K w Z E c x M)(d:KA w w')(p:∀b,Z b->∀(e)(f)(g),w'.heap[b]?=some (qR e f g)->w.heap[b]? =w'.heap[b]?):EX K w' Z E c x M:=
 ⟨⟨⟨a.ey.blk.1,(d.block E _ _ _ a.ey.blk.2).trans a.ey.blk.2⟩,Xb a.ey.ms d,⟨a.ey.dn.1.ka d,a.ey.dn.2⟩,⟨a.ey.ud.1.ka d,a.ey.ud.2⟩,λj=>⟨(a.ey.cu j).1.ka d,(a.ey.cu j).2⟩,a.ey.cvs,⟨a.ey.sl.1,λi m k n o=>(a.ey.sl.2 i m k n o).ka d⟩,a.ey.ez,λb h=>ve (a.ey.zl b h) d.size,λb h e f g l=>a.ey.zt b h e f g ((p b h e f g l).trans l)⟩,K.turn a.cr d,a.tx⟩
def KA.put{q o o'}(c:w.heap[q]?=some o)(d:o.isCells=false):KA w (w.putObj q o'):=⟨rfl,rfl,rfl,qH,λk e f g a=>World.putObj_heap_other (λb=>by
 subst b;rw[c]at a;simp at a;subst a
 simp[Obj.isCells]at d)⟩
def We.at{w Z}:∀{xs l},We w Z xs l->∀(k)a,l[k]?=some a->∃d e f g h i,xs[k*5]?=some (qC (Hu a.put))/\xs[k*5+1]?=some (qC a.off)/\xs[k*5+2]?=some (qM d (YG a).length e)/\xs[k*5+3]?=some (qM f a.was.length g)/\xs[k*5+4]?=some (qM h a.is.length i)/\TX w Z (qM d (YG a).length e) (YG a)/\zS w 0 (qM f a.was.length g) a.was/\zS w 0 (qM h a.is.length i) a.is
 | _,[],_,k,a,b=>by simp at b
 | _,s::l,⟨t,u,b,n,q⟩,0,a,c=>by
  simp at c;subst c;obtain⟨tv,v,x,m,j,o,p⟩:=n;obtain⟨_,_,rfl⟩:=zX j.1;obtain⟨_,_,rfl⟩:=o.val;obtain⟨_,_,rfl⟩:=p.val;subst m;subst b;exact⟨_,_,_,_,_,_,rfl,rfl,rfl,rfl,rfl,j,o,p⟩
 | _,s::l,⟨t,u,b,n,q⟩,k+1,a,c=>by
  simp at c;obtain⟨d,e,f,g,h,i,j⟩:=We.at q k a c;obtain⟨_,_,_,m,_⟩:=n;subst m;subst b
  exact⟨d,e,f,g,h,i,by
   have r:(k+1)*5=k*5+5:=qF;rw[r]
   simpa using j⟩
def Uj(b){v g}(aa:zB1 w Z v g)(ay:g.length<=100000)(c:∀a∈g,(YG a).length=a.n/\a.n<=8192):
  Calls prog 142 #[v,qC (Hu (!b))] w λh w'=>h=qQ (qC (j5 b g))/\qY w w':=by
 obtain⟨az,o,y⟩:=aa;have R:=zC y;have HR:=zC c;have CL:=zC (show j5 b g<=819200000 from vC (UO (λa Y=>(c a Y).2)) qF);generalize x:Hu _=L at *;have E:=zC x;generalize l:g.length=n at *;have F:=zC l;generalize m:j5 b g=M at *;have G:=zC m;rcases o.2 with ⟨h,r⟩ | ⟨j,a0,a1,h,a2,Q,a3,ab,ac⟩
 ·subst h
  subst r;have S:=xL l;have p:M=0:=(by rw[<- m,S];rfl);subst p;clear o y x l m c;go_enter func142,ntmps142;go_wp2_with fail;refine xQ 1 ?_;rw[xG];go_wp2;go_ret;exact⟨rfl,xe _ _⟩
 subst h;unfold maxLen at ab;have aj:=(qZ.1 Q).1;have T:=zC o;clear o y x l m ac Q c;go_enter func142,ntmps142;go_wp2_with fail;go_loopw [5,10] (λP i wr=>∃k:Nat,k<=n/\i=qC k/\P=qC (j5 b (g.take k))/\qY w wr) (λP i _=>n-(intOf i).toNat)
 case atStart=>exact⟨0,xK _,rfl,rfl,xe _ _⟩
 obtain⟨k,a4,rfl,rfl,d⟩:=hrel;have q:=zC d;have H:=d.size;by_cases W:k<n
 ·obtain⟨a,c⟩:∃a,g[k]?=some a:=⟨g[k]'(by rw[F.out];exact W),qH⟩
  obtain⟨ad,ae,af,ag,ah,ai,z,A,B,C,D,_⟩:=R.at k a c;have e:=zC (zE T d lR);have r:wr.cell? (qP j (k*5))=some (qC (Hu a.put)):=(by rw[e.out.cellAt (k*5) qF];exact z);have ak:wr.cell? (qP j (k*5+1))=some (qC a.off):=(by rw[e.out.cellAt (k*5+1) qF];exact A);have U:wr.cell? (qP j (k*5+2))=some (qM ad (YG a).length ae):=(by rw[e.out.cellAt (k*5+2) qF];exact B);have al:wr.cell? (qP j (k*5+3))=some (qM af a.was.length ag):=(by rw[e.out.cellAt (k*5+3) qF];exact C);have am:wr.cell? (qP j (k*5+4))=some (qM ah a.is.length ai):=(by rw[e.out.cellAt (k*5+4) qF];exact D);have s:=(HR a (xH c)).1;have an:=(HR a (xH c)).2;rw[s]at U;have f:=DT (b:=b) c;have V:=DU (b:=b) (g:=g) (k+1);rw[G.out]at V;have ao:=CL.out;have ap:=zC f;generalize K:j5 b (g.take _)=N at *;have I:=zC K;clear K;generalize j5 b (g.take k)=O at *;have aq:(k:Int)<n:=qF;generalize a.n=X at *;generalize a.was.length=au at *;generalize a.is.length=av at *;generalize a.off=aw at *;by_cases u:a.put=b
  ·have t:N=O:=by rw[f,xS u];rfl
   have J:¬Hu a.put=L:=by rw[<- E.out,u];cases b<;>simp[Hu]
   generalize Hu a.put=ax at *;clear f d c z A B C D s;go_wp2;go_roundw
   case rel=>exact⟨k+1,qF,qL,by rw[I.out,t],q.alloc H _⟩
   simp[intOf];omega
  have t:N=O+X:=(by rw[f,xJ u]);have J:Hu a.put=L:=by rw[<- E.out];cases hq:a.put<;>cases b<;>simp_all
  rw[J]at r;clear f d c z A B C D s;subst t;go_wp2;go_roundw
  case rel=>exact⟨k+1,qF,qL,by rw[I.out,Int.natCast_add],q.alloc H _⟩
  simp[intOf];omega
 obtain rfl:k=n:=qF
 have ar:¬ (k:Int)<k:=qF
 have p:j5 b (g.take k)=M:=by rw[<- G.out,xU (by rw[F.out];omega)]
 rw[p];clear d;go_wp2;go_ret;exact⟨rfl,q⟩
def zBs(e:EX K w Z E c x M)(f:M.op=true)(a)(l kq):Calls prog 141 #[qO E 1,qM a l kq] w λd w'=>d=qQ (.tuple #[qN,.iface 109 (qC 9)])/\w'=w:=by
 have b:=zC (Wm e);rw[f,xS rfl]at b;clear e;go_enter func141,ntmps141;go_wp2_with fail;refine b.mono ?_;rintro d g ⟨rfl,rfl⟩;go_wp2;refine vg (by simp[results,go_sem]) rfl ⟨rfl,rfl⟩
def zBt(e:EX K w Z E c x M)(f:M.op=false)(a)(kq):Calls prog 141 #[qO E 1,qM a 0 kq] w λd w'=>d=qQ (.tuple #[qN,.iface 109 (qC 6)])/\w'=w:=by
 have b:=zC (Wm e);rw[f]at b;simp at b;clear e;go_enter func141,ntmps141;go_wp2_with fail;refine b.mono ?_;rintro d g ⟨rfl,rfl⟩;go_wp2;refine vg (by simp[results,go_sem]) rfl ⟨rfl,rfl⟩
def Oi(f:EX K w Z E c x M)(j:M.op=false){sb a kq ga gl gk us}(e:w.ownsRow 0 138 1 (qM (qD sb 0) a kq) a (us++ [qM ga gl gk]))(g:a=us.length+1)(s:us.length<=1000):
  Calls prog 141 #[qO E 1,qM (qD sb 0) a kq] w λb w'=>b=qQ (.tuple #[qM ga gl gk,.nilIface])/\w'=w:=by
 have d:=zC (Wm f);rw[j]at d;simp at d;have h:=e.cellAt us.length qF;rw[show(us++ [Value.slice ga gl gk])[us.length]?=some (qM ga gl gk)by simp]at h
 have i:a<=kq/\kq<=maxLen:=by
  rcases e.2 with ⟨b,t⟩ | ⟨u,v,y,b,_,_,k,l,_⟩
  ·cases b
  simp only[jW]at b;obtain⟨_,_,rfl⟩:=b;exact⟨k,l⟩
 unfold maxLen at i;generalize us.length=n at *;have m:IntKind.i64.wrap (a-1)=n:=by rw[vA,g,Int.natCast_add];omega
 have o:¬ (a:Int)=0:=qF
 have p:(n:Int)<a:=qF
 have q:n<a:=qF
 have r:(0:Int)<=n:=qF
 clear f e g;go_enter func141,ntmps141;go_wp2_with fail;refine d.mono ?_;rintro b z ⟨rfl,rfl⟩;go_wp2;refine vg (by simp[results,go_sem]) rfl ⟨rfl,rfl⟩
end
end

import Derived.Test.YtljnflecikholaaGreatDoorMq32
set_option linter.all false
set_option maxRecDepth 100000
set_option maxHeartbeats 8000000
namespace Go.Proofs.YtljnflecikholaaGreatDoor
open Go Go.RowKit Go.Proofs.Tryz
section
open Go.Sort Go.BigFrame
section
variable {w w':World} {Z:Nat->Prop} {E c:Nat} {x:VX} {M:SS} {K:KX} {kd b0 b1 b2:Int} {ta:Option Addr} {tl tq:Nat} {n m k:Nat}
def zAi(e:EX K w Z E c x M):Calls prog 151 #[qO E 0] w λj w'=>∃h,j=qQ h/\zT w' w.heap.size h M.tx/\qY w w':=by
 have u:=λc w=>(K.mth c w).1
 have v:=K.ent K.fLen qH;have y:=λc w=>(K.mth c w).2.2.2.2.1
 have z:=K.ent K.fSli qH;have g:=zC (show ∀a,Below _ w a->a.cell? _=some _ from λa b=>(e.below b).c6);have k:=zC (λa(b:Below _ w a)=>Hj (e.below b))
 have l:=zC (λa(b:Below _ w a)=>(by
  have:=K.cSli (lo:=0) (hi:=M.tx.length) (e.below b).cr (xK _) (by rw[e.tx];omega)
  rw[e.tx,xU lR,vz]at this;exact this))
 clear e;go_enter func151,ntmps151;go_upto_region 1 with fail;refine(vZ (n:=6)).1 ?_;refine yf (λa=>a.cell? (qP E 6)=some (.iface K.ty (qO c 0))) qI ?_;refine zi 0 _ ?_;go_simp;refine zi 1 _ ?_;go_simp;refine zi 2 _ ?_;go_simp;refine zi 3 _ ?_;go_simp;refine zi 4 _ ?_;go_simp;refine zi 5 _ ?_;go_simp;refine zi 6 _ ?_;go_simp;refine zi 7 _ ?_;go_simp;refine zi 9 _ ?_;go_simp;refine zi 10 _ ?_;go_simp;obtain⟨s,b⟩:∃a,a=w.drew:=⟨_,rfl⟩
 rw[<- b];have f:=zC (show qY w s from by rw[b];exact⟨rfl,rfl,rfl,lR,λ_ _=>rfl⟩);clear b;refine on 8 (g _ f) ?_;gi_wp2_with fail;refine⟨xB,(vn.2 (k _ f)).mono ?_⟩;rintro j A ⟨rfl,p⟩;have d:=zC (f.trans (p.mono f.size));clear p f;gi_wp2_with fail;refine on 11 (g _ d) ?_;gi_wp2_with fail;have m:=zC (l _ d);refine⟨xB,(vn.2 m).mono ?_⟩;rintro j t ⟨h,rfl,q,r⟩;have o:=zC (show zT t _ h _ from zF q d.size);have i:=zC (d.trans (r.mono d.size));clear r q m d l k;obtain⟨B,C,rfl⟩:=zX o;gi_wp2_with fail;refine on 12 (g _ i) ?_;gi_wp2_with fail;refine ZA qI (g _ i) ?_ _;go_wp2;go_ret;exact⟨_,rfl,o,i⟩
theorem Or:(∀ {w} {Z} {E} {c} {x} {M} {K} {b0} {b1} {b2} {ta} {tl} {tq} (h:EX K w Z E c x M) (B:Vd M.ms) (aa:M.sp<=200000) (C:¬M.sp+(M.tx.length+M.ms.length)<=200000),BX 125 w E 16 b0 b1 b2 (.slice ta tl tq) (.iface 109 (.int .i64 10)))∧(∀ {w} {Z} {E} {c} {x} {M} {K} {b0} {b1} {b2} {ta} {tl} {tq} (h:EX K w Z E c x M) (B:Vd M.ms) (C:M.sp+(M.tx.length+M.ms.length)<=200000),AX K 125 w Z E c 16 b0 b1 b2 (.slice ta tl tq) 0 0 0 M.tx M.ms {M with sp:=M.sp+(M.tx.length+M.ms.length)}):=by
 refine⟨@fun w Z E c x M K b0 b1 b2 ta tl tq h B aa C=>have g1:=zC xB;?_,@fun w Z E c x M K b0 b1 b2 ta tl tq h B C=>have g:=zC xB;?_⟩
 all_goals
  first
   |(revert g1;intro g1;unfold BX;have o:=zC (PB.start w (yp 16 b0 b1 b2 (.slice ta tl tq))))
   |(unfold AX;have o:=zC (PX.start h (yp 16 b0 b1 b2 (.slice ta tl tq))))
  have am:=h.lt
  first | (revert g;intro g) | skip
  have an:=fun c w=>(K.mth c w).1
  have ao:=K.ent K.fLen (by simp)
  obtain⟨m,P⟩:∃m,m=M.tx.length:=⟨_,rfl⟩;obtain⟨n,D⟩:∃n,n=M.ms.length:=⟨_,rfl⟩
  first | (revert g1;intro g1;have af:=zC h) | skip
  clear h;go_enter func125,ntmps125
  go_upto_region 1 with fail
  generalize World.alloc (World.alloc w _) _=i at *
  first
   |(revert g;intro g;obtain⟨aj,ab⟩:=o.out.1;have f:=zC ab;clear ab)
   |(have f:=zC (af.out.below o.out.1))
  obtain⟨j,k,G⟩:=f.out.ey.ms.val;have ap:=f.out.len
  have aq:n<=128:=by rw [D];exact B.1
  rw [<- D]at G
  have p:=zC (show ∀y:World,y.heap[E]? =i.heap[E]?->(y.cell? ⟨E,6,none⟩=some (.iface K.ty (.pointer (some ⟨c,0,none⟩)))∧y.cell? ⟨E,0,none⟩=some (.slice j n k))from fun y u=>⟨(xq u).trans f.out.c6,(xq u).trans (by rw [<- G];exact f.out.ey.blk.cl.1)⟩)
  have LE:=f.out.lt
  have v:=zC (fun y (d:Below i.heap.size i y)=>Hj (f.out.below d))
  rw [<- P]at v;have J:=zC P;have L:=zC D;have T:=zC G
  have ar:IntKind.i64.wrap (m+n)=((m+n:Nat)):=by rw [vA];omega
  clear P D G;refine(vZ (n:=6)).1 ?_
  refine yf (fun y=>y.cell? ⟨E,6,none⟩=some (.iface K.ty (.pointer (some ⟨c,0,none⟩)))∧y.cell? ⟨E,0,none⟩=some (.slice j n k)) (by kernel_rfl) ?_
  refine zi 0 (.pointer (some ⟨E,0,none⟩)) ?_;go_simp;refine zi 1 (.pointer (some ⟨E,0,none⟩)) ?_;go_simp;refine zi 2 (.pointer (some ⟨E,0,none⟩)) ?_;go_simp;refine zi 3 (.pointer (some ⟨E,6,none⟩)) ?_;go_simp;refine zi 4 (.iface K.ty (.pointer (some ⟨c,0,none⟩))) ?_;go_simp;refine zi 6 (.pointer (some ⟨E,0,none⟩)) ?_;go_simp;refine zi 7 (.pointer (some ⟨E,0,none⟩)) ?_;go_simp;refine zi 8 (.pointer (some ⟨E,0,none⟩)) ?_;go_simp;refine zi 9 (.pointer (some ⟨E,0,none⟩)) ?_;go_simp;refine zi 10 (.slice j n k) ?_;go_simp;refine zi 11 (.int .i64 n) ?_;go_simp;obtain⟨Q,d⟩:∃y,y=i.drew:=⟨_,rfl⟩;rw [<- d]
  have a:=zC (show Below i.heap.size i Q from by rw [d];exact⟨rfl,rfl,rfl,lR,fun _ _=>rfl⟩)
  clear d;refine on 5 (p.out _ (a.out.block _ LE)) ?_
  gi_wp2_with fail
  refine⟨xB,(vn.2 (v.out _ a.out)).mono ?_⟩;rintro e y1 ⟨rfl,l⟩;have b:=zC (a.out.trans (l.mono a.out.size));clear l a
  gi_wp2_with fail
  refine zi 12 (.int .i64 ((m+n:Nat))) ?_;go_simp;refine on 13 (p.out _ (b.out.block _ LE)) ?_
  first
   |(revert g1;intro g1;(have z:=zC (Hi (n:=m+n) (f.out.below b.out) aa (by rw [J.out,L.out];omega))))
   |((have z:=zC (WC (n:=m+n) (f.out.below b.out) (by rw [J.out,L.out];exact C))))
  gi_wp2_with fail
  refine⟨xB,(vn.2 z.out).mono ?_⟩
  first
   |(revert g;intro g;rintro e w3 ⟨rfl,R,ac⟩;have r:=zC ((o.out.below b.out).same ⟨_,R⟩ ac);have s:=zC R;(have t:=zC (show ∀y:World,y.heap[E]? =w3.heap[E]?->(y.cell? ⟨E,6,none⟩=some (.iface K.ty (.pointer (some ⟨c,0,none⟩)))∧y.cell? ⟨E,0,none⟩=some (.slice j n k))from fun y u=>⟨(xq u).trans s.out.c6,(xq u).trans (by rw [<- T.out];exact s.out.ey.blk.cl.1)⟩));clear R ac z p v b)
   |(rintro e w3 ⟨rfl,rfl⟩)
  gi_wp2_with fail
  first
   |(revert g1;intro g1;refine tk 14 (.iface 109 (.int .i64 10)) ?_ ?_)
   |(refine tk 14 (.nilIface) ?_ ?_)
  ·intro y au;go_simp
  go_simp
  first
   |(revert g;intro g;skip
     refine ZA (by kernel_rfl) (t.out _ rfl) ?_ _
     go_upto_region 4 with fail
     have A:=s.out.lt
     have U:=zC (fun y (d:Below w3.heap.size w3 y)=>zAi (s.out.below d))
     have CL:=zC (fun y d=>(by
      have V:=Iz 0 M.ms aj.mv y (s.out.below d).ey.ms (by omega)
      rw [T.out]at V;exact V))
     refine(vZ (n:=6)).1 ?_
     refine yf (fun y=>y.cell? ⟨E,6,none⟩=some (.iface K.ty (.pointer (some ⟨c,0,none⟩)))∧y.cell? ⟨E,0,none⟩=some (.slice j n k)) (by kernel_rfl) ?_
     refine zi 0 (.pointer (some ⟨E,0,none⟩)) ?_;go_simp;refine zi 2 (.pointer (some ⟨E,0,none⟩)) ?_;go_simp;refine zi 3 (.pointer (some ⟨E,0,none⟩)) ?_;go_simp;refine zi 4 (.pointer (some ⟨E,0,none⟩)) ?_;go_simp;refine zi 5 (.pointer (some ⟨E,0,none⟩)) ?_;go_simp;refine zi 6 (.slice j n k) ?_;go_simp;obtain⟨Q,d⟩:∃y,y=w3.drew:=⟨_,rfl⟩;rw [<- d]
     have a:=zC (show Below w3.heap.size w3 Q from by rw [d];exact⟨rfl,rfl,rfl,lR,fun _ _=>rfl⟩)
     clear d;refine on 1 (t.out _ (a.out.block _ A)) ?_
     gi_wp2_with fail
     refine⟨xB,(vn.2 (U.out _ a.out)).mono ?_⟩;rintro e y1 ⟨av,rfl,H,l⟩;have b:=zC (a.out.trans (l.mono a.out.size));obtain⟨ua,uk,ak⟩:=zX H;subst ak;obtain⟨ad,ae⟩:=(r.out.below a.out).held l H;have N:=zC ad
     have O:=zC (And.intro (show zT y1 w.heap.size (.slice ua M.tx.length uk) M.tx from zF H (by have:=r.out.2.1.size;have:=a.out.size;omega)) (fun q ai=>ae.2 q ai))
     clear ad ae H l U a
     gi_wp2_with fail
     refine on 7 (t.out _ (b.out.block _ A)) ?_;have W:=zC (CL.out _ b.out)
     gi_wp2_with fail
     refine⟨xB,(vn.2 W.out).mono ?_⟩;rintro e y2 ⟨aw,rfl,S,I⟩;have X:=zC (b.out.trans (I.mono b.out.size));obtain⟨ma,mk,al⟩:=S.val;subst al;have Y:=zC (N.out.below I);have ag:=zC (And.intro (zE O.out.1 I lR) O.out.2)
     have ah:=zC (S.base (by have:=N.out.2.1.size;omega))
     clear S I CL W O N
     gi_wp2_with fail
     refine zi 8 (.agg (yg 0 0 0 (.slice ua M.tx.length uk) (.slice ma M.ms.length mk))) ?_;go_simp;have RR:=zC Y.out.2.2.2.2;have F:=zC (Y.out.fin (x0:=0) (x1:=0) (x2:=0) ag.out ah.out);rw [J.out,L.out]at F;refine on 9 (t.out _ (X.out.block _ A)) ?_
     refine zR rfl 81 _ _ rfl (w.heap.size+1) _ (yg 0 0 0 (.slice ua M.tx.length uk) (.slice ma M.ms.length mk)) 81 rfl rfl RR.out (by kernel_rfl) rfl (by simp [Value.oneCell']) ?_
     refine kl ?_;go_simp;refine zi 10 (.nilIface) ?_;go_simp
     refine ZA (by kernel_rfl) (t.out _ ((vG y2 _ _ _ (by omega)).trans (X.out.block _ A))) ?_ _
     go_wp2_with fail
     exact jK results125 RR.out rfl rfl F.out)
   |((refine ZA (by kernel_rfl) (p.out _ (b.out.block _ LE)) ?_ _);have r:=zC (o.out.below b.out);clear p v z b f;have RR:=zC r.out.2.2;have F:=zC (r.out.fin (row:=yg 0 0 0 (.slice none 0 0) (.slice none 0 0)));go_wp2_with (refine ZM RR.out ?_);exact jK results125 RR.out rfl rfl ⟨rfl,F.out⟩)
def dumpF9:=@Or.1
def dump9:=@Or.2
end
section
variable {w w':World} {Z:Nat->Prop} {E c:Nat} {x:VX} {M:SS} {K:KX} {kd b0 b1 b2:Int} {ta:Option Addr} {tl tq:Nat} {n m k:Nat}
def Ot{v vs}(a:w.ownsRow 0 138 1 v n vs)(h:∀u∈vs,u.oneCell'=true)(G:n<=1000):
  Calls prog 173 #[v] w λc w'=>∃g,c=qQ g/\w'.ownsRow w.heap.size 138 1 g n vs/\qY w w':=by
 obtain⟨q,r,s,t,x⟩:=vw Tryz.qx;have j:=zC a.1;rcases id a.2 with ⟨rfl,y⟩ | ⟨z,i,H,rfl,_,A,I,B,_⟩
 ·have c:vs= []:=xL (by have:=a.1;omega)
  subst c y;clear a;have b:=λw:qS=>Lib.run_eql_slice_nil w 134 138 none 0 0 0 0 underlying134
  simp at b;go_enter func173,ntmps173;go_wp2;go_ret;exact⟨_,rfl,xR _ _ _ _,xe _ _⟩
 have e:(w.alloc (qR #[] 138)).heap[w.heap.size]?=some _:=xI _ _;have C:(w.alloc (qR #[] 138)).heap.size=w.heap.size+1:=qH
 have k:=zC ((xe _ w).alloc lR (qR #[] 138));have l:=zC (show(w.alloc _).ownsRow _ 138 1 _ 0 []from⟨rfl,.inr ⟨_,0,#[],rfl,lR,e,lR,qF,rfl,rfl⟩⟩);have RC:=zC ((kB a (qR #[] 138)).cells rfl);have m:=zC h;unfold maxLen at B;have b:=λw:qS=>Lib.run_eql_slice_nil w 134 138 (qD z 0) n i 0 0 underlying134
 simp at b;clear a e A h;go_enter func173,ntmps173;go_wp2_with (at_builtin;refine xM _ rfl _ _ 134 rfl _ 138 q _ 1 24 underlying134 r s t x rfl qG (qM _ 0 0) 0 [] rfl (l) _ n i vs rfl (by have:=j.out;omega) (RC) (m) qK qF qH ?_;intro D E d f _;have o:=zC (k.grown f qF (λF b=>by simp only[Value.ownBlock,xE]at b;omega));have p:=zC (by rw[xX,vq]at d;exact d);clear d f);go_ret;exact⟨_,rfl,p,o⟩
def Ou{da ua dk uk vs us}(l:w.ownsRow 0 138 1 (qM da n dk) n vs)(x:w.ownsRow 0 138 1 (qM ua m uk) m us)(aa:∀u∈vs,u.oneCell'=true)(ab:∀u∈us,u.oneCell'=true)(ac:n<=1000)(ad:m<=1000):
  Calls prog 152 #[.agg #[qM da n dk,qM ua m uk]] w λg w'=>∃c d e f,g=qQ (.agg #[qM c n d,qM e m f])/\w'.ownsRow w.heap.size 138 1 (qM c n d) n vs/\w'.ownsRow w.heap.size 138 1 (qM e m f) m us/\(∀a,(Value.slice e m f).ownBlock=some a->(Value.slice c n d).ownBlock≠some a)/\qY w w':=by
 have s:=zC (bA (bA (xe _ w) (qR #[qM da n dk,qM ua m uk] 136)) (qR #[qN,qN] 136));have O:=zC (Pd w (qR #[qN,qN] 136) #[qM da n dk,qM ua m uk] 136);have P:=zC (ES w (qR #[qM da n dk,qM ua m uk] 136) #[qN,qN] 136);have Q:=zC (λb(j:Below _ w b)=>Ot (zE l j lR) aa ac);have R:=zC (λb(j:Below _ w b)=>Ot (zE x j lR) ab ad);clear l x;go_enter func152,ntmps152;go_upto_region 1 with fail;generalize World.alloc _ _=I at *;have h:=zC ((qZ.1 P).1);have q:=zC (show ∀b:qS,b.heap[w.heap.size]? =I.heap[w.heap.size]?->(b.cell? _=some (qM da n dk)/\b.cell? _=some (qM ua m uk))from λb l=>⟨c9 (i:=0) (l.trans O) rfl,c9 (i:=1) (l.trans O) rfl⟩);refine(vZ (n:=6)).1 ?_;refine yf (λb=>b.cell? (qP w.heap.size 0)=some (qM da n dk)/\b.cell? (qP w.heap.size 1)=some (qM ua m uk)) qI ?_;refine zi 0 _ ?_;go_simp;refine zi 1 _ ?_;go_simp;refine zi 3 _ ?_;go_simp;refine zi 4 _ ?_;go_simp;obtain⟨L,j⟩:∃b,b=I.drew:=⟨_,rfl⟩
 rw[<- j];have r:=zC (show qY I L from by rw[j];exact⟨rfl,rfl,rfl,lR,λ_ _=>rfl⟩);clear j;have A:=zC (s.trans (r.mono s.size));refine on 2 (q L (r.block _ (by have:=h.out;omega))) ?_;gi_wp2_with fail;refine⟨xB,(vn.2 (Q L A)).mono ?_⟩;rintro g S ⟨ae,rfl,M,N⟩
 obtain⟨c,d,af⟩:∃K k,ae= .slice K n k:=by
  rcases M.2 with ⟨g,ag⟩ | ⟨ah,ai,aj,g,_⟩
  ·simp_all
  exact⟨_,_,g⟩
 subst af;have t:=zC (r.trans (N.mono r.size));have B:=zC (A.trans (N.mono A.size));have C:=zC M;clear M N;gi_wp2_with fail;refine on 5 (q S (t.block _ (by have:=h.out;omega))) ?_;gi_wp2_with fail;refine⟨xB,(vn.2 (R S B)).mono ?_⟩;rintro g p ⟨ak,rfl,y,z⟩
 obtain⟨e,f,al⟩:∃K k,ak= .slice K m k:=by
  rcases y.2 with ⟨g,ag⟩ | ⟨ah,ai,aj,g,_⟩
  ·simp_all
  exact⟨_,_,g⟩
 subst al;have D:=zC (t.trans (z.mono t.size));have T:=zC (B.trans (z.mono B.size));have U:=zC (show ∀a,(Value.slice e m f).ownBlock=some a->(Value.slice c n d).ownBlock≠some a from λa l x=>by have:=(y.lt a l).1;have:=(C.lt a x).2;omega);have E:=zC (zF (zE C z lR) r.size);have F:=zC (zF y t.size);clear y z C Q R;gi_wp2_with fail;refine zi 6 _ ?_;go_simp;refine on 7 (q p (D.block _ (by have:=h.out;omega))) ?_;have G:=zC ((D.block _ h).trans P);refine zR rfl 136 _ _ rfl _ _ _ 136 rfl rfl G qI rfl (by simp[Value.oneCell']) ?_;have H:=zC (kT p _ _ #[qM c n d,qM e m f] _ _ G);have v:=zC (λa o=>vG p (w.heap.size+1) a #[qM c n d,qM e m f] o);have V:=zC (show Below _ w (p.setRow (w.heap.size+1) #[qM c n d,qM e m f])from T.trans ⟨rfl,rfl,rfl,qH,λa o=>vG p _ a _ qF⟩);generalize p.setRow _ _=J at *;refine kl ?_;go_simp;refine ZA qI (q J ((v _ qF).trans (D.block _ (by have:=h.out;omega)))) ?_ _;have W:J.cell? _=some (qM c n d):=c8 0 H;have X:J.cell? _=some (qM e m f):=c8 1 H;have Y:=zC (zF (zD E (λa o=>v a (by have:=(E.lt a o).1;have:=h.out;omega))) s.size);have Z:=zC (zF (zD F (λa o=>v a (by have:=(F.lt a o).1;have:=h.out;omega))) s.size);clear E F q G H v;go_wp2_with fail;exact vg (by simp[results,go_sem,W,X]) rfl ⟨c,d,e,f,rfl,Y,Z,U,V⟩
end
section
variable {w w':World} {Z:Nat->Prop} {E c:Nat} {x:VX} {M:SS} {K:KX} {kd b0 b1 b2:Int} {ta:Option Addr} {tl tq:Nat} {n m k i p:Nat}
def EX.slotted{kk}(a:EX K w Z E c x M)(g:i<8)(o:UU w Z (qO p 0) (some kk)):EX K (w.setCell (qP E (7+i)) (qO p 0)) Z E c {x with ss:=x.ss.set i (qO p 0)} {M with sl:=M.sl.set i (some kk)}:=by
 have f:=EO.set E (7+i) (qO p 0) w;have b:=a.ep f;have k:=a.ey.ek (l:=[166,248]) f qG;refine a.put f (a.ey.blk.set _ _ (by rw[kC];exact a.ey.blk.1) ?_) ⟨rfl,rfl⟩ ⟨b.ms,b.dn,b.ud,b.cu,b.cvs,by rw[kC];exact b.sl.1,λj m n d e=>?_⟩
 ·rw[show 7+i=i+1+1+1+1+1+1+1 by omega]
  simp only[Qr];rw[List.set_append_left _ _ (by rw[a.ey.blk.1];exact g)]
 by_cases h:i=j
 ·subst h
  simp at d e;rw[QF (by rw[a.ey.blk.1];exact g)]at d;rw[QF (by rw[b.sl.1];exact g)]at e;simp at d e;subst d e;exact o.kk k qG qG (λ_ a=>a)
 simp at d e;rw[Qj h]at d e;exact b.sl.2 j m n d e
def snap9(g:EX K w Z E c x M)(b6:M.op=false)(bh:i<8)(aa:M.un.length<=1000/\M.re.length<=1000):AX K 122 w Z E c 13 i b1 b2 (qM ta tl tq) 0 0 0 [] [] {M with sl:=M.sl.set i (some ⟨M.tx,M.ms,M.un,M.re⟩)}:=by
 unfold AX;have G:=zC (PX.start g (yp 13 i b1 b2 (qM ta tl tq)));have cg:=g.lt;have ch:=zC (PB.start w (yp 13 i b1 b2 (qM ta tl tq))).1;have ci:=λc w=>(K.mth c w).1
 have cj:=K.ent K.fLen qH;clear g;go_enter func122,ntmps122;go_upto_region 1 with fail;generalize World.alloc (World.alloc w _) _=e at *;obtain⟨R,bi⟩:=G.out.1;have h:=zC bi;have ab:=zC G.2.2.2.1;clear bi;have SX:=zC (FX (b0:=i) h (er:=.nilIface) (by rw[b6];simp only[Qb,if_false];exact FV qF));have bv:e.cell? (qP w.heap.size 1)=some (qC i):=c8 1 ab;go_wp2_with fail;refine SX.mono ?_;rintro p cm ⟨rfl,bj⟩;have bw:=bj.symm;subst bw;clear bj SX;go_upto_region 4 with fail;obtain⟨y,z,V⟩:=h.out.ey.ms.val;obtain⟨b8,S,ag⟩:=h.out.ey.dn.1;obtain⟨b9,T,ah⟩:=h.out.ey.ud.1
 obtain⟨ap,aq,N⟩:∃P k,R.dv= .slice P M.un.length k:=by
  rcases S.2 with ⟨p,ca⟩ | ⟨cb,cc,cd,p,_⟩
  ·simp_all
  exact⟨_,_,p⟩
 obtain⟨ar,au,O⟩:∃P k,R.uv= .slice P M.re.length k:=by
  rcases T.2 with ⟨p,ca⟩ | ⟨cb,cc,cd,p,_⟩
  ·simp_all
  exact⟨_,_,p⟩
 obtain⟨A,ai⟩:∃k,k=M.ms.length:=⟨_,rfl⟩
 obtain⟨m,aj⟩:∃k,k=M.un.length:=⟨_,rfl⟩
 obtain⟨o,ak⟩:∃k,k=M.re.length:=⟨_,rfl⟩
 obtain⟨r,bd⟩:∃k,k=M.tx.length:=⟨_,rfl⟩
 rw[<- ai]at V;rw[<- aj]at N S aa;rw[<- ak]at O T aa;rw[N]at S;rw[O]at T
 have ac:=zC (show ∀b:qS,b.heap[w.heap.size]? =e.heap[w.heap.size]?->b.cell? (qP E 0)=e.cell? (qP E 0)/\b.cell? (qP E 1)=e.cell? (qP E 1)/\b.cell? (qP E 2)=e.cell? (qP E 2)->(b.cell? (qP w.heap.size 1)=some (qC i)/\b.cell? (qP E 0)=some (qM y A z)/\b.cell? (qP E 1)=some (qM ap m aq)/\b.cell? (qP E 2)=some (qM ar o au))from λb b5 al=>by
  obtain⟨bk,bl,bn,_⟩:=h.out.ey.blk.cl;rw[V]at bk;rw[N]at bl;rw[O]at bn
  exact⟨c9 (b5.trans ab) rfl,al.1.trans bk,al.2.1.trans bl,al.2.2.trans bn⟩)
 have LE:=h.lt;have a2:=zC (qZ.1 ab).1;have H:=zC (λb(f:qY e b)=>ac b (f.block _ a2) ⟨f.cell LE,f.cell LE,f.cell LE⟩);have a3:=zC (λb(f:qY e b)=>zAi (h.below f));have a4:=zC (λb(f:qY e b)=>Ou (zE S f lR) (zE T f lR) (λam an=>by obtain⟨P,bp,k,rfl⟩:=ag.sl am an;rfl) (λam an=>by obtain⟨P,bp,k,rfl⟩:=ah.sl am an;rfl) aa.1 aa.2);have GG:=zC (And.intro ag ah);have U:=zC (And.intro ai (And.intro aj (And.intro ak bd)));have a5:=zC (And.intro V (And.intro N O));have ck:(i:Int)<8:=qF
 clear ai aj ak bd V N O S T ag ah bv;refine(vZ (n:=6)).1 ?_;refine yf (λb=>b.cell? (qP w.heap.size 1)=some (qC i)/\b.cell? (qP E 0)=some (qM y A z)/\b.cell? (qP E 1)=some (qM ap m aq)/\b.cell? (qP E 2)=some (qM ar o au)) qI ?_;refine zi 0 (qO E 0) ?_;go_simp;refine zi 1 (qO w.heap.size 1) ?_;go_simp;refine zi 2 (qC i) ?_;go_simp;refine zi 3 (qO E 0) ?_;go_simp;refine zi 5 (qO E 0) ?_;go_simp;refine zi 6 (qO E 0) ?_;go_simp;refine zi 7 (qO E 0) ?_;go_simp;refine zi 8 (.agg #[qM y A z]) ?_;go_simp;refine zi 9 (qO E 0) ?_;go_simp;refine zi 10 (qO E 0) ?_;go_simp;refine zi 11 (qO E 1) ?_;go_simp;refine zi 12 (qO E 1) ?_;go_simp;refine zi 13 (.agg #[qM ap m aq,qM ar o au]) ?_;go_simp;refine zi 17 (qO E 0) ?_;go_simp;refine zi 18 (qO E 7) ?_;go_simp;obtain⟨av,f⟩:∃b,b=e.drew:=⟨_,rfl⟩
 rw[<- f];have I:=zC (show qY e av from by rw[f];exact⟨rfl,rfl,rfl,lR,λ_ _=>rfl⟩);clear f;refine on 4 (H av I) ?_;gi_wp2_with fail;refine⟨xB,(vn.2 (a3 av I)).mono ?_⟩;rintro p aw ⟨cn,rfl,ax,bq⟩;obtain⟨s,t,br⟩:=zX ax;rw[<- U.out.2.2.2]at br;subst br;have u:=zC (I.trans (bq.mono I.size));have a6:=zC (show zT aw e.heap.size (qM s r t) M.tx from zF ax I.size);clear ax bq a3;gi_wp2_with fail;refine on 14 (H aw u) ?_;have a7:=zC (a4 aw u);gi_wp2_with fail;refine⟨xB,(vn.2 a7).mono ?_⟩;rintro p j ⟨B,C,D,F,rfl,bs,bt,ce,ay⟩;have ad:=zC (u.trans (ay.mono u.size));have a8:=zC (And.intro (zE a6 ay lR) (And.intro (zF bs u.size) (zF bt u.size)));clear bs bt ce ay a7 a4 a6;gi_wp2_with fail;refine zi 15 (.agg #[qM s r t,qM y A z,qM B m C,qM D o F]) ?_;go_simp;refine on 16 (H j ad) ?_;gi_wp2_with fail;have BX:=zC (bA (xe j.heap.size j) (qR #[qM s r t,qM y A z,qM B m C,qM D o F] 248));have bx:=zC (xI j (qR #[qM s r t,qM y A z,qM B m C,qM D o F] 248));generalize World.alloc j _=l at *;have J:=zC (ad.trans (BX.mono ad.size))
 have v:=zC (show EX K l (λa=>Z a\/(Value.slice s r t).ownBlock=some a\/(Value.slice B m C).ownBlock=some a\/(Value.slice D o F).ownBlock=some a) E c R M from h.hold J (λ_ g=>.inl g) (λa q=>q.imp id (λd=>by
  obtain⟨az,a0,a1⟩:=a8.out
  have ae:∀{Q:TypeId}{Y:qT}{k:Nat}{b7:qU},j.ownsRow e.heap.size Q 1 Y k b7->Y.ownBlock=some a->Q∉ [81,63]->e.heap.size<=a/\a<l.heap.size/\∀(bf:qX)(Q:TypeId)(bg:Nat×Nat),l.heap[a]?=some (qR bf Q bg)->Q∉ [81,63]:=λW X ht=>by
   refine⟨(W.lt a X).1,ve (W.lt a X).2 BX.size,λbf cl bg ao=>?_⟩;obtain⟨co,cp,cf⟩:=jr W X;rw[BX.out.block a (W.lt a X).2,cf]at ao;simp at ao;rw[<- ao.2.1];exact ht
  rcases d with d | d | d
  ·exact ae az d qG
  ·exact ae a0 d qG
  exact ae a1 d qG)))
 have a9:=zC (show UU l (λa=>Z a\/(Value.slice s r t).ownBlock=some a\/(Value.slice B m C).ownBlock=some a\/(Value.slice D o F).ownBlock=some a) (qO j.heap.size 0) (some ⟨M.tx,M.ms,M.un,M.re⟩)from by
  obtain⟨az,a0,a1⟩:=a8;have ba:=KK.of (l:=YH) (Z:=Z) J;refine⟨j.heap.size,_,_,_,_,rfl,bx,⟨zF (zE az BX lR) (xK _),λa q=>.inr (.inl q)⟩,?_,⟨⟨b8,?_,GG.1.kk ba qG (λ_ g=>.inl g)⟩,λa q=>.inr (.inr (.inl q))⟩,⟨⟨b9,?_,GG.2.kk ba qG (λ_ g=>.inl g)⟩,λa q=>.inr (.inr (.inr q))⟩⟩
  ·have d:=v.ey.ms
   rw[a5.out.1]at d;exact d
  ·have d:=zF (zE a0 BX lR) (xK 0 |> λ_=>xK _)
   rw[U.out.2.1]at d |-;exact d
  have d:=zF (zE a1 BX lR) (xK 0 |> λ_=>xK _)
  rw[U.out.2.2.1]at d |-;exact d)
 have L:=zC (v.slotted bh a9)
 have bc:=zC (show PX K w Z E c (yp 13 (i:Nat) b1 b2 (qM ta tl tq)) {M with sl:=M.sl.set i (some ⟨M.tx,M.ms,M.un,M.re⟩)} (λa=>Z a\/(Value.slice s r t).ownBlock=some a\/(Value.slice B m C).ownBlock=some a\/(Value.slice D o F).ownBlock=some a) (l.setCell (qP E (7+i)) (qO j.heap.size 0))from by
  have af:KK YH Z e (l.setCell (qP E (7+i)) (qO j.heap.size 0)):=h.ey.ek ((EO.of J).trans (EO.set E (7+i) _ l)) qG
  exact⟨⟨_,L⟩,G.2.1.trans af (λ_ g=>g),λ_ g=>.inl g,af.ty G.2.2.2.1 qG,af.ty G.2.2.2.2 qG⟩)
 have bz:=v.ey.blk.f (7+i);obtain⟨cq,bu⟩:∃Y,R.ss[i]?=some Y:=⟨R.ss[i]'(by rw[v.out.ey.blk.1];exact bh),xw _⟩
 have b3:=v.ey.blk.slot bu;refine zi 19 (qO E (7+i)) ?_;go_simp;refine on 20 (H l J) ?_;gi_wp2_with fail;refine ZA qI (ac _ ((xj l (qP E (7+i)) w.heap.size _ (by show w.heap.size≠E;omega)).trans (J.block _ a2)) ⟨L.ey.blk.cl.1.trans h.ey.blk.cl.1.symm,L.ey.blk.cl.2.1.trans h.ey.blk.cl.2.1.symm,L.ey.blk.cl.2.2.1.trans h.ey.blk.cl.2.2.1.symm⟩) ?_ _;clear ac H a9 v L bz b3 bu GG U a5;have RR:=zC bc.2.2.2.2;have b4:=zC (bc.fin0 (x0:=0) (x1:=0) (x2:=0));go_wp2_with (refine ZM RR ?_);exact jK results122 RR rfl rfl b4
end
section
variable {w w':World} {Z:Nat->Prop} {E c:Nat} {x:VX} {M:SS} {K:KX} {kd b0 b1 b2:Int} {ta:Option Addr} {tl tq:Nat} {n m k i p:Nat}
def backE9(o:EX K w Z E c x M)(A:M.op=false)(B:i<8)(C:M.sl[i]?=some none):BX 123 w E 14 i b1 b2 (qM ta tl tq) (.iface 109 (qC 11)):=by
 unfold BX;have f:=zC (PB.start w (yp 14 i b1 b2 (qM ta tl tq)));have t:=zC o;clear o;go_enter func123,ntmps123;go_upto_region 1 with fail;generalize World.alloc (World.alloc w _) _=e at *;have d:=zC (t.below f.1);have g:=zC f.2.1;have SX:=zC (FX (b0:=i) d (er:=.nilIface) (by rw[A];simp only[Qb,if_false];exact FV qF));have h:e.cell? (qP w.heap.size 1)=some (qC i):=c8 1 g;go_wp2_with fail;refine SX.mono ?_;rintro F G ⟨rfl,p⟩;have u:=p.symm;subst u;clear p SX;go_upto_region 4 with fail;obtain⟨q,r⟩:∃z,x.ss[i]?=some z:=⟨x.ss[i]'(by rw[d.out.ey.blk.1];exact B),xw _⟩
 have j:=d.ey.sl.2 i q none r C;have v:q= .pointer none:=j;subst v;clear j;have D:(i:Int)<8:=qF
 have k:=zC (show ∀a:qS,qY e a->(a.cell? (qP w.heap.size 1)=some (qC i)/\a.cell? (qP E (7+i))=some (.pointer none))from λa b=>⟨(b.cell (qZ.1 g).1).trans h,(b.cell d.lt).trans (d.ey.blk.slot r)⟩);clear h;refine(vZ (n:=6)).1 ?_;refine yf (λa=>a.cell? (qP w.heap.size 1)=some (qC i)/\a.cell? (qP E (7+i))=some (.pointer none)) qI ?_;refine zi 0 (qO E 0) ?_;go_simp;refine zi 1 (qO w.heap.size 1) ?_;go_simp;refine zi 2 (qC i) ?_;go_simp;refine zi 3 (qO E 0) ?_;go_simp;refine zi 4 (qO E 7) ?_;go_simp;refine zi 5 (qO E (7+i)) ?_;go_simp;refine zi 6 (.pointer none) ?_;go_simp;refine zi 7 (.pointer none) ?_;go_simp;obtain⟨s,b⟩:∃a,a=e.drew:=⟨_,rfl⟩
 rw[<- b];have l:=zC (show qY e s from by rw[b];exact⟨rfl,rfl,rfl,lR,λ_ _=>rfl⟩);clear b;refine ZA qI (k s l) ?_ _;clear k;have m:=zC (f.below l);have RR:=zC m.2.2;have y:=zC (m.fin (row:=yg 0 0 0 qN qN));go_wp2_with (refine ZM RR ?_);exact jK results123 RR rfl rfl ⟨rfl,y⟩
def back9{kk}(m:EX K w Z E c x M)(az:M.op=false)(cq:i<8)(U:M.sl[i]?=some (some kk))(V:kk.un.length<=1000/\kk.re.length<=1000)(ht:kk.tx.length<=8192):AX K 123 w Z E c 14 i b1 b2 (qM ta tl tq) 0 0 0 [] [] {M with tx:=kk.tx,ms:=kk.ms,un:=kk.un,re:=kk.re,lg:=M.lg++ [⟨3,0,0,kk.tx⟩]}:=by
 unfold AX;have W:=zC (PX.start m (yp 14 i b1 b2 (qM ta tl tq)));have c6:=m.lt;have da:=zC (PB.start w (yp 14 i b1 b2 (qM ta tl tq))).1;have db:=λc w=>(K.mth c w).1
 have dc:=K.ent K.fLen qH;clear m;go_enter func123,ntmps123;go_upto_region 1 with fail;generalize World.alloc (World.alloc w _) _=L at *;obtain⟨O,bu⟩:=W.out.1;have B:=zC bu;have ak:=zC W.2.2.2.1;clear bu;have SX:=zC (FX (b0:=i) B (er:=.nilIface) (by rw[az];simp only[Qb,if_false];exact FV qF));have a7:L.cell? (qP w.heap.size 1)=some (qC i):=c8 1 ak;go_wp2_with fail;refine SX.mono ?_;rintro b dh ⟨rfl,bv⟩;have cd:=bv.symm;subst cd;clear bv SX;go_upto_region 4 with fail;obtain⟨bw,af⟩:∃C,O.ss[i]?=some C:=⟨O.ss[i]'(by rw[B.out.ey.blk.1];exact cq),xw _⟩
 have al:=B.ey.sl.2 i bw (some kk) af U
 obtain⟨p,ac,ad,ae,o,q,r,D,g,F,G,h,H,ct,t⟩:∃(p:Nat)(ac:qW)(ad ae:Nat)(o:qW)(q r:Nat)(D:qW)(g F:Nat)(G:qW)(h H:Nat),bw= .pointer (qD p 0)/\L.heap[p]?=some (qR #[qM ac ad ae,qM o q r,qM D g F,qM G h H] 248 (0,0)):=by
  obtain⟨p,bx,mv,dv,uv,b,t,ag,cu,⟨⟨a5,cv,_⟩,_⟩,⟨⟨a6,cw,_⟩,_⟩⟩:=al
  have X:∀{cr:TypeId}{cs n:Nat}{C:qT}{a4:qU},L.ownsRow 0 cr cs C n a4->∃ay N k,C= .slice ay N k:=λaz=>by
   rcases az.2 with ⟨b,_⟩ | ⟨bz,b3,b4,b,_⟩
   ·simp_all
   simp_all
  obtain⟨_,_,_,rfl⟩:=X ag.1;obtain⟨_,_,_,rfl⟩:=X cu;obtain⟨_,_,_,rfl⟩:=X cv;obtain⟨_,_,_,rfl⟩:=X cw
  simp_all
 subst ct;have HS:=zC al;have am:=zC t;have a8:=zC af;clear al t;have dd:(i:Int)<8:=qF
 have y:=zC (show ∀a:qS,qY L a->(a.cell? (qP w.heap.size 1)=some (qC i)/\a.cell? (qP E (7+i))=some (qO p 0))from λa f=>⟨(f.cell (qZ.1 ak).1).trans a7,(f.cell B.lt).trans (B.ey.blk.slot af)⟩);clear a7;refine(vZ (n:=6)).1 ?_;refine yf (λa=>a.cell? (qP w.heap.size 1)=some (qC i)/\a.cell? (qP E (7+i))=some (qO p 0)) qI ?_;refine zi 0 (qO E 0) ?_;go_simp;refine zi 1 (qO w.heap.size 1) ?_;go_simp;refine zi 2 (qC i) ?_;go_simp;refine zi 3 (qO E 0) ?_;go_simp;refine zi 4 (qO E 7) ?_;go_simp;refine zi 5 (qO E (7+i)) ?_;go_simp;refine zi 6 (qO p 0) ?_;go_simp;refine zi 7 (qO p 0) ?_;go_simp;obtain⟨u,f⟩:∃a,a=L.drew:=⟨_,rfl⟩
 rw[<- f];have j:=zC (show qY L u from by rw[f];exact⟨rfl,rfl,rfl,lR,λ_ _=>rfl⟩);clear f;refine ZA qI (y u j) ?_ _;clear y;have a9:=zC (W.below j);have an:=zC (B.below j);have R:=zC ((j.block p (qZ.1 am).1).trans am);have ba:=zC (HS.kk (l:=YH) (KK.of j) qG qG (λ_ m=>m));clear HS am j W B ak af;have de:=λc w=>(K.mth c w).2.2.2.2.2.1
 have df:=K.ent K.fLod qH;have bc:=an.c6;have bd:u.cell? (qP p 0)=some (qM ac ad ae):=c8 0 R;have ce:=λa0 a1=>cell_regrown bc a0 a1
 have cf:=λa0 a1=>cell_regrown bd a0 a1
 go_upto_region 7 with fail;clear bc bd;refine(vZ (n:=6)).1 ?_;refine zM 10 qI qI ?_;simp only[vc,vY,vE,vz]
 repeat (refine wpQuietIn_step (λ_ _ _ _=>trivial) (λK bt=>?_);go_simp;first | (refine bt _ ?_;clear bt K))
 refine wpQuietIn_nil ?_;intro _ cn;obtain⟨⟨b5,b6⟩,cx⟩:=cn;subst cx;have S:=zC (below_regrown u b5 b6);clear ce cf;generalize grow (redrawn u b5) b6=dg at *;have bf:=zC (a9.below S);have Y:=zC (an.below S)
 have bg:=zC (K.cLod Y.cr Y.ey.zl (by
  obtain⟨cy,bx,mv,dv,uv,b,t,ag,_⟩:=ba.out;simp only[Value.pointer.injEq,xE,Addr.mk.injEq]at b;have ao:=b.1;subst ao;rw[R.out]at t;simp only[xE,kf,Array.mk.injEq,List.cons.injEq]at t;rw[<- t.1.1]at ag
  exact ag.kk (l:=YH) (KK.of S) (λ_ m=>m)) ht)
 have bh:=zC ((S.block p (qZ.1 R).1).trans R);clear a9 S R ba an;gi_wp2_with fail;refine⟨xB,(vn.2 bg).mono ?_⟩;rintro b v ⟨rfl,b7,ah⟩;have I:=zC (Y.core (l:=⟨3,0,0,kk.tx⟩) ah b7 (by simp[KX.app]) (K.tLod _));have bi:=zC (bf.same ⟨_,I⟩ (ah.weak qG));have aa:=zC (ah.ty bh qG);clear b7 ah bg bf Y bh;gi_wp2_with fail
 obtain⟨cz,b8,⟨⟨a5,ai,aw⟩,_⟩,⟨⟨a6,aj,ax⟩,_⟩⟩:TX v Z (qM ac ad ae) kk.tx/\zS v 0 (qM o q r) kk.ms/\(Ko v Z (qM D g F) kk.un/\∀e,(Value.slice D g F).ownBlock=some e->Z e)/\(Ko v Z (qM G h H) kk.re/\∀e,(Value.slice G h H).ownBlock=some e->Z e):=by
  obtain⟨cy,bx,mv,dv,uv,b,t,d⟩:=I.out.ey.sl.2 i _ (some kk) a8 U;simp only[Value.pointer.injEq,xE,Addr.mk.injEq]at b;have ao:=b.1;subst ao;rw[aa.out]at t;simp only[xE,kf,Array.mk.injEq,List.cons.injEq]at t;obtain⟨⟨z,A,c0,c1,_⟩,_⟩:=t;subst z A c0 c1;exact d
 have ap:g=kk.un.length:=by
  rcases ai.2 with ⟨b,c2⟩ | ⟨bz,b3,b4,b,_⟩
  ·simp_all
  simp_all
 have aq:h=kk.re.length:=by
  rcases aj.2 with ⟨b,c2⟩ | ⟨bz,b3,b4,b,_⟩
  ·simp_all
  simp_all
 rw[<- ap]at ai V;rw[<- aq]at aj V;have bj:=zC (λa(f:qY v a)=>Ou (zE ai f lR) (zE aj f lR) (λa2 a3=>by obtain⟨ay,N,k,rfl⟩:=aw.sl a2 a3;rfl) (λa2 a3=>by obtain⟨ay,N,k,rfl⟩:=ax.sl a2 a3;rfl) V.1 V.2);have HM:=zC b8;have GG:=zC (And.intro aw ax);have bk:=zC (And.intro ap aq);clear cz b8 ai aw aj ax ap aq V;have LP:=zC (qZ.1 aa).1
 have y:=zC (show ∀a:qS,a.heap[p]? =v.heap[p]?->(a.cell? (qP p 1)=some (qM o q r)/\a.cell? (qP p 2)=some (qM D g F)/\a.cell? (qP p 3)=some (qM G h H))from λa f=>by
  have d:=f.trans aa
  exact⟨c9 d rfl,c9 d rfl,c9 d rfl⟩)
 go_upto_region 8 with fail;refine(vZ (n:=6)).1 ?_;refine yf (λa=>a.cell? (qP p 1)=some (qM o q r)/\a.cell? (qP p 2)=some (qM D g F)/\a.cell? (qP p 3)=some (qM G h H)) qI ?_;refine zi 0 (qO E 0) ?_;go_simp;refine zi 1 (qO E 0) ?_;go_simp;refine zi 2 (qO p 0) ?_;go_simp;refine zi 3 (qO p 0) ?_;go_simp;refine zi 4 (qO p 1) ?_;go_simp;refine zi 5 (.agg #[qM o q r]) ?_;go_simp;refine zi 6 (qO p 0) ?_;go_simp;refine zi 7 (qO p 0) ?_;go_simp;refine zi 8 (qO p 2) ?_;go_simp;refine zi 9 (.agg #[qM D g F,qM G h H]) ?_;go_simp;obtain⟨u,f⟩:∃a,a=v.drew:=⟨_,rfl⟩
 rw[<- f];have j:=zC (show qY v u from by rw[f];exact⟨rfl,rfl,rfl,lR,λ_ _=>rfl⟩);clear f;refine on 10 (y u (j.block p LP)) ?_;have bl:=zC (bj u j);gi_wp2_with fail;refine⟨xB,(vn.2 bl).mono ?_⟩;rintro b s ⟨P,z,Q,A,rfl,b9,ca,cb,cc⟩;have J:=zC (j.trans (cc.mono j.size));have T:=zC (And.intro (zF b9 j.size) (zF ca j.size));have bn:=zC cb;clear b9 ca cb cc bl bj;gi_wp2_with fail;refine zi 11 (qO E 0) ?_;go_simp;refine zi 12 (qO E 0) ?_;go_simp;have l:=zC (I.below J);have bp:=zC (bi.below J)
 have ab:=zC (show p≠E from λb=>by
  have d:=I.ey.blk.2;rw[<- b,aa.out]at d;simp only[xE,kf]at d
  simp_all)
 obtain⟨c3,c4,c5,_⟩:=l.out.ey.blk.cl;have cg:=l.ey.blk.f 0;have ch:=l.ey.blk.f 1;have ci:=l.ey.blk.f 2;refine on 13 (y s (J.block p LP)) ?_;gi_wp2_with fail;refine zi 14 (qO E 0) ?_;go_simp;refine zi 15 (qO E 1) ?_;go_simp;refine zi 16 (qO E 1) ?_;go_simp;refine on 17 (y _ ((xj s (qP E 0) p _ ab).trans (J.block p LP))) ?_;gi_wp2_with fail
 have bq:=zC (show EX K (((s.setCell (qP E 0) (qM o q r)).setCell (qP E 1) (qM P g z)).setCell (qP E 2) (qM Q h A)) Z E c {O with mv:=.slice o q r,dv:=.slice P g z,uv:=.slice Q h A} {M with tx:=kk.tx,ms:=kk.ms,un:=kk.un,re:=kk.re,lg:=M.lg++ [⟨3,0,0,kk.tx⟩]} from by
  have ar:EO E s (((s.setCell (qP E 0) (qM o q r)).setCell (qP E 1) (qM P g z)).setCell (qP E 2) (qM Q h A)):=((EO.set E 0 _ s).trans (EO.set E 1 _ _)).trans (EO.set E 2 _ _);have cj:=((l.ey.blk.set (x':={O with mv:=.slice o q r}) 0 _ l.ey.blk.1 rfl).set (x':={O with mv:=.slice o q r,dv:=.slice P g z}) 1 _ l.ey.blk.1 rfl).set (x':={O with mv:=.slice o q r,dv:=.slice P g z,uv:=.slice Q h A}) 2 (qM Q h A) l.ey.blk.1 rfl;have au:KK [138,232,166,248] Z s _:=l.ey.ek ar qG;have av:=(KK.of J).trans au (λ_ m=>m);have e:=l.ep ar;have br:∀{C:qT}{k:Nat}{a4:qU},s.ownsRow v.heap.size 138 1 C k a4->∀e,C.ownBlock=some e->¬Z e:=λco e cp d=>by have:=(co.lt e cp).1;have:=I.ey.zl e d;omega
  have ck:s.ownsRow 0 138 1 (qM P g z) kk.un.length a5:=(by have d:=zF T.1 (xK _);rw[bk.out.1]at d |-;exact d);have cl:s.ownsRow 0 138 1 (qM Q h A) kk.re.length a6:=by have d:=zF T.2 (xK _);rw[bk.out.2]at d |-;exact d
  exact l.put ar cj ⟨rfl,rfl⟩ ⟨yY HM av (.inl qG),⟨⟨a5,yY ck au (.inl qG),GG.1.kk av qG (λ_ m=>m)⟩,br T.1⟩,⟨⟨a6,yY cl au (.inl qG),GG.2.kk av qG (λ_ m=>m)⟩,λk U=>⟨br T.2 k U,bn k U⟩⟩,e.cu,e.cvs,e.sl⟩)
 have bs:=zC (bp.same ⟨_,bq⟩ (l.ey.ek (((EO.set E 0 _ s).trans (EO.set E 1 _ _)).trans (EO.set E 2 _ _)) qG));refine ZA qI (y _ ((((xj _ (qP E 2) p _ ab).trans (xj _ (qP E 1) p _ ab)).trans (xj s (qP E 0) p _ ab)).trans (J.block p LP))) ?_ _;clear y I l bq bi bp GG HM T bn a8 c3 c4 c5 cg ch ci;have RR:=zC bs.2.2.2.2;have cm:=zC (bs.fin0 (x0:=0) (x1:=0) (x2:=0));go_wp2_with (refine ZM RR ?_);exact jK results123 RR rfl rfl cm
end
end

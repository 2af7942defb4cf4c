import Derived.Test.YtacmdegboldnlaaGreatDoorMq35
set_option linter.all false
set_option maxRecDepth 100000
set_option maxHeartbeats 8000000
namespace Go.Proofs.YtacmdegboldnlaaGreatDoor
open Go Go.RowKit Go.Proofs.Tryz
open And renaming intro→qa5
open _root_.Array renaming size→N
open Bool renaming false→VP,true→VR
open Go renaming below_regrown→qa7,cell_regrown→qa6,redrawn→qab,wpQuietIn_nil→qa9,wpQuietIn_step→qa8
open List renaming length→L
open Option renaming some→O
open _root_.Go.Value renaming ownBlock→VD,slice→VK
open _root_.Go.World renaming alloc→VF,cell?→VE,heap→Y
section
open Go.Sort Go.BigFrame
section
variable {w w':World} {Z:Nat->Prop} {E c:Nat} {x:VX} {M:SS} {K:KX} {kd b0 b1 b2:Int} {ta:Option Addr} {tl tq:Nat} {n m k:Nat}
def Lr{v vs}(a:w.ownsRow 0 137 1 v n vs)(h:∀u∈vs,u.oneCell'=VR)(G:n<=1000):
  Calls prog 181 #[v] w λc w'=>∃g,c=V5 g/\w'.ownsRow (N (Y w)) 137 1 g n vs/\qa3 w w':=by
 obtain⟨q,r,s,t,x⟩:=kB Tryz.qK;have j:=zC a.1;obtain⟨rfl,y⟩|⟨z,i,H,rfl,_,A,I,B,_⟩:=id a.2
 ·have c:vs= []:=xR (by have:=a.1;omega)
  subst c y;clear a;have b:=λw:V8=>Lib.run_eql_slice_nil w 133 137 none 0 0 0 0 underlying133
  simp at b;go_enter func181,ntmps181;go_wp2;go_ret;exact⟨_,rfl,vz _ _ _ _,xF _ _⟩
 have e:(VF w (V6 #[] 137)).heap[N (Y w)]?=O _:=xJ _ _;have C:N (Y (VF w (V6 #[] 137)))=N (Y w)+1:=VT
 have k:=zC ((xF _ w).alloc lR (V6 #[] 137));have l:=zC (show(w.alloc _).ownsRow _ 137 1 _ 0 []from⟨rfl,.inr ⟨_,0,#[],rfl,lR,e,lR,VC,rfl,rfl⟩⟩);have RC:=zC ((vV a (V6 #[] 137)).cells rfl);have m:=zC h;unfold maxLen at B;have b:=λw:V8=>Lib.run_eql_slice_nil w 133 137 (qQ z 0) n i 0 0 underlying133
 simp at b;clear a e A h;go_enter func181,ntmps181;go_wp2_with (at_builtin;refine xX _ rfl _ _ 133 rfl _ 137 q _ 1 24 underlying133 r s t x rfl VS (VZ _ 0 0) 0 [] rfl (l) _ n i vs rfl (by have:=j.A;omega) (RC) (m) VW VC VT ?_;intro D E d f _;have o:=zC (k.grown f VC (λF b=>by simp only[VD,xP]at b;omega));have p:=zC (by rw[vg,vL]at d;exact d);clear d f);go_ret;exact⟨_,rfl,p,o⟩
def Ls{da ua dk uk vs us}(l:w.ownsRow 0 137 1 (VZ da n dk) n vs)(x:w.ownsRow 0 137 1 (VZ ua m uk) m us)(ae:∀u∈vs,u.oneCell'=VR)(af:∀u∈us,u.oneCell'=VR)(ag:n<=1000)(ah:m<=1000):
  Calls prog 160 #[.agg #[VZ da n dk,VZ ua m uk]] w λg w'=>∃c d e f,g=V5 (.agg #[VZ c n d,VZ e m f])/\w'.ownsRow (N (Y w)) 137 1 (VZ c n d) n vs/\w'.ownsRow (N (Y w)) 137 1 (VZ e m f) m us/\(∀a,VD (VK e m f)=O a->VD (VK c n d)≠O a)/\qa3 w w':=by
 have s:=zC (bA (bA (xF _ w) (V6 #[VZ da n dk,VZ ua m uk] 135)) (V6 #[V0,V0] 135));have R:=zC (Pw w (V6 #[V0,V0] 135) #[VZ da n dk,VZ ua m uk] 135);have S:=zC (Er w (V6 #[VZ da n dk,VZ ua m uk] 135) #[V0,V0] 135);have T:=zC (λb(j:Below _ w b)=>Lr (zE l j lR) ae ag);have U:=zC (λb(j:Below _ w b)=>Lr (zE x j lR) af ah);clear l x;go_enter func160,ntmps160;go_upto_region 1 with fail;generalize VF _ _=I at*;have h:=zC ((xG.1 S).1);have q:=zC (show ∀b:V8,b.heap[N (Y w)]? =I.heap[N (Y w)]?->(b.cell? _=O (VZ da n dk)/\b.cell? _=O (VZ ua m uk))from λb l=>⟨c9 (i:=0) (l.R R) rfl,c9 (i:=1) (l.R R) rfl⟩);refine(kS (n:=6)).1 ?_;refine yU (λb=>VE b (V4 (N (Y w)) 0)=O (VZ da n dk)/\VE b (V4 (N (Y w)) 1)=O (VZ ua m uk)) VU ?_;refine zj 0 _ ?_;go_simp;refine zj 1 _ ?_;go_simp;refine zj 3 _ ?_;go_simp;refine zj 4 _ ?_;go_simp;obtain⟨M,j⟩:∃b,b=I.drew:=⟨_,rfl⟩
 rw[<- j];have r:=zC (show qa3 I M from by rw[j];exact⟨rfl,rfl,rfl,lR,λ_ _=>rfl⟩);clear j;have A:=zC (s.R (r.G s.size));refine on 2 (q M (r.block _ (by have:=h.A;omega))) ?_;gi_wp2_with fail;refine⟨xN,(vD.2 (T M A)).G ?_⟩;rintro g V ⟨ai,rfl,P,Q⟩
 obtain⟨c,d,aj⟩:∃K k,ai= .slice K n k:=by
  obtain⟨g,ak⟩|⟨al,am,an,g,_⟩:=P.2
  ·simp_all
  exact⟨_,_,g⟩
 subst aj;have t:=zC (r.R (Q.G r.size));have B:=zC (A.R (Q.G A.size));have C:=zC P;clear P Q;gi_wp2_with fail;refine on 5 (q V (t.block _ (by have:=h.A;omega))) ?_;gi_wp2_with fail;refine⟨xN,(vD.2 (U V B)).G ?_⟩;rintro g p ⟨ao,rfl,y,z⟩
 obtain⟨e,f,ap⟩:∃K k,ao= .slice K m k:=by
  obtain⟨g,ak⟩|⟨al,am,an,g,_⟩:=y.2
  ·simp_all
  exact⟨_,_,g⟩
 subst ap;have D:=zC (t.R (z.G t.size));have W:=zC (B.R (z.G B.size));have X:=zC (show ∀a,VD (VK e m f)=O a->VD (VK c n d)≠O a from λa l x=>by have:=(y.lt a l).1;have:=(C.lt a x).2;omega);have E:=zC (zF (zE C z lR) r.size);have F:=zC (zF y t.size);clear y z C T U;gi_wp2_with fail;refine zj 6 _ ?_;go_simp;refine on 7 (q p (D.block _ (by have:=h.A;omega))) ?_;have G:=zC ((D.block _ h).R S);refine zV rfl 135 _ _ rfl _ _ _ 135 rfl rfl G VU rfl (by simp[Value.oneCell']) ?_;have H:=zC (QH p _ _ #[VZ c n d,VZ e m f] _ _ G);have v:=zC (λa o=>kD p (N (Y w)+1) a #[VZ c n d,VZ e m f] o);have Z:=zC (show Below _ w (p.setRow (N (Y w)+1) #[VZ c n d,VZ e m f])from W.R ⟨rfl,rfl,rfl,VT,λa o=>kD p _ a _ VC⟩);generalize p.setRow _ _=J at*;refine Qg ?_;go_simp;refine jr VU (q J ((v _ VC).R (D.block _ (by have:=h.A;omega)))) ?_ _;have aa:J.cell? _=O (VZ c n d):=c8 0 H;have ab:J.cell? _=O (VZ e m f):=c8 1 H;have ac:=zC (zF (zD E (λa o=>v a (by have:=(E.lt a o).1;have:=h.A;omega))) s.size);have ad:=zC (zF (zD F (λa o=>v a (by have:=(F.lt a o).1;have:=h.A;omega))) s.size);clear E F q G H v;go_wp2_with fail;exact vE (by simp[results,go_sem,aa,ab]) rfl ⟨c,d,e,f,rfl,ac,ad,X,Z⟩
end
section
variable {w w':World} {Z:Nat->Prop} {E c:Nat} {x:VX} {M:SS} {K:KX} {kd b0 b1 b2:Int} {ta:Option Addr} {tl tq:Nat} {n m k i p:Nat}
def EX.slotted{kk}(a:EX K w Z E c x M)(g:i<8)(o:Tv w Z (V3 p 0) (O kk)):EX K (w.setCell (V4 E (7+i)) (V3 p 0)) Z E c {x with ss:=x.ss.set i (V3 p 0)} {M with sl:=M.sl.set i (O kk)}:=by
 have f:=EO.set E (7+i) (V3 p 0) w;have b:=a.ep f;have k:=a.ey.ek (l:=[168,254]) f VS;refine a.put f (a.ey.blk.set _ _ (by rw[QL];exact a.ey.blk.1) ?_) ⟨rfl,rfl⟩ ⟨b.ms,b.dn,b.ud,b.cu,b.cvs,by rw[QL];exact b.sl.1,λj m n d e=>?_⟩
 ·rw[show 7+i=i+1+1+1+1+1+1+1 by omega]
  simp only[Va];rw[List.set_append_left _ _ (by rw[a.ey.blk.1];exact g)]
 by_cases h:i=j
 ·subst h
  simp at d e;rw[Vq (by rw[a.ey.blk.1];exact g)]at d;rw[Vq (by rw[b.sl.1];exact g)]at e;simp at d e;subst d e;exact o.kk k VS VS (λ_ a=>a)
 simp at d e;rw[List.getElem?_set_ne h]at d e;exact b.sl.2 j m n d e
def snap9(g:EX K w Z E c x M)(b9:M.op=VP)(bk:i<8)(ae:L M.un<=1000/\L M.re<=1000):AX K 128 w Z E c 13 i b1 b2 (VZ ta tl tq) 0 0 0 [] [] {M with sl:=M.sl.set i (O ⟨M.tx,M.ms,M.un,M.re⟩)}:=by
 unfold AX;have G:=zC (PX.start g (yZ 13 i b1 b2 (VZ ta tl tq)));have cj:=g.lt;have ck:=zC (PB.start w (yZ 13 i b1 b2 (VZ ta tl tq))).1;have cl:=λc w=>(K.mth c w).1
 have cm:=K.ent K.fLen VT;clear g;go_enter func128,ntmps128;go_upto_region 1 with fail;generalize VF (VF w _) _=e at*;obtain⟨U,bl⟩:=G.A.1;have h:=zC bl;have af:=zC G.2.2.2.1;clear bl;have SX:=zC (GH (b0:=i) h (er:=.nilIface) (by rw[b9];simp only[Qh,QZ];exact GF VC));have bz:VE e (V4 (N (Y w)) 1)=O (qP i):=c8 1 af;go_wp2_with fail;refine SX.G ?_;rintro p cp ⟨rfl,bn⟩;have b3:=bn.J;subst b3;clear bn SX;go_upto_region 4 with fail;obtain⟨y,z,aa⟩:=h.A.ey.ms.val;obtain⟨cb,V,ak⟩:=h.A.ey.dn.1;obtain⟨cc,W,al⟩:=h.A.ey.ud.1
 obtain⟨av,aw,Q⟩:∃S k,U.dv= .slice S (L M.un) k:=by
  obtain⟨p,cd⟩|⟨ce,cf,cg,p,_⟩:=V.2
  ·simp_all
  exact⟨_,_,p⟩
 obtain⟨ax,ay,R⟩:∃S k,U.uv= .slice S (L M.re) k:=by
  obtain⟨p,cd⟩|⟨ce,cf,cg,p,_⟩:=W.2
  ·simp_all
  exact⟨_,_,p⟩
 obtain⟨A,am⟩:∃k,k=L M.ms:=⟨_,rfl⟩
 obtain⟨m,an⟩:∃k,k=L M.un:=⟨_,rfl⟩
 obtain⟨o,ao⟩:∃k,k=L M.re:=⟨_,rfl⟩
 obtain⟨r,bh⟩:∃k,k=L M.tx:=⟨_,rfl⟩
 rw[<- am]at aa;rw[<- an]at Q V ae;rw[<- ao]at R W ae;rw[Q]at V;rw[R]at W
 have ag:=zC (show ∀b:V8,b.heap[N (Y w)]? =e.heap[N (Y w)]?->VE b (V4 E 0)=VE e (V4 E 0)/\VE b (V4 E 1)=VE e (V4 E 1)/\VE b (V4 E 2)=VE e (V4 E 2)->(VE b (V4 (N (Y w)) 1)=O (qP i)/\VE b (V4 E 0)=O (VZ y A z)/\VE b (V4 E 1)=O (VZ av m aw)/\VE b (V4 E 2)=O (VZ ax o ay))from λb b8 ap=>by
  obtain⟨bp,bq,br,_⟩:=h.A.ey.blk.cl;rw[aa]at bp;rw[Q]at bq;rw[R]at br
  exact⟨c9 (b8.R af) rfl,ap.1.R bp,ap.2.1.R bq,ap.2.2.R br⟩)
 have LE:=h.lt;have a6:=zC (xG.1 af).1;have H:=zC (λb(f:qa3 e b)=>ag b (f.block _ a6) ⟨f.U LE,f.U LE,f.U LE⟩);have a7:=zC (λb(f:qa3 e b)=>zBa (h.I f));have a8:=zC (λb(f:qa3 e b)=>Ls (zE V f lR) (zE W f lR) (λaq ar=>by obtain⟨S,bs,k,rfl⟩:=ak.sl aq ar;rfl) (λaq ar=>by obtain⟨S,bs,k,rfl⟩:=al.sl aq ar;rfl) ae.1 ae.2);have GG:=zC (qa5 ak al);have X:=zC (qa5 am (qa5 an (qa5 ao bh)));have a9:=zC (qa5 aa (qa5 Q R));have cn:(i:Int)<8:=VC
 clear am an ao bh aa Q R V W ak al bz;refine(kS (n:=6)).1 ?_;refine yU (λb=>VE b (V4 (N (Y w)) 1)=O (qP i)/\VE b (V4 E 0)=O (VZ y A z)/\VE b (V4 E 1)=O (VZ av m aw)/\VE b (V4 E 2)=O (VZ ax o ay)) VU ?_;refine zj 0 (V3 E 0) ?_;go_simp;refine zj 1 (V3 (N (Y w)) 1) ?_;go_simp;refine zj 2 (qP i) ?_;go_simp;refine zj 3 (V3 E 0) ?_;go_simp;refine zj 5 (V3 E 0) ?_;go_simp;refine zj 6 (V3 E 0) ?_;go_simp;refine zj 7 (V3 E 0) ?_;go_simp;refine zj 8 (.agg #[VZ y A z]) ?_;go_simp;refine zj 9 (V3 E 0) ?_;go_simp;refine zj 10 (V3 E 0) ?_;go_simp;refine zj 11 (V3 E 1) ?_;go_simp;refine zj 12 (V3 E 1) ?_;go_simp;refine zj 13 (.agg #[VZ av m aw,VZ ax o ay]) ?_;go_simp;refine zj 17 (V3 E 0) ?_;go_simp;refine zj 18 (V3 E 7) ?_;go_simp;obtain⟨az,f⟩:∃b,b=e.drew:=⟨_,rfl⟩
 rw[<- f];have I:=zC (show qa3 e az from by rw[f];exact⟨rfl,rfl,rfl,lR,λ_ _=>rfl⟩);clear f;refine on 4 (H az I) ?_;gi_wp2_with fail;refine⟨xN,(vD.2 (a7 az I)).G ?_⟩;rintro p a0 ⟨cq,rfl,a1,bt⟩;obtain⟨s,t,bu⟩:=zS a1;rw[<- X.A.2.2.2]at bu;subst bu;have u:=zC (I.R (bt.G I.size));have ba:=zC (show zH a0 (N (Y e)) (VZ s r t) M.tx from zF a1 I.size);clear a1 bt a7;gi_wp2_with fail;refine on 14 (H a0 u) ?_;have CQ:=zC (a8 a0 u);gi_wp2_with fail;refine⟨xN,(vD.2 CQ).G ?_⟩;rintro p j ⟨B,C,D,F,rfl,bv,bw,ch,a2⟩;have ah:=zC (u.R (a2.G u.size));have bc:=zC (qa5 (zE ba a2 lR) (qa5 (zF bv u.size) (zF bw u.size)));clear bv bw ch a2 CQ a8 ba;gi_wp2_with fail;refine zj 15 (.agg #[VZ s r t,VZ y A z,VZ B m C,VZ D o F]) ?_;go_simp;refine on 16 (H j ah) ?_;gi_wp2_with fail;have BX:=zC (bA (xF (N (Y j)) j) (V6 #[VZ s r t,VZ y A z,VZ B m C,VZ D o F] 254));have b4:=zC (xJ j (V6 #[VZ s r t,VZ y A z,VZ B m C,VZ D o F] 254));generalize VF j _=l at*;have J:=zC (ah.R (BX.G ah.size))
 have v:=zC (show EX K l (λa=>Z a\/VD (VK s r t)=O a\/VD (VK B m C)=O a\/VD (VK D o F)=O a) E c U M from h.hold J (λ_ g=>.inl g) (λa q=>q.imp id (λd=>by
  obtain⟨a3,a4,a5⟩:=bc.A
  have ai:∀{T:TypeId}{ad:Jo}{k:Nat}{ca:Ki},j.ownsRow (N (Y e)) T 1 ad k ca->VD ad=O a->T∉ [79,61]->N (Y e)<=a/\a<N (Y l)/\∀(bi:qa2)(T:TypeId)(bj:Nat×Nat),l.heap[a]?=O (V6 bi T bj)->T∉ [79,61]:=λab ac ht=>by
   refine⟨(ab.lt a ac).1,vh (ab.lt a ac).2 BX.size,λbi co bj au=>?_⟩;obtain⟨cr,cs,ci⟩:=jg ab ac;rw[BX.A.block a (ab.lt a ac).2,ci]at au;simp at au;rw[<- au.2.1];exact ht
  obtain d|d|d:=d
  ·exact ai a3 d VS
  ·exact ai a4 d VS
  exact ai a5 d VS)))
 have bd:=zC (show Tv l (λa=>Z a\/VD (VK s r t)=O a\/VD (VK B m C)=O a\/VD (VK D o F)=O a) (V3 (N (Y j)) 0) (O ⟨M.tx,M.ms,M.un,M.re⟩)from by
  obtain⟨a3,a4,a5⟩:=bc;have bf:=KK.of (l:=Zt) (Z:=Z) J;refine⟨N (Y j),_,_,_,_,rfl,b4,⟨zF (zE a3 BX lR) (xY _),λa q=>.inr (.inl q)⟩,?_,⟨⟨cb,?_,GG.1.kk bf VS (λ_ g=>.inl g)⟩,λa q=>.inr (.inr (.inl q))⟩,⟨⟨cc,?_,GG.2.kk bf VS (λ_ g=>.inl g)⟩,λa q=>.inr (.inr (.inr q))⟩⟩
  ·have d:=v.ey.ms
   rw[a9.A.1]at d;exact d
  ·have d:=zF (zE a4 BX lR) (xY 0 |> λ_=>xY _)
   rw[X.A.2.1]at d |-;exact d
  have d:=zF (zE a5 BX lR) (xY 0 |> λ_=>xY _)
  rw[X.A.2.2.1]at d |-;exact d)
 have P:=zC (v.slotted bk bd)
 have bg:=zC (show PX K w Z E c (yZ 13 (i:Nat) b1 b2 (VZ ta tl tq)) {M with sl:=M.sl.set i (O ⟨M.tx,M.ms,M.un,M.re⟩)} (λa=>Z a\/VD (VK s r t)=O a\/VD (VK B m C)=O a\/VD (VK D o F)=O a) (l.setCell (V4 E (7+i)) (V3 (N (Y j)) 0))from by
  have aj:KK Zt Z e (l.setCell (V4 E (7+i)) (V3 (N (Y j)) 0)):=h.ey.ek ((EO.of J).R (EO.set E (7+i) _ l)) VS
  exact⟨⟨_,P⟩,G.2.1.R aj (λ_ g=>g),λ_ g=>.inl g,aj.ty G.2.2.2.1 VS,aj.ty G.2.2.2.2 VS⟩)
 have b5:=v.ey.blk.f (7+i);obtain⟨ct,bx⟩:∃ad,U.ss[i]?=O ad:=⟨U.ss[i]'(by rw[v.A.ey.blk.1];exact bk),xI _⟩
 have b6:=v.ey.blk.slot bx;refine zj 19 (V3 E (7+i)) ?_;go_simp;refine on 20 (H l J) ?_;gi_wp2_with fail;refine jr VU (ag _ ((xM l (V4 E (7+i)) (N (Y w)) _ (by show N (Y w)≠E;omega)).R (J.block _ a6)) ⟨P.ey.blk.cl.1.R h.ey.blk.cl.1.J,P.ey.blk.cl.2.1.R h.ey.blk.cl.2.1.J,P.ey.blk.cl.2.2.1.R h.ey.blk.cl.2.2.1.J⟩) ?_ _;clear ag H bd v P b5 b6 bx GG X a9;have RR:=zC bg.2.2.2.2;have b7:=zC (bg.fin0 (x0:=0) (x1:=0) (x2:=0));go_wp2_with (refine ZD RR ?_);exact yw results128 RR rfl rfl b7
end
section
variable {w w':World} {Z:Nat->Prop} {E c:Nat} {x:VX} {M:SS} {K:KX} {kd b0 b1 b2:Int} {ta:Option Addr} {tl tq:Nat} {n m k i p:Nat}
def backE9(o:EX K w Z E c x M)(A:M.op=VP)(B:i<8)(C:M.sl[i]?=O none):BX 129 w E 14 i b1 b2 (VZ ta tl tq) (.iface 109 (qP 11)):=by
 unfold BX;have f:=zC (PB.start w (yZ 14 i b1 b2 (VZ ta tl tq)));have t:=zC o;clear o;go_enter func129,ntmps129;go_upto_region 1 with fail;generalize VF (VF w _) _=e at*;have d:=zC (t.I f.1);have g:=zC f.2.1;have SX:=zC (GH (b0:=i) d (er:=.nilIface) (by rw[A];simp only[Qh,QZ];exact GF VC));have h:VE e (V4 (N (Y w)) 1)=O (qP i):=c8 1 g;go_wp2_with fail;refine SX.G ?_;rintro F G ⟨rfl,p⟩;have u:=p.J;subst u;clear p SX;go_upto_region 4 with fail;obtain⟨q,r⟩:∃z,x.ss[i]?=O z:=⟨x.ss[i]'(by rw[d.A.ey.blk.1];exact B),xI _⟩
 have j:=d.ey.sl.2 i q none r C;have v:q= .pointer none:=j;subst v;clear j;have D:(i:Int)<8:=VC
 have k:=zC (show ∀a:V8,qa3 e a->(VE a (V4 (N (Y w)) 1)=O (qP i)/\VE a (V4 E (7+i))=O (.pointer none))from λa b=>⟨(b.U (xG.1 g).1).R h,(b.U d.lt).R (d.ey.blk.slot r)⟩);clear h;refine(kS (n:=6)).1 ?_;refine yU (λa=>VE a (V4 (N (Y w)) 1)=O (qP i)/\VE a (V4 E (7+i))=O (.pointer none)) VU ?_;refine zj 0 (V3 E 0) ?_;go_simp;refine zj 1 (V3 (N (Y w)) 1) ?_;go_simp;refine zj 2 (qP i) ?_;go_simp;refine zj 3 (V3 E 0) ?_;go_simp;refine zj 4 (V3 E 7) ?_;go_simp;refine zj 5 (V3 E (7+i)) ?_;go_simp;refine zj 6 (.pointer none) ?_;go_simp;refine zj 7 (.pointer none) ?_;go_simp;obtain⟨s,b⟩:∃a,a=e.drew:=⟨_,rfl⟩
 rw[<- b];have l:=zC (show qa3 e s from by rw[b];exact⟨rfl,rfl,rfl,lR,λ_ _=>rfl⟩);clear b;refine jr VU (k s l) ?_ _;clear k;have m:=zC (f.I l);have RR:=zC m.2.2;have y:=zC (m.fin (row:=yV 0 0 0 V0 V0));go_wp2_with (refine ZD RR ?_);exact yw results129 RR rfl rfl ⟨rfl,y⟩
def back9{kk}(m:EX K w Z E c x M)(a4:M.op=VP)(cu:i<8)(X:M.sl[i]?=O (O kk))(aa:L kk.un<=1000/\L kk.re<=1000)(ht:L kk.tx<=8192):AX K 129 w Z E c 14 i b1 b2 (VZ ta tl tq) 0 0 0 [] [] {M with tx:=kk.tx,ms:=kk.ms,un:=kk.un,re:=kk.re,lg:=M.lg++ [⟨3,0,0,kk.tx⟩]}:=by
 unfold AX;have ab:=zC (PX.start m (yZ 14 i b1 b2 (VZ ta tl tq)));have dd:=m.lt;have de:=zC (PB.start w (yZ 14 i b1 b2 (VZ ta tl tq))).1;have df:=λc w=>(K.mth c w).1
 have dg:=K.ent K.fLen VT;clear m;go_enter func129,ntmps129;go_upto_region 1 with fail;generalize VF (VF w _) _=P at*;obtain⟨R,bz⟩:=ab.A.1;have B:=zC bz;have ap:=zC ab.2.2.2.1;clear bz;have SX:=zC (GH (b0:=i) B (er:=.nilIface) (by rw[a4];simp only[Qh,QZ];exact GF VC));have bd:VE P (V4 (N (Y w)) 1)=O (qP i):=c8 1 ap;go_wp2_with fail;refine SX.G ?_;rintro b dl ⟨rfl,b3⟩;have ch:=b3.J;subst ch;clear b3 SX;go_upto_region 4 with fail;obtain⟨b4,ak⟩:∃C,R.ss[i]?=O C:=⟨R.ss[i]'(by rw[B.A.ey.blk.1];exact cu),xI _⟩
 have aq:=B.ey.sl.2 i b4 (O kk) ak X
 obtain⟨p,ah,ai,aj,o,q,r,D,g,F,G,h,H,cx,t⟩:∃(p:Nat)(ah:qa1)(ai aj:Nat)(o:qa1)(q r:Nat)(D:qa1)(g F:Nat)(G:qa1)(h H:Nat),b4= .pointer (qQ p 0)/\P.heap[p]?=O (V6 #[VZ ah ai aj,VZ o q r,VZ D g F,VZ G h H] 254 (0,0)):=by
  obtain⟨p,b5,mv,dv,uv,b,t,al,cy,⟨⟨ba,cz,_⟩,_⟩,⟨⟨bc,c0,_⟩,_⟩⟩:=aq
  have ac:∀{cv:TypeId}{cw n:Nat}{C:Jo}{a9:Ki},P.ownsRow 0 cv cw C n a9->∃a3 Q k,C= .slice a3 Q k:=λa4=>by
   obtain⟨b,_⟩|⟨b6,b7,b8,b,_⟩:=a4.2
   ·simp_all
   simp_all
  obtain⟨_,_,_,rfl⟩:=ac al.1;obtain⟨_,_,_,rfl⟩:=ac cy;obtain⟨_,_,_,rfl⟩:=ac cz;obtain⟨_,_,_,rfl⟩:=ac c0
  simp_all
 subst cx;have HS:=zC aq;have ar:=zC t;have bf:=zC ak;clear aq t;have dh:(i:Int)<8:=VC
 have y:=zC (show ∀a:V8,qa3 P a->(VE a (V4 (N (Y w)) 1)=O (qP i)/\VE a (V4 E (7+i))=O (V3 p 0))from λa f=>⟨(f.U (xG.1 ap).1).R bd,(f.U B.lt).R (B.ey.blk.slot ak)⟩);clear bd;refine(kS (n:=6)).1 ?_;refine yU (λa=>VE a (V4 (N (Y w)) 1)=O (qP i)/\VE a (V4 E (7+i))=O (V3 p 0)) VU ?_;refine zj 0 (V3 E 0) ?_;go_simp;refine zj 1 (V3 (N (Y w)) 1) ?_;go_simp;refine zj 2 (qP i) ?_;go_simp;refine zj 3 (V3 E 0) ?_;go_simp;refine zj 4 (V3 E 7) ?_;go_simp;refine zj 5 (V3 E (7+i)) ?_;go_simp;refine zj 6 (V3 p 0) ?_;go_simp;refine zj 7 (V3 p 0) ?_;go_simp;obtain⟨u,f⟩:∃a,a=P.drew:=⟨_,rfl⟩
 rw[<- f];have j:=zC (show qa3 P u from by rw[f];exact⟨rfl,rfl,rfl,lR,λ_ _=>rfl⟩);clear f;refine jr VU (y u j) ?_ _;clear y;have bg:=zC (ab.I j);have au:=zC (B.I j);have U:=zC ((j.block p (xG.1 ar).1).R ar);have bh:=zC (HS.kk (l:=Zt) (KK.of j) VS VS (λ_ m=>m));clear HS ar j ab B ap ak;have di:=λc w=>(K.mth c w).2.2.2.2.2.1
 have dj:=K.ent K.fLod VT;have bi:=au.c6;have bj:VE u (V4 p 0)=O (VZ ah ai aj):=c8 0 U;have ci:=λa5 a6=>qa6 bi a5 a6
 have cj:=λa5 a6=>qa6 bj a5 a6
 go_upto_region 7 with fail;clear bi bj;refine(kS (n:=6)).1 ?_;refine zI 10 VU VU ?_;simp only[vQ,kh,vT,ke]
 repeat (refine qa8 (λ_ _ _ _=>trivial) (λK bx=>?_);go_simp;first | (refine bx _ ?_;clear bx K))
 refine qa9 ?_;intro _ cr;obtain⟨⟨b9,ca⟩,c1⟩:=cr;subst c1;have V:=zC (qa7 u b9 ca);clear ci cj;generalize grow (qab u b9) ca=dk at*;have bk:=zC (bg.I V);have ad:=zC (au.I V)
 have bl:=zC (K.cLod ad.cr ad.ey.zl (by
  obtain⟨c2,b5,mv,dv,uv,b,t,al,_⟩:=bh.A;simp only[Value.pointer.injEq,xP,QW]at b;have av:=b.1;subst av;rw[U.A]at t;simp only[xP,kl,Array.mk.injEq,List.cons.injEq]at t;rw[<- t.1.1]at al
  exact al.kk (l:=Zt) (KK.of V) (λ_ m=>m)) ht)
 have bn:=zC ((V.block p (xG.1 U).1).R U);clear bg V U bh au;gi_wp2_with fail;refine⟨xN,(vD.2 bl).G ?_⟩;rintro b v ⟨rfl,cb,am⟩;have I:=zC (ad.core (l:=⟨3,0,0,kk.tx⟩) am cb (by simp[KX.app]) (K.tLod _));have bp:=zC (bk.same ⟨_,I⟩ (am.weak VS));have ae:=zC (am.ty bn VS);clear cb am bl bk ad bn;gi_wp2_with fail
 obtain⟨c3,cc,⟨⟨ba,an,a1⟩,_⟩,⟨⟨bc,ao,a2⟩,_⟩⟩:TX v Z (VZ ah ai aj) kk.tx/\zW v 0 (VZ o q r) kk.ms/\(WG v Z (VZ D g F) kk.un/\∀e,VD (VK D g F)=O e->Z e)/\(WG v Z (VZ G h H) kk.re/\∀e,VD (VK G h H)=O e->Z e):=by
  obtain⟨c2,b5,mv,dv,uv,b,t,d⟩:=I.A.ey.sl.2 i _ (O kk) bf X;simp only[Value.pointer.injEq,xP,QW]at b;have av:=b.1;subst av;rw[ae.A]at t;simp only[xP,kl,Array.mk.injEq,List.cons.injEq]at t;obtain⟨⟨z,A,c4,c5,_⟩,_⟩:=t;subst z A c4 c5;exact d
 have aw:g=L kk.un:=by
  obtain⟨b,c6⟩|⟨b6,b7,b8,b,_⟩:=an.2
  ·simp_all
  simp_all
 have ax:h=L kk.re:=by
  obtain⟨b,c6⟩|⟨b6,b7,b8,b,_⟩:=ao.2
  ·simp_all
  simp_all
 rw[<- aw]at an aa;rw[<- ax]at ao aa;have bq:=zC (λa(f:qa3 v a)=>Ls (zE an f lR) (zE ao f lR) (λa7 a8=>by obtain⟨a3,Q,k,rfl⟩:=a1.sl a7 a8;rfl) (λa7 a8=>by obtain⟨a3,Q,k,rfl⟩:=a2.sl a7 a8;rfl) aa.1 aa.2);have HM:=zC cc;have GG:=zC (qa5 a1 a2);have br:=zC (qa5 aw ax);clear c3 cc an a1 ao a2 aw ax aa;have af:=zC (xG.1 ae).1
 have y:=zC (show ∀a:V8,a.heap[p]? =v.heap[p]?->(VE a (V4 p 1)=O (VZ o q r)/\VE a (V4 p 2)=O (VZ D g F)/\VE a (V4 p 3)=O (VZ G h H))from λa f=>by
  have d:=f.R ae
  exact⟨c9 d rfl,c9 d rfl,c9 d rfl⟩)
 go_upto_region 8 with fail;refine(kS (n:=6)).1 ?_;refine yU (λa=>VE a (V4 p 1)=O (VZ o q r)/\VE a (V4 p 2)=O (VZ D g F)/\VE a (V4 p 3)=O (VZ G h H)) VU ?_;refine zj 0 (V3 E 0) ?_;go_simp;refine zj 1 (V3 E 0) ?_;go_simp;refine zj 2 (V3 p 0) ?_;go_simp;refine zj 3 (V3 p 0) ?_;go_simp;refine zj 4 (V3 p 1) ?_;go_simp;refine zj 5 (.agg #[VZ o q r]) ?_;go_simp;refine zj 6 (V3 p 0) ?_;go_simp;refine zj 7 (V3 p 0) ?_;go_simp;refine zj 8 (V3 p 2) ?_;go_simp;refine zj 9 (.agg #[VZ D g F,VZ G h H]) ?_;go_simp;obtain⟨u,f⟩:∃a,a=v.drew:=⟨_,rfl⟩
 rw[<- f];have j:=zC (show qa3 v u from by rw[f];exact⟨rfl,rfl,rfl,lR,λ_ _=>rfl⟩);clear f;refine on 10 (y u (j.block p af)) ?_;have CQ:=zC (bq u j);gi_wp2_with fail;refine⟨xN,(vD.2 CQ).G ?_⟩;rintro b s ⟨S,z,T,A,rfl,cd,ce,cf,cg⟩;have J:=zC (j.R (cg.G j.size));have W:=zC (qa5 (zF cd j.size) (zF ce j.size));have bs:=zC cf;clear cd ce cf cg CQ bq;gi_wp2_with fail;refine zj 11 (V3 E 0) ?_;go_simp;refine zj 12 (V3 E 0) ?_;go_simp;have l:=zC (I.I J);have bt:=zC (bp.I J)
 have ag:=zC (show p≠E from λb=>by
  have d:=I.ey.blk.2;rw[<- b,ae.A]at d;simp only[xP,kl]at d
  simp_all)
 obtain⟨da,db,dc,_⟩:=l.A.ey.blk.cl;have ck:=l.ey.blk.f 0;have cl:=l.ey.blk.f 1;have cm:=l.ey.blk.f 2;refine on 13 (y s (J.block p af)) ?_;gi_wp2_with fail;refine zj 14 (V3 E 0) ?_;go_simp;refine zj 15 (V3 E 1) ?_;go_simp;refine zj 16 (V3 E 1) ?_;go_simp;refine on 17 (y _ ((xM s (V4 E 0) p _ ag).R (J.block p af))) ?_;gi_wp2_with fail
 have bu:=zC (show EX K (((s.setCell (V4 E 0) (VZ o q r)).setCell (V4 E 1) (VZ S g z)).setCell (V4 E 2) (VZ T h A)) Z E c {R with mv:=.slice o q r,dv:=.slice S g z,uv:=.slice T h A} {M with tx:=kk.tx,ms:=kk.ms,un:=kk.un,re:=kk.re,lg:=M.lg++ [⟨3,0,0,kk.tx⟩]} from by
  have ay:EO E s (((s.setCell (V4 E 0) (VZ o q r)).setCell (V4 E 1) (VZ S g z)).setCell (V4 E 2) (VZ T h A)):=((EO.set E 0 _ s).R (EO.set E 1 _ _)).R (EO.set E 2 _ _);have cn:=((l.ey.blk.set (x':={R with mv:=.slice o q r}) 0 _ l.ey.blk.1 rfl).set (x':={R with mv:=.slice o q r,dv:=.slice S g z}) 1 _ l.ey.blk.1 rfl).set (x':={R with mv:=.slice o q r,dv:=.slice S g z,uv:=.slice T h A}) 2 (VZ T h A) l.ey.blk.1 rfl;have az:KK [137,238,168,254] Z s _:=l.ey.ek ay VS;have a0:=(KK.of J).R az (λ_ m=>m);have e:=l.ep ay;have bv:∀{C:Jo}{k:Nat}{a9:Ki},s.ownsRow (N (Y v)) 137 1 C k a9->∀e,VD C=O e->¬Z e:=λcs e ct d=>by have:=(cs.lt e ct).1;have:=I.ey.zl e d;omega
  have co:s.ownsRow 0 137 1 (VZ S g z) (L kk.un) ba:=(by have d:=zF W.1 (xY _);rw[br.A.1]at d |-;exact d);have cp:s.ownsRow 0 137 1 (VZ T h A) (L kk.re) bc:=by have d:=zF W.2 (xY _);rw[br.A.2]at d |-;exact d
  exact l.put ay cn ⟨rfl,rfl⟩ ⟨yR HM a0 (.inl VS),⟨⟨ba,yR co az (.inl VS),GG.1.kk a0 VS (λ_ m=>m)⟩,bv W.1⟩,⟨⟨bc,yR cp az (.inl VS),GG.2.kk a0 VS (λ_ m=>m)⟩,λk X=>⟨bv W.2 k X,bs k X⟩⟩,e.cu,e.cvs,e.sl⟩)
 have bw:=zC (bt.same ⟨_,bu⟩ (l.ey.ek (((EO.set E 0 _ s).R (EO.set E 1 _ _)).R (EO.set E 2 _ _)) VS));refine jr VU (y _ ((((xM _ (V4 E 2) p _ ag).R (xM _ (V4 E 1) p _ ag)).R (xM s (V4 E 0) p _ ag)).R (J.block p af))) ?_ _;clear y I l bu bp bt GG HM W bs bf da db dc ck cl cm;have RR:=zC bw.2.2.2.2;have cq:=zC (bw.fin0 (x0:=0) (x1:=0) (x2:=0));go_wp2_with (refine ZD RR ?_);exact yw results129 RR rfl rfl cq
end
section
variable {w w':World} {Z:Nat->Prop} {E c:Nat} {x:VX} {M:SS} {K:KX} {kd b0 b1 b2:Int} {ta:Option Addr} {tl tq:Nat} {n m k i p:Nat}
def DY(b):∀(a:List SR)(M),(a.foldl (JX b) M).op=M.op
 | [],M=>rfl
 | c::a,M=>by rw[List.foldl_cons];exact DY b a _
def DZ:(∀{c s b t g a d h i j l m o}(p:EX d c s b t g a)(u:a.op=VR),BX 125 c b 10 h i j (VZ l m o) (.iface 109 (qP 9)))/\(∀{c s b t g a d h i j l m o}(p:EX d c s b t g a)(u:a.op=VP)(y:a.re= []),BX 125 c b 10 h i j (VZ l m o) (.iface 109 (qP 6)))/\(∀{c s b t g a d h i j l m o}(p:EX d c s b t g a){E z}(u:a.op=VP)(y:a.re=E++ [z])(ay:L E<=1000)(af:L z<=100000)(ag:∀r∈z,L (Zs r)=r.n/\r.n<=8192)(ah:a.sp<=200000)(ai:200000<a.sp+yf VP z),BX 125 c b 10 h i j (VZ l m o) (.iface 109 (qP 10))):=by
 refine⟨@λc s b t g a d h i j l m o p u=>have X:=zC xN;?_,@λc s b t g a d h i j l m o p u y=>?_,@λc s b t g a d h i j l m o p E z u y ay af ag ah ai=>have e:=zC xN;?_⟩
 all_goals
  unfold BX;have Z:=zC (PB.start c (yZ 10 h i j (VZ l m o)));have aq:=zC p;clear p;go_enter func125,ntmps125;go_upto_region 1 with fail;generalize VF _ _=q at*;have f:=zC (aq.I Z.1)
  first
   |(revert e;intro e;have J:=f.ey.ud.1;rw[y]at J;obtain⟨az,a0,ba,bc,bd,U,a1,G,a2,al⟩:=J.topX;have HG:=zC al;obtain⟨gl,V⟩:∃gl,gl=L z:=⟨_,rfl⟩;obtain⟨Q,am⟩:∃Q,Q=L E+1:=⟨_,rfl⟩;rw[<- V]at G;rw[<- am]at G U;(have K:=zC (λx(v:Below _ q x)=>Lj (f.I v) u (zE G v lR) VC VC));rw[<- V]at HG;(have A:VE q (V4 b 2)=O (VZ (qQ az 0) Q a0):=f.ey.blk.cl.2.2.1.R (Qf O U)))
   |(revert X;intro X;skip
     obtain⟨B,an,C,H⟩:∃R aj k,g.uv= .slice R aj k:=by
      obtain⟨a3,I,_⟩:=f.A.ey.ud.1;obtain⟨w,_⟩|⟨a4,a5,a6,w,_⟩:=I.2
      ·simp_all
      simp_all
     have K:=zC (λx(v:Below _ q x)=>zCf (f.I v) u B an C)
     have A:VE q (V4 b 2)=O (VZ B an C):=f.ey.blk.cl.2.2.1.R (Qf O H))
   |(skip
     obtain⟨B,C,H⟩:∃R k,g.uv= .slice R 0 k:=by
      obtain⟨a3,I,_⟩:=f.A.ey.ud.1;rw[y]at I;obtain⟨w,_⟩|⟨a4,a5,a6,w,_⟩:=I.2
      ·exact⟨_,_,w⟩
      exact⟨_,_,w⟩
     have K:=zC (λx(v:Below _ q x)=>zCg (f.I v) u B C)
     have A:VE q (V4 b 2)=O (VZ B 0 C):=f.ey.blk.cl.2.2.1.R (Qf O H))
  have ar:=λS T=>qa6 A S T
  have aa:=zC (λS T=>CallsIn.regrown_of (r:=5) (vD.2 ((K _ (qa7 q S T)).G (λw w' ak=>⟨ak.1,ak.2▸xF _ _⟩))))
  first
   |(revert e;intro e;clear A U am V a1 y J G a2 al)
   |(clear A H)
  refine(kS (n:=6)).1 ?_;refine wpIn_region_quiet_below rfl VU VU ?_
  repeat (refine qa8 (λ_ _ _ _=>trivial) (λd F=>?_);go_simp;first | (refine F _ ?_;clear F d) | (apply Exists.intro;refine⟨λ_=>?_,F _ ?_⟩;(first | exact aa _ _);clear F d))
  refine qa9 ?_;intro _ aw;obtain⟨⟨a7,ao⟩,a8⟩:=aw;subst a8;have D:=zC (qa7 q a7 ao);clear ar aa;generalize grow _ ao=ax at*
  first | (revert e;intro e;have au:=zC (f.I D)) | skip
  have M:=zC (Z.I D)
  first | (revert e;intro e;(have P:=zC (DS VP (HG.kk (l:=Zt) (KK.of D) VS (λ_ p=>p)).1 af ag));rw[show PN _=1 from rfl]at P;have ab:=zC (λx(v:Below _ ax x)=>Hs (au.I v) ah ai)) | skip
  clear D;gi_wp2_with fail
  first
   |(revert e;intro e;go_wp2_with fail;refine P.G ?_;rintro w a9 ⟨rfl,W⟩;have ac:=zC (ab a9 W);have ad:=zC (M.I W);clear W P ab;go_wp2_with fail;refine ac.G ?_;rintro w bf ⟨rfl,ap⟩;have av:=ap.J;subst av;clear ap ac;have RR:=zC ad.2.2;have ae:=zC (ad.fin (row:=yV 0 0 0 V0 V0)))
   |(have RR:=zC M.2.2;have ae:=zC (M.fin (row:=yV 0 0 0 V0 V0)))
  go_wp2_with (refine ZD RR ?_);exact yw results125 RR rfl rfl ⟨rfl,ae⟩
def redoO9:=@DZ.1
def redoE9:=@DZ.2.1
def redoF9:=@DZ.2.2
def redo9{U g}(h:EX K w Z E c x M)(bc:M.op=VP)(bd:M.re=U++ [g])(cj:L U<=1000/\L M.un<=1000)(dw:L g<=100000)(el:0<L g)(ck:∀b∈g,L (Zs b)=b.n/\b.n<=8192)(dx:M.sp+yf VP g<=200000)(bf:∀a b,g[a]?=O b->OkX VP (yT g a {M with sp:=M.sp+yf VP g}) b):AX K 125 w Z E c 10 b0 b1 b2 (VZ ta tl tq) 0 (L g) 0 [] [] {yT g (L g) {M with sp:=M.sp+yf VP g} with re:=U,un:=M.un++ [g]}:=by
 unfold AX;have av:=zC (PX.start h (yZ 10 b0 b1 b2 (VZ ta tl tq)));obtain⟨d0,bg⟩:∃dv,dv={yT g (L g) {M with sp:=M.sp+yf VP g} with re:=U,un:=M.un++ [g]}:=⟨_,rfl⟩
 rw[<- bg];obtain⟨gl,s⟩:∃gl,gl=L g:=⟨_,rfl⟩
 rw[<- s];have c5:=zC bg;have c6:=zC s;clear bg s;clear h;go_enter func125,ntmps125;go_upto_region 1 with fail;generalize VF (VF w _) _=J at*;obtain⟨em,cl⟩:=av.A.1;have R:=zC cl;clear cl;have aw:=R.ey.ud.1;rw[bd]at aw;obtain⟨d1,d2,en,d3,cm,V,d4,r,d5,cn⟩:=aw.topX;have HG:=zC cn;have s:=c6.A;obtain⟨a8,co⟩:∃a8,a8=L U+1:=⟨_,rfl⟩
 rw[<- s]at r;rw[<- co]at r V;have da:=zC (λa9(am:qa3 J a9)=>Lj (R.I am) bc (zE r am lR) VC VC);have ax:=zC s;rw[<- s]at HG;have bt:=cj;have z:VE J (V4 E 2)=O (VZ (qQ d1 0) a8 d2):=R.ey.blk.cl.2.2.1.R (Qf O V);have ay:=λd e=>qa6 z d e
 have S:=zC (λd e=>CallsIn.regrown_of (r:=5) (vD.2 ((da (grow (qab J d) e) (qa7 J d e)).G (λq w' I=>⟨I.1,I.2▸xF _ _⟩))));clear z V co s d4 aw r d5 cn;refine(kS (n:=6)).1 ?_;refine wpIn_region_quiet_below rfl VU VU ?_
 repeat (refine qa8 (λ_ _ _ _=>trivial) (λK f=>?_);go_simp;first | (refine f _ ?_;clear f K) | (apply Exists.intro;refine⟨λ_=>?_,f _ ?_⟩;(first | exact S _ _);clear f K))
 refine qa9 ?_;intro _ A;obtain⟨⟨cp,cq⟩,C⟩:=A;subst C;have j:=zC (qa7 J cp cq);clear ay S;generalize grow (qab J cp) cq=a7 at*;have bu:=zC (R.I j);have az:=zC (av.I j);have a0:=zC (HG.kk (l:=Zt) (KK.of j) VS (λ_ h=>h));have a1:=zC (DS VP a0.1 dw ck);rw[show PN (!VP)=1 from rfl]at a1;have a2:=zC (λa9(am:qa3 a7 a9)=>WU (bu.I am) dx);obtain⟨k,bh⟩:∃k,k={M with sp:=M.sp+yf VP g}:=⟨_,rfl⟩
 rw[<- bh]at bf a2;have T:=zC bh;have db:=zC bf;have dc:=zC bd;have dd:=zC bc;obtain⟨ba,cr⟩:∃ba,ba=yZ 10 b0 b1 b2 (VZ ta tl tq):=⟨_,rfl⟩
 rw[<- cr]at az
 obtain⟨B,d6⟩:∃B,d3=O (V4 B 0):=by
  obtain⟨⟨d7,d8,_⟩,_⟩:=a0.A;obtain⟨_,a4⟩|⟨d9,ea,eb,q,_⟩:=d8.2
  ·omega
  simp_all
 subst d6;clear j bf bh bd bc cr ck HG R av cj;gi_wp2_with fail;go_wp2_with fail;refine a1.G ?_;rintro q bi ⟨rfl,an⟩;have a3:=zC (a2 bi an);have de:=zC (az.I an);have bv:=zC (show KK Zt Z a7 bi from KK.of an);clear an a1 a2 az bu;generalize yf VP g=ej at bi a3;go_wp2_with fail;refine a3.G ?_;rintro q eo ⟨rfl,cs,bj⟩;have df:=zC (de.same ⟨_,cs⟩ bj);have dg:=zC (bv.R bj (λ_ h=>h));clear cs bj a3 bv;go_wp2_with fail;go_loopw [35] (λi wr=>∃a:Nat,a<=gl/\i=qP a/\PX K w Z E c ba (yT g a k) Z wr/\KK Zt Z a7 wr) (λi _=>gl-(intOf i).toNat)
 case atStart=>exact⟨0,xY _,rfl,df,dg⟩
 obtain⟨a,ep,rfl,aa,f⟩:=hrel;have bw:=zC aa;have dh:=zC f;by_cases ei:a<gl
 ·have ef:(a:Int)<gl:=VC
  obtain⟨b,r⟩:∃b,g[a]?=O b:=⟨_,xI (by rw[<- ax.A];omega)⟩
  have ai:=zC (db a b r);have di:=zC (XH (M:=k) r);obtain⟨⟨d7,u,ct⟩,ec⟩:=a0.kk f VS (λ_ h=>h);rw[<- ax.A]at u;obtain⟨ab,D,F,G,v,y,ao,z,ap,bk,bl,bn,cu,bp⟩:=ct.at a b r;obtain⟨p,ac⟩:∃p,p=b.put:=⟨_,rfl⟩
  obtain⟨kd,bq⟩:∃kd,kd=PN p:=⟨_,rfl⟩
  obtain⟨m,ad⟩:∃m,m=b.off:=⟨_,rfl⟩
  obtain⟨ae,aq⟩:∃n,n=L (Zs b):=⟨_,rfl⟩
  obtain⟨Q,cv⟩:∃n,n=L b.was:=⟨_,rfl⟩
  obtain⟨H,cw⟩:∃n,n=L b.is:=⟨_,rfl⟩
  rw[<- ac,<- bq]at ao;rw[<- ad]at z;rw[<- aq]at ap bn;rw[<- cv]at bk cu;rw[<- cw]at bl bp
  have dj:gl<=cm/\cm<=maxLen:=by
   obtain⟨q,a4⟩|⟨d9,ea,eb,q,_,_,eq,er,_⟩:=u.2
   ·cases q
   simp_all
  unfold maxLen at dj;have a4:VE wr (V4 B (a*5))=O (qP kd):=(by rw[u.cellAt (a*5) VC];exact ao);have V:VE wr (V4 B (a*5+1))=O (qP m):=(by rw[u.cellAt (a*5+1) VC];exact z);have dk:VE wr (V4 B (a*5+2))=O (VZ ab ae D):=(by rw[u.cellAt (a*5+2) VC];exact ap);have dl:VE wr (V4 B (a*5+3))=O (VZ F Q G):=(by rw[u.cellAt (a*5+3) VC];exact bk);have dm:VE wr (V4 B (a*5+4))=O (VZ v H y):=(by rw[u.cellAt (a*5+4) VC];exact bl);have bx:=zC (bA (xF (N (Y wr)) wr) (V6 (Pe kd m ab F v ae Q H D G y) 238));have t:=zC (xJ wr (V6 (Pe kd m ab F v ae Q H D G y) 238));have bz:=zC (DQ p);rw[<- bq]at bz;have eg:=λw=>(Tryz.fldX p w).1
  obtain⟨cx,af⟩:=aa.1;have a5:=zC (λX(P:qa3 wr X)=>Ie (a2:=F) (a3:=v) (l2:=Q) (l3:=H) (k1:=D) (k2:=G) (k3:=y) (off:=m) p kd (af.I P) (by rw[<- aq];exact bn.kk (l:=[]) (KK.of P) (λ_ h=>h)) (by have I:=ai.1;rw[ac,ad];simpa using I));rw[<- aq]at a5;have b3:=zC (λX W2 P(dy:KK Id Z X W2)mv'(dz:EX K W2 Z E c {cx with mv:=mv'} (EK p (yT g a k) m (Zs b)))=>Lk (ks:=b.is) dz (by have I:=ai.2.2.2.1;rw[ac,ad];simpa using I) (yR (yR bp (KK.of (l:=Id) (Z:=Z) P) (.inl VS)) dy (.inl VS)) ai.2.2.2.2)
  have dn:=zC (show {EK p (yT g a k) m (Zs b)with ms:=Z0 ((EK p (yT g a k) m (Zs b)).ms.map (mov (YJ b.is)))}=yT g (a+1) k from by
   rw[di.A,<- zB3 ai.A,ac,ad]
   simp[GW])
  generalize Zs b=ek at*;clear aa f r u ct ec ao z ap bk bl bn cu bp ac bq ad aq cv cw af;go_upto_region 9 with fail;generalize VF wr _=o at*;have eh:=(xG.1 t).1;have b0:VE o (V4 (N (Y wr)) 0)=O (qP kd):=c8 0 t;have b1:VE o (V4 (N (Y wr)) 1)=O (qP m):=c8 1 t;have b2:VE o (V4 (N (Y wr)) 2)=O (VZ ab ae D):=c8 2 t;have b4:VE o (V4 (N (Y wr)) 3)=O (VZ F Q G):=c8 3 t;have W:VE o (V4 (N (Y wr)) 4)=O (VZ v H y):=c8 4 t;have dp:=λd e=>qa6 b0 d e
  have ay:=λd e=>qa6 b1 d e
  have dq:=λd e=>qa6 b2 d e
  have dr:=λd e=>qa6 b4 d e
  have a6:=λd e=>qa6 W d e
  have S:=zC (λd e=>CallsIn.regrown_of (F:=Fence.wide) (r:=5) (w:=o) (d:=d) (os:=e) (vD.2 (bz m ab F v ae Q H D G y (grow (qab o d) e))));clear b0 b1 b2 b4 W a4 V dk dl dm;refine(kS (n:=6)).1 ?_;refine zI 5 VU VU ?_;simp only[vQ,kh,vT,ke]
  repeat (refine qa8 (λ_ _ _ _=>trivial) (λK f=>?_);go_simp;first | (refine f _ ?_;clear f K) | (apply Exists.intro;refine⟨λ_=>?_,f _ ?_⟩;(first | exact S _ _);clear f K))
  refine qa9 ?_;intro _ A;obtain⟨⟨cy,cz⟩,C⟩:=A;subst C;have j:=zC (qa7 o cy cz);clear dp ay dq dr a6 S;generalize grow (qab o cy) cz=ci at*;have aj:=zC (bx.R (j.G VC));have b5:=zC ((j.block (N (Y wr)) VC).R t);have b6:=zC (a5 ci aj);clear j t a5 bx;gi_wp2_with fail;refine⟨xN,(vD.2 b6).G ?_⟩;rintro q ar ⟨rfl,ed,c0,au⟩;have ds:=zC (au.ty b5 VS);have b7:=zC c0;have b8:=zC (show KK Zt Z wr ar from(KK.of aj).R (au.weak VS) (λ_ h=>h));have b9:=zC au;clear c0 au b6 b5;gi_wp2_with fail;have W:VE ar (V4 (N (Y wr)) 4)=O (VZ v H y):=c8 4 ds;have a6:=λd e=>qa6 W d e
  clear W;go_upto_region 10 with fail;refine(kS (n:=6)).1 ?_;refine zI 5 VU VU ?_;simp only[vQ,kh,vT,ke]
  repeat (refine qa8 (λ_ _ _ _=>trivial) (λK f=>?_);go_simp;first | (refine f _ ?_;clear f K))
  refine qa9 ?_;intro _ A;obtain⟨⟨ag,ah⟩,C⟩:=A;subst C;have j:=zC (qa7 ar ag ah);clear a6;generalize grow (qab ar ag) ah=al at*;have ca:=zC (b3 ci al aj (b9.R (KK.of j) (λ_ h=>h)) ed (b7.I j));have K5:=zC (show KK Zt Z wr al from b8.R (KK.of j) (λ_ h=>h));clear j b7 b8 b9 b3 aj;gi_wp2_with fail;refine⟨xN,(vD.2 ca).G ?_⟩;rintro q c1 ⟨rfl,es,br,c2⟩;rw[dn.A]at br;have cb:=zC (show KK Zt Z wr c1 from K5.R (c2.weak VS) (λ_ h=>h));have ak:=zC (bw.same ⟨_,br⟩ cb);have dt:=zC (dh.R cb (λ_ h=>h));clear br c2 ca;gi_wp2_with fail;go_wp2;go_roundw
  case rel=>exact⟨a+1,VC,VY,ak,dt⟩
  first | (simp[intOf];omega)
 obtain rfl:a=gl:=VC
 have du:¬ (a:Int)<a:=VC
 obtain⟨cx,af⟩:=aa.1;obtain⟨bs,c3,ee⟩:=JG VP (g.take a) k;have cc:=DY VP (g.take a) k;have cd:=zC (λX(P:qa3 wr X)=>shiftR (U:=U) (g:=g) (af.I P) (by show(yT g a k).op=VP;unfold yT;rw[cc,T.A];exact dd) (by show(yT g a k).re=_;unfold yT;rw[c3,T.A];exact dc) ⟨bt.1,by show(L (yT g a k).un)<=_;unfold yT;rw[bs,T.A];exact bt.2⟩)
 have ce:=zC (show {yT g a k with re:=U,un:=(yT g a k).un++ [g]}=d0 from by
  rw[show(yT g a k).un=M.un from by unfold yT;rw[bs,T.A],c5.A,T.A,ax.A])
 clear af bs c3 ee cc aa f;go_upto_region 12 with fail;refine(kS (n:=6)).1 ?_;refine zI 10 VU VU ?_;simp only[vQ,kh,vT,ke]
 repeat (refine qa8 (λ_ _ _ _=>trivial) (λK f=>?_);go_simp;first | (refine f _ ?_;clear f K))
 refine qa9 ?_;intro _ A;obtain⟨⟨ag,ah⟩,C⟩:=A;subst C;have j:=zC (qa7 wr ag ah);clear du;generalize grow (qab wr ag) ah=al at*;have cf:=zC (cd al j);have cg:=zC (bw.I j);clear j cd;gi_wp2_with fail;refine⟨xN,(vD.2 cf).G ?_⟩;rintro q c1 ⟨rfl,hst⟩;rw[ce.A]at hst;obtain⟨et,c4,_⟩:=cg.A.step hst;have ak:=zC c4;clear hst c4 cf cg ce;gi_wp2_with fail;have RR:=zC ak.2.2.2.2;have ch:=zC (ak.fin0 (x0:=0) (x1:=(a:Nat)) (x2:=0));go_wp2_with (refine ZD RR ?_);exact yw results125 RR rfl rfl ch
end
section
variable {w w':World} {Z:Nat->Prop} {E c:Nat} {x:VX} {M:SS} {K:KX} {kd b0 b1 b2:Int} {ta:Option Addr} {tl tq:Nat} {n m k i p:Nat} {W W2:World} {op:Array Value} {Z1:Nat->Prop} {M2:SS}
def UB(a:V8)(c:Nat)(d:qa2)(b:V8):Prop:=qa3 a b/\b.heap[N (Y a)]?=O (V6 #[V3 c 0] 107 (0,0))/\b.heap[N (Y a)+1]?=O (V6 d 61 (0,0))/\b.heap[N (Y a)+1+1]?=O (V6 (yV 0 0 0 V0 V0) 79 (0,0))
def UB.start(w)(E)(op):UB w E op (VF (VF (VF w (V6 #[V3 E 0] 107)) (V6 op 61)) (V6 (yV 0 0 0 V0 V0) 79)):=by
 have b2:=PB.start (VF w (V6 #[V3 E 0] 107)) op;have b1:=bA (xF _ w) (V6 #[V3 E 0] 107);have b:N (Y (VF w (V6 #[V3 E 0] 107)))=N (Y w)+1:=VT
 have c:=xJ w (V6 #[V3 E 0] 107);refine⟨b1.R (b2.1.G VC),(b2.1.block _ VC).R c,?_,?_⟩
 ·have a:=b2.2.1;rw[b]at a;exact a
 have a:=b2.2.2;rw[b]at a;exact a
def UB.lt(a:UB w E op W):N (Y w)+1+1<N (Y W):=(xG.1 a.2.2.2).1
theorem UB.I(a:UB w E op W)(b:qa3 W W2):UB w E op W2:=⟨a.1.R (b.G a.1.size),(b.block _ (by have:=a.lt;omega)).R a.2.1,(b.block _ (by have:=a.lt;omega)).R a.2.2.1,(b.block _ a.lt).R a.2.2.2⟩
def UB.fin(b:UB w E op W){row}:qa3 w (W.setRow (N (Y w)+1+1) row):=b.1.R ⟨rfl,rfl,rfl,VT,λa c=>kD W _ a row VC⟩
def ob10{q x0 x1 x2 ua ma ul uk ml mk f}(a:W.heap[q]?=O (V6 (yV x0 x1 x2 (VZ ua ul uk) (VZ ma ml mk)) 79 f)):VE W (V4 q 0)=O (qP x0)/\VE W (V4 q 1)=O (qP x1)/\VE W (V4 q 2)=O (qP x2)/\VE W (V4 q 3)=O (VZ ua ul uk)/\VE W (V4 q 4)=O (VZ ma ml mk)/\VE W (V4 q 5)=O (qP 0)/\VE W (V4 q 6)=O (qP 0)/\VE W (V4 q 7)=O (qP 0)/\VE W (V4 q 8)=O (qP 0)/\VE W (V4 q 9)=O (qP 0):=
 ⟨c7 a rfl,c7 a rfl,c7 a rfl,c7 a rfl,c7 a rfl,c7 a rfl,c7 a rfl,c7 a rfl,c7 a rfl,c7 a rfl⟩
def D6:(∀{e x a y h b c m o p q s t}(f:EX c e x a y h b)(z:b.op=VR),BX 124 e a 9 m o p (VZ q s t) (.iface 109 (qP 9)))/\(∀{e x a y h b c m o p q s t}(f:EX c e x a y h b)(z:b.op=VP)(I:b.un= []),BX 124 e a 9 m o p (VZ q s t) (.iface 109 (qP 6)))/\(∀{e x a y h b c m o p q s t}(f:EX c e x a y h b){P E}(z:b.op=VP)(I:b.un=P++ [E])(bc:L P<=1000)(al:L E<=100000)(am:∀r∈E,L (Zs r)=r.n/\r.n<=8192)(an:b.sp<=200000)(ao:200000<b.sp+yf VR E),BX 124 e a 9 m o p (VZ q s t) (.iface 109 (qP 10))):=by
 refine⟨@λe x a y h b c m o p q s t f z=>have A:=zC xN;?_,@λe x a y h b c m o p q s t f z I=>?_,@λe x a y h b c m o p q s t f P E z I bc al am an ao=>have d:=zC xN;?_⟩
 all_goals
  unfold BX;have T:=zC (UB.start e a (yZ 9 m o p (VZ q s t)));have a6:=zC f;clear f;refine(vD (n:=6)).1 ?_;refine callsIn_of_wp_marks func124 rfl xN ?_ rfl;simp only[ntmps124,Qd,vA,vS,kT,kU,Qe,kZ,vL,vH];gi_wp2_with fail;generalize VF _ _=l at*;have g:=zC (a6.I T.1)
  first
   |(revert d;intro d;have U:=g.ey.dn.1;rw[I]at U;obtain⟨bd,bf,br,bs,bt,ae,bg,Q,bh,aq⟩:=U.topX;have HG:=zC aq;obtain⟨gl,af⟩:∃gl,gl=L E:=⟨_,rfl⟩;obtain⟨ab,ar⟩:∃ab,ab=L P+1:=⟨_,rfl⟩;rw[<- af]at Q;rw[<- ar]at Q ae;(have V:=zC (λJ(F:Below _ l J)=>Lj (g.I F) z (zE Q F lR) VC VC));rw[<- af]at HG;(have G:VE l (V4 a 1)=O (VZ (qQ bd 0) ab bf):=g.ey.blk.cl.2.1.R (Qf O ae)))
   |(revert A;intro A;skip
     obtain⟨K,au,M,R⟩:∃ac ad k,h.dv= .slice ac ad k:=by
      obtain⟨bi,S,_⟩:=g.A.ey.dn.1;obtain⟨B,_⟩|⟨bj,bk,bl,B,_⟩:=S.2
      ·simp_all
      simp_all
     have V:=zC (λJ(F:Below _ l J)=>zCf (g.I F) z K au M)
     have G:VE l (V4 a 1)=O (VZ K au M):=g.ey.blk.cl.2.1.R (Qf O R))
   |(skip
     obtain⟨K,M,R⟩:∃ac k,h.dv= .slice ac 0 k:=by
      obtain⟨bi,S,_⟩:=g.A.ey.dn.1;rw[I]at S;obtain⟨B,_⟩|⟨bj,bk,bl,B,_⟩:=S.2
      ·exact⟨_,_,B⟩
      exact⟨_,_,B⟩
     have V:=zC (λJ(F:Below _ l J)=>zCg (g.I F) z K M)
     have G:VE l (V4 a 1)=O (VZ K 0 M):=g.ey.blk.cl.2.1.R (Qf O R))
  have C:l.cell? _=O (.pointer _):=c8 0 T.2.1;have a7:=λu v=>qa6 G u v
  have W:=λu v=>qa6 C u v
  have D:=zC (λu v=>CallsIn.regrown_of (r:=5) (vD.2 ((V _ (qa7 l u v)).G (λB w' ap=>⟨ap.1,ap.2▸xF _ _⟩))))
  first
   |(revert d;intro d;clear C G ae ar af bg U Q bh aq)
   |(clear C G R)
  refine wpIn_region_quiet_below rfl VU VU ?_
  repeat (refine qa8 (λ_ _ _ _=>trivial) (λc w=>?_);go_simp;first | (refine w _ ?_;clear w c) | (apply Exists.intro;refine⟨λ_=>?_,w _ ?_⟩;(first | exact D _ _);clear w c))
  refine qa9 ?_;intro _ Z;obtain⟨⟨bn,av⟩,ag⟩:=Z;subst ag;have j:=zC (qa7 l bn av);clear W a7 D;generalize grow _ av=aa at*
  first | (revert d;intro d;have ah:=zC (g.I j)) | skip
  have H:=zC (T.I j)
  first
   |(revert d;intro d;skip
     have ai:=zC (HG.kk (l:=Zt) (KK.of j) VS (λ_ f=>f));have C:aa.cell? _=O (.pointer _):=c8 0 H.2.1;have W:=λu v=>qa6 C u v
     have D:=zC (λu v=>CallsIn.regrown_of (r:=5) (vD.2 (DS VR (ai.kk (l:=Zt) (KK.of (qa7 aa u v)) VS (λ_ f=>f)).1 al am)));rw[show PN _=2 from rfl]at D;clear j C;gi_wp2_with fail;refine zI 3 VU VU ?_;simp only[vQ,kh,vT,ke]
     repeat (refine qa8 (λ_ _ _ _=>trivial) (λc w=>?_);go_simp;first | (refine w _ ?_;clear w c) | (apply Exists.intro;refine⟨λ_=>?_,w _ ?_⟩;(first | exact D _ _);clear w c))
     refine qa9 ?_;intro _ Z;obtain⟨⟨bp,aw⟩,ag⟩:=Z;subst ag;have j:=zC (qa7 aa bp aw);clear W D;generalize grow _ aw=bq at*;have a8:=zC (ah.I j);have aj:=zC (H.I j);clear ah H ai j;have ak:=zC (Hs a8 an ao);gi_wp2_with fail;refine⟨xN,(vD.2 ak).G ?_⟩;rintro B bu ⟨rfl,ax⟩;have a9:=ax.J;subst a9;clear ax ak;have RR:=zC aj.2.2.2
     have X:=zC (aj.fin (row:=yV 0 0 0 V0 V0)))
   |(clear j;have RR:=zC H.2.2.2;have X:=zC (H.fin (row:=yV 0 0 0 V0 V0)))
  gi_wp2_with (refine zV rfl 79 _ _ rfl _ _ (yV 0 0 0 _ _) 79 rfl rfl RR VU rfl (by simp[Value.oneCell']) ?_);have ba:=QH _ _ _ (yV 0 0 0 V0 V0) _ _ RR;obtain⟨ay,d,A,az,a0,a1,a2,a3,a4,a5⟩:=ob10 ba
  first
   |(revert d;intro d;(exact⟨.tuple #[.agg (yV 0 0 0 V0 V0),.iface 109 (qP 10)],by simp[results,go_sem,ay,d,A,az,a0,a1,a2,a3,a4,a5],rfl,X⟩))
   |(revert A;intro A;(exact⟨_,by simp[results,go_sem,ay,d,A,az,a0,a1,a2,a3,a4,a5],rfl,X⟩))
def undoO9:=@D6.1
def undoE9:=@D6.2.1
def undoF9:=@D6.2.2
end
attribute [local go_sem] QR
section
variable {w w':World} {Z:Nat->Prop} {E c:Nat} {x:VX} {M:SS} {K:KX} {kd b0 b1 b2:Int} {ta:Option Addr} {tl tq:Nat} {n m k i p:Nat} {W W2:World} {op:Array Value} {Z1:Nat->Prop} {M2:SS}
def undo9{U g}(l:EX K w Z E c x M)(av:M.op=VP)(cv:M.un=U++ [g])(el:L U<=1000/\L M.re<=1000)(f6:L g<=100000)(em:∀b∈g,L (Zs b)=b.n/\b.n<=8192)(en:M.sp+yf VR g<=200000)(b4:∀eh b,g[eh]?=O b->OkX VR (jq g (eh+1) {M with sp:=M.sp+yf VR g}) b):AX K 124 w Z E c 9 b0 b1 b2 (VZ ta tl tq) 0 (L g) 0 [] [] {jq g 0 {M with sp:=M.sp+yf VR g} with un:=U,re:=M.re++ [g]}:=by
 unfold AX;obtain⟨f7,cw⟩:∃a,a={jq g 0 {M with sp:=M.sp+yf VR g} with un:=U,re:=M.re++ [g]}:=⟨_,rfl⟩
 rw[<- cw];obtain⟨gl,aj⟩:∃gl,gl=L g:=⟨_,rfl⟩
 rw[<- aj];have fc:=zC cw;have fd:=zC aj;clear cw aj;have a0:=zC (UB.start w E (yZ 9 b0 b1 b2 (VZ ta tl tq)));have fe:=zC l;obtain⟨Zb,f8⟩:∃Zb:Nat->Prop,Zb=λa=>Z a\/a=N (Y w):=⟨_,rfl⟩
 have aa:=zC (show(∀a,Z a->Zb a)/\Zb (N (Y w))/\(∀a,Zb a->Z a\/a=N (Y w))from by simp_all);clear l f8;refine(vD (n:=6)).1 ?_;refine callsIn_of_wp_marks func124 rfl xN ?_ rfl;simp only[ntmps124,Qd,vA,vS,kT,kU,Qe,kZ,vL,vH];gi_wp2_with fail;generalize VF (VF (VF w _) _) _=aw at*
 have a6:=zC (fe.hold a0.1 aa.1 (λa j=>(aa.2.2 a j).imp id (λD=>by
  subst D;refine⟨lR,by have:=a0.lt;omega,λbk bl bn z=>?_⟩;rw[a0.A.2.1]at z
  grind)))
 have ca:=a6.ey.dn.1;rw[cv]at ca;obtain⟨eo,ep,g4,ab,ac,b5,f9,A,ga,eq⟩:=ca.topX;have HG:=zC eq;have aj:=fd.A;obtain⟨bz,er⟩:∃bz,bz=L U+1:=⟨_,rfl⟩
 rw[<- aj]at A;rw[<- er]at A b5;have ff:=zC (λq(ei:qa3 aw q)=>Lj (a6.I ei) av (zE A ei lR) VC VC);have a7:=zC aj;rw[<- aj]at HG;have fg:=el;have a1:VE aw (V4 E 1)=O (VZ (qQ eo 0) bz ep):=a6.ey.blk.cl.2.1.R (Qf O b5);have ad:VE aw (V4 (N (Y w)) 0)=O (V3 E 0):=c8 0 a0.2.1;have cb:=λf h=>qa6 a1 f h
 have a8:=λf h=>qa6 ad f h
 have ae:=zC (λf h=>CallsIn.regrown_of (r:=5) (vD.2 ((ff (grow (qab aw f) h) (qa7 aw f h)).G (λD w' T=>⟨T.1,T.2▸xF _ _⟩))));clear ad a1 b5 er aj f9 ca A ga eq;refine wpIn_region_quiet_below rfl (by rfl) VU ?_
 repeat (refine qa8 (λ_ _ _ _=>trivial) (λK r=>?_);go_simp;first | (refine r _ ?_;clear r K) | (apply Exists.intro;refine⟨λ_=>?_,r _ ?_⟩;(first | exact ae _ _);clear r K))
 refine qa9 ?_;intro _ af;obtain⟨⟨es,et⟩,ah⟩:=af;subst ah;have m:=zC (qa7 aw es et);clear a8 cb ae;generalize grow (qab aw es) et=bx at*;have de:=zC (a6.I m);have cc:=zC (a0.I m);have cd:=zC (HG.kk (l:=Zt) (KK.of m) VS (λ_ l=>l));have ad:VE bx (V4 (N (Y w)) 0)=O (V3 E 0):=c8 0 cc.2.1;have a8:=λf h=>qa6 ad f h
 have ae:=zC (λf h=>CallsIn.regrown_of (r:=5) (vD.2 (DS VR (cd.kk (l:=Zt) (KK.of (qa7 bx f h)) VS (λ_ l=>l)).1 f6 em)));rw[show PN (!VR)=2 from rfl]at ae;clear m ad;gi_wp2_with fail;refine zI 3 (by rfl) VU ?_;simp only[vQ,kh,vT,ke]
 repeat (refine qa8 (λ_ _ _ _=>trivial) (λK r=>?_);go_simp;first | (refine r _ ?_;clear r K) | (apply Exists.intro;refine⟨λ_=>?_,r _ ?_⟩;(first | exact ae _ _);clear r K))
 refine qa9 ?_;intro _ af;obtain⟨⟨eu,ev⟩,ah⟩:=af;subst ah;have m:=zC (qa7 bx eu ev);clear a8 ae;generalize grow (qab bx eu) ev=g2 at*;have bt:=zC (de.I m);have a9:=zC (cc.I m);have df:=zC (cd.kk (l:=Zt) (KK.of m) VS (λ_ l=>l));clear de cc cd m;have SX:=zC (WU bt en);obtain⟨t,cx⟩:∃t,t={M with sp:=M.sp+yf VR g}:=⟨_,rfl⟩
 rw[<- cx]at b4 SX;have ba:=zC cx;have fh:=zC b4;have fi:=zC cv;have fj:=zC av;obtain⟨cr,cy⟩:∃cr,cr=yf VR g:=⟨_,rfl⟩
 rw[<- cy]at SX;clear b4 cx cv av em HG a6 a0 el;simp only[<- cy];clear cy en;gi_wp2_with fail;refine⟨xN,(vD.2 SX).G ?_⟩;rintro D ai ⟨rfl,ew,bp⟩;have ce:=zC ew;have dg:=zC (df.kk bp VS (λ_ l=>l));have dh:=zC ((bp.block (N (Y w)) (by have:=a9.lt;omega) (.inl aa.2.1)).R a9.2.1);have di:=zC (bp.ty a9.2.2.2 VS);have fk:=zC (((KK.of a9.1).R bp aa.1));have gt:=(xG.1 di).1;clear ew bp SX a9 bt df;gi_wp2_with fail;refine⟨xN,(backM _ ab gl ac _).G ?_⟩;rintro D d ⟨rfl,cz⟩;gi_wp2_with fail;rw[<- cz];have a2:=zC (show qa3 ai d from by grind [bA,Below.refl]);have dj:=zC (show d.heap[N (Y ai)]?=O (V6 #[VZ ab gl ac] 137 (0,0))from by grind [heap_alloc_new]);have gu:N (Y ai)<N (Y d):=by rw[cz];simp
 clear cz;have cf:=zC (dg.kk (l:=Zt) (KK.of a2) VS (λ_ l=>l));obtain⟨b6,c0,ex⟩:=cf.A.1;rw[<- a7.A]at c0;have fl:=zC c0;have cg:=zC cf.2;have dk:=zC (λk b A=>ex.at k b A);obtain⟨s,gb⟩:∃s:Nat->Prop,s=λa=>Zb a\/a=N (Y ai)\/a=N (Y d)\/a=N (Y d)+1:=⟨_,rfl⟩
 have I:=zC (show(∀a,Zb a->s a)/\s (N (Y ai))/\s (N (Y d))/\s (N (Y d)+1)/\(∀a,s a->Zb a\/a=N (Y ai)\/a=N (Y d)\/a=N (Y d)+1)from by simp_all);have ch:=zC (ce.ey.zl)
 have fm:=zC (show ∀e C:Obj,e.isCells=VP->C.isCells=VP->EX K ((d.alloc e).alloc C) s E c x t from λe C av bw=>by
  have bb:qa3 d ((d.alloc e).alloc C):=bA (bA (xF _ _) e) C;refine ce.hold (a2.R (bb.G VC)) I.1 (λa j=>(I.2.2.2.2 a j).imp id (λT=>?_));have bc:((d.alloc e).alloc C).heap[N (Y d)]?=O e:=(kX _ _ _ VT).R (World.alloc_heap_new d e);have ak:=(by have dl:=World.alloc_heap_new (d.alloc e) C;rwa [Qt]at dl);obtain D|D|D:=T
  ·subst D
   refine⟨lR,by grind,λbk bl bn z=>?_⟩;rw[bb.block _ VC,dj.A]at z
   grind
  ·subst D
   refine⟨VC,by grind,λbk bl bn z=>?_⟩;rw[bc]at z;simp at z;subst z;cases av
  subst D;refine⟨VC,VT,λbk bl bn z=>?_⟩;rw[ak]at z;simp at z
  subst z;cases bw)
 have dm:=zC (show ∀(b3:SS)(W:V8)(e:Obj),e.isCells=VP->N (Y d)+1<N (Y W)->((∃J,EX K W s E c J b3)/\KK Zt Zb d W/\∃e,W.heap[N (Y d)+1]?=O e/\e.isCells=VP)->((∃J,EX K (W.putObj (N (Y d)+1) e) s E c J b3)/\KK Zt Zb d (W.putObj (N (Y d)+1) e)/\∃C,(W.putObj (N (Y d)+1) e).heap[N (Y d)+1]?=O C/\C.isCells=VP)from by
  rintro b3 W e a3 S ⟨⟨J,y⟩,o,bq,aq,ar⟩;have al:KA W (W.putObj (N (Y d)+1) e):=KA.put aq ar;have am:(W.putObj (N (Y d)+1) e).heap[N (Y d)+1]?=O e:=World.putObj_heap_same S;refine⟨⟨J,y.turn al (λa j bk bl bn z=>?_)⟩,⟨al.os.R o.os,al.tape.R o.tape,al.output.R o.output,ku o.size al.size,λa j f5=>(World.putObj_heap_other VC).R (o.block a j f5)⟩,e,am,a3⟩;by_cases D:a=N (Y d)+1
  ·subst D
   rw[am]at z;simp at z;subst z;cases a3
  grind [World.putObj_heap_other])
 clear gb ce dg ex c0 cf
 refine Ik (F:=Fence.wide) rfl VC (gf:=175) rfl xN (enters_of func175 (by rfl) rfl) (Ty:=λq:Fin gl=>#[qP (q.val:Nat),rcV b6 q.val]) (Kp:=KpB (N (Y ai)) (VZ ab gl ac)) (S:=λej=>ej=Hw gl gl) (OK:=λQ q=>q.val+L Q+1=gl)
  ?seq (λcs ct=>⟨ct.1.R cs.1,λa j=>(ct.2 a j).R (cs.2 a j)⟩) (λW e _=>⟨World.putObj_heap_other VC,λa j=>World.putObj_heap_other (by have:=ch a (cg a j);omega)⟩) (λ_=>rfl)
  (λQ W=>(∃J,EX K W s E c J (jq g (gl-L Q) t))/\KK Zt Zb d W/\∃e,W.heap[N (Y d)+1]?=O e/\e.isCells=VP)
  (λQ q cu W=>∃R b P B u v G H,cu={tmps:=#[Value.pointer (qQ E 0),Value.agg (yZ 9 b0 b1 b2 (VZ ta tl tq)),Value.pointer (qQ (N (Y w)) 0),Value.pointer (qQ (N (Y w)+1) 0),Value.pointer (qQ (N (Y w)+1+1) 0),Value.nilIface,VK ab gl ac,Value.nilIface,undef,Value.pointer (qQ R 0),Value.tuple #[VK ab gl ac,Value.nilIface],Value.pointer (qQ E 0),Value.pointer (qQ E 0),Value.pointer (qQ E 1),Value.pointer (qQ E 0),Value.pointer (qQ E 0),Value.pointer (qQ E 1),Value.pointer (qQ E 1),Value.pointer (qQ E 1),VK (qQ eo 0) bz ep,Value.tuple #[VK ab gl ac,Value.nilIface],VK ab gl ac,Value.nilIface,Value.nilIface,Value.bool VR,Value.pointer (qQ E 0),VK ab gl ac,Value.int .i64 (cr:Nat),Value.nilIface,Value.nilIface,Value.bool VP,undef,undef,VK ab gl ac,Value.func (.func 175) #[] #[V3 (N (Y ai)) 0],Value.int .i64 (q.val:Nat),rcV b6 q.val,undef,undef,undef,undef,undef,undef,undef,undef,undef,undef,undef,undef,undef,undef,undef,undef,undef,undef,undef,undef,undef,undef,undef,undef,undef,undef],defers:=[]}/\(∃J,EX K W s E c J (jq g (gl-L Q) t))/\KK Zt Zb d W/\(∃e,W.heap[N (Y d)+1]?=O e/\e.isCells=VP)/\N (Y d)+2<=R/\g[q.val]?=O b/\W.heap[R]?=O (V6 #[qP (PN b.put),qP b.off,VZ P (L (Zs b)) B,VZ u (L b.was) v,VZ G (L b.is) H] 238 (0,0))/\TX d Zb (VZ P (L (Zs b)) B) (Zs b)/\zW d 0 (VZ u (L b.was) v) b.was)
  ?tn ?ax ?st ?assign ?body ?done
 case seq=>
  intro V f3 W ap g0 f4;refine(backIn Fence.wide 5 xN rfl VC V (N (Y ai)) gl (VZ ab gl ac) b6 (by have:=a7.A;omega) (λk o=>?_) f3 (λ_ _=>False) (λQ x X g3 b4=>?_) W ((ap.block _ VC).R dj) (zE fl ap lR) f4).G ?_
  ·obtain⟨b,A⟩:∃b,g[k]?=O b:=⟨_,xI (by rw[<- a7.A];omega)⟩
   obtain⟨P,B,u,v,G,H,ad,a1,b7,c1,c2,_⟩:=dk.A k b A
   simp_all
  ·simp_all
  simp
 case tn=>exact λQ W e a3 S l=>dm _ W e a3 S l
 case ax=>
  rintro Q q cu W e a3 S ⟨R,b,P,B,u,v,G,H,b5,y,o,c3,gc,A,br,cs,ct⟩;obtain⟨g5,g6,g7⟩:=dm _ W e a3 S ⟨y,o,c3⟩
  grind [trans,World.putObj_heap_other]
 case st=>
  intro e C av bw;refine⟨⟨x,?_⟩,KK.of (bA (bA (xF _ _) e) C),C,?_,bw⟩
  ·rw[show jq g (gl-L ([]:List (Fin gl))) t=t from by unfold jq;rw[Qb (by rw[<- a7.A];simp)];rfl]
   exact fm e C av bw
  have dl:=World.alloc_heap_new (d.alloc e) C;simp_all
 case assign=>
  intro V Q q W g1 S ⟨⟨J,y⟩,o,bq,aq,ar⟩ c3 r;obtain⟨b,A⟩:∃b,g[q.val]?=O b:=⟨_,xI (by rw[<- a7.A];exact q.2)⟩
  obtain⟨P,B,u,v,G,H,ad,a1,b7,c1,c2,bs,ap,gd⟩:=dk q.val b A;have ci:rcV b6 q.val= .agg #[qP (PN b.put),qP b.off,VZ P (L (Zs b)) B,VZ u (L b.was) v,VZ G (L b.is) H]:=(by simp[rcV,ad,a1,b7,c1,c2]);have an:=bA (xF (N (Y W)) W) (V6 #[qP (PN b.put),qP b.off,VZ P (L (Zs b)) B,VZ u (L b.was) v,VZ G (L b.is) H] 238);have gv:N (Y (VF W (V6 #[qP (PN b.put),qP b.off,VZ P (L (Zs b)) B,VZ u (L b.was) v,VZ G (L b.is) H] 238)))=N (Y W)+1:=VT;have dn:=r _ (VF W (V6 #[qP (PN b.put),qP b.off,VZ P (L (Zs b)) B,VZ u (L b.was) v,VZ G (L b.is) H] 238)) (an.block _ VC) (an.block _ VC) ⟨an.block _ VC,λa j=>an.block a (by have:=ch a (cg a j);omega)⟩ ⟨N (Y W),b,P,B,u,v,G,H,rfl,⟨J,y.I an⟩,o.R (KK.of an) (λ_ l=>l),⟨bq,(an.block _ VC).R aq,ar⟩,VC,A,xJ _ _,bs,ap⟩;rw[ci]at dn;simp only[ci];clear y ad a1 b7 c1 c2 bs ap gd ci an o;gi_wp2;exact dn
 case body=>
  rintro V Q q cu W S c3 ⟨R,b,P,B,u,v,G,H,rfl,⟨J,y⟩,o,⟨bq,aq,ar⟩,gc,A,br,bs,ap⟩;have bd:=zC (fh q.val b A);have dp:gl-L Q=q.val+1:=VC
  have fn:=zC (show jq g (gl-L (Q++ [q])) t=JX VR (jq g (q.val+1) t) b from by
   rw[xL,Vc,show gl-(L Q+1)=q.val by omega];exact Kk A)
  rw[dp]at y;rw[fn.A];obtain⟨a4,c4⟩:∃a4,a4=jq g (q.val+1) t:=⟨_,rfl⟩
  rw[<- c4]at y bd;rw[<- c4];have Wr:=zC ((o.block _ VC (.inl aa.2.1)).R ((a2.block _ VC).R dh));have cj:=bs.kk o I.1;have dq:=yR ap o (.inl VS);obtain⟨p,c5⟩:∃p,p=b.put:=⟨_,rfl⟩
  obtain⟨kd,c6⟩:∃kd,kd=PN p:=⟨_,rfl⟩
  obtain⟨ag,da⟩:∃ag,ag=b.off:=⟨_,rfl⟩
  obtain⟨bc,am⟩:∃n,n=L (Zs b):=⟨_,rfl⟩
  obtain⟨ak,db⟩:∃n,n=L b.was:=⟨_,rfl⟩
  obtain⟨b8,ey⟩:∃n,n=L b.is:=⟨_,rfl⟩
  rw[<- c5,<- c6,<- da,<- am,<- db,<- ey]at br;rw[<- am]at cj;have dr:zW W 0 (VZ u ak v) b.was:=(by rw[db];exact dq);have au:=zC (show W.heap[R]?=O (V6 (Pe kd ag P u G bc ak b8 B v H) 238 (0,0))from br);have fo:=(xG.1 br).1;have ds:=zC (DQ p);rw[<- c6]at ds;have gw:=λw=>(Tryz.fldX p w).2
  have bu:=zC (λX(a5:qa3 W X)=>Ie (a2:=u) (a3:=G) (l2:=ak) (l3:=b8) (k1:=B) (k2:=v) (k3:=H) (off:=ag) (!p) kd (y.I a5) (by rw[<- am];exact cj.kk (l:=[]) (KK.of a5) (λ_ l=>l)) (by have T:=bd.1;simp_all));rw[<- am]at bu;have ck:=zC (λX W2 a5(o:KK Id s X W2)mv'(y:EX K W2 s E c {J with mv:=mv'} (EK (!p) a4 ag (Zs b)))=>Lk (ks:=b.was) y (by have T:=bd.2.2.2.1;simp_all) (yR (yR dr (KK.of (l:=Id) (Z:=s) a5) (.inl VS)) o (.inl VS)) bd.2.2.2.2)
  have dt:=zC (show {EK (!p) a4 ag (Zs b)with ms:=Z0 ((EK (!p) a4 ag (Zs b)).ms.map (mov (YJ b.was)))}=JX VR a4 b from by
   rw[<- zB3 bd.A,c5,da]
   simp[GW])
  have fp:=zC o
  have fq:=zC (show ∀a,s a->a<N (Y W) from λa j=>by
   obtain T|T|T|T:=I.A.2.2.2.2 a j
   ·have:=ch a T;omega
   ·omega
   ·omega
   omega)
  have du:=zC (qa5 aq ar);obtain⟨ek,ez⟩:∃ek,ek=Zs b:=⟨_,rfl⟩
  rw[<- ez]at bu ck dt;have ao:VE W (V4 (N (Y w)) 0)=O (V3 E 0):=c8 0 Wr;have dv:VE W (V4 R 0)=O (qP kd):=c8 0 au;have dw:VE W (V4 R 1)=O (qP ag):=c8 1 au;have dx:VE W (V4 R 2)=O (VZ P bc B):=c8 2 au;have bf:VE W (V4 R 3)=O (VZ u ak v):=c8 3 au;have dy:VE W (V4 R 4)=O (VZ G b8 H):=c8 4 au;have bg:=λf h=>qa6 ao f h
  have a8:=λf h=>qa6 dv f h
  have cb:=λf h=>qa6 dw f h
  have fr:=λf h=>qa6 dx f h
  have cl:=λf h=>qa6 bf f h
  have fs:=λf h=>qa6 dy f h
  have ae:=zC (λf h=>CallsIn.regrown_of (F:=Fence.wide) (r:=3) (w:=W) (d:=f) (os:=h) (vD.2 (ds ag P u G bc ak b8 B v H (grow (qab W f) h))));clear y br ao dv dw dx bf dy o bs ap cj dq dr c5 c6 da am db ey A c4 dp aq ar ez;gi_wp2_with fail;refine YL V 5 (by rfl) (J0 (by rfl)) VU ?_;simp only[vQ,kh,vT,ke]
  repeat (refine qa8 (λ_ _ _ _=>xN) (λK r=>?_);go_simp;first | (refine r _ ?_;clear r K) | (apply Exists.intro;refine⟨λ_=>?_,r _ ?_⟩;(first | exact ae _ _);clear r K))
  refine qa9 ?_;intro _ af;obtain⟨⟨e0,e1⟩,ah⟩:=af;subst ah;have m:=zC (qa7 W e0 e1);clear bg a8 cb fr cl fs ae;generalize grow (qab W e0) e1=X at*;have gx:=m.size;have dz:=zC ((m.block R fo).R au);have d0:=zC ((m.block (N (Y w)) VC).R Wr);have d1:=zC (bu X m);clear au bu Wr;gi_wp2_with fail;refine⟨xN,(vD.2 d1).G ?_⟩;rintro D W2 ⟨rfl,ge,e2,b9⟩;have ft:=zC (b9.ty dz VS);have fu:=zC ((b9.block (N (Y w)) VC (.inl (I.1 _ aa.2.1))).R d0);have d2:=zC e2;have cm:=zC b9;have cn:=m;clear e2 b9 d1 dz d0 m;gi_wp2_with fail;have ao:VE W2 (V4 (N (Y w)) 0)=O (V3 E 0):=c8 0 fu;have bf:VE W2 (V4 R 3)=O (VZ u ak v):=c8 3 ft;have bg:=λf h=>qa6 ao f h
  have cl:=λf h=>qa6 bf f h
  clear ao bf;refine YL V 5 (by rfl) (J0 (by rfl)) VU ?_;simp only[vQ,kh,vT,ke]
  repeat (refine qa8 (λ_ _ _ _=>trivial) (λK r=>?_);go_simp;first | (refine r _ ?_;clear r K))
  refine qa9 ?_;intro _ af;obtain⟨⟨e3,e4⟩,ah⟩:=af;subst ah;have m:=zC (qa7 W2 e3 e4);clear bg cl;generalize grow (qab W2 e3) e4=eg at*;have d3:=zC (ck X eg cn (cm.R (KK.of m) (λ_ l=>l)) ge (d2.I m));have K5:=zC (show KK Id s W eg from((KK.of cn).R cm (λ_ l=>l)).R (KK.of m) (λ_ l=>l));clear m d2 cm ck cn;gi_wp2_with fail;refine⟨xN,(vD.2 d3).G ?_⟩;rintro D e5 ⟨rfl,g8,ay,az⟩;rw[dt.A]at ay;have d4:=zC (show KK Id s W e5 from K5.R az (λ_ l=>l));have co:=zC ay;clear ay az d3 K5;gi_wp2_with fail;have bh:∀a,s a->e5.heap[a]? =W.heap[a]?:=λa j=>d4.block a (fq a j) (.inl j)
  refine⟨bh _ I.2.2.1,(bh _ I.2.2.2.1).R (QS S),⟨bh _ I.2.1,λa j=>bh a (I.1 a (cg a j))⟩,⟨_,co⟩,fp.R (d4.weak VS) I.1,bq,(bh _ I.2.2.2.1).R du.1,du.2⟩
 rintro ej W e6 ⟨⟨J,y⟩,o,bq,aq,ar⟩ dc;rw[e6,GM lR,Qj]at y;obtain⟨e7,dd,gg⟩:=JG VR (g.drop 0).reverse t;have d5:=DY VR (g.drop 0).reverse t;have d6:=zC (λX(a5:qa3 W X)=>shiftU (U:=U) (g:=g) (y.I a5) (by show(jq g 0 t).op=VP;unfold jq;rw[d5,ba.A];exact fj) (by show(jq g 0 t).un=_;unfold jq;rw[e7,ba.A];exact fi) ⟨fg.1,by show(L (jq g 0 t).re)<=_;unfold jq;rw[dd,ba.A];grind⟩)
 have d7:=zC (show {jq g 0 t with un:=U,re:=(jq g 0 t).re++ [g]}=f7 from by
  rw[show(jq g 0 t).re=M.re from by unfold jq;rw[dd,ba.A],fc.A,ba.A])
 have d8:=zC (show W.heap[N (Y w)]?=O (V6 #[V3 E 0] 107 (0,0))from(o.block _ VC (.inl aa.2.1)).R ((a2.block _ VC).R dh));have d9:=zC (show W.heap[N (Y w)+1+1]?=O (V6 (yV 0 0 0 V0 V0) 79 (0,0))from o.ty ((a2.block _ VC).R di) VS);have ea:=zC (show KK Zt Z w W from(fk.R (KK.of (Z:=Z) a2) (λ_ l=>l)).R o aa.1);have eb:=zC dc;have fv:N (Y d)<N (Y W):=(xG.1 dc).1;have ao:VE W (V4 (N (Y w)) 0)=O (V3 E 0):=c8 0 d8;have bg:=λf h=>qa6 ao f h
 clear y o aq ar dc e7 dd gg d5 ao e6;gi_wp2_with fail;refine zI 10 (by rfl) VU ?_;simp only[vQ,kh,vT,ke]
 repeat (refine qa8 (λ_ _ _ _=>xN) (λK r=>?_);go_simp;first | (refine r _ ?_;clear r K))
 refine qa9 ?_;intro _ af;obtain⟨⟨e8,e9⟩,ah⟩:=af;subst ah;have m:=zC (qa7 W e8 e9);clear bg;generalize grow (qab W e8) e9=X at*;have ec:=zC (d6 X m);have gy:=m.size;have ed:=zC ((m.block _ VC).R d9);have ee:=zC ((m.block _ fv).R eb);have ef:=zC (ea.R (KK.of (Z:=Z) m) (λ_ l=>l));clear m d6 d9 eb ea d8;gi_wp2_with fail;refine⟨xN,(vD.2 ec).G ?_⟩;rintro D W2 ⟨rfl,gh,b7,ay,az,fa⟩;rw[d7.A]at ay;have bt:=zC ay;have cp:=zC (az.ty ed VS);have fw:=zC ((az.block _ VC (.inl I.2.2.1)).R ee);have bv:=zC (ef.R az (λa j=>I.1 a (aa.1 a j)));have fy:=zC (λa(j:Z a)=>fa a (I.1 a (aa.1 a j)));clear ay az fa ec ed ee ef d7;gi_wp2_with (refine zV rfl 79 _ _ rfl (N (Y w)+1+1) _ (yV 0 (gl:Nat) 0 V0 V0) 79 rfl rfl cp VU rfl (by simp[yV,Value.oneCell']) ?_);have fz:=QH W2 (N (Y w)+1+1) _ (yV 0 (gl:Nat) 0 V0 V0) _ _ cp;have f0:=zC (bt.keep (KN.row (row:=yV 0 (gl:Nat) 0 V0 V0) cp VS));have cq:=(kD W2 (N (Y w)+1+1) (N (Y d)) (yV 0 (gl:Nat) 0 V0 V0) VC).R fw;have bi:=zC (show KK Zt Z w (W2.setRow (N (Y w)+1+1) (yV 0 (gl:Nat) 0 V0 V0))from⟨bv.os,bv.tape,bv.output,by grind,λa j S=>(kD W2 _ a _ VC).R (bv.block a j S)⟩);generalize W2.setRow (N (Y w)+1+1) _=bj at*;refine⟨VT,.inl ⟨_,_,rfl,run_takeDeferred cq,?_⟩⟩;have al:KA bj (bj.putObj (N (Y d)) (.deferred none)):=KA.put cq rfl;have gz:N (Y d)<N (Y bj):=(xG.1 cq).1;have f1:(bj.putObj (N (Y d)) (.deferred none)).heap[N (Y w)+1+1]?=O (V6 (yV 0 (gl:Nat) 0 V0 V0) 79 (0,0)):=(World.putObj_heap_other VC).R fz
 have co:=zC (f0.turn al (λa j bk bl bn z=>by
  grind [World.putObj_heap_same,World.putObj_heap_other]))
 have f2:=zC (show KK Zt Z w (bj.putObj (N (Y d)) (.deferred none))from⟨bi.os,bi.tape,bi.output,ku bi.size al.size,λa j S=>(World.putObj_heap_other VC).R (bi.block a j S)⟩);obtain⟨gi,gj,gk,gm,gn,go,gp,gq,gr,gs⟩:=ob10 f1;exact⟨.tuple #[.agg (yV 0 (gl:Nat) 0 V0 V0),.nilIface],by simp[results,results124,go_sem,gi,gj,gk,gm,gn,go,gp,gq,gr,gs,yV],none,0,0,none,0,0,gh,_,rfl,⟨vz _ _ _ _,λa j=>by grind [VD]⟩,vz _ _ _ _,co,f2,fy⟩
end
end

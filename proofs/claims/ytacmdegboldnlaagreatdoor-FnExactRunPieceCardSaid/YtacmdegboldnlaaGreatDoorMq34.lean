import Derived.Test.YtacmdegboldnlaaGreatDoorMq33
set_option linter.all false
set_option maxRecDepth 100000
set_option maxHeartbeats 8000000
namespace Go.Proofs.YtacmdegboldnlaaGreatDoor
open Go Go.RowKit Go.Proofs.Tryz
open And renaming intro→qa5
open _root_.Array renaming size→N
open Go renaming Calls→VM
open List renaming length→L
open Option renaming some→O
open _root_.Go.Value renaming oneCell'→VI
open _root_.Go.World renaming alloc→VF,cell?→VE,heap→Y
section
open Go.Sort Go.BigFrame
section
variable {w w':World} {Z:Nat->Prop} {E c:Nat} {x:VX} {M:SS} {K:KX} {kd b0 b1 b2:Int} {ta:Option Addr} {tl tq:Nat} {off line o:Nat}
def zW.rdw{v xs b}(a:zW w b v xs):JM (N (Y w)) w v xs:=a.rd
def setX{m}(b:EX K w Z E c x M)(h:Vd M.ms)(d:Wm M.ms m (L M.tx)=0):VM prog 146 #[V3 E 0,jF m,qP (L M.tx)] w λa w'=>a=V5 .nilIface/\(∃f,EX K w' Z E c f {M with ms:=Z0 (M.ms++ [m])})/\KK Zt Z w w':=by
 unfold Wm at d
 split at d
 ·omega
 split at d
 ·omega
 split at d
 ·omega
 split at d
 ·omega
 rename_i v y z A
 have fin:∀{a:Ending}{w':V8},(a=V5 .nilIface/\∃e g,qa3 w g/\w'=g.setCell (V4 E 0) e/\jv (tbR K c x M) 143 w' E e/\zW w' (N (Y w)) e (Z0 (M.ms++ [m])))->a=V5 .nilIface/\(∃f,EX K w' Z E c f {M with ms:=Z0 (M.ms++ [m])})/\KK Zt Z w w':=by
  rintro a w' ⟨rfl,e,g,i,k,ht,l⟩;obtain⟨n,o⟩:=b.mkd i k ht l;exact⟨rfl,⟨_,n⟩,b.ey.ek o VS⟩
 have j:L M.ms<=1048576:=by have:=h.1;omega
 obtain⟨a,p⟩|⟨q,r,B,a,i,s,t,u,_⟩:=id b.ey.ms.2
 ·exact(setOk0E _ _ VS E _ _ m _ w b.tb b.ey.ms.rdw j (by simp_all) (by simp_all) (by simp_all) (by simp_all) h 0 b.ey.ms (xR p) a).G (λ_ _=>fin)
 exact(setOkE _ _ VS E _ _ m _ w b.tb b.ey.ms.rdw j (by simp_all) (by simp_all) (by simp_all) (by simp_all) h 0 b.ey.ms ⟨q,r,a,t,u,i,(xG.1 s).1⟩).G (λ_ _=>fin)
def setN{m ec}(b:EX K w Z E c x M)(j:Vd M.ms)(a:Wm M.ms m (L M.tx)=ec)(k:¬ec=0):VM prog 146 #[V3 E 0,jF m,qP (L M.tx)] w λi w'=>i=V5 (Dt Jm ec)/\qa3 w w':=by
 have d:L M.ms<=1048576:=by have:=j.1;omega
 unfold Wm at a
 split at a
 ·rename_i e;subst a;exact set12E _ _ VS E _ _ m _ w b.tb b.ey.ms.rdw d e
 split at a
 ·rename_i e f;subst a;exact set5E _ _ VS E _ _ m _ w b.tb b.ey.ms.rdw d (by simp_all) f
 split at a
 ·rename_i e f g;subst a;exact set2E _ _ VS E _ _ m _ w b.tb b.ey.ms.rdw d (by simp_all) (by simp_all) g
 split at a
 ·rename_i e f g h;subst a;exact set10E _ _ VS E _ _ m _ w b.tb b.ey.ms.rdw d (by simp_all) (by simp_all) (by simp_all) h
 omega
def zB8:(∀{a w j k A c g d e f p q r}(s:EX g a w j k A c)(B:Vd c.ms)(hst:Wm c.ms (d,e,f) (L c.tx)=0),AX g 121 a w j k 6 d e f (VZ p q r) 0 0 0 [] [] {c with ms:=Z0 (c.ms++ [(d,e,f)])})/\(∀{a w j k A c g d e f p q r C}(s:EX g a w j k A c)(B:Vd c.ms)(hst:Wm c.ms (d,e,f) (L c.tx)=C)(S:¬C=0),BX 121 a j 6 d e f (VZ p q r) (Dt Jm C)):=by
 refine⟨@λa w j k A c g d e f p q r s B hst=>have t:=zC xN;?_,@λa w j k A c g d e f p q r C s B hst S=>have h:=zC xN;?_⟩
 all_goals
  first
   |(revert t;intro t;unfold AX;have u:=zC (PX.start s (yZ 6 d e f (VZ p q r))))
   |(unfold BX;have u:=zC (PB.start a (yZ 6 d e f (VZ p q r))))
  have ac:=s.lt
  first | (revert t;intro t) | skip
  have ad:=λk a=>(g.mth k a).1
  have ae:=g.ent g.fLen VT
  first | (revert h;intro h;have Z:=zC s) | skip
  clear s;go_enter func121,ntmps121;go_upto_region 1 with fail;generalize VF _ _=z at*
  first
   |(revert t;intro t;obtain⟨ag,T⟩:=u.A.1;have x:=zC T;have m:=zC u.2.2.2.1;clear T)
   |(have x:=zC (Z.I u.1);have m:=zC u.2.1)
  have D:=zC (show ∀b:V8,b.heap[N (Y a)]? =z.heap[N (Y a)]?->VE b (V4 j 6)=O (.iface g.ty (V3 k 0))->(b.cell? _=O (.int _ d)/\b.cell? _=O (.int _ e)/\b.cell? _=O (.int _ f)/\b.cell? _=O _)from λb J aa=>⟨c9 (i:=1) (J.R m) rfl,c9 (i:=2) (J.R m) rfl,c9 (i:=3) (J.R m) rfl,aa⟩);refine(kS (n:=6)).1 ?_;refine yU (λb=>VE b (V4 (N (Y a)) 1)=O (qP d)/\VE b (V4 (N (Y a)) 2)=O (qP e)/\VE b (V4 (N (Y a)) 3)=O (qP f)/\VE b (V4 j 6)=O (.iface g.ty (V3 k 0))) (by rfl) ?_;refine zj 0 (.agg (yV 0 0 0 V0 _)) ?_;go_simp;refine zj 1 _ ?_;go_simp;refine zj 2 _ ?_;go_simp;refine zj 3 _ ?_;go_simp;refine zj 4 _ ?_;go_simp;refine zj 5 _ ?_;go_simp;refine zj 6 _ ?_;go_simp;refine zj 7 _ ?_;go_simp;refine zj 8 _ ?_;go_simp;refine zj 9 _ ?_;go_simp;refine zj 10 (jF (d,e,f)) ?_;go_simp;refine zj 11 _ ?_;go_simp;refine zj 12 _ ?_;go_simp;refine zj 13 _ ?_;go_simp;refine zj 14 _ ?_;go_simp;obtain⟨U,K⟩:∃b,b=z.drew:=⟨_,rfl⟩
  rw[<- K];have E:=zC (show qa3 z U from by rw[K];exact⟨rfl,rfl,rfl,lR,λ_ _=>rfl⟩);have Q:=zC (xG.1 m).1;clear K;have G:=zC (x.I E);have LE:=zC (Ht G);refine on 15 (D U (E.block _ Q) G.c6) ?_;gi_wp2_with fail;refine⟨xN,(vD.2 LE).G ?_⟩;rintro V ab ⟨rfl,W⟩;have H:=zC (E.R (W.G E.size));have R:=zC (u.I H);have v:=zC (x.I H);clear W LE G;gi_wp2_with fail;refine on 16 (D ab (H.block _ Q) v.c6) ?_
  first
   |(revert h;intro h;have F:=zC (setN v B hst S))
   |(have F:=zC (setX v B hst))
  gi_wp2_with fail;refine⟨xN,(vD.2 F).G ?_⟩
  first
   |(revert h;intro h;rintro V l ⟨rfl,M⟩;have o:=zC (R.I M);have y:=zC (show l.heap[N (Y a)]? =z.heap[N (Y a)]?/\l.cell? _=O _ from⟨o.2.1.R m.J,(v.I M).c6⟩);have RR:=zC o.2.2;have I:=zC (o.fin (row:=yV 0 0 0 V0 V0));clear M F v x)
   |(rintro V l ⟨rfl,⟨ah,P⟩,X⟩;have o:=zC (R.same ⟨_,P⟩ X);have y:=zC (show l.heap[N (Y a)]? =z.heap[N (Y a)]?/\l.cell? _=O _ from⟨o.2.2.2.1.R m.J,P.c6⟩);have RR:=zC o.2.2.2.2;have I:=zC (o.fin0 (x0:=0) (x1:=0) (x2:=0));clear P X F v x)
  gi_wp2_with fail;refine on 17 (D l y.1 y.2) ?_;refine zV rfl 79 _ _ rfl _ _ _ 79 rfl rfl RR (by rfl) rfl (by simp[VI]) ?_;refine Qg ?_;go_simp
  first
   |(revert h;intro h;refine tk 18 (Dt Jm C) ?_ ?_)
   |(refine tk 18 (.nilIface) ?_ ?_)
  ·intro b af;go_simp
  go_simp;refine jr (by rfl) (D _ ((kD l _ _ _ VC).R y.1) ((vO (kD l _ j _ VC)).R y.2)) ?_ _;go_wp2_with fail
  first
   |(revert h;intro h;exact yw results121 RR rfl rfl ⟨rfl,I⟩)
   |(exact yw results121 RR rfl rfl I)
def mark9:=@zB8.1
def markB9:=@zB8.2
def zCj(a:EX K w Z E c x M)(d:Vd M.ms)(id):VM prog 148 #[V3 E 0,qP id] w λb w'=>b=V5 (J2 M.ms id)/\qa3 w w':=Ll _ _ VS _ E _ _ id w a.tb a.ey.ms.rdw lR (by have:=d.1;omega)
def findT(b:EX K w Z E c x M)(d:Vd M.ms){id}(e:yF M.ms id=true):VM prog 148 #[V3 E 0,qP id] w λa w'=>a=V5 (.tuple #[jF (M.ms.getD (PP M.ms id) (0,0,0)),.nilIface])/\qa3 w w':=(zCj b d id).G (by rintro a w' ⟨rfl,f⟩;exact⟨by unfold J2;rw[xU e];rfl,f⟩)
def findF(b:EX K w Z E c x M)(d:Vd M.ms){id}(e:yF M.ms id=false):VM prog 148 #[V3 E 0,qP id] w λa w'=>a=V5 (.tuple #[jF (0,0,0),.iface 130 (.agg #[.string {data:=#[102,105,110,100,105,110,103,32,97,32,109,97,114,107]},.iface 109 (qP 4)])])/\qa3 w w':=(zCj b d id).G (by grind [J2])
def dropX(b:EX K w Z E c x M)(f:Vd M.ms){id}(g:yF M.ms id=true):VM prog 147 #[V3 E 0,qP id] w λd w'=>d=V5 (.tuple #[jF (M.ms.getD (PP M.ms id) (0,0,0)),.nilIface])/\∃a,jv (tbR K c x M) 143 w' E a/\zW w' (N (Y w)) a (GI M.ms (PP M.ms id))/\ye w w' (λe=>e=E):=dropE _ _ VS E _ _ id 0 w b.tb b.ey.ms (by have:=f.1;omega) g
def dropF(a:EX K w Z E c x M)(d:Vd M.ms){id}(e:yF M.ms id=false):VM prog 147 #[V3 E 0,qP id] w λb w'=>b=V5 (.tuple #[jF (0,0,0),.iface 130 (.agg #[.string {data:=#[102,105,110,100,105,110,103,32,97,32,109,97,114,107]},.iface 109 (qP 4)])])/\qa3 w w':=drop4E _ _ VS E _ _ id 0 w a.tb a.ey.ms (by have:=d.1;omega) e
theorem DW:(∀ {w} {Z} {E} {c} {x} {M} {K} {b0} {b1} {b2} {ta} {tl} {tq} (s:EX K w Z E c x M) (t:Vd M.ms) (u:yF M.ms b0=true),AX K 123 w Z E c 8 b0 b1 b2 (.slice ta tl tq) 0 (M.ms.getD (PP M.ms b0) (0,0,0)).2.1 (M.ms.getD (PP M.ms b0) (0,0,0)).2.2 [] [] M)∧(∀ {w} {Z} {E} {c} {x} {M} {K} {b0} {b1} {b2} {ta} {tl} {tq} (s:EX K w Z E c x M) (t:Vd M.ms) (u:yF M.ms b0=false),BX 123 w E 8 b0 b1 b2 (.slice ta tl tq) (.iface 130 (.agg #[.string {data:=#[102,105,110,100,105,110,103,32,97,32,109,97,114,107]},.iface 109 (.int .i64 4)])))∧(∀ {w} {Z} {E} {c} {x} {M} {K} {b0} {b1} {b2} {ta} {tl} {tq} (s:EX K w Z E c x M) (t:Vd M.ms) (u:yF M.ms b0=true),AX K 122 w Z E c 7 b0 b1 b2 (.slice ta tl tq) 0 (M.ms.getD (PP M.ms b0) (0,0,0)).2.1 0 [] [] {M with ms:=GI M.ms (PP M.ms b0)})∧(∀ {w} {Z} {E} {c} {x} {M} {K} {b0} {b1} {b2} {ta} {tl} {tq} (s:EX K w Z E c x M) (t:Vd M.ms) (u:yF M.ms b0=false),BX 122 w E 7 b0 b1 b2 (.slice ta tl tq) (.iface 130 (.agg #[.string {data:=#[102,105,110,100,105,110,103,32,97,32,109,97,114,107]},.iface 109 (.int .i64 4)]))):=by
 refine⟨@fun w Z E c x M K b0 b1 b2 ta tl tq s t u=>have g1:=zC xN;have aj:=zC xN;have ak:=zC xN;?_,@fun w Z E c x M K b0 b1 b2 ta tl tq s t u=>have H:=zC xN;have f:=zC xN;have aj:=zC xN;?_,@fun w Z E c x M K b0 b1 b2 ta tl tq s t u=>have g:=zC xN;have ak:=zC xN;?_,@fun w Z E c x M K b0 b1 b2 ta tl tq s t u=>have f:=zC xN;?_⟩
 all_goals
  first
   |(revert g1;intro g1;unfold AX;have I:=zC (PX.start s (yZ 8 b0 b1 b2 (.slice ta tl tq))))
   |(revert H;intro H;unfold BX;have I:=zC (PB.start w (yZ 8 b0 b1 b2 (.slice ta tl tq))))
   |(revert g;intro g;unfold AX;have I:=zC (PX.start s (yZ 7 b0 b1 b2 (.slice ta tl tq))))
   |(unfold BX;have I:=zC (PB.start w (yZ 7 b0 b1 b2 (.slice ta tl tq))))
  have a1:=s.lt
  first
   |(revert g1;intro g1)
   |(revert g;intro g)
   |(skip)
  first | (revert f;intro f;have ax:=zC s) | skip
  clear s
  first
   |(revert aj;intro aj;go_enter func123,ntmps123)
   |(go_enter func122,ntmps122)
  go_upto_region 1 with fail
  generalize VF _ _=ad at*
  first
   |(revert ak;intro ak;obtain⟨av,aw⟩:=I.A.1;have al:=zC aw;have am:=zC I.A.2.2.2.1;clear aw)
   |(have al:=zC (ax.A.I I.A.1);have am:=zC I.A.2.1)
  have B:=zC (show ∀y:World,y.heap[N (Y w)]? =ad.heap[N (Y w)]?->(y.cell? _=O (.int _ b0))from fun y a0=>c9 (i:=1) (a0.R am.A) rfl)
  refine(kS (n:=6)).1 ?_
  refine yU (fun y=>VE y ⟨N (Y w),1,none⟩=O (.int .i64 b0)) (by rfl) ?_
  refine zj 0 _ ?_;go_simp;refine zj 1 _ ?_;go_simp;refine zj 2 _ ?_;go_simp;refine zj 3 _ ?_;go_simp;refine zj 4 _ ?_;go_simp;obtain⟨d,aq⟩:∃y,y=ad.drew:=⟨_,rfl⟩;rw [<- aq]
  have C:=zC (show Below (N (Y ad)) ad d from by rw [aq];exact⟨rfl,rfl,rfl,lR,fun _ _=>rfl⟩)
  have R:=zC (xG.1 am.A).1;clear aq;have ai:=zC (I.A.I C.A);have k:=zC (al.A.I C.A);have D:=zC (vh R.A C.A.size)
  have au:=zC (show N (Y w)≠E by omega)
  first
   |(revert g1;intro g1;have J:=zC (fun W (V:Below _ d W)=>findT (k.A.I V) t u);obtain⟨a,l⟩:∃a:Mk,a=(M.ms.getD (PP M.ms b0) (0,0,0)):=⟨_,rfl⟩)
   |(revert g;intro g;have J:=zC (fun W (V:Below (N (Y d)) d W)=>dropX (k.A.I V) t u);obtain⟨a,l⟩:∃a:Mk,a=(M.ms.getD (PP M.ms b0) (0,0,0)):=⟨_,rfl⟩)
   |(revert H;intro H;have J:=zC (fun W (V:Below _ d W)=>findF (k.A.I V) t u);obtain⟨a,l⟩:∃a:Mk,a=(0,0,0):=⟨_,rfl⟩)
   |(have J:=zC (fun W (V:Below (N (Y d)) d W)=>dropF (k.A.I V) t u);obtain⟨a,l⟩:∃a:Mk,a=(0,0,0):=⟨_,rfl⟩)
  rw [<- l]at J;have X:=zC l;clear l al;refine tw 5 9 (B.A d (C.A.block _ R.A)) ?_ ?_
  ·gi_wp2_with fail
   refine⟨xN,(vD.2 (J.A d (xF _ _))).G ?_⟩
   first
    |(revert g;intro g;rintro e w3 ⟨rfl,ar,G,z,b⟩;have ae:=b.size;have ay:=k.A.lt;have af:=zC (qa5 G (qa5 z b));have P:=zC (show w3.heap[N (Y w)]? =ad.heap[N (Y w)]? from(b.block _ D.A au.A).R (C.A.block _ R.A));clear G z b)
    |(rintro e w3 ⟨rfl,A⟩;have ae:=A.size;have Q:=zC A;have P:=zC ((A.block _ D.A).R (C.A.block _ R.A));clear A)
   gi_wp2_with fail
   first
    |(revert f;intro f;refine tk 6 (.tuple #[jF a,.iface 130 (.agg #[.string {data:=#[102,105,110,100,105,110,103,32,97,32,109,97,114,107]},.iface 109 (.int .i64 4)])]) ?_ ?_)
    |(refine tk 6 (.tuple #[jF a,.nilIface]) ?_ ?_)
   ·intro y ah;go_simp
   go_simp;refine zj 7 _ ?_;go_simp
   first
    |(revert f;intro f;refine tk 8 (.iface 130 (.agg #[.string {data:=#[102,105,110,100,105,110,103,32,97,32,109,97,114,107]},.iface 109 (.int .i64 4)])) ?_ ?_)
    |(refine tk 8 (.nilIface) ?_ ?_)
   ·intro y ah;go_simp
   go_simp;refine on 9 (B.A w3 P.A) ?_
   gi_wp2_with fail
   have BX:=zC (bA (xF _ w3) (.cells #[.int .i64 0,.int .i64 0,.int .i64 0] 168));have aa:=zC (xJ w3 (.cells #[.int .i64 0,.int .i64 0,.int .i64 0] 168));generalize VF w3 _=o at*;have an:=zC (vh D.A ae);refine on 10 (B.A o ((BX.A.block _ an.A).R P.A)) ?_
   refine zV rfl 168 _ _ rfl _ _ _ 168 rfl rfl aa.A (by rfl) rfl (by simp [VI]) ?_
   have S:=zC (QH o _ _ #[.int .i64 a.1,.int .i64 a.2.1,.int .i64 a.2.2] _ _ aa.A)
   have v:=zC (fun q m=>kD o (N (Y w3)) q #[.int .i64 a.1,.int .i64 a.2.1,.int .i64 a.2.2] m)
   have h:=zC (show(N (Y (o.setRow (N (Y w3)) #[.int .i64 a.1,.int .i64 a.2.1,.int .i64 a.2.2])))=N (Y o)∧(o.setRow (N (Y w3)) #[.int .i64 a.1,.int .i64 a.2.1,.int .i64 a.2.2]).os=o.os∧(o.setRow (N (Y w3)) #[.int .i64 a.1,.int .i64 a.2.1,.int .i64 a.2.2]).tape=o.tape∧(o.setRow (N (Y w3)) #[.int .i64 a.1,.int .i64 a.2.1,.int .i64 a.2.2]).output=o.output from⟨by simp,rfl,rfl,rfl⟩)
   generalize o.setRow _ _=r at*
   have ag:=zC ((v.A _ (by have:=an.A;omega)).R ((BX.A.block _ an.A).R P.A))
   have ab:Below _ w3 r:=⟨h.A.2.1.R BX.A.os,h.A.2.2.1.R BX.A.tape,h.A.2.2.2.R BX.A.output,by rw [h.A.1];exact BX.A.size,fun q m=>(v.A q (by omega)).R (BX.A.block q m)⟩
   first
    |(revert g;intro g;skip
      have j:=zC (show PX K w Z E c _ {M with ms:=GI M.ms (PP M.ms b0)} Z r from by
       obtain⟨G,z,b⟩:=af.A
       have T:EO E d r:=(EO.R ⟨b.os,b.tape,b.output,b.size,fun q m ap=>b.block q m ap⟩ (EO.of ab))
       have p:=k.A.ep T
       exact ai.A.same ⟨{av with mv:=ar},k.A.put T ⟨k.A.ey.blk.1,(ab.block E (by omega)).R G⟩ ⟨rfl,rfl⟩ ⟨(zW.base (zE z ab lR) (xY _)),p.dn,p.ud,p.cu,p.cvs,p.sl⟩⟩ (k.A.ey.ek T (by decide)))
      clear ab af)
    |(have j:=zC (ai.A.I (Q.A.R (ab.G ae)));clear ab Q)
   refine Qg ?_;go_simp
   first
    |(revert f;intro f;refine tk 11 (.iface 130 (.agg #[.string {data:=#[102,105,110,100,105,110,103,32,97,32,109,97,114,107]},.iface 109 (.int .i64 4)])) ?_ ?_)
    |(refine tk 11 (.nilIface) ?_ ?_)
   ·intro y ah;go_simp
   go_simp
   refine jr (by rfl) (B.A r ag.A) ?_ _
   have k1:r.cell? _=O (.int _ _):=c9 (i:=1) S.A rfl;have k2:r.cell? _=O (.int _ _):=c9 (i:=2) S.A rfl;clear B ag S v h J
   first
    |(revert f;intro f;(have U:a.2.1=0∧a.2.2=0:=by rw [X.A];exact⟨rfl,rfl⟩);rw [U.1]at k1;rw [U.2]at k2;clear U;have RR:=zC j.A.2.2;have F:=zC (j.A.fin (row:=yV 0 0 0 (.slice none 0 0) (.slice none 0 0))))
    |(revert g1;intro g1;have RR:=zC j.A.2.2.2.2;have F:=zC (j.A.fin0 (x0:=0) (x1:=a.2.1) (x2:=a.2.2)))
    |(have RR:=zC j.A.2.2.2.2;have F:=zC (j.A.fin0 (x0:=0) (x1:=a.2.1) (x2:=0)))
   go_wp2_with (refine ZD RR.A ?_)
   first
    |(revert g1;intro g1;have l:=X.A;subst l;exact yw results123 RR.A rfl rfl F.A)
    |(revert g;intro g;have l:=X.A;subst l;exact yw results122 RR.A rfl rfl F.A)
    |(revert H;intro H;exact yw results123 RR.A rfl rfl ⟨rfl,F.A⟩)
    |(exact yw results122 RR.A rfl rfl ⟨rfl,F.A⟩)
  gi_wp2_with fail
  have BX:=zC (bA (xF _ d) (.cells #[.int .i64 0,.int .i64 0,.int .i64 0] 168));have aa:=zC (xJ d (.cells #[.int .i64 0,.int .i64 0,.int .i64 0] 168));generalize VF d _=y1 at*;have ac:=zC (xG.1 aa.A).1;refine on 5 (B.A y1 ((BX.A.block _ D.A).R (C.A.block _ R.A))) ?_
  gi_wp2_with fail
  refine⟨xN,(vD.2 (J.A y1 BX.A)).G ?_⟩
  first
   |(revert g;intro g;rintro e w3 ⟨rfl,ar,G,z,b⟩;have ae:=b.size;have ay:=k.A.lt;have af:=zC (qa5 G (qa5 z b));(have ao:=zC ((b.block (N (Y d)) ac.A (by omega)).R aa.A));(have P:=zC (show w3.heap[N (Y w)]? =ad.heap[N (Y w)]? from(b.block _ (by have:=D.A;have:=ac.A;omega) au.A).R ((BX.A.block _ D.A).R (C.A.block _ R.A))));clear G z b)
   |(rintro e w3 ⟨rfl,A⟩;have ae:=A.size;have Q:=zC A;have ao:=zC ((A.block _ ac.A).R aa.A);(have P:=zC ((A.block _ (by have:=D.A;have:=ac.A;omega)).R ((BX.A.block _ D.A).R (C.A.block _ R.A))));clear A)
  gi_wp2_with fail
  first
   |(revert f;intro f;refine tk 6 (.tuple #[jF a,.iface 130 (.agg #[.string {data:=#[102,105,110,100,105,110,103,32,97,32,109,97,114,107]},.iface 109 (.int .i64 4)])]) ?_ ?_)
   |(refine tk 6 (.tuple #[jF a,.nilIface]) ?_ ?_)
  ·intro y ah;go_simp
  go_simp;refine zj 7 _ ?_;go_simp
  first
   |(revert f;intro f;refine tk 8 (.iface 130 (.agg #[.string {data:=#[102,105,110,100,105,110,103,32,97,32,109,97,114,107]},.iface 109 (.int .i64 4)])) ?_ ?_)
   |(refine tk 8 (.nilIface) ?_ ?_)
  ·intro y ah;go_simp
  go_simp;refine on 10 (B.A w3 P.A) ?_
  refine zV rfl 168 _ _ rfl _ _ _ 168 rfl rfl ao.A (by rfl) rfl (by simp [VI]) ?_
  have S:=zC (QH w3 _ _ #[.int .i64 a.1,.int .i64 a.2.1,.int .i64 a.2.2] _ _ ao.A)
  have v:=zC (fun q m=>kD w3 (N (Y d)) q #[.int .i64 a.1,.int .i64 a.2.1,.int .i64 a.2.2] m)
  have h:=zC (show(N (Y (w3.setRow (N (Y d)) #[.int .i64 a.1,.int .i64 a.2.1,.int .i64 a.2.2])))=N (Y w3)∧(w3.setRow (N (Y d)) #[.int .i64 a.1,.int .i64 a.2.1,.int .i64 a.2.2]).os=w3.os∧(w3.setRow (N (Y d)) #[.int .i64 a.1,.int .i64 a.2.1,.int .i64 a.2.2]).tape=w3.tape∧(w3.setRow (N (Y d)) #[.int .i64 a.1,.int .i64 a.2.1,.int .i64 a.2.2]).output=w3.output from⟨by simp,rfl,rfl,rfl⟩)
  generalize w3.setRow _ _=r at*
  have ag:=zC ((v.A _ (by have:=D.A;omega)).R P.A)
  first
   |(revert g;intro g;skip
     have j:=zC (show PX K w Z E c _ {M with ms:=GI M.ms (PP M.ms b0)} Z r from by
      obtain⟨G,z,b⟩:=af.A;have az:=ac.A
      have T:EO E d r:=⟨h.A.2.1.R (b.os.R BX.A.os),h.A.2.2.1.R (b.tape.R BX.A.tape),h.A.2.2.2.R (b.output.R BX.A.output),by rw [h.A.1];omega,fun q m ap=>(v.A q (by omega)).R ((b.block q (by omega) ap).R (BX.A.block q m))⟩
      have p:=k.A.ep T
      exact ai.A.same ⟨{av with mv:=ar},k.A.put T ⟨k.A.ey.blk.1,(v.A E (by omega)).R G⟩ ⟨rfl,rfl⟩ ⟨(zW.base (zD z (fun q m=>v.A q (by have:=(z.lt q m).1;omega))) (xY _)),p.dn,p.ud,p.cu,p.cvs,p.sl⟩⟩ (k.A.ey.ek T (by decide)))
     clear af)
   |(skip
     have j:=zC (ai.A.I (by
      have az:=ac.A
      exact⟨h.A.2.1.R (Q.A.os.R BX.A.os),h.A.2.2.1.R (Q.A.tape.R BX.A.tape),h.A.2.2.2.R (Q.A.output.R BX.A.output),by rw [h.A.1];omega,fun q m=>(v.A q (by omega)).R ((Q.A.block q (by omega)).R (BX.A.block q m))⟩))
     clear Q)
  refine Qg ?_;go_simp
  first
   |(revert f;intro f;refine tk 11 (.iface 130 (.agg #[.string {data:=#[102,105,110,100,105,110,103,32,97,32,109,97,114,107]},.iface 109 (.int .i64 4)])) ?_ ?_)
   |(refine tk 11 (.nilIface) ?_ ?_)
  ·intro y ah;go_simp
  go_simp
  refine jr (by rfl) (B.A r ag.A) ?_ _
  have k1:r.cell? _=O (.int _ _):=c9 (i:=1) S.A rfl;have k2:r.cell? _=O (.int _ _):=c9 (i:=2) S.A rfl;clear B ag S v h J
  first
   |(revert f;intro f;(have U:a.2.1=0∧a.2.2=0:=by rw [X.A];exact⟨rfl,rfl⟩);rw [U.1]at k1;rw [U.2]at k2;clear U;have RR:=zC j.A.2.2;have F:=zC (j.A.fin (row:=yV 0 0 0 (.slice none 0 0) (.slice none 0 0))))
   |(revert g1;intro g1;have RR:=zC j.A.2.2.2.2;have F:=zC (j.A.fin0 (x0:=0) (x1:=a.2.1) (x2:=a.2.2)))
   |(have RR:=zC j.A.2.2.2.2;have F:=zC (j.A.fin0 (x0:=0) (x1:=a.2.1) (x2:=0)))
  go_wp2_with (refine ZD RR.A ?_)
  first
   |(revert g1;intro g1;have l:=X.A;subst l;exact yw results123 RR.A rfl rfl F.A)
   |(revert g;intro g;have l:=X.A;subst l;exact yw results122 RR.A rfl rfl F.A)
   |(revert H;intro H;exact yw results123 RR.A rfl rfl ⟨rfl,F.A⟩)
   |(exact yw results122 RR.A rfl rfl ⟨rfl,F.A⟩)
def look9:=@DW.1
def lookB9:=@DW.2.1
def drop9:=@DW.2.2.1
def dropB9:=@DW.2.2.2
end
section
variable {w w':World} {Z:Nat->Prop} {E c:Nat} {x:VX} {M:SS} {K:KX} {kd b0 b1 b2:Int} {ta:Option Addr} {tl tq:Nat} {x0 x1 x2:Int} {T:List Int} {ms:List Mk} {M2:SS}
def SX(m:KX)(h:V8)(k:Nat->Prop)(n o:Nat)(p q r:Int)(s:qa0)(t:List Mk)(a:SS)(u:Ending)(c:V8):Prop:=
 ∃d e f i j mk g l,u=V5 (.agg (Xx p q r (VZ d e f) (VZ i j mk) (L a.tx) (brk a.tx+1) (L a.un) (L a.re) (if a.op then 1 else 0)))/\(zH c (N (Y h)) (VZ d e f) s/\∀b,(Value.slice d e f).ownBlock=O b->g b)/\zW c (N (Y h)) (VZ i j mk) t/\EX m c g n o l a/\KK Zt k h c/\∀b,k b->g b
theorem PX.U{W Z1 op cs R j v f}(g:PX K w Z E c op M Z1 W)(h:W.heap[R]?=O (V6 cs 79 f))(o:N (Y w)+1<R):PX K w Z E c op M Z1 (W.setCell (V4 R j) v):=by
 obtain⟨⟨i,k⟩,a,l,m,n⟩:=g;refine⟨⟨i,k.keep (KN.U h VS)⟩,⟨a.os,a.tape,a.output,by simp;grind,λb d e=>(xM W _ b v (by grind)).R (a.block b d e)⟩,l,(xM W _ _ v (by grind)).R m,(xM W _ _ v (by grind)).R n⟩
def PX.finS{W Z1 op ua ma ul uk ml mk}(h:PX K w Z E c op M Z1 W)(e:zH W (N (Y w)) (VZ ua ul uk) T/\∀a,(Value.slice ua ul uk).ownBlock=O a->Z1 a)(i:zW W (N (Y w)) (VZ ma ml mk) ms){o}(j:(if M.op then 1 else 0)=o):SX K w Z E c x0 x1 x2 T ms M (V5 (.agg (Xx x0 x1 x2 (VZ ua ul uk) (VZ ma ml mk) (L M.tx) (brk M.tx+1) (L M.un) (L M.re) o))) (W.setRow (N (Y w)+1) (Xx x0 x1 x2 (VZ ua ul uk) (VZ ma ml mk) (L M.tx) (brk M.tx+1) (L M.un) (L M.re) o)):=by
 obtain⟨⟨k,l⟩,b,m,p,n⟩:=h;subst j;have d:KN [79,61] W (W.setRow _ (Xx x0 x1 x2 (VZ ua ul uk) (VZ ma ml mk) (L M.tx) (brk M.tx+1) (L M.un) (L M.re) (if M.op then 1 else 0))):=KN.row n VS;exact⟨ua,ul,uk,ma,ml,mk,Z1,k,rfl,⟨jW e.1 d VS,e.2⟩,jW i d VS,l.keep d,⟨b.os,b.tape,b.output,by simp;grind,λa f g=>(kD W _ a _ VC).R (b.block a f g)⟩,m⟩
end
section
variable {w w':World} {Z:Nat->Prop} {E c:Nat} {x:VX} {M:SS} {K:KX} {kd b0 b1 b2:Int} {ta:Option Addr} {tl tq:Nat} {x0 x1 x2:Int} {T:List Int} {ms:List Mk} {M2:SS}
def zB9:(∀{m w b q a5 c p x y z A B C D E F bw cf g}(X:EX p m w b q a5 c)(aq:∀Q,qa3 m Q->AX p 75 Q w b q x y z A (VZ B C D) 0 E F bw cf g),VM prog 50 #[V3 b 0,.agg (yZ x y z A (VZ B C D))] m (SX p m w b q 0 E F bw cf g))/\(∀{m w b q a5 c p x y z A B C D Z cg ch}(X:EX p m w b q a5 c)(ci:∀Q,qa3 m Q->VM prog 21 #[.iface cg ch] Q λt w'=>t=V5 (qP Z)/\qa3 Q w')(aq:∀Q,qa3 m Q->BX 75 Q b x y z A (VZ B C D) (.iface cg ch)),VM prog 50 #[V3 b 0,.agg (yZ x y z A (VZ B C D))] m (SX p m w b q Z 0 0 [] [] c)):=by
 refine⟨@λm w b q a5 c p x y z A B C D E F bw cf g X aq=>have e:=zC xN;?_,@λm w b q a5 c p x y z A B C D Z cg ch X ci aq=>have ak:=zC xN;?_⟩
 all_goals
  have u:=zC (PX.start X (yZ x y z A (VZ B C D)));have ay:=zC (PB.start m (yZ x y z A (VZ B C D))).1;have d6:=X.lt;have b1:=zC aq
  first | (revert ak;intro ak;have cy:=zC ci;have dn:=zC X) | skip
  have d7:=λq m=>(p.mth q m).1
  have d8:=p.ent p.fLen VT;have d9:=λq m=>(p.mth q m).2.1
  have ea:=p.ent p.fBrk VT
  first
   |(revert ak;intro ak;clear X aq ci)
   |(clear X aq)
  go_enter func50,ntmps50;go_upto_region 1 with fail;generalize VF _ _=ap at*;have cz:ap.cell? _=O (.int _ x):=c8 0 u.2.2.2.1;have c0:ap.cell? _=O (.int _ y):=c8 1 u.2.2.2.1;have c1:ap.cell? _=O (.int _ z):=c8 2 u.2.2.2.1;have c2:ap.cell? _=O (.int _ A):=c8 3 u.2.2.2.1;have c3:ap.cell? _=O (VZ B C D):=c8 4 u.2.2.2.1;have b2:=zC (b1 ap ay);go_wp2_with fail;refine b2.G ?_
  first
   |(revert e;intro e;rintro t d ⟨de,df,dg,dh,di,mk,dy,dz,rfl,cj,dj,ck,bz,dk⟩;(have al:=zC (show PX p m w b q _ g dy d from⟨⟨dz,ck⟩,u.2.1.R bz u.2.2.1,λaa bx=>dk aa bx,bz.ty u.2.2.2.1 VS,bz.ty u.2.2.2.2 VS⟩)))
   |(rintro t d ⟨rfl,cl⟩;have al:=zC (u.I cl);have b3:=zC (ay.R (cl.G ay.size)))
  have b4:=zC ((xG.1 al.2.2.2.2).1)
  first
   |(revert ak;intro ak;skip
     have BX:=zC (bA (xF (N (Y d)) d) (V6 (yV 0 0 0 V0 V0) 79));have b5:=zC (xJ d (V6 (yV 0 0 0 V0 V0) 79));clear cl b2 b1 cz c0 c1 c2 c3 u;go_upto_region 3 with fail;generalize VF d _=dv at*;have c4:=zC (al.I BX);have c5:=zC (cy dv (b3.R (BX.G b3.size)));go_wp2_with (first | (refine yE rfl 79 _ _ rfl (N (Y d)) _ (yV Z 0 0 V0 V0) 79 rfl rfl a9 VU rfl (by simp[VI]) ?_) | (refine c5.G ?_;rintro t ar ⟨rfl,cm⟩;have c6:=zC (c4.I cm);have a9:=zC ((cm.block (N (Y d)) (xG.1 b5).1).R b5);clear cm));have ba:=zC (QH ar (N (Y d)) _ (yV Z 0 0 V0 V0) _ _ a9)
     have bc:=zC (show PX p m w b q (yZ x y z A (VZ B C D)) c w (ar.setRow (N (Y d)) (yV Z 0 0 V0 V0))from by
      obtain⟨⟨d0,d1⟩,b0,d2,d3,d4⟩:=c6.A;have eb:=b4.A
      exact⟨⟨d0,d1.keep (KN.row a9 VS)⟩,⟨b0.os,b0.tape,b0.output,by simp;grind,λaa bx dx=>(kD ar _ aa _ VC).R (b0.block aa bx dx)⟩,d2,(kD ar _ _ _ VC).R d3,(kD ar _ _ _ VC).R d4⟩)
     generalize ar.setRow (N (Y d)) _=J at*;obtain⟨a7,dl⟩:=bc.A.1;have s:=zC dl;have bd:=zC (qa5 (show zH J (N (Y m)) V0 []from vz _ _ _ _) (show ∀aa,(Value.slice none 0 0).ownBlock=O aa->w aa from λaa bx=>by grind [Value.ownBlock]));have b6:=zC (show zW J (N (Y m)) V0 []from vz _ _ _ _)
     clear al b3 BX b5 c4 c5 c6 a9 dl cy dn)
   |(have BX:=zC (bA (xF _ d) (V6 (yV 0 E F (VZ de df dg) (VZ dh di mk)) 79));have ba:=zC (xJ d (V6 (yV 0 E F (VZ de df dg) (VZ dh di mk)) 79));have b7:=zC (qa5 (show zH d _ _ bw from zF cj.1 ay.size) cj.2);have da:=zC (dj.base ay.size);have db:=zC ck;clear cj dj ck bz dk b2 b1 cz c0 c1 c2 c3 u;go_upto_region 4 with fail;generalize VF d _=J at*;have bc:=zC (al.I BX);have s:=zC (db.I BX);have bd:=zC (qa5 (zE b7.1 BX lR) b7.2);have b6:=zC (zE da BX lR);clear al db b7 da BX;rename VX=>a7)
  have G:=zC (b4);have ec:=s.len
  first
   |(revert e;intro e;(have dp:IntKind.i64.wrap (brk g.tx+1)=brk g.tx+1:=by have:=J5 g.tx;rw[vU];omega))
   |((have dp:IntKind.i64.wrap (brk c.tx+1)=brk c.tx+1:=by have:=J5 c.tx;rw[vU];omega))
  have b8:=s.lt;have T:=zC (show b≠N (Y d) by have dq:=b4.A;omega);have am:=zC (show ∀a:V8,a.heap[b]? =J.heap[b]?->a.cell? _=O _ from λa R=>(vO R).R s.c6);refine(kS (n:=6)).1 ?_;refine yU (λa=>VE a (V4 b 6)=O (.iface p.ty (V3 q 0))) (by rfl) ?_;refine tk 5 (V3 b 0) ?_ ?_
  ·intro a h;go_simp
  go_simp;refine tk 6 (V3 b 0) ?_ ?_
  ·intro a h;go_simp
  go_simp;refine tk 7 (V3 b 6) ?_ ?_
  ·intro a h;go_simp
  go_simp;refine tk 8 (.iface p.ty (V3 q 0)) ?_ ?_
  ·intro a h;go_simp
  go_simp;refine tk 0 (V3 b 0) ?_ ?_
  ·intro a h;go_simp
  go_simp;refine tk 1 (V3 b 0) ?_ ?_
  ·intro a h;go_simp
  go_simp;refine tk 2 (V3 b 6) ?_ ?_
  ·intro a h;go_simp
  go_simp;refine tk 3 (.iface p.ty (V3 q 0)) ?_ ?_
  ·intro a h;go_simp
  go_simp;obtain⟨dm,ai⟩:∃a,a=J.drew:=⟨_,rfl⟩
  rw[<- ai];have az:=zC (show qa3 J dm from by rw[ai];exact⟨rfl,rfl,rfl,lR,λ_ _=>rfl⟩);clear ai;refine on 4 (am dm (az.block _ b8)) ?_;have dc:=zC (Ht (s.I az));gi_wp2_with fail;refine⟨xN,(vD.2 dc).G ?_⟩;rintro t d5 ⟨rfl,a8⟩;have a0:=zC (az.R (a8.G az.size));clear a8 dc az;gi_wp2_with fail;refine tk 11 (V3 (N (Y d)) 5) ?_ ?_
  ·intro a h;go_simp
  go_simp;refine on 9 (am d5 (a0.block _ b8)) ?_;have dd:=zC (brkQ (s.I a0));gi_wp2_with fail;refine⟨xN,(vD.2 dd).G ?_⟩;rintro t ac ⟨rfl,a8⟩;have an:=zC (a0.R (a8.G a0.size));clear a8 dd a0;gi_wp2_with fail
  first
   |(revert e;intro e;refine tk 10 (qP (brk g.tx+1)) ?_ ?_)
   |(refine tk 10 (qP (brk c.tx+1)) ?_ ?_)
  ·intro a h;go_simp
  go_simp;have b9:=zC (bc.I an);have bf:=zC (qa5 (zE bd.1 an lR) (qa5 bd.2 (zE b6 an lR)));have K:=zC ((an.block _ (xG.1 ba).1).R ba);have bg:=zC (an.block _ b8);clear an ba bc bd b6;have dr:=xW ac _ 5 _ _ K;have u5:ac.cell? _=O (.int _ 0):=c8 5 K;refine on 12 (am ac bg) ?_;gi_wp2_with fail
  first
   |(revert e;intro e;have H:=zC (vf ac _ 5 _ _ (qP (L g.tx)) K);have bh:=zC (b9.U (j:=5) (v:=.int .i64 (L g.tx)) K G);(have bi:=KN.U (l:=[79]) (j:=5) (v:=.int .i64 (L g.tx)) K VS))
   |(have H:=zC (vf ac (N (Y d)) 5 _ _ (qP (L c.tx:Nat)) K);have bh:=zC (b9.U (j:=5) (v:=.int .i64 (L c.tx:Nat)) K G);(have bi:=KN.U (l:=[79]) (j:=5) (v:=.int .i64 (L c.tx:Nat)) K VS))
  have bj:=zC (qa5 (jW bf.1 bi VS) (qa5 bf.2.1 (jW bf.2.2 bi VS)))
  first
   |(revert e;intro e;have a1:=zC ((xM ac (V4 (N (Y d)) 5) b (qP (L g.tx)) T).R bg))
   |(have a1:=zC ((xM ac (V4 (N (Y d)) 5) b (qP (L c.tx:Nat)) T).R bg))
  clear bi;generalize ac.setCell _ _=U at*;clear K b9 bf bg dr u5;refine tk 13 (V3 (N (Y d)) 6) ?_ ?_
  ·intro a h;go_simp
  go_simp;have ds:=xW U _ 6 _ _ H;have u6:U.cell? _=O (.int _ 0):=c8 6 H;refine on 14 (am U a1) ?_;gi_wp2_with fail
  first
   |(revert e;intro e;have bk:=zC (vf U _ 6 _ _ (qP (brk g.tx+1)) H);have ca:=zC (bh.U (j:=6) (v:=.int .i64 (brk g.tx+1)) H G);(have bl:=KN.U (l:=[79]) (j:=6) (v:=.int .i64 (brk g.tx+1)) H VS))
   |(have bk:=zC (vf U (N (Y d)) 6 _ _ (qP (brk c.tx+1)) H);have ca:=zC (bh.U (j:=6) (v:=.int .i64 (brk c.tx+1)) H G);(have bl:=KN.U (l:=[79]) (j:=6) (v:=.int .i64 (brk c.tx+1)) H VS))
  have bn:=zC (qa5 (jW bj.1 bl VS) (qa5 bj.2.1 (jW bj.2.2 bl VS)))
  first
   |(revert e;intro e;have a2:=zC ((xM U (V4 (N (Y d)) 6) b (qP (brk g.tx+1)) T).R a1))
   |(have a2:=zC ((xM U (V4 (N (Y d)) 6) b (qP (brk c.tx+1)) T).R a1))
  clear bl;generalize U.setCell _ _=ce at*;clear H bh bj a1 ds u6;refine jr (by rfl) (am ce a2) ?_ _;clear am;go_upto_region 5 with fail
  first
   |(revert e;intro e;skip
     obtain⟨au,av,cn⟩:∃ab ah,a7.dv= .slice ab (L g.un) ah:=by
      obtain⟨co,aj,_⟩:=s.A.ey.dn.1;obtain⟨t,cp⟩|⟨cq,cr,cs,t,_⟩:=aj.2
      ·simp_all
      simp_all
     obtain⟨aw,ax,ct⟩:∃ab ah,a7.uv= .slice ab (L g.re) ah:=by
      obtain⟨co,aj,_⟩:=s.A.ey.ud.1;obtain⟨t,cp⟩|⟨cq,cr,cs,t,_⟩:=aj.2
      ·simp_all
      simp_all
     have a3:=zC (show ∀a:V8,a.heap[b]? =J.heap[b]?->a.cell? _=O _/\a.cell? _=O _ from λa R=>by
      obtain⟨_,cu,cv,_⟩:=s.A.ey.blk.cl;rw[cn]at cu;rw[ct]at cv
      exact⟨(vO R).R cu,(vO R).R cv⟩)
     have cb:=zC (show ∀a:V8,a.heap[b]? =J.heap[b]?->a.cell? _=O _ from λa R=>(vO R).R s.ey.blk.cl.2.2.2.2.1))
   |(skip
     obtain⟨au,av,cn⟩:∃ab ah,a7.dv= .slice ab (L c.un) ah:=by
      obtain⟨co,aj,_⟩:=s.A.ey.dn.1;obtain⟨t,cp⟩|⟨cq,cr,cs,t,_⟩:=aj.2
      ·simp_all
      simp_all
     obtain⟨aw,ax,ct⟩:∃ab ah,a7.uv= .slice ab (L c.re) ah:=by
      obtain⟨co,aj,_⟩:=s.A.ey.ud.1;obtain⟨t,cp⟩|⟨cq,cr,cs,t,_⟩:=aj.2
      ·simp_all
      simp_all
     have a3:=zC (show ∀a:V8,a.heap[b]? =J.heap[b]?->VE a (V4 b 1)=O (VZ au (L c.un) av)/\VE a (V4 b 2)=O (VZ aw (L c.re) ax)from λa R=>by
      obtain⟨_,cu,cv,_⟩:=s.A.ey.blk.cl
      grind [trans,World.cell?_of_block])
     have cb:=zC (show ∀a:V8,a.heap[b]? =J.heap[b]?->VE a (V4 b 4)=O (.bool c.op)from λa R=>(vO (a:=(V4 b 4)) R).R s.ey.blk.cl.2.2.2.2.1))
  clear cn ct;refine(kS (n:=6)).1 ?_
  first
   |(revert e;intro e;(refine yU (λa=>VE a (V4 b 1)=O (VZ au (L g.un) av)/\VE a (V4 b 2)=O (VZ aw (L g.re) ax)) (by rfl) ?_))
   |((refine yU (λa=>VE a (V4 b 1)=O (VZ au (L c.un) av)/\VE a (V4 b 2)=O (VZ aw (L c.re) ax)) (by rfl) ?_))
  refine tk 0 (V3 b 0) ?_ ?_
  ·intro a h;rfl
  go_simp;refine tk 1 (V3 b 0) ?_ ?_
  ·intro a h;rfl
  go_simp;refine tk 2 (V3 b 1) ?_ ?_
  ·intro a h;rfl
  go_simp;refine tk 3 (V3 b 1) ?_ ?_
  ·intro a h;rfl
  go_simp;refine tk 4 (V3 b 1) ?_ ?_
  ·intro a h;rfl
  go_simp
  first
   |(revert e;intro e;refine tk 5 (VZ au (L g.un) av) ?_ ?_)
   |(refine tk 5 (VZ au (L c.un) av) ?_ ?_)
  ·intro a h;obtain⟨cw,cx⟩:=h;go_simp
  go_simp
  first
   |(revert e;intro e;refine tk 6 (qP (L g.un)) ?_ ?_)
   |(refine tk 6 (qP (L c.un:Nat)) ?_ ?_)
  ·intro a h;obtain⟨cw,cx⟩:=h;go_simp
  go_simp;refine tk 7 (V3 b 0) ?_ ?_
  ·intro a h;rfl
  go_simp;refine tk 8 (V3 b 0) ?_ ?_
  ·intro a h;rfl
  go_simp;refine tk 9 (V3 b 1) ?_ ?_
  ·intro a h;rfl
  go_simp;refine tk 10 (V3 b 1) ?_ ?_
  ·intro a h;rfl
  go_simp;refine tk 11 (V3 b 2) ?_ ?_
  ·intro a h;rfl
  go_simp
  first
   |(revert e;intro e;refine tk 12 (VZ aw (L g.re) ax) ?_ ?_)
   |(refine tk 12 (VZ aw (L c.re) ax) ?_ ?_)
  ·intro a h;obtain⟨cw,cx⟩:=h;go_simp
  go_simp
  first
   |(revert e;intro e;refine tk 13 (qP (L g.re)) ?_ ?_)
   |(refine tk 13 (qP (L c.re:Nat)) ?_ ?_)
  ·intro a h;obtain⟨cw,cx⟩:=h;go_simp
  go_simp;refine tk 14 (V3 (N (Y d)) 7) ?_ ?_
  ·intro a h;rfl
  go_simp;obtain⟨S,ai⟩:∃a,a=ce.drew:=⟨_,rfl⟩
  rw[<- ai];have ao:=zC (show qa3 ce S from by rw[ai];exact⟨rfl,rfl,rfl,lR,λ_ _=>rfl⟩);clear ai;have cc:=zC (ca.I ao);have bp:=zC (qa5 (zE bn.1 ao lR) (qa5 bn.2.1 (zE bn.2.2 ao lR)));have M:=zC ((ao.block _ (xG.1 bk).1).R bk);have bq:=zC ((ao.block b (by have dq:=a2.A;grind)).R a2);clear ca bn bk a2 ao;have dt:=xW S _ 7 _ _ M;have u7:S.cell? _=O (.int _ 0):=c8 7 M;refine on 15 (a3 S bq) ?_;gi_wp2_with fail
  first
   |(revert e;intro e;have I:=zC (vf S _ 7 _ _ (qP (L g.un)) M);have br:=zC (cc.U (j:=7) (v:=.int .i64 (L g.un)) M G);(have bs:=KN.U (l:=[79]) (j:=7) (v:=.int .i64 (L g.un)) M VS))
   |(have I:=zC (vf S (N (Y d)) 7 _ _ (qP (L c.un:Nat)) M);have br:=zC (cc.U (j:=7) (v:=.int .i64 (L c.un:Nat)) M G);(have bs:=KN.U (l:=[79]) (j:=7) (v:=.int .i64 (L c.un:Nat)) M VS))
  have bt:=zC (qa5 (jW bp.1 bs VS) (qa5 bp.2.1 (jW bp.2.2 bs VS)))
  first
   |(revert e;intro e;have a4:=zC ((xM S (V4 (N (Y d)) 7) b (qP (L g.un)) T).R bq))
   |(have a4:=zC ((xM S (V4 (N (Y d)) 7) b (qP (L c.un:Nat)) T).R bq))
  clear bs;generalize S.setCell _ _=V at*;clear M cc bp bq dt u7;refine tk 16 (V3 (N (Y d)) 8) ?_ ?_
  ·intro a h;rfl
  go_simp;have du:=xW V _ 8 _ _ I;have u8:V.cell? _=O (.int _ 0):=c8 8 I;refine on 17 (a3 V a4) ?_;gi_wp2_with fail
  first
   |(revert e;intro e;have f:=zC (vf V _ 8 _ _ (qP (L g.re)) I);have PZ:=zC (br.U (j:=8) (v:=.int .i64 (L g.re)) I G);(have bu:=KN.U (l:=[79]) (j:=8) (v:=.int .i64 (L g.re)) I VS))
   |(have f:=zC (vf V (N (Y d)) 8 _ _ (qP (L c.re:Nat)) I);have PZ:=zC (br.U (j:=8) (v:=.int .i64 (L c.re:Nat)) I G);(have bu:=KN.U (l:=[79]) (j:=8) (v:=.int .i64 (L c.re:Nat)) I VS))
  have r:=zC (qa5 (jW bt.1 bu VS) (qa5 bt.2.1 (jW bt.2.2 bu VS)))
  first
   |(revert e;intro e;have ad:=zC ((xM V (V4 (N (Y d)) 8) b (qP (L g.re)) T).R a4))
   |(have ad:=zC ((xM V (V4 (N (Y d)) 8) b (qP (L c.re:Nat)) T).R a4))
  clear bu;generalize V.setCell _ _=W at*;clear I br bt a4 du u8;refine jr (by rfl) (a3 W ad) ?_ _;have bv:=cb W ad;clear a3 cb
  first
   |(revert e;intro e;skip
     cases a6:g.op with
     | false=>
      rw[a6]at bv;have RR:=zC PZ.2.2.2.2;have ae:=zC (PZ.finS (x0:=0) (x1:=E) (x2:=F) ⟨r.1,r.2.1⟩ r.2.2 (o:=0) (by grind));have u0:=c8 0 f;have u1:=c8 1 f;have u2:=c8 2 f;have u3:=c8 3 f;have u4:=c8 4 f;have u5:=c8 5 f;have u6:=c8 6 f;have u7:=c8 7 f;have u8:=c8 8 f;have u9:=c8 9 f;clear PZ r ad;go_wp2_with (refine sr8 RR ?_);exact T9 results50 RR rfl ae
     | true=>
      rw[a6]at bv;have cd:=xW W (N (Y d)) 9 _ _ f;have u9:=c8 9 f;have k:=zC (vf W (N (Y d)) 9 _ _ (qP 1) f);have af:=zC (PZ.U (j:=9) (v:=.int .i64 1) f G);have ag:=KN.U (l:=[79]) (j:=9) (v:=.int .i64 1) f VS;have P:=zC (qa5 (jW r.1 ag VS) (qa5 r.2.1 (jW r.2.2 ag VS)));clear ag;go_upto_region 8 with fail;clear cd u9 f PZ r ad;generalize W.setCell (V4 (N (Y d)) 9) _=dw at*;have RR:=zC af.2.2.2.2;have ae:=zC (af.finS (x0:=0) (x1:=E) (x2:=F) ⟨P.1,P.2.1⟩ P.2.2 (o:=1) (by grind));have u0:=c8 0 k;have u1:=c8 1 k;have u2:=c8 2 k;have u3:=c8 3 k;have u4:=c8 4 k;have u5:=c8 5 k;have u6:=c8 6 k;have u7:=c8 7 k;have u8:=c8 8 k;have u9:=c8 9 k;clear af P;go_wp2_with (refine sr8 RR ?_)
      exact T9 results50 RR rfl ae)
   |(skip
     cases a6:c.op with
     | false=>
      rw[a6]at bv;have RR:=zC PZ.2.2.2.2;have ae:=zC (PZ.finS (x0:=Z) (x1:=0) (x2:=0) ⟨r.1,r.2.1⟩ r.2.2 (o:=0) (by grind));have u0:=c8 0 f;have u1:=c8 1 f;have u2:=c8 2 f;have u3:=c8 3 f;have u4:=c8 4 f;have u5:=c8 5 f;have u6:=c8 6 f;have u7:=c8 7 f;have u8:=c8 8 f;have u9:=c8 9 f;clear PZ r ad;go_wp2_with (refine sr8 RR ?_);exact T9 results50 RR rfl ae
     | true=>
      rw[a6]at bv;have cd:=xW W (N (Y d)) 9 _ _ f;have u9:=c8 9 f;have k:=zC (vf W (N (Y d)) 9 _ _ (qP 1) f);have af:=zC (PZ.U (j:=9) (v:=.int .i64 1) f G);have ag:=KN.U (l:=[79]) (j:=9) (v:=.int .i64 1) f VS;have P:=zC (qa5 (jW r.1 ag VS) (qa5 r.2.1 (jW r.2.2 ag VS)));clear ag;go_upto_region 8 with fail;clear cd u9 f PZ r ad;generalize W.setCell (V4 (N (Y d)) 9) _=dw at*;have RR:=zC af.2.2.2.2;have ae:=zC (af.finS (x0:=Z) (x1:=0) (x2:=0) ⟨P.1,P.2.1⟩ P.2.2 (o:=1) (by grind));have u0:=c8 0 k;have u1:=c8 1 k;have u2:=c8 2 k;have u3:=c8 3 k;have u4:=c8 4 k;have u5:=c8 5 k;have u6:=c8 6 k;have u7:=c8 7 k;have u8:=c8 8 k;have u9:=c8 9 k;clear af P;go_wp2_with (refine sr8 RR ?_)
      exact T9 results50 RR rfl ae)
def step9:=@zB9.1
def Ij:=@zB9.2
end
end

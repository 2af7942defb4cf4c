import Derived.Test.YtljnflecikholaaGreatDoorMq27
import Derived.Test.YtljnflecikholaaGreatDoorMq32
import Derived.Test.YtljnflecikholaaGreatDoorMq33
set_option linter.all false
set_option maxRecDepth 100000
set_option maxHeartbeats 8000000
namespace Go.Proofs.YtljnflecikholaaGreatDoor
open Go Go.RowKit Go.Proofs.Tryz
def zn(a:Nat)(ws)(f)(A:1<=a/\a<=16)(p:IR[a*2]?=some (.string ws))(q:IR[a*2+1]?=some (.func (.func f) #[] #[]))(w):Calls prog 93 #[qC a] w λg m=>g=qQ (.tuple #[.agg #[.string ws,.func (.func f) #[] #[]],.nilIface])/\qY w m:=by
 have r:=Tryz.stF;have d:=zC (Ja a 1 16 13 (w.alloc (qR #[.string ⟨#[]⟩,.nilFunc] 172)));rw[decide_eq_true ⟨qF,qF⟩,show jH true 13= .nilIface from rfl]at d;go_enter func93,ntmps93;go_wp2_with fail;refine d.mono ?_;rintro g B ⟨rfl,rfl⟩;go_upto_region 4 with fail;refine wp_region_lit ?_
 iterate 18 (refine QT rfl (λn h=>?_);go_simp;refine h _ _ ?_;clear h n)
 refine yM rfl 208 _ _ rfl _ ansZ IR 208 rfl rfl (ES _ _ _ _) qI rfl qI ?_;have KT:=zC (show(((w.alloc (qR #[.string ⟨#[]⟩,.nilFunc] 172)).alloc (qR #[.string ⟨#[]⟩,.nilFunc,.string ⟨#[]⟩,.nilFunc,.string ⟨#[]⟩,.nilFunc,.string ⟨#[]⟩,.nilFunc,.string ⟨#[]⟩,.nilFunc,.string ⟨#[]⟩,.nilFunc,.string ⟨#[]⟩,.nilFunc,.string ⟨#[]⟩,.nilFunc,.string ⟨#[]⟩,.nilFunc,.string ⟨#[]⟩,.nilFunc,.string ⟨#[]⟩,.nilFunc,.string ⟨#[]⟩,.nilFunc,.string ⟨#[]⟩,.nilFunc,.string ⟨#[]⟩,.nilFunc,.string ⟨#[]⟩,.nilFunc,.string ⟨#[]⟩,.nilFunc,.string ⟨#[]⟩,.nilFunc] 208)).setRow _ IR).heap[w.heap.size+1]?=some _ from kT _ _ _ _ _ _ (ES _ _ _ _));have c:=zC (show(((w.alloc (qR #[.string ⟨#[]⟩,.nilFunc] 172)).alloc (qR #[.string ⟨#[]⟩,.nilFunc,.string ⟨#[]⟩,.nilFunc,.string ⟨#[]⟩,.nilFunc,.string ⟨#[]⟩,.nilFunc,.string ⟨#[]⟩,.nilFunc,.string ⟨#[]⟩,.nilFunc,.string ⟨#[]⟩,.nilFunc,.string ⟨#[]⟩,.nilFunc,.string ⟨#[]⟩,.nilFunc,.string ⟨#[]⟩,.nilFunc,.string ⟨#[]⟩,.nilFunc,.string ⟨#[]⟩,.nilFunc,.string ⟨#[]⟩,.nilFunc,.string ⟨#[]⟩,.nilFunc,.string ⟨#[]⟩,.nilFunc,.string ⟨#[]⟩,.nilFunc,.string ⟨#[]⟩,.nilFunc] 208)).setRow (w.heap.size+1) IR).heap[w.heap.size]?=some _ from(vG _ _ _ _ qF).trans (Pd _ _ _ _));have i:=zC (show Below _ w (((w.alloc (qR #[.string ⟨#[]⟩,.nilFunc] 172)).alloc (qR #[.string ⟨#[]⟩,.nilFunc,.string ⟨#[]⟩,.nilFunc,.string ⟨#[]⟩,.nilFunc,.string ⟨#[]⟩,.nilFunc,.string ⟨#[]⟩,.nilFunc,.string ⟨#[]⟩,.nilFunc,.string ⟨#[]⟩,.nilFunc,.string ⟨#[]⟩,.nilFunc,.string ⟨#[]⟩,.nilFunc,.string ⟨#[]⟩,.nilFunc,.string ⟨#[]⟩,.nilFunc,.string ⟨#[]⟩,.nilFunc,.string ⟨#[]⟩,.nilFunc,.string ⟨#[]⟩,.nilFunc,.string ⟨#[]⟩,.nilFunc,.string ⟨#[]⟩,.nilFunc,.string ⟨#[]⟩,.nilFunc] 208)).setRow (w.heap.size+1) IR)from below_setRow (bA (bA (xe _ _) _) _) qF _);generalize ((w.alloc _).alloc _).setRow _ IR=b at *;have s:b.cell? (qP (w.heap.size+1) (a*2))=some (.string ws):=by rw[xF _ _ (a*2) _ _ _ KT.out];exact p
 have t:b.cell? (qP (w.heap.size+1) (a*2+1))=some (.func (.func f) #[] #[]):=by rw[xF _ _ (a*2+1) _ _ _ KT.out];exact q
 have u:(a:Int)<17:=qF
 have v:b.cell? (qP w.heap.size 0)=some (.string ⟨#[]⟩):=by rw[xF _ _ 0 _ _ _ c.out];rfl
 have x:b.cell? (qP w.heap.size 1)=some .nilFunc:=by rw[xF _ _ 1 _ _ _ c.out];rfl
 have e:=λo=>xY b _ o _ _ c
 have y:=e 0;have z:=e 1;have j:=zC (show Below _ w ((b.setCell (qP w.heap.size 0) (.string ws)).setCell (qP w.heap.size 1) (.func (.func f) #[] #[]))from(i.setCell lR _).setCell lR _);clear e d;refine wpList_nil ?_;go_wp2;refine vg ?_ rfl ⟨rfl,j⟩
 have k:((b.setCell (qP w.heap.size 0) (.string ws)).setCell (qP w.heap.size 1) (.func (.func f) #[] #[])).cell? (qP w.heap.size 0)=some (.string ws):=by
  rw[xF _ _ 0 _ _ _ (xN _ w.heap.size 1 _ _ _ (xN b w.heap.size 0 _ _ _ c.out))];rfl
 have l:((b.setCell (qP w.heap.size 0) (.string ws)).setCell (qP w.heap.size 1) (.func (.func f) #[] #[])).cell? (qP w.heap.size 1)=some (.func (.func f) #[] #[]):=by
  rw[xF _ _ 1 _ _ _ (xN _ w.heap.size 1 _ _ _ (xN b w.heap.size 0 _ _ _ c.out))];rfl
 simp[results,go_sem,k,l]
section
open Go.Sort Go.BigFrame
section
variable {w w':World} {Z:Nat->Prop} {E c:Nat} {x:VX} {M:SS} {K:KX} {kd b0 b1 b2:Int} {ta:Option Addr} {tl tq:Nat} {x0 x1 x2:Int} {T:List Int} {ms:List Mk} {M2:SS}
structure PE(kd:Int)(b:ByteArray)(f:FuncId):Prop where
 of:∀w,Calls prog 93 #[qC kd] w λe w'=>e=qQ (.tuple #[.agg #[.string b,.func (.func f) #[] #[]],.nilIface])/\qY w w'
 en:∀a w,(callFunc f a).run prog w= .ok (.enter f a) w
def F7:(∀{b q l r G H s a c d e f g h w x L X M m p}(C:PE a m p)(D:EX s b q l r G H)(I:∀F,qY b F->AX s p F q l r a c d e (qM f g h) 0 w x L X M),AX s 76 b q l r a c d e (qM f g h) 0 w x L X M)/\(∀{b q l r G H s a c d e f g h m p Y Z}(C:PE a m p)(D:EX s b q l r G H)(I:∀F,qY b F->BX p F l a c d e (qM f g h) (.iface Y Z)),BX 76 b l a c d e (qM f g h) (.iface 131 (.agg #[.string m,.iface Y Z]))):=by
 refine⟨@λb q l r G H s a c d e f g h w x L X M m p C D I=>have j:=zC xB;?_,@λb q l r G H s a c d e f g h m p Y Z C D I=>have B:=zC xB;?_⟩
 all_goals
  first
   |(revert j;intro j;unfold AX;have t:=zC (PX.start D (yp a c d e (qM f g h))))
   |(unfold BX;have t:=zC (PB.start b (yp a c d e (qM f g h))))
  first | (revert j;intro j;have ae:=zC (PB.start b (yp a c d e (qM f g h))).1) | skip
  have bi:=Tryz.stF;have a4:=zC C.of;have bj:=C.en;have af:=zC I;clear I C
  first | (revert B;intro B;have bk:=zC D) | skip
  clear D;go_enter func76,ntmps76;go_upto_region 1 with fail;generalize World.alloc _ _=au at *
  first
   |(revert j;intro j;obtain⟨bn,bf⟩:=t.out.1;have ag:=zC t.2.2.2.1;clear bf)
   |(have ag:=zC t.2.1)
  have a5:au.cell? _=some (.int _ a):=c8 0 ag;go_wp2_with fail;refine(a4 au).mono ?_;rintro av z ⟨rfl,N⟩;have P:=zC (t.below N)
  first
   |(revert B;intro B;have Q:=zC (t.1.trans (N.mono t.1.size));have a6:=zC (P.lt))
   |(have Q:=zC (ae.trans (N.mono ae.size)))
  clear N a5;have BX:=zC (bA (xe _ z) (qR #[.string m,.func (.func p) #[] #[]] 172));have J:=zC (xI z (qR #[.string m,.func (.func p) #[] #[]] 172));go_upto_region 4 with fail;generalize World.alloc z _=v at *;have o:=zC (P.below BX);have R:=zC (Q.trans (BX.mono Q.size))
  first
   |(revert j;intro j;have u:=o.2.2.2.1)
   |(have u:=o.2.1)
  have ah:v.cell? _=some (.int _ a):=c8 0 u;have ai:v.cell? _=some (.int _ c):=c8 1 u;have aj:v.cell? _=some (.int _ d):=c8 2 u;have z3:v.cell? _=some (.int _ e):=c8 3 u;have ak:v.cell? _=some (qM f g h):=c8 4 u;have al:v.cell? _=some (.func _ #[] #[]):=c8 1 J;have S:=zC (af v R);clear af u P BX;go_wp2_with fail;refine S.mono ?_
  first
   |(revert j;intro j;rintro av A ⟨aw,ax,ay,az,a0,mk,bg,bh,rfl,aa,a1,a2,O,a3⟩;(have E:=zC (show PX s b q l r _ M bg A from⟨⟨bh,a2⟩,o.2.1.trans O o.2.2.1,λba bc=>a3 ba bc,O.ty o.2.2.2.1 qG,O.ty o.2.2.2.2 qG⟩));have T:=zC (And.intro (show zT A _ _ L from zF aa.1 R.size) aa.2);have am:=zC (a1.base R.size);have BX:=zC (bA (xe _ A) (qR (yg 0 w x (qM aw ax ay) (qM az a0 mk)) 81));have k:=zC (xI A (qR (yg 0 w x (qM aw ax ay) (qM az a0 mk)) 81));clear aa a1 a2 O a3 S ah ai aj z3 ak al J o;go_upto_region 7 with fail)
   |(rintro av A ⟨rfl,ab⟩;have E:=zC (o.below ab);have U:=zC ((ab.block _ (qZ.1 J).1).trans J);have BX:=zC (bA (xe _ A) (qR (yg 0 0 0 qN qN) 81));clear ab S ah ai aj z3 ak al o;go_upto_region 6 with fail;have an:=zC ((BX.block _ (qZ.1 U).1).trans U);have K:=zC (E.below BX))
  generalize World.alloc A _=W at *
  first
   |(revert B;intro B;skip
     have ao:=zC (show ∀y:qS,y.heap[z.heap.size]? =W.heap[z.heap.size]?->y.cell? _=some (.string m)from λy bd=>c9 (i:=0) (bd.trans an) rfl);have a7:=zC (show z.heap.size≠b.heap.size+1 from by have bl:=a6.out;omega);clear E U BX;refine(vZ (n:=6)).1 ?_;refine yf (λy=>y.cell? (qP z.heap.size 0)=some (.string m)) qI ?_;refine zi 0 (.agg (yg 0 0 0 qN _)) ?_;go_simp;refine zi 1 _ ?_;go_simp;refine zi 2 _ ?_;go_simp;refine zi 3 _ ?_;go_simp;refine zi 4 _ ?_;go_simp;refine zi 5 (.iface 131 _) ?_;go_simp;obtain⟨ac,ad⟩:∃y,y=W.drew:=⟨_,rfl⟩
     rw[<- ad];have V:=zC (show qY W ac from by rw[ad];exact⟨rfl,rfl,rfl,lR,λ_ _=>rfl⟩);clear ad;have ap:=zC (K.below V);have aq:=zC ap.2.2;have a8:=zC (ap.fin (row:=yg 0 0 0 qN qN));have ar:=(qZ.1 an).1;refine on 6 (ao ac (V.block _ ar)) ?_;refine zR rfl 81 _ _ rfl _ _ _ 81 rfl rfl aq qI rfl (by simp[Value.oneCell']) ?_;refine kl ?_;go_simp;refine zi 7 _ ?_;go_simp;refine ZA qI (ao _ ((vG ac _ _ _ a7).trans (V.block _ ar))) ?_ _;go_wp2_with fail
     exact jK results76 aq rfl rfl ⟨rfl,a8⟩)
   |(have K:=zC (E.below BX);have a9:=zC (K.fin (x0:=0) (x1:=w) (x2:=x) ⟨zE T.1 BX lR,T.2⟩ (zE am BX lR));have RR:=zC K.2.2.2.2;have u0:=c8 0 k;have u1:=c8 1 k;have u2:=c8 2 k;have u3:=c8 3 k;have u4:=c8 4 k;have u5:=c8 5 k;have u6:=c8 6 k;have u7:=c8 7 k;have u8:=c8 8 k;have u9:=c8 9 k;clear E T am BX;go_wp2_with (refine ZM RR ?_);exact jK results76 RR rfl rfl a9)
def answer9:=@F7.1
def Fd:=@F7.2
end
def zBw:ByteArray:=⟨#[108,111,111,107,105,110,103,32,97,32,107,105,110,100,32,117,112]⟩
section
variable {w w':World} {Z:Nat->Prop} {E c:Nat} {x:VX} {M:SS} {K:KX} {kd b0 b1 b2:Int} {ta:Option Addr} {tl tq:Nat}
def Mo(n:kd<1\/16<kd)(w):Calls prog 93 #[qC kd] w λg w'=>g=qQ (.tuple #[.agg #[.string ⟨#[]⟩,.nilFunc],.iface 109 (qC 13)])/\qY w w':=by
 have o:=Tryz.stN;have d:=zC (Hl (v:=kd) (lo:=1) (hi:=16) (k:=13) (w.alloc (qR #[.string ⟨#[]⟩,.nilFunc] 172)) (Ml qF));have b:=zC (xI w (qR #[.string ⟨#[]⟩,.nilFunc] 172));have h:=zC (bA (xe _ w) (qR #[.string ⟨#[]⟩,.nilFunc] 172));clear n;go_enter func93,ntmps93;go_upto_region 1 with fail;generalize World.alloc w _=t at *;go_wp2_with fail;refine d.mono ?_;rintro g a ⟨rfl,rfl⟩;have c:=λm=>xY a _ m _ _ b
 have p:=c 0;have q:=c 1;have i:=zC (show Below _ w ((a.setCell (qP w.heap.size 0) (.string ⟨#[]⟩)).setCell (qP w.heap.size 1) .nilFunc)from(h.setCell lR _).setCell lR _)
 have e:((a.setCell (qP w.heap.size 0) (.string ⟨#[]⟩)).setCell (qP w.heap.size 1) .nilFunc).cell? (qP w.heap.size 0)=some (.string ⟨#[]⟩):=by
  rw[xF _ _ 0 _ _ _ (xN _ w.heap.size 1 _ _ _ (xN a w.heap.size 0 _ _ _ b.out))];rfl
 have f:((a.setCell (qP w.heap.size 0) (.string ⟨#[]⟩)).setCell (qP w.heap.size 1) .nilFunc).cell? (qP w.heap.size 1)=some .nilFunc:=by
  rw[xF _ _ 1 _ _ _ (xN _ w.heap.size 1 _ _ _ (xN a w.heap.size 0 _ _ _ b.out))];rfl
 have j:=zC e;have l:=zC f;have r:a.cell? (qP w.heap.size 0)=some (.string ⟨#[]⟩):=by rw[xF _ _ 0 _ _ _ b.out];rfl
 have s:a.cell? (qP w.heap.size 1)=some .nilFunc:=by rw[xF _ _ 1 _ _ _ b.out];rfl
 clear c d e f;go_wp2;refine vg ?_ rfl ⟨rfl,i⟩;simp[results,go_sem,j.out,l.out]
def zAe(f:kd<1\/16<kd)(n:EX K w Z E c x M):BX 76 w E kd b0 b1 b2 (qM ta tl tq) (.iface 131 (.agg #[.string zBw,.iface 109 (qC 13)])):=by
 unfold BX;have a:=zC (PB.start w (yp kd b0 b1 b2 (qM ta tl tq)));have o:=Tryz.stN;have j:=zC (Mo f);clear n f;go_enter func76,ntmps76;go_upto_region 1 with fail;generalize World.alloc _ _=e at *;have k:=zC a.2.1;have l:e.cell? _=some (.int _ kd):=c8 0 k;go_wp2_with fail;refine(j e).mono ?_;rintro q g ⟨rfl,h⟩;have b:=zC (a.below h);clear h l;have BX:=zC (bA (xe _ g) (qR #[.string ⟨#[]⟩,.nilFunc] 172));go_upto_region 2 with fail;generalize World.alloc g _=p at *;have d:=zC (b.below BX);have RR:=zC d.2.2;have m:=zC (d.fin (row:=yg 0 0 0 qN qN));clear b BX;go_wp2_with (refine ZM RR ?_);exact jK results76 RR rfl rfl ⟨rfl,m⟩
end
section
variable {w w':World} {Z:Nat->Prop} {E c:Nat} {x:VX} {M:SS} {K:KX} {kd b0 b1 b2:Int} {ta:Option Addr} {tl tq:Nat} {off line o:Nat}
def zS.rdw{v xs b}(a:zS w b v xs):JA w.heap.size w v xs:=a.rd
def setX{m}(b:EX K w Z E c x M)(h:Vd M.ms)(d:WR M.ms m M.tx.length=0):Calls prog 138 #[qO E 0,jX m,qC M.tx.length] w λa w'=>a=qQ .nilIface/\(∃f,EX K w' Z E c f {M with ms:=Zi (M.ms++ [m])})/\KK YH Z w w':=by
 unfold WR at d
 split at d
 ·omega
 split at d
 ·omega
 split at d
 ·omega
 split at d
 ·omega
 rename_i k l n o
 have fin:∀{a:Ending}{w':qS},(a=qQ .nilIface/\∃e g,qY w g/\w'=g.setCell (qP E 0) e/\ZC (tbR K c x M) 144 w' E e/\zS w' w.heap.size e (Zi (M.ms++ [m])))->a=qQ .nilIface/\(∃f,EX K w' Z E c f {M with ms:=Zi (M.ms++ [m])})/\KK YH Z w w':=by
  rintro a w' ⟨rfl,e,g,i,p,ht,q⟩;obtain⟨r,s⟩:=b.mkd i p ht q;exact⟨rfl,⟨_,r⟩,b.ey.ek s qG⟩
 have j:M.ms.length<=1048576:=by have:=h.1;omega
 rcases id b.ey.ms.2 with ⟨a,t⟩ | ⟨u,v,B,a,i,y,z,A,_⟩
 ·exact(setOk0E _ _ qG E _ _ m _ w b.tb b.ey.ms.rdw j (by simpa using k) (by simpa using l) (by simpa using n) (by simpa using o) h 0 b.ey.ms (xL t) a).mono (λ_ _=>fin)
 exact(setOkE _ _ qG E _ _ m _ w b.tb b.ey.ms.rdw j (by simpa using k) (by simpa using l) (by simpa using n) (by simpa using o) h 0 b.ey.ms ⟨u,v,a,z,A,i,(qZ.1 y).1⟩).mono (λ_ _=>fin)
def setN{m ec}(b:EX K w Z E c x M)(j:Vd M.ms)(a:WR M.ms m M.tx.length=ec)(k:¬ec=0):Calls prog 138 #[qO E 0,jX m,qC M.tx.length] w λi w'=>i=qQ (DY J4 ec)/\qY w w':=by
 have f:M.ms.length<=1048576:=by have:=j.1;omega
 unfold WR at a
 split at a
 ·rename_i d;subst a;exact set12E _ _ qG E _ _ m _ w b.tb b.ey.ms.rdw f d
 split at a
 ·rename_i d e;subst a;exact set5E _ _ qG E _ _ m _ w b.tb b.ey.ms.rdw f (by simpa using d) e
 split at a
 ·rename_i d e g;subst a;exact set2E _ _ qG E _ _ m _ w b.tb b.ey.ms.rdw f (by simpa using d) (by simpa using e) g
 split at a
 ·rename_i d e g h;subst a;exact set10E _ _ qG E _ _ m _ w b.tb b.ey.ms.rdw f (by simpa using d) (by simpa using e) (by simpa using g) h
 omega
def zAg:(∀{a w j k A c g d e f p q r}(s:EX g a w j k A c)(B:Vd c.ms)(hst:WR c.ms (d,e,f) c.tx.length=0),AX g 115 a w j k 6 d e f (qM p q r) 0 0 0 [] [] {c with ms:=Zi (c.ms++ [(d,e,f)])})/\(∀{a w j k A c g d e f p q r C}(s:EX g a w j k A c)(B:Vd c.ms)(hst:WR c.ms (d,e,f) c.tx.length=C)(P:¬C=0),BX 115 a j 6 d e f (qM p q r) (DY J4 C)):=by
 refine⟨@λa w j k A c g d e f p q r s B hst=>have t:=zC xB;?_,@λa w j k A c g d e f p q r C s B hst P=>have h:=zC xB;?_⟩
 all_goals
  first
   |(revert t;intro t;unfold AX;have u:=zC (PX.start s (yp 6 d e f (qM p q r))))
   |(unfold BX;have u:=zC (PB.start a (yp 6 d e f (qM p q r))))
  have Y:=s.lt
  first | (revert t;intro t) | skip
  have Z:=λk a=>(g.mth k a).1
  have aa:=g.ent g.fLen qH
  first | (revert h;intro h;have V:=zC s) | skip
  clear s;go_enter func115,ntmps115;go_upto_region 1 with fail;generalize World.alloc _ _=z at *
  first
   |(revert t;intro t;obtain⟨ac,Q⟩:=u.out.1;have x:=zC Q;have m:=zC u.2.2.2.1;clear Q)
   |(have x:=zC (V.below u.1);have m:=zC u.2.1)
  have D:=zC (show ∀b:qS,b.heap[a.heap.size]? =z.heap[a.heap.size]?->b.cell? (qP j 6)=some (.iface g.ty (qO k 0))->(b.cell? _=some (.int _ d)/\b.cell? _=some (.int _ e)/\b.cell? _=some (.int _ f)/\b.cell? _=some _)from λb J W=>⟨c9 (i:=1) (J.trans m) rfl,c9 (i:=2) (J.trans m) rfl,c9 (i:=3) (J.trans m) rfl,W⟩);refine(vZ (n:=6)).1 ?_;refine yf (λb=>b.cell? (qP a.heap.size 1)=some (qC d)/\b.cell? (qP a.heap.size 2)=some (qC e)/\b.cell? (qP a.heap.size 3)=some (qC f)/\b.cell? (qP j 6)=some (.iface g.ty (qO k 0))) qI ?_;refine zi 0 (.agg (yg 0 0 0 qN _)) ?_;go_simp;refine zi 1 _ ?_;go_simp;refine zi 2 _ ?_;go_simp;refine zi 3 _ ?_;go_simp;refine zi 4 _ ?_;go_simp;refine zi 5 _ ?_;go_simp;refine zi 6 _ ?_;go_simp;refine zi 7 _ ?_;go_simp;refine zi 8 _ ?_;go_simp;refine zi 9 _ ?_;go_simp;refine zi 10 (jX (d,e,f)) ?_;go_simp;refine zi 11 _ ?_;go_simp;refine zi 12 _ ?_;go_simp;refine zi 13 _ ?_;go_simp;refine zi 14 _ ?_;go_simp;obtain⟨R,K⟩:∃b,b=z.drew:=⟨_,rfl⟩
  rw[<- K];have E:=zC (show qY z R from by rw[K];exact⟨rfl,rfl,rfl,lR,λ_ _=>rfl⟩);have N:=zC (qZ.1 m).1;clear K;have G:=zC (x.below E);have LE:=zC (Hj G);refine on 15 (D R (E.block _ N) G.c6) ?_;gi_wp2_with fail;refine⟨xB,(vn.2 LE).mono ?_⟩;rintro S X ⟨rfl,T⟩;have H:=zC (E.trans (T.mono E.size));have O:=zC (u.below H);have v:=zC (x.below H);clear T LE G;gi_wp2_with fail;refine on 16 (D X (H.block _ N) v.c6) ?_
  first
   |(revert h;intro h;have F:=zC (setN v B hst P))
   |(have F:=zC (setX v B hst))
  gi_wp2_with fail;refine⟨xB,(vn.2 F).mono ?_⟩
  first
   |(revert h;intro h;rintro S l ⟨rfl,L⟩;have o:=zC (O.below L);have y:=zC (show l.heap[a.heap.size]? =z.heap[a.heap.size]?/\l.cell? _=some _ from⟨o.2.1.trans m.symm,(v.below L).c6⟩);have RR:=zC o.2.2;have I:=zC (o.fin (row:=yg 0 0 0 qN qN));clear L F v x)
   |(rintro S l ⟨rfl,⟨ad,M⟩,U⟩;have o:=zC (O.same ⟨_,M⟩ U);have y:=zC (show l.heap[a.heap.size]? =z.heap[a.heap.size]?/\l.cell? _=some _ from⟨o.2.2.2.1.trans m.symm,M.c6⟩);have RR:=zC o.2.2.2.2;have I:=zC (o.fin0 (x0:=0) (x1:=0) (x2:=0));clear M U F v x)
  gi_wp2_with fail;refine on 17 (D l y.1 y.2) ?_;refine zR rfl 81 _ _ rfl _ _ _ 81 rfl rfl RR qI rfl (by simp[Value.oneCell']) ?_;refine kl ?_;go_simp
  first
   |(revert h;intro h;refine tk 18 (DY J4 C) ?_ ?_)
   |(refine tk 18 (.nilIface) ?_ ?_)
  ·intro b ab;go_simp
  go_simp;refine ZA qI (D _ ((vG l _ _ _ qF).trans y.1) ((xq (vG l _ j _ qF)).trans y.2)) ?_ _;go_wp2_with fail
  first
   |(revert h;intro h;exact jK results115 RR rfl rfl ⟨rfl,I⟩)
   |(exact jK results115 RR rfl rfl I)
def mark9:=@zAg.1
def markB9:=@zAg.2
def zBx(a:EX K w Z E c x M)(d:Vd M.ms)(id):Calls prog 140 #[qO E 0,qC id] w λb w'=>b=qQ (JM M.ms id)/\qY w w':=Ok _ _ qG _ E _ _ id w a.tb a.ey.ms.rdw lR (by have:=d.1;omega)
def findT(b:EX K w Z E c x M)(d:Vd M.ms){id}(e:yN M.ms id=true):Calls prog 140 #[qO E 0,qC id] w λa w'=>a=qQ (.tuple #[jX (M.ms.getD (Hv M.ms id) (0,0,0)),.nilIface])/\qY w w':=(zBx b d id).mono (by rintro a w' ⟨rfl,f⟩;exact⟨by unfold JM;rw[xS e];rfl,f⟩)
def findF(b:EX K w Z E c x M)(d:Vd M.ms){id}(e:yN M.ms id=false):Calls prog 140 #[qO E 0,qC id] w λa w'=>a=qQ (.tuple #[jX (0,0,0),.iface 131 (.agg #[.string {data:=#[102,105,110,100,105,110,103,32,97,32,109,97,114,107]},.iface 109 (qC 4)])])/\qY w w':=(zBx b d id).mono (by rintro a w' ⟨rfl,f⟩;exact⟨by unfold JM;rw[e];rfl,f⟩)
def dropX(b:EX K w Z E c x M)(f:Vd M.ms){id}(g:yN M.ms id=true):Calls prog 139 #[qO E 0,qC id] w λd w'=>d=qQ (.tuple #[jX (M.ms.getD (Hv M.ms id) (0,0,0)),.nilIface])/\∃a,ZC (tbR K c x M) 144 w' E a/\zS w' w.heap.size a (FY M.ms (Hv M.ms id))/\zQ w w' (λe=>e=E):=dropE _ _ qG E _ _ id 0 w b.tb b.ey.ms (by have:=f.1;omega) g
def dropF(a:EX K w Z E c x M)(d:Vd M.ms){id}(e:yN M.ms id=false):Calls prog 139 #[qO E 0,qC id] w λb w'=>b=qQ (.tuple #[jX (0,0,0),.iface 131 (.agg #[.string {data:=#[102,105,110,100,105,110,103,32,97,32,109,97,114,107]},.iface 109 (qC 4)])])/\qY w w':=drop4E _ _ qG E _ _ id 0 w a.tb a.ey.ms (by have:=d.1;omega) e
theorem Uk:(∀ {w} {Z} {E} {c} {x} {M} {K} {b0} {b1} {b2} {ta} {tl} {tq} (s:EX K w Z E c x M) (t:Vd M.ms) (u:yN M.ms b0=true),AX K 117 w Z E c 8 b0 b1 b2 (.slice ta tl tq) 0 (M.ms.getD (Hv M.ms b0) (0,0,0)).2.1 (M.ms.getD (Hv M.ms b0) (0,0,0)).2.2 [] [] M)∧(∀ {w} {Z} {E} {c} {x} {M} {K} {b0} {b1} {b2} {ta} {tl} {tq} (s:EX K w Z E c x M) (t:Vd M.ms) (u:yN M.ms b0=false),BX 117 w E 8 b0 b1 b2 (.slice ta tl tq) (.iface 131 (.agg #[.string {data:=#[102,105,110,100,105,110,103,32,97,32,109,97,114,107]},.iface 109 (.int .i64 4)])))∧(∀ {w} {Z} {E} {c} {x} {M} {K} {b0} {b1} {b2} {ta} {tl} {tq} (s:EX K w Z E c x M) (t:Vd M.ms) (u:yN M.ms b0=true),AX K 116 w Z E c 7 b0 b1 b2 (.slice ta tl tq) 0 (M.ms.getD (Hv M.ms b0) (0,0,0)).2.1 0 [] [] {M with ms:=FY M.ms (Hv M.ms b0)})∧(∀ {w} {Z} {E} {c} {x} {M} {K} {b0} {b1} {b2} {ta} {tl} {tq} (s:EX K w Z E c x M) (t:Vd M.ms) (u:yN M.ms b0=false),BX 116 w E 7 b0 b1 b2 (.slice ta tl tq) (.iface 131 (.agg #[.string {data:=#[102,105,110,100,105,110,103,32,97,32,109,97,114,107]},.iface 109 (.int .i64 4)]))):=by
 refine⟨@fun w Z E c x M K b0 b1 b2 ta tl tq s t u=>have g1:=zC xB;have af:=zC xB;have ag:=zC xB;?_,@fun w Z E c x M K b0 b1 b2 ta tl tq s t u=>have H:=zC xB;have f:=zC xB;have af:=zC xB;?_,@fun w Z E c x M K b0 b1 b2 ta tl tq s t u=>have g:=zC xB;have ag:=zC xB;?_,@fun w Z E c x M K b0 b1 b2 ta tl tq s t u=>have f:=zC xB;?_⟩
 all_goals
  first
   |(revert g1;intro g1;unfold AX;have I:=zC (PX.start s (yp 8 b0 b1 b2 (.slice ta tl tq))))
   |(revert H;intro H;unfold BX;have I:=zC (PB.start w (yp 8 b0 b1 b2 (.slice ta tl tq))))
   |(revert g;intro g;unfold AX;have I:=zC (PX.start s (yp 7 b0 b1 b2 (.slice ta tl tq))))
   |(unfold BX;have I:=zC (PB.start w (yp 7 b0 b1 b2 (.slice ta tl tq))))
  have ax:=s.lt
  first
   |(revert g1;intro g1)
   |(revert g;intro g)
   |(skip)
  first | (revert f;intro f;have ar:=zC s) | skip
  clear s
  first
   |(revert af;intro af;go_enter func117,ntmps117)
   |(go_enter func116,ntmps116)
  go_upto_region 1 with fail
  generalize World.alloc _ _=Y at *
  first
   |(revert ag;intro ag;obtain⟨ap,aq⟩:=I.out.1;have ah:=zC aq;have ai:=zC I.out.2.2.2.1;clear aq)
   |(have ah:=zC (ar.out.below I.out.1);have ai:=zC I.out.2.1)
  have B:=zC (show ∀y:World,y.heap[w.heap.size]? =Y.heap[w.heap.size]?->(y.cell? _=some (.int _ b0))from fun y aw=>c9 (i:=1) (aw.trans ai.out) rfl)
  refine(vZ (n:=6)).1 ?_
  refine yf (fun y=>y.cell? ⟨w.heap.size,1,none⟩=some (.int .i64 b0)) (by kernel_rfl) ?_
  refine zi 0 _ ?_;go_simp;refine zi 1 _ ?_;go_simp;refine zi 2 _ ?_;go_simp;refine zi 3 _ ?_;go_simp;refine zi 4 _ ?_;go_simp;obtain⟨d,am⟩:∃y,y=Y.drew:=⟨_,rfl⟩;rw [<- am]
  have C:=zC (show Below Y.heap.size Y d from by rw [am];exact⟨rfl,rfl,rfl,lR,fun _ _=>rfl⟩)
  have O:=zC (qZ.1 ai.out).1;clear am;have ae:=zC (I.out.below C.out);have k:=zC (ah.out.below C.out);have D:=zC (ve O.out C.out.size)
  have ao:=zC (show w.heap.size≠E by omega)
  first
   |(revert g1;intro g1;have J:=zC (fun S (T:Below _ d S)=>findT (k.out.below T) t u);obtain⟨a,l⟩:∃a:Mk,a=(M.ms.getD (Hv M.ms b0) (0,0,0)):=⟨_,rfl⟩)
   |(revert g;intro g;have J:=zC (fun S (T:Below d.heap.size d S)=>dropX (k.out.below T) t u);obtain⟨a,l⟩:∃a:Mk,a=(M.ms.getD (Hv M.ms b0) (0,0,0)):=⟨_,rfl⟩)
   |(revert H;intro H;have J:=zC (fun S (T:Below _ d S)=>findF (k.out.below T) t u);obtain⟨a,l⟩:∃a:Mk,a=(0,0,0):=⟨_,rfl⟩)
   |(have J:=zC (fun S (T:Below d.heap.size d S)=>dropF (k.out.below T) t u);obtain⟨a,l⟩:∃a:Mk,a=(0,0,0):=⟨_,rfl⟩)
  rw [<- l]at J;have U:=zC l;clear l ah;refine tw 5 9 (B.out d (C.out.block _ O.out)) ?_ ?_
  ·gi_wp2_with fail
   refine⟨xB,(vn.2 (J.out d (xe _ _))).mono ?_⟩
   first
    |(revert g;intro g;rintro e w3 ⟨rfl,an,G,z,b⟩;have aa:=b.size;have au:=k.out.lt;have ab:=zC (And.intro G (And.intro z b));have L:=zC (show w3.heap[w.heap.size]? =Y.heap[w.heap.size]? from(b.block _ D.out ao.out).trans (C.out.block _ O.out));clear G z b)
    |(rintro e w3 ⟨rfl,A⟩;have aa:=A.size;have N:=zC A;have L:=zC ((A.block _ D.out).trans (C.out.block _ O.out));clear A)
   gi_wp2_with fail
   first
    |(revert f;intro f;refine tk 6 (.tuple #[jX a,.iface 131 (.agg #[.string {data:=#[102,105,110,100,105,110,103,32,97,32,109,97,114,107]},.iface 109 (.int .i64 4)])]) ?_ ?_)
    |(refine tk 6 (.tuple #[jX a,.nilIface]) ?_ ?_)
   ·intro y ad;go_simp
   go_simp;refine zi 7 _ ?_;go_simp
   first
    |(revert f;intro f;refine tk 8 (.iface 131 (.agg #[.string {data:=#[102,105,110,100,105,110,103,32,97,32,109,97,114,107]},.iface 109 (.int .i64 4)])) ?_ ?_)
    |(refine tk 8 (.nilIface) ?_ ?_)
   ·intro y ad;go_simp
   go_simp;refine on 9 (B.out w3 L.out) ?_
   gi_wp2_with fail
   have BX:=zC (bA (xe _ w3) (.cells #[.int .i64 0,.int .i64 0,.int .i64 0] 166));have V:=zC (xI w3 (.cells #[.int .i64 0,.int .i64 0,.int .i64 0] 166));generalize World.alloc w3 _=o at *;have aj:=zC (ve D.out aa);refine on 10 (B.out o ((BX.out.block _ aj.out).trans L.out)) ?_
   refine zR rfl 166 _ _ rfl _ _ _ 166 rfl rfl V.out (by kernel_rfl) rfl (by simp [Value.oneCell']) ?_
   have P:=zC (kT o _ _ #[.int .i64 a.1,.int .i64 a.2.1,.int .i64 a.2.2] _ _ V.out)
   have v:=zC (fun q m=>vG o w3.heap.size q #[.int .i64 a.1,.int .i64 a.2.1,.int .i64 a.2.2] m)
   have h:=zC (show(o.setRow w3.heap.size #[.int .i64 a.1,.int .i64 a.2.1,.int .i64 a.2.2]).heap.size=o.heap.size∧(o.setRow w3.heap.size #[.int .i64 a.1,.int .i64 a.2.1,.int .i64 a.2.2]).os=o.os∧(o.setRow w3.heap.size #[.int .i64 a.1,.int .i64 a.2.1,.int .i64 a.2.2]).tape=o.tape∧(o.setRow w3.heap.size #[.int .i64 a.1,.int .i64 a.2.1,.int .i64 a.2.2]).output=o.output from⟨by simp,rfl,rfl,rfl⟩)
   generalize o.setRow _ _=r at *
   have ac:=zC ((v.out _ (by have:=aj.out;omega)).trans ((BX.out.block _ aj.out).trans L.out))
   have W:Below _ w3 r:=⟨h.out.2.1.trans BX.out.os,h.out.2.2.1.trans BX.out.tape,h.out.2.2.2.trans BX.out.output,by rw [h.out.1];exact BX.out.size,fun q m=>(v.out q (by omega)).trans (BX.out.block q m)⟩
   first
    |(revert g;intro g;skip
      have j:=zC (show PX K w Z E c _ {M with ms:=FY M.ms (Hv M.ms b0)} Z r from by
       obtain⟨G,z,b⟩:=ab.out
       have Q:EO E d r:=(EO.trans ⟨b.os,b.tape,b.output,b.size,fun q m al=>b.block q m al⟩ (EO.of W))
       have p:=k.out.ep Q
       exact ae.out.same ⟨{ap with mv:=an},k.out.put Q ⟨k.out.ey.blk.1,(W.block E (by omega)).trans G⟩ ⟨rfl,rfl⟩ ⟨(zS.base (zE z W lR) (xK _)),p.dn,p.ud,p.cu,p.cvs,p.sl⟩⟩ (k.out.ey.ek Q (by decide)))
      clear W ab)
    |(have j:=zC (ae.out.below (N.out.trans (W.mono aa)));clear W N)
   refine kl ?_;go_simp
   first
    |(revert f;intro f;refine tk 11 (.iface 131 (.agg #[.string {data:=#[102,105,110,100,105,110,103,32,97,32,109,97,114,107]},.iface 109 (.int .i64 4)])) ?_ ?_)
    |(refine tk 11 (.nilIface) ?_ ?_)
   ·intro y ad;go_simp
   go_simp
   refine ZA (by kernel_rfl) (B.out r ac.out) ?_ _
   have k1:r.cell? _=some (.int _ _):=c9 (i:=1) P.out rfl;have k2:r.cell? _=some (.int _ _):=c9 (i:=2) P.out rfl;clear B ac P v h J
   first
    |(revert f;intro f;(have R:a.2.1=0∧a.2.2=0:=by rw [U.out];exact⟨rfl,rfl⟩);rw [R.1]at k1;rw [R.2]at k2;clear R;have RR:=zC j.out.2.2;have F:=zC (j.out.fin (row:=yg 0 0 0 (.slice none 0 0) (.slice none 0 0))))
    |(revert g1;intro g1;have RR:=zC j.out.2.2.2.2;have F:=zC (j.out.fin0 (x0:=0) (x1:=a.2.1) (x2:=a.2.2)))
    |(have RR:=zC j.out.2.2.2.2;have F:=zC (j.out.fin0 (x0:=0) (x1:=a.2.1) (x2:=0)))
   go_wp2_with (refine ZM RR.out ?_)
   first
    |(revert g1;intro g1;have l:=U.out;subst l;exact jK results117 RR.out rfl rfl F.out)
    |(revert g;intro g;have l:=U.out;subst l;exact jK results116 RR.out rfl rfl F.out)
    |(revert H;intro H;exact jK results117 RR.out rfl rfl ⟨rfl,F.out⟩)
    |(exact jK results116 RR.out rfl rfl ⟨rfl,F.out⟩)
  gi_wp2_with fail
  have BX:=zC (bA (xe _ d) (.cells #[.int .i64 0,.int .i64 0,.int .i64 0] 166));have V:=zC (xI d (.cells #[.int .i64 0,.int .i64 0,.int .i64 0] 166));generalize World.alloc d _=y1 at *;have X:=zC (qZ.1 V.out).1;refine on 5 (B.out y1 ((BX.out.block _ D.out).trans (C.out.block _ O.out))) ?_
  gi_wp2_with fail
  refine⟨xB,(vn.2 (J.out y1 BX.out)).mono ?_⟩
  first
   |(revert g;intro g;rintro e w3 ⟨rfl,an,G,z,b⟩;have aa:=b.size;have au:=k.out.lt;have ab:=zC (And.intro G (And.intro z b));(have ak:=zC ((b.block d.heap.size X.out (by omega)).trans V.out));(have L:=zC (show w3.heap[w.heap.size]? =Y.heap[w.heap.size]? from(b.block _ (by have:=D.out;have:=X.out;omega) ao.out).trans ((BX.out.block _ D.out).trans (C.out.block _ O.out))));clear G z b)
   |(rintro e w3 ⟨rfl,A⟩;have aa:=A.size;have N:=zC A;have ak:=zC ((A.block _ X.out).trans V.out);(have L:=zC ((A.block _ (by have:=D.out;have:=X.out;omega)).trans ((BX.out.block _ D.out).trans (C.out.block _ O.out))));clear A)
  gi_wp2_with fail
  first
   |(revert f;intro f;refine tk 6 (.tuple #[jX a,.iface 131 (.agg #[.string {data:=#[102,105,110,100,105,110,103,32,97,32,109,97,114,107]},.iface 109 (.int .i64 4)])]) ?_ ?_)
   |(refine tk 6 (.tuple #[jX a,.nilIface]) ?_ ?_)
  ·intro y ad;go_simp
  go_simp;refine zi 7 _ ?_;go_simp
  first
   |(revert f;intro f;refine tk 8 (.iface 131 (.agg #[.string {data:=#[102,105,110,100,105,110,103,32,97,32,109,97,114,107]},.iface 109 (.int .i64 4)])) ?_ ?_)
   |(refine tk 8 (.nilIface) ?_ ?_)
  ·intro y ad;go_simp
  go_simp;refine on 10 (B.out w3 L.out) ?_
  refine zR rfl 166 _ _ rfl _ _ _ 166 rfl rfl ak.out (by kernel_rfl) rfl (by simp [Value.oneCell']) ?_
  have P:=zC (kT w3 _ _ #[.int .i64 a.1,.int .i64 a.2.1,.int .i64 a.2.2] _ _ ak.out)
  have v:=zC (fun q m=>vG w3 d.heap.size q #[.int .i64 a.1,.int .i64 a.2.1,.int .i64 a.2.2] m)
  have h:=zC (show(w3.setRow d.heap.size #[.int .i64 a.1,.int .i64 a.2.1,.int .i64 a.2.2]).heap.size=w3.heap.size∧(w3.setRow d.heap.size #[.int .i64 a.1,.int .i64 a.2.1,.int .i64 a.2.2]).os=w3.os∧(w3.setRow d.heap.size #[.int .i64 a.1,.int .i64 a.2.1,.int .i64 a.2.2]).tape=w3.tape∧(w3.setRow d.heap.size #[.int .i64 a.1,.int .i64 a.2.1,.int .i64 a.2.2]).output=w3.output from⟨by simp,rfl,rfl,rfl⟩)
  generalize w3.setRow _ _=r at *
  have ac:=zC ((v.out _ (by have:=D.out;omega)).trans L.out)
  first
   |(revert g;intro g;skip
     have j:=zC (show PX K w Z E c _ {M with ms:=FY M.ms (Hv M.ms b0)} Z r from by
      obtain⟨G,z,b⟩:=ab.out;have av:=X.out
      have Q:EO E d r:=⟨h.out.2.1.trans (b.os.trans BX.out.os),h.out.2.2.1.trans (b.tape.trans BX.out.tape),h.out.2.2.2.trans (b.output.trans BX.out.output),by rw [h.out.1];omega,fun q m al=>(v.out q (by omega)).trans ((b.block q (by omega) al).trans (BX.out.block q m))⟩
      have p:=k.out.ep Q
      exact ae.out.same ⟨{ap with mv:=an},k.out.put Q ⟨k.out.ey.blk.1,(v.out E (by omega)).trans G⟩ ⟨rfl,rfl⟩ ⟨(zS.base (zD z (fun q m=>v.out q (by have:=(z.lt q m).1;omega))) (xK _)),p.dn,p.ud,p.cu,p.cvs,p.sl⟩⟩ (k.out.ey.ek Q (by decide)))
     clear ab)
   |(skip
     have j:=zC (ae.out.below (by
      have av:=X.out
      exact⟨h.out.2.1.trans (N.out.os.trans BX.out.os),h.out.2.2.1.trans (N.out.tape.trans BX.out.tape),h.out.2.2.2.trans (N.out.output.trans BX.out.output),by rw [h.out.1];omega,fun q m=>(v.out q (by omega)).trans ((N.out.block q (by omega)).trans (BX.out.block q m))⟩))
     clear N)
  refine kl ?_;go_simp
  first
   |(revert f;intro f;refine tk 11 (.iface 131 (.agg #[.string {data:=#[102,105,110,100,105,110,103,32,97,32,109,97,114,107]},.iface 109 (.int .i64 4)])) ?_ ?_)
   |(refine tk 11 (.nilIface) ?_ ?_)
  ·intro y ad;go_simp
  go_simp
  refine ZA (by kernel_rfl) (B.out r ac.out) ?_ _
  have k1:r.cell? _=some (.int _ _):=c9 (i:=1) P.out rfl;have k2:r.cell? _=some (.int _ _):=c9 (i:=2) P.out rfl;clear B ac P v h J
  first
   |(revert f;intro f;(have R:a.2.1=0∧a.2.2=0:=by rw [U.out];exact⟨rfl,rfl⟩);rw [R.1]at k1;rw [R.2]at k2;clear R;have RR:=zC j.out.2.2;have F:=zC (j.out.fin (row:=yg 0 0 0 (.slice none 0 0) (.slice none 0 0))))
   |(revert g1;intro g1;have RR:=zC j.out.2.2.2.2;have F:=zC (j.out.fin0 (x0:=0) (x1:=a.2.1) (x2:=a.2.2)))
   |(have RR:=zC j.out.2.2.2.2;have F:=zC (j.out.fin0 (x0:=0) (x1:=a.2.1) (x2:=0)))
  go_wp2_with (refine ZM RR.out ?_)
  first
   |(revert g1;intro g1;have l:=U.out;subst l;exact jK results117 RR.out rfl rfl F.out)
   |(revert g;intro g;have l:=U.out;subst l;exact jK results116 RR.out rfl rfl F.out)
   |(revert H;intro H;exact jK results117 RR.out rfl rfl ⟨rfl,F.out⟩)
   |(exact jK results116 RR.out rfl rfl ⟨rfl,F.out⟩)
def look9:=@Uk.1
def lookB9:=@Uk.2.1
def drop9:=@Uk.2.2.1
def dropB9:=@Uk.2.2.2
end
section
variable {w w':World} {Z:Nat->Prop} {E c:Nat} {x:VX} {M:SS} {K:KX} {kd b0 b1 b2:Int} {ta:Option Addr} {tl tq:Nat} {x0 x1 x2:Int} {T:List Int} {ms:List Mk} {M2:SS}
def SX(m:KX)(h:qS)(k:Nat->Prop)(n o:Nat)(p q r:Int)(s:qV)(t:List Mk)(a:SS)(u:Ending)(c:qS):Prop:=
 ∃d e f i j mk g l,u=qQ (.agg (Xc p q r (qM d e f) (qM i j mk) a.tx.length (js a.tx+1) a.un.length a.re.length (if a.op then 1 else 0)))/\(zT c h.heap.size (qM d e f) s/\∀b,(Value.slice d e f).ownBlock=some b->g b)/\zS c h.heap.size (qM i j mk) t/\EX m c g n o l a/\KK YH k h c/\∀b,k b->g b
def PX.cell{W Z1 op cs R j v f}(g:PX K w Z E c op M Z1 W)(h:W.heap[R]?=some (qR cs 81 f))(o:w.heap.size+1<R):PX K w Z E c op M Z1 (W.setCell (qP R j) v):=by
 obtain⟨⟨i,k⟩,a,l,m,n⟩:=g;refine⟨⟨i,k.keep (KN.cell h qG)⟩,⟨a.os,a.tape,a.output,by simp;exact a.size,λb d e=>(xj W _ b v (by show b≠R;omega)).trans (a.block b d e)⟩,l,(xj W _ _ v (by show w.heap.size≠R;omega)).trans m,(xj W _ _ v (by show w.heap.size+1≠R;omega)).trans n⟩
def PX.finS{W Z1 op ua ma ul uk ml mk}(h:PX K w Z E c op M Z1 W)(e:zT W w.heap.size (qM ua ul uk) T/\∀a,(Value.slice ua ul uk).ownBlock=some a->Z1 a)(i:zS W w.heap.size (qM ma ml mk) ms){o}(j:(if M.op then 1 else 0)=o):SX K w Z E c x0 x1 x2 T ms M (qQ (.agg (Xc x0 x1 x2 (qM ua ul uk) (qM ma ml mk) M.tx.length (js M.tx+1) M.un.length M.re.length o))) (W.setRow (w.heap.size+1) (Xc x0 x1 x2 (qM ua ul uk) (qM ma ml mk) M.tx.length (js M.tx+1) M.un.length M.re.length o)):=by
 obtain⟨⟨k,l⟩,b,m,p,n⟩:=h;subst j;have d:KN [81,63] W (W.setRow _ (Xc x0 x1 x2 (qM ua ul uk) (qM ma ml mk) M.tx.length (js M.tx+1) M.un.length M.re.length (if M.op then 1 else 0))):=KN.row n qG;exact⟨ua,ul,uk,ma,ml,mk,Z1,k,rfl,⟨jc e.1 d qG,e.2⟩,jc i d qG,l.keep d,⟨b.os,b.tape,b.output,by simp;exact b.size,λa f g=>(vG W _ a _ qF).trans (b.block a f g)⟩,m⟩
end
section
variable {w w':World} {Z:Nat->Prop} {E c:Nat} {x:VX} {M:SS} {K:KX} {kd b0 b1 b2:Int} {ta:Option Addr} {tl tq:Nat} {x0 x1 x2:Int} {T:List Int} {ms:List Mk} {M2:SS}
def zAh:(∀{p y b r a6 d q A B C D E F G H I b1 ck h}(Z:EX q p y b r a6 d)(ar:∀S,qY p S->AX q 76 S y b r A B C D (qM E F G) 0 H I b1 ck h),Calls prog 50 #[qO b 0,.agg (yp A B C D (qM E F G))] p (SX q p y b r 0 H I b1 ck h))/\(∀{p y b r a6 d q A B C D E F G aa cl cm}(Z:EX q p y b r a6 d)(cn:∀S,qY p S->Calls prog 23 #[.iface cl cm] S λk w'=>k=qQ (qC aa)/\qY S w')(ar:∀S,qY p S->BX 76 S b A B C D (qM E F G) (.iface cl cm)),Calls prog 50 #[qO b 0,.agg (yp A B C D (qM E F G))] p (SX q p y b r aa 0 0 [] [] d)):=by
 refine⟨@λp y b r a6 d q A B C D E F G H I b1 ck h Z ar=>have f:=zC xB;?_,@λp y b r a6 d q A B C D E F G aa cl cm Z cn ar=>have al:=zC xB;?_⟩
 all_goals
  have x:=zC (PX.start Z (yp A B C D (qM E F G)));have az:=zC (PB.start p (yp A B C D (qM E F G))).1;have d1:=Z.lt;have b5:=zC ar
  first | (revert al;intro al;have cw:=zC cn;have dj:=zC Z) | skip
  have d2:=λr p=>(q.mth r p).1
  have d3:=q.ent q.fLen qH;have d4:=λr p=>(q.mth r p).2.1
  have d5:=q.ent q.fBrk qH
  first
   |(revert al;intro al;clear Z ar cn)
   |(clear Z ar)
  go_enter func50,ntmps50;go_upto_region 1 with fail;generalize World.alloc _ _=aq at *;have cx:aq.cell? _=some (.int _ A):=c8 0 x.2.2.2.1;have cy:aq.cell? _=some (.int _ B):=c8 1 x.2.2.2.1;have cz:aq.cell? _=some (.int _ C):=c8 2 x.2.2.2.1;have z3:aq.cell? _=some (.int _ D):=c8 3 x.2.2.2.1;have c0:aq.cell? _=some (qM E F G):=c8 4 x.2.2.2.1;have b6:=zC (b5 aq az);go_wp2_with fail;refine b6.mono ?_
  first
   |(revert f;intro f;rintro k e ⟨da,db,dc,dd,de,mk,dt,du,rfl,co,df,cp,b2,dg⟩;(have am:=zC (show PX q p y b r _ h dt e from⟨⟨du,cp⟩,x.2.1.trans b2 x.2.2.1,λab a7=>dg ab a7,b2.ty x.2.2.2.1 qG,b2.ty x.2.2.2.2 qG⟩)))
   |(rintro k e ⟨rfl,cq⟩;have am:=zC (x.below cq);have b7:=zC (az.trans (cq.mono az.size)))
  have b8:=zC ((qZ.1 am.2.2.2.2).1)
  first
   |(revert al;intro al;skip
     have BX:=zC (bA (xe e.heap.size e) (qR (yg 0 0 0 qN qN) 81));have b9:=zC (xI e (qR (yg 0 0 0 qN qN) 81));clear cq b6 b5 cx cy cz z3 c0 x;go_upto_region 3 with fail;generalize World.alloc e _=dq at *;have c1:=zC (am.below BX);have c2:=zC (cw dq (b7.trans (BX.mono b7.size)));go_wp2_with (first | (refine yM rfl 81 _ _ rfl e.heap.size _ (yg aa 0 0 qN qN) 81 rfl rfl bf qI rfl (by simp[Value.oneCell']) ?_) | (refine c2.mono ?_;rintro k au ⟨rfl,cr⟩;have c3:=zC (c1.below cr);have bf:=zC ((cr.block e.heap.size (qZ.1 b9).1).trans b9);clear cr));have bg:=zC (kT au e.heap.size _ (yg aa 0 0 qN qN) _ _ bf)
     have bh:=zC (show PX q p y b r (yp A B C D (qM E F G)) d y (au.setRow e.heap.size (yg aa 0 0 qN qN))from by
      obtain⟨⟨dv,dw⟩,a8,dx,dy,dz⟩:=c3.out;have d6:=b8.out
      exact⟨⟨dv,dw.keep (KN.row bf qG)⟩,⟨a8.os,a8.tape,a8.output,by simp;exact a8.size,λab a7 ds=>(vG au _ ab _ qF).trans (a8.block ab a7 ds)⟩,dx,(vG au _ _ _ qF).trans dy,(vG au _ _ _ qF).trans dz⟩)
     generalize au.setRow e.heap.size _=N at *;obtain⟨a9,dh⟩:=bh.out.1;have t:=zC dh;have bi:=zC (And.intro (show zT N p.heap.size qN []from xR _ _ _ _) (show ∀ab,(Value.slice none 0 0).ownBlock=some ab->y ab from λab a7=>by simp[Value.ownBlock]at a7));have ca:=zC (show zS N p.heap.size qN []from xR _ _ _ _)
     clear am b7 BX b9 c1 c2 c3 bf dh cw dj)
   |(have BX:=zC (bA (xe _ e) (qR (yg 0 H I (qM da db dc) (qM dd de mk)) 81));have bg:=zC (xI e (qR (yg 0 H I (qM da db dc) (qM dd de mk)) 81));have cb:=zC (And.intro (show zT e _ _ b1 from zF co.1 az.size) co.2);have c4:=zC (df.base az.size);have c5:=zC cp;clear co df cp b2 dg b6 b5 cx cy cz z3 c0 x;go_upto_region 4 with fail;generalize World.alloc e _=N at *;have bh:=zC (am.below BX);have t:=zC (c5.below BX);have bi:=zC (And.intro (zE cb.1 BX lR) cb.2);have ca:=zC (zE c4 BX lR);clear am c5 cb c4 BX;rename VX=>a9)
  have K:=zC (b8);have d7:=t.len
  first
   |(revert f;intro f;(have dk:IntKind.i64.wrap (js h.tx+1)=js h.tx+1:=by have:=UN h.tx;rw[vA];omega))
   |((have dk:IntKind.i64.wrap (js d.tx+1)=js d.tx+1:=by have:=UN d.tx;rw[vA];omega))
  have cc:=t.lt;have V:=zC (show b≠e.heap.size by have cd:=b8.out;omega);have an:=zC (show ∀a:qS,a.heap[b]? =N.heap[b]?->a.cell? _=some _ from λa J=>(xq J).trans t.c6);refine(vZ (n:=6)).1 ?_;refine yf (λa=>a.cell? (qP b 6)=some (.iface q.ty (qO r 0))) qI ?_;refine tk 5 (qO b 0) ?_ ?_
  ·intro a c;go_simp
  go_simp;refine tk 6 (qO b 0) ?_ ?_
  ·intro a c;go_simp
  go_simp;refine tk 7 (qO b 6) ?_ ?_
  ·intro a c;go_simp
  go_simp;refine tk 8 (.iface q.ty (qO r 0)) ?_ ?_
  ·intro a c;go_simp
  go_simp;refine tk 0 (qO b 0) ?_ ?_
  ·intro a c;go_simp
  go_simp;refine tk 1 (qO b 0) ?_ ?_
  ·intro a c;go_simp
  go_simp;refine tk 2 (qO b 6) ?_ ?_
  ·intro a c;go_simp
  go_simp;refine tk 3 (.iface q.ty (qO r 0)) ?_ ?_
  ·intro a c;go_simp
  go_simp;obtain⟨di,ai⟩:∃a,a=N.drew:=⟨_,rfl⟩
  rw[<- ai];have a0:=zC (show qY N di from by rw[ai];exact⟨rfl,rfl,rfl,lR,λ_ _=>rfl⟩);clear ai;refine on 4 (an di (a0.block _ cc)) ?_;have CL:=zC (Hj (t.below a0));gi_wp2_with fail;refine⟨xB,(vn.2 CL).mono ?_⟩;rintro k d0 ⟨rfl,ba⟩;have a1:=zC (a0.trans (ba.mono a0.size));clear ba CL a0;gi_wp2_with fail;refine tk 11 (qO e.heap.size 5) ?_ ?_
  ·intro a c;go_simp
  go_simp;refine on 9 (an d0 (a1.block _ cc)) ?_;have c6:=zC (brkQ (t.below a1));gi_wp2_with fail;refine⟨xB,(vn.2 c6).mono ?_⟩;rintro k ac ⟨rfl,ba⟩;have ao:=zC (a1.trans (ba.mono a1.size));clear ba c6 a1;gi_wp2_with fail
  first
   |(revert f;intro f;refine tk 10 (qC (js h.tx+1)) ?_ ?_)
   |(refine tk 10 (qC (js d.tx+1)) ?_ ?_)
  ·intro a c;go_simp
  go_simp;have ce:=zC (bh.below ao);have bj:=zC (And.intro (zE bi.1 ao lR) (And.intro bi.2 (zE ca ao lR)));have P:=zC ((ao.block _ (qZ.1 bg).1).trans bg);have bk:=zC (ao.block _ cc);clear ao bg bh bi ca;have dl:=xY ac _ 5 _ _ P;have u5:ac.cell? _=some (.int _ 0):=c8 5 P;refine on 12 (an ac bk) ?_;gi_wp2_with fail
  first
   |(revert f;intro f;have L:=zC (xN ac _ 5 _ _ (qC h.tx.length) P);have bl:=zC (ce.cell (j:=5) (v:=.int .i64 h.tx.length) P K);(have bn:=KN.cell (l:=[81]) (j:=5) (v:=.int .i64 h.tx.length) P qG))
   |(have L:=zC (xN ac e.heap.size 5 _ _ (qC (d.tx.length:Nat)) P);have bl:=zC (ce.cell (j:=5) (v:=.int .i64 (d.tx.length:Nat)) P K);(have bn:=KN.cell (l:=[81]) (j:=5) (v:=.int .i64 (d.tx.length:Nat)) P qG))
  have bp:=zC (And.intro (jc bj.1 bn qG) (And.intro bj.2.1 (jc bj.2.2 bn qG)))
  first
   |(revert f;intro f;have a2:=zC ((xj ac (qP e.heap.size 5) b (qC h.tx.length) V).trans bk))
   |(have a2:=zC ((xj ac (qP e.heap.size 5) b (qC (d.tx.length:Nat)) V).trans bk))
  clear bn;generalize ac.setCell _ _=W at *;clear P ce bj bk dl u5;refine tk 13 (qO e.heap.size 6) ?_ ?_
  ·intro a c;go_simp
  go_simp;have dm:=xY W _ 6 _ _ L;have u6:W.cell? _=some (.int _ 0):=c8 6 L;refine on 14 (an W a2) ?_;gi_wp2_with fail
  first
   |(revert f;intro f;have bq:=zC (xN W _ 6 _ _ (qC (js h.tx+1)) L);have cf:=zC (bl.cell (j:=6) (v:=.int .i64 (js h.tx+1)) L K);(have br:=KN.cell (l:=[81]) (j:=6) (v:=.int .i64 (js h.tx+1)) L qG))
   |(have bq:=zC (xN W e.heap.size 6 _ _ (qC (js d.tx+1)) L);have cf:=zC (bl.cell (j:=6) (v:=.int .i64 (js d.tx+1)) L K);(have br:=KN.cell (l:=[81]) (j:=6) (v:=.int .i64 (js d.tx+1)) L qG))
  have bs:=zC (And.intro (jc bp.1 br qG) (And.intro bp.2.1 (jc bp.2.2 br qG)))
  first
   |(revert f;intro f;have a3:=zC ((xj W (qP e.heap.size 6) b (qC (js h.tx+1)) V).trans a2))
   |(have a3:=zC ((xj W (qP e.heap.size 6) b (qC (js d.tx+1)) V).trans a2))
  clear br;generalize W.setCell _ _=cj at *;clear L bl bp a2 dm u6;refine ZA qI (an cj a3) ?_ _;clear an;go_upto_region 5 with fail
  first
   |(revert f;intro f;skip
     obtain⟨av,aw,b3⟩:∃O ah,a9.dv= .slice O h.un.length ah:=by
      obtain⟨cs,aj,_⟩:=t.out.ey.dn.1;rcases aj.2 with ⟨k,ak⟩ | ⟨ct,cu,cv,k,_⟩
      ·exact⟨none,0,by rw[k,ak]⟩
      exact⟨_,_,k⟩
     obtain⟨ax,ay,b4⟩:∃O ah,a9.uv= .slice O h.re.length ah:=by
      obtain⟨cs,aj,_⟩:=t.out.ey.ud.1;rcases aj.2 with ⟨k,ak⟩ | ⟨ct,cu,cv,k,_⟩
      ·exact⟨none,0,by rw[k,ak]⟩
      exact⟨_,_,k⟩
     have a4:=zC (show ∀a:qS,a.heap[b]? =N.heap[b]?->a.cell? _=some _/\a.cell? _=some _ from λa J=>by
      obtain⟨_,bc,bd,_⟩:=t.out.ey.blk.cl;rw[b3]at bc;rw[b4]at bd
      exact⟨(xq J).trans bc,(xq J).trans bd⟩)
     have cg:=zC (show ∀a:qS,a.heap[b]? =N.heap[b]?->a.cell? _=some _ from λa J=>(xq J).trans t.ey.blk.cl.2.2.2.2.1))
   |(skip
     obtain⟨av,aw,b3⟩:∃O ah,a9.dv= .slice O d.un.length ah:=by
      obtain⟨cs,aj,_⟩:=t.out.ey.dn.1;rcases aj.2 with ⟨k,ak⟩ | ⟨ct,cu,cv,k,_⟩
      ·exact⟨none,0,by rw[k,ak]⟩
      exact⟨_,_,k⟩
     obtain⟨ax,ay,b4⟩:∃O ah,a9.uv= .slice O d.re.length ah:=by
      obtain⟨cs,aj,_⟩:=t.out.ey.ud.1;rcases aj.2 with ⟨k,ak⟩ | ⟨ct,cu,cv,k,_⟩
      ·exact⟨none,0,by rw[k,ak]⟩
      exact⟨_,_,k⟩
     have a4:=zC (show ∀a:qS,a.heap[b]? =N.heap[b]?->a.cell? (qP b 1)=some (qM av d.un.length aw)/\a.cell? (qP b 2)=some (qM ax d.re.length ay)from λa J=>by
      obtain⟨_,bc,bd,_⟩:=t.out.ey.blk.cl;rw[b3]at bc;rw[b4]at bd
      exact⟨(xq (a:=(qP b 1)) J).trans bc,(xq (a:=(qP b 2)) J).trans bd⟩)
     have cg:=zC (show ∀a:qS,a.heap[b]? =N.heap[b]?->a.cell? (qP b 4)=some (.bool d.op)from λa J=>(xq (a:=(qP b 4)) J).trans t.ey.blk.cl.2.2.2.2.1))
  clear b3 b4;refine(vZ (n:=6)).1 ?_
  first
   |(revert f;intro f;(refine yf (λa=>a.cell? (qP b 1)=some (qM av h.un.length aw)/\a.cell? (qP b 2)=some (qM ax h.re.length ay)) qI ?_))
   |((refine yf (λa=>a.cell? (qP b 1)=some (qM av d.un.length aw)/\a.cell? (qP b 2)=some (qM ax d.re.length ay)) qI ?_))
  refine tk 0 (qO b 0) ?_ ?_
  ·intro a c;obtain⟨u,w⟩:=c;go_simp
  go_simp;refine tk 1 (qO b 0) ?_ ?_
  ·intro a c;obtain⟨u,w⟩:=c;go_simp
  go_simp;refine tk 2 (qO b 1) ?_ ?_
  ·intro a c;obtain⟨u,w⟩:=c;go_simp
  go_simp;refine tk 3 (qO b 1) ?_ ?_
  ·intro a c;obtain⟨u,w⟩:=c;go_simp
  go_simp;refine tk 4 (qO b 1) ?_ ?_
  ·intro a c;obtain⟨u,w⟩:=c;go_simp
  go_simp
  first
   |(revert f;intro f;refine tk 5 (qM av h.un.length aw) ?_ ?_)
   |(refine tk 5 (qM av d.un.length aw) ?_ ?_)
  ·intro a c;obtain⟨u,w⟩:=c;go_simp
  go_simp
  first
   |(revert f;intro f;refine tk 6 (qC h.un.length) ?_ ?_)
   |(refine tk 6 (qC (d.un.length:Nat)) ?_ ?_)
  ·intro a c;obtain⟨u,w⟩:=c;go_simp
  go_simp;refine tk 7 (qO b 0) ?_ ?_
  ·intro a c;obtain⟨u,w⟩:=c;go_simp
  go_simp;refine tk 8 (qO b 0) ?_ ?_
  ·intro a c;obtain⟨u,w⟩:=c;go_simp
  go_simp;refine tk 9 (qO b 1) ?_ ?_
  ·intro a c;obtain⟨u,w⟩:=c;go_simp
  go_simp;refine tk 10 (qO b 1) ?_ ?_
  ·intro a c;obtain⟨u,w⟩:=c;go_simp
  go_simp;refine tk 11 (qO b 2) ?_ ?_
  ·intro a c;obtain⟨u,w⟩:=c;go_simp
  go_simp
  first
   |(revert f;intro f;refine tk 12 (qM ax h.re.length ay) ?_ ?_)
   |(refine tk 12 (qM ax d.re.length ay) ?_ ?_)
  ·intro a c;obtain⟨u,w⟩:=c;go_simp
  go_simp
  first
   |(revert f;intro f;refine tk 13 (qC h.re.length) ?_ ?_)
   |(refine tk 13 (qC (d.re.length:Nat)) ?_ ?_)
  ·intro a c;obtain⟨u,w⟩:=c;go_simp
  go_simp;refine tk 14 (qO e.heap.size 7) ?_ ?_
  ·intro a c;obtain⟨u,w⟩:=c;go_simp
  go_simp;obtain⟨U,ai⟩:∃a,a=cj.drew:=⟨_,rfl⟩
  rw[<- ai];have ap:=zC (show qY cj U from by rw[ai];exact⟨rfl,rfl,rfl,lR,λ_ _=>rfl⟩);clear ai;have ch:=zC (cf.below ap);have bt:=zC (And.intro (zE bs.1 ap lR) (And.intro bs.2.1 (zE bs.2.2 ap lR)));have Q:=zC ((ap.block _ (qZ.1 bq).1).trans bq);have bu:=zC ((ap.block b (by have cd:=a3.out;rw[t.out.ey.blk.2]at cd;exact(qZ.1 cd).1)).trans a3);clear cf bs bq a3 ap;have dn:=xY U _ 7 _ _ Q;have u7:U.cell? _=some (.int _ 0):=c8 7 Q;refine on 15 (a4 U bu) ?_;gi_wp2_with fail
  first
   |(revert f;intro f;have M:=zC (xN U _ 7 _ _ (qC h.un.length) Q);have bv:=zC (ch.cell (j:=7) (v:=.int .i64 h.un.length) Q K);(have bw:=KN.cell (l:=[81]) (j:=7) (v:=.int .i64 h.un.length) Q qG))
   |(have M:=zC (xN U e.heap.size 7 _ _ (qC (d.un.length:Nat)) Q);have bv:=zC (ch.cell (j:=7) (v:=.int .i64 (d.un.length:Nat)) Q K);(have bw:=KN.cell (l:=[81]) (j:=7) (v:=.int .i64 (d.un.length:Nat)) Q qG))
  have bx:=zC (And.intro (jc bt.1 bw qG) (And.intro bt.2.1 (jc bt.2.2 bw qG)))
  first
   |(revert f;intro f;have a5:=zC ((xj U (qP e.heap.size 7) b (qC h.un.length) V).trans bu))
   |(have a5:=zC ((xj U (qP e.heap.size 7) b (qC (d.un.length:Nat)) V).trans bu))
  clear bw;generalize U.setCell _ _=X at *;clear Q ch bt bu dn u7;refine tk 16 (qO e.heap.size 8) ?_ ?_
  ·intro a c;obtain⟨u,w⟩:=c;go_simp
  go_simp;have dp:=xY X _ 8 _ _ M;have u8:X.cell? _=some (.int _ 0):=c8 8 M;refine on 17 (a4 X a5) ?_;gi_wp2_with fail
  first
   |(revert f;intro f;have g:=zC (xN X _ 8 _ _ (qC h.re.length) M);have z:=zC (bv.cell (j:=8) (v:=.int .i64 h.re.length) M K);(have bz:=KN.cell (l:=[81]) (j:=8) (v:=.int .i64 h.re.length) M qG))
   |(have g:=zC (xN X e.heap.size 8 _ _ (qC (d.re.length:Nat)) M);have z:=zC (bv.cell (j:=8) (v:=.int .i64 (d.re.length:Nat)) M K);(have bz:=KN.cell (l:=[81]) (j:=8) (v:=.int .i64 (d.re.length:Nat)) M qG))
  have s:=zC (And.intro (jc bx.1 bz qG) (And.intro bx.2.1 (jc bx.2.2 bz qG)))
  first
   |(revert f;intro f;have ad:=zC ((xj X (qP e.heap.size 8) b (qC h.re.length) V).trans a5))
   |(have ad:=zC ((xj X (qP e.heap.size 8) b (qC (d.re.length:Nat)) V).trans a5))
  clear bz;generalize X.setCell _ _=Y at *;clear M bv bx a5 dp u8;refine ZA qI (a4 Y ad) ?_ _;have b0:=cg Y ad;clear a4 cg
  first
   |(revert f;intro f;skip
     cases T:h.op with
     | false=>
      rw[T]at b0;have RR:=zC z.2.2.2.2;have ae:=zC (z.finS (x0:=0) (x1:=H) (x2:=I) ⟨s.1,s.2.1⟩ s.2.2 (o:=0) (by rw[T];rfl));have u0:=c8 0 g;have u1:=c8 1 g;have u2:=c8 2 g;have u3:=c8 3 g;have u4:=c8 4 g;have u5:=c8 5 g;have u6:=c8 6 g;have u7:=c8 7 g;have u8:=c8 8 g;have u9:=c8 9 g;clear z s ad;go_wp2_with (refine sr8 RR ?_);exact MN results50 RR rfl ae
     | true=>
      rw[T]at b0;have ci:=xY Y e.heap.size 9 _ _ g;have u9:=c8 9 g;have m:=zC (xN Y e.heap.size 9 _ _ (qC 1) g);have af:=zC (z.cell (j:=9) (v:=.int .i64 1) g K);have ag:=KN.cell (l:=[81]) (j:=9) (v:=.int .i64 1) g qG;have R:=zC (And.intro (jc s.1 ag qG) (And.intro s.2.1 (jc s.2.2 ag qG)));clear ag;go_upto_region 8 with fail;clear ci u9 g z s ad;generalize Y.setCell (qP e.heap.size 9) _=dr at *;have RR:=zC af.2.2.2.2;have ae:=zC (af.finS (x0:=0) (x1:=H) (x2:=I) ⟨R.1,R.2.1⟩ R.2.2 (o:=1) (by rw[T];rfl));have u0:=c8 0 m;have u1:=c8 1 m;have u2:=c8 2 m;have u3:=c8 3 m;have u4:=c8 4 m;have u5:=c8 5 m;have u6:=c8 6 m;have u7:=c8 7 m;have u8:=c8 8 m;have u9:=c8 9 m;clear af R;go_wp2_with (refine sr8 RR ?_)
      exact MN results50 RR rfl ae)
   |(skip
     cases T:d.op with
     | false=>
      rw[T]at b0;have RR:=zC z.2.2.2.2;have ae:=zC (z.finS (x0:=aa) (x1:=0) (x2:=0) ⟨s.1,s.2.1⟩ s.2.2 (o:=0) (by rw[T];rfl));have u0:=c8 0 g;have u1:=c8 1 g;have u2:=c8 2 g;have u3:=c8 3 g;have u4:=c8 4 g;have u5:=c8 5 g;have u6:=c8 6 g;have u7:=c8 7 g;have u8:=c8 8 g;have u9:=c8 9 g;clear z s ad;go_wp2_with (refine sr8 RR ?_);exact MN results50 RR rfl ae
     | true=>
      rw[T]at b0;have ci:=xY Y e.heap.size 9 _ _ g;have u9:=c8 9 g;have m:=zC (xN Y e.heap.size 9 _ _ (qC 1) g);have af:=zC (z.cell (j:=9) (v:=.int .i64 1) g K);have ag:=KN.cell (l:=[81]) (j:=9) (v:=.int .i64 1) g qG;have R:=zC (And.intro (jc s.1 ag qG) (And.intro s.2.1 (jc s.2.2 ag qG)));clear ag;go_upto_region 8 with fail;clear ci u9 g z s ad;generalize Y.setCell (qP e.heap.size 9) _=dr at *;have RR:=zC af.2.2.2.2;have ae:=zC (af.finS (x0:=aa) (x1:=0) (x2:=0) ⟨R.1,R.2.1⟩ R.2.2 (o:=1) (by rw[T];rfl));have u0:=c8 0 m;have u1:=c8 1 m;have u2:=c8 2 m;have u3:=c8 3 m;have u4:=c8 4 m;have u5:=c8 5 m;have u6:=c8 6 m;have u7:=c8 7 m;have u8:=c8 8 m;have u9:=c8 9 m;clear af R;go_wp2_with (refine sr8 RR ?_)
      exact MN results50 RR rfl ae)
def step9:=@zAh.1
def IS:=@zAh.2
end
end

import Derived.Test.YtljdnoinennfaaaGreatDoorMq20
set_option linter.all false
set_option maxRecDepth 100000
set_option maxHeartbeats 8000000
namespace Go.Proofs.YtljdnoinennfaaaGreatDoor
open Go Go.RowKit
theorem AT.rot_its (l:AT) (p:Pc) (r:AT):(AT.rot l p r).its=(AT.node l p r).its:=by
 refine AT.its_of_flat ?_;unfold AT.rot
 split
 ·split
  ·rw [AT.flat_turnR];simp [AT.flat,AT.flat_turnL]
  ·rw [AT.flat_turnR]
 ·split
  ·rw [AT.flat_turnL];simp [AT.flat,AT.flat_turnR]
  ·rw [AT.flat_turnL]
theorem Sub.uniq {X:List It} {a i b:Nat} {e:Int} (d:Sub X a i b e):∀j,a<=j->j<b->∃x,X[j]? =some x∧(x.lv=e↔j=i):=by
 intro j h k
 rcases kN j i with g | g | g
 ·obtain⟨x,c,f⟩:=d.lft j h g
  exact⟨x,c,fun b=>by omega,fun b=>by omega⟩
 ·subst g
  obtain⟨x,c,f⟩:=d.mid
  exact⟨x,c,fun _=>rfl,fun _=>f⟩
 ·obtain⟨x,c,f⟩:=d.rgt j g k
  exact⟨x,c,fun b=>by omega,fun b=>by omega⟩
theorem ZO (A B:List It) (l r:AT) (p:Pc) (e:Int):A++(AT.node l p r).told e++B=A++l.told (e+1)++(⟨p,e⟩::(r.told (e+1)++B)):=by
 simp [AT.told]
theorem jU (A B:List It) (l r:AT) (p:Pc) (e:Int):A++(AT.node l p r).told e++B=(A++l.told (e+1)++ [⟨p,e⟩])++r.told (e+1)++B:=by
 simp [AT.told]
theorem AT.Fit.ofLeft {A B:List It} {e:Int} {p:Pc} {Y:List It} (f:AT.Fit A B e):AT.Fit A (⟨p,e⟩::Y) (e+1):=
 ⟨fun a d=>by have:=f.1 a d;omega,fun b c=>by simp at c;subst c;simp only;omega⟩
theorem AT.Fit.ofRight {A B:List It} {e:Int} {p:Pc} {Y:List It} (f:AT.Fit A B e):AT.Fit (A++Y++ [⟨p,e⟩]) B (e+1):=
 ⟨fun a c=>by simp at c;subst c;simp only;omega,fun b d=>by have:=f.2 b d;omega⟩
theorem zAd (A S B:List It):seg (A++S++B) A.length (A.length+S.length)=S:=by
 unfold seg
 rw [xq,vo lR,List.drop_length,xJ,show A.length+S.length - A.length=S.length by omega,List.take_left]
theorem seg_left (A B:List It) (l r:AT) (p:Pc) (e:Int):seg (A++(AT.node l p r).told e++B) A.length (A.length+l.its)=l.told (e+1):=by
 rw [ZO];have a:=zAd A (l.told (e+1)) (⟨p,e⟩::(r.told (e+1)++B));rw [AT.told_length]at a;exact a
theorem zG2 (A B:List It) (l r:AT) (p:Pc) (e:Int):seg (A++(AT.node l p r).told e++B) (A.length+l.its+1) (A.length+(AT.node l p r).its)=r.told (e+1):=by
 rw [jU];have a:=zAd (A++l.told (e+1)++ [⟨p,e⟩]) (r.told (e+1)) B;simp only [qM,AT.told_length,q9,xC]at a
 rw [show A.length+l.its+1=A.length+l.its+(0+1)by omega,show A.length+(AT.node l p r).its=A.length+l.its+(0+1)+r.its by simp only [AT.its];omega]
 exact a
theorem zD5 (base g cap n:Nat) (A B:List It) (a b r:AT) (q p:Pc) (e:Int) (w:World) (c:(A++(AT.node (.node a q b) p r).told e++B).length=n) (v:OwI w base (.slice (qK g 0) n cap) (A++(AT.node (.node a q b) p r).told e++B)) (y:n<=cap∧cap<=maxLen) (z:n<=1048576) (s:AT.Fit A B e) (C:∀x∈A++(AT.node (.node a q b) p r).told e++B,0<=x.lv∧x.lv<=1000000) (i:Nat) (hi:i=A.length+(AT.node a q b).its):
  Calls Tryz.prog 131 #[.slice (qK g 0) n cap,qJ (i:Int),.bool true] w fun o w'=>o= .returned (.tuple #[])∧OwI w' base (.slice (qK g 0) n cap) (A++(AT.node a q (.node b p r)).told e++B)∧w.grownBy w' (some g):=by
 subst hi;have f:=Sub.of (l:=.node a q b) (r:=r) (p:=p) s
 have h:Sub (A++(AT.node (.node a q b) p r).told e++B) A.length (A.length+a.its) (A.length+(AT.node a q b).its) (e+1):=by
  rw [ZO A B (.node a q b) r p e];exact Sub.of (l:=a) (r:=b) (p:=q) (s.ofLeft)
 obtain⟨H,t,_⟩:=f.mid;obtain⟨I,u,_⟩:=h.mid;have F:(AT.node a q b).its=a.its+1+b.its:=rfl;have G:(AT.node (.node a q b) p r).its=(AT.node a q b).its+1+r.its:=rfl
 have j:(A++(AT.node (.node a q b) p r).told e++B)[A.length+a.its]? =some ⟨q,e+1⟩:=by
  rw [j6 A _ B _ (by omega) (by rw [AT.told_length];omega)]
  simp only [AT.told,xq,xx]
  rw [xe (by rw [AT.told_length];omega),AT.told_length]
  simp
 have k:(A++(AT.node (.node a q b) p r).told e++B)[A.length+(AT.node a q b).its]? =some ⟨p,e⟩:=by
  rw [j6 A _ B _ (by omega) (by rw [AT.told_length];omega)]
  rw [AT.told,xe (by rw [AT.told_length];omega),AT.told_length]
  rw [show A.length+(AT.node a q b).its - A.length - (AT.node a q b).its=0 by omega];rfl
 rw [k]at t;cases t;rw [j]at u;cases u
 have T:=turnSR base g cap _ w (by rw [c];exact v) (by rw [c];exact y) (by rw [c];exact z) _ _ _ (A.length+a.its) e ⟨p,e⟩ ⟨q,e+1⟩ f k j (by omega) (by omega) h.uniq C
 rw [c]at T;refine T.mono ?_;rintro o w' ⟨D,d,E⟩;refine⟨D,?_,E⟩;have m:=zD4 A B a b r q p e
 rw [show A.length+a.its+1+b.its+1+r.its=A.length+(AT.node (.node a q b) p r).its by omega,show A.length+a.its+1+b.its=A.length+(AT.node a q b).its by omega]at m
 simp only at d;rw [m]at d;exact d
theorem zD6 (base g cap n:Nat) (A B:List It) (l b c:AT) (q p:Pc) (e:Int) (w:World) (d:(A++(AT.node l p (.node b q c)).told e++B).length=n) (y:OwI w base (.slice (qK g 0) n cap) (A++(AT.node l p (.node b q c)).told e++B)) (z:n<=cap∧cap<=maxLen) (C:n<=1048576) (t:AT.Fit A B e) (D:∀x∈A++(AT.node l p (.node b q c)).told e++B,0<=x.lv∧x.lv<=1000000) (i:Nat) (hi:i=A.length+l.its):
  Calls Tryz.prog 131 #[.slice (qK g 0) n cap,qJ (i:Int),.bool false] w fun s w'=>s= .returned (.tuple #[])∧OwI w' base (.slice (qK g 0) n cap) (A++(AT.node (.node l p b) q c).told e++B)∧w.grownBy w' (some g):=by
 subst hi;have h:=Sub.of (l:=l) (r:=.node b q c) (p:=p) t;have G:(AT.node b q c).its=b.its+1+c.its:=rfl;have H:(AT.node l p (.node b q c)).its=l.its+1+(AT.node b q c).its:=rfl
 have j:Sub (A++(AT.node l p (.node b q c)).told e++B) (A.length+l.its+1) (A.length+l.its+1+b.its) (A.length+(AT.node l p (.node b q c)).its) (e+1):=by
  have a:=Sub.of (l:=b) (r:=c) (p:=q) (t.ofRight (p:=p) (Y:=l.told (e+1)));rw [<- jU A B l (.node b q c) p e]at a;simp only [qM,AT.told_length,q9,xC]at a
  rw [show A.length+l.its+(0+1)=A.length+l.its+1 by omega,show A.length+l.its+1+(AT.node b q c).its=A.length+(AT.node l p (.node b q c)).its by omega]at a
  exact a
 obtain⟨I,u,_⟩:=h.mid;obtain⟨J,v,_⟩:=j.mid
 have k:(A++(AT.node l p (.node b q c)).told e++B)[A.length+l.its]? =some ⟨p,e⟩:=by
  rw [j6 A _ B _ (by omega) (by rw [AT.told_length];omega)]
  rw [AT.told,xe (by rw [AT.told_length];omega),AT.told_length]
  rw [show A.length+l.its - A.length - l.its=0 by omega];rfl
 have m:(A++(AT.node l p (.node b q c)).told e++B)[A.length+l.its+1+b.its]? =some ⟨q,e+1⟩:=by
  rw [j6 A _ B _ (by omega) (by rw [AT.told_length];omega)]
  simp only [AT.told]
  rw [xe (by rw [AT.told_length];omega),AT.told_length]
  rw [show A.length+l.its+1+b.its - A.length - l.its=b.its+1 by omega,vh,xe (by rw [AT.told_length];omega),AT.told_length]
  simp
 rw [k]at u;cases u;rw [m]at v;cases v
 have T:=turnSL base g cap _ w (by rw [d];exact y) (by rw [d];exact z) (by rw [d];exact C) _ _ _ (A.length+l.its+1+b.its) e ⟨p,e⟩ ⟨q,e+1⟩ h k m (by omega) (by omega) j.uniq D
 rw [d]at T;refine T.mono ?_;rintro s w' ⟨E,f,F⟩;refine⟨E,?_,F⟩;have o:=zG1 A B l b c q p e
 rw [show A.length+l.its+1+b.its+1+c.its=A.length+(AT.node l p (.node b q c)).its by omega]at o
 simp only at f;rw [o]at f;exact f
theorem YX (a:Nat) (v:Value) (X:List It) (W:World) (c:RdI a W v X) (d:X.length<=1048576) {A B:List It} {l r:AT} {p:Pc} {e:Int} (f:X=A++(AT.node l p r).told e++B) (g:AT.Fit A B e) (k:Nat) (h:A.length+l.its=k):
  Calls Tryz.prog 105 #[v,qJ (k:Int)] W fun b w'=>b= .returned (.tuple #[qJ (A.length:Int),qJ ((A.length+(AT.node l p r).its:Nat):Int)])∧∃q,w'=W.drewN q:=by
 subst h;refine zD3 a v X W c d _ _ _ e ?_;rw [f];exact Sub.of g
theorem heightTL (b:Nat) (v:Value) (X:List It) (W:World) (f:RdI b W v X) (g:X.length<=1048576) (h:∀x∈X,0<=x.lv∧x.lv<=1000000) {A B:List It} {l r:AT} {p:Pc} {e:Int} (c:X=A++(AT.node l p r).told e++B) (k:Nat) (i:A.length+l.its=k):
  Calls Tryz.prog 130 #[v,qJ (A.length:Int),qJ (k:Int)] W fun d w'=>d= .returned (qJ (l.ht:Int))∧w'=W:=by
 subst i
 have a:=zAc b v X W f g h A.length (A.length+l.its) (by omega) (by rw [c];simp only [qM,AT.told_length,AT.its];omega)
 rw [show seg X A.length (A.length+l.its)=l.told (e+1)by rw [c];exact seg_left A B l r p e,Zd]at a
 exact a
theorem heightTR (b:Nat) (v:Value) (X:List It) (W:World) (f:RdI b W v X) (g:X.length<=1048576) (h:∀x∈X,0<=x.lv∧x.lv<=1000000) {A B:List It} {l r:AT} {p:Pc} {e:Int} (c:X=A++(AT.node l p r).told e++B) (k:Nat) (i:A.length+l.its=k):
  Calls Tryz.prog 130 #[v,qJ ((k:Int)+1),qJ ((A.length+(AT.node l p r).its:Nat):Int)] W fun d w'=>d= .returned (qJ (r.ht:Int))∧w'=W:=by
 subst i
 have a:=zAc b v X W f g h (A.length+l.its+1) (A.length+(AT.node l p r).its) (by simp only [AT.its];omega) (by rw [c];simp only [qM,AT.told_length];omega)
 rw [show seg X (A.length+l.its+1) (A.length+(AT.node l p r).its)=r.told (e+1)by rw [c];exact zG2 A B l r p e,Zd]at a
 exact a
theorem childT (b:Nat) (v:Value) (X:List It) (W:World) (d:RdI b W v X) (f:X.length<=1048576) (g:X≠ []) (lo:Int) (a hi:Nat) (h:lo=a) (i:a<=hi) (j:hi<=X.length):
  Calls Tryz.prog 102 #[v,qJ lo,qJ (hi:Int)] W fun e w'=>∃c:Nat,e= .returned (qJ (c:Int))∧Am X a hi c∧∃q,w'=W.drewN q:=by
 subst h;exact childS b v X W d f g a hi i j
def encB (b:Option (Nat×Int)):Int:=match b with | none=> -1 | some (j,_)=>j
def BOK (X:List It) (k:Nat) (b:Option (Nat×Int)):Prop:=∀j m,b=some (j,m)->j<k∧∃y,X[j]? =some y∧y.lv=m
theorem zG3 {a:List (Int×Int)} {k:Nat} {e d:Int} (b:a[k]? =some (e,d)):AT.scan (a.take (k+1)) 0 none=(if 2<=d∨d<= -2 then AT.bst (AT.scan (a.take k) 0 none) k e else AT.scan (a.take k) 0 none):=by
 have c:k<a.length:=by
  rcases xS k a.length with g | g
  ·exact g
  ·rw [xQ g]at b;cases b
 rw [Qa c,AT.scan_append]
 have f:a[k]=(e,d):=by rw [qY c]at b;exact vF b
 rw [f];simp only [AT.scan]
 rw [qN,xN,show min k a.length=k by omega]
theorem yO (T:AT) (d:T.its<=100000):∀x∈T.told 0,0<=x.lv∧x.lv<=1000000:=by
 intro x a;have b:=AT.told_lv T 0 x a;have c:=AT.ht_its T;omega
theorem lv_mid {X A B:List It} {S S2:AT} {e:Int} (b:X=A++S.told e++B) (c:∀x∈X,0<=x.lv∧x.lv<=100000) (d:0<=e∧e<=200000) (f:S2.its<=200000):∀x∈A++S2.told e++B,0<=x.lv∧x.lv<=1000000:=by
 intro x a;rw [xv,xv]at a
 rcases a with (a | a) | a
 ·have:=c x (by rw [b];simp [a]);omega
 ·have:=AT.told_lv S2 e x a;have:=AT.ht_its S2;omega
 ·have:=c x (by rw [b];simp [a]);omega
theorem lv_told1 (T:AT) (d:T.its<=100000):∀x∈T.told 0,0<=x.lv∧x.lv<=100000:=by
 intro x a;have b:=AT.told_lv T 0 x a;have c:=AT.ht_its T;omega
theorem yA (base g cap n:Nat) (U:AT) (ds:n<=cap∧cap<=maxLen) (e7:n<=100000) (m:Nat) (T:AT) (w:World) (ek:T.its=n) (dt:AT.Fx T m U) (e8:m<=2*n+2) (du:OwI w base (.slice (some ⟨g,0,none⟩) n cap) (T.told 0)):
  Calls Tryz.prog 106 #[.slice (some ⟨g,0,none⟩) n cap] w fun e w'=>e= .returned (.tuple #[])∧OwI w' base (.slice (some ⟨g,0,none⟩) n cap) (U.told 0)∧w.grownBy w' (some g):=by
 have d5:=qG du;have d6:=qG dt;have a3:=qG ds;unfold maxLen at ds;clear du dt;go_enter Tryz.func106,Tryz.ntmps106;go_wp2_with fail
 go_loopw [2] (fun cv wr=>∃ (r b4:Nat) (d:AT),cv= .int .i64 r∧r+b4<=2*n+2∧d.its=n∧AT.Fx d b4 U∧OwI wr base (.slice (some ⟨g,0,none⟩) n cap) (d.told 0)∧w.grownBy wr (some g)) (fun cv _=>2*n+3 - (intOf cv).toNat)
 case atStart=>exact⟨0,m,T,rfl,by omega,ek,d6.out,d5.out,YP _ _⟩
 case round=>
  obtain⟨r,b4,d,rfl,e9,cz,dv,b6,dw⟩:=hrel;obtain⟨u,el⟩:∃x,x=wr:=⟨_,rfl⟩;subst el;have ca:=qG dv;have ba:=qG dw;have c9:=qG b6
  have F:=qG (show(d.told 0).length=n from by rw [AT.told_length];exact cz)
  have aj:=qG (fun q=>(OwI.rd b6).heap (w':=u.drewN q) rfl)
  have bq:=qG (yO d (by omega))
  have br:=qG (fun k x (b5:(d.told 0)[k]? =some x)=>show u.cell? ⟨g,k*4+3,none⟩=some (.int .i64 x.lv)from OwI.lv (by have h:=b6;unfold OwI at h;rw [AT.told_length,cz]at h;exact h) b5)
  have cb:=qG (fun k ah=>AT.at_idx d 0 k ah)
  have da:=qG (show(d.dif 0).length=n from by rw [AT.dif_length];exact cz)
  have ak:=qG (fun(A B:List It) (l r:AT) (p:Pc) (e:Int) q y X k ah=>YX u.heap.size (.slice (some ⟨g,0,none⟩) n cap) (d.told 0) (u.drewN q) (aj.out q) (by rw [F.out];omega) (A:=A) (B:=B) (l:=l) (r:=r) (p:=p) (e:=e) y X k ah)
  have al:=qG (fun(A B:List It) (l r:AT) (p:Pc) (e:Int) q y k ah=>heightTL u.heap.size (.slice (some ⟨g,0,none⟩) n cap) (d.told 0) (u.drewN q) (aj.out q) (by rw [F.out];omega) bq.out (A:=A) (B:=B) (l:=l) (r:=r) (p:=p) (e:=e) y k ah)
  have am:=qG (fun(A B:List It) (l r:AT) (p:Pc) (e:Int) q y k ah=>heightTR u.heap.size (.slice (some ⟨g,0,none⟩) n cap) (d.told 0) (u.drewN q) (aj.out q) (by rw [F.out];omega) bq.out (A:=A) (B:=B) (l:=l) (r:=r) (p:=p) (e:=e) y k ah)
  have er:(r:Int)<=2*(n:Int)+2:=by omega
  clear dv dw b6;go_wp2_with fail
  go_loopw [3,26] (fun eh cw wr=>∃ (k q:Nat) (b:Option (Nat×Int)),k<=n∧cw= .int .i64 k∧b=AT.scan ((d.dif 0).take k) 0 none∧BOK (d.told 0) k b∧eh= .int .i64 (encB b)∧wr=u.drewN q) (fun _ cw _=>n - (intOf cw).toNat)
  case atStart=>exact⟨0,0,none,xP _,rfl,rfl,(by intro j m K;cases K),rfl,rfl⟩
  case round=>
   obtain⟨k,q,b,ah,rfl,Z,dx,rfl,rfl⟩:=hrel;have an:=qG Z;have bs:=qG dx;clear Z dx
   by_cases e4:k<n
   ·obtain⟨A,l,p,i,B,e,y,b7,dy,em,X⟩:=cb.out k (by omega)
    have cc:=AT.ht_its l;have cd:=AT.ht_its i
    have es:l.its+1+i.its<=n:=by have h:=F.out;rw [y]at h;simp only [qM,AT.told_length,AT.its]at h;omega
    have a4:=qG (zG3 dy)
    obtain⟨c0,c1,b8⟩:∃x,(d.told 0)[k]? =some x∧x.lv=e:=by
     have h:=(Sub.of (l:=l) (r:=i) (p:=p) X).mid;rw [<- y,b7]at h;exact h
    have db:=qG c1;have ce:=br.out k c0 c1;rw [b8]at ce;have d7:=qG ce;have bc:=qG (ak.out A B l i p e q y X k b7)
    have bt:=qG (fun q=>al.out A B l i p e q y k b7)
    have bd:=qG (fun q=>am.out A B l i p e q y k b7)
    have et:(k:Int)<(n:Int):=by omega
    generalize A.length=ad at *;generalize (AT.node l p i).its=W at *;generalize ab:l.ht=H at *;generalize ac:i.ht=I at *;have dc:=b8;clear y dy X c1 b8 ab ac ce;go_wp2_with fail;refine bc.out.mono ?_;rintro z w1 ⟨rfl,b9,rfl⟩;rw [World.drewN_drewN];go_wp2_with fail;refine(bt.out (q+b9)).mono ?_;rintro z w1 ⟨rfl,rfl⟩;go_wp2_with fail;refine(bd.out (q+b9)).mono ?_;rintro z w1 ⟨rfl,rfl⟩
    by_cases s:2<=(H:Int) - I∨(H:Int) - I<= -2
    ·rw [xj s]at a4
     cases b with
     | none=>
      have af:(encB none:Int)= -1:=rfl;rw [af]
      have S:=qG (show AT.scan ((d.dif 0).take (k+1)) 0 none=some (k,e)from by rw [a4.out,<- an.out];rfl)
      have V:=qG (show BOK (d.told 0) (k+1) (some (k,e))from fun j m K=>by cases K;exact⟨by omega,c0,db.out,dc⟩)
      rcases s with s | s
      ·have a5:2<=(H:Int) - I:=s
       clear s;go_wp2;go_quiet (fail);go_wp2;go_roundw
       case rel=>exact⟨k+1,_,some (k,e),by omega,by go_num,S.out.symm,V.out,rfl,by first | rfl | exact World.drewN_drewN _ _ _⟩
       case measure=>simp [intOf];omega
      ·have cf:¬2<=(H:Int) - I:=by omega
       have a5:(H:Int) - I<= -2:=s;clear s;go_wp2;go_quiet (fail);go_wp2;go_roundw
       case rel=>exact⟨k+1,_,some (k,e),by omega,by go_num,S.out.symm,V.out,rfl,by first | rfl | exact World.drewN_drewN _ _ _⟩
       case measure=>simp [intOf];omega
     | some eq=>
      obtain⟨j,a0⟩:=eq;obtain⟨fa,dz,c2,d0⟩:=bs.out j a0 rfl;have cg:=br.out j dz c2;rw [d0]at cg;have d8:=qG cg;have d9:=qG c2;have af:(encB (some (j,a0)):Int)=(j:Int):=rfl;rw [af]
      have eu:(j:Int)<(n:Int):=by omega
      have ev:¬ (j:Int)<0:=by omega
      have ew:=d8.out;have ex:=d7.out;clear c2 cg
      by_cases dp:a0<e
      ·have S:=qG (show AT.scan ((d.dif 0).take (k+1)) 0 none=some (k,e)from by rw [a4.out,<- an.out];simp only [AT.bst];rw [xj dp])
       have V:=qG (show BOK (d.told 0) (k+1) (some (k,e))from fun j m K=>by cases K;exact⟨by omega,c0,db.out,dc⟩)
       rcases s with s | s
       ·have a5:2<=(H:Int) - I:=s
        clear s;go_wp2;go_quiet (fail);go_wp2;go_roundw
        case rel=>exact⟨k+1,_,some (k,e),by omega,by go_num,S.out.symm,V.out,rfl,by first | rfl | exact World.drewN_drewN _ _ _⟩
        case measure=>simp [intOf];omega
       ·have cf:¬2<=(H:Int) - I:=by omega
        have a5:(H:Int) - I<= -2:=s;clear s;go_wp2;go_quiet (fail);go_wp2;go_roundw
        case rel=>exact⟨k+1,_,some (k,e),by omega,by go_num,S.out.symm,V.out,rfl,by first | rfl | exact World.drewN_drewN _ _ _⟩
        case measure=>simp [intOf];omega
      ·have S:=qG (show AT.scan ((d.dif 0).take (k+1)) 0 none=some (j,a0)from by rw [a4.out,<- an.out];simp only [AT.bst];rw [qT dp])
       have V:=qG (show BOK (d.told 0) (k+1) (some (j,a0))from fun e6 m K=>by cases K;exact⟨by omega,dz,d9.out,d0⟩)
       rcases s with s | s
       ·have a5:2<=(H:Int) - I:=s
        clear s;go_wp2;go_quiet (fail);go_wp2;go_roundw
        case rel=>exact⟨k+1,_,some (j,a0),by omega,by go_num,S.out.symm,V.out,rfl,by first | rfl | exact World.drewN_drewN _ _ _⟩
        case measure=>simp [intOf];omega
       ·have cf:¬2<=(H:Int) - I:=by omega
        have a5:(H:Int) - I<= -2:=s;clear s;go_wp2;go_quiet (fail);go_wp2;go_roundw
        case rel=>exact⟨k+1,_,some (j,a0),by omega,by go_num,S.out.symm,V.out,rfl,by first | rfl | exact World.drewN_drewN _ _ _⟩
        case measure=>simp [intOf];omega
    ·rw [qT s]at a4
     have S:=qG (show AT.scan ((d.dif 0).take (k+1)) 0 none=b from by rw [a4.out,<- an.out])
     have V:=qG (show BOK (d.told 0) (k+1) b from fun j m K=>by obtain⟨O,a7⟩:=bs.out j m K;exact⟨by omega,a7⟩)
     have a5:¬2<=(H:Int) - I:=by omega
     have cf:¬ (H:Int) - I<= -2:=by omega
     generalize be:encB b=e5;have ea:=qG be;clear be;go_wp2;go_roundw
     case rel=>exact⟨k+1,_,b,by omega,by go_num,S.out.symm,V.out,by rw [ea.out],rfl⟩
     case measure=>simp [intOf];omega
   ·obtain rfl:n=k:=by omega
    have Z:=an.out
    rw [xE (by rw [da.out];exact lR),AT.scan_tree]at Z
    have ey:¬ (n:Int)<(n:Int):=by omega
    by_cases ax:d.wd=0
    ·rw [xj ax]at Z
     subst Z
     have dd:U=d:=by
      cases ca.out with
      | stop _=>rfl
      | go K _=>exact absurd ax K
     have ag:=qG (show OwI (u.drewN q) base (.slice (some ⟨g,0,none⟩) n cap) (U.told 0)from(by rw [dd];exact zB c9.out (fun _ _=>rfl)))
     have eb:=qG (zG ba.out (zt u q (some g)));have af:(encB none:Int)= -1:=rfl;rw [af];clear dd ax an bs cb ak al am aj bq br;go_wp2
     refine xr (v:=.tuple #[]) (by simp [results,Tryz.results106]) rfl ⟨rfl,ag.out,eb.out⟩
    ·rw [qT ax]at Z
     obtain⟨A,l,p,i,B,e,y,bl,en,eo,d1,c3,em,X⟩:=AT.step_at d 0 ax;simp only [AT.bst,xN]at Z;subst Z
     obtain⟨ay,d2,d3⟩:∃ay,b4=ay+1∧AT.Fx d.step ay U:=by
      cases ca.out with
      | stop K=>exact absurd K ax
      | go K a7=>exact⟨_,rfl,a7⟩
     have af:∀x,(encB (some (d.wi,x)):Int)=(d.wi:Int):=fun _=>rfl
     rw [af];have ch:=F.out;rw [y]at ch;simp only [qM,AT.told_length,AT.its]at ch
     have de:d.step.its=n:=by
      have h:=AT.told_length d.step 0;rw [c3]at h;simp only [qM,AT.told_length,AT.rot_its,AT.its]at h;omega
     have df:d.told 0≠ []:=by intro h;have dg:=F.out;rw [h]at dg;simp at dg;omega
     have ci:=lv_told1 d (by omega)
     have be:0<=e∧e<=100000:=by
      obtain⟨x,b5,b8⟩:=(Sub.of (l:=l) (r:=i) (p:=p) X).mid;rw [<- y]at b5;have:=ci x (vc.2 ⟨_,b5⟩);omega
     have bu:=qG de;have bv:=qG c3;have bw:=qG d3;have dh:=qG ci
     have bf:=qG (fun q lo ei hi ej O a7=>childT u.heap.size (.slice (some ⟨g,0,none⟩) n cap) (d.told 0) (u.drewN q) (aj.out q) (by rw [F.out];omega) df lo ei hi ej O a7)
     have bx:=qG (fun q=>show OwI (u.drewN q) base (.slice (some ⟨g,0,none⟩) n cap) (d.told 0)from zB c9.out (fun _ _=>rfl))
     generalize d.wi=wi at *;have cc:=AT.ht_its l;have cd:=AT.ht_its i;clear ax d3 de en eo ci df an bs cb ca br da bq af;have bc:=qG (ak.out A B l i p e q y X wi bl)
     have bt:=qG (fun q=>al.out A B l i p e q y wi bl)
     have bd:=qG (fun q=>am.out A B l i p e q y wi bl)
     have J:=qG y;have ag:=qG X
     have ez:(wi:Int)<(n:Int):=by omega
     have e0:¬ (wi:Int)<0:=by omega
     obtain⟨W,c4⟩:∃W,W=(AT.node l p i).its:=⟨_,rfl⟩;rw [<- c4]at bc bd;have di:W=l.its+1+i.its:=c4;have ec:=qG di;have dj:=qG bl
     have bz:wi+1<=A.length+W:=by omega
     have b0:A.length+W<=n:=by omega
     have cj:A.length<=wi:=by omega
     have dk:wi=A.length+l.its:=by omega
     have a6:=qG dk;have b1:=qG d2;clear y X c4 di bl dk ch c3 d2;go_wp2_with fail;refine bc.out.mono ?_;rintro z w1 ⟨rfl,b9,rfl⟩;rw [World.drewN_drewN];generalize q+b9=a8;go_wp2_with fail;refine(bt.out a8).mono ?_;rintro z w1 ⟨rfl,rfl⟩;go_wp2_with fail;refine(bd.out a8).mono ?_;rintro z w1 ⟨rfl,rfl⟩;clear bc bt bd
     by_cases bj:i.ht<l.ht
     ·have bg:(i.ht:Int)<(l.ht:Int):=by omega
      cases l with
      | nil=>simp [AT.ht]at bj
      | node a f o=>
       have L:d.told 0=A++(AT.node a f o).told (e+1)++(⟨p,e⟩::(i.told (e+1)++B)):=J.out.trans (ZO _ _ _ _ _ _);have aa:AT.Fit A (⟨p,e⟩::(i.told (e+1)++B)) (e+1):=ag.out.ofLeft
       have ao:Sub (d.told 0) A.length (A.length+a.its) wi (e+1):=by
        have h:=Sub.of (l:=a) (r:=o) (p:=f) aa;rw [<- L,dj.out]at h;exact h
       have ap:=qG ao;have ed:=ao.ih;have aq:=qG L;have ck:=qG aa
       have M:=qG (fun q=>ak.out A _ a o f (e+1) q L aa (A.length+a.its) rfl)
       have P:=qG (fun q=>al.out A _ a o f (e+1) q L (A.length+a.its) rfl)
       have N:=qG (fun q=>am.out A _ a o f (e+1) q L (A.length+a.its) rfl)
       rw [dj.out]at M N;obtain⟨ad,ae⟩:∃ad,ad=A.length:=⟨_,rfl⟩;obtain⟨Y,ai⟩:∃Y,Y=A.length+a.its:=⟨_,rfl⟩;rw [<- ai]at M P N ap ed;rw [<- ae]at M P ap bz b0 cj;have ee:=qG ae;have cl:=qG ai;obtain⟨H,ab⟩:∃x,x=(AT.node a f o).ht:=⟨_,rfl⟩;rw [<- ab]at bg;simp only [<- ae,<- ab];obtain⟨I,ac⟩:∃x,x=i.ht:=⟨_,rfl⟩;rw [<- ac]at bg;simp only [<- ac];obtain⟨cx,c5⟩:∃x,x=a.ht:=⟨_,rfl⟩;rw [<- c5]at P;have dl:=qG c5;obtain⟨az,a1⟩:∃x,x=o.ht:=⟨_,rfl⟩;rw [<- a1]at N;have ar:=qG a1;have bh:=qG bj;clear L aa ao ae ai bj cc cd d1 ab ac c5 a1;go_wp2_with fail
       refine(bf.out a8 _ (wi+1) (ad+W) (by omega) bz (by rw [F.out];exact b0)).mono ?_
       rintro z w1 ⟨fc,rfl,_,c6,rfl⟩;rw [World.drewN_drewN];generalize a8+c6=dq;go_wp2_with fail
       refine(bf.out dq _ ad wi rfl cj (by rw [F.out];omega)).mono ?_
       rintro z w1 ⟨c,rfl,bm,ep,rfl⟩;have cm:Y=c:=(Am.root ap.out bm).symm;subst cm;rw [World.drewN_drewN];generalize dq+ep=bk;clear bm;go_wp2_with fail;refine(M.out bk).mono ?_;rintro z w1 ⟨rfl,c7,rfl⟩;rw [World.drewN_drewN];generalize bk+c7=G;go_wp2_with fail;refine(N.out G).mono ?_;rintro z w1 ⟨rfl,rfl⟩;go_wp2_with fail;refine(P.out G).mono ?_;rintro z w1 ⟨rfl,rfl⟩;clear M P N bf ak al am aj
       by_cases eg:cx<az
       ·have cn:(cx:Int)<(az:Int):=by omega
        cases o with
        | nil=>have h:=ar.out;simp [AT.ht]at h;omega
        | node C sp D=>
         have bi:(A++(AT.node a f (.node C sp D)).told (e+1)++(⟨p,e⟩::(i.told (e+1)++B))).length=n:=by rw [<- aq.out];exact F.out
         have b2:=qG (zD6 base g cap n A _ a C D sp f (e+1) (u.drewN G) bi (by rw [<- aq.out];exact bx.out G) a3.out (by omega) ck.out (by rw [<- aq.out];exact yO d (by omega)) Y cl.out)
         have co:=qG (lv_mid (S2:=.node (.node (.node a f C) sp D) p i) J.out dh.out ⟨be.1,by omega⟩ (by have h:=F.out;rw [J.out]at h;simp only [qM,AT.told_length,AT.its]at h |-;omega))
         have cp:=qG (show wi=A.length+(AT.node (.node a f C) sp D).its from(by have h:=a6.out;simp only [AT.its]at h |-;omega))
         have cq:=qG (show(A++(AT.node (.node (.node a f C) sp D) p i).told e++B).length=n from(by have h:=F.out;rw [J.out]at h;simp only [qM,AT.told_length,AT.its]at h |-;omega))
         have au:=qG (show A++(AT.node (.node a f C) sp (.node D p i)).told e++B=d.step.told 0 from(by
          rw [bv.out]
          have O:AT.rot (.node a f (.node C sp D)) p i=AT.node (.node a f C) sp (.node D p i):=by
           unfold AT.rot
           rw [xj bh.out,xj (by simp only [AT.lean];have:=dl.out;have:=ar.out;omega)]
           rfl
          rw [O]))
         clear bi;go_wp2_with fail;refine b2.out.mono ?_;rintro z bn ⟨rfl,bo,bp⟩
         have cr:=qG (show OwI bn base (.slice (some ⟨g,0,none⟩) n cap) (A++(AT.node (.node (.node a f C) sp D) p i).told e++B)from(by rw [ZO];exact bo))
         have cs:=qG (zG (zG ba.out (zt u G (some g))) bp);clear bo bp b2;go_wp2_with fail
         refine(zD5 base g cap n A B (.node a f C) D i sp p e bn cq.out cr.out a3.out (by omega) ag.out co.out wi cp.out).mono ?_
         rintro z a2 ⟨rfl,Q,R⟩
         have av:=qG (show OwI a2 base (.slice (some ⟨g,0,none⟩) n cap) (d.step.told 0)from(by rw [<- au.out];exact Q))
         have aw:=qG (zG cs.out R);clear Q R;go_wp2;go_roundw
         case rel=>exact⟨r+1,ay,d.step,by go_num,by have:=b1.out;omega,bu.out,bw.out,av.out,aw.out⟩
         case measure=>simp [intOf];omega
       ·have cn:¬ (cx:Int)<(az:Int):=by omega
        have cp:=qG (show wi=A.length+(AT.node a f o).its from a6.out)
        have au:=qG (show A++(AT.node a f (.node o p i)).told e++B=d.step.told 0 from(by
         rw [bv.out]
         have O:AT.rot (.node a f o) p i=AT.node a f (.node o p i):=by
          unfold AT.rot
          rw [xj bh.out,qT (by simp only [AT.lean];have:=dl.out;have:=ar.out;omega)]
          rfl
         rw [O]))
        have b3:=qG (zD5 base g cap n A B a o i f p e (u.drewN G) (by rw [<- J.out];exact F.out) (by rw [<- J.out];exact bx.out G) a3.out (by omega) ag.out (by rw [<- J.out];exact yO d (by omega)) wi cp.out)
        go_wp2_with fail;refine b3.out.mono ?_;rintro z a2 ⟨rfl,Q,R⟩
        have av:=qG (show OwI a2 base (.slice (some ⟨g,0,none⟩) n cap) (d.step.told 0)from(by rw [<- au.out];exact Q))
        have aw:=qG (zG (zG ba.out (zt u G (some g))) R);clear Q R;go_wp2;go_roundw
        case rel=>exact⟨r+1,ay,d.step,by go_num,by have:=b1.out;omega,bu.out,bw.out,av.out,aw.out⟩
        case measure=>simp [intOf];omega
     ·have bg:¬ (i.ht:Int)<(l.ht:Int):=by omega
      have dm:l.ht+2<=i.ht:=by omega
      cases i with
      | nil=>simp [AT.ht]at dm
      | node o f t=>
       obtain⟨E,a9⟩:∃E,E=A++l.told (e+1)++ [⟨p,e⟩]:=⟨_,rfl⟩
       have L:d.told 0=E++(AT.node o f t).told (e+1)++B:=by rw [a9];exact J.out.trans (jU _ _ _ _ _ _)
       have aa:AT.Fit E B (e+1):=by rw [a9];exact ag.out.ofRight
       have ct:E.length=wi+1:=by rw [a9];simp only [qM,AT.told_length,q9,xC];have:=a6.out;omega
       have cu:E.length+(AT.node o f t).its=A.length+W:=by have O:=ec.out;have a7:=a6.out;simp only [AT.its]at O |-;omega
       have ao:Sub (d.told 0) (wi+1) (E.length+o.its) (A.length+W) (e+1):=by
        have h:=Sub.of (l:=o) (r:=t) (p:=f) aa;rw [<- L,cu,ct]at h;rw [ct];exact h
       have ap:=qG ao;have aq:=qG L;have ck:=qG aa
       have M:=qG (fun q=>ak.out E _ o t f (e+1) q L aa (E.length+o.its) rfl)
       have P:=qG (fun q=>al.out E _ o t f (e+1) q L (E.length+o.its) rfl)
       have N:=qG (fun q=>am.out E _ o t f (e+1) q L (E.length+o.its) rfl)
       rw [cu]at M N
       have e1:=qG (show A++(AT.node l p (.node o f t)).told e++B=E++(AT.node o f t).told (e+1)++B from(by rw [a9];exact jU _ _ _ _ _ _))
       have ef:=qG (fun dr=>show A++(AT.node l p dr).told e++B=E++dr.told (e+1)++B from(by rw [a9];exact jU _ _ _ _ _ _))
       obtain⟨ad,ae⟩:∃ad,ad=A.length:=⟨_,rfl⟩;obtain⟨lb,d4⟩:∃lb,lb=E.length:=⟨_,rfl⟩;obtain⟨Y,ai⟩:∃Y,Y=E.length+o.its:=⟨_,rfl⟩;rw [<- ai]at M P N ap;rw [<- d4]at M P;rw [<- ae]at M N ap bz b0 cj;have ee:=qG ae;have cl:=qG ai;obtain⟨H,ab⟩:∃x,x=l.ht:=⟨_,rfl⟩;rw [<- ab]at bg;simp only [<- ae,<- ab];obtain⟨I,ac⟩:∃x,x=(AT.node o f t).ht:=⟨_,rfl⟩;rw [<- ac]at bg;simp only [<- ac];obtain⟨az,a1⟩:∃x,x=o.ht:=⟨_,rfl⟩;rw [<- a1]at P;have ar:=qG a1;obtain⟨cy,c8⟩:∃x,x=t.ht:=⟨_,rfl⟩;rw [<- c8]at N;have dn:=qG c8;have bh:=qG bj
       have e2:lb<=n:=by omega
       have e3:(Y:Int)<(n:Int):=by have h:=ao.ih;rw [<- ai]at h;omega
       clear L aa ao ae d4 ai bj cc cd d1 dm ab ac a1 c8 a9 ct cu;go_wp2_with fail
       refine(bf.out a8 _ (wi+1) (ad+W) (by omega) bz (by rw [F.out];exact b0)).mono ?_
       rintro z w1 ⟨c,rfl,bm,c6,rfl⟩;have cm:Y=c:=(Am.root ap.out bm).symm;subst cm;rw [World.drewN_drewN];generalize a8+c6=bk;clear bm;go_wp2_with fail;refine(M.out bk).mono ?_;rintro z w1 ⟨rfl,c7,rfl⟩;rw [World.drewN_drewN];generalize bk+c7=G;go_wp2_with fail;refine(N.out G).mono ?_;rintro z w1 ⟨rfl,rfl⟩;go_wp2_with fail;refine(P.out G).mono ?_;rintro z w1 ⟨rfl,rfl⟩;clear M P N bf ak al am aj
       by_cases eg:cy<az
       ·have cn:(cy:Int)<(az:Int):=by omega
        cases o with
        | nil=>have h:=ar.out;simp [AT.ht]at h;omega
        | node C sp D=>
         have bi:(E++(AT.node (.node C sp D) f t).told (e+1)++B).length=n:=by rw [<- aq.out];exact F.out
         have b3:=qG (zD5 base g cap n E B C D t sp f (e+1) (u.drewN G) bi (by rw [<- aq.out];exact bx.out G) a3.out (by omega) ck.out (by rw [<- aq.out];exact yO d (by omega)) Y cl.out)
         have co:=qG (lv_mid (S2:=.node l p (.node C sp (.node D f t))) J.out dh.out ⟨be.1,by omega⟩ (by have h:=F.out;rw [J.out]at h;simp only [qM,AT.told_length,AT.its]at h |-;omega))
         have cq:=qG (show(A++(AT.node l p (.node C sp (.node D f t))).told e++B).length=n from(by have h:=F.out;rw [J.out]at h;simp only [qM,AT.told_length,AT.its]at h |-;omega))
         have au:=qG (show A++(AT.node (.node l p C) sp (.node D f t)).told e++B=d.step.told 0 from(by
          rw [bv.out]
          have O:AT.rot l p (.node (.node C sp D) f t)=AT.node (.node l p C) sp (.node D f t):=by
           unfold AT.rot
           rw [qT bh.out,xj (by simp only [AT.lean];have:=dn.out;have:=ar.out;omega)]
           rfl
          rw [O]))
         clear bi;go_wp2_with fail;refine b3.out.mono ?_;rintro z bn ⟨rfl,bo,bp⟩
         have cr:=qG (show OwI bn base (.slice (some ⟨g,0,none⟩) n cap) (A++(AT.node l p (.node C sp (.node D f t))).told e++B)from(by rw [ef.out];exact bo))
         have cs:=qG (zG (zG ba.out (zt u G (some g))) bp);clear bo bp b3;go_wp2_with fail
         refine(zD6 base g cap n A B l C (.node D f t) sp p e bn cq.out cr.out a3.out (by omega) ag.out co.out wi a6.out).mono ?_
         rintro z a2 ⟨rfl,Q,R⟩
         have av:=qG (show OwI a2 base (.slice (some ⟨g,0,none⟩) n cap) (d.step.told 0)from(by rw [<- au.out];exact Q))
         have aw:=qG (zG cs.out R);clear Q R;go_wp2;go_roundw
         case rel=>exact⟨r+1,ay,d.step,by go_num,by have:=b1.out;omega,bu.out,bw.out,av.out,aw.out⟩
         case measure=>simp [intOf];omega
       ·have cn:¬ (cy:Int)<(az:Int):=by omega
        have au:=qG (show A++(AT.node (.node l p o) f t).told e++B=d.step.told 0 from(by
         rw [bv.out]
         have O:AT.rot l p (.node o f t)=AT.node (.node l p o) f t:=by
          unfold AT.rot
          rw [qT bh.out,qT (by simp only [AT.lean];have:=dn.out;have:=ar.out;omega)]
          rfl
         rw [O]))
        have b2:=qG (zD6 base g cap n A B l o t f p e (u.drewN G) (by rw [<- J.out];exact F.out) (by rw [<- J.out];exact bx.out G) a3.out (by omega) ag.out (by rw [<- J.out];exact yO d (by omega)) wi a6.out)
        go_wp2_with fail;refine b2.out.mono ?_;rintro z a2 ⟨rfl,Q,R⟩
        have av:=qG (show OwI a2 base (.slice (some ⟨g,0,none⟩) n cap) (d.step.told 0)from(by rw [<- au.out];exact Q))
        have aw:=qG (zG (zG ba.out (zt u G (some g))) R);clear Q R;go_wp2;go_roundw
        case rel=>exact⟨r+1,ay,d.step,by go_num,by have:=b1.out;omega,bu.out,bw.out,av.out,aw.out⟩
        case measure=>simp [intOf];omega
theorem copyS (ys:List It) (b o cap:Nat) (w:World) (m:∀j u,(itVs ys)[j]? =some u->w.cell? ((⟨b,o,none⟩:Addr).add j)=some u) (x:b<w.heap.size) (z:ys.length<=1048576):
  Calls Tryz.prog 66 #[.slice (qK b o) ys.length cap] w fun e w'=>∃g cp,e= .returned (.slice (qK g 0) ys.length cp)∧OwI w' w.heap.size (.slice (qK g 0) ys.length cp) ys∧Below w.heap.size w w':=by
 skip
 have f:=qG (show(w.alloc (.cells #[] 71)).ownsRow w.heap.size 71 4 (.slice (qK w.heap.size 0) 0 0) 0 []from⟨rfl,.inr ⟨_,0,#[],rfl,lR,xm _ _,lR,by unfold maxLen;omega,rfl,rfl⟩⟩)
 have a:=qG ((qO w.heap.size w).alloc lR (.cells #[] 71))
 have RC:=qG (show ∀j u,(itVs ys)[j]? =some u->(w.alloc (.cells #[] 71)).cell? ((⟨b,o,none⟩:Addr).add j)=some u from fun j u t=>by
  have h:=m j u t;rw [zK]at h |-
  exact(a.cell (p:=⟨b,o+j,none⟩) x).trans h)
 have y:=a.size;clear m;go_enter Tryz.func66,Tryz.ntmps66
 go_wp2_with (at_builtin;refine a26 _ rfl _ _ rfl w.heap.size _ _ _ rfl (by exact f) ⟨b,o,none⟩ ys.length cap (itVs ys) rfl (zH ys) (by exact RC) (zU ys) (by unfold maxLen;omega) (by omega) (by omega) ?_;intro i s d k l;have n:=qG (a.trans ((qO w.heap.size _).grown k (by omega) (zBc f))))
 rw [xN,xJ]at d;have c:OwI s w.heap.size i ys:=d
 obtain⟨g,cp,rfl⟩:∃g cp,i= .slice (qK g 0) ys.length cp:=by
  rcases c.2 with ⟨rfl,_⟩ | ⟨g,cp,A,rfl,_⟩
  ·exact absurd (l.1 rfl).1 (fun v=>by have q:Value.slice (qK w.heap.size 0) 0 0= .slice none 0 0:=v;cases q)
  ·exact⟨_,_,rfl⟩
 have r:=qG c;clear d k c l;go_wp2;go_ret;exact⟨g,cp,rfl,r,n⟩
theorem zEs:∀ (Y:List It) (k:Nat) (y:It) (q:Pc),Y[k]? =some y->(((itVs Y).set (k*4) (qJ q.off)).set (k*4+1) (qJ q.len)).set (k*4+2) (qJ q.brk)=itVs (Y.set k ⟨q,y.lv⟩)
 | [],k,y,q,a=>by simp at a
 | x::Y,0,y,q,a=>by
  simp only [kz,xw]at a;subst a;simp [itVs,itV]
 | x::Y,k+1,y,q,a=>by
  simp only [vh]at a;have b:=zEs Y k y q a
  have e:itVs (x::Y)=itV x++itVs Y:=by simp [itVs]
  have c:itVs ((x::Y).set (k+1) ⟨q,y.lv⟩)=itV x++itVs (Y.set k ⟨q,y.lv⟩):=by simp [itVs]
  have d:(itV x).length=4:=rfl
  rw [e,c,<- b,vS _ _ (by omega),vS _ _ (by omega),vS _ _ (by omega),d,show(k+1)*4 - 4=k*4 by omega,show(k+1)*4+1 - 4=k*4+1 by omega,show(k+1)*4+2 - 4=k*4+2 by omega]
theorem OwI.setPc {w:World} {base g cap n:Nat} {Y:List It} (d:w.ownsRow base 71 4 (.slice (qK g 0) n cap) n (itVs Y)) {k:Nat} {y:It} (e:Y[k]? =some y) (q:Pc):(((w.setCell ⟨g,k*4,none⟩ (qJ q.off)).setCell ⟨g,k*4+1,none⟩ (qJ q.len)).setCell ⟨g,k*4+2,none⟩ (qJ q.brk)).ownsRow base 71 4 (.slice (qK g 0) n cap) n (itVs (Y.set k ⟨q,y.lv⟩))∧w.grownBy (((w.setCell ⟨g,k*4,none⟩ (qJ q.off)).setCell ⟨g,k*4+1,none⟩ (qJ q.len)).setCell ⟨g,k*4+2,none⟩ (qJ q.brk)) (some g):=by
 have b:=d.stored (k*4) (qJ q.off);have c:=b.1.stored (k*4+1) (qJ q.len);have a:=c.1.stored (k*4+2) (qJ q.brk);rw [zEs Y k y q e]at a;exact⟨a.1,zG (zG b.2 c.2) a.2⟩
theorem OwI.c3 {w:World} {base g cap n:Nat} {Y:List It} (d:w.ownsRow base 71 4 (.slice (qK g 0) n cap) n (itVs Y)) {k:Nat} {y:It} (b:Y[k]? =some y):w.cell? ⟨g,k*4,none⟩=some (qJ y.pc.off)∧w.cell? ⟨g,k*4+1,none⟩=some (qJ y.pc.len)∧w.cell? ⟨g,k*4+2,none⟩=some (qJ y.pc.brk):=by
 have f:k<Y.length:=by
  rcases xS k Y.length with g | g
  ·exact g
  ·rw [xQ g]at b;cases b
 have e:itVs Y=itVs (Y.take k)++itV y++itVs (Y.drop (k+1)):=by
  have h:Y=Y.take k++ [y]++Y.drop (k+1):=by
   have i:Y[k]=y:=by rw [qY f]at b;exact vF b
   rw [xq,List.singleton_append,<- i,<- ko f,xG]
  conv=>lhs;rw [h]
  rw [zS,zS];simp [itVs]
 have l:(itVs (Y.take k)).length=k*4:=by rw [zH,qN];omega
 have m:(itV y).length=4:=rfl
 have c:∀j,j<4->(itVs Y)[k*4+j]? =(itV y)[j]?:=by
  intro j o
  rw [e,xq,xe (by omega),l,show k*4+j - k*4=j by omega,xA (by omega)]
 refine⟨?_,?_,?_⟩
 ·have a:=d.cells (g:=g) rfl (k*4+0) _ ((c 0 (by omega)).trans rfl)
  rw [zK,xN]at a;exact a
 ·have a:=d.cells (g:=g) rfl (k*4+1) _ ((c 1 (by omega)).trans rfl)
  rw [zK,xN]at a;exact a
 ·have a:=d.cells (g:=g) rfl (k*4+2) _ ((c 2 (by omega)).trans rfl)
  rw [zK,xN]at a;exact a
theorem copyS0 (w:World):Calls Tryz.prog 66 #[.slice none 0 0] w fun e w'=>∃g cp,e= .returned (.slice (qK g 0) 0 cp)∧OwI w' w.heap.size (.slice (qK g 0) 0 cp) []∧Below w.heap.size w w':=by
 obtain⟨c,hi,d,f,h⟩:=xM Tryz.qk
 have a:=qG (show(w.alloc (.cells #[] 71)).ownsRow w.heap.size 71 4 (.slice (qK w.heap.size 0) 0 0) 0 []from⟨rfl,.inr ⟨_,0,#[],rfl,lR,xm _ _,lR,by unfold maxLen;omega,rfl,rfl⟩⟩)
 have b:=qG ((qO w.heap.size w).alloc lR (.cells #[] 71));go_enter Tryz.func66,Tryz.ntmps66;go_wp2_with (at_builtin;refine wpList_append_own_none rfl _ _ 26 rfl w.heap.size 71 c 4 Tryz.underlying26 hi _ _ _ rfl a rfl ?_);go_ret;exact⟨_,_,rfl,a,b⟩
theorem copyA (ys:List It) (v:Value) (base:Nat) (w:World) (a:OwI w base v ys) (c:ys.length<=1048576):
  Calls Tryz.prog 66 #[v] w fun e w'=>∃g cp,e= .returned (.slice (qK g 0) ys.length cp)∧OwI w' w.heap.size (.slice (qK g 0) ys.length cp) ys∧Below w.heap.size w w':=by
 rcases a.shape with ⟨rfl,rfl⟩ | ⟨g,cap,rfl,_,_,_,d⟩
 ·exact copyS0 w
 ·exact copyS ys g 0 cap w (fun j u b=>a.cells j u b) d c
end Go.Proofs.YtljdnoinennfaaaGreatDoor

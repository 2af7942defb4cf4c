import Derived.Test.YtmjanhcplcalfaaGreatDoorMq19
set_option linter.all false
set_option maxRecDepth 100000
set_option maxHeartbeats 8000000
namespace Go.Proofs.YtmjanhcplcalfaaGreatDoor
open Go Go.RowKit Go.Proofs.Tryz
theorem plainRowsO (L:List (List Int)) (B:List Int) (gl o af:Nat) (ag:Value) (w:World) (m:Nat) (R:L.length=m+1) (br:gl<w.heap.size) (b4:m+1<=af) (bs:af<=maxLen) (ax:∀k,k<m+1->∃v l,L[k]? =some l∧Sl .i32 w v l∧w.cell? ⟨gl,o+k,none⟩=some v) (ht:Sl .i32 w ag B) (b5:m+1<=1048577) (ay:∀l∈L,l.length<=1048576) (bt:B.length<=1048576):
  Calls prog 60 #[.slice (qK gl o) (m+1) af,ag] w fun e w'=>∃bp,e= .returned (.slice (qK w.heap.size 0) (m+1) (m+1))∧OwG 118 w' w.heap.size w'.heap.size (.slice (qK w.heap.size 0) (m+1) (m+1)) bp (plR L B)∧Below w.heap.size w w':=by
 obtain⟨bu,hi,bv,bw,bx⟩:=vc Tryz.qx;have a0:=qG ax;have a1:=qG ht;have a2:=qG (fun(k:Nat) (l:List Int) (bq:L[k]? =some l)=>ay l (qT bq))
 have a3:∃at_ s t,ag= .slice at_ s t:=by
  rcases ht with ⟨q,_⟩ | ⟨_,_,_,q,_⟩<;>exact⟨_,_,_,q⟩
 obtain⟨at_,s,t,rfl⟩:=a3;have a4:=qG R;unfold maxLen at bs;have a5:=qG (Y2 R);have a6:=qG (zCi R);clear ax ht ay R;go_enter func60,ntmps60;go_wp2_with (at_make;refine kz _ rfl _ _ 113 rfl w.heap.size 118 bu (.agg #[.slice none 0 0,qJ 0,qJ 0]) 3 underlying113 hi bv bw .i64 .i64 _ _ (m+1) rfl rfl (by omega) (by omega) (by rw [bx];omega) (by unfold maxLen;omega) lR ?_;intro w1 Q aq);rw [JF]at Q;have a7:=qG ((qO w.heap.size w).grown aq lR (fun k av=>by cases av));have a8:=qG (show OwG 118 w1 w.heap.size w1.heap.size (.slice (qK w.heap.size 0) (m+1) (m+1)) (List.replicate (m+1) (.slice none 0 0)) (List.replicate (m+1) nilG)from⟨by rw [qQ];exact Q,fun q b=>(Q.lt q b).2,Nest.nils _ _ _ _⟩);clear Q aq
 go_loopw [19] (fun i wr=>∃k:Nat,k<=m∧i=qJ k∧Below w.heap.size w wr∧∃J:List Value,J.length=k∧OwG 118 wr w.heap.size wr.heap.size (.slice (qK w.heap.size 0) (m+1) (m+1)) (J++List.replicate (m+1 - k) (.slice none 0 0)) ((L.take k).map plG++List.replicate (m+1 - k) nilG))
  (fun i _=>m - (intOf i).toNat)
 case atStart=>exact⟨0,xX _,rfl,a7.out,[],rfl,by simpa using a8.out⟩
 obtain⟨k,av,rfl,C,J,ah,S⟩:=hrel;have V:=qG C;have aj:=C.size;obtain⟨v,l,T,U,ai⟩:=a0.out k (by omega);have b2:=(C.cell (p:=⟨gl,o+k,none⟩) br).trans ai;have ak:=a2.out k l T;have N:(L.take k).length=k:=by rw [qN,a4.out];omega
 have O:∀ (aw:Type) (x:aw),List.replicate (m+1 - k) x=x::List.replicate (m+1 - (k+1)) x:=fun aw x=>by rw [show m+1 - k=(m+1 - (k+1))+1 by omega,k7]
 rw [O,O]at S;have W:((L.take k).map plG++nilG::List.replicate (m+1 - (k+1)) nilG).length=m+1:=by simp only [qM,xE,N,xe,qQ];omega
 have al:=qG (U.below C);have P:=qG S;have z:=qG W;have A:=qG N;have D:=qG ah;have am:=qG T
 have a9:∃a d c,v= .slice a d c:=by
  rcases U with ⟨q,_⟩ | ⟨_,_,_,q,_⟩<;>exact⟨_,_,_,q⟩
 obtain⟨a,d,c,rfl⟩:=a9;have Y:=qG ((qO wr.heap.size wr).alloc lR (.cells #[.slice a d c] 25));have an:(wr.alloc (.cells #[.slice a d c] 25)).cell? ⟨wr.heap.size,0,none⟩=some (.slice a d c):=by simp
 have ao:(wr.alloc (.cells #[.slice a d c] 25)).heap.size=wr.heap.size+1:=by simp
 by_cases b3:k<m
 ·have E:=qG (zF3 l _ _ _ (al.out.below Y.out) (by rw [ao];omega) an ak)
  have ba:(k:Int)<m:=(by omega);clear S C ai U T ah N W O;go_wp2_with fail;generalize wr.alloc (.cells #[.slice a d c] 25)=bo at *
  refine E.out.mono ?_;rintro e K ⟨az,rfl,n,M⟩;obtain⟨u,y,rfl⟩:=yG n;have Z:=qG n;have F:=qG (Y.out.trans (M.mono (by omega)));have G:=qG (fun q (b:(Value.slice u l.length y).ownBlock=some q)=>(n.lt q b));clear n M E;go_wp2_with fail;refine(plain32N u l.length y K).mono ?_;rintro e g ⟨rfl,r⟩;have bc:=r.size;have bd:=F.out.size;have H:=qG (F.out.trans (r.mono (by omega)));have I:=zB Z.out r lR;have h:=P.out.frame (w':=g) (fun q _ b=>H.out.block q b);have j:=h.store (hi':=g.heap.size) l.length l.length z.out (by rw [D.out,xE,A.out]) (zD I (by omega)) (fun q b=>by have:=G.out q b;omega) (fun q b=>by have:=G.out q b;omega) (by omega) (by decide);have aa:=h.cells z.out (i:=k) (yE (by rw [xE,A.out])) (yE D.out);have f:=h.row;rw [z.out]at f;have be:g.frozen? ⟨w.heap.size,k*3,none⟩=false:=f.frozenAt _;have bf:g.frozen? ⟨w.heap.size,k*3+1,none⟩=false:=f.frozenAt _;have bg:g.frozen? ⟨w.heap.size,k*3+2,none⟩=false:=f.frozenAt _;obtain⟨bz,b0,b1⟩:=aa;rw [xE,A.out]at j;have ab:=qG j.1;have ac:=qG ((V.out.trans (H.out.mono aj)).grown j.2 (by omega) (fun q b=>by cases b;exact lR));clear r I h j f P;go_wp2;go_roundw
  case rel=>
   refine⟨k+1,by omega,by go_num,ac.out,J++ [.slice u l.length y],by simp [D.out],?_⟩;rw [vT,am.out];have:=ab.out;simp only [Qc,vz,vL,List.map_nil,xj,xv,xH];exact this.mono lR (by simp)
  simp [intOf];omega
 obtain rfl:k=m:=by omega
 have ba:¬ (k:Int)<k:=by omega
 have ad:=qG ((qO wr.heap.size wr).alloc lR (.cells #[.slice a d c,.slice at_ s t] 25));have bh:(wr.alloc (.cells #[.slice a d c,.slice at_ s t] 25)).cell? ⟨wr.heap.size,0,none⟩=some (.slice a d c):=by simp
 have bi:(wr.alloc (.cells #[.slice a d c,.slice at_ s t] 25)).cell? ⟨wr.heap.size,1,none⟩=some (.slice at_ s t):=by simp
 have bj:(wr.alloc (.cells #[.slice a d c,.slice at_ s t] 25)).heap.size=wr.heap.size+1:=by simp
 have cc:=Ji l B _ _ _ _ (al.out.below ad.out) ((a1.out.below V.out).below ad.out) (by rw [bj];omega) bh bi ak bt;generalize ar:l++B=X at cc;have bk:=qG ar;have E:=qG cc;clear cc ar;clear S C ai U T ah N W O an ao Y;go_wp2_with fail;generalize wr.alloc (.cells #[.slice a d c,.slice at_ s t] 25)=bo at *
 refine E.out.mono ?_;rintro e K ⟨az,rfl,n,M⟩;obtain⟨u,y,rfl⟩:=yG (show o32 K _ az X from n);have Z:=qG (show o32 K _ _ X from n);have F:=qG (ad.out.trans (M.mono (by omega)));have G:=qG (fun q (b:(Value.slice u X.length y).ownBlock=some q)=>(n.lt q b));clear n M E;go_wp2_with fail;refine(plain32N u X.length y K).mono ?_;rintro e g ⟨rfl,r⟩;have bc:=r.size;have bd:=F.out.size;have H:=qG (F.out.trans (r.mono (by omega)));have I:=zB Z.out r lR;have h:=P.out.frame (w':=g) (fun q _ b=>H.out.block q b);have j:=h.store (hi':=g.heap.size) X.length X.length z.out (by rw [D.out,xE,A.out]) (zD I (by omega)) (fun q b=>by have:=G.out q b;omega) (fun q b=>by have:=G.out q b;omega) (by omega) (by decide);have aa:=h.cells z.out (i:=k) (yE (by rw [xE,A.out])) (yE D.out);have f:=h.row;rw [z.out]at f;have be:g.frozen? ⟨w.heap.size,k*3,none⟩=false:=f.frozenAt _;have bf:g.frozen? ⟨w.heap.size,k*3+1,none⟩=false:=f.frozenAt _;have bg:g.frozen? ⟨w.heap.size,k*3+2,none⟩=false:=f.frozenAt _;obtain⟨bz,b0,b1⟩:=aa;rw [xE,A.out]at j;have ab:=qG j.1;have ac:=qG ((V.out.trans (H.out.mono aj)).grown j.2 (by omega) (fun q b=>by cases b;exact lR));generalize au:X.length=ae at *
 have bl:=qG au;clear r I h j f P au;go_wp2;go_ret;refine⟨J++ [.slice u ae y],rfl,?_,ac.out⟩;have ap:=ab.out;rw [show k+1 - (k+1)=0 by omega]at ap;have bm:L.getLastD []=l:=by have:=a6.out;rw [am.out]at this;exact(vA this).symm
 have bn:plR L B=(L.take k).map plG++ [⟨X,ae,ae⟩]:=by rw [plR,a5.out,bm,bk.out];simp only [plG,bl.out]
 rw [bn];exact ap.mono lR (by simp)
theorem sAt_cons (a:List Int) (L:List (List Int)) (j:Nat):sAt (a::L) (j+1)=a.length+1+sAt L j:=by
 unfold sAt;simp only [vQ,smL];omega
theorem zCn:∀ {L:List (List Int)} {j:Nat} {l:List Int},L[j]? =some l->∃A B,jn L=A++(l++B)∧A.length=sAt L j∧(j+1<L.length->∃B',B=10::B')∧(L.length<=j+1->B= [])
 | [],j,l,c=>by simp at c
 | [a],j,l,c=>by
  cases j with
  | zero=>
   simp at c;subst c;exact⟨[],[],by simp [jn,jt],by simp [sAt,smL],by simp,by simp⟩
  | succ j=>simp at c
 | a::b::L,j,l,c=>by
  have d:jn (a::b::L)=a++10::jn (b::L):=(by simp [jn,jt]);cases j with
  | zero=>
   simp at c;subst c;exact⟨[],10::jn (b::L),by rw [d];simp,by simp [sAt,smL],fun _=>⟨_,rfl⟩,by simp⟩
  | succ j=>
   simp only [xY]at c;obtain⟨A,B,e,f,g,h⟩:=zCn (L:=b::L) c;refine⟨a++10::A,B,by rw [d,e];simp,by rw [sAt_cons,<- f];simp;omega,fun q=>g (by simp at q |-;omega),fun q=>h (by simp at q |-;omega)⟩
theorem zE4 {L:List (List Int)} {j lo hi:Nat} {l:List Int} (m:L[j]? =some l) (p:sAt L j<hi) (e:hi<=(jn L).length):
  (lo<=sAt L j+l.length->((jn L).take (min hi (sAt L j))).drop lo++(l.drop (lo - sAt L j)).take (min hi (sAt L j+l.length) - sAt L j - (lo - sAt L j))++(if sAt L j+l.length<hi then [10]else [])=((jn L).take (min hi (sAt L j+l.length+1))).drop lo)∧
  (¬lo<=sAt L j+l.length->((jn L).take (min hi (sAt L j+l.length+1))).drop lo=((jn L).take (min hi (sAt L j))).drop lo):=by
 obtain⟨A,B,f,b,n,o⟩:=zCn m
 have g:sAt L j+l.length<hi->∃B',B=10::B':=by
  intro q;rcases xR (j+1) L.length with r | r
  ·exact n r
  have:=o r;rw [f,this]at e;simp at e;omega
 generalize sAt L j=s at *
 rw [f];have h:(A++(l++B)).take (min hi s)=A:=by rw [Nat.min_eq_right (by omega),ku b]
 rw [h];constructor
 ·intro i
  by_cases d:s+l.length<hi
  ·obtain⟨B',rfl⟩:=g d
   rw [xd d,Nat.min_eq_right (show s+l.length+1<=hi by omega),Nat.min_eq_right (show s+l.length<=hi by omega)]
   have c:(A++(l++10::B')).take (s+l.length+1)=A++(l++ [10]):=by
    rw [show A++(l++10::B')=(A++(l++ [10]))++B' by simp];exact ku (by simp [b];omega)
   rw [c];by_cases k:lo<=s
   ·rw [xS (by omega),show lo - s=0 by omega,vH,xu (by omega)]
    simp
   have a:A.drop lo= []:=vJ (by omega);rw [a,xu (by rw [qR];omega),kI,a,b,xS (by omega)];simp
  rw [qZ d,ve (show hi<=s+l.length+1 by omega),ve (show hi<=s+l.length by omega),jd]
  have c:(A++(l++B)).take hi=A++l.take (hi - s):=by
   rw [List.take_append,xu (by omega),b,xI (by omega)]
  rw [c];by_cases k:lo<=s
  ·rw [xS (by omega),show lo - s=0 by omega,vH,Nat.sub_zero]
  have a:A.drop lo= []:=vJ (by omega);rw [kI,a,b,xH,xH,List.drop_take]
 intro i;have a:A.drop lo= []:=vJ (by omega);rw [a];exact vJ (by rw [qN];omega)
end Go.Proofs.YtmjanhcplcalfaaGreatDoor

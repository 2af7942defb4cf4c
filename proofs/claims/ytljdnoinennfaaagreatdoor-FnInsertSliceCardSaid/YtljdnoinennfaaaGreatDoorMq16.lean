import Derived.Test.YtljdnoinennfaaaGreatDoorMq08
import Derived.Test.YtljdnoinennfaaaGreatDoorMq09
set_option linter.all false
set_option maxRecDepth 100000
set_option maxHeartbeats 8000000
namespace Go.Proofs.YtljdnoinennfaaaGreatDoor
open Go Go.RowKit
theorem Yc {F:List Pc} (b:∀p∈F,1<=p.len) {i j:Nat} (c:i<=j):lsum (F.take i)<=lsum (F.take j):=by
 have e:F.take j=F.take i++(F.take j).drop i:=by
  rw [show F.take i=(F.take j).take i by rw [kH,vG c],xG]
 rw [e,zO]
 have:=ZJ (F:=(F.take j).drop i) (fun p a=>b p (xI (xX a)))
 omega
theorem zA6 {F:List Pc} (a:∀p∈F,1<=p.len) {i j:Nat} (d:i<j) (g:j<=F.length):lsum (F.take i)<lsum (F.take j):=by
 have b:=Yc a (show i+1<=j from d)
 have c:F[i]? =some F[i]:=qY (by omega)
 have f:=a _ (xg c)
 have e:F.take (i+1)=F.take i++ [F[i]]:=(List.take_append_getElem (by omega)).symm
 rw [e,zO,zJ,jc]at b;omega
theorem zB4 {S:List Int} {T:AT} {off:Int} (a:T.ok) (b:0<=off) (c:off<=T.rns):(cutP S T off).rns=T.rns:=by
 rw [AT.qe,Z8 a b c,<- AT.qe]
theorem cut_keep {S:List Int} {T:AT} {a:Nat} {lo hi:Int} (c:T.ok) (e:0<=hi) (f:hi<=T.rns) (n:a<=T.its) (o:lsum (T.flat.take a)=lo) (p:lo<=hi):
  a<=cutN T hi∧(cutP S T hi).flat.take a=T.flat.take a:=by
 obtain⟨r,i,j⟩:=sk_at c e f;have d:=yu c;have k:=AT.qf T
 by_cases b:skI T hi=0
 ·rw [cutN,xj b,cutP,xj b]
  refine⟨?_,rfl⟩
  rcases xS (skR T hi) a with q | q
  ·have:=zA6 d q (by omega)
   omega
  ·omega
 ·obtain⟨s,t,g⟩:=j.resolve_left b
  have l:=(zX g).2
  have m:lsum (T.flat.take (skR T hi+1))=hi - skI T hi+(skP T hi).len:=by
   conv=>lhs;rw [(zX g).1]
   rw [jd _ _ _ _ (by rw [qN];omega),zO,zJ,jc,i]
   omega
  have h:a<=skR T hi:=by
   rcases xS (skR T hi) a with q | q
   ·have:=Yc d (show skR T hi+1<=a from q)
    omega
   ·exact q
  refine⟨by rw [cutN,qT b];omega,?_⟩
  rw [yL c e f b,xW (by rw [qN];omega),kH,vG h]
def atP (T:AT) (R:Nat):Pc:=T.flat.getD R ⟨0,0,0⟩
theorem zA7 {T:AT} {R:Nat} (a:R<T.its):T.flat[R]? =some (atP T R):=by
 have:=AT.qf T
 rw [atP,qW,qY (by omega)]
 rfl
def healB (T:AT) (R:Nat):Bool:=decide ((0<R∧R<T.its)∧(ahead T R).off+(ahead T R).len=(atP T R).off)
def healP (S:List Int) (T:AT) (R:Nat):AT:=
 if healB T R=true then(T.put (R - 1) (pcAt S (ahead T R).off ((ahead T R).len+(atP T R).len))).rem R else T
theorem zCr {F:List Pc} {R:Nat} {p q:Pc} (f:0<R) (d:F[R - 1]? =some p) (b:F[R]? =some q):F=F.take (R - 1)++p::q::F.drop (R+1):=by
 have a:=(zX d).1;have c:=(zX b)
 rw [show R - 1+1=R by omega]at a
 have e:F.drop R=q::F.drop (R+1):=by
  rw [ko c.2]
  congr 1
  rw [qY c.2]at b;exact vF b
 rw [e]at a;exact a
theorem put_okH {S:List Int} {T:AT} {R:Nat} (c:T.ok) (j:T.wp S) (k:S.length<=220000) (d:healB T R=true) (o:T.rns+(atP T R).len<=16384):
  (∀p∈(T.put (R - 1) (pcAt S (ahead T R).off ((ahead T R).len+(atP T R).len))).flat,pcOk p=true):=by
 simp only [healB,qZ]at d
 have f:=yS (T:=T) (R:=R) d.1.1 (by omega)
 have a:=zA7 (T:=T) (R:=R) d.1.2;have h:=c.1 _ (xg f);have i:=c.1 _ (xg a);simp only [pcOk,qZ]at h i;have l:=((zW S T).1 j _ (xg a)).2.2.1;have e:=zCr d.1.1 f a
 have m:(ahead T R).len+(atP T R).len<=lsum T.flat:=by
  conv=>rhs;rw [e]
  rw [zO,zJ,zJ]
  have n:=ZJ (F:=T.flat.take (R - 1)) (fun q a=>yu c q (xI a))
  have g:=ZJ (F:=T.flat.drop (R+1)) (fun q a=>yu c q (xX a))
  omega
 have g:=c.2;rw [AT.qe]at g;intro x b;rw [ym T (R - 1) _ _ f]at b;simp only [xv,xR]at b
 rcases b with b | rfl | b
 ·exact c.1 x (xI b)
 ·exact Zr (by omega) (by omega) (by omega) (by omega) k
 ·exact c.1 x (xX b)
theorem YU {S:List Int} {T:AT} {R:Nat} (a:healB T R=true):(healP S T R).flat=T.flat.take (R - 1)++pcAt S (ahead T R).off ((ahead T R).len+(atP T R).len)::T.flat.drop (R+1):=by
 have c:=a;simp only [healB,qZ]at a
 have d:=yS (T:=T) (R:=R) a.1.1 (by omega)
 have g:=AT.qf T
 have b:(T.flat.take (R - 1)).length=R - 1:=by rw [qN];omega
 rw [healP,xj c,AT.rem_flat _ _ (by rw [AT.qi];exact a.1.2),ym T (R - 1) _ _ d,show R - 1+1=R by omega]
 have e:(T.flat.take (R - 1)++pcAt S (ahead T R).off ((ahead T R).len+(atP T R).len)::T.flat.drop R).take R=T.flat.take (R - 1)++ [pcAt S (ahead T R).off ((ahead T R).len+(atP T R).len)]:=by
  have:=jd (T.flat.take (R - 1)) (T.flat.drop R) (pcAt S (ahead T R).off ((ahead T R).len+(atP T R).len)) (R - 1) b
  rw [show R - 1+1=R by omega]at this;exact this
 have f:(T.flat.take (R - 1)++pcAt S (ahead T R).off ((ahead T R).len+(atP T R).len)::T.flat.drop R).drop (R+1)=T.flat.drop (R+1):=by
  rw [Qf,kM (by omega),b,xJ,show R+1 - (R - 1)=2 by omega,ku,Qq]
 rw [e,f,xq];rfl
theorem healP_ok {S:List Int} {T:AT} {R:Nat} (b:T.ok) (k:T.wp S) (l:S.length<=220000):(healP S T R).ok:=by
 cases hb:healB T R with
 | false=>rw [healP,qT (by rw [hb];simp)];exact b
 | true=>
  have d:=YU (S:=S) hb;have c:=hb;simp only [healB,qZ]at c
  have f:=yS (T:=T) (R:=R) c.1.1 (by omega)
  have g:=zA7 (T:=T) (R:=R) c.1.2;have m:=b.bd;have j:=b.1 _ (xg g);simp only [pcOk,qZ]at j
  have h:=put_okH b k l hb (by omega)
  rw [ym T (R - 1) _ _ f,show R - 1+1=R by omega]at h
  have e:=zCr c.1.1 f g
  refine⟨fun x a=>?_,?_⟩
  ·rw [d]at a
   refine h x ?_;simp only [xv,xR]at a |-
   rcases a with a | a | a
   ·exact .inl a
   ·exact .inr (.inl a)
   ·exact .inr (.inr ((List.drop_sublist_drop_left T.flat (show R<=R+1 by omega)).subset a))
  ·have i:=b.2
   rw [AT.qe]at i |-;rw [e,zO,zJ,zJ]at i;rw [d,zO,zJ];simp only [pcAt];omega
def dl2 (S:List Int) (T:AT) (lo hi:Int):AT:=cutP S (cutP S T lo) hi
def dlZ (S:List Int) (T:AT) (lo hi:Int):Nat:=cutN (cutP S T lo) hi
def dlX (S:List Int) (T:AT) (lo hi:Int):AT:=((dl2 S T lo hi).split (cutN T lo)).1
def dlY (S:List Int) (T:AT) (lo hi:Int):AT:=((dl2 S T lo hi).split (cutN T lo)).2
def dlW (S:List Int) (T:AT) (lo hi:Int):AT:=((dlY S T lo hi).split (dlZ S T lo hi - cutN T lo)).2
def dlJ (S:List Int) (T:AT) (lo hi:Int):AT:=AT.join (dlX S T lo hi) (dlW S T lo hi)
def delP (S:List Int) (T:AT) (lo hi:Int):AT:=healP S (dlJ S T lo hi) (cutN T lo)
structure DelF (S:List Int) (T:AT) (lo hi:Int):Prop where
 ok1:(cutP S T lo).ok
 bal1:(cutP S T lo).bal
 wp1:(cutP S T lo).wp S
 rn1:(cutP S T lo).rns=T.rns
 ok2:(dl2 S T lo hi).ok
 bal2:(dl2 S T lo hi).bal
 wp2:(dl2 S T lo hi).wp S
 a2:cutN T lo<=(dl2 S T lo hi).its
 az:cutN T lo<=dlZ S T lo hi
 z2:dlZ S T lo hi<=(dl2 S T lo hi).its
 ra:rankL ((dl2 S T lo hi).told 0) lo=cutN T lo
 rz:rankL ((dl2 S T lo hi).told 0) hi=dlZ S T lo hi
 balX:(dlX S T lo hi).bal
 balY:(dlY S T lo hi).bal
 balW:(dlW S T lo hi).bal
 okX:(dlX S T lo hi).ok
 okY:(dlY S T lo hi).ok
 okW:(dlW S T lo hi).ok
 yits:(dlY S T lo hi).its=(dl2 S T lo hi).its - cutN T lo
 sum:(dlX S T lo hi).rns+(dlW S T lo hi).rns<=8192
 its:(dlX S T lo hi).its+(dlW S T lo hi).its<=8192
 okJ:(dlJ S T lo hi).ok
 balJ:(dlJ S T lo hi).bal
 wpJ:(dlJ S T lo hi).wp S
 okR:(delP S T lo hi).ok
theorem delF {S:List Int} {T:AT} {lo hi:Int} (h:T.ok) (P:T.bal) (A:T.wp S) (i:S.length<=220000) (j:0<=lo) (Q:lo<=hi) (R:hi<=T.rns):DelF S T lo hi:=by
 have a:=ZI h A i j (by omega:lo<=T.rns)
 have d:=ZH h A j (by omega:lo<=T.rns)
 have B:=zB4 (S:=S) h j (by omega:lo<=T.rns)
 have o:=Z9 (S:=S) (off:=lo) P
 have k:=jZ (S:=S) h j (by omega:lo<=T.rns)
 have c:hi<=(cutP S T lo).rns:=by omega
 have b:(dl2 S T lo hi).ok:=ZI a d i (by omega) c
 have q:(dl2 S T lo hi).wp S:=ZH a d (by omega) c
 have r:(dl2 S T lo hi).bal:=Z9 o
 have s:=cut_keep (S:=S) a (by omega) c k.1 k.2 Q
 have C:=jZ (S:=S) a (by omega:0<=hi) c
 have l:cutN T lo<=dlZ S T lo hi:=s.1;have t:dlZ S T lo hi<=(dl2 S T lo hi).its:=C.1;have m:cutN T lo<=(dl2 S T lo hi).its:=vV l t
 have D:rankL ((dl2 S T lo hi).told 0) lo=cutN T lo:=YT _ _ _ (Yb b) (by rw [AT.told_length];exact m) (by rw [yR];show lsum ((cutP S (cutP S T lo) hi).flat.take _)=lo;rw [s.2];exact k.2)
 have E:rankL ((dl2 S T lo hi).told 0) hi=dlZ S T lo hi:=zB1 a d i (by omega) c
 have u:=AT.split_flat (dl2 S T lo hi) (cutN T lo) m;have e:=AT.split_bal (dl2 S T lo hi) (cutN T lo) r;have v:(dlX S T lo hi).flat=(dl2 S T lo hi).flat.take (cutN T lo):=u.1;have n:(dlY S T lo hi).flat=(dl2 S T lo hi).flat.drop (cutN T lo):=u.2;have F:=AT.qf (dl2 S T lo hi)
 have G:(dlY S T lo hi).its=(dl2 S T lo hi).its - cutN T lo:=by rw [<- AT.qf,n,qS,F]
 have H:=AT.split_flat (dlY S T lo hi) (dlZ S T lo hi - cutN T lo) (by omega)
 have w:=AT.split_bal (dlY S T lo hi) (dlZ S T lo hi - cutN T lo) e.2
 have x:(dlW S T lo hi).flat=(dl2 S T lo hi).flat.drop (dlZ S T lo hi):=by
  have:(dlW S T lo hi).flat=(dlY S T lo hi).flat.drop (dlZ S T lo hi - cutN T lo):=H.2
  rw [this,n,Qq,show cutN T lo+(dlZ S T lo hi - cutN T lo)=dlZ S T lo hi by omega]
 have I:(dlJ S T lo hi).flat=(dl2 S T lo hi).flat.take (cutN T lo)++(dl2 S T lo hi).flat.drop (dlZ S T lo hi):=by
  rw [dlJ,AT.join_flat,v,x]
 have y:(dlJ S T lo hi).flat.Sublist (dl2 S T lo hi).flat:=by
  rw [I]
  conv=>rhs;rw [<- xG (cutN T lo) (dl2 S T lo hi).flat]
  refine List.Sublist.append (List.Sublist.refl _) ?_;exact List.drop_sublist_drop_left _ l
 have J:(dlX S T lo hi).ok:=b.sub (by rw [v];exact List.take_sublist _ _)
 have K:(dlY S T lo hi).ok:=b.sub (by rw [n];exact List.drop_sublist _ _)
 have L:(dlW S T lo hi).ok:=b.sub (by rw [x];exact List.drop_sublist _ _)
 have f:(dlJ S T lo hi).ok:=b.sub y
 have z:(dlJ S T lo hi).wp S:=(zW S _).2 fun p O=>(zW S _).1 q p (y.subset O)
 have M:(dlX S T lo hi).rns+(dlW S T lo hi).rns<=8192:=by
  have g:=f.2;rw [AT.qe,dlJ,AT.join_flat,zO,<- AT.qe,<- AT.qe]at g;exact g
 have N:(dlX S T lo hi).its+(dlW S T lo hi).its<=8192:=by
  have g:=f.bd.1;rw [<- AT.qf,dlJ,AT.join_flat,qM,AT.qf,AT.qf]at g;omega
 exact⟨a,o,d,B,b,r,q,m,l,t,D,E,e.1,e.2,w.2,J,K,L,G,M,N,f,AT.join_bal _ _ e.1 w.2,z,healP_ok f z i⟩
theorem AT.ins_le (l:AT) (p:Pc) (r:AT) (k:Nat) (e:Pc) (a:k<=l.its):(AT.node l p r).ins k e=AT.rep (l.ins k e) p r:=by
 rw [AT.ins.eq_def];simp only [xj a]
theorem AT.ins_gt (l:AT) (p:Pc) (r:AT) (k:Nat) (e:Pc) (a:¬k<=l.its):(AT.node l p r).ins k e=AT.rep l p (r.ins (k - l.its - 1) e):=by
 rw [AT.ins.eq_def];simp only [qT a]
theorem AT.sub_ins (T:AT) (k:Nat) (e:Pc) (b:k<=T.its):T.flat.Sublist (T.ins k e).flat:=by
 rw [AT.ins_flat T k e b];have a:(T.flat.take k++T.flat.drop k).Sublist (T.flat.take k++e::T.flat.drop k):=List.Sublist.append_left (List.sublist_cons_self _ _) _
 rwa [xG]at a
theorem zEg:∀ (T:AT) (k:Nat) (e:Pc) (u:Option Addr) (bs:List Nat) (base:Nat) (w:World),T.bal->(T.ins k e).ok->k<=T.its->Lies w base T u bs->bs.Nodup->base<=w.heap.size->
  Calls Tryz.prog 201 #[.pointer u,.int .i64 k,pcV e] w (MutPost base (T.ins k e) bs w):=by
 intro T
 induction T with
 | nil=>
  intro k e u bs base w _ B _ J _ bp;obtain⟨rfl,rfl⟩:=J
  have O:=qG (show(AT.node .nil e .nil).ok from B)
  have C:=qG ((qO w.heap.size w).alloc lR (.cells #[.int .i64 e.off,.int .i64 e.len,.int .i64 e.brk] 69));have V:(w.alloc (.cells #[.int .i64 e.off,.int .i64 e.len,.int .i64 e.brk] 69)).heap[w.heap.size]? =some (.cells #[.int .i64 e.off,.int .i64 e.len,.int .i64 e.brk] 69 (0,0)):=xm _ _
  have bd:(w.alloc (.cells #[.int .i64 e.off,.int .i64 e.len,.int .i64 e.brk] 69)).heap.size=w.heap.size+1:=by simp
  clear B;unfold pcV;go_enter Tryz.func201,Tryz.ntmps201;go_wp2_with fail;generalize w.alloc (.cells #[.int .i64 e.off,.int .i64 e.len,.int .i64 e.brk] 69)=ae at *
  refine(plantN .nil e .nil none none [] [] base ae ⟨rfl,rfl⟩ ⟨rfl,rfl⟩ O.out (by omega)).mono ?_
  rintro a4 a5 ⟨nb,rfl,b8,g,s⟩;have D:=qG g
  have n:=qG ((Chg.qa (bs:=[]) C.out).trans (Chg.qa (bs:=[]) s) (fun _ a _=>a) (fun _ a _=>a))
  clear g s;go_wp2;go_ret
  exact⟨_,nb::([]++ []),rfl,D.out,by simp,fun x h=>.inr (by simp at h;omega),n.out⟩
 | node l p r ba bc=>
  intro k e u bs base w aw B bq J ax bp;have ai:=J.lt;have C:=qG ((qO w.heap.size w).alloc lR (.cells #[.int .i64 e.off,.int .i64 e.len,.int .i64 e.brk] 69));have V:(w.alloc (.cells #[.int .i64 e.off,.int .i64 e.len,.int .i64 e.brk] 69)).heap[w.heap.size]? =some (.cells #[.int .i64 e.off,.int .i64 e.len,.int .i64 e.brk] 69 (0,0)):=xm _ _
  have bd:(w.alloc (.cells #[.int .i64 e.off,.int .i64 e.len,.int .i64 e.brk] 69)).heap.size=w.heap.size+1:=by simp
  have aj:=qG (J.below C.out lR);obtain⟨ay,az,b9,ca⟩:=AT.bal_hts aw;have be:(AT.node l p r).ok:=B.sub (AT.sub_ins _ k e bq);have bv:=be.bd
  have bw:((AT.node l p r).its:Int)=l.its+1+r.its:=by simp only [AT.its];omega
  have bx:(AT.node l p r).its=l.its+1+r.its:=rfl;have ak:=qG (Chg.qa (bs:=bs) C.out);have X:=qG ax;have O:=qG B;have bf:=qG ai;have bg:=qG ba;have bh:=qG bc;have P:=qG (And.intro ay az);generalize a6:(AT.node l p r).ins k e=a7 at *;have Q:=qG a6;have bz:=Tryz.fld0;clear J ax B ai aw ba bc a6 ay az;obtain⟨b,S,af,c,d,rfl,a8,U,ag,a9,rfl⟩:=aj.out;have al:=U.c3;have lb:=U.lt;unfold pcV;go_enter Tryz.func201,Tryz.ntmps201;go_wp2_with fail;generalize w.alloc (.cells #[.int .i64 e.off,.int .i64 e.len,.int .i64 e.brk] 69)=ae at *;refine(allN l S c base ae ag).mono ?_;rintro cb w1 ⟨rfl,z⟩;have b0:=z.size
  have R:=(z.block w.heap.size (by omega)).trans V
  have b1:w1.cell? ⟨w.heap.size,0,none⟩=some (.int .i64 e.off):=by rw [qQ w1 _ 0 _ _ _ R];rfl
  have b2:w1.cell? ⟨w.heap.size,1,none⟩=some (.int .i64 e.len):=by rw [qQ w1 _ 1 _ _ _ R];rfl
  have b3:w1.cell? ⟨w.heap.size,2,none⟩=some (.int .i64 e.brk):=by rw [qQ w1 _ 2 _ _ _ R];rfl
  have b4:w.heap.size<w1.heap.size:=by omega
  have E:=qG (Nd.chg (cs:=[]) U (Chg.qa z) (by simp))
  have am:=qG (ag.below z lR);have an:=qG (a9.below z lR)
  have ao:=qG (ak.out.trans (Chg.qa (bs:=b::(c++d)) z) (fun _ a _=>a) (fun _ a _=>a))
  have ap:=qG (show ∀x∈b::(c++d),x<w1.heap.size from fun x h=>by have:=(bf.out x h).2;omega)
  have aq:=X.out;simp only [vM,kF,xv,not_or]at aq;obtain⟨⟨a0,a1⟩,a2,a3,ah⟩:=aq
  have ar:∀x∈d,x∉c:=fun x h y=>ah x y x h rfl
  have au:∀x∈c,x∉d:=fun x h y=>ah x h x y rfl
  have q:=qG (And.intro a0 (And.intro a1 (And.intro a2 (And.intro a3 (And.intro ar au)))));clear U ag a9 z R V a0 a1 a2 a3 ah ar au al ak C aj lb;have al:=E.out.c3;have b5:=E.out.c4;have lb:=E.out.lt;unfold cnt
  by_cases ad:k<=l.its
  ·have bi:(k:Int)<=l.its:=by omega
   have F:Hid (a7=AT.rep (l.ins k e) p r):=by
    rw [<- Q.out,AT.ins_le _ _ _ _ _ ad];exact rfl
   have bj:=AT.ins_bal l k e P.out.1
   have t:(AT.node (l.ins k e) p r).ok:=O.out.of_flat (by rw [F.out,AT.flat_rep];rfl)
   have A:=qG (fun(W:World) (M:W.heap=w1.heap)=>bg.out k e S c base W P.out.1 t.left ad (am.out.heap M) q.out.2.2.1 (by rw [M];omega))
   have Y:=qG t;clear Q t
   have bk:decide ((k:Int)<=(l.its:Int))=true:=by simp;omega
   go_upto_region 5 with fail
   go_cut [] (fun wc=>CutL base b w1.heap.size r p (l.ins k e) af d c (b::c) (1+max (l.ht:Int) r.ht) (l.its+1+r.its) (l.rns+p.len+r.rns) (l.bks+p.brk+r.bks) w1 wc)
   case first=>
    unfold pcV at A
    go_region_with (go_at_call 201;refine(A.out _ (by exact rfl)).mono ?_;intro a4 a5 K;obtain⟨u5,i,rfl,g,j,m,f⟩:=K.drawn (w:=w1) rfl rfl rfl rfl;have o:=qG (E.out.chg f q.out.1);have D:=qG g;have Z:=qG (an.out.chg f q.out.2.2.2.2.1);have v:=qG j;have G:=qG m;have n:=qG f;have bl:=o.out.c3;have bm:=o.out.fz 3;have bn:=o.out.lt;clear K g j m f)
    all_goals (
     go_wp2_with fail;go_meet;have H:(b::(i++d)).Nodup:=nd_left X.out ap.out v.out G.out
     have aa:b∉i:=fun y=>(vM.1 H).1 (List.mem_append_left _ y)
     exact⟨u5,i,(o.out.set3 u5).heap rfl,(D.out.other ⟨b,3,none⟩ (.pointer u5) aa).heap rfl,(Z.out.other ⟨b,3,none⟩ (.pointer u5) q.out.2.1).heap rfl,H,G.out,((n.out.trans (Chg.refl [] _) (fun x a _=>by simp;exact .inr a) (fun x a _=>by simp at a) (ds:=b::c)).setCell ⟨b,3,none⟩ (.pointer u5) (.inl (by simp))).drawn rfl rfl rfl rfl⟩)
   case rest=>
    obtain⟨u5,i,s,g,N,j,m,f⟩:=hcut
    have I:=qG (zEe (l.ins k e) p r b u5 af i d base _ _ _ _ wc s g N a8 j Y.out (by omega) (by omega))
    have n:=qG (ao.out.trans f (fun _ a _=>a) (fun x a _=>by simp at a |-;rcases a with a | a<;>simp [a]) (ds:=b::(c++d)))
    have ab:=qG (show ∀x∈b::(i++d),x∈b::(c++d)∨w.heap.size<=x from fun x h=>by
     simp only [xR,xv]at h |-
     rcases h with a | a | a
     ·exact .inl (.inl a)
     ·rcases m x a with a | a
      ·exact .inl (.inr (.inl a))
      ·exact .inr (by omega)
     ·exact .inl (.inr (.inr a)))
    have v:=qG j;clear s g N j m f;go_wp2_with fail;refine I.out.mono ?_;intro br bt L;have ac:=qG (zEf n.out ab.out v.out L);obtain⟨u6,bu,rfl,_⟩:=L;clear I;go_wp2;go_ret;rw [F.out];exact ac.out
  ·have bi:¬ (k:Int)<=l.its:=by omega
   have F:Hid (a7=AT.rep l p (r.ins (k - l.its - 1) e)):=by
    rw [<- Q.out,AT.ins_gt _ _ _ _ _ ad];exact rfl
   have bj:=AT.ins_bal r (k - l.its - 1) e P.out.2
   have t:(AT.node l p (r.ins (k - l.its - 1) e)).ok:=O.out.of_flat (by rw [F.out,AT.flat_rep];rfl)
   have bo:k - l.its - 1<=r.its:=by omega
   have A:=qG (fun(W:World) (M:W.heap=w1.heap)=>bh.out (k - l.its - 1) e af d base W P.out.2 t.right bo (an.out.heap M) q.out.2.2.2.1 (by rw [M];omega))
   have av:((k - l.its - 1:Nat):Int)=(k:Int) - l.its - 1:=by omega
   rw [av]at A;have Y:=qG t
   have b6:IntKind.i64.wrap ((k:Int) - l.its)=(k:Int) - l.its:=i64w _ (by omega) (by omega)
   have b7:IntKind.i64.wrap ((k:Int) - l.its - 1)=(k:Int) - l.its - 1:=i64w _ (by omega) (by omega)
   clear Q t av
   have bk:decide ((k:Int)<=(l.its:Int))=false:=by simp;omega
   go_upto_region 6 with fail
   go_cut [] (fun wc=>CutR base b w1.heap.size l p (r.ins (k - l.its - 1) e) S c d (b::d) (1+max (l.ht:Int) r.ht) (l.its+1+r.its) (l.rns+p.len+r.rns) (l.bks+p.brk+r.bks) w1 wc)
   case first=>
    unfold pcV at A
    go_region_with (go_at_call 201;refine(A.out _ (by exact rfl)).mono ?_;intro a4 a5 K;obtain⟨u5,i,rfl,g,j,m,f⟩:=K.drawn (w:=w1) rfl rfl rfl rfl;have o:=qG (E.out.chg f q.out.2.1);have D:=qG g;have Z:=qG (am.out.chg f q.out.2.2.2.2.2);have v:=qG j;have G:=qG m;have n:=qG f;have bl:=o.out.c4;have bm:=o.out.fz 4;have bn:=o.out.lt;clear K g j m f)
    all_goals (
     go_wp2_with fail;go_meet;have H:(b::(c++i)).Nodup:=nd_right X.out ap.out v.out G.out
     have aa:b∉i:=fun y=>(vM.1 H).1 (List.mem_append_right _ y)
     exact⟨u5,i,(o.out.set4 u5).heap rfl,(D.out.other ⟨b,4,none⟩ (.pointer u5) aa).heap rfl,(Z.out.other ⟨b,4,none⟩ (.pointer u5) q.out.1).heap rfl,H,G.out,((n.out.trans (Chg.refl [] _) (fun x a _=>by simp;exact .inr a) (fun x a _=>by simp at a) (ds:=b::d)).setCell ⟨b,4,none⟩ (.pointer u5) (.inl (by simp))).drawn rfl rfl rfl rfl⟩)
   case rest=>
    obtain⟨u5,i,s,g,N,j,m,f⟩:=hcut
    have I:=qG (zEe l p (r.ins (k - l.its - 1) e) b S u5 c i base _ _ _ _ wc s N g a8 j Y.out (by omega) (by omega))
    have n:=qG (ao.out.trans f (fun _ a _=>a) (fun x a _=>by simp at a |-;rcases a with a | a<;>simp [a]) (ds:=b::(c++d)))
    have ab:=qG (show ∀x∈b::(c++i),x∈b::(c++d)∨w.heap.size<=x from fun x h=>by
     simp only [xR,xv]at h |-
     rcases h with a | a | a
     ·exact .inl (.inl a)
     ·exact .inl (.inr (.inl a))
     ·rcases m x a with a | a
      ·exact .inl (.inr (.inr a))
      ·exact .inr (by omega))
    have v:=qG j;clear s g N j m f;go_wp2_with fail;refine I.out.mono ?_;intro br bt L;have ac:=qG (zEf n.out ab.out v.out L);obtain⟨u6,bu,rfl,_⟩:=L;clear I;go_wp2;go_ret;rw [F.out];exact ac.out
theorem AT.put_lt (l:AT) (p:Pc) (r:AT) (k:Nat) (e:Pc) (a:k<l.its):(AT.node l p r).put k e= .node (l.put k e) p r:=by rw [AT.put,xj a]
theorem AT.put_gt (l:AT) (p:Pc) (r:AT) (k:Nat) (e:Pc) (a:l.its<k):(AT.node l p r).put k e= .node l p (r.put (k - l.its - 1) e):=by rw [AT.put,qT (by omega),xj a]
theorem AT.put_eq (l:AT) (p:Pc) (r:AT) (e:Pc):(AT.node l p r).put l.its e= .node l e r:=by rw [AT.put,qT (by omega),qT (by omega)]
theorem zFj:∀ (T:AT) (k:Nat) (e:Pc) (u:Option Addr) (bs:List Nat) (base:Nat) (w:World),T.okw->(T.put k e).okw->k<T.its->Lies w base T u bs->bs.Nodup->
  Calls Tryz.prog 199 #[.pointer u,qJ (k:Int),.agg #[qJ e.off,qJ e.len,qJ e.brk]] w fun B w'=>B= .returned (.tuple #[])∧Lies w' base (T.put k e) u bs∧Chg bs w w':=by
 intro T
 induction T with
 | nil=>intro k e u bs base w _ _ V;simp [AT.its]at V
 | node l p r a0 a1=>
  intro k e u bs base w X am V an ao;have ad:=an.lt;obtain⟨b,t,z,c,f,rfl,aa,ax,ay,az,rfl⟩:=an;have ae:=ao;simp only [vM,kF,xv,not_or]at ae;obtain⟨⟨ap,aq⟩,ar,au,ab⟩:=ae
  have af:∀x∈f,x∉c:=fun x h Z=>ab x Z x h rfl
  have ag:∀x∈c,x∉f:=fun x h Z=>ab x h x Z rfl
  have a4:=X.bd
  have a5:((AT.node l p r).its:Int)<=l.its+1+r.its∧(l.its:Int)+1+r.its<=(AT.node l p r).its:=by simp only [AT.its];omega
  have E:=qG ((qO w.heap.size w).alloc lR (.cells #[qJ e.off,qJ e.len,qJ e.brk] 69))
  have ah:=qG (show(w.alloc (.cells #[qJ e.off,qJ e.len,qJ e.brk] 69)).heap[w.heap.size]? =some (.cells #[qJ e.off,qJ e.len,qJ e.brk] 69 (0,0))from xm _ _)
  have a6:w.heap.size+1<=(w.alloc (.cells #[qJ e.off,qJ e.len,qJ e.brk] 69)).heap.size:=by simp
  have L:=qG (Nd.chg (cs:=[]) ax (Chg.qa E) (by simp))
  have Q:=qG (ay.below E lR);have ai:=qG (az.below E lR);generalize aw:(AT.node l p r).put k e=Y at *;have D:=qG aw;have o:=qG (And.intro X am);have d:=qG (And.intro ap (And.intro aq (And.intro ar (And.intro au (And.intro af ag)))));have a7:=qG ad;have aj:=L.c3;have lb:=L.lt;have a8:=Tryz.fld0;have M:=qG a0;have N:=qG a1;have a9:k<l.its+1+r.its:=V;clear aw ax ay az X am ap aq ar au ab af ag ao ad a0 a1;go_enter Tryz.func199,Tryz.ntmps199;go_wp2_with fail;generalize w.alloc (.cells #[qJ e.off,qJ e.len,qJ e.brk] 69)=a3 at *;refine(allN l t c base a3 Q).mono ?_;rintro B w1 ⟨rfl,C⟩;have ba:=C.size
  have n:=qG (Nd.chg (cs:=[]) L (Chg.qa C) (by simp))
  have R:=qG (Q.below C lR);have S:=qG (ai.below C lR)
  have U:=qG (E.trans (C.mono (by omega)))
  have O:=(C.block w.heap.size (by omega)).trans ah
  have bc:w1.cell? ⟨w.heap.size,0,none⟩=some (qJ e.off):=by rw [qQ w1 _ 0 _ _ _ O];rfl
  have bd:w1.cell? ⟨w.heap.size,1,none⟩=some (qJ e.len):=by rw [qQ w1 _ 1 _ _ _ O];rfl
  have be:w1.cell? ⟨w.heap.size,2,none⟩=some (qJ e.brk):=by rw [qQ w1 _ 2 _ _ _ O];rfl
  have le:w.heap.size<w1.heap.size:=by omega
  clear C O L Q ai E ah aj lb;have aj:=n.c3;have bf:=n.c4;have lb:=n.lt;unfold cnt
  by_cases av:k<l.its
  ·have ak:(k:Int)<l.its:=by omega
   have y:=qG (show Y=AT.node (l.put k e) p r from D.symm.trans (AT.put_lt l p r k e av))
   rw [y.out]at o
   have P:=qG (fun W a=>M k e t c base W o.1.left o.2.left av a d.2.2.1)
   clear D M N
   go_upto_block 0 with fail
   go_cut [] (fun wc=>Lies wc base (l.put k e) t c∧Chg c w1 wc)
   case first=>
    go_upto_region 4 with fail
    go_region_with (go_at_call 199;refine(P _ (by exact R.frame (fun _ _=>rfl))).mono ?_;rintro B ac ⟨rfl,J,m⟩;have q:=qG J;have j:=qG (show Chg c w1 ac from⟨m.os,m.tape,m.output,m.size,m.block⟩);clear J m)
    all_goals (go_wp2_with fail;go_meet;exact⟨q,j⟩)
   case rest=>
    have q:=qG hcut.1;have j:=qG hcut.2;clear hcut;have F:=qG (n.chg j d.1);have s:=qG (S.chg j d.2.2.2.2.1);have G:=qG (y8 (l.put k e) p r b t z c f base _ _ _ _ _ F q s d.1 d.2.1 o.2);go_wp2_with fail;refine G.mono ?_;rintro B K ⟨rfl,A,i⟩
    have H:=qG (show Lies K base (AT.node (l.put k e) p r) (qK b 0) (b::(c++f))from⟨b,t,z,c,f,rfl,aa,A,q.chg i (fun x h g=>d.1 (by simp at g;exact g▸h)),s.chg i (fun x h g=>d.2.1 (by simp at g;exact g▸h)),rfl⟩)
    have I:=qG (((Chg.qa (bs:=b::(c++f)) U).trans j (fun _ a _=>a) (fun x a _=>by simp [a]) (ds:=b::(c++f))).trans i (fun _ a _=>a) (fun x a _=>by simp at a;simp [a]) (ds:=b::(c++f)))
    clear A i;go_wp2
    refine Qs (v:=.tuple #[]) (by simp [results,Tryz.results199]) rfl ⟨rfl,by rw [y.out];exact H,I⟩
  ·by_cases a2:l.its<k
   ·have ak:¬ (k:Int)<l.its:=by omega
    have bg:(l.its:Int)<(k:Int):=by omega
    have y:=qG (show Y=AT.node l p (r.put (k - l.its - 1) e)from D.symm.trans (AT.put_gt l p r k e a2))
    rw [y.out]at o
    have P:=qG (fun W a=>N (k - l.its - 1) e z f base W o.1.right o.2.right (by omega) a d.2.2.2.1)
    have al:(k:Int) - (l.its:Int) - 1=((k - l.its - 1:Nat):Int):=by omega
    rw [<- al]at P
    have bh:IntKind.i64.wrap ((k:Int) - l.its)=(k:Int) - l.its:=i64w _ (by omega) (by omega)
    have bi:IntKind.i64.wrap ((k:Int) - l.its - 1)=(k:Int) - l.its - 1:=i64w _ (by omega) (by omega)
    clear D M N al
    go_upto_block 0 with fail
    go_cut [] (fun wc=>Lies wc base (r.put (k - l.its - 1) e) z f∧Chg f w1 wc)
    case first=>
     go_upto_region 6 with fail
     go_region_with (go_at_call 199;refine(P _ (by exact S.frame (fun _ _=>rfl))).mono ?_;rintro B ac ⟨rfl,J,m⟩;have s:=qG J;have j:=qG (show Chg f w1 ac from⟨m.os,m.tape,m.output,m.size,m.block⟩);clear J m)
     all_goals (go_wp2_with fail;go_meet;exact⟨s,j⟩)
    case rest=>
     have s:=qG hcut.1;have j:=qG hcut.2;clear hcut;have F:=qG (n.chg j d.2.1);have q:=qG (R.chg j d.2.2.2.2.2);have G:=qG (y8 l p (r.put (k - l.its - 1) e) b t z c f base _ _ _ _ _ F q s d.1 d.2.1 o.2);go_wp2_with fail;refine G.mono ?_;rintro B K ⟨rfl,A,i⟩
     have H:=qG (show Lies K base (AT.node l p (r.put (k - l.its - 1) e)) (qK b 0) (b::(c++f))from⟨b,t,z,c,f,rfl,aa,A,q.chg i (fun x h g=>d.1 (by simp at g;exact g▸h)),s.chg i (fun x h g=>d.2.1 (by simp at g;exact g▸h)),rfl⟩)
     have I:=qG (((Chg.qa (bs:=b::(c++f)) U).trans j (fun _ a _=>a) (fun x a _=>by simp [a]) (ds:=b::(c++f))).trans i (fun _ a _=>a) (fun x a _=>by simp at a;simp [a]) (ds:=b::(c++f)))
     clear A i;go_wp2
     refine Qs (v:=.tuple #[]) (by simp [results,Tryz.results199]) rfl ⟨rfl,by rw [y.out];exact H,I⟩
   ·obtain rfl:k=l.its:=by omega
    have ak:¬ ((l.its:Nat):Int)<((l.its:Nat):Int):=by omega
    have y:=qG (show Y=AT.node l e r from D.symm.trans (AT.put_eq l p r e))
    rw [y.out]at o;have F:=qG (n.set012 e);have q:=qG (((R.other ⟨b,0,none⟩ (qJ e.off) d.1).other ⟨b,1,none⟩ (qJ e.len) d.1).other ⟨b,2,none⟩ (qJ e.brk) d.1);have s:=qG (((S.other ⟨b,0,none⟩ (qJ e.off) d.2.1).other ⟨b,1,none⟩ (qJ e.len) d.2.1).other ⟨b,2,none⟩ (qJ e.brk) d.2.1)
    have j:=qG ((((Chg.refl [b] w1).setCell ⟨b,0,none⟩ (qJ e.off) (.inl (by simp))).setCell ⟨b,1,none⟩ (qJ e.len) (.inl (by simp))).setCell ⟨b,2,none⟩ (qJ e.brk) (.inl (by simp)))
    have G:=qG (y8 l e r b t z c f base _ _ _ _ _ F q s d.1 d.2.1 o.2);have bj:=n.c0;have bk:=n.c1;have bl:=n.c2;have bm:=n.fz 0;have bn:=n.fz 1;have bo:=n.fz 2;clear D M N;go_wp2_with fail;refine G.mono ?_;rintro B K ⟨rfl,A,i⟩
    have H:=qG (show Lies K base (AT.node l e r) (qK b 0) (b::(c++f))from⟨b,t,z,c,f,rfl,aa,A,q.chg i (fun x h g=>d.1 (by simp at g;exact g▸h)),s.chg i (fun x h g=>d.2.1 (by simp at g;exact g▸h)),rfl⟩)
    have I:=qG (((Chg.qa (bs:=b::(c++f)) U).trans j (fun _ a _=>a) (fun x a _=>by simp at a;simp [a]) (ds:=b::(c++f))).trans i (fun _ a _=>a) (fun x a _=>by simp at a;simp [a]) (ds:=b::(c++f)))
    clear A i;go_wp2
    refine Qs (v:=.tuple #[]) (by simp [results,Tryz.results199]) rfl ⟨rfl,by rw [y.out];exact H,I⟩
theorem zB5:∀ (T:AT) (k:Nat) (e:Pc) (u:Option Addr) (bs:List Nat) (base:Nat) (w:World),T.ok->(T.put k e).ok->k<T.its->Lies w base T u bs->bs.Nodup->
  Calls Tryz.prog 199 #[.pointer u,qJ (k:Int),.agg #[qJ e.off,qJ e.len,qJ e.brk]] w fun g w'=>g= .returned (.tuple #[])∧Lies w' base (T.put k e) u bs∧Chg bs w w':=
 fun T k e u bs base w a b c d f=>zFj T k e u bs base w a.w b.w c d f
end Go.Proofs.YtljdnoinennfaaaGreatDoor
namespace Go.Proofs.YtljdnoinennfaaaGreatDoor
open Go Go.RowKit Go.Proofs.Tryz
def ItAt (w:World) (b o:Nat) (x:It):Prop:=
 w.cell? ⟨b,o,none⟩=some (qJ x.pc.off)∧w.cell? ⟨b,o+1,none⟩=some (qJ x.pc.len)∧w.cell? ⟨b,o+2,none⟩=some (qJ x.pc.brk)∧w.cell? ⟨b,o+3,none⟩=some (qJ x.lv)
def RdI (B:Nat) (w:World) (v:Value) (xs:List It):Prop:=
 (∃ao cap,v= .slice ao 0 cap∧xs= [])∨
 (∃b off cap,v= .slice (qK b off) xs.length cap∧(0<xs.length∧xs.length<=cap∧cap<=maxLen)∧b<B∧∀i x,xs[i]? =some x->ItAt w b (off+i*4) x)
theorem RdI.below {B B':Nat} {w w':World} {v:Value} {xs:List It} (c:RdI B w v xs) (e:Below B' w w') (k:B<=B'):RdI B w' v xs:=by
 rcases c with c | ⟨b,off,cap,f,g,h,j⟩
 ·exact .inl c
 ·refine .inr ⟨b,off,cap,f,g,h,fun i x d=>?_⟩
  have a:∀o,w'.cell? ⟨b,o,none⟩=w.cell? ⟨b,o,none⟩:=fun o=>e.cell (p:=⟨b,o,none⟩) (by show b<B';omega)
  have:=j i x d;unfold ItAt at this |-;rw [a,a,a,a];exact this
theorem RdI.heap {B:Nat} {w w':World} {v:Value} {xs:List It} (c:RdI B w v xs) (e:w'.heap=w.heap):RdI B w' v xs:=by
 rcases c with c | ⟨b,off,cap,f,g,h,j⟩
 ·exact .inl c
 ·refine .inr ⟨b,off,cap,f,g,h,fun i x d=>?_⟩
  have a:∀o,w'.cell? ⟨b,o,none⟩=w.cell? ⟨b,o,none⟩:=fun o=>qV (w:=w) (by rw [e])
  have:=j i x d;unfold ItAt at this |-;rw [a,a,a,a];exact this
theorem RdI.val {B:Nat} {w:World} {v:Value} {xs:List It} (a:RdI B w v xs):∃ao cap,v= .slice ao xs.length cap:=by
 rcases a with ⟨ao,cap,rfl,rfl⟩ | ⟨b,off,cap,rfl,_⟩
 ·exact⟨_,_,rfl⟩
 ·exact⟨_,_,rfl⟩
theorem RdI.at {B:Nat} {w:World} {v:Value} {xs:List It} (a:RdI B w v xs) (c:xs≠ []):∃b off cap,v= .slice (qK b off) xs.length cap∧(0<xs.length∧xs.length<=cap∧cap<=maxLen)∧b<B∧∀i x,xs[i]? =some x->ItAt w b (off+i*4) x:=by
 rcases a with ⟨ao,cap,rfl,rfl⟩ | a
 ·exact absurd rfl c
 ·exact a
theorem RdI.head {B:Nat} {w:World} {v:Value} {x:It} {xs:List It} (h:RdI B w v (x::xs)):∃b off cap,v= .slice (qK b off) (xs.length+1) cap∧xs.length+1<=cap∧cap<=maxLen∧b<B∧ItAt w b off x∧RdI B w (.slice (qK b (off+4)) xs.length (cap - 1)) xs:=by
 obtain⟨b,off,cap,a,c,d,f⟩:=h.at (by simp)
 simp only [q9]at a c
 refine⟨b,off,cap,a,by omega,by omega,d,by simpa using f 0 x rfl,?_⟩
 cases xs with
 | nil=>exact .inl ⟨_,_,rfl,rfl⟩
 | cons y ys=>
  refine .inr ⟨b,off+4,cap - 1,rfl,⟨by simp,by simp at c |-;omega,by omega⟩,d,fun i z g=>?_⟩
  have:=f (i+1) z (by simpa using g)
  have e:off+4+i*4=off+(i+1)*4:=by omega
  rw [e];exact this
def Rdr (w:World) (a:Nat) (v:Value):Prop:=w.heap[a]? =some (.cells #[v] 197 (0,0))
theorem Rdr.c {w:World} {a:Nat} {v:Value} (b:Rdr w a v):w.cell? ⟨a,0,none⟩=some v:=by rw [qQ w a 0 _ _ _ b];rfl
theorem Rdr.fz {w:World} {a:Nat} {v:Value} (b:Rdr w a v):w.frozen? ⟨a,0,none⟩=false:=xo w a 0 _ _ b
theorem Rdr.lt {w:World} {a:Nat} {v:Value} (b:Rdr w a v):a<w.heap.size:=by
 rcases xS a w.heap.size with c | c
 ·exact c
 ·unfold Rdr at b;rw [vJ c]at b;cases b
theorem Rdr.set {w:World} {a:Nat} {v:Value} (b:Rdr w a v) (c:Value):Rdr (w.setCell ⟨a,0,none⟩ c) a c:=by
 unfold Rdr at b |-;rw [xB w a 0 _ _ _ b];rfl
theorem Rdr.below {B:Nat} {w w':World} {a:Nat} {v:Value} (b:Rdr w a v) (c:Below B w w') (d:a<B):Rdr w' a v:=(c.block a d).trans b
theorem zFk (B g:Nat) (v:Value) (xs:List It) (h:Int) (w:World) (a:RdI B w v xs) (d:Rdr w g v) (p:B<=g) (i:∀x f,xs=x::f->x.lv≠h) (q:xs.length<=8192):
  Calls prog 138 #[.pointer (qK g 0),qJ h] w fun e w'=>e= .returned (.tuple #[.agg #[qJ 0,qJ 0,qJ 0],.iface 121 (qJ 1)])∧Below w.heap.size w w':=by
 have c:=d.c;have m:=d.lt
 cases xs with
 | nil=>
  obtain⟨ao,cap,rfl⟩:=a.val;simp only [xC]at c;clear a d i;go_enter func138,ntmps138;go_wp2
  refine xr (v:=.tuple #[.agg #[qJ 0,qJ 0,qJ 0],.iface 121 (qJ 1)]) (by simp [results,results138,go_sem]) rfl ⟨rfl,?_⟩
  exact(qO _ _).alloc lR _
 | cons x f=>
  obtain⟨b,off,cap,rfl,r,k,s,⟨l,t,u,y⟩,_⟩:=a.head;have j:=i x f rfl;have n:b<w.heap.size:=xD w _ l
  have o:(x.lv != h)=true:=by simpa using j
  unfold maxLen at k;clear a d i;go_enter func138,ntmps138;go_wp2
  refine xr (v:=.tuple #[.agg #[qJ 0,qJ 0,qJ 0],.iface 121 (qJ 1)]) (by simp [results,results138,go_sem]) rfl ⟨rfl,?_⟩
  exact(qO _ _).alloc lR _
theorem Chg.alloc {bs:List Nat} {a b:World} (c:Chg bs a b) (o:Obj):Chg bs a (b.alloc o):=
 c.trans (.qa ((qO _ _).alloc lR o)) (fun _ c _=>c) (fun _ c _=>c) (cs:=bs)
theorem Rdr.chg {bs:List Nat} {w w':World} {a:Nat} {v:Value} (b:Rdr w a v) (c:Chg bs w w') (d:a∉bs):Rdr w' a v:=(c.block a b.lt d).trans b
theorem Rdr.alloc {w:World} {a:Nat} {v:Value} (b:Rdr w a v) (o:Obj):Rdr (w.alloc o) a v:=b.chg (bs:=[]) (.qa ((qO _ _).alloc lR o)) (by simp)
theorem takeN_ok (B a:Nat) (v:Value) (x:It) (xs:List It) (w:World) (j:RdI B w v (x::xs)) (d:Rdr w a v) (t:B<=a) (u:xs.length<=8192):
  Calls prog 138 #[.pointer (qK a 0),qJ x.lv] w fun e w'=>e= .returned (.tuple #[pcV x.pc,.nilIface])∧∃i,RdI B w' i xs∧Rdr w' a i∧Chg [a] w w':=by
 have c:=d.c;have f:=d.fz;have p:=d.lt;obtain⟨b,off,cap,rfl,y,n,z,⟨o,A,C,D⟩,k⟩:=j.head;have q:b<w.heap.size:=xD w _ o
 have r:(x.lv != x.lv)=false:=by simp
 have s:¬b=a:=by omega
 unfold maxLen at n;have l:=qG k;have h:=qG d;clear j d k
 by_cases m:cap=1
 ·subst m
  obtain rfl:xs= []:=by apply qU;omega
  simp only [xC]at c;go_enter func138,ntmps138;go_wp2
  have g:=qG ((((Chg.refl [a] w).setCell ⟨a,0,none⟩ (.slice (qK b off) 0 0) (.inl (by simp))).alloc (.cells #[qJ x.pc.off,qJ x.pc.len,qJ x.pc.brk] 69)).alloc (.cells #[qJ x.pc.off,qJ x.pc.len,qJ x.pc.brk] 69))
  refine xr (v:=.tuple #[pcV x.pc,.nilIface]) (by simp [results,results138,go_sem];rfl) rfl ⟨rfl,.slice (qK b off) 0 0,.inl ⟨_,_,rfl,rfl⟩,((h.set _).alloc _).alloc _,g⟩
 ·go_enter func138,ntmps138
  go_wp2
  have g:=qG ((((Chg.refl [a] w).setCell ⟨a,0,none⟩ (.slice (qK b (off+4)) xs.length (cap - 1)) (.inl (by simp))).alloc (.cells #[qJ x.pc.off,qJ x.pc.len,qJ x.pc.brk] 69)).alloc (.cells #[qJ x.pc.off,qJ x.pc.len,qJ x.pc.brk] 69))
  refine xr (v:=.tuple #[pcV x.pc,.nilIface]) (by simp [results,results138,go_sem];rfl) rfl ⟨rfl,.slice (qK b (off+4)) xs.length (cap - 1),l.below (B':=B) (g.below (by omega) (by simp;omega)) lR,((h.set _).alloc _).alloc _,g⟩
end Go.Proofs.YtljdnoinennfaaaGreatDoor
namespace Go.Proofs.YtljdnoinennfaaaGreatDoor
open Go Go.RowKit
theorem zEh (n:Nat):okI n []=true:=by simp [okI,total]
theorem yI {xs:List It} {j:Nat} {x:It} (a:xs[j]? =some x):xs.take (j+1)=xs.take j++ [x]:=by
 rw [vY,a];rfl
theorem okI_snoc (n:Nat) (xs:List It) (x:It) (a:okI n xs=true):okI n (xs++ [x])=(pcOk x.pc&&decide (0<=x.lv∧x.lv<=(n:Int) - 1)&&decide (total xs+x.pc.len<=8192)):=by
 simp only [okI,xV]at a;simp only [okI,List.all_append,a.1,Bool.true_and,zq,total,List.all_cons,List.all_nil,Bool.and_true];simp
theorem zCs (n:Nat) (xs:List It) (j:Nat) (b:okI n xs=true):okI n (xs.take j)=true:=by
 simp only [okI,xV,qZ]at b |-
 have c:∀x∈xs,pcOk x.pc=true:=fun x a=>by have:=vm.1 b.1 x a;simp only [xV]at this;exact this.1
 refine⟨vm.2 fun x a=>vm.1 b.1 x (xI a),?_⟩
 have e:total xs=total (xs.take j)+total (xs.drop j):=by rw [<- zq,xG]
 have d:=yk (xs.drop j) (vm.2 fun x a=>c x (xX a))
 omega
theorem zFl {n:Nat} {xs:List It} (a:okI n xs=true):0<=total xs∧total xs<=8192:=by
 simp only [okI,xV,qZ]at a
 have c:=yk xs (vm.2 fun x b=>by have:=vm.1 a.1 x b;simp only [xV]at this;exact this.1)
 omega
theorem Jy {B:Nat} {w:World} {b off cap:Nat} {xs:List It} (c:∀i x,xs[i]? =some x->ItAt w b (off+i*4) x) {j:Nat} (a:j<xs.length):∃x,xs[j]? =some x∧ItAt w b (off+j*4) x:=
 ⟨xs[j],by simp [a],c j _ (by simp [a])⟩
theorem itemsI (B:Nat) (v:Value) (xs:List It) (w:World) (ab:RdI B w v xs) (an:B<=w.heap.size) (ap:xs.length<=1048576):
  Calls Tryz.prog 116 #[v] w fun e w'=>e= .returned (errV (okI xs.length xs) 1)∧Below w.heap.size w w':=by
 rcases ab with ⟨ao,cap,rfl,rfl⟩ | ⟨b,off,cap,rfl,⟨aq,ar,ac⟩,au,H⟩
 ·rw [zEh]
  go_enter Tryz.func116,Tryz.ntmps116;go_wp2_with fail
  go_loopw [3,10] (fun s i wr=>i=qJ 0∧s=qJ 0∧wr=w) (fun _ _ _=>0)
  case atStart=>exact⟨rfl,rfl,rfl⟩
  case round=>
   obtain⟨rfl,rfl,rfl⟩:=hrel;go_wp2;go_ret;exact⟨rfl,qO _ _⟩
 ·have h:b<w.heap.size:=by omega
  have N:=qG H
  have ae:(xs.length:Int)<=1048576:=by omega
  generalize X:xs.length=n at *;generalize F:okI n xs=m;have k:=qG F;unfold maxLen at ac;clear H F;go_enter Tryz.func116,Tryz.ntmps116;go_wp2_with fail
  go_loopw [3,10] (fun s i wr=>∃j:Nat,j<=n∧i=qJ j∧s=qJ (total (xs.take j))∧okI n (xs.take j)=true∧Below w.heap.size w wr) (fun _ i _=>n - (intOf i).toNat)
  case atStart=>exact⟨0,xP _,rfl,by simp [total],by simp [zEh],qO _ _⟩
  case round=>
   obtain⟨j,av,rfl,rfl,y,z⟩:=hrel;have A:=qG y;have c:=qG z;have O:=z.size;have af:=zFl y;generalize G:total (xs.take j)=Y at *;have C:=qG G;clear y z G
   by_cases W:j<n
   ·obtain⟨x,I,J,K,L,M⟩:=Jy (B:=B) (cap:=cap) N (X▸W)
    have ag:(j:Int)<n:=by omega
    have q:=qG I;have P:=(c.cell (p:=⟨b,off+j*4,none⟩) h).trans J;have Q:=(c.cell (p:=⟨b,off+j*4+1,none⟩) h).trans K;have R:=(c.cell (p:=⟨b,off+j*4+2,none⟩) h).trans L;have S:=(c.cell (p:=⟨b,off+j*4+3,none⟩) h).trans M
    have ah:b<wr.heap.size:=by omega
    clear J K L M I;have D:=qG ((qO wr.heap.size wr).alloc lR (.cells #[qJ x.pc.off,qJ x.pc.len,qJ x.pc.brk,qJ x.lv] 71));have E:(wr.alloc (.cells #[qJ x.pc.off,qJ x.pc.len,qJ x.pc.brk,qJ x.lv] 71)).heap[wr.heap.size]? =some (.cells #[qJ x.pc.off,qJ x.pc.len,qJ x.pc.brk,qJ x.lv] 71 (0,0)):=xm _ _
    have r:wr.heap.size<(wr.alloc (.cells #[qJ x.pc.off,qJ x.pc.len,qJ x.pc.brk,qJ x.lv] 71)).heap.size:=by simp
    go_wp2_with fail;generalize wr.alloc (.cells #[qJ x.pc.off,qJ x.pc.len,qJ x.pc.brk,qJ x.lv] 71)=Z at *;refine(pieceI x.pc Z).mono ?_;rintro e w1 ⟨rfl,o⟩;have t:=(o.block _ r).trans E
    have ai:w1.cell? ⟨wr.heap.size,1,none⟩=some (qJ x.pc.len):=by rw [qQ w1 _ 1 _ _ _ t];rfl
    have aj:w1.cell? ⟨wr.heap.size,3,none⟩=some (qJ x.lv):=by rw [qQ w1 _ 3 _ _ _ t];rfl
    have ak:wr.heap.size<w1.heap.size:=by have:=o.size;omega
    have l:=qG (c.trans ((D.trans (o.mono (k7 r))).mono O));have g:=qG (okI_snoc n (xs.take j) x A)
    have u:=qG (show okI n xs=true->okI n (xs.take j++ [x])=true from fun aa=>by rw [<- yI q.out];exact zCs n xs (j+1) aa)
    rw [C.out]at g;clear o t E r D P Q R S c
    cases hpk:pcOk x.pc with
    | false=>
     have a:okI n xs=false:=by
      cases hh:okI n xs with
      | false=>rfl
      | true=>have:=u hh;rw [g.out,hpk]at this;simp at this
     have d:m=false:=k.symm.trans a;clear a;simp only [errV,vK,kQ];go_wp2;go_ret
     exact⟨by first | rfl | (rw [d];rfl),l⟩
    | true=>
     have T:=hpk;simp only [pcOk,qZ]at T;simp only [errV,kP]
     by_cases am:8192<Y+x.pc.len
     ·have a:okI n xs=false:=by
       cases hh:okI n xs with
       | false=>rfl
       | true=>have:=u hh;rw [g.out]at this;simp at this;omega
      have d:m=false:=k.symm.trans a;clear a;go_wp2;go_ret
      exact⟨by first | rfl | (rw [d];rfl),l⟩
     ·have f:=qG (jP x.lv 0 ((n:Int) - 1) 1 w1)
      cases hlv:decide (0<=x.lv∧x.lv<=(n:Int) - 1)with
      | false=>
       rw [hlv]at f
       have a:okI n xs=false:=by
        cases hh:okI n xs with
        | false=>rfl
        | true=>have:=u hh;rw [g.out,hlv]at this;simp at this
       have d:m=false:=k.symm.trans a;clear hpk hlv a;simp only [errV,vK,kQ]at f;go_wp2_with fail;refine f.mono ?_;rintro e ad ⟨rfl,rfl⟩;go_wp2;go_ret
       exact⟨by first | rfl | (rw [d];rfl),l⟩
      | true=>
       rw [hlv]at f
       have U:=qG (show okI n (xs.take j++ [x])=true by rw [g.out,hpk,hlv];simp;omega)
       clear hpk hlv;simp only [errV,kP]at f;go_wp2_with fail;refine f.mono ?_;rintro e ad ⟨rfl,rfl⟩;go_wp2;go_roundw
       case rel=>exact⟨j+1,by omega,by go_num,by rw [yI q.out,zq,C.out];simp [total],by rw [yI q.out];exact U,l⟩
       case measure=>simp [intOf];omega
   ·have V:j=n:=by omega
    subst V
    have al:¬ (j:Int)<(j:Int):=by omega
    have e:okI j xs=true:=by
     have:=A;rw [xE (by omega)]at this;exact this
    have d:m=true:=k.symm.trans e;clear e;go_wp2;go_ret
    exact⟨by first | rfl | (rw [d];rfl),c⟩
def Fine (xs:List It):Prop:=(∀x∈xs,pcOk x.pc=true∧0<=x.lv∧x.lv<=8191)∧total xs<=8192
theorem Fine.len {xs:List It} (b:Fine xs):(xs.length:Int)<=total xs:=yk xs (vm.2 fun x a=>(b.1 x a).1)
theorem Fine.right {a b:List It} (d:Fine (a++b)):Fine b:=by
 have e:=yk a (vm.2 fun x c=>(d.1 x (by simp [c])).1)
 refine⟨fun x c=>d.1 x (by simp [c]),?_⟩
 have:=d.2;rw [zq]at this;omega
theorem Fine.left {a b:List It} (d:Fine (a++b)):Fine a:=by
 have e:=yk b (vm.2 fun x c=>(d.1 x (by simp [c])).1)
 refine⟨fun x c=>d.1 x (by simp [c]),?_⟩
 have:=d.2;rw [zq]at this;omega
theorem JM:∀ (T:AT) (d:Int),T.flat=(T.told d).map (fun x=>x.pc)
 | .nil,_=>rfl
 | .node l p r,d=>by simp only [AT.flat,AT.told,vT,vN,JM l (d+1),JM r (d+1)]
theorem Fine.ok {T:AT} {d:Int} (b:Fine (T.told d)):T.ok:=by
 refine⟨fun p a=>?_,by rw [<- AT.rns_told T d];exact b.2⟩
 rw [JM T d,kS]at a;obtain⟨x,c,rfl⟩:=a;exact(b.1 x c).1
def SubPost (B a:Nat) (w:World) (r:Option (AT×List It)) (e:Ending) (w':World):Prop:=
 match r with
 | none=>e= .returned (.tuple #[.pointer none,.iface 121 (qJ 1)])∧Chg [a] w w'
 | some (T,ys)=>∃u bs b,e= .returned (.tuple #[.pointer u,.nilIface])∧Lies w' w.heap.size T u bs∧bs.Nodup∧RdI B w' b ys∧Rdr w' a b∧Chg [a] w w'
theorem zFm {a b:List Nat} {m:Nat} (f:a.Nodup) (g:b.Nodup) (h:∀x∈a,x<m) (i:∀x∈b,m<=x):(a++b).Nodup:=by
 rw [kF]
 refine⟨f,g,fun x c y d e=>?_⟩
 subst e;have:=h x c;have:=i x d;omega
theorem sub_nil (B h:Nat) (v:Value) (xs:List It) (i:Int) (w:World) (a:RdI B w v xs) (d:Rdr w h v) (g:∀x f,xs=x::f->x.lv<i) (o:xs.length<=8192):
  Calls Tryz.prog 117 #[.pointer (qK h 0),qJ i] w fun e w'=>e= .returned (.tuple #[.pointer none,.nilIface])∧w'=w:=by
 have c:=d.c;have l:=d.lt
 cases xs with
 | nil=>
  obtain⟨ao,cap,rfl⟩:=a.val;simp only [xC]at c;clear a d g;go_enter Tryz.func117,Tryz.ntmps117;go_wp2_with fail;go_ret2;exact⟨rfl,rfl⟩
 | cons x f=>
  obtain⟨b,off,cap,rfl,p,j,q,⟨k,r,s,t⟩,_⟩:=a.head;have m:=g x f rfl;have n:b<w.heap.size:=xD w _ k;unfold maxLen at j;clear a d g;go_enter Tryz.func117,Tryz.ntmps117;go_wp2_with fail;go_ret2;exact⟨rfl,rfl⟩
theorem subtreeN:∀ (f:Nat) (g:Int) (xs:List It) (B j:Nat) (v:Value) (w:World),0<=g->g+f=8200->g<=8192->Fine xs->RdI B w v xs->Rdr w j v->B<=j->
  Calls Tryz.prog 117 #[.pointer (qK j 0),qJ g] w (SubPost B j w (parse f g xs)):=by
 intro f
 induction f with
 | zero=>intro g xs B j v w b0 b1 b2;omega
 | succ f be=>
  intro g xs B j v w b0 b1 b2 z J A S
  have bf:xs.length<=8192:=by have:=z.len;have:=z.2;omega
  by_cases K:∀x o,xs=x::o->x.lv<g
  ·refine(sub_nil B j v xs g w J A K bf).mono ?_
   rintro e w' ⟨rfl,rfl⟩
   have bg:parse (f+1) g xs=some (.nil,xs):=by
    cases xs with
    | nil=>rfl
    | cons x o=>rw [parse,xj (K x o rfl)]
   rw [bg];exact⟨none,[],v,rfl,⟨rfl,rfl⟩,List.nodup_nil,J,A,Chg.refl _ _⟩
  ·cases xs with
   | nil=>exact absurd (fun x o d=>by cases d) K
   | cons x o=>
    have bh:¬x.lv<g:=fun d=>K (fun y D e=>by cases e;exact d)
    clear K
    have cn:=(z.1 x (by simp)).2
    have ac:=qG (be (g+1) (x::o) B j v w (by omega) (by omega) (by omega) z J A S)
    obtain⟨b,off,cap,rfl,cy,s,cz,⟨ay,b5,b6,b7⟩,_⟩:=J.head;have bi:b<w.heap.size:=xD w _ ay;have c:=A.c;have co:=A.lt;unfold maxLen at s
    have i:=qG (show parse (f+1) g (x::o)=_ by rw [parse,qT bh])
    generalize parse (f+1) g (x::o)=b3 at i |-;have bj:=qG z;clear J A z;go_enter Tryz.func117,Tryz.ntmps117;go_wp2_with fail;refine ac.mono ?_;clear ac
    cases hp1:parse f (g+1) (x::o)with
    | none=>
     rintro e w1 ⟨rfl,E⟩;have t:=qG E;rw [hp1]at i;clear E hp1;go_wp2_with fail;go_ret2;rw [i.out];exact⟨rfl,t⟩
    | some q=>
     obtain⟨h,ys⟩:=q;rintro e w1 ⟨b8,b9,az,rfl,a0,a1,a2,ab,E⟩;have t:=qG E;have N:=qG a0;have bk:=qG a1;have V:=qG a2;have W:=qG ab;have ad:=(yi _ _ _ _ _ hp1).1;have cp:=ab.lt;have cq:=E.size
     have F:=qG (show Fine (h.told (g+1)++ys)from ad▸bj)
     have ae:ys.length<=8192:=by have:=F.right.len;have:=F.right.2;omega
     rw [hp1]at i;clear E a0 a1 a2 ab hp1 ad c bi ay b5 b6 b7
     by_cases C:∀y D,ys=y::D->y.lv≠g
     ·have G:=qG (zFk B j az ys g w1 V W S C ae)
      have bl:=qG (show b3=none by
       rw [i.out]
       cases ys with
       | nil=>rfl
       | cons y D=>simp only;rw [xj (C y D rfl)])
      clear i C;go_wp2_with fail;refine G.mono ?_;rintro e n ⟨rfl,a3⟩
      have H:=qG (t.trans (Chg.qa (bs:=[j]) a3) (fun _ d _=>d) (fun _ d _=>d))
      clear a3 G t;go_wp2_with fail;go_ret2;rw [bl.out];exact⟨rfl,H.alloc _⟩
     ·cases ys with
      | nil=>exact absurd (fun y D d=>by cases d) C
      | cons y zs=>
       have bm:y.lv=g:=Classical.byContradiction fun d=>C (fun cx D e=>by cases e;exact d)
       clear C;subst bm;simp only [ne_eq,not_true_eq_false,kQ]at i;simp only [q9]at ae
       have G:=qG (takeN_ok B j az y zs w1 V W S (by omega))
       clear V W;go_wp2_with fail;refine G.mono ?_;rintro e n ⟨rfl,ca,a4,a5,T⟩;have cr:=T.size
       have af:=qG (N.chg T (fun k l e=>by have:=(N.lt k l).1;simp at e;omega))
       have ag:=qG (fun k l=>(N.lt k l).2)
       have H:=qG ((t.trans T (fun _ d _=>d) (fun _ d _=>d)).alloc (.cells #[qJ y.pc.off,qJ y.pc.len,qJ y.pc.brk] 69))
       have X:=qG ((qO n.heap.size n).alloc lR (.cells #[qJ y.pc.off,qJ y.pc.len,qJ y.pc.brk] 69))
       have ah:=qG (show Fine zs from(Fine.right (a:=[y]) F.right))
       have ai:=qG (be (y.lv+1) zs B j ca (n.alloc (.cells #[qJ y.pc.off,qJ y.pc.len,qJ y.pc.brk] 69)) (by omega) (by omega) (by omega) ah (a4.below X (by omega)) (a5.alloc _) S)
       have aj:(n.alloc (.cells #[qJ y.pc.off,qJ y.pc.len,qJ y.pc.brk] 69)).heap[n.heap.size]? =some (.cells #[qJ y.pc.off,qJ y.pc.len,qJ y.pc.brk] 69 (0,0)):=xm _ _
       have cs:(n.alloc (.cells #[qJ y.pc.off,qJ y.pc.len,qJ y.pc.brk] 69)).heap.size=n.heap.size+1:=by simp
       have Y:=qG (af.below X lR);clear a4 a5 T G t N af X;unfold pcV;go_wp2_with fail;generalize n.alloc (.cells #[qJ y.pc.off,qJ y.pc.len,qJ y.pc.brk] 69)=b4 at *;refine ai.mono ?_;clear ai
       cases hp2:parse f (y.lv+1) zs with
       | none=>
        rintro e p ⟨rfl,r⟩
        have O:=qG (H.trans r (fun _ d _=>d) (fun _ d _=>d))
        rw [hp2]at i;clear r hp2;go_wp2_with fail;go_ret2;rw [i.out];exact⟨rfl,O⟩
       | some q=>
        obtain⟨R,cb⟩:=q;rintro e p ⟨cc,cd,c0,rfl,U,a6,a7,a8,r⟩;have ct:=r.size;have ak:=(yi _ _ _ _ _ hp2).1;rw [hp2]at i
        have al:=qG (Y.chg r (fun k l e=>by have:=(Y.lt k l).1;simp at e;omega))
        have am:=qG (U.base (base':=w.heap.size) (by omega))
        have bn:=qG (fun k l=>(U.lt k l).1)
        have bo:=qG (fun k l=>(U.lt k l).2)
        have O:=qG (H.trans r (fun _ d _=>d) (fun _ d _=>d))
        have P:=(r.block n.heap.size (by omega) (by simp;omega)).trans aj
        have bp:p.cell? ⟨n.heap.size,0,none⟩=some (qJ y.pc.off):=by rw [qQ p _ 0 _ _ _ P];rfl
        have bq:p.cell? ⟨n.heap.size,1,none⟩=some (qJ y.pc.len):=by rw [qQ p _ 1 _ _ _ P];rfl
        have br:p.cell? ⟨n.heap.size,2,none⟩=some (qJ y.pc.brk):=by rw [qQ p _ 2 _ _ _ P];rfl
        have Z:Hid (AT.node h y.pc R).ok:=by
         have Q:h.told (y.lv+1)++y::zs=(AT.node h y.pc R).told y.lv++cb:=by
          rw [ak];obtain⟨c1,c2⟩:=y;simp [AT.told]
         exact Fine.ok (Fine.left (Q▸F))
        have cu:=Z.left.bd;have cv:=Z.right.bd
        have bt:(h.ht:Int)<=8192:=by have:=zv h;omega
        have bu:(R.ht:Int)<=8192:=by have:=zv R;omega
        have bv:=qG a6;have an:=qG a7;have aa:=qG a8
        have ao:=qG (plantN h y.pc R b8 cc b9 cd w.heap.size p al am Z (by omega))
        clear U a6 a7 a8 r P aj hp2 ak Y H F ah;go_wp2_with fail;refine ao.mono ?_;clear ao;rintro e ce ⟨nb,rfl,c3,a9,L⟩;have cw:=L.size;have ap:=qG a9
        have aq:=qG (O.trans (Chg.qa (bs:=[j]) L) (fun _ d _=>d) (fun _ d _=>d))
        have ar:=qG (an.below L (by omega))
        have au:=qG (aa.below L (by have:=aa.lt;omega))
        obtain⟨c4,cf,cg,ch,ci,Q,cj,ba,bc,bd,ck⟩:=a9;simp only [xw,ka]at Q;obtain⟨rfl,_⟩:=Q;have av:=qG (leanN h y.pc R nb cf cg ch ci w.heap.size _ _ _ _ ce ba bc bd bt bu);clear L ba bc bd cj ck al am O an aa bp bq br;go_wp2_with fail;refine av.mono ?_;rintro e cl ⟨rfl,M⟩
        have aw:=qG (aq.trans M (fun _ d _=>d) (fun _ d _=>by simp at d))
        have bw:=qG (ap.chg M (fun _ _=>by simp))
        have bx:=qG (ar.below (M.below (B:=B) (by omega) (by simp)) lR)
        have bz:=qG (au.chg M (by simp))
        have u:=qG (jP ((h.ht:Int) - R.ht) (-1) 1 1 cl);clear av M ap aq ar au
        by_cases ax:h.ht<=R.ht+1∧R.ht<=h.ht+1
        ·have I:decide (-1<=(h.ht:Int) - R.ht∧(h.ht:Int) - R.ht<=1)=true:=by simp;omega
         rw [I]at u;simp only [errV,kP]at u;simp only [xj ax]at i;clear I;go_wp2_with fail;refine u.mono ?_;rintro e cm ⟨rfl,rfl⟩;go_wp2_with fail;go_ret2;rw [i.out];refine⟨_,_,_,rfl,bw,?_,bx,bz,aw⟩;rw [vM]
         refine⟨fun s=>?_,zFm bk bv (m:=b4.heap.size) (fun k l=>by have:=ag k l;omega) (fun k l=>bn k l)⟩
         rcases xv.1 s with s | s
         ·have:=ag nb s;omega
         ·have:=bo nb s;omega
        ·have I:decide (-1<=(h.ht:Int) - R.ht∧(h.ht:Int) - R.ht<=1)=false:=by simp;omega
         rw [I]at u;simp only [errV,vK,kQ]at u;simp only [qT ax]at i;clear I;go_wp2_with fail;refine u.mono ?_;rintro e cm ⟨rfl,rfl⟩;go_wp2_with fail;go_ret2;rw [i.out];exact⟨rfl,aw⟩
def seg (xs:List It) (lo hi:Nat):List It:=(xs.drop lo).take (hi - lo)
theorem Zs (xs:List It) (lo hi i:Nat) (a:i<hi - lo):(seg xs lo hi)[i]? =xs[lo+i]?:=by
 rw [seg,xO,xj a,vn]
theorem X3 (xs:List It) (lo hi i:Nat) (a:hi - lo<=i):(seg xs lo hi)[i]? =none:=by
 rw [seg,xO,qT (by omega)]
theorem Jz (xs:List It) (lo hi:Nat) (a:hi<=lo):seg xs lo hi= []:=by
 rw [seg,show hi - lo=0 by omega];rfl
theorem zCx (xs:List It) (lo hi:Nat) (a:hi<=xs.length):(seg xs lo hi).length=hi - lo:=by
 rw [seg,qN,qS];omega
theorem KX (xs:List It) (lo a hi:Nat) (y:It) (h:lo<=a) (k:a<hi) (b:xs[a]? =some y):seg xs lo hi=seg xs lo a++y::seg xs (a+1) hi:=by
 apply kV;intro i
 have f:a<xs.length:=by
  rcases xS a xs.length with g | g
  ·exact g
  ·rw [xQ g]at b;cases b
 have c:(seg xs lo a).length=a - lo:=zCx xs lo a (by omega)
 rcases kN i (a - lo)with g | g | g
 ·rw [xA (by omega),Zs _ _ _ _ (by omega),Zs _ _ _ _ (by omega)]
 ·rw [xe (by omega),c,Zs _ _ _ _ (by omega),g]
  simp only [vO,kz]
  rw [show lo+(a - lo)=a by omega,b]
 ·rw [xe (by omega),c]
  obtain⟨j,e⟩:∃j,i - (a - lo)=j+1:=⟨i - (a - lo) - 1,by omega⟩
  rw [e,vh]
  by_cases d:i<hi - lo
  ·rw [Zs _ _ _ _ d,Zs _ _ _ _ (by omega),show a+1+j=lo+i by omega]
  ·rw [X3 _ _ _ _ (by omega),X3 _ _ _ _ (by omega)]
theorem zBa (xs:List It) (lo k:Nat) (x:It) (a:lo<=k) (b:xs[k]? =some x):seg xs lo (k+1)=seg xs lo k++ [x]:=by
 rw [KX xs lo k (k+1) x a (by omega) b,Jz xs (k+1) (k+1) (by omega)]
theorem zEj {xs:List It} {lo hi:Nat} {z:It} (a:z∈seg xs lo hi):∃i,lo<=i∧i<hi∧xs[i]? =some z:=by
 obtain⟨i,hi'⟩:=vc.1 a
 by_cases g:i<hi - lo
 ·rw [Zs _ _ _ _ g]at hi';exact⟨lo+i,by omega,by omega,hi'⟩
 ·rw [X3 _ _ _ _ (by omega)]at hi';cases hi'
end Go.Proofs.YtljdnoinennfaaaGreatDoor

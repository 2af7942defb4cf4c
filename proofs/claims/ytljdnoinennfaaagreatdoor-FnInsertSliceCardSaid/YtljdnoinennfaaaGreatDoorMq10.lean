import Derived.Test.YtljdnoinennfaaaGreatDoorMq07
import Derived.RegionTactic
import Derived.ChangeAlike
import Derived.Test.YtljdnoinennfaaaGreatDoorMq98
set_option linter.all false
set_option maxRecDepth 100000
set_option maxHeartbeats 8000000
namespace Go.Proofs.YtljdnoinennfaaaGreatDoor
open Go Go.RowKit
theorem XQ (zs:List Int) (v:Value) (w:World) (l:Rd .i32 w v zs) (r:zs.length<=1099511627776):
  Calls Tryz.prog 49 #[v] w fun e w'=>e= .returned (qJ (brk zs))∧w'=w:=by
 rcases l with ⟨ao,cap,rfl,rfl⟩ | ⟨b,off,cap,rfl,m,g⟩
 ·go_enter Tryz.func49,Tryz.ntmps49
  go_wp2;refine xY 1 ?_;rw [xu];go_wp2;go_ret;exact⟨rfl,rfl⟩
 ·have h:=qG g
  clear g m;go_enter Tryz.func49,Tryz.ntmps49;go_wp2
  go_loop [3,8] (fun n i=>∃k:Nat,k<=zs.length∧i=qJ k∧n=qJ (brk (zs.take k))) (fun _ i=>zs.length - (intOf i).toNat)
  case atStart=>exact⟨0,xP _,rfl,rfl⟩
  case round=>
   obtain⟨k,s,rfl,rfl⟩:=hrel;have o:=zCo (zs.take k);have p:(zs.take k).length<=k:=List.length_take_le _ _
   by_cases f:k<zs.length
   ·have j:=h k f
    have a:=zB0 zs k f;generalize zs.getD k 0=z at j a
    by_cases c:z=10
    ·rw [xj c]at a
     subst c;have d:=qG a;clear a;go_wp2;go_round
     case rel=>exact⟨k+1,by omega,by go_num,by rw [d.out]⟩
     case measure=>simp [intOf];omega
    ·rw [qT c]at a
     have q:(z==10)=false:=by simp [c]
     have d:=qG a;clear a c;go_wp2;go_round
     case rel=>exact⟨k+1,by omega,by go_num,by rw [d.out,Qb]⟩
     case measure=>simp [intOf];omega
   ·obtain rfl:k=zs.length:=by omega
    go_wp2;go_ret;exact⟨rfl,rfl⟩
theorem zCv (zs:List Int) (v:Value) (w:World) (l:Rd .i32 w v zs) (r:zs.length<=1099511627776):
  Calls Tryz.prog 143 #[v] w fun e w'=>e= .returned (qJ (brk zs))∧w'=w:=by
 rcases l with ⟨ao,cap,rfl,rfl⟩ | ⟨b,off,cap,rfl,m,g⟩
 ·go_enter Tryz.func143,Tryz.ntmps143
  go_wp2;refine xY 1 ?_;rw [xu];go_wp2;go_ret;exact⟨rfl,rfl⟩
 ·have h:=qG g
  clear g m;go_enter Tryz.func143,Tryz.ntmps143;go_wp2
  go_loop [3,8] (fun n i=>∃k:Nat,k<=zs.length∧i=qJ k∧n=qJ (brk (zs.take k))) (fun _ i=>zs.length - (intOf i).toNat)
  case atStart=>exact⟨0,xP _,rfl,rfl⟩
  case round=>
   obtain⟨k,s,rfl,rfl⟩:=hrel;have o:=zCo (zs.take k);have p:(zs.take k).length<=k:=List.length_take_le _ _
   by_cases f:k<zs.length
   ·have j:=h k f
    have a:=zB0 zs k f;generalize zs.getD k 0=z at j a
    by_cases c:z=10
    ·rw [xj c]at a
     subst c;have d:=qG a;clear a;go_wp2;go_round
     case rel=>exact⟨k+1,by omega,by go_num,by rw [d.out]⟩
     case measure=>simp [intOf];omega
    ·rw [qT c]at a
     have q:(z==10)=false:=by simp [c]
     have d:=qG a;clear a c;go_wp2;go_round
     case rel=>exact⟨k+1,by omega,by go_num,by rw [d.out,Qb]⟩
     case measure=>simp [intOf];omega
   ·obtain rfl:k=zs.length:=by omega
    go_wp2;go_ret;exact⟨rfl,rfl⟩
theorem KU (B:Nat) (w:World) (n:Nat):Below B w (w.drewN n):=by
 induction n generalizing w with
 | zero=>exact qO _ _
 | succ n a=>exact⟨(a w.drew).os,(a w.drew).tape,(a w.drew).output,(a w.drew).size,(a w.drew).block⟩
theorem XU:∀ (T:AT) (d:Int),(T.told d).map It.pc=T.flat
 | .nil,_=>rfl
 | .node l p r,d=>by simp only [AT.told,vT,vN,AT.flat,XU l,XU r]
theorem rd_cut {w:World} {b o cap:Nat} {zs:List Int} (c:∀i,i<zs.length->w.cell? ⟨b,o+i,none⟩=some (.int .i32 (zs.getD i 0))) (k l:Nat) (d:k+l<=zs.length) (e:0<l) (f:zs.length<=cap) (g:cap<=maxLen):
  Rd .i32 w (.slice (qK b (o+k)) l (cap - k)) ((zs.drop k).take l):=by
 have a:((zs.drop k).take l).length=l:=by rw [qN,qS];omega
 refine .inr ⟨b,o+k,cap - k,by rw [a],⟨by omega,by omega,by omega⟩,fun i hi=>?_⟩
 rw [a]at hi
 rw [show o+k+i=o+(k+i)by omega,c (k+i) (by omega)]
 congr 2
 simp only [qW,xO,vn];rw [xj hi]
theorem clip32N (ao:Option Addr) (n cap:Nat) (w:World) (b:n<=cap) (c:cap<=maxLen):
  Calls Tryz.prog 83 #[.slice ao n cap] w fun e w'=>e= .returned (.slice ao n n)∧w'=w:=by
 have a:(n:Int)<=(cap:Int):=by omega
 go_enter Tryz.func83,Tryz.ntmps83;go_wp2;go_ret;exact⟨rfl,rfl⟩
theorem Yg (zs:List Int) (c b o cap k l:Nat) (w:World) (h:∀i,i<zs.length->w.cell? ⟨b,o+i,none⟩=some (.int .i32 (zs.getD i 0))) (x:w.cell? ⟨c,0,none⟩=some (.slice (qK b o) zs.length cap)) (y:b<w.heap.size) (z:c<w.heap.size) (A:k+l<=zs.length) (B:0<l) (C:zs.length<=cap) (j:cap<=maxLen) (M:zs.length<=1048576):
  Calls Tryz.prog 119 #[.pointer (qK c 0),qJ (k:Int),qJ (l:Int)] w fun e w'=>e= .returned (.agg #[qJ (k:Int),qJ (l:Int),qJ (brk ((zs.drop k).take l))])∧Below w.heap.size w w':=by
 have f:=qG ((qO w.heap.size w).alloc lR (.cells #[qJ 0,qJ 0,qJ 0] 69))
 have m:=qG (zCv ((zs.drop k).take l) _ (w.alloc (.cells #[qJ 0,qJ 0,qJ 0] 69)) (rd_cut (fun i hi=>(f.cell (p:=⟨b,o+i,none⟩) y).trans (h i hi)) k l A B C j) (by rw [qN,qS];omega))
 have E:=(f.cell (p:=⟨c,0,none⟩) z).trans x;have g:(w.alloc (.cells #[qJ 0,qJ 0,qJ 0] 69)).heap[w.heap.size]? =some (.cells #[qJ 0,qJ 0,qJ 0] 69 (0,0)):=xm _ _;have d:=qG g;generalize brk ((zs.drop k).take l)=u at *;generalize zs.length=n at *;unfold maxLen at j
 have F:(k:Int)<=(k:Int)+(l:Int):=by omega
 have G:(k:Int)+(l:Int)<=(cap:Int):=by omega
 have H:(0:Int)<=(k:Int)+(l:Int):=by omega
 have I:¬cap=k:=by omega
 clear h g;go_enter Tryz.func119,Tryz.ntmps119;go_wp2_with fail;generalize w.alloc (.cells #[qJ 0,qJ 0,qJ 0] 69)=a at *;refine m.mono ?_;rintro e w1 ⟨rfl,D⟩;have q:=D.symm;subst q
 have r:a.cell? ⟨w.heap.size,0,none⟩=some (qJ 0):=by rw [qQ a _ 0 _ _ _ d.out];rfl
 have s:a.cell? ⟨w.heap.size,1,none⟩=some (qJ 0):=by rw [qQ a _ 1 _ _ _ d.out];rfl
 have t:a.cell? ⟨w.heap.size,2,none⟩=some (qJ 0):=by rw [qQ a _ 2 _ _ _ d.out];rfl
 have J:=xo a w.heap.size 0 _ _ d;have K:=xo a w.heap.size 1 _ _ d;have L:=xo a w.heap.size 2 _ _ d;go_wp2
 refine xr (v:=.agg #[qJ (k:Int),qJ (l:Int),qJ u]) (by simp [results,Tryz.results119,go_sem,r,s,t]) rfl ⟨rfl,?_⟩
 exact((f.setCell (by simp) _).setCell (by simp) _).setCell (by simp) _
def wpB (zs:List Int) (p:Pc):Bool:=decide (p.off+p.len<=zs.length)&&decide (p.brk=brk (ptx zs p))
theorem zEi {zs:List Int} {p:Pc} (c:pcOk p=true):wpB zs p=true↔WP zs p:=by
 simp only [pcOk,qZ]at c;simp only [wpB,xV,qZ,WP];constructor
 ·rintro ⟨a,b⟩;exact⟨by omega,by omega,a,b⟩
 ·rintro ⟨_,_,a,b⟩;exact⟨a,b⟩
def wps (zs:List Int) (xs:List It):Bool:=xs.all fun x=>wpB zs x.pc
theorem wps_snoc (zs:List Int) (xs:List It) (x:It):wps zs (xs++ [x])=(wps zs xs&&wpB zs x.pc):=by simp [wps]
theorem zCw {zs:List Int} {p xs:List It} (a:p<+:xs) (b:wps zs p=false):wps zs xs=false:=by
 obtain⟨r,rfl⟩:=a;simp only [wps,List.all_append,Bool.and_eq_false_iff];exact .inl b
def pRead (zs:List Int) (xs:List It):Option AT:=
 match readT xs with
 | none=>none
 | some T=>if zs.length<=220000∧wps zs xs=true then some T else none
theorem XV {zs:List Int} {xs:List It} {T:AT} (a:pRead zs xs=some T):readT xs=some T∧zs.length<=220000∧T.wp zs∧xs=T.told 0:=by
 unfold pRead at a
 cases hr:readT xs with
 | none=>rw [hr]at a;cases a
 | some U=>
  rw [hr]at a;simp only at a
  split at a
  ·rename_i c
   cases a;obtain⟨e,_,b,_⟩:=YQ hr
   refine⟨rfl,c.1,(Jv zs T 0).1 fun x d=>?_,b⟩
   have f:pcOk x.pc=true:=by
    simp only [okT,xV,vm]at e;exact e.1.1.2 x (b▸d)
   exact(zEi f).1 (vm.1 c.2 x (b▸d))
  ·cases a
theorem zFt (zs:List Int) (b o cap k l:Nat) (w:World) (g:∀i,i<zs.length->w.cell? ⟨b,o+i,none⟩=some (.int .i32 (zs.getD i 0))) (u:b<w.heap.size) (x:k+l<=zs.length) (y:0<l) (z:zs.length<=cap) (h:cap<=maxLen) (H:zs.length<=1048576):
  Calls Tryz.prog 62 #[.slice (qK b o) zs.length cap,qJ (k:Int),qJ (l:Int)] w fun e w'=>e= .returned (.agg #[qJ (k:Int),qJ (l:Int),qJ (brk ((zs.drop k).take l))])∧Below w.heap.size w w':=by
 have d:=qG ((qO w.heap.size w).alloc lR (.cells #[qJ 0,qJ 0,qJ 0] 69))
 have j:=qG (XQ ((zs.drop k).take l) _ (w.alloc (.cells #[qJ 0,qJ 0,qJ 0] 69)) (rd_cut (fun i hi=>(d.cell (p:=⟨b,o+i,none⟩) u).trans (g i hi)) k l x y z h) (by rw [qN,qS];omega))
 have f:(w.alloc (.cells #[qJ 0,qJ 0,qJ 0] 69)).heap[w.heap.size]? =some (.cells #[qJ 0,qJ 0,qJ 0] 69 (0,0)):=xm _ _;have c:=qG f;generalize brk ((zs.drop k).take l)=t at *;generalize zs.length=n at *;unfold maxLen at h
 have B:(k:Int)<=(k:Int)+(l:Int):=by omega
 have C:(k:Int)+(l:Int)<=(n:Int):=by omega
 have D:¬cap=k:=by omega
 clear g f;go_enter Tryz.func62,Tryz.ntmps62;go_wp2_with fail;generalize w.alloc (.cells #[qJ 0,qJ 0,qJ 0] 69)=a at *;refine j.mono ?_;rintro e w1 ⟨rfl,A⟩;have m:=A.symm;subst m
 have q:a.cell? ⟨w.heap.size,0,none⟩=some (qJ 0):=by rw [qQ a _ 0 _ _ _ c.out];rfl
 have r:a.cell? ⟨w.heap.size,1,none⟩=some (qJ 0):=by rw [qQ a _ 1 _ _ _ c.out];rfl
 have s:a.cell? ⟨w.heap.size,2,none⟩=some (qJ 0):=by rw [qQ a _ 2 _ _ _ c.out];rfl
 have E:=xo a w.heap.size 0 _ _ c;have F:=xo a w.heap.size 1 _ _ c;have G:=xo a w.heap.size 2 _ _ c;go_wp2
 refine xr (v:=.agg #[qJ (k:Int),qJ (l:Int),qJ t]) (by simp [results,Tryz.results62,go_sem,q,r,s]) rfl ⟨rfl,?_⟩
 exact((d.setCell (by simp) _).setCell (by simp) _).setCell (by simp) _
theorem yf (zs:List Int) (b o cap:Nat) (k l:Int) (w:World) (a:∀i,i<zs.length->w.cell? ⟨b,o+i,none⟩=some (.int .i32 (zs.getD i 0))) (c:b<w.heap.size) (d:0<=k) (n:k+l<=zs.length) (p:0<l) (f:zs.length<=cap) (g:cap<=maxLen) (h:zs.length<=1048576):
  Calls Tryz.prog 62 #[.slice (qK b o) zs.length cap,qJ k,qJ l] w fun e w'=>e= .returned (.agg #[qJ k,qJ l,qJ (brk ((zs.drop k.toNat).take l.toNat))])∧Below w.heap.size w w':=by
 obtain⟨j,rfl⟩:=xZ d
 obtain⟨m,rfl⟩:=xZ (show 0<=l by omega)
 exact zFt zs b o cap j m w a c (by omega) (by omega) f g h
def Src (bs:List Int) (a:Value) (p:Nat) (w:World):Prop:=
 (∃ (i:Nat) (x:Int),i<=bs.length∧0<=x∧x<18446744073709551616∧w.heap[p]? =some (.cells #[a,qJ i,.int .u64 x] 104 (0,0)))∧
 (∀z∈bs,0<=z∧z<=255)∧bs.length<=1048576∧
 ((∃ao cap,a= .slice ao 0 cap∧bs= [])∨
  (∃b off cap,a= .slice (qK b off) bs.length cap∧b≠p∧(0<bs.length∧bs.length<=cap∧cap<=maxLen)∧∀i,i<bs.length->w.cell? ⟨b,off+i,none⟩=some (.int .u8 (bs.getD i 0))))
theorem Src.lt {bs:List Int} {c:Value} {p:Nat} {w:World} (a:Src bs c p w):p<w.heap.size:=by
 obtain⟨⟨i,x,_,_,_,b⟩,_⟩:=a
 rcases xS p w.heap.size with a | a
 ·exact a
 ·rw [vJ a]at b;cases b
theorem Src.turned {bs:List Int} {a:Value} {p:Nat} {w w':World} (f:Src bs a p w) (g:w.grownBy w' (some p))
  (h:∃ (i:Nat) (x:Int),i<=bs.length∧0<=x∧x<18446744073709551616∧w'.heap[p]? =some (.cells #[a,qJ i,.int .u64 x] 104 (0,0))):Src bs a p w':=by
 obtain⟨_,j,k,c⟩:=f;refine⟨h,j,k,?_⟩
 rcases c with c | ⟨b,off,cap,l,e,m,n⟩
 ·exact .inl c
 ·refine .inr ⟨b,off,cap,l,e,m,fun i hi=>?_⟩
  have d:=n i hi
  rw [qV (w:=w) (g.block b (xD w _ d) (by simpa using e))]
  exact d
theorem Src.done2 {bs:List Int} {b:Value} {p:Nat} {w W:World} (g:Src bs b p w) {i:Nat} {a:Value} (h:w.heap[p]? =some (.cells #[b,qJ i,a] 104 (0,0))) (x:Int) (hi:i<=bs.length) (j:0<=x) (l:x<18446744073709551616)
  (m:W.os=w.os) (n:W.tape=w.tape) (o:W.output=w.output) (c:W.heap=(w.setCell ⟨p,2,none⟩ (.int .u64 x)).heap):Src bs b p W∧w.grownBy W (some p):=by
 have d:w.grownBy W (some p):=⟨m,n,o,by rw [c];simp,fun k q f=>by rw [c];exact xn _ _ _ _ (fun e=>f (by subst e;rfl))⟩
 exact⟨g.turned d ⟨i,x,hi,j,l,by rw [c,xB w p 2 _ _ _ h];rfl⟩,d⟩
theorem Src.done1 {bs:List Int} {c:Value} {p:Nat} {w W:World} (l:Src bs c p w) {a b:Value} (m:w.heap[p]? =some (.cells #[c,a,b] 104 (0,0))) (i:Nat) (x:Int) (hi:i<=bs.length) (n:0<=x) (o:x<18446744073709551616)
  (q:W.os=w.os) (r:W.tape=w.tape) (s:W.output=w.output) (d:W.heap=((w.setCell ⟨p,1,none⟩ (qJ i)).setCell ⟨p,2,none⟩ (.int .u64 x)).heap):Src bs c p W∧w.grownBy W (some p):=by
 have f:w.grownBy W (some p):=⟨q,r,s,by rw [d];simp,fun k t j=>by
  have g:k≠p:=fun e=>j (by subst e;rfl)
  rw [d,xn _ _ _ _ g,xn _ _ _ _ g]⟩
 have h:=xB w p 1 _ _ (qJ i) m
 exact⟨l.turned f ⟨i,x,hi,n,o,by rw [d,xB _ p 2 _ _ _ h];rfl⟩,f⟩
theorem jA (n:Int):0<=IntKind.u64.wrap n∧IntKind.u64.wrap n<18446744073709551616:=by
 rw [IntKind.wrap_u64];omega
theorem zEm (n k:Int) (d:0<k) (f:k<=1048576):0<=wrap64 ((IntKind.u64.wrap n/8589934592).tmod k)∧wrap64 ((IntKind.u64.wrap n/8589934592).tmod k)<k:=by
 have e:=jA n;generalize IntKind.u64.wrap n=m at *
 have a:0<=m/8589934592:=by omega
 generalize m/8589934592=q at *;rw [Int.tmod_eq_emod_of_nonneg a]
 have b:=Int.emod_nonneg q (show k≠0 by omega)
 have c:=Int.emod_lt_of_pos q d
 rw [IntWalk.wrap64_in _ (by omega)]
 exact⟨b,c⟩
theorem drawN (bs:List Int) (f:Value) (p:Nat) (k:Int) (w:World) (l:Src bs f p w) (m:0<k) (n:k<=1048576):
  Calls Tryz.prog 34 #[.pointer (qK p 0),qJ k] w fun e w'=>∃r:Int,e= .returned (qJ r)∧(0<=r∧r<k)∧Src bs f p w'∧w.grownBy w' (some p):=by
 have c:=qG l;obtain⟨⟨i,x,hi,B,C,a⟩,h,D,j⟩:=l;have d:=qG a
 have q:w.cell? ⟨p,0,none⟩=some f:=by rw [qQ w p 0 _ _ _ a];rfl
 have s:w.cell? ⟨p,1,none⟩=some (qJ i):=by rw [qQ w p 1 _ _ _ a];rfl
 have t:w.cell? ⟨p,2,none⟩=some (.int .u64 x):=by rw [qQ w p 2 _ _ _ a];rfl
 have u:w.frozen? ⟨p,1,none⟩=false:=xo w p 1 _ _ a;have v:w.frozen? ⟨p,2,none⟩=false:=xo w p 2 _ _ a;clear a
 by_cases g:i<bs.length
 ·rcases j with ⟨ao,cap,rfl,rfl⟩ | ⟨b,off,cap,rfl,E,⟨F,G,H⟩,o⟩
  ·exact absurd g (Nat.not_lt_zero _)
  ·have y:=o i g
   have A:=h (bs.getD i 0) (by simp [qW,g])
   generalize bs.getD i 0=z at *;clear o h;go_enter Tryz.func34,Tryz.ntmps34;go_wp2;go_region;go_wp2;go_region;go_wp2
   ·go_ret
    exact⟨_,rfl,⟨by omega,by omega⟩,c.done1 d (i+1) _ (by omega) (jA _).1 (jA _).2 rfl rfl rfl rfl⟩
   ·go_ret
    exact⟨_,rfl,zEm _ _ m n,c.done1 d (i+1) _ (by omega) (jA _).1 (jA _).2 rfl rfl rfl rfl⟩
 ·have hi':i=bs.length:=by omega
  subst hi'
  obtain⟨ao,cap,rfl⟩:∃ao cap,f= .slice ao bs.length cap:=by
   rcases j with ⟨ao,cap,rfl,rfl⟩ | ⟨b,off,cap,rfl,_⟩
   ·exact⟨_,_,rfl⟩
   ·exact⟨_,_,rfl⟩
  clear j h;go_enter Tryz.func34,Tryz.ntmps34;go_wp2;go_region;go_wp2
  ·go_ret
   exact⟨_,rfl,⟨by omega,by omega⟩,c.done2 d _ (by omega) (jA _).1 (jA _).2 rfl rfl rfl rfl⟩
  ·go_ret
   exact⟨_,rfl,zEm _ _ m n,c.done2 d _ (by omega) (jA _).1 (jA _).2 rfl rfl rfl rfl⟩
end Go.Proofs.YtljdnoinennfaaaGreatDoor
namespace Go.Proofs.YtljdnoinennfaaaGreatDoor
open Go Go.RowKit Go.Proofs.Tryz
theorem Yk (bs:List Int) (a:Value) (p:Nat) (k:Int) (w:World) (c:Src bs a p w) (j:0<k) (l:k<=1048576):
  Calls prog 28 #[.pointer (qK p 0),qJ k] w fun e w'=>∃b:Bool,e= .returned (.bool b)∧Src bs a p w'∧w.grownBy w' (some p):=by
 have g:=qG c;clear c;go_enter func28,ntmps28;go_wp2_with fail;refine(drawN bs a p k w g j l).mono ?_;rintro e w1 ⟨r,rfl,m,d,f⟩;have h:=qG d;have i:=qG f;clear d f;go_wp2;go_ret;exact⟨_,rfl,h,i⟩
theorem drawWild (bs:List Int) (f:Value) (p:Nat) (w:World) (h:Src bs f p w):
  Calls prog 64 #[.pointer (qK p 0)] w fun e w'=>∃r:Int,e= .returned (qJ r)∧Src bs f p w'∧w.grownBy w' (some p):=by
 have g:=qG h;clear h;go_enter func64,ntmps64;go_wp2_with fail
 refine(drawN bs f p 7 w g (by omega) (by omega)).mono ?_
 rintro e w1 ⟨r,rfl,i,a,b⟩;have c:=qG a;have d:=qG b;clear a b g
 have j:r=0∨r=1∨r=2∨r=3∨r=4∨r=5∨r=6:=by omega
 clear i
 rcases j with rfl | rfl | rfl | rfl | rfl | rfl | rfl
 ·go_wp2;go_ret;exact⟨_,rfl,c,d⟩
 ·go_wp2;go_ret;exact⟨_,rfl,c,d⟩
 ·go_wp2;go_ret;exact⟨_,rfl,c,d⟩
 all_goals
  go_wp2_with fail
  refine(drawN bs f p _ w1 c (by omega) (by omega)).mono ?_
  rintro e m ⟨r,rfl,i,a,b⟩;have k:=qG a;have l:=qG (zG d b);clear a b;go_wp2;go_ret;exact⟨_,rfl,k,l⟩
theorem zBj (bs:List Int) (c:Value) (p:Nat) (w:World) (k:Src bs c p w):
  Calls prog 65 #[.pointer (qK p 0)] w fun e w'=>∃r:Int,e= .returned (qJ r)∧(0<=r∧r<=1114111)∧Src bs c p w'∧w.grownBy w' (some p):=by
 have j:=qG k;clear k;go_enter func65,ntmps65;go_wp2_with fail
 refine(drawN bs c p 12 w j (by omega) (by omega)).mono ?_
 rintro e w1 ⟨r,rfl,g,a,b⟩;have d:=qG a;have f:=qG b;clear a b j
 have l:r=0∨r=1∨r=2∨r=3∨r=4∨r=5∨r=6∨7<=r:=by omega
 rcases l with rfl | rfl | rfl | rfl | rfl | rfl | rfl | m
 ·go_wp2;go_ret;exact⟨_,rfl,⟨by omega,by omega⟩,d,f⟩
 ·go_wp2;go_ret;exact⟨_,rfl,⟨by omega,by omega⟩,d,f⟩
 rotate_right 1
 ·have o:(r==0)=false:=by simp;omega
  have q:(r==1)=false:=by simp;omega
  have s:(r==2)=false:=by simp;omega
  have t:(r==3)=false:=by simp;omega
  have u:(r==4)=false:=by simp;omega
  have v:(r==5)=false:=by simp;omega
  have x:(r==6)=false:=by simp;omega
  clear g m;go_wp2_with fail
  refine(drawN bs c p _ w1 d (by omega) (by omega)).mono ?_
  rintro e n ⟨r,rfl,g,a,b⟩;have h:=qG a;have i:=qG (zG f b);clear a b;go_wp2;go_ret
  exact⟨_,rfl,⟨by omega,by omega⟩,h,i⟩
 all_goals
  clear g;go_wp2_with fail
  refine(drawN bs c p _ w1 d (by omega) (by omega)).mono ?_
  rintro e n ⟨r,rfl,g,a,b⟩;have h:=qG a;have i:=qG (zG f b);clear a b;go_wp2;go_ret
  exact⟨_,rfl,⟨by omega,by omega⟩,h,i⟩
theorem new1 (bs:List Int) (a:Value) (w:World) (c:Rd .u8 w a bs) (g:∀z∈bs,0<=z∧z<=255) (n:bs.length<=1048576):
  Calls prog 27 #[a] w fun e w'=>e= .returned (.pointer (qK w.heap.size 0))∧Src bs a w.heap.size w'∧Below w.heap.size w w':=by
 have l:=qG g;have m:=qG c
 obtain⟨ao,cap,rfl⟩:∃ao cap,a= .slice ao bs.length cap:=by
  rcases c with ⟨ao,cap,rfl,rfl⟩ | ⟨b,off,cap,rfl,_⟩
  ·exact⟨_,_,rfl⟩
  ·exact⟨_,_,rfl⟩
 clear g c;go_enter func27,ntmps27;go_wp2;go_ret;have d:=(qO w.heap.size w).alloc lR (.cells #[.slice ao bs.length cap,qJ 0,.int .u64 (88172645463325252+bs.length)] 104)
 refine⟨rfl,⟨⟨0,88172645463325252+bs.length,xP _,by omega,by omega,xm _ _⟩,l,n,?_⟩,d⟩
 rcases m with ⟨q,h,e,o⟩ | ⟨b,off,h,e,j,k⟩
 ·subst o;exact .inl ⟨_,_,rfl,rfl⟩
 ·refine .inr ⟨b,off,h,e,?_,j,fun i hi=>?_⟩
  ·have:=xD w _ (k 0 j.1)
   simp at this;omega
  ·have f:=k i hi
   rw [d.cell (p:=⟨b,off+i,none⟩) (xD w _ f)];exact f
theorem new2 (bs:List Int) (a:Value) (w:World) (b:Rd .u8 w a bs) (c:∀z∈bs,0<=z∧z<=255) (k:bs.length<=1048576):
  Calls prog 5 #[a] w fun e w'=>e= .returned (.pointer (qK w.heap.size 0))∧Src bs a w.heap.size w'∧Below w.heap.size w w':=by
 have g:=qG c;have h:=qG b;clear c b;go_enter func5,ntmps5;go_wp2_with fail;refine(new1 bs a w h g k).mono ?_;rintro e w1 ⟨rfl,d,f⟩;have i:=qG d;have j:=qG f;clear d f;go_wp2;go_ret;exact⟨rfl,i,j⟩
end Go.Proofs.YtljdnoinennfaaaGreatDoor
namespace Go.Proofs.YtljdnoinennfaaaGreatDoor
open Go Go.RowKit
def Low (bs:List Int) (a:Value) (p base:Nat):Prop:=
 p<base∧∀b off cap,a= .slice (qK b off) bs.length cap->0<bs.length->b<base
theorem Src.low {bs:List Int} {d:Value} {p:Nat} {w:World} (e:Src bs d p w):Low bs d p w.heap.size:=by
 refine⟨e.lt,fun b off cap f c=>?_⟩
 obtain⟨_,_,_,g⟩:=e
 rcases g with ⟨ao,h,rfl,rfl⟩ | ⟨j,k,h,a,_,l,i⟩
 ·simp at c
 ·rw [f]at a
  simp only [xF,xw,ka,kW,kJ]at a;obtain⟨⟨rfl,rfl⟩,_⟩:=a;exact xD w _ (i 0 c)
theorem Src.up {bs:List Int} {a:Value} {p base:Nat} {w w':World} {f:Option Nat} (g:Src bs a p w) (h:Low bs a p base) (j:w.grownBy w' f) (k:∀q,f=some q->base<=q):Src bs a p w':=by
 have n:=g.lt;obtain⟨⟨i,x,o,r,s,t⟩,u,v,c⟩:=g;have A:=h.1
 refine⟨⟨i,x,o,r,s,(j.block p n (fun e=>by have:=k p e.symm;omega)).trans t⟩,u,v,?_⟩
 rcases c with c | ⟨b,off,cap,l,y,m,z⟩
 ·exact .inl c
 ·refine .inr ⟨b,off,cap,l,y,m,fun i hi=>?_⟩
  have d:=z i hi;have B:=h.2 b off cap l m.1
  rw [qV (w:=w) (j.block b (xD w _ d) (fun e=>by have:=k b e.symm;omega))]
  exact d
theorem jr (w:World) (o:Obj):w.grownBy (w.alloc o) none:=
 ⟨rfl,rfl,rfl,by simp,fun k a _=>heap_alloc_old w o a⟩
theorem KI (w:World) (g j:Nat) (v:Value):w.grownBy (w.setCell ⟨g,j,none⟩ v) (some g):=
 ⟨rfl,rfl,rfl,by simp,fun k b a=>xn _ _ _ _ (fun e=>a (by subst e;rfl))⟩
theorem Xa {b w1 c:World} {p:Option Nat} {d:Option Nat} (a:b.grownBy w1 p) (k:w1.grownBy c d) (g:∀q,d=some q->b.heap.size<=q):b.grownBy c p:=
 ⟨k.os.trans a.os,k.tape.trans a.tape,k.output.trans a.output,vV a.size k.size,fun i hi f=>
  (k.block i (xz hi a.size) (fun e=>by have:=g i e.symm;omega)).trans (a.block i hi f)⟩
structure DS (k:IntKind) (e:TypeId) (bs:List Int) (b:Value) (p:Nat) (a:World) (c:Value) (xs:List Int) (w:World):Prop where
 src:Src bs b p w
 own:w.ownsRow a.heap.size e 1 c xs.length (ints k xs)
 grown:a.grownBy w (some p)
 low:Low bs b p a.heap.size
section
variable {k:IntKind} {e:TypeId} {bs:List Int} {vb:Value} {p:Nat} {w0 w w':World} {out out':Value} {xs ys:List Int}
theorem DS.draw (a:DS k e bs vb p w0 out xs w) (c:Src bs vb p w') (b:w.grownBy w' (some p)):DS k e bs vb p w0 out xs w':=
 ⟨c,a.own.kept b (by
  cases d:out.ownBlock with
  | none=>exact .inl rfl
  | some q=>right;have f:=(a.own.lt q d).1;have g:=a.low.1;intro e;cases e;omega),zG a.grown b,a.low⟩
theorem DS.other {b:Option Nat} (a:DS k e bs vb p w0 out xs w) (c:w.grownBy w' b) (d:∀q,b=some q->w0.heap.size<=q) (f:∀q,out.ownBlock=some q->b≠some q):DS k e bs vb p w0 out xs w':=
 ⟨a.src.up a.low c d,a.own.kept c (by
  cases g:out.ownBlock with
  | none=>exact .inl rfl
  | some q=>right;exact fun e=>f q g e.symm),Xa a.grown c d,a.low⟩
theorem DS.alloc (b:DS k e bs vb p w0 out xs w) (o:Obj):DS k e bs vb p w0 out xs (w.alloc o):=
 b.other (jr w o) (fun q a=>by cases a) (fun q a=>by simp)
theorem DS.app (a:DS k e bs vb p w0 out xs w) (c:w.grownBy w' out.ownBlock) (d:w'.ownsRow w0.heap.size e 1 out' (xs++ys).length (ints k (xs++ys))):DS k e bs vb p w0 out' (xs++ys) w':=
 ⟨a.src.up a.low c (fun q b=>(a.own.lt q b).1),d,Xa a.grown c (fun q b=>(a.own.lt q b).1),a.low⟩
theorem DS.size (a:DS k e bs vb p w0 out xs w):w0.heap.size<=w.heap.size:=a.grown.size
end
theorem DS.start (k:IntKind) (e:TypeId) {bs:List Int} {b:Value} {p:Nat} {w:World} (a:Src bs b p w):DS k e bs b p w (.slice (qK w.heap.size 0) 0 0) [] (w.alloc (.cells #[] e)):=
 ⟨a.up a.low (jr w _) (fun q c=>by cases c),by simpa [ints]using ke w #[] 0 lR (xP _) rfl,by
  have:=jr w (.cells #[] e)
  exact⟨this.os,this.tape,this.output,this.size,fun i hi _=>this.block i hi (by simp)⟩,a.low⟩
theorem Tryz.infoT:(Tryz.prog.info? 21).map (fun i=>(i.zero,i.size,i.bytes))=some (some (.int .i32 0),1,4):=by kernel_rfl
theorem K9 (bs:List Int) (c:Value) (p:Nat) (n:Nat) (w:World) (t:Src bs c p w) (E:n<=1048576):
  Calls Tryz.prog 33 #[.pointer (qK p 0),qJ n] w fun e w'=>∃s xs,e= .returned s∧xs.length=n∧DS .i32 21 bs c p w s xs w':=by
 have y:=qG (DS.start .i32 21 t);clear t;go_enter Tryz.func33,Tryz.ntmps33;go_wp2
 go_loopw [5,6] (fun C i wr=>∃ (k:Nat) (xs:List Int),k<=n∧i=qJ k∧xs.length=k∧DS .i32 21 bs c p w C xs wr) (fun _ i _=>n - (intOf i).toNat)
 case atStart=>exact⟨0,[],xP _,rfl,rfl,y⟩
 case round=>
  obtain⟨k,xs,F,rfl,q,u⟩:=hrel;have m:=qG u;clear u
  by_cases D:k<n
  ·go_wp2_with fail
   refine(Yk bs c p 25 wr m.src (by omega) (by omega)).mono ?_
   rintro e w1 ⟨b,rfl,v,x⟩;have l:=qG (m.draw v x);clear v x
   cases b with
   | true=>
    go_wp2_with fail;refine(drawWild bs c p w1 l.src).mono ?_;rintro e g ⟨r,rfl,h,j⟩;have a:=qG (l.draw h j);have z:=a.size;clear h j
    go_wp2_with (at_builtin;refine a25 _ rfl _ _ rfl w.heap.size _ _ _ rfl (a.own.alloc _) ⟨g.heap.size,0,none⟩ 1 1 [.int .i32 (wrap32 r)] rfl rfl (zL g 21 [.int .i32 (wrap32 r)]) (zF .i32 [wrap32 r]) (by unfold maxLen;omega) (by omega) (by simp;omega) ?_;intro A B d f _)
    have o:=qG ((a.alloc _).app (ys:=[wrap32 r]) f (by rw [qM,zZ];exact d))
    clear d f;go_wp2;go_roundw
    case rel=>exact⟨k+1,xs++ [wrap32 r],by omega,by go_num,by simp [q],o⟩
    case measure=>simp [intOf];omega
   | false=>
    go_wp2_with fail;refine(zBj bs c p w1 l.src).mono ?_;rintro e g ⟨r,rfl,G,h,j⟩;have a:=qG (l.draw h j);have z:=a.size;clear h j
    go_wp2_with (at_builtin;refine a25 _ rfl _ _ rfl w.heap.size _ _ _ rfl (a.own.alloc _) ⟨g.heap.size,0,none⟩ 1 1 [.int .i32 r] rfl rfl (zL g 21 [.int .i32 r]) (zF .i32 [r]) (by unfold maxLen;omega) (by omega) (by simp;omega) ?_;intro A B d f _)
    have o:=qG ((a.alloc _).app (ys:=[r]) f (by rw [qM,zZ];exact d))
    clear d f;go_wp2;go_roundw
    case rel=>exact⟨k+1,xs++ [r],by omega,by go_num,by simp [q],o⟩
    case measure=>simp [intOf];omega
  ·obtain rfl:k=n:=by omega
   go_wp2;go_ret;exact⟨_,xs,rfl,q,m⟩
end Go.Proofs.YtljdnoinennfaaaGreatDoor

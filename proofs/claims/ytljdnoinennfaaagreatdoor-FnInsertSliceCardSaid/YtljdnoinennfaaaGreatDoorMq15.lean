import Derived.Test.YtljdnoinennfaaaGreatDoorMq11
set_option linter.all false
set_option maxRecDepth 100000
set_option maxHeartbeats 8000000
namespace Go.Proofs.YtljdnoinennfaaaGreatDoor
open Go Go.RowKit Go.Proofs.Tryz
theorem Tryz.qw:(prog.info? 5).map (fun i=>(i.zero,i.size,i.bytes))=some (some (.int .u8 0),1,1):=by kernel_rfl
theorem apr_two (B:Nat) (v:Value) (n:Nat) (xs:List Value) (r:Int) (i:128<=r) (k:r<=2047) (w:World) (g:w.ownsRow B 5 1 v n xs) (l:n+4<=140737488355328) (m:B<=w.heap.size):
  Calls prog 101 #[v,.int .i32 r] w fun e w'=>∃b,e= .returned b∧w'.ownsRow B 5 1 b (n+2) (xs++ [.int .u8 (192+r/64),.int .u8 (128+r%64)])∧w.grownBy w' v.ownBlock:=by
 go_enter func101,ntmps101
 go_wp2_with (at_builtin;refine a22 _ rfl _ _ rfl B _ _ _ rfl (g.alloc _) ⟨w.heap.size,0,none⟩ 2 2 [.int .u8 (192+r/64),.int .u8 (128+r%64)] rfl rfl ?c1 ?c2 ?c3 ?c4 ?c5 ?_)
 all_goals first
  | (intro b h d f _;go_wp2;go_ret;exact⟨_,rfl,d,zG (kE _ _ _) f⟩)
  | (unfold maxLen;omega)
  | omega
  | (simp;omega)
  | rfl
  | exact⟨rfl,rfl⟩
  | (intro u c;simp at c;rcases c with rfl | rfl<;>rfl)
  | (intro j u a;match j,a with | 0,a=>(simp at a;subst a;simp [Addr.add]) | 1,a=>(simp at a;subst a;simp [Addr.add]) | (j+2),a=>(simp at a))
theorem zC9 (B:Nat) (v:Value) (n:Nat) (xs:List Value) (r:Int) (i:2048<=r) (k:r<55296) (w:World) (g:w.ownsRow B 5 1 v n xs) (l:n+4<=140737488355328) (m:B<=w.heap.size):
  Calls prog 101 #[v,.int .i32 r] w fun e w'=>∃b,e= .returned b∧w'.ownsRow B 5 1 b (n+3) (xs++ [.int .u8 (224+r/4096),.int .u8 (128+r/64%64),.int .u8 (128+r%64)])∧w.grownBy w' v.ownBlock:=by
 go_enter func101,ntmps101
 go_wp2_with (at_builtin;refine a22 _ rfl _ _ rfl B _ _ _ rfl (g.alloc _) ⟨w.heap.size,0,none⟩ 3 3 [.int .u8 (224+r/4096),.int .u8 (128+r/64%64),.int .u8 (128+r%64)] rfl rfl ?c1 ?c2 ?c3 ?c4 ?c5 ?_)
 all_goals first
  | (intro b h d f _;go_wp2;go_ret;exact⟨_,rfl,d,zG (kE _ _ _) f⟩)
  | (unfold maxLen;omega)
  | omega
  | (simp;omega)
  | rfl
  | exact⟨rfl,rfl,rfl⟩
  | (intro u c;simp at c;rcases c with rfl | rfl | rfl<;>rfl)
  | (intro j u a;match j,a with | 0,a=>(simp at a;subst a;simp [Addr.add]) | 1,a=>(simp at a;subst a;simp [Addr.add]) | 2,a=>(simp at a;subst a;simp [Addr.add]) | (j+3),a=>(simp at a))
theorem zCa (B:Nat) (v:Value) (n:Nat) (xs:List Value) (r:Int) (i:57343<r) (k:r<=65535) (w:World) (g:w.ownsRow B 5 1 v n xs) (l:n+4<=140737488355328) (m:B<=w.heap.size):
  Calls prog 101 #[v,.int .i32 r] w fun e w'=>∃b,e= .returned b∧w'.ownsRow B 5 1 b (n+3) (xs++ [.int .u8 (224+r/4096),.int .u8 (128+r/64%64),.int .u8 (128+r%64)])∧w.grownBy w' v.ownBlock:=by
 go_enter func101,ntmps101
 go_wp2_with (at_builtin;refine a22 _ rfl _ _ rfl B _ _ _ rfl (g.alloc _) ⟨w.heap.size,0,none⟩ 3 3 [.int .u8 (224+r/4096),.int .u8 (128+r/64%64),.int .u8 (128+r%64)] rfl rfl ?c1 ?c2 ?c3 ?c4 ?c5 ?_)
 all_goals first
  | (intro b h d f _;go_wp2;go_ret;exact⟨_,rfl,d,zG (kE _ _ _) f⟩)
  | (unfold maxLen;omega)
  | omega
  | (simp;omega)
  | rfl
  | exact⟨rfl,rfl,rfl⟩
  | (intro u c;simp at c;rcases c with rfl | rfl | rfl<;>rfl)
  | (intro j u a;match j,a with | 0,a=>(simp at a;subst a;simp [Addr.add]) | 1,a=>(simp at a;subst a;simp [Addr.add]) | 2,a=>(simp at a;subst a;simp [Addr.add]) | (j+3),a=>(simp at a))
theorem apr_four (B:Nat) (v:Value) (n:Nat) (xs:List Value) (r:Int) (i:65536<=r) (k:r<=1114111) (w:World) (g:w.ownsRow B 5 1 v n xs) (l:n+4<=140737488355328) (m:B<=w.heap.size):
  Calls prog 101 #[v,.int .i32 r] w fun e w'=>∃b,e= .returned b∧w'.ownsRow B 5 1 b (n+4) (xs++ [.int .u8 (240+r/262144),.int .u8 (128+r/4096%64),.int .u8 (128+r/64%64),.int .u8 (128+r%64)])∧w.grownBy w' v.ownBlock:=by
 go_enter func101,ntmps101
 go_wp2_with (at_builtin;refine a22 _ rfl _ _ rfl B _ _ _ rfl (g.alloc _) ⟨w.heap.size,0,none⟩ 4 4 [.int .u8 (240+r/262144),.int .u8 (128+r/4096%64),.int .u8 (128+r/64%64),.int .u8 (128+r%64)] rfl rfl ?c1 ?c2 ?c3 ?c4 ?c5 ?_)
 all_goals first
  | (intro b h d f _;go_wp2;go_ret;exact⟨_,rfl,d,zG (kE _ _ _) f⟩)
  | (unfold maxLen;omega)
  | omega
  | (simp;omega)
  | rfl
  | exact⟨rfl,rfl,rfl,rfl⟩
  | (intro u c;simp at c;rcases c with rfl | rfl | rfl | rfl<;>rfl)
  | (intro j u a;match j,a with | 0,a=>(simp at a;subst a;simp [Addr.add]) | 1,a=>(simp at a;subst a;simp [Addr.add]) | 2,a=>(simp at a;subst a;simp [Addr.add]) | 3,a=>(simp at a;subst a;simp [Addr.add]) | (j+4),a=>(simp at a))
theorem apr_neg (B:Nat) (v:Value) (n:Nat) (xs:List Value) (r:Int) (i: -2147483648<=r) (k:r<0) (w:World) (g:w.ownsRow B 5 1 v n xs) (l:n+4<=140737488355328) (m:B<=w.heap.size):
  Calls prog 101 #[v,.int .i32 r] w fun e w'=>∃b,e= .returned b∧w'.ownsRow B 5 1 b (n+3) (xs++ [.int .u8 (239),.int .u8 (191),.int .u8 (189)])∧w.grownBy w' v.ownBlock:=by
 go_enter func101,ntmps101
 go_wp2_with (at_builtin;refine a22 _ rfl _ _ rfl B _ _ _ rfl (g.alloc _) ⟨w.heap.size,0,none⟩ 3 3 [.int .u8 (239),.int .u8 (191),.int .u8 (189)] rfl rfl ?c1 ?c2 ?c3 ?c4 ?c5 ?_)
 all_goals first
  | (intro b h d f _;go_wp2;go_ret;exact⟨_,rfl,d,zG (kE _ _ _) f⟩)
  | (unfold maxLen;omega)
  | omega
  | (simp;omega)
  | rfl
  | exact⟨rfl,rfl,rfl⟩
  | (intro u c;simp at c;rcases c with rfl | rfl | rfl<;>rfl)
  | (intro j u a;match j,a with | 0,a=>(simp at a;subst a;simp [Addr.add]) | 1,a=>(simp at a;subst a;simp [Addr.add]) | 2,a=>(simp at a;subst a;simp [Addr.add]) | (j+3),a=>(simp at a))
theorem apr_sur (B:Nat) (v:Value) (n:Nat) (xs:List Value) (r:Int) (i:55296<=r) (k:r<=57343) (w:World) (g:w.ownsRow B 5 1 v n xs) (l:n+4<=140737488355328) (m:B<=w.heap.size):
  Calls prog 101 #[v,.int .i32 r] w fun e w'=>∃b,e= .returned b∧w'.ownsRow B 5 1 b (n+3) (xs++ [.int .u8 (239),.int .u8 (191),.int .u8 (189)])∧w.grownBy w' v.ownBlock:=by
 go_enter func101,ntmps101
 go_wp2_with (at_builtin;refine a22 _ rfl _ _ rfl B _ _ _ rfl (g.alloc _) ⟨w.heap.size,0,none⟩ 3 3 [.int .u8 (239),.int .u8 (191),.int .u8 (189)] rfl rfl ?c1 ?c2 ?c3 ?c4 ?c5 ?_)
 all_goals first
  | (intro b h d f _;go_wp2;go_ret;exact⟨_,rfl,d,zG (kE _ _ _) f⟩)
  | (unfold maxLen;omega)
  | omega
  | (simp;omega)
  | rfl
  | exact⟨rfl,rfl,rfl⟩
  | (intro u c;simp at c;rcases c with rfl | rfl | rfl<;>rfl)
  | (intro j u a;match j,a with | 0,a=>(simp at a;subst a;simp [Addr.add]) | 1,a=>(simp at a;subst a;simp [Addr.add]) | 2,a=>(simp at a;subst a;simp [Addr.add]) | (j+3),a=>(simp at a))
theorem apr_big (B:Nat) (v:Value) (n:Nat) (xs:List Value) (r:Int) (i:1114111<r) (k:r<=2147483647) (w:World) (g:w.ownsRow B 5 1 v n xs) (l:n+4<=140737488355328) (m:B<=w.heap.size):
  Calls prog 101 #[v,.int .i32 r] w fun e w'=>∃b,e= .returned b∧w'.ownsRow B 5 1 b (n+3) (xs++ [.int .u8 (239),.int .u8 (191),.int .u8 (189)])∧w.grownBy w' v.ownBlock:=by
 go_enter func101,ntmps101
 go_wp2_with (at_builtin;refine a22 _ rfl _ _ rfl B _ _ _ rfl (g.alloc _) ⟨w.heap.size,0,none⟩ 3 3 [.int .u8 (239),.int .u8 (191),.int .u8 (189)] rfl rfl ?c1 ?c2 ?c3 ?c4 ?c5 ?_)
 all_goals first
  | (intro b h d f _;go_wp2;go_ret;exact⟨_,rfl,d,zG (kE _ _ _) f⟩)
  | (unfold maxLen;omega)
  | omega
  | (simp;omega)
  | rfl
  | exact⟨rfl,rfl,rfl⟩
  | (intro u c;simp at c;rcases c with rfl | rfl | rfl<;>rfl)
  | (intro j u a;match j,a with | 0,a=>(simp at a;subst a;simp [Addr.add]) | 1,a=>(simp at a;subst a;simp [Addr.add]) | 2,a=>(simp at a;subst a;simp [Addr.add]) | (j+3),a=>(simp at a))
theorem zGo (B:Nat) (v:Value) (n:Nat) (xs:List Value) (r:Int) (i:0<=r) (k:r<=127) (w:World) (g:w.ownsRow B 5 1 v n xs) (l:n+4<=140737488355328) (m:B<=w.heap.size):
  Calls prog 60 #[v,.int .i32 r] w fun e w'=>∃b,e= .returned b∧w'.ownsRow B 5 1 b (n+1) (xs++ [.int .u8 (r)])∧w.grownBy w' v.ownBlock:=by
 go_enter func60,ntmps60
 go_wp2_with (at_builtin;refine a22 _ rfl _ _ rfl B _ _ _ rfl (g.alloc _) ⟨w.heap.size,0,none⟩ 1 1 [.int .u8 (r)] rfl rfl ?c1 ?c2 ?c3 ?c4 ?c5 ?_)
 all_goals first
  | (intro b h d f _;go_wp2;go_ret;exact⟨_,rfl,d,zG (kE _ _ _) f⟩)
  | (unfold maxLen;omega)
  | omega
  | (simp;omega)
  | rfl
  | exact xH
  | (intro u c;simp at c;subst c;rfl)
  | (intro j u a;match j,a with | 0,a=>(simp at a;subst a;simp [Addr.add]) | (j+1),a=>(simp at a))
theorem aprNon (B:Nat) (v:Value) (n:Nat) (xs:List Int) (r:Int) (l: -2147483648<=r) (m:r<=2147483647) (o:r<0∨128<=r) (w:World) (a:w.ownsRow B 5 1 v n (ints .u8 xs)) (b:n+4<=140737488355328) (c:B<=w.heap.size):
  Calls prog 101 #[v,.int .i32 r] w fun e w'=>∃i,e= .returned i∧w'.ownsRow B 5 1 i (n+(encZ r).length) (ints .u8 (xs++encZ r))∧w.grownBy w' v.ownBlock:=by
 rw [zZ]
 by_cases d:r<0
 ·rw [yG (.inl d)];exact apr_neg B v n _ r l d w a b c
 by_cases j:r<=2047
 ·rw [yK (by omega) (by omega)];exact apr_two B v n _ r (by omega) j w a b c
 by_cases f:r<55296
 ·rw [zP (by omega) (by omega) (.inl f)];exact zC9 B v n _ r (by omega) f w a b c
 by_cases g:r<=57343
 ·rw [yG (.inr (.inr ⟨by omega,g⟩))];exact apr_sur B v n _ r (by omega) g w a b c
 by_cases k:r<=65535
 ·rw [zP (by omega) (by omega) (.inr (by omega))];exact zCa B v n _ r (by omega) k w a b c
 by_cases h:r<=1114111
 ·rw [yB (by omega) h];exact apr_four B v n _ r (by omega) h w a b c
 ·rw [yG (.inr (.inl (by omega)))];exact apr_big B v n _ r (by omega) m w a b c
theorem apr (B:Nat) (v:Value) (n:Nat) (xs:List Int) (r:Int) (k: -2147483648<=r) (l:r<=2147483647) (w:World) (d:w.ownsRow B 5 1 v n (ints .u8 xs)) (i:n+4<=140737488355328) (j:B<=w.heap.size):
  Calls prog 60 #[v,.int .i32 r] w fun e w'=>∃b,e= .returned b∧w'.ownsRow B 5 1 b (n+(encZ r).length) (ints .u8 (xs++encZ r))∧w.grownBy w' v.ownBlock:=by
 by_cases c:0<=r∧r<=127
 ·rw [zZ,yY c.1 (by omega)]
  exact zGo B v n _ r c.1 c.2 w d i j
 ·have a:r<0∨128<=r:=by omega
  have h:=qG (aprNon B v n xs r k l a w d i j);clear d c
  rcases a with a | a
  ·go_enter func60,ntmps60
   go_wp2_with fail;refine h.mono ?_;rintro e w' ⟨b,rfl,f,g⟩;go_wp2;go_ret;exact⟨_,rfl,f,g⟩
  ·go_enter func60,ntmps60
   go_wp2_with fail;refine h.mono ?_;rintro e w' ⟨b,rfl,f,g⟩;go_wp2;go_ret;exact⟨_,rfl,f,g⟩
end Go.Proofs.YtljdnoinennfaaaGreatDoor
namespace Go.Proofs.YtljdnoinennfaaaGreatDoor
open Go Go.RowKit
theorem implEnc (zs:List Int) (v:Value) (w:World) (O:Rd .i32 w v zs) (X:zs.length<=1048576) (y:∀z∈zs,-2147483648<=z∧z<=2147483647):
  Calls Tryz.prog 26 #[v] w fun e w'=>∃n,e= .returned n∧w'.ownsRow w.heap.size 5 1 n (encs zs).length (ints .u8 (encs zs))∧Below w.heap.size w w':=by
 obtain⟨A,hi,B,C,D⟩:=xM Tryz.qw
 rcases O with ⟨ao,cap,rfl,rfl⟩ | ⟨b,off,cap,rfl,P,o⟩
 ·go_enter Tryz.func26,Tryz.ntmps26
  go_wp2_with (at_make;refine wpList_make_own _ rfl _ _ 22 rfl w.heap.size 5 A (.int .u8 0) 1 Tryz.underlying22 hi B C .i64 .i64 _ 0 rfl rfl (by omega) (by rw [D];omega) (by unfold maxLen;omega) lR ?_;intro w1 a c)
  have g:=qG a;clear a;refine xY 1 ?_;rw [xu];go_wp2;go_ret
  exact⟨_,rfl,g.out,(qO _ _).grown c lR (fun k f=>by cases f)⟩
 ·have F:b<w.heap.size:=xD w _ (o 0 P.1)
  have G:=qG o;have H:=qG y;clear o y;go_enter Tryz.func26,Tryz.ntmps26
  go_wp2_with (at_make;refine wpList_make_own _ rfl _ _ 22 rfl w.heap.size 5 A (.int .u8 0) 1 Tryz.underlying22 hi B C .i64 .i64 _ zs.length rfl rfl (by omega) (by rw [D];omega) (by unfold maxLen;omega) lR ?_;intro w1 a c)
  have I:Below w.heap.size w w1:=(qO _ _).grown c lR (fun k f=>by cases f)
  have g:=qG a;clear a c
  go_loopw [3,11] (fun M i wr=>∃k:Nat,k<=zs.length∧i= .int .i64 k∧wr.ownsRow w.heap.size 5 1 M (encs (zs.take k)).length (ints .u8 (encs (zs.take k)))∧Below w.heap.size w wr)
   (fun _ i _=>zs.length - (intOf i).toNat)
  case atStart=>exact⟨0,xP _,rfl,by simpa [encs,ints]using g.out,I⟩
  case round=>
   obtain⟨k,f,rfl,a,d⟩:=hrel
   by_cases m:k<zs.length
   ·have J:wr.cell? ⟨b,off+k,none⟩=some (.int .i32 (zs.getD k 0)):=(d.cell (p:=⟨b,off+k,none⟩) F).trans (G.out k m)
    have h:=zGg zs k m
    have r:=H.out (zs.getD k 0) (by rw [qW,qY m];simp)
    have T:=Jk (zs.take k);have U:(zs.take k).length<=k:=List.length_take_le _ _;have s:=d.size;generalize zs.getD k 0=z at J h r;obtain⟨Q,R⟩:=r;have K:=qG h;have t:=qG a;have L:=qG d;clear h a d;generalize x:encs (zs.take k)=W at *;have V:=qG x;clear x;go_wp2_with fail
    refine(apr w.heap.size _ _ _ z Q R _ t.out (by omega) s).mono ?_
    rintro e S ⟨n,rfl,E,c⟩
    have u:Below w.heap.size w S:=L.out.grown c s (fun q N=>(t.out.lt q N).1)
    have j:=qG E;have l:=qG u;clear E u c;go_wp2;go_roundw
    case rel=>exact⟨k+1,by omega,by go_num,by rw [K.out,qM];exact j.out,l.out⟩
    case measure=>simp [intOf];omega
   ·obtain rfl:k=zs.length:=by omega
    rw [List.take_length]at a;have j:=qG a;have l:=qG d;clear a d;go_wp2;go_ret;exact⟨_,rfl,j.out,l.out⟩
end Go.Proofs.YtljdnoinennfaaaGreatDoor

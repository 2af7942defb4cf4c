import Derived.Test.YtljdnoinennfaaaGreatDoorMq07
set_option linter.all false
set_option maxRecDepth 100000
set_option maxHeartbeats 8000000
namespace Go.Proofs.YtljdnoinennfaaaGreatDoor
open Go Go.RowKit
def bnd (p:Pc):Pc:=⟨min (max p.off 0) (220000 - min (max p.len 1) 8192),min (max p.len 1) 8192,min (max p.brk 0) (min (max p.len 1) 8192)⟩
theorem bnd_eq (p:Pc):(bnd p=p)=(pcOk p=true):=by
 apply propext;obtain⟨a,b,c⟩:=p;simp only [bnd,pcOk,qZ,Pc.mk.injEq];omega
theorem pc3 {a b c d e f:Int} (g:a=d) (h:b=e) (i:c=f):Ending.returned (.agg #[qJ a,qJ b,qJ c])=Ending.returned (.agg #[qJ d,qJ e,qJ f]):=by
 subst g h i;rfl
theorem boundedI (p:Pc) (w:World):Calls Tryz.prog 146 #[pcV p] w fun e w'=>e= .returned (pcV (bnd p))∧Below w.heap.size w w':=by
 obtain⟨a,b,c⟩:=p;unfold pcV;simp only;go_enter Tryz.func146,Tryz.ntmps146;go_wp2
 all_goals (refine xr (v:=cnt _ _ _) (by simp [results,Tryz.results146,go_sem];rfl) rfl ?_;exact⟨pc3 (by simp only [bnd];omega) (by simp only [bnd];omega) (by simp only [bnd];omega),((qO _ _).alloc lR _).alloc (by simp) _⟩)
theorem pieceW (p q:Pc) (b:Bool) (w:World) (m:∀w,Calls Tryz.prog 146 #[pcV p] w fun e w'=>e= .returned (pcV q)∧Below w.heap.size w w')
  (k:(b=true∧p.off=q.off∧p.len=q.len∧p.brk=q.brk)∨(b=false∧¬p.off=q.off)∨(b=false∧p.off=q.off∧¬p.len=q.len)∨(b=false∧p.off=q.off∧p.len=q.len∧¬p.brk=q.brk)):
  Calls Tryz.prog 137 #[pcV p] w fun e w'=>e= .returned (errV b 1)∧Below w.heap.size w w':=by
 have g:=qG ((qO w.heap.size w).alloc lR (.cells #[qJ p.off,qJ p.len,qJ p.brk] 69))
 have h:(w.alloc (.cells #[qJ p.off,qJ p.len,qJ p.brk] 69)).cell? ⟨w.heap.size,0,none⟩=some (qJ p.off):=by simp
 have i:(w.alloc (.cells #[qJ p.off,qJ p.len,qJ p.brk] 69)).cell? ⟨w.heap.size,1,none⟩=some (qJ p.len):=by simp
 have j:(w.alloc (.cells #[qJ p.off,qJ p.len,qJ p.brk] 69)).cell? ⟨w.heap.size,2,none⟩=some (qJ p.brk):=by simp
 have a:w.heap.size<(w.alloc (.cells #[qJ p.off,qJ p.len,qJ p.brk] 69)).heap.size:=by simp
 have r:=qG m;clear m;obtain⟨t,u,v⟩:=p;obtain⟨A,B,C⟩:=q;simp only at h i j a g k;unfold pcV;go_enter Tryz.func137,Tryz.ntmps137
 go_upto_region 1 with fail
 generalize w.alloc (.cells #[qJ t,qJ u,qJ v] 69)=f at *
 go_cut [6] (fun s wc=>s= .bool (!b)∧Below f.heap.size f wc)
 case first=>
  rcases k with ⟨rfl,rfl,rfl,rfl⟩ | ⟨rfl,n⟩ | ⟨rfl,rfl,n⟩ | ⟨rfl,rfl,rfl,n⟩
  all_goals (go_region_with (go_at_call 146;refine(r _).mono ?_;rintro e w1 ⟨rfl,c⟩;have d:=qG (show Below f.heap.size f w1 from⟨c.os,c.tape,c.output,c.size,c.block⟩);have x:=(d.cell (p:=⟨w.heap.size,0,none⟩) a).trans h;have y:=(d.cell (p:=⟨w.heap.size,1,none⟩) a).trans i;have z:=(d.cell (p:=⟨w.heap.size,2,none⟩) a).trans j;simp only [pcV];clear c))
  all_goals (go_wp2_with fail;go_meet;exact⟨rfl,d⟩)
 case rest=>
  obtain⟨rfl,o⟩:=hcut;have l:=qG o;clear o h i j k
  cases b with
  | true=>
   go_wp2;go_ret;exact⟨rfl,g.trans (l.mono (k7 a))⟩
  | false=>
   go_wp2;go_ret;exact⟨rfl,g.trans (l.mono (k7 a))⟩
theorem pieceI (p:Pc) (w:World):Calls Tryz.prog 137 #[pcV p] w fun e w'=>e= .returned (errV (pcOk p) 1)∧Below w.heap.size w w':=by
 refine pieceW p (bnd p) (pcOk p) w (boundedI p) ?_;have g:=bnd_eq p
 cases hp:pcOk p with
 | true=>
  have e:bnd p=p:=by rw [g];exact hp
  left;rw [e];simp
 | false=>
  right
  have e:¬bnd p=p:=by rw [g,hp];simp
  have i:¬ (p.off=(bnd p).off∧p.len=(bnd p).len∧p.brk=(bnd p).brk):=by
   intro h;apply e;generalize bnd p=q at h;obtain⟨a,b,c⟩:=p;obtain⟨k,l,m⟩:=q;simp at h |-;omega
  by_cases d:p.off=(bnd p).off
  ·by_cases f:p.len=(bnd p).len
   ·exact .inr (.inr ⟨rfl,d,f,fun j=>i ⟨d,f,j⟩⟩)
   ·exact .inr (.inl ⟨rfl,d,f⟩)
  ·exact .inl ⟨rfl,d⟩
end Go.Proofs.YtljdnoinennfaaaGreatDoor

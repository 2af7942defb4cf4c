import Derived.Test.YtibbhecojkehfaaGreatDoorMq23
import Derived.Test.YtibbhecojkehfaaGreatDoorMq19
set_option linter.all false
set_option maxRecDepth 100000
set_option maxHeartbeats 16000000
namespace Go.Proofs.YtibbhecojkehfaaGreatDoor
open Go Go.RowKit
structure GF (w:World) (B o:Nat):Prop where
 f0:w.frozen? ⟨B,o,none⟩=false
 f1:w.frozen? ⟨B,o+1,none⟩=false
 f2:w.frozen? ⟨B,o+2,none⟩=false
theorem zU {w w':World} {p:Addr} (h:w'.heap[p.block]? =w.heap[p.block]?):w'.frozen? p=w.frozen? p:=by
 unfold World.frozen?;rw [h]
theorem GF.same {w w':World} {B o:Nat} (h:GF w B o) (hh:w'.heap[B]? =w.heap[B]?):GF w' B o:=
 ⟨(zU (p:=⟨B,o,none⟩) hh).trans h.f0,(zU (p:=⟨B,o+1,none⟩) hh).trans h.f1,(zU (p:=⟨B,o+2,none⟩) hh).trans h.f2⟩
theorem GC.block {w w':World} {B o:Nat} {v:Value} {lo hi:Int} (h:GC w B o v lo hi) (hh:w'.heap[B]? =w.heap[B]?):GC w' B o v lo hi:=
 ⟨(World.cell?_of_block (w:=w) (a:=⟨B,o,none⟩) hh).trans h.c0,(World.cell?_of_block (w:=w) (a:=⟨B,o+1,none⟩) hh).trans h.c1,(World.cell?_of_block (w:=w) (a:=⟨B,o+2,none⟩) hh).trans h.c2⟩
theorem Row1.trans {w w1 w2:World} {g:Nat} {L L':List Value} {t t':TypeId} (h:Row1 w w1 g L t) (k:Row1 w1 w2 g L' t'):Row1 w w2 g L' t':=
 ⟨k.row,k.os.trans h.os,k.tape.trans h.tape,k.output.trans h.output,k.size.trans h.size,fun i hi=>(k.block i hi).trans (h.block i hi)⟩
theorem Row1.to {w w1:World} {g:Nat} {L L':List Value} {t:TypeId} (h:Row1 w w1 g L t) (e:L=L'):Row1 w w1 g L' t:=e▸h
theorem Row1.of_drew {w w1:World} {g:Nat} {L:List Value} {t:TypeId} (h:Row1 w.drew w1 g L t):Row1 w w1 g L t:=⟨h.row,h.os,h.tape,h.output,h.size,h.block⟩
theorem zK {zs cs:List Int} {sp:List Value} {off:Nat} (h:off+cs.length<=zs.length):splice (ints .i32 zs++sp) off (ints .i32 cs)=ints .i32 (splice zs off cs)++sp:=by
 unfold splice;simp only [ints,List.map_append,List.map_take,List.map_drop,List.length_map]
 rw [List.take_append_of_le_length (by simp;omega),List.drop_append_of_le_length (by simp;omega)]
 simp only [List.append_assoc]
theorem yc (n:Nat):List.replicate n (Value.int .i32 0)=ints .i32 (List.replicate n 0):=by simp [ints]
theorem yp {w:World} {g:Nat} {zs:List Int} {sp:List Value} {t:TypeId} (h:w.heap[g]? =some (.cells (ints .i32 zs++sp).toArray t (0,0))):Cl w g zs:=by
 intro i hi;rw [cell_of_row w g i _ _ _ h];simp [ints,hi,List.getElem?_append_left]
theorem zT:(Tryz.prog.info? 21).map (·.size)=some 1:=by kernel_rfl
theorem jo (w:World):(zeroValue 21).run Tryz.prog w= .ok (.int .i32 0) w:=by kernel_rfl
theorem mixed:Tryz.prog.follows .mixedOrders=true:=by kernel_rfl
theorem Cl.app' {w:World} {g:Nat} {zs:List Int} (h:Cl w g zs) (p l:Nat) (hp:p+l<=zs.length):∀j u,(ints .i32 ((zs.drop p).take l))[j]? =some u->w.cell? ((⟨g,p,none⟩:Addr).add j)=some u:=by
 have:=yn (k:=.i32) (w:=w) (b:=g) (off:=0) (o:=p) (l:=l) (zs:=zs) (fun i hi=>by rw [Nat.zero_add];exact h i hi)
 simpa using this
theorem Jj (B o g cap n:Nat) (zs:List Int) (sp:List Value) (lo hi p e m:Nat) (w:World) (h:GC w B o (.slice (some ⟨g,0,none⟩) n cap) lo hi) (hf:GF w B o) (hr:w.heap[g]? =some (.cells (ints .i32 zs++sp).toArray 21 (0,0))) (hN:zs.length=n) (hBg:B≠g)
  (hc:n<=cap) (h1:lo<=hi) (h2:hi<=n) (hn:n<=1048576) (hp:p+(hi - lo)<=n) (ee:(p:Int)+((hi:Int) - (lo:Int))=e) (hlt:p<lo) (mm:min (lo:Int) (e:Int)=m):
  Calls Tryz.prog 238 #[.pointer (some ⟨B,o,none⟩),.int .i64 p] w fun x w'=>x= .returned (.tuple #[])∧∃w1,Row1 w w1 g (ints .i32 (splice (splice zs e ((zs.drop p).take (lo - p))) p (List.replicate (m - p) 0))++sp) 21∧w'=(w1.setCell ⟨B,o+1,none⟩ (.int .i64 p)).setCell ⟨B,o+2,none⟩ (.int .i64 e):=by
 have HK:=hide (gapN B o (.slice (some ⟨g,0,none⟩) n cap) lo hi w h (by omega) (by omega) (by omega))
 have H:=hide h;have HF:=hide hf;have HR:=hide hr;have HN:=hide hN
 have hee:e=p+(hi - lo):=by omega
 have HEE:=hide hee;obtain⟨c0,c1,c2⟩:=h;clear hr hN hf hee
 have L1:=hide (show((zs.drop p).take (lo - p)).length=lo - p by simp only [List.length_take,List.length_drop,HN.out];omega)
 have i1:e<=hi:=by omega
 have i2:hi<=cap:=by omega
 have i3:¬cap=e:=by omega
 have i4:p<=lo:=by omega
 have i5:lo<=cap:=by omega
 have i6:¬cap=p:=by omega
 have i7:p<=m:=by omega
 have i8:m<=cap:=by omega
 go_enter Tryz.func238,Tryz.ntmps238;go_wp2_with fail;refine HK.out.mono ?_;rintro x w0 ⟨rfl,mm0,rfl⟩
 have R0:=hide (show Row1 w (w.drewN mm0) g (ints .i32 zs++sp) 21 from⟨HR.out,rfl,rfl,rfl,rfl,fun _ _=>rfl⟩)
 have H0:=hide (H.out.same (w':=w.drewN mm0) rfl);have HF0:=hide (HF.out.same (w':=w.drewN mm0) rfl);obtain⟨d0,d1,d2⟩:=H0.out;clear c0 c1 c2 H HF HR HK;generalize w.drewN mm0=w0 at *;go_wp2_with fail;go_still_tail 20,mixed
 refine zM rfl (.tmp 24) (.tmp 34) 34 34 rfl 21 Tryz.underlying34 zT (some ⟨g,e,none⟩) (some ⟨g,p,none⟩) (hi - e) (cap - e) (lo - p) (cap - p) rfl rfl g e (ints .i32 zs++sp) 21 (by exact R0.out.row) (ints .i32 ((zs.drop p).take (lo - p))) (by rw [zC,L1.out];show lo - p=min (lo - p) (hi - e);omega) (fun _=>⟨rfl,_,rfl,(yp R0.out.row).app' p (lo - p) (by rw [HN.out];omega)⟩) (by rw [zC,L1.out,List.length_append,zC,HN.out];omega) (zR _ _) ?_
 intro w2 rr2
 have R2:=hide (Row1.to (R0.out.trans (Row1.of_drew rr2.out)) (zK (by rw [L1.out,HN.out];omega)))
 have H2:=hide (H0.out.block (w':=w2) (rr2.out.block B hBg));have HF2:=hide (HF0.out.same (w':=w2) (rr2.out.block B hBg));obtain⟨d0,d1,d2⟩:=H2.out;clear rr2 R0 H0 HF0;go_wp2_with fail;go_still_tail 12,mixed
 refine zZ rfl (.tmp 47) 34 rfl 21 Tryz.underlying34 (.int .i32 0) jo rfl rfl (some ⟨g,p,none⟩) (m - p) (cap - p) rfl g p _ 21 (by exact R2.out.row) (fun _=>rfl) (by rw [List.length_append,zC,length_splice _ _ _ (by rw [L1.out,HN.out];omega),HN.out];omega) ?_
 intro w3 rr3;rw [yc]at rr3
 have R3:=hide (Row1.to (R2.out.trans (Row1.of_drew rr3.out)) (zK (by rw [List.length_replicate,length_splice _ _ _ (by rw [L1.out,HN.out];omega),HN.out];omega)))
 have H3:=hide (H2.out.block (w':=w3) (rr3.out.block B hBg));have HF3:=hide (HF2.out.same (w':=w3) (rr3.out.block B hBg));obtain⟨d0,d1,d2⟩:=H3.out;obtain⟨f0,f1,f2⟩:=HF3.out;clear rr3 R2 H2 HF2;go_wp2;go_end0;exact⟨rfl,w3,R3.out,rfl⟩
theorem XZ (B o g cap n:Nat) (zs:List Int) (sp:List Value) (lo hi p e m:Nat) (w:World) (h:GC w B o (.slice (some ⟨g,0,none⟩) n cap) lo hi) (hf:GF w B o) (hr:w.heap[g]? =some (.cells (ints .i32 zs++sp).toArray 21 (0,0))) (hN:zs.length=n) (hBg:B≠g)
  (hc:n<=cap) (h1:lo<=hi) (h2:hi<=n) (hn:n<=1048576) (hp:p+(hi - lo)<=n) (ee:(p:Int)+((hi:Int) - (lo:Int))=e) (hge:lo<=p) (mm:max (hi:Int) (p:Int)=m) (q1:¬cap=lo) (q2:¬cap=hi) (q3:¬cap=m):
  Calls Tryz.prog 238 #[.pointer (some ⟨B,o,none⟩),.int .i64 p] w fun x w'=>x= .returned (.tuple #[])∧∃w1,Row1 w w1 g (ints .i32 (splice (splice zs lo ((zs.drop hi).take (e - hi))) m (List.replicate (e - m) 0))++sp) 21∧w'=(w1.setCell ⟨B,o+1,none⟩ (.int .i64 p)).setCell ⟨B,o+2,none⟩ (.int .i64 e):=by
 have HK:=hide (gapN B o (.slice (some ⟨g,0,none⟩) n cap) lo hi w h (by omega) (by omega) (by omega))
 have H:=hide h;have HF:=hide hf;have HR:=hide hr;have HN:=hide hN
 have hee:e=p+(hi - lo):=by omega
 have HEE:=hide hee;obtain⟨c0,c1,c2⟩:=h;clear hr hN hf hee
 have L1:=hide (show((zs.drop hi).take (e - hi)).length=p - lo by simp only [List.length_take,List.length_drop,HN.out];omega)
 have nlt:¬ (p:Int)<(lo:Int):=by omega
 have i1:lo<=p:=by omega
 have i2:p<=cap:=by omega
 have i3:hi<=e:=by omega
 have i4:e<=cap:=by omega
 have i5:m<=e:=by omega
 go_enter Tryz.func238,Tryz.ntmps238;go_wp2_with fail;refine HK.out.mono ?_;rintro x w0 ⟨rfl,mm0,rfl⟩
 have R0:=hide (show Row1 w (w.drewN mm0) g (ints .i32 zs++sp) 21 from⟨HR.out,rfl,rfl,rfl,rfl,fun _ _=>rfl⟩)
 have H0:=hide (H.out.same (w':=w.drewN mm0) rfl);have HF0:=hide (HF.out.same (w':=w.drewN mm0) rfl);obtain⟨d0,d1,d2⟩:=H0.out;clear c0 c1 c2 H HF HR HK;generalize w.drewN mm0=w0 at *;go_wp2_with fail;go_still_tail 20,mixed
 refine zM rfl (.tmp 57) (.tmp 67) 34 34 rfl 21 Tryz.underlying34 zT (some ⟨g,lo,none⟩) (some ⟨g,hi,none⟩) (p - lo) (cap - lo) (e - hi) (cap - hi) rfl rfl g lo (ints .i32 zs++sp) 21 (by exact R0.out.row) (ints .i32 ((zs.drop hi).take (e - hi))) (by rw [zC,L1.out];show p - lo=min _ _;omega) (fun hpos=>⟨rfl,_,rfl,(yp R0.out.row).app' hi (e - hi) (by rw [HN.out];omega)⟩) (by rw [zC,L1.out,List.length_append,zC,HN.out];omega) (zR _ _) ?_
 intro w2 rr2
 have R2:=hide (Row1.to (R0.out.trans (Row1.of_drew rr2.out)) (zK (by rw [L1.out,HN.out];omega)))
 have H2:=hide (H0.out.block (w':=w2) (rr2.out.block B hBg));have HF2:=hide (HF0.out.same (w':=w2) (rr2.out.block B hBg));obtain⟨d0,d1,d2⟩:=H2.out;clear rr2 R0 H0 HF0;go_wp2_with fail;go_still_tail 12,mixed
 refine zZ rfl (.tmp 80) 34 rfl 21 Tryz.underlying34 (.int .i32 0) jo rfl rfl (some ⟨g,m,none⟩) (e - m) (cap - m) rfl g m _ 21 (by exact R2.out.row) (fun hpos=>rfl) (by rw [List.length_append,zC,length_splice _ _ _ (by rw [L1.out,HN.out];omega),HN.out];omega) ?_
 intro w3 rr3;rw [yc]at rr3
 have R3:=hide (Row1.to (R2.out.trans (Row1.of_drew rr3.out)) (zK (by rw [List.length_replicate,length_splice _ _ _ (by rw [L1.out,HN.out];omega),HN.out];omega)))
 have H3:=hide (H2.out.block (w':=w3) (rr3.out.block B hBg));have HF3:=hide (HF2.out.same (w':=w3) (rr3.out.block B hBg));obtain⟨d0,d1,d2⟩:=H3.out;obtain⟨f0,f1,f2⟩:=HF3.out;clear rr3 R2 H2 HF2;go_wp2;go_end0;exact⟨rfl,w3,R3.out,rfl⟩
theorem X9 (B o g cap n:Nat) (zs:List Int) (sp:List Value) (lo hi p e m:Nat) (w:World) (h:GC w B o (.slice (some ⟨g,0,none⟩) n cap) lo hi) (hf:GF w B o) (hr:w.heap[g]? =some (.cells (ints .i32 zs++sp).toArray 21 (0,0))) (hN:zs.length=n) (hBg:B≠g)
  (hc:n<=cap) (h1:lo<=hi) (h2:hi<=n) (hn:n<=1048576) (hp:p+(hi - lo)<=n) (ee:(p:Int)+((hi:Int) - (lo:Int))=e) (hge:lo<=p) (mm:max (hi:Int) (p:Int)=m) (q1:cap=lo):
  Calls Tryz.prog 238 #[.pointer (some ⟨B,o,none⟩),.int .i64 p] w fun x w'=>x= .returned (.tuple #[])∧∃w1,Row1 w w1 g (ints .i32 (splice (splice zs lo ((zs.drop hi).take (e - hi))) m (List.replicate (e - m) 0))++sp) 21∧w'=(w1.setCell ⟨B,o+1,none⟩ (.int .i64 p)).setCell ⟨B,o+2,none⟩ (.int .i64 e):=by
 obtain rfl:n=cap:=by omega
 obtain rfl:n=lo:=by omega
 obtain rfl:n=hi:=by omega
 obtain rfl:n=p:=by omega
 obtain rfl:n=e:=by omega
 obtain rfl:n=m:=by omega
 have HK:=hide (gapN B o (.slice (some ⟨g,0,none⟩) n n) n n w h (by omega) (by omega) (by omega))
 have H:=hide h;have HF:=hide hf;have HR:=hide hr;have HN:=hide hN
 have hee:n=n+(n - n):=by omega
 have HEE:=hide hee;obtain⟨c0,c1,c2⟩:=h;clear hr hN hf hee
 have L1:=hide (show((zs.drop n).take (n - n)).length=n - n by simp only [List.length_take,List.length_drop,HN.out];omega)
 have nlt:¬ (n:Int)<(n:Int):=by omega
 go_enter Tryz.func238,Tryz.ntmps238;go_wp2_with fail;refine HK.out.mono ?_;rintro x w0 ⟨rfl,mm0,rfl⟩
 have R0:=hide (show Row1 w (w.drewN mm0) g (ints .i32 zs++sp) 21 from⟨HR.out,rfl,rfl,rfl,rfl,fun _ _=>rfl⟩)
 have H0:=hide (H.out.same (w':=w.drewN mm0) rfl);have HF0:=hide (HF.out.same (w':=w.drewN mm0) rfl);obtain⟨d0,d1,d2⟩:=H0.out;clear c0 c1 c2 H HF HR HK;generalize w.drewN mm0=w0 at *;go_wp2_with fail;go_still_tail 20,mixed
 refine zM rfl (.tmp 57) (.tmp 67) 34 34 rfl 21 Tryz.underlying34 zT (some ⟨g,0,none⟩) (some ⟨g,0,none⟩) 0 0 0 0 rfl rfl g n (ints .i32 zs++sp) 21 (by exact R0.out.row) (ints .i32 ((zs.drop n).take (n - n))) (by rw [zC,L1.out];show n - n=min _ _;omega) (fun hpos=>absurd hpos (by rw [zC,L1.out];omega)) (by rw [zC,L1.out,List.length_append,zC,HN.out];omega) (zR _ _) ?_
 intro w2 rr2
 have R2:=hide (Row1.to (R0.out.trans (Row1.of_drew rr2.out)) (zK (by rw [L1.out,HN.out];omega)))
 have H2:=hide (H0.out.block (w':=w2) (rr2.out.block B hBg));have HF2:=hide (HF0.out.same (w':=w2) (rr2.out.block B hBg));obtain⟨d0,d1,d2⟩:=H2.out;clear rr2 R0 H0 HF0;go_wp2_with fail;go_still_tail 12,mixed
 refine zZ rfl (.tmp 80) 34 rfl 21 Tryz.underlying34 (.int .i32 0) jo rfl rfl (some ⟨g,0,none⟩) 0 0 rfl g n _ 21 (by exact R2.out.row) (fun hpos=>absurd hpos (by omega)) (by rw [List.length_append,zC,length_splice _ _ _ (by rw [L1.out,HN.out];omega),HN.out];omega) ?_
 intro w3 rr3;rw [yc]at rr3
 have R3:=hide (Row1.to (R2.out.trans (Row1.of_drew rr3.out)) (zK (by rw [List.length_replicate,length_splice _ _ _ (by rw [L1.out,HN.out];omega),HN.out];omega)))
 have H3:=hide (H2.out.block (w':=w3) (rr3.out.block B hBg));have HF3:=hide (HF2.out.same (w':=w3) (rr3.out.block B hBg));obtain⟨d0,d1,d2⟩:=H3.out;obtain⟨f0,f1,f2⟩:=HF3.out;clear rr3 R2 H2 HF2;go_wp2;go_end0
 exact⟨rfl,w3,by rw [show List.replicate (n - n) (0:Int)=List.replicate 0 0 by rw [Nat.sub_self]];exact R3.out,rfl⟩
theorem Xa (B o g cap n:Nat) (zs:List Int) (sp:List Value) (lo hi p e m:Nat) (w:World) (h:GC w B o (.slice (some ⟨g,0,none⟩) n cap) lo hi) (hf:GF w B o) (hr:w.heap[g]? =some (.cells (ints .i32 zs++sp).toArray 21 (0,0))) (hN:zs.length=n) (hBg:B≠g)
  (hc:n<=cap) (h1:lo<=hi) (h2:hi<=n) (hn:n<=1048576) (hp:p+(hi - lo)<=n) (ee:(p:Int)+((hi:Int) - (lo:Int))=e) (hge:lo<=p) (mm:max (hi:Int) (p:Int)=m) (q1:¬cap=lo) (q2:cap=hi):
  Calls Tryz.prog 238 #[.pointer (some ⟨B,o,none⟩),.int .i64 p] w fun x w'=>x= .returned (.tuple #[])∧∃w1,Row1 w w1 g (ints .i32 (splice (splice zs lo ((zs.drop hi).take (e - hi))) m (List.replicate (e - m) 0))++sp) 21∧w'=(w1.setCell ⟨B,o+1,none⟩ (.int .i64 p)).setCell ⟨B,o+2,none⟩ (.int .i64 e):=by
 obtain rfl:n=cap:=by omega
 obtain rfl:n=hi:=by omega
 obtain rfl:lo=p:=by omega
 obtain rfl:n=e:=by omega
 obtain rfl:n=m:=by omega
 have HK:=hide (gapN B o (.slice (some ⟨g,0,none⟩) n n) lo n w h (by omega) (by omega) (by omega))
 have H:=hide h;have HF:=hide hf;have HR:=hide hr;have HN:=hide hN
 have hee:n=lo+(n - lo):=by omega
 have HEE:=hide hee;obtain⟨c0,c1,c2⟩:=h;clear hr hN hf hee
 have L1:=hide (show((zs.drop n).take (n - n)).length=lo - lo by simp only [List.length_take,List.length_drop,HN.out];omega)
 have nlt:¬ (lo:Int)<(lo:Int):=by omega
 have i9:lo<=n:=by omega
 go_enter Tryz.func238,Tryz.ntmps238;go_wp2_with fail;refine HK.out.mono ?_;rintro x w0 ⟨rfl,mm0,rfl⟩
 have R0:=hide (show Row1 w (w.drewN mm0) g (ints .i32 zs++sp) 21 from⟨HR.out,rfl,rfl,rfl,rfl,fun _ _=>rfl⟩)
 have H0:=hide (H.out.same (w':=w.drewN mm0) rfl);have HF0:=hide (HF.out.same (w':=w.drewN mm0) rfl);obtain⟨d0,d1,d2⟩:=H0.out;clear c0 c1 c2 H HF HR HK;generalize w.drewN mm0=w0 at *;go_wp2_with fail;go_still_tail 20,mixed
 refine zM rfl (.tmp 57) (.tmp 67) 34 34 rfl 21 Tryz.underlying34 zT (some ⟨g,lo,none⟩) (some ⟨g,0,none⟩) 0 (n - lo) 0 0 rfl rfl g lo (ints .i32 zs++sp) 21 (by exact R0.out.row) (ints .i32 ((zs.drop n).take (n - n))) (by rw [zC,L1.out];show lo - lo=min _ _;omega) (fun hpos=>absurd hpos (by rw [zC,L1.out];omega)) (by rw [zC,L1.out,List.length_append,zC,HN.out];omega) (zR _ _) ?_
 intro w2 rr2
 have R2:=hide (Row1.to (R0.out.trans (Row1.of_drew rr2.out)) (zK (by rw [L1.out,HN.out];omega)))
 have H2:=hide (H0.out.block (w':=w2) (rr2.out.block B hBg));have HF2:=hide (HF0.out.same (w':=w2) (rr2.out.block B hBg));obtain⟨d0,d1,d2⟩:=H2.out;clear rr2 R0 H0 HF0;go_wp2_with fail;go_still_tail 12,mixed
 refine zZ rfl (.tmp 80) 34 rfl 21 Tryz.underlying34 (.int .i32 0) jo rfl rfl (some ⟨g,0,none⟩) 0 0 rfl g n _ 21 (by exact R2.out.row) (fun hpos=>absurd hpos (by omega)) (by rw [List.length_append,zC,length_splice _ _ _ (by rw [L1.out,HN.out];omega),HN.out];omega) ?_
 intro w3 rr3;rw [yc]at rr3
 have R3:=hide (Row1.to (R2.out.trans (Row1.of_drew rr3.out)) (zK (by rw [List.length_replicate,length_splice _ _ _ (by rw [L1.out,HN.out];omega),HN.out];omega)))
 have H3:=hide (H2.out.block (w':=w3) (rr3.out.block B hBg));have HF3:=hide (HF2.out.same (w':=w3) (rr3.out.block B hBg));obtain⟨d0,d1,d2⟩:=H3.out;obtain⟨f0,f1,f2⟩:=HF3.out;clear rr3 R2 H2 HF2;go_wp2;go_end0
 exact⟨rfl,w3,by rw [show List.replicate (n - n) (0:Int)=List.replicate 0 0 by rw [Nat.sub_self]];exact R3.out,rfl⟩
theorem Xb (B o g cap n:Nat) (zs:List Int) (sp:List Value) (lo hi p e m:Nat) (w:World) (h:GC w B o (.slice (some ⟨g,0,none⟩) n cap) lo hi) (hf:GF w B o) (hr:w.heap[g]? =some (.cells (ints .i32 zs++sp).toArray 21 (0,0))) (hN:zs.length=n) (hBg:B≠g)
  (hc:n<=cap) (h1:lo<=hi) (h2:hi<=n) (hn:n<=1048576) (hp:p+(hi - lo)<=n) (ee:(p:Int)+((hi:Int) - (lo:Int))=e) (hge:lo<=p) (mm:max (hi:Int) (p:Int)=m) (q1:¬cap=lo) (q2:¬cap=hi) (q3:cap=m):
  Calls Tryz.prog 238 #[.pointer (some ⟨B,o,none⟩),.int .i64 p] w fun x w'=>x= .returned (.tuple #[])∧∃w1,Row1 w w1 g (ints .i32 (splice (splice zs lo ((zs.drop hi).take (e - hi))) m (List.replicate (e - m) 0))++sp) 21∧w'=(w1.setCell ⟨B,o+1,none⟩ (.int .i64 p)).setCell ⟨B,o+2,none⟩ (.int .i64 e):=by
 obtain rfl:n=cap:=by omega
 obtain rfl:n=m:=by omega
 obtain rfl:n=p:=by omega
 obtain rfl:n=e:=by omega
 obtain rfl:lo=hi:=by omega
 have HK:=hide (gapN B o (.slice (some ⟨g,0,none⟩) n n) lo lo w h (by omega) (by omega) (by omega))
 have H:=hide h;have HF:=hide hf;have HR:=hide hr;have HN:=hide hN
 have hee:n=n+(lo - lo):=by omega
 have HEE:=hide hee;obtain⟨c0,c1,c2⟩:=h;clear hr hN hf hee
 have L1:=hide (show((zs.drop lo).take (n - lo)).length=n - lo by simp only [List.length_take,List.length_drop,HN.out];omega)
 have nlt:¬ (n:Int)<(lo:Int):=by omega
 have i9:lo<=n:=by omega
 go_enter Tryz.func238,Tryz.ntmps238;go_wp2_with fail;refine HK.out.mono ?_;rintro x w0 ⟨rfl,mm0,rfl⟩
 have R0:=hide (show Row1 w (w.drewN mm0) g (ints .i32 zs++sp) 21 from⟨HR.out,rfl,rfl,rfl,rfl,fun _ _=>rfl⟩)
 have H0:=hide (H.out.same (w':=w.drewN mm0) rfl);have HF0:=hide (HF.out.same (w':=w.drewN mm0) rfl);obtain⟨d0,d1,d2⟩:=H0.out;clear c0 c1 c2 H HF HR HK;generalize w.drewN mm0=w0 at *;go_wp2_with fail;go_still_tail 20,mixed
 refine zM rfl (.tmp 57) (.tmp 67) 34 34 rfl 21 Tryz.underlying34 zT (some ⟨g,lo,none⟩) (some ⟨g,lo,none⟩) (n - lo) (n - lo) (n - lo) (n - lo) rfl rfl g lo (ints .i32 zs++sp) 21 (by exact R0.out.row) (ints .i32 ((zs.drop lo).take (n - lo))) (by rw [zC,L1.out];show n - lo=min _ _;omega) (fun hpos=>⟨rfl,_,rfl,(yp R0.out.row).app' lo (n - lo) (by rw [HN.out];omega)⟩) (by rw [zC,L1.out,List.length_append,zC,HN.out];omega) (zR _ _) ?_
 intro w2 rr2
 have R2:=hide (Row1.to (R0.out.trans (Row1.of_drew rr2.out)) (zK (by rw [L1.out,HN.out];omega)))
 have H2:=hide (H0.out.block (w':=w2) (rr2.out.block B hBg));have HF2:=hide (HF0.out.same (w':=w2) (rr2.out.block B hBg));obtain⟨d0,d1,d2⟩:=H2.out;clear rr2 R0 H0 HF0;go_wp2_with fail;go_still_tail 12,mixed
 refine zZ rfl (.tmp 80) 34 rfl 21 Tryz.underlying34 (.int .i32 0) jo rfl rfl (some ⟨g,0,none⟩) 0 0 rfl g n _ 21 (by exact R2.out.row) (fun hpos=>absurd hpos (by omega)) (by rw [List.length_append,zC,length_splice _ _ _ (by rw [L1.out,HN.out];omega),HN.out];omega) ?_
 intro w3 rr3;rw [yc]at rr3
 have R3:=hide (Row1.to (R2.out.trans (Row1.of_drew rr3.out)) (zK (by rw [List.length_replicate,length_splice _ _ _ (by rw [L1.out,HN.out];omega),HN.out];omega)))
 have H3:=hide (H2.out.block (w':=w3) (rr3.out.block B hBg));have HF3:=hide (HF2.out.same (w':=w3) (rr3.out.block B hBg));obtain⟨d0,d1,d2⟩:=H3.out;obtain⟨f0,f1,f2⟩:=HF3.out;clear rr3 R2 H2 HF2;go_wp2;go_end0
 exact⟨rfl,w3,by rw [show List.replicate (n - n) (0:Int)=List.replicate 0 0 by rw [Nat.sub_self]];exact R3.out,rfl⟩
theorem moveToN (B o g cap:Nat) (zs:List Int) (sp:List Value) (lo hi p:Nat) (w:World) (h:GC w B o (.slice (some ⟨g,0,none⟩) zs.length cap) lo hi) (hf:GF w B o) (hr:w.heap[g]? =some (.cells (ints .i32 zs++sp).toArray 21 (0,0))) (hBg:B≠g)
  (hc:zs.length<=cap) (hv:GV zs lo hi) (hp:p+(hi - lo)<=zs.length):
  Calls Tryz.prog 238 #[.pointer (some ⟨B,o,none⟩),.int .i64 p] w fun x w'=>x= .returned (.tuple #[])∧∃w1,Row1 w w1 g (ints .i32 (glay (gtext zs lo hi) p zs.length)++sp) 21∧w'=(w1.setCell ⟨B,o+1,none⟩ (.int .i64 p)).setCell ⟨B,o+2,none⟩ (.int .i64 ((p+(hi - lo):Nat):Int)):=by
 have h1:=hv.a;have h2:=hv.b;have h3:=hv.c
 by_cases hlt:p<lo
 ·rw [<- XA hv hlt]
  exact Jj B o g cap zs.length zs sp lo hi p (p+(hi - lo)) (min lo (p+(hi - lo))) w h hf hr rfl hBg hc h1 h2 (by omega) hp (by omega) hlt (by omega)
 have hge:lo<=p:=by omega
 have e1:=gmove_up hv hge hp;rw [<- e1]
 by_cases q1:cap=lo
 ·exact X9 B o g cap zs.length zs sp lo hi p (p+(hi - lo)) (max hi p) w h hf hr rfl hBg hc h1 h2 (by omega) hp (by omega) hge (by omega) q1
 by_cases q2:cap=hi
 ·exact Xa B o g cap zs.length zs sp lo hi p (p+(hi - lo)) (max hi p) w h hf hr rfl hBg hc h1 h2 (by omega) hp (by omega) hge (by omega) q1 q2
 by_cases q3:cap=max hi p
 ·exact Xb B o g cap zs.length zs sp lo hi p (p+(hi - lo)) (max hi p) w h hf hr rfl hBg hc h1 h2 (by omega) hp (by omega) hge (by omega) q1 q2 q3
 exact XZ B o g cap zs.length zs sp lo hi p (p+(hi - lo)) (max hi p) w h hf hr rfl hBg hc h1 h2 (by omega) hp (by omega) hge (by omega) q1 q2 q3
def set3 (cs:Array Value) (o:Nat) (a b c:Value):Array Value:=((cs.setIfInBounds o a).setIfInBounds (o+1) b).setIfInBounds (o+2) c
theorem z8 (cs:Array Value) (o:Nat) (a b c:Value):(set3 cs o a b c).size=cs.size:=by simp [set3]
theorem zd (cs:Array Value) (o:Nat) (a b c:Value) (j:Nat) (h:o+3<=cs.size):(set3 cs o a b c)[j]? =if j=o then some a else if j=o+1 then some b else if j=o+2 then some c else cs[j]?:=by
 unfold set3;simp only [Array.getElem?_setIfInBounds,Array.size_setIfInBounds]
 by_cases h0:j=o
 ·subst h0;simp;omega
 by_cases h1:j=o+1
 ·subst h1;simp;omega
 by_cases h2:j=o+2
 ·subst h2;simp;omega
 simp [h0,h1,h2,Ne.symm h0,Ne.symm h1,Ne.symm h2]
theorem yR {cs cs':Array Value} {o:Nat} {a b c:Value} (hs:cs'.size=cs.size) (h:o+3<=cs.size) (h0:cs'[o]? =some a) (h1:cs'[o+1]? =some b) (h2:cs'[o+2]? =some c) (hr:∀j,j≠o->j≠o+1->j≠o+2->cs'[j]? =cs[j]?):cs'=set3 cs o a b c:=by
 apply Array.ext_getElem?;intro j;rw [zd _ _ _ _ _ _ h]
 by_cases e0:j=o
 ·subst e0;simpa using h0
 by_cases e1:j=o+1
 ·subst e1;simpa using h1
 by_cases e2:j=o+2
 ·subst e2;simpa using h2
 simp [e0,e1,e2,hr j e0 e1 e2]
theorem Yb (cs:Array Value) (o:Nat) (a b c a' b' c':Value) (h:o+3<=cs.size):set3 (set3 cs o a b c) o a' b' c'=set3 cs o a' b' c':=by
 apply yR (by simp [z8]) h
 ·rw [zd _ _ _ _ _ _ (by rw [z8];exact h)];simp
 ·rw [zd _ _ _ _ _ _ (by rw [z8];exact h)];simp
 ·rw [zd _ _ _ _ _ _ (by rw [z8];exact h)];simp
 intro j e0 e1 e2
 rw [zd _ _ _ _ _ _ (by rw [z8];exact h),zd _ _ _ _ _ _ h]
 simp [e0,e1,e2]
structure GB (w:World) (B o:Nat) (cs:Array Value) (t:TypeId) (v:Value) (lo hi:Int):Prop where
 blk:w.heap[B]? =some (.cells cs t (0,0))
 sz:o+3<=cs.size
 c0:cs[o]? =some v
 c1:cs[o+1]? =some (.int .i64 lo)
 c2:cs[o+2]? =some (.int .i64 hi)
theorem GB.gc {w:World} {B o:Nat} {cs:Array Value} {t:TypeId} {v:Value} {lo hi:Int} (h:GB w B o cs t v lo hi):GC w B o v lo hi:=
 ⟨by rw [cell_of_row w B o _ _ _ h.blk];exact h.c0,by rw [cell_of_row w B (o+1) _ _ _ h.blk];exact h.c1,by rw [cell_of_row w B (o+2) _ _ _ h.blk];exact h.c2⟩
theorem GB.gf {w:World} {B o:Nat} {cs:Array Value} {t:TypeId} {v:Value} {lo hi:Int} (h:GB w B o cs t v lo hi):GF w B o:=
 ⟨frozen_of_row w B _ _ _ h.blk,frozen_of_row w B _ _ _ h.blk,frozen_of_row w B _ _ _ h.blk⟩
theorem GB.lt {w:World} {B o:Nat} {cs:Array Value} {t:TypeId} {v:Value} {lo hi:Int} (h:GB w B o cs t v lo hi):B<w.heap.size:=lt_of_block h.blk
theorem GB.self {w:World} {B o:Nat} {cs:Array Value} {t:TypeId} {v:Value} {lo hi:Int} (h:GB w B o cs t v lo hi):set3 cs o v (.int .i64 lo) (.int .i64 hi)=cs:=
 (yR rfl h.sz h.c0 h.c1 h.c2 (fun _ _ _ _=>rfl)).symm
theorem GB.block {w w':World} {B o:Nat} {cs:Array Value} {t:TypeId} {v:Value} {lo hi:Int} (h:GB w B o cs t v lo hi) (hh:w'.heap[B]? =w.heap[B]?):GB w' B o cs t v lo hi:=⟨hh.trans h.blk,h.sz,h.c0,h.c1,h.c2⟩
theorem GB.of_set3 {w:World} {B o:Nat} {cs:Array Value} {t:TypeId} {v:Value} {lo hi:Int} (h:w.heap[B]? =some (.cells (set3 cs o v (.int .i64 lo) (.int .i64 hi)) t (0,0))) (hs:o+3<=cs.size):GB w B o (set3 cs o v (.int .i64 lo) (.int .i64 hi)) t v lo hi:=
 ⟨h,by rw [z8];exact hs,by rw [zd _ _ _ _ _ _ hs];simp,by rw [zd _ _ _ _ _ _ hs];simp,by rw [zd _ _ _ _ _ _ hs];simp⟩
theorem ChgP.trans {w w1 w2:World} {S T U:Nat->Prop} (h:ChgP w w1 S) (k:ChgP w1 w2 T) (hS:∀i,i<w.heap.size->S i->U i) (hT:∀i,i<w.heap.size->T i->U i):ChgP w w2 U:=
 ⟨k.os.trans h.os,k.tape.trans h.tape,k.output.trans h.output,Nat.le_trans h.size k.size,fun i hi hn=>(k.block i (Nat.lt_of_lt_of_le hi h.size) (fun s=>hn (hT i hi s))).trans (h.block i hi (fun s=>hn (hS i hi s)))⟩
def Rw (w:World) (g:Nat) (zs:List Int) (sp:List Value):Prop:=w.heap[g]? =some (.cells (ints .i32 zs++sp).toArray 21 (0,0))
structure GPost (w w':World) (B o g:Nat) (cs:Array Value) (t:TypeId) (v:Value) (lo hi:Int) (zs:List Int) (sp:List Value):Prop where
 gb:GB w' B o (set3 cs o v (.int .i64 lo) (.int .i64 hi)) t v lo hi
 rw:Rw w' g zs sp
 chg:ChgP w w' (fun k=>k=B∨k=g)
theorem set2_blk {w w1:World} {B o g:Nat} {cs:Array Value} {t:TypeId} {v:Value} {lo hi:Int} {L:List Value} {tt:TypeId} (h:GB w B o cs t v lo hi) (hBg:B≠g) (hr:Row1 w w1 g L tt) (a b:Int):
  ((w1.setCell ⟨B,o+1,none⟩ (.int .i64 a)).setCell ⟨B,o+2,none⟩ (.int .i64 b)).heap[B]? =some (.cells (set3 cs o v (.int .i64 a) (.int .i64 b)) t (0,0)):=by
 have h0:w1.heap[B]? =some (.cells cs t (0,0)):=(hr.block B hBg).trans h.blk;have h1:=heap_setCell_same w1 B (o+1) _ _ (.int .i64 a) h0;have h2:=heap_setCell_same _ B (o+2) _ _ (.int .i64 b) h1;have hs:=h.sz;rw [h2]
 congr 2
 apply yR (by simp) h.sz
 ·rw [Array.getElem?_setIfInBounds,Array.getElem?_setIfInBounds,if_neg (by omega),if_neg (by omega)];exact h.c0
 ·rw [Array.getElem?_setIfInBounds,Array.getElem?_setIfInBounds,if_neg (by omega),if_pos rfl,if_pos (by omega)]
 ·rw [Array.getElem?_setIfInBounds,if_pos rfl,if_pos (by simp;omega)]
 intro j e0 e1 e2
 rw [Array.getElem?_setIfInBounds,Array.getElem?_setIfInBounds,if_neg (by omega),if_neg (by omega)]
theorem zD {w:World} {a:Addr} {v:Value} {k:Nat} (h:k≠a.block):(w.setCell a v).heap[k]? =w.heap[k]?:=heap_setCell_other w a k v h
theorem Xc {w w1:World} {B o g:Nat} {cs:Array Value} {t:TypeId} {v:Value} {lo hi:Int} {zs:List Int} {sp:List Value} (h:GB w B o cs t v lo hi) (hBg:B≠g) (hr:Row1 w w1 g (ints .i32 zs++sp) 21) (a b:Int):
  GPost w ((w1.setCell ⟨B,o+1,none⟩ (.int .i64 a)).setCell ⟨B,o+2,none⟩ (.int .i64 b)) B o g cs t v a b zs sp:=by
 refine⟨GB.of_set3 (set2_blk h hBg hr a b) h.sz,?_,?_⟩
 ·show _=_
  rw [zD (by show g≠B;exact hBg.symm),zD (by show g≠B;exact hBg.symm)]
  exact hr.row
 refine⟨hr.os,hr.tape,hr.output,by simp [hr.size],fun k hk hn=>?_⟩
 rw [zD (by show k≠B;exact fun e=>hn (.inl e)),zD (by show k≠B;exact fun e=>hn (.inl e))]
 exact hr.block k (fun e=>hn (.inr e))
theorem KU (B o g cap:Nat) (cs:Array Value) (t:TypeId) (zs:List Int) (sp:List Value) (lo hi p:Nat) (w:World) (h:GB w B o cs t (.slice (some ⟨g,0,none⟩) zs.length cap) lo hi) (hr:Rw w g zs sp) (hBg:B≠g)
  (hc:zs.length<=cap) (hv:GV zs lo hi) (hp:p+(hi - lo)<=zs.length):
  Calls Tryz.prog 238 #[.pointer (some ⟨B,o,none⟩),.int .i64 p] w fun x w'=>x= .returned (.tuple #[])∧GPost w w' B o g cs t (.slice (some ⟨g,0,none⟩) zs.length cap) p ((p+(hi - lo):Nat):Int) (glay (gtext zs lo hi) p zs.length) sp:=
 (moveToN B o g cap zs sp lo hi p w h.gc h.gf hr hBg hc hv hp).mono fun x w' ⟨hx,w1,hr1,hw⟩=>⟨hx,by rw [hw];exact Xc h hBg hr1 _ _⟩
noncomputable def insG (x:Gr) (p:Nat) (ts:List Int):Gr:=
 ⟨glay ((grT x).take p++(ts++(grT x).drop p)) (p+ts.length) (zb x.cells x.lo.toNat x.hi.toNat ts.length),((p+ts.length:Nat):Int),((p+(zb x.cells x.lo.toNat x.hi.toNat ts.length - (grT x).length):Nat):Int)⟩
def delG (x:Gr) (a b:Nat):Gr:=⟨glay ((grT x).take a++(grT x).drop b) a x.cells.length,(a:Int),((b+(x.hi.toNat - x.lo.toNat):Nat):Int)⟩
theorem zAf {vs:List Value} {gs:List Gr} {i:Nat} (u:Value) (x:Gr) (h:vs.length=gs.length) (hi:i<gs.length):grVs (vs.set i u) (gs.set i x)=(((grVs vs gs).set (i*3) u).set (i*3+1) (.int .i64 x.lo)).set (i*3+2) (.int .i64 x.hi):=by
 induction i generalizing vs gs with
 | zero=>
  cases vs with
  | nil=>simp at h;rw [h]at hi;simp at hi
  | cons v vs=>
   cases gs with
   | nil=>simp at hi
   | cons g gs=>simp [grVs]
 | succ i ih=>
  cases vs with
  | nil=>simp at h;rw [<- h]at hi;simp at hi
  | cons v vs=>
   cases gs with
   | nil=>simp at hi
   | cons g gs=>
    simp only [List.length_cons]at h hi
    rw [show(i+1)*3=i*3+1+1+1 by omega,show i*3+1+1+1+1=(i*3+1)+1+1+1 by omega,show i*3+1+1+1+2=(i*3+2)+1+1+1 by omega]
    simp only [List.set_cons_succ,grVs]
    rw [ih (by omega) (by omega)]
theorem zAg {cur:Array Value} {o m:Nat} {a b c:Value}:(set3 cur o a b c).toList.take m=(((cur.toList.take m).set o a).set (o+1) b).set (o+2) c:=by
 unfold set3;simp only [Array.toList_setIfInBounds,List.take_set]
theorem jE {α:Type} {xs:List α} {i j:Nat} {a b:α} (h:(xs.set i a)[j]? =some b):(j=i∧b=a)∨(j≠i∧xs[j]? =some b):=by
 by_cases e:j=i
 ·subst e
  rw [List.getElem?_set_self']at h
  cases hx:xs[j]? with
  | none=>rw [hx]at h;simp at h
  | some y=>rw [hx]at h;simp at h;exact .inl ⟨rfl,h.symm⟩
 rw [List.getElem?_set_ne (fun q=>e q.symm)]at h
 exact .inr ⟨e,h⟩
theorem OwG.edit {w w1:World} {lo hi g cap n i:Nat} {vs:List Value} {gs:List Gr} {x:Gr} {u u':Value} {cur:Array Value} {zs:List Int} {lo' hi':Int}
  (h:OwG 104 w lo hi (.slice (some ⟨g,0,none⟩) n cap) vs gs) (hn:gs.length=n) (hx:gs[i]? =some x) (hu:vs[i]? =some u) (hh:hi<=w.heap.size)
  (hcur:w.heap[g]? =some (.cells cur 104 (0,0))) (hb:w1.heap[g]? =some (.cells (set3 cur (i*3) u' (.int .i64 lo') (.int .i64 hi')) 104 (0,0)))
  (ho:o32 w1 lo u' zs) (hbl:bel w1.heap.size u') (hne:∀q,u'.ownBlock=some q->q<w.heap.size->u.ownBlock=some q)
  (hc:ChgP w w1 (fun k=>k=g∨u.ownBlock=some k)):
  OwG 104 w1 lo w1.heap.size (.slice (some ⟨g,0,none⟩) n cap) (vs.set i u') (gs.set i ⟨zs,lo',hi'⟩):=by
 have hil:i<gs.length:=(List.getElem?_eq_some_iff.1 hx).1;have hsz:=hc.size;have hgl:g<hi:=h.bl g rfl
 have keep:∀ (j:Nat) v l,j≠i->vs[j]? =some v->o32 w lo v l->o32 w1 lo v l:=by
  intro j v l hji hv hol
  refine zB hol (fun q hq=>hc.block q (hol.lt q hq).2 (fun s=>?_))
  rcases s with s | s
  ·exact ze hol h.row (by decide) hq (by simp [Value.ownBlock,s])
  exact h.nest.ne i j u v q (fun e=>hji e.symm) hu hv s hq
 refine⟨?_,fun q hq=>?_,⟨?_,?_,?_,?_⟩⟩
 ·have hr:=h.row
  rw [hn]at hr
  rcases hr.2 with ⟨e,_⟩ | ⟨g',cap',cur',e,h1,h2,h3,h4,h5,h6⟩
  ·cases e
  simp only [Value.slice.injEq,Option.some.injEq,Addr.mk.injEq,and_true,true_and]at e;obtain⟨rfl,rfl⟩:=e;rw [hcur]at h2;simp only [Option.some.injEq,Obj.cells.injEq,and_true]at h2;subst h2;rw [List.length_set,hn]
  refine⟨by rw [yJ (by simp [h.len]),List.length_set,hn],.inr ⟨g,cap,_,rfl,h1,hb,h3,h4,by rw [z8];exact h5,?_⟩⟩
  rw [zAg,h6,zAf u' ⟨zs,lo',hi'⟩ h.len hil]
 ·simp only [Value.ownBlock,Option.some.injEq]at hq
  omega
 ·rw [List.length_set,List.length_map,List.length_set];exact h.len
 ·intro j v l hv hl
  rw [List.map_set]at hl
  rcases jE hv with ⟨rfl,rfl⟩ | ⟨e,hv'⟩
  ·rcases jE hl with ⟨_,rfl⟩ | ⟨e,_⟩
   ·exact ho
   exact absurd rfl e
  rcases jE hl with ⟨e',_⟩ | ⟨_,hl'⟩
  ·exact absurd e' e
  exact keep j v l e hv' (h.nest.own j v l hv' hl')
 ·intro v hv
  obtain⟨j,hj⟩:=List.getElem?_of_mem hv
  rcases jE hj with ⟨_,rfl⟩ | ⟨_,hj'⟩
  ·exact hbl
  exact yF (h.nest.bl v (List.mem_of_getElem? hj')) (by omega)
 intro a b y v q hab hy hv hq hq'
 rcases jE hy with ⟨rfl,rfl⟩ | ⟨ea,hy'⟩
 ·rcases jE hv with ⟨rfl,_⟩ | ⟨eb,hv'⟩
  ·exact absurd rfl hab
  have h1:=h.nest.bl v (List.mem_of_getElem? hv') q hq'
  have h2:=hne q hq (by omega)
  exact h.nest.ne a b u v q hab hu hv' h2 hq'
 rcases jE hv with ⟨rfl,rfl⟩ | ⟨eb,hv'⟩
 ·have h1:=h.nest.bl y (List.mem_of_getElem? hy') q hq
  have h2:=hne q hq' (by omega)
  exact h.nest.ne a b y u q hab hy' hu hq h2
 exact h.nest.ne a b y v q hab hy' hv' hq hq'
theorem OwG.gb {w:World} {lo hi g cap n i:Nat} {vs:List Value} {gs:List Gr} {x:Gr} {u:Value} (h:OwG 104 w lo hi (.slice (some ⟨g,0,none⟩) n cap) vs gs) (hn:gs.length=n) (hx:gs[i]? =some x) (hu:vs[i]? =some u):
  ∃cur,w.heap[g]? =some (.cells cur 104 (0,0))∧GB w g (i*3) cur 104 u x.lo x.hi:=by
 have hil:i<gs.length:=(List.getElem?_eq_some_iff.1 hx).1;have hr:=h.row;rw [hn]at hr
 rcases hr.2 with ⟨e,_⟩ | ⟨g',cap',cur,e,h1,h2,h3,h4,h5,h6⟩
 ·cases e
 simp only [Value.slice.injEq,Option.some.injEq,Addr.mk.injEq,and_true,true_and]at e;obtain⟨rfl,rfl⟩:=e
 have get:∀k,k<3->cur[i*3+k]? = [u,.int .i64 x.lo,.int .i64 x.hi][k]?:=by
  intro k hk;have h7:=yV hu hx hk
  rw [<- h6,List.getElem?_take,if_pos (by omega)]at h7
  rw [<- h7];simp
 exact⟨cur,h2,h2,by omega,get 0 (by omega),get 1 (by omega),get 2 (by omega)⟩
theorem Z6 {x:Gr} (h:gkP x.cells x.lo x.hi):GV x.cells x.lo.toNat x.hi.toNat∧x.lo=(x.lo.toNat:Int)∧x.hi=(x.hi.toNat:Int):=by
 obtain⟨⟨h1,⟨h2,h3⟩,⟨h4,h5⟩,h6⟩,h7⟩:=h
 refine⟨⟨by omega,by omega,fun i a b=>h7 i (by omega) (by omega),by omega,by omega⟩,by omega,by omega⟩
theorem GV_gkP {x:Gr} {lo hi:Nat} (h:GV x.cells lo hi) (h1:x.lo=lo) (h2:x.hi=hi):gkP x.cells x.lo x.hi:=by
 have a:=h.a;have b:=h.b;have c:=h.c;have t:=h.t;rw [h1,h2]
 refine⟨⟨by omega,⟨by omega,by omega⟩,⟨by omega,by omega⟩,by omega⟩,fun i i1 i2=>h.z i (by omega) (by omega)⟩
theorem Xd {x:Gr} {a b:Nat} (hk:gkP x.cells x.lo x.hi) (hab:a<=b) (hb:b<=(grT x).length):gkP (delG x a b).cells (delG x a b).lo (delG x a b).hi∧grT (delG x a b)=(grT x).take a++(grT x).drop b:=by
 obtain⟨hv,el,eh⟩:=Z6 hk;have hgt:(grT x).length=x.cells.length - (x.hi.toNat - x.lo.toNat):=zN hv.a hv.b;have h1:=hv.a;have h2:=hv.b;have h3:=hv.c;have h4:=hv.t
 have hL:((grT x).take a++(grT x).drop b).length=(grT x).length - (b - a):=by simp only [List.length_append,List.length_take,List.length_drop];omega
 have e:b+(x.hi.toNat - x.lo.toNat)=a+(x.cells.length - ((grT x).take a++(grT x).drop b).length):=by omega
 have gv:GV (delG x a b).cells a (b+(x.hi.toNat - x.lo.toNat)):=by
  show GV (glay ((grT x).take a++(grT x).drop b) a x.cells.length) a (b+(x.hi.toNat - x.lo.toNat))
  rw [e];exact yt (by omega) (by omega) h3 (by omega)
 refine⟨GV_gkP gv rfl rfl,?_⟩
 show gtext (glay ((grT x).take a++(grT x).drop b) a x.cells.length) (Int.toNat (a:Int)) (Int.toNat ((b+(x.hi.toNat - x.lo.toNat):Nat):Int))=_
 rw [Int.toNat_natCast,Int.toNat_natCast,e]
 exact jU (by omega) (by omega)
theorem Xe {x:Gr} {p:Nat} {ts:List Int} (hk:gkP x.cells x.lo x.hi) (hp:p<=(grT x).length) (hr:(grT x).length+ts.length<=8192):gkP (insG x p ts).cells (insG x p ts).lo (insG x p ts).hi∧grT (insG x p ts)=(grT x).take p++(ts++(grT x).drop p):=by
 obtain⟨hv,el,eh⟩:=Z6 hk;have bd:=Y2 hv (n:=ts.length) hr;have hg:(gtext x.cells x.lo.toNat x.hi.toNat).length=(grT x).length:=rfl;rw [hg]at bd
 have hL:((grT x).take p++(ts++(grT x).drop p)).length=(grT x).length+ts.length:=by simp only [List.length_append,List.length_take,List.length_drop];omega
 have e:p+(zb x.cells x.lo.toNat x.hi.toNat ts.length - (grT x).length)=(p+ts.length)+(zb x.cells x.lo.toNat x.hi.toNat ts.length - ((grT x).take p++(ts++(grT x).drop p)).length):=by omega
 have gv:GV (insG x p ts).cells (p+ts.length) (p+(zb x.cells x.lo.toNat x.hi.toNat ts.length - (grT x).length)):=by
  show GV (glay ((grT x).take p++(ts++(grT x).drop p)) (p+ts.length) (zb x.cells x.lo.toNat x.hi.toNat ts.length)) _ _
  rw [e];exact yt (by omega) (by omega) (by omega) (by omega)
 refine⟨GV_gkP gv rfl rfl,?_⟩
 show gtext (glay ((grT x).take p++(ts++(grT x).drop p)) (p+ts.length) (zb x.cells x.lo.toNat x.hi.toNat ts.length)) (Int.toNat ((p+ts.length:Nat):Int)) (Int.toNat ((p+(zb x.cells x.lo.toNat x.hi.toNat ts.length - (grT x).length):Nat):Int))=_
 rw [Int.toNat_natCast,Int.toNat_natCast,e]
 exact jU (by omega) (by omega)
end Go.Proofs.YtibbhecojkehfaaGreatDoor

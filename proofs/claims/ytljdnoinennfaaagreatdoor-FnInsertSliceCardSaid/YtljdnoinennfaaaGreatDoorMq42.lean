import Derived.Test.YtljdnoinennfaaaGreatDoorMq35
set_option linter.all false
set_option maxRecDepth 100000
set_option maxHeartbeats 8000000
namespace Go.Proofs.YtljdnoinennfaaaGreatDoor
open Go Go.RowKit Go.Proofs.Tryz
abbrev z3:T3v:=(.slice none 0 0,qJ 0,qJ 0)
theorem RC.block {w w':World} {B o:Nat} {v:Value} {lo hi:Int} (b:RC w B o v lo hi) (c:w'.heap[B]? =w.heap[B]?):RC w' B o v lo hi:=
 ⟨(qV (w:=w) (a:=⟨B,o,none⟩) c).trans b.c0,(qV (w:=w) (a:=⟨B,o+1,none⟩) c).trans b.c1,(qV (w:=w) (a:=⟨B,o+2,none⟩) c).trans b.c2⟩
theorem zp:(prog.info? 129).map (·.size)=some 3:=by kernel_rfl
theorem Xy (w:World):(zeroValue 129).run prog w= .ok (.agg #[.slice none 0 0,qJ 0,qJ 0]) w:=by kernel_rfl
theorem cells3 {w:World} {g:Nat} {zs:List T3v} {sp:List Value} {t:TypeId} (d:w.heap[g]? =some (.cells (fl3 zs++sp).toArray t (0,0))) (p l:Nat) (f:p+l<=zs.length):∀j u,(fl3 ((zs.drop p).take l))[j]? =some u->w.cell? ((⟨g,p*3,none⟩:Addr).add j)=some u:=by
 intro j u a
 have b:j<l*3:=by
  have c:=(xK.1 a).1;rw [zI,qN]at c;omega
 rw [show(⟨g,p*3,none⟩:Addr).add j=⟨g,p*3+j,none⟩from zK _ _ _,qQ w g _ _ _ _ d]
 have e:=zI zs;rw [<- Xh,<- Xi]at a;rw [xO,xj b,vn]at a;simp only [List.getElem?_toArray]
 rw [xA (by omega)]
 exact a
theorem zEa (B o g cap n:Nat) (zs:List T3v) (sp:List Value) (lo hi p e m:Nat) (w:World) (r:RC w B o (.slice (some ⟨g,0,none⟩) n cap) lo hi) (D:GF w B o) (E:w.heap[g]? =some (.cells (fl3 zs++sp).toArray 129 (0,0))) (F:zs.length=n) (N:One3 zs) (h:B≠g)
  (V:n<=cap) (W:lo<=hi) (X:hi<=n) (Y:n<=1048576) (Z:p+(hi - lo)<=n) (aa:(p:Int)+((hi:Int) - (lo:Int))=e) (ab:p<lo) (ac:min (lo:Int) (e:Int)=m):
  Calls prog 187 #[.pointer (some ⟨B,o,none⟩),.int .i64 p] w fun x w'=>x= .returned (.tuple #[])∧∃w1,Row1 w w1 g (fl3 (splice (splice zs e ((zs.drop p).take (lo - p))) p (List.replicate (m - p) z3))++sp) 129∧w'=(w1.setCell ⟨B,o+1,none⟩ (.int .i64 p)).setCell ⟨B,o+2,none⟩ (.int .i64 e):=by
 have s:=qG (gapRN B o (.slice (some ⟨g,0,none⟩) n cap) lo hi w r (by omega) (by omega) (by omega))
 have t:=qG r;have u:=qG D;have v:=qG E;have a:=qG F
 have y:e=p+(hi - lo):=by omega
 have R:=qG y;obtain⟨O,P,Q⟩:=r;clear E F D y
 have b:=qG (show((zs.drop p).take (lo - p)).length=lo - p by simp only [qN,qS,a.out];omega)
 have i1:e<=hi:=by omega
 have i2:hi<=cap:=by omega
 have i3:¬cap=e:=by omega
 have i4:p<=lo:=by omega
 have i5:lo<=cap:=by omega
 have S:¬cap=p:=by omega
 have T:p<=m:=by omega
 have U:m<=cap:=by omega
 go_enter func187,ntmps187;go_wp2_with fail;refine s.out.mono ?_;rintro x M ⟨rfl,i,rfl⟩
 have c:=qG (show Row1 w (w.drewN i) g (fl3 zs++sp) 129 from⟨v.out,rfl,rfl,rfl,rfl,fun _ _=>rfl⟩)
 have j:=qG (t.out.same (w':=w.drewN i) rfl);have z:=qG (u.out.same (w':=w.drewN i) rfl);obtain⟨G,H,I⟩:=j.out;clear O P Q t u v s;generalize w.drewN i=M at *;go_wp2_with fail;go_still_tail 20,mixed
 refine zV rfl (.tmp 24) (.tmp 34) 124 124 rfl 129 underlying124 zp (some ⟨g,e*3,none⟩) (some ⟨g,p*3,none⟩) (hi - e) (cap - e) (lo - p) (cap - p) rfl rfl g (e*3) (fl3 zs++sp) 129 (by exact c.out.row) (lo - p) (by show lo - p=min _ _;omega) (fl3 ((zs.drop p).take (lo - p))) (by rw [zI,b.out]) (fun _=>⟨rfl,_,rfl,cells3 c.out.row p (lo - p) (by rw [a.out];omega)⟩) (by rw [zI,b.out,qM,zI,a.out];omega) (One3.fl (One3.take (One3.drop N _) _)) ?_
 intro C d
 have k:=qG (Row1.to (c.out.trans (Row1.qh d.out)) (ze (by rw [b.out,a.out];omega)))
 have l:=qG (j.out.block (w':=C) (d.out.block B h));have A:=qG (z.out.same (w':=C) (d.out.block B h));obtain⟨G,H,I⟩:=l.out;clear d c j z;go_wp2_with fail;go_still_tail 12,mixed
 refine yE rfl (.tmp 47) 124 rfl 129 underlying124 (.agg #[.slice none 0 0,.int .i64 0,.int .i64 0]) (.slice none 0 0) (.int .i64 0) (.int .i64 0) Xy rfl ⟨rfl,rfl,rfl⟩ (some ⟨g,p*3,none⟩) (m - p) (cap - p) rfl g (p*3) _ 129 (by exact k.out.row) (fun _=>rfl) (by rw [qM,zI,length_splice _ _ _ (by rw [b.out,a.out];omega),a.out];omega) ?_
 intro q f
 have J:=qG (Row1.to (k.out.trans (Row1.qh f.out)) (ze (by rw [qP,length_splice _ _ _ (by rw [b.out,a.out];omega),a.out];omega)))
 have K:=qG (l.out.block (w':=q) (f.out.block B h));have L:=qG (A.out.same (w':=q) (f.out.block B h));obtain⟨G,H,I⟩:=K.out;obtain⟨ad,ae,af⟩:=L.out;clear f k l A;go_wp2;go_end0;exact⟨rfl,q,J.out,rfl⟩
theorem zH3 (B o g cap n:Nat) (zs:List T3v) (sp:List Value) (lo hi p e m:Nat) (w:World) (r:RC w B o (.slice (some ⟨g,0,none⟩) n cap) lo hi) (D:GF w B o) (E:w.heap[g]? =some (.cells (fl3 zs++sp).toArray 129 (0,0))) (F:zs.length=n) (N:One3 zs) (h:B≠g)
  (U:n<=cap) (V:lo<=hi) (W:hi<=n) (X:n<=1048576) (Y:p+(hi - lo)<=n) (Z:(p:Int)+((hi:Int) - (lo:Int))=e) (aa:lo<=p) (ab:max (hi:Int) (p:Int)=m) (ac:¬cap=lo) (ad:¬cap=hi) (ae:¬cap=m):
  Calls prog 187 #[.pointer (some ⟨B,o,none⟩),.int .i64 p] w fun x w'=>x= .returned (.tuple #[])∧∃w1,Row1 w w1 g (fl3 (splice (splice zs lo ((zs.drop hi).take (e - hi))) m (List.replicate (e - m) z3))++sp) 129∧w'=(w1.setCell ⟨B,o+1,none⟩ (.int .i64 p)).setCell ⟨B,o+2,none⟩ (.int .i64 e):=by
 have s:=qG (gapRN B o (.slice (some ⟨g,0,none⟩) n cap) lo hi w r (by omega) (by omega) (by omega))
 have t:=qG r;have u:=qG D;have v:=qG E;have a:=qG F
 have y:e=p+(hi - lo):=by omega
 have R:=qG y;obtain⟨O,P,Q⟩:=r;clear E F D y
 have b:=qG (show((zs.drop hi).take (e - hi)).length=p - lo by simp only [qN,qS,a.out];omega)
 have S:¬ (p:Int)<(lo:Int):=by omega
 have i1:lo<=p:=by omega
 have i2:p<=cap:=by omega
 have i3:hi<=e:=by omega
 have i4:e<=cap:=by omega
 have i5:m<=e:=by omega
 go_enter func187,ntmps187;go_wp2_with fail;refine s.out.mono ?_;rintro x M ⟨rfl,i,rfl⟩
 have c:=qG (show Row1 w (w.drewN i) g (fl3 zs++sp) 129 from⟨v.out,rfl,rfl,rfl,rfl,fun _ _=>rfl⟩)
 have j:=qG (t.out.same (w':=w.drewN i) rfl);have z:=qG (u.out.same (w':=w.drewN i) rfl);obtain⟨G,H,I⟩:=j.out;clear O P Q t u v s;generalize w.drewN i=M at *;go_wp2_with fail;go_still_tail 20,mixed
 refine zV rfl (.tmp 57) (.tmp 67) 124 124 rfl 129 underlying124 zp (some ⟨g,lo*3,none⟩) (some ⟨g,hi*3,none⟩) (p - lo) (cap - lo) (e - hi) (cap - hi) rfl rfl g (lo*3) (fl3 zs++sp) 129 (by exact c.out.row) (p - lo) (by show p - lo=min _ _;omega) (fl3 ((zs.drop hi).take (e - hi))) (by rw [zI,b.out]) (fun _=>⟨rfl,_,rfl,cells3 c.out.row hi (e - hi) (by rw [a.out];omega)⟩) (by rw [zI,b.out,qM,zI,a.out];omega) (One3.fl (One3.take (One3.drop N _) _)) ?_
 intro C d
 have k:=qG (Row1.to (c.out.trans (Row1.qh d.out)) (ze (by rw [b.out,a.out];omega)))
 have l:=qG (j.out.block (w':=C) (d.out.block B h));have A:=qG (z.out.same (w':=C) (d.out.block B h));obtain⟨G,H,I⟩:=l.out;clear d c j z;go_wp2_with fail;go_still_tail 12,mixed
 refine yE rfl (.tmp 80) 124 rfl 129 underlying124 (.agg #[.slice none 0 0,.int .i64 0,.int .i64 0]) (.slice none 0 0) (.int .i64 0) (.int .i64 0) Xy rfl ⟨rfl,rfl,rfl⟩ (some ⟨g,m*3,none⟩) (e - m) (cap - m) rfl g (m*3) _ 129 (by exact k.out.row) (fun T=>rfl) (by rw [qM,zI,length_splice _ _ _ (by rw [b.out,a.out];omega),a.out];omega) ?_
 intro q f
 have J:=qG (Row1.to (k.out.trans (Row1.qh f.out)) (ze (by rw [qP,length_splice _ _ _ (by rw [b.out,a.out];omega),a.out];omega)))
 have K:=qG (l.out.block (w':=q) (f.out.block B h));have L:=qG (A.out.same (w':=q) (f.out.block B h));obtain⟨G,H,I⟩:=K.out;obtain⟨af,ag,ah⟩:=L.out;clear f k l A;go_wp2;go_end0;exact⟨rfl,q,J.out,rfl⟩
theorem zH4 (B o g cap n:Nat) (zs:List T3v) (sp:List Value) (lo hi p e m:Nat) (w:World) (s:RC w B o (.slice (some ⟨g,0,none⟩) n cap) lo hi) (E:GF w B o) (F:w.heap[g]? =some (.cells (fl3 zs++sp).toArray 129 (0,0))) (G:zs.length=n) (O:One3 zs) (f:B≠g)
  (U:n<=cap) (V:lo<=hi) (W:hi<=n) (X:n<=1048576) (Y:p+(hi - lo)<=n) (Z:(p:Int)+((hi:Int) - (lo:Int))=e) (aa:lo<=p) (ab:max (hi:Int) (p:Int)=m) (ac:cap=lo):
  Calls prog 187 #[.pointer (some ⟨B,o,none⟩),.int .i64 p] w fun x w'=>x= .returned (.tuple #[])∧∃w1,Row1 w w1 g (fl3 (splice (splice zs lo ((zs.drop hi).take (e - hi))) m (List.replicate (e - m) z3))++sp) 129∧w'=(w1.setCell ⟨B,o+1,none⟩ (.int .i64 p)).setCell ⟨B,o+2,none⟩ (.int .i64 e):=by
 obtain rfl:n=cap:=by omega
 obtain rfl:n=lo:=by omega
 obtain rfl:n=hi:=by omega
 obtain rfl:n=p:=by omega
 obtain rfl:n=e:=by omega
 obtain rfl:n=m:=by omega
 have t:=qG (gapRN B o (.slice (some ⟨g,0,none⟩) n n) n n w s (by omega) (by omega) (by omega))
 have u:=qG s;have v:=qG E;have y:=qG F;have a:=qG G
 have z:n=n+(n - n):=by omega
 have S:=qG z;obtain⟨P,Q,R⟩:=s;clear F G E z
 have b:=qG (show((zs.drop n).take (n - n)).length=n - n by simp only [qN,qS,a.out];omega)
 have T:¬ (n:Int)<(n:Int):=by omega
 go_enter func187,ntmps187;go_wp2_with fail;refine t.out.mono ?_;rintro x N ⟨rfl,h,rfl⟩
 have i:=qG (show Row1 w (w.drewN h) g (fl3 zs++sp) 129 from⟨y.out,rfl,rfl,rfl,rfl,fun _ _=>rfl⟩)
 have j:=qG (u.out.same (w':=w.drewN h) rfl);have A:=qG (v.out.same (w':=w.drewN h) rfl);obtain⟨H,I,J⟩:=j.out;clear P Q R u v y t;generalize w.drewN h=N at *;go_wp2_with fail;go_still_tail 20,mixed
 refine zV rfl (.tmp 57) (.tmp 67) 124 124 rfl 129 underlying124 zp (some ⟨g,0,none⟩) (some ⟨g,0,none⟩) 0 0 0 0 rfl rfl g (n*3) (fl3 zs++sp) 129 (by exact i.out.row) (n - n) (by show n - n=min _ _;omega) (fl3 ((zs.drop n).take (n - n))) (by rw [zI,b.out]) (fun r=>absurd r (by omega)) (by rw [zI,b.out,qM,zI,a.out];omega) (One3.fl (One3.take (One3.drop O _) _)) ?_
 intro D c
 have k:=qG (Row1.to (i.out.trans (Row1.qh c.out)) (ze (by rw [b.out,a.out];omega)))
 have l:=qG (j.out.block (w':=D) (c.out.block B f));have C:=qG (A.out.same (w':=D) (c.out.block B f));obtain⟨H,I,J⟩:=l.out;clear c i j A;go_wp2_with fail;go_still_tail 12,mixed
 refine yE rfl (.tmp 80) 124 rfl 129 underlying124 (.agg #[.slice none 0 0,.int .i64 0,.int .i64 0]) (.slice none 0 0) (.int .i64 0) (.int .i64 0) Xy rfl ⟨rfl,rfl,rfl⟩ (some ⟨g,0,none⟩) 0 0 rfl g (n*3) _ 129 (by exact k.out.row) (fun r=>absurd r (by omega)) (by rw [qM,zI,length_splice _ _ _ (by rw [b.out,a.out];omega),a.out];omega) ?_
 intro q d
 have K:=qG (Row1.to (k.out.trans (Row1.qh d.out)) (ze (by rw [qP,length_splice _ _ _ (by rw [b.out,a.out];omega),a.out];omega)))
 have L:=qG (l.out.block (w':=q) (d.out.block B f));have M:=qG (C.out.same (w':=q) (d.out.block B f));obtain⟨H,I,J⟩:=L.out;obtain⟨ad,ae,af⟩:=M.out;clear d k l C;go_wp2;go_end0
 exact⟨rfl,q,by rw [show List.replicate (n - n) z3=List.replicate 0 z3 by rw [vO]];exact K.out,rfl⟩
theorem zH5 (B o g cap n:Nat) (zs:List T3v) (sp:List Value) (lo hi p e m:Nat) (w:World) (s:RC w B o (.slice (some ⟨g,0,none⟩) n cap) lo hi) (E:GF w B o) (F:w.heap[g]? =some (.cells (fl3 zs++sp).toArray 129 (0,0))) (G:zs.length=n) (O:One3 zs) (f:B≠g)
  (V:n<=cap) (W:lo<=hi) (X:hi<=n) (Y:n<=1048576) (Z:p+(hi - lo)<=n) (aa:(p:Int)+((hi:Int) - (lo:Int))=e) (ab:lo<=p) (ac:max (hi:Int) (p:Int)=m) (ad:¬cap=lo) (ae:cap=hi):
  Calls prog 187 #[.pointer (some ⟨B,o,none⟩),.int .i64 p] w fun x w'=>x= .returned (.tuple #[])∧∃w1,Row1 w w1 g (fl3 (splice (splice zs lo ((zs.drop hi).take (e - hi))) m (List.replicate (e - m) z3))++sp) 129∧w'=(w1.setCell ⟨B,o+1,none⟩ (.int .i64 p)).setCell ⟨B,o+2,none⟩ (.int .i64 e):=by
 obtain rfl:n=cap:=by omega
 obtain rfl:n=hi:=by omega
 obtain rfl:lo=p:=by omega
 obtain rfl:n=e:=by omega
 obtain rfl:n=m:=by omega
 have t:=qG (gapRN B o (.slice (some ⟨g,0,none⟩) n n) lo n w s (by omega) (by omega) (by omega))
 have u:=qG s;have v:=qG E;have y:=qG F;have a:=qG G
 have z:n=lo+(n - lo):=by omega
 have S:=qG z;obtain⟨P,Q,R⟩:=s;clear F G E z
 have b:=qG (show((zs.drop n).take (n - n)).length=lo - lo by simp only [qN,qS,a.out];omega)
 have T:¬ (lo:Int)<(lo:Int):=by omega
 have U:lo<=n:=by omega
 go_enter func187,ntmps187;go_wp2_with fail;refine t.out.mono ?_;rintro x N ⟨rfl,h,rfl⟩
 have i:=qG (show Row1 w (w.drewN h) g (fl3 zs++sp) 129 from⟨y.out,rfl,rfl,rfl,rfl,fun _ _=>rfl⟩)
 have j:=qG (u.out.same (w':=w.drewN h) rfl);have A:=qG (v.out.same (w':=w.drewN h) rfl);obtain⟨H,I,J⟩:=j.out;clear P Q R u v y t;generalize w.drewN h=N at *;go_wp2_with fail;go_still_tail 20,mixed
 refine zV rfl (.tmp 57) (.tmp 67) 124 124 rfl 129 underlying124 zp (some ⟨g,lo*3,none⟩) (some ⟨g,0,none⟩) 0 (n - lo) 0 0 rfl rfl g (lo*3) (fl3 zs++sp) 129 (by exact i.out.row) (lo - lo) (by show lo - lo=min _ _;omega) (fl3 ((zs.drop n).take (n - n))) (by rw [zI,b.out]) (fun r=>absurd r (by omega)) (by rw [zI,b.out,qM,zI,a.out];omega) (One3.fl (One3.take (One3.drop O _) _)) ?_
 intro D c
 have k:=qG (Row1.to (i.out.trans (Row1.qh c.out)) (ze (by rw [b.out,a.out];omega)))
 have l:=qG (j.out.block (w':=D) (c.out.block B f));have C:=qG (A.out.same (w':=D) (c.out.block B f));obtain⟨H,I,J⟩:=l.out;clear c i j A;go_wp2_with fail;go_still_tail 12,mixed
 refine yE rfl (.tmp 80) 124 rfl 129 underlying124 (.agg #[.slice none 0 0,.int .i64 0,.int .i64 0]) (.slice none 0 0) (.int .i64 0) (.int .i64 0) Xy rfl ⟨rfl,rfl,rfl⟩ (some ⟨g,0,none⟩) 0 0 rfl g (n*3) _ 129 (by exact k.out.row) (fun r=>absurd r (by omega)) (by rw [qM,zI,length_splice _ _ _ (by rw [b.out,a.out];omega),a.out];omega) ?_
 intro q d
 have K:=qG (Row1.to (k.out.trans (Row1.qh d.out)) (ze (by rw [qP,length_splice _ _ _ (by rw [b.out,a.out];omega),a.out];omega)))
 have L:=qG (l.out.block (w':=q) (d.out.block B f));have M:=qG (C.out.same (w':=q) (d.out.block B f));obtain⟨H,I,J⟩:=L.out;obtain⟨af,ag,ah⟩:=M.out;clear d k l C;go_wp2;go_end0
 exact⟨rfl,q,by rw [show List.replicate (n - n) z3=List.replicate 0 z3 by rw [vO]];exact K.out,rfl⟩
theorem zH6 (B o g cap n:Nat) (zs:List T3v) (sp:List Value) (lo hi p e m:Nat) (w:World) (r:RC w B o (.slice (some ⟨g,0,none⟩) n cap) lo hi) (D:GF w B o) (E:w.heap[g]? =some (.cells (fl3 zs++sp).toArray 129 (0,0))) (F:zs.length=n) (O:One3 zs) (h:B≠g)
  (V:n<=cap) (W:lo<=hi) (X:hi<=n) (Y:n<=1048576) (Z:p+(hi - lo)<=n) (aa:(p:Int)+((hi:Int) - (lo:Int))=e) (ab:lo<=p) (ac:max (hi:Int) (p:Int)=m) (ad:¬cap=lo) (ae:¬cap=hi) (af:cap=m):
  Calls prog 187 #[.pointer (some ⟨B,o,none⟩),.int .i64 p] w fun x w'=>x= .returned (.tuple #[])∧∃w1,Row1 w w1 g (fl3 (splice (splice zs lo ((zs.drop hi).take (e - hi))) m (List.replicate (e - m) z3))++sp) 129∧w'=(w1.setCell ⟨B,o+1,none⟩ (.int .i64 p)).setCell ⟨B,o+2,none⟩ (.int .i64 e):=by
 obtain rfl:n=cap:=by omega
 obtain rfl:n=m:=by omega
 obtain rfl:n=p:=by omega
 obtain rfl:n=e:=by omega
 obtain rfl:lo=hi:=by omega
 have s:=qG (gapRN B o (.slice (some ⟨g,0,none⟩) n n) lo lo w r (by omega) (by omega) (by omega))
 have t:=qG r;have u:=qG D;have v:=qG E;have a:=qG F
 have y:n=n+(lo - lo):=by omega
 have S:=qG y;obtain⟨P,Q,R⟩:=r;clear E F D y
 have b:=qG (show((zs.drop lo).take (n - lo)).length=n - lo by simp only [qN,qS,a.out];omega)
 have T:¬ (n:Int)<(lo:Int):=by omega
 have U:lo<=n:=by omega
 go_enter func187,ntmps187;go_wp2_with fail;refine s.out.mono ?_;rintro x M ⟨rfl,i,rfl⟩
 have c:=qG (show Row1 w (w.drewN i) g (fl3 zs++sp) 129 from⟨v.out,rfl,rfl,rfl,rfl,fun _ _=>rfl⟩)
 have j:=qG (t.out.same (w':=w.drewN i) rfl);have z:=qG (u.out.same (w':=w.drewN i) rfl);obtain⟨G,H,I⟩:=j.out;clear P Q R t u v s;generalize w.drewN i=M at *;go_wp2_with fail;go_still_tail 20,mixed
 refine zV rfl (.tmp 57) (.tmp 67) 124 124 rfl 129 underlying124 zp (some ⟨g,lo*3,none⟩) (some ⟨g,lo*3,none⟩) (n - lo) (n - lo) (n - lo) (n - lo) rfl rfl g (lo*3) (fl3 zs++sp) 129 (by exact c.out.row) (n - lo) (by show n - lo=min _ _;omega) (fl3 ((zs.drop lo).take (n - lo))) (by rw [zI,b.out]) (fun _=>⟨rfl,_,rfl,cells3 c.out.row lo (n - lo) (by rw [a.out];omega)⟩) (by rw [zI,b.out,qM,zI,a.out];omega) (One3.fl (One3.take (One3.drop O _) _)) ?_
 intro C d
 have k:=qG (Row1.to (c.out.trans (Row1.qh d.out)) (ze (by rw [b.out,a.out];omega)))
 have l:=qG (j.out.block (w':=C) (d.out.block B h));have A:=qG (z.out.same (w':=C) (d.out.block B h));obtain⟨G,H,I⟩:=l.out;clear d c j z;go_wp2_with fail;go_still_tail 12,mixed
 refine yE rfl (.tmp 80) 124 rfl 129 underlying124 (.agg #[.slice none 0 0,.int .i64 0,.int .i64 0]) (.slice none 0 0) (.int .i64 0) (.int .i64 0) Xy rfl ⟨rfl,rfl,rfl⟩ (some ⟨g,0,none⟩) 0 0 rfl g (n*3) _ 129 (by exact k.out.row) (fun N=>absurd N (by omega)) (by rw [qM,zI,length_splice _ _ _ (by rw [b.out,a.out];omega),a.out];omega) ?_
 intro q f
 have J:=qG (Row1.to (k.out.trans (Row1.qh f.out)) (ze (by rw [qP,length_splice _ _ _ (by rw [b.out,a.out];omega),a.out];omega)))
 have K:=qG (l.out.block (w':=q) (f.out.block B h));have L:=qG (A.out.same (w':=q) (f.out.block B h));obtain⟨G,H,I⟩:=K.out;obtain⟨ag,ah,ai⟩:=L.out;clear f k l A;go_wp2;go_end0
 exact⟨rfl,q,by rw [show List.replicate (n - n) z3=List.replicate 0 z3 by rw [vO]];exact J.out,rfl⟩
theorem moveRN (B o g cap:Nat) (zs:List T3v) (sp:List Value) (lo hi p:Nat) (w:World) (e:RC w B o (.slice (qK g 0) zs.length cap) lo hi) (f:GF w B o) (h:w.heap[g]? =some (.cells (fl3 zs++sp).toArray 129 (0,0))) (i:One3 zs) (j:B≠g)
  (k:zs.length<=cap) (l:GVA z3 zs lo hi) (a:p+(hi - lo)<=zs.length):
  Calls prog 187 #[.pointer (qK B o),qJ p] w fun x w'=>x= .returned (.tuple #[])∧∃w1,Row1 w w1 g (fl3 (glayA z3 (zh zs lo hi) p zs.length)++sp) 129∧w'=(w1.setCell ⟨B,o+1,none⟩ (qJ p)).setCell ⟨B,o+2,none⟩ (qJ ((p+(hi - lo):Nat):Int)):=by
 have b:=l.a;have c:=l.b;have t:=l.c
 by_cases q:p<lo
 ·rw [<- zBu l q]
  exact zEa B o g cap zs.length zs sp lo hi p (p+(hi - lo)) (min lo (p+(hi - lo))) w e f h rfl i j k b c (by omega) a (by omega) q (by omega)
 ·have d:lo<=p:=by omega
  have s:=zGd l d a;rw [<- s]
  by_cases m:cap=lo
  ·exact zH4 B o g cap zs.length zs sp lo hi p (p+(hi - lo)) (max hi p) w e f h rfl i j k b c (by omega) a (by omega) d (by omega) m
  ·by_cases n:cap=hi
   ·exact zH5 B o g cap zs.length zs sp lo hi p (p+(hi - lo)) (max hi p) w e f h rfl i j k b c (by omega) a (by omega) d (by omega) m n
   ·by_cases r:cap=max hi p
    ·exact zH6 B o g cap zs.length zs sp lo hi p (p+(hi - lo)) (max hi p) w e f h rfl i j k b c (by omega) a (by omega) d (by omega) m n r
    ·exact zH3 B o g cap zs.length zs sp lo hi p (p+(hi - lo)) (max hi p) w e f h rfl i j k b c (by omega) a (by omega) d (by omega) m n r
end Go.Proofs.YtljdnoinennfaaaGreatDoor
namespace Go.Proofs.YtljdnoinennfaaaGreatDoor
open Go Go.RowKit
def Cl3 (w:World) (g:Nat) (zs:List T3v):Prop:=∀j u,(fl3 zs)[j]? =some u->w.cell? ⟨g,j,none⟩=some u
theorem zEb {w:World} {g:Nat} {zs:List T3v} {sp:List Value} {t:TypeId} (c:w.heap[g]? =some (.cells (fl3 zs++sp).toArray t (0,0))):Cl3 w g zs:=by
 intro j u a;rw [qQ w g j _ _ _ c];have b:=(xK.1 a).1;simp only [List.getElem?_toArray];rw [xA b];exact a
theorem Cl3.app' {w:World} {g:Nat} {zs:List T3v} (d:Cl3 w g zs) (p l:Nat) (e:p+l<=zs.length):∀j u,(fl3 ((zs.drop p).take l))[j]? =some u->w.cell? ((⟨g,p*3,none⟩:Addr).add j)=some u:=by
 intro j u a
 have b:j<l*3:=by
  have c:=(xK.1 a).1;rw [zI,qN]at c;omega
 rw [show(⟨g,p*3,none⟩:Addr).add j=⟨g,p*3+j,none⟩from zK _ _ _]
 rw [<- Xh,<- Xi]at a;rw [xO,xj b,vn]at a;exact d _ _ a
theorem GB.rc {w:World} {B o:Nat} {cs:Array Value} {t:TypeId} {v:Value} {lo hi:Int} (a:GB w B o cs t v lo hi):RC w B o v lo hi:=⟨a.gc.c0,a.gc.c1,a.gc.c2⟩
def RwR (w:World) (g:Nat) (zs:List T3v) (sp:List Value):Prop:=w.heap[g]? =some (.cells (fl3 zs++sp).toArray 129 (0,0))
structure GPostR (w w':World) (B o g:Nat) (cs:Array Value) (t:TypeId) (v:Value) (lo hi:Int) (zs:List T3v) (sp:List Value):Prop where
 gb:GB w' B o (set3 cs o v (qJ lo) (qJ hi)) t v lo hi
 rw:RwR w' g zs sp
 chg:ChgP w w' (fun k=>k=B∨k=g)
theorem zCj {w w1:World} {B o g:Nat} {cs:Array Value} {t:TypeId} {v:Value} {lo hi:Int} {zs:List T3v} {sp:List Value} (h:GB w B o cs t v lo hi) (f:B≠g) (c:Row1 w w1 g (fl3 zs++sp) 129) (a b:Int):
  GPostR w ((w1.setCell ⟨B,o+1,none⟩ (qJ a)).setCell ⟨B,o+2,none⟩ (qJ b)) B o g cs t v a b zs sp:=by
 refine⟨GB.qu (zCi h f c a b) h.sz,?_,?_⟩
 ·show _=_
  rw [zE (by show g≠B;exact f.symm),zE (by show g≠B;exact f.symm)]
  exact c.row
 ·refine⟨c.os,c.tape,c.output,by simp [c.size],fun k i d=>?_⟩
  rw [zE (by show k≠B;exact fun e=>d (.inl e)),zE (by show k≠B;exact fun e=>d (.inl e))]
  exact c.block k (fun e=>d (.inr e))
theorem moveRG (B o g cap:Nat) (cs:Array Value) (t:TypeId) (zs:List T3v) (sp:List Value) (lo hi p:Nat) (w:World) (a:GB w B o cs t (.slice (qK g 0) zs.length cap) lo hi) (f:RwR w g zs sp) (h:One3 zs) (b:B≠g)
  (i:zs.length<=cap) (j:GVA z3 zs lo hi) (k:p+(hi - lo)<=zs.length):
  Calls Tryz.prog 187 #[.pointer (qK B o),qJ p] w fun x w'=>x= .returned (.tuple #[])∧GPostR w w' B o g cs t (.slice (qK g 0) zs.length cap) p ((p+(hi - lo):Nat):Int) (glayA z3 (zh zs lo hi) p zs.length) sp:=
 (moveRN B o g cap zs sp lo hi p w a.rc a.gf f h b i j k).mono fun x w' ⟨c,w1,d,e⟩=>⟨c,by rw [e];exact zCj a b d _ _⟩
theorem GPostR.trans {w w1 d:World} {B o g:Nat} {cs:Array Value} {t:TypeId} {v a:Value} {lo hi b hi':Int} {zs f:List T3v} {sp h:List Value} (i:GPostR w w1 B o g cs t v lo hi zs sp) (j:o+3<=cs.size) (k:GPostR w1 d B o g (set3 cs o v (qJ lo) (qJ hi)) t a b hi' f h):GPostR w d B o g cs t a b hi' f h:=by
 have e:=YI cs o v (qJ lo) (qJ hi) a (qJ b) (qJ hi') j;have c:=k.gb;rw [e]at c
 exact⟨c,k.rw,i.chg.trans k.chg (fun _ _ s=>s) (fun _ _ s=>s)⟩
theorem RwR.qd {w:World} {base g n cap:Nat} {zs:List T3v} (c:w.ownsRow base 129 3 (.slice (qK g 0) n cap) n (fl3 zs)):base<=g∧n<=cap∧cap<=maxLen∧∃sp,RwR w g zs sp∧sp.length=cap*3 - n*3:=by
 have k:zs.length=n:=by have:=c.1;rw [zI]at this;omega
 rcases c.2 with ⟨a,l⟩ | ⟨g',m,b,a,d,e,f,h,i,j⟩
 ·cases a
 ·simp only [xF,xw,ka,kW,kJ]at a
  obtain⟨rfl,rfl⟩:=a
  refine⟨d,f,h,b.toList.drop (n*3),?_,by simp [i]⟩
  show _=_
  rw [e]
  congr 2
  have:b.toList=fl3 zs++b.toList.drop (n*3):=by
   rw [<- j,xG]
  exact Array.toList_inj.1 (by simpa using this)
theorem zCk {w:World} {base g n cap:Nat} {zs:List T3v} {sp:List Value} (b:RwR w g zs sp) (a:zs.length=n) (c:base<=g) (d:n<=cap) (f:cap<=maxLen) (h:sp.length=cap*3 - n*3):w.ownsRow base 129 3 (.slice (qK g 0) n cap) n (fl3 zs):=by
 refine⟨by rw [zI,a],.inr ⟨g,cap,(fl3 zs++sp).toArray,rfl,c,b,d,f,by have:=zI zs;simp [h];omega,?_⟩⟩
 have e:=zI zs;rw [a]at e;rw [<- e];simp
theorem Xz (n:Nat):(madeCells (Value.agg #[.slice none 0 0,qJ 0,qJ 0]).cells (n*3)).toList=fl3 (List.replicate n z3):=by
 rw [Ys]
 induction n with
 | zero=>rfl
 | succ n a=>simp only [Qe,grVs,fl3,a];rfl
theorem makeR_no (B o:Nat) (ao:Option Addr) (a cap:Nat) (lo hi n:Nat) (w:World) (b:RC w B o (.slice ao a cap) lo hi) (f:lo<=hi) (g:hi<=a) (h:a<=1048576) (i:n<=hi - lo):
  Calls Tryz.prog 186 #[.pointer (qK B o),qJ n] w fun x w'=>x= .returned (.tuple #[])∧∃m,w'=w.drewN m:=by
 have c:=qG (gapRN B o (.slice ao a cap) lo hi w b (by omega) (by omega) (by omega))
 have e:(n:Int)<=(hi:Int) - (lo:Int):=by omega
 clear b;go_enter Tryz.func186,Tryz.ntmps186;go_wp2_with fail;refine c.mono ?_;rintro x j ⟨rfl,d,rfl⟩;go_wp2
 refine xr (v:=.tuple #[]) (by simp [results,Tryz.results186,go_sem]) rfl ⟨rfl,d,rfl⟩
theorem KC {w:World} {g n:Nat} {base:Nat} (a:w.ownsRow base 129 3 (.slice (qK g 0) n n) n (fl3 (List.replicate n z3))):RwR w g (List.replicate n z3) []:=by
 obtain⟨_,_,_,sp,b,c⟩:=RwR.qd a
 have:sp= []:=qU (by omega)
 subst this;exact b
structure ZE (w w':World) (B o:Nat) (cs:Array Value) (t:TypeId) (lo hi R:Nat) (zs:List T3v) (g:Nat):Prop where
 ge:w.heap.size<=g
 gb:GB w' B o (set3 cs o (.slice (qK g 0) R R) (qJ lo) (qJ hi)) t (.slice (qK g 0) R R) lo hi
 rw:RwR w' g zs []
 chg:ChgP w w' (fun k=>k=B)
theorem J9 {w w1 d:World} {B o g:Nat} {cs:Array Value} {t:TypeId} {v:Value} {lo hi l:Int} {zs m:List T3v} {R:Nat} (b:GB w B o cs t v lo hi) (c:ChgP w w1 (fun _=>False)) (z:w.heap.size<=g) (D:RwR w1 g zs []) (a:Row1 (w1.setCell ⟨B,o+2,none⟩ (qJ l)) d g (fl3 m++ []) 129) (n hi':Nat) (f:lo=n) (h:l=hi'):
  ZE w (d.setCell ⟨B,o,none⟩ (.slice (qK g 0) R R)) B o cs t n hi' R m g:=by
 subst f;subst h;have p:=b.lt
 have e:B≠g:=by omega
 have A:=b.sz
 have q:w1.heap[B]? =some (.cells cs t (0,0)):=(c.block B p (fun x=>x)).trans b.blk
 have r:=xB w1 B (o+2) _ _ (qJ (hi':Int)) q;have s:d.heap[B]? =_:=(a.block B e).trans r;have u:=xB d B o _ _ (.slice (qK g 0) R R) s;refine⟨z,GB.qu ?_ b.sz,?_,?_⟩
 ·rw [u]
  congr 2
  apply y6 (by simp) b.sz
  ·rw [qX,xj rfl,xj (by simp;omega)]
  ·rw [qX,qX,qT (by omega),qT (by omega)];exact b.c1
  ·rw [qX,qX,qT (by omega),xj rfl,xj (by omega)]
  ·intro j C f h
   rw [qX,qX,qT (by omega),qT (by omega)]
 ·show _=_
  rw [zE (by show g≠B;exact e.symm)]
  exact a.row
 ·refine⟨by simpa [World.setCell]using a.os.trans c.os,by simpa [World.setCell]using a.tape.trans c.tape,by simpa [World.setCell]using a.output.trans c.output,?_,fun k y i=>?_⟩
  ·simp only [World.size_setCell,a.size]
   exact c.size
  ·rw [zE (by show k≠B;exact i),a.block k (by omega),zE (by show k≠B;exact i)]
   exact c.block k y (fun x=>x)
theorem makeR_A (B o g cap b:Nat) (cs:Array Value) (t:TypeId) (zs:List T3v) (lo hi n Q M z R d:Nat) (w:World) (f:GB w B o cs t (.slice (qK g 0) b cap) lo hi) (aj:Cl3 w g zs) (bs:g<w.heap.size) (bt:b<=cap) (S:zs.length=b) (ak:One3 zs)
  (bu:lo<=hi) (bv:hi<=b) (bw:b<=65536) (bx:hi - lo<n) (bz:(b:Int) - ((hi:Int) - (lo:Int))=M) (b0:z=M+n) (b1:z<=16384) (b2:max (b:Int) 16=Q) (T:Dbl z Q R) (a5:(R:Int) - ((b - hi:Nat):Int)=d) (b3:hi<b) (a6:g≠B):
  Calls Tryz.prog 186 #[.pointer (qK B o),qJ n] w fun x w'=>x= .returned (.tuple #[])∧∃g',ZE w w' B o cs t lo d R (splice (splice (List.replicate R z3) 0 (zs.take lo)) d (zs.drop hi)) g':=by
 obtain⟨a7,hi',a8,a9,ba⟩:=xM Tryz.qz
 have U:=qG (gapRN B o (.slice (qK g 0) b cap) lo hi w f.rc (by omega) (by omega) (by omega))
 have V:=qG (fun w f=>Zl B o (qK g 0) b cap lo hi w f (by omega) (by omega) (by omega) (by omega))
 have W:=qG f;have am:=qG f.rc;have X:=qG S;have Y:=qG T;have bd:=jY T
 have be:((hi:Int) - (lo:Int))<(n:Int):=by omega
 have bf:b<=R:=by omega
 have bg:R<=65536:=by omega
 have D:=qG (show(zs.take lo).length=lo by rw [qN];omega)
 have G:=qG (show(zs.drop hi).length=b - hi by rw [qS,S])
 obtain⟨j,m,q⟩:=f.rc;obtain⟨l,r,v⟩:=f.gf;have an:=qG aj;have ao:=qG (ak.take lo);have ap:=qG (ak.drop hi)
 have bh:¬cap=hi:=by omega
 have bi:¬R=d:=by omega
 have bj:d<=R:=by omega
 have i1:lo<=cap:=by omega
 have aq:=a5;clear aj;clear S T f aq;go_enter Tryz.func186,Tryz.ntmps186;go_wp2_with fail;refine U.mono ?_;rintro x b4 ⟨rfl,bc,rfl⟩;go_wp2_with fail
 go_loopw [4] (fun P wr=>∃c k:Nat,P=qJ c∧Dbl z c R∧16<=c∧c<=65536∧wr=w.drewN k) (fun P _=>z - (intOf P).toNat)
 case atStart=>exact⟨Q,bc,rfl,Y,by omega,by omega,rfl⟩
 case round=>
  obtain⟨c,k,rfl,al,b5,b6,rfl⟩:=hrel;have N:=qG al;clear al;go_wp2_with fail;refine(V (w.drewN k) (am.same rfl)).mono ?_;rintro x w1 ⟨rfl,C,rfl⟩
  by_cases bq:c<z
  ·have bk:(c:Int) - (M:Int)<(n:Int):=by omega
   have ar:=qG (show Dbl z (c*2) R from by
    cases N with
    | stop _ f=>omega
    | more _ _ f k=>exact k)
   have bl:c*2<=65536:=by omega
   go_wp2;go_roundw
   case rel=>exact⟨c*2,k+C,by go_num,ar,by omega,by omega,rfl⟩
   case measure=>simp [intOf];omega
  ·have bm:¬ (c:Int) - (M:Int)<(n:Int):=by omega
   obtain rfl:c=R:=by
    cases N with
    | stop _ f=>rfl
    | more _ _ f k=>omega
   have Z:=qG (show ChgP w ((w.drewN k).drewN C) (fun _=>False)from⟨rfl,rfl,rfl,lR,fun _ _ _=>rfl⟩)
   have E:=qG (W.block (w':=(w.drewN k).drewN C) rfl);have au:w.heap.size<=((w.drewN k).drewN C).heap.size:=lR
   have av:=qG (show Cl3 ((w.drewN k).drewN C) g zs from an)
   clear j m q l r v U V Y N;obtain⟨j,m,q⟩:=E.rc;obtain⟨l,r,v⟩:=E.gf;generalize (w.drewN k).drewN C=w1 at *
   go_upto_region 5 with (at_make;refine kC _ rfl _ _ 124 rfl w1.heap.size 129 a7 (.agg #[.slice none 0 0,qJ 0,qJ 0]) 3 Tryz.underlying124 hi' a8 a9 .i64 .i64 _ _ c rfl rfl (by omega) (by omega) (by rw [ba];omega) (by unfold maxLen;omega) lR ?_;intro A K y)
   rw [Xz]at K;have aa:=qG (KC K)
   have ab:=qG (show ChgP w A (fun _=>False)from Z.trans (show ChgP w1 A (fun _=>False)from⟨y.os,y.tape,y.output,y.size,fun i ai _=>y.block i ai (by simp)⟩) (fun _ _ s=>s) (fun _ _ s=>s))
   have aw:w1.heap.size<A.heap.size:=(K.lt _ rfl).2;have ax:=E.lt
   have H:=qG (E.block (w':=A) (y.block B ax (by simp)))
   have ac:=qG (show Cl3 A g zs from fun i u F=>(qV (a:=⟨g,i,none⟩) (y.block g (by omega) (by simp))).trans (av i u F))
   have I:B≠w1.heap.size:=by omega
   clear K y j m q l r v E Z;obtain⟨j,m,q⟩:=H.rc;obtain⟨l,r,v⟩:=H.gf;go_still_tail 10,mixed
   refine zV rfl (.tmp 27) (.tmp 36) 124 124 rfl 129 Tryz.underlying124 zp (qK w1.heap.size 0) (qK g 0) c c lo cap rfl rfl w1.heap.size 0 (fl3 (List.replicate c z3)++ []) 129 (by exact aa) lo (by show lo=min _ _;omega) (fl3 (zs.take lo)) (by rw [zI,D.out]) (fun _=>⟨rfl,_,rfl,by have:=ac.app' 0 lo (by rw [X.out];omega);rw [vZ]at this;exact this⟩) (by rw [zI,D.out,qM,zI,qP];omega) (One3.fl (ao)) ?_
   intro e h
   have ad:=qG (Row1.to (Row1.qh h) (ze (off:=0) (sp:=[]) (by rw [D.out,qP];omega)))
   have J:=qG (H.block (w':=e) (h.block B I))
   have ae:=qG (show ChgP w e (fun _=>False)from ab.trans (show ChgP A e (fun k=>k=w1.heap.size)from⟨h.os,h.tape,h.output,Qc h.size.symm,fun k br a4=>h.block k a4⟩) (fun _ _ s=>s) (fun i ai s=>by omega))
   have bn:w1.heap.size<e.heap.size:=by rw [h.out.size];exact aw
   have ay:=qG (show Cl3 e g zs from fun i u F=>(qV (a:=⟨g,i,none⟩) (h.block g (by omega))).trans (ac i u F))
   clear h j m q l r v H ab aa;obtain⟨j,m,q⟩:=J.rc;obtain⟨l,r,v⟩:=J.gf;go_wp2_with fail;go_quiet (fail)
   have af:=qG (show RwR (e.drewN nq) w1.heap.size (splice (List.replicate c z3) 0 (zs.take lo)) []from ad.row)
   have ag:=qG (J.block (w':=e.drewN nq) rfl)
   have az:=qG (show ChgP w (e.drewN nq) (fun _=>False)from ae.trans (show ChgP e (e.drewN nq) (fun _=>False)from⟨rfl,rfl,rfl,lR,fun _ _ _=>rfl⟩) (fun _ _ s=>s) (fun _ _ s=>s))
   have a0:=qG (show Cl3 (e.drewN nq) g zs from ay)
   clear j m q l r v J ae ad;obtain⟨j,m,q⟩:=ag.rc;obtain⟨l,r,v⟩:=ag.gf;generalize e.drewN nq=O at *
   have a1:=qG (show Cl3 (O.setCell ⟨B,o+2,none⟩ (qJ d)) g zs from fun i u F=>(qV (a:=⟨g,i,none⟩) (zE (by show g≠B;exact a6))).trans (a0 i u F))
   have a2:=qG (show RwR (O.setCell ⟨B,o+2,none⟩ (qJ d)) w1.heap.size (splice (List.replicate c z3) 0 (zs.take lo)) []from(zE (by show w1.heap.size≠B;exact I.symm)).trans af)
   go_upto_region 8 with fail
   go_upto_region 9 with (refine zV rfl (.tmp 59) (.tmp 60) 124 124 rfl 129 Tryz.underlying124 zp (qK w1.heap.size (d*3)) (qK g (hi*3)) (c - d) (c - d) (b - hi) (cap - hi) rfl rfl w1.heap.size (d*3) (fl3 (splice (List.replicate c z3) 0 (zs.take lo))++ []) 129 (by exact a2) (b - hi) (by show b - hi=min _ _;omega) (fl3 (zs.drop hi)) (by rw [zI,G.out]) (fun _=>⟨rfl,_,rfl,by have:=a1.app' hi (b - hi) (by rw [X.out];omega);rw [xE (by rw [G.out];exact lR)]at this;exact this⟩) (by rw [zI,G.out,qM,zI,length_splice _ _ _ (by rw [D.out,qP];omega),qP];omega) (One3.fl (ap)) ?_;intro ah L)
   have a3:=qG (Row1.to L (ze (sp:=[]) (by rw [G.out,length_splice _ _ _ (by rw [D.out,qP];omega),qP];omega)))
   have bo:ah.cell? ⟨B,o,none⟩=some (.slice (qK g 0) b cap):=(qV (a:=⟨B,o,none⟩) (L.block B I)).trans ((ks O ⟨B,o+2,none⟩ ⟨B,o,none⟩ (qJ d) (by simp)).trans j)
   have bp:ah.frozen? ⟨B,o,none⟩=false:=(zN (p:=⟨B,o,none⟩) (L.block B I)).trans (by simpa using l)
   clear L j m q l r v;go_wp2;go_end0;exact⟨rfl,w1.heap.size,J9 W az au af a3 lo d rfl rfl⟩
theorem makeR_B (B o g cap b:Nat) (cs:Array Value) (t:TypeId) (zs:List T3v) (lo hi n Q K y R L:Nat) (w:World) (e:GB w B o cs t (.slice (qK g 0) b cap) lo hi) (ai:Cl3 w g zs) (bq:g<w.heap.size) (br:b<=cap) (S:zs.length=b) (aj:One3 zs)
  (bs:lo<=hi) (bt:hi<=b) (bu:b<=65536) (bv:hi - lo<n) (bw:(b:Int) - ((hi:Int) - (lo:Int))=K) (bx:y=K+n) (bz:y<=16384) (b0:max (b:Int) 16=Q) (T:Dbl y Q R) (a5:(R:Int) - ((b - hi:Nat):Int)=L) (b1:hi=b) (b2:cap=b) (a6:g≠B):
  Calls Tryz.prog 186 #[.pointer (qK B o),qJ n] w fun x w'=>x= .returned (.tuple #[])∧∃g',ZE w w' B o cs t lo L R (splice (splice (List.replicate R z3) 0 (zs.take lo)) L (zs.drop hi)) g':=by
 obtain rfl:b=hi:=by omega
 obtain rfl:b=cap:=by omega
 obtain rfl:R=L:=by omega
 obtain⟨a7,hi',a8,a9,ba⟩:=xM Tryz.qz
 have U:=qG (gapRN B o (.slice (qK g 0) b b) lo b w e.rc (by omega) (by omega) (by omega))
 have V:=qG (fun w e=>Zl B o (qK g 0) b b lo b w e (by omega) (by omega) (by omega) (by omega))
 have W:=qG e;have al:=qG e.rc;have am:=qG S;have X:=qG T;have bd:=jY T
 have be:((b:Int) - (lo:Int))<(n:Int):=by omega
 have bf:b<=R:=by omega
 have bg:R<=65536:=by omega
 have C:=qG (show(zs.take lo).length=lo by rw [qN];omega)
 have M:=qG (show(zs.drop b).length=b - b by rw [qS,S])
 obtain⟨h,l,m⟩:=e.rc;obtain⟨j,q,r⟩:=e.gf;have an:=qG ai;have ao:=qG (aj.take lo);have ap:=qG (aj.drop b)
 have i1:lo<=b:=by omega
 have aq:=a5;clear ai;clear S T e aq;go_enter Tryz.func186,Tryz.ntmps186;go_wp2_with fail;refine U.mono ?_;rintro x b3 ⟨rfl,bc,rfl⟩;go_wp2_with fail
 go_loopw [4] (fun P wr=>∃c k:Nat,P=qJ c∧Dbl y c R∧16<=c∧c<=65536∧wr=w.drewN k) (fun P _=>y - (intOf P).toNat)
 case atStart=>exact⟨Q,bc,rfl,X,by omega,by omega,rfl⟩
 case round=>
  obtain⟨c,k,rfl,ak,b4,b5,rfl⟩:=hrel;have N:=qG ak;clear ak;go_wp2_with fail;refine(V (w.drewN k) (al.same rfl)).mono ?_;rintro x w1 ⟨rfl,A,rfl⟩
  by_cases bo:c<y
  ·have bh:(c:Int) - (K:Int)<(n:Int):=by omega
   have ar:=qG (show Dbl y (c*2) R from by
    cases N with
    | stop _ e=>omega
    | more _ _ e k=>exact k)
   have bi:c*2<=65536:=by omega
   go_wp2;go_roundw
   case rel=>exact⟨c*2,k+A,by go_num,ar,by omega,by omega,rfl⟩
   case measure=>simp [intOf];omega
  ·have bj:¬ (c:Int) - (K:Int)<(n:Int):=by omega
   obtain rfl:c=R:=by
    cases N with
    | stop _ e=>rfl
    | more _ _ e k=>omega
   have Y:=qG (show ChgP w ((w.drewN k).drewN A) (fun _=>False)from⟨rfl,rfl,rfl,lR,fun _ _ _=>rfl⟩)
   have D:=qG (W.block (w':=(w.drewN k).drewN A) rfl);have au:w.heap.size<=((w.drewN k).drewN A).heap.size:=lR
   have av:=qG (show Cl3 ((w.drewN k).drewN A) g zs from an)
   clear h l m j q r U V X N;obtain⟨h,l,m⟩:=D.rc;obtain⟨j,q,r⟩:=D.gf;generalize (w.drewN k).drewN A=w1 at *
   go_upto_region 5 with (at_make;refine kC _ rfl _ _ 124 rfl w1.heap.size 129 a7 (.agg #[.slice none 0 0,qJ 0,qJ 0]) 3 Tryz.underlying124 hi' a8 a9 .i64 .i64 _ _ c rfl rfl (by omega) (by omega) (by rw [ba];omega) (by unfold maxLen;omega) lR ?_;intro z I v)
   rw [Xz]at I;have Z:=qG (KC I)
   have aa:=qG (show ChgP w z (fun _=>False)from Y.trans (show ChgP w1 z (fun _=>False)from⟨v.os,v.tape,v.output,v.size,fun i ah _=>v.block i ah (by simp)⟩) (fun _ _ s=>s) (fun _ _ s=>s))
   have aw:w1.heap.size<z.heap.size:=(I.lt _ rfl).2;have ax:=D.lt
   have F:=qG (D.block (w':=z) (v.block B ax (by simp)))
   have ab:=qG (show Cl3 z g zs from fun i u E=>(qV (a:=⟨g,i,none⟩) (v.block g (by omega) (by simp))).trans (av i u E))
   have G:B≠w1.heap.size:=by omega
   clear I v h l m j q r D Y;obtain⟨h,l,m⟩:=F.rc;obtain⟨j,q,r⟩:=F.gf;go_still_tail 10,mixed
   refine zV rfl (.tmp 27) (.tmp 36) 124 124 rfl 129 Tryz.underlying124 zp (qK w1.heap.size 0) (qK g 0) c c lo b rfl rfl w1.heap.size 0 (fl3 (List.replicate c z3)++ []) 129 (by exact Z) lo (by show lo=min _ _;omega) (fl3 (zs.take lo)) (by rw [zI,C.out]) (fun _=>⟨rfl,_,rfl,by have:=ab.app' 0 lo (by rw [am.out];omega);rw [vZ]at this;exact this⟩) (by rw [zI,C.out,qM,zI,qP];omega) (One3.fl (ao)) ?_
   intro d f
   have ac:=qG (Row1.to (Row1.qh f) (ze (off:=0) (sp:=[]) (by rw [C.out,qP];omega)))
   have H:=qG (F.block (w':=d) (f.block B G))
   have ad:=qG (show ChgP w d (fun _=>False)from aa.trans (show ChgP z d (fun k=>k=w1.heap.size)from⟨f.os,f.tape,f.output,Qc f.size.symm,fun k bp a3=>f.block k a3⟩) (fun _ _ s=>s) (fun i ah s=>by omega))
   have bk:w1.heap.size<d.heap.size:=by rw [f.out.size];exact aw
   have ay:=qG (show Cl3 d g zs from fun i u E=>(qV (a:=⟨g,i,none⟩) (f.block g (by omega))).trans (ab i u E))
   clear f h l m j q r F aa Z;obtain⟨h,l,m⟩:=H.rc;obtain⟨j,q,r⟩:=H.gf;go_wp2_with fail;go_quiet (fail)
   have ae:=qG (show RwR (d.drewN nq) w1.heap.size (splice (List.replicate c z3) 0 (zs.take lo)) []from ac.row)
   have af:=qG (H.block (w':=d.drewN nq) rfl)
   have az:=qG (show ChgP w (d.drewN nq) (fun _=>False)from ad.trans (show ChgP d (d.drewN nq) (fun _=>False)from⟨rfl,rfl,rfl,lR,fun _ _ _=>rfl⟩) (fun _ _ s=>s) (fun _ _ s=>s))
   have a0:=qG (show Cl3 (d.drewN nq) g zs from ay)
   clear h l m j q r H ad ac;obtain⟨h,l,m⟩:=af.rc;obtain⟨j,q,r⟩:=af.gf;generalize d.drewN nq=O at *
   have bl:=qG (show Cl3 (O.setCell ⟨B,o+2,none⟩ (qJ c)) g zs from fun i u E=>(qV (a:=⟨g,i,none⟩) (zE (by show g≠B;exact a6))).trans (a0 i u E))
   have a1:=qG (show RwR (O.setCell ⟨B,o+2,none⟩ (qJ c)) w1.heap.size (splice (List.replicate c z3) 0 (zs.take lo)) []from(zE (by show w1.heap.size≠B;exact G.symm)).trans ae)
   go_upto_region 8 with fail
   go_upto_region 9 with (refine zV rfl (.tmp 59) (.tmp 60) 124 124 rfl 129 Tryz.underlying124 zp (qK w1.heap.size 0) (qK g 0) 0 0 0 0 rfl rfl w1.heap.size (c*3) (fl3 (splice (List.replicate c z3) 0 (zs.take lo))++ []) 129 (by exact a1) 0 (by show 0=min _ _;omega) (fl3 (zs.drop b)) (by rw [zI,M.out,vO]) (fun a4=>absurd a4 (by omega)) (by rw [zI,M.out,qM,zI,length_splice _ _ _ (by rw [C.out,qP];omega),qP];omega) (One3.fl (ap)) ?_;intro ag J)
   have a2:=qG (Row1.to J (ze (sp:=[]) (by rw [M.out,length_splice _ _ _ (by rw [C.out,qP];omega),qP];omega)))
   have bm:ag.cell? ⟨B,o,none⟩=some (.slice (qK g 0) b b):=(qV (a:=⟨B,o,none⟩) (J.block B G)).trans ((ks O ⟨B,o+2,none⟩ ⟨B,o,none⟩ (qJ c) (by simp)).trans h)
   have bn:ag.frozen? ⟨B,o,none⟩=false:=(zN (p:=⟨B,o,none⟩) (J.block B G)).trans (by simpa using j)
   clear J h l m j q r;go_wp2;go_end0;exact⟨rfl,w1.heap.size,J9 W az au ae a2 lo c rfl rfl⟩
theorem makeR_C (B o g cap b:Nat) (cs:Array Value) (t:TypeId) (zs:List T3v) (lo hi n Q K y R L:Nat) (w:World) (e:GB w B o cs t (.slice (qK g 0) b cap) lo hi) (ai:Cl3 w g zs) (bq:g<w.heap.size) (br:b<=cap) (S:zs.length=b) (aj:One3 zs)
  (bs:lo<=hi) (bt:hi<=b) (bu:b<=65536) (bv:hi - lo<n) (bw:(b:Int) - ((hi:Int) - (lo:Int))=K) (bx:y=K+n) (bz:y<=16384) (b0:max (b:Int) 16=Q) (T:Dbl y Q R) (a5:(R:Int) - ((b - hi:Nat):Int)=L) (b1:hi=b) (b2:¬cap=b) (a6:g≠B):
  Calls Tryz.prog 186 #[.pointer (qK B o),qJ n] w fun x w'=>x= .returned (.tuple #[])∧∃g',ZE w w' B o cs t lo L R (splice (splice (List.replicate R z3) 0 (zs.take lo)) L (zs.drop hi)) g':=by
 obtain rfl:b=hi:=by omega
 obtain rfl:R=L:=by omega
 obtain⟨a7,hi',a8,a9,ba⟩:=xM Tryz.qz
 have U:=qG (gapRN B o (.slice (qK g 0) b cap) lo b w e.rc (by omega) (by omega) (by omega))
 have V:=qG (fun w e=>Zl B o (qK g 0) b cap lo b w e (by omega) (by omega) (by omega) (by omega))
 have W:=qG e;have al:=qG e.rc;have am:=qG S;have X:=qG T;have bd:=jY T
 have be:((b:Int) - (lo:Int))<(n:Int):=by omega
 have bf:b<=R:=by omega
 have bg:R<=65536:=by omega
 have C:=qG (show(zs.take lo).length=lo by rw [qN];omega)
 have M:=qG (show(zs.drop b).length=b - b by rw [qS,S])
 obtain⟨h,l,m⟩:=e.rc;obtain⟨j,q,r⟩:=e.gf;have an:=qG ai;have ao:=qG (aj.take lo);have ap:=qG (aj.drop b)
 have i1:lo<=cap:=by omega
 have aq:=a5;clear ai;clear S T e aq;go_enter Tryz.func186,Tryz.ntmps186;go_wp2_with fail;refine U.mono ?_;rintro x b3 ⟨rfl,bc,rfl⟩;go_wp2_with fail
 go_loopw [4] (fun P wr=>∃c k:Nat,P=qJ c∧Dbl y c R∧16<=c∧c<=65536∧wr=w.drewN k) (fun P _=>y - (intOf P).toNat)
 case atStart=>exact⟨Q,bc,rfl,X,by omega,by omega,rfl⟩
 case round=>
  obtain⟨c,k,rfl,ak,b4,b5,rfl⟩:=hrel;have N:=qG ak;clear ak;go_wp2_with fail;refine(V (w.drewN k) (al.same rfl)).mono ?_;rintro x w1 ⟨rfl,A,rfl⟩
  by_cases bo:c<y
  ·have bh:(c:Int) - (K:Int)<(n:Int):=by omega
   have ar:=qG (show Dbl y (c*2) R from by
    cases N with
    | stop _ e=>omega
    | more _ _ e k=>exact k)
   have bi:c*2<=65536:=by omega
   go_wp2;go_roundw
   case rel=>exact⟨c*2,k+A,by go_num,ar,by omega,by omega,rfl⟩
   case measure=>simp [intOf];omega
  ·have bj:¬ (c:Int) - (K:Int)<(n:Int):=by omega
   obtain rfl:c=R:=by
    cases N with
    | stop _ e=>rfl
    | more _ _ e k=>omega
   have Y:=qG (show ChgP w ((w.drewN k).drewN A) (fun _=>False)from⟨rfl,rfl,rfl,lR,fun _ _ _=>rfl⟩)
   have D:=qG (W.block (w':=(w.drewN k).drewN A) rfl);have au:w.heap.size<=((w.drewN k).drewN A).heap.size:=lR
   have av:=qG (show Cl3 ((w.drewN k).drewN A) g zs from an)
   clear h l m j q r U V X N;obtain⟨h,l,m⟩:=D.rc;obtain⟨j,q,r⟩:=D.gf;generalize (w.drewN k).drewN A=w1 at *
   go_upto_region 5 with (at_make;refine kC _ rfl _ _ 124 rfl w1.heap.size 129 a7 (.agg #[.slice none 0 0,qJ 0,qJ 0]) 3 Tryz.underlying124 hi' a8 a9 .i64 .i64 _ _ c rfl rfl (by omega) (by omega) (by rw [ba];omega) (by unfold maxLen;omega) lR ?_;intro z I v)
   rw [Xz]at I;have Z:=qG (KC I)
   have aa:=qG (show ChgP w z (fun _=>False)from Y.trans (show ChgP w1 z (fun _=>False)from⟨v.os,v.tape,v.output,v.size,fun i ah _=>v.block i ah (by simp)⟩) (fun _ _ s=>s) (fun _ _ s=>s))
   have aw:w1.heap.size<z.heap.size:=(I.lt _ rfl).2;have ax:=D.lt
   have F:=qG (D.block (w':=z) (v.block B ax (by simp)))
   have ab:=qG (show Cl3 z g zs from fun i u E=>(qV (a:=⟨g,i,none⟩) (v.block g (by omega) (by simp))).trans (av i u E))
   have G:B≠w1.heap.size:=by omega
   clear I v h l m j q r D Y;obtain⟨h,l,m⟩:=F.rc;obtain⟨j,q,r⟩:=F.gf;go_still_tail 10,mixed
   refine zV rfl (.tmp 27) (.tmp 36) 124 124 rfl 129 Tryz.underlying124 zp (qK w1.heap.size 0) (qK g 0) c c lo cap rfl rfl w1.heap.size 0 (fl3 (List.replicate c z3)++ []) 129 (by exact Z) lo (by show lo=min _ _;omega) (fl3 (zs.take lo)) (by rw [zI,C.out]) (fun _=>⟨rfl,_,rfl,by have:=ab.app' 0 lo (by rw [am.out];omega);rw [vZ]at this;exact this⟩) (by rw [zI,C.out,qM,zI,qP];omega) (One3.fl (ao)) ?_
   intro d f
   have ac:=qG (Row1.to (Row1.qh f) (ze (off:=0) (sp:=[]) (by rw [C.out,qP];omega)))
   have H:=qG (F.block (w':=d) (f.block B G))
   have ad:=qG (show ChgP w d (fun _=>False)from aa.trans (show ChgP z d (fun k=>k=w1.heap.size)from⟨f.os,f.tape,f.output,Qc f.size.symm,fun k bp a3=>f.block k a3⟩) (fun _ _ s=>s) (fun i ah s=>by omega))
   have bk:w1.heap.size<d.heap.size:=by rw [f.out.size];exact aw
   have ay:=qG (show Cl3 d g zs from fun i u E=>(qV (a:=⟨g,i,none⟩) (f.block g (by omega))).trans (ab i u E))
   clear f h l m j q r F aa Z;obtain⟨h,l,m⟩:=H.rc;obtain⟨j,q,r⟩:=H.gf;go_wp2_with fail;go_quiet (fail)
   have ae:=qG (show RwR (d.drewN nq) w1.heap.size (splice (List.replicate c z3) 0 (zs.take lo)) []from ac.row)
   have af:=qG (H.block (w':=d.drewN nq) rfl)
   have az:=qG (show ChgP w (d.drewN nq) (fun _=>False)from ad.trans (show ChgP d (d.drewN nq) (fun _=>False)from⟨rfl,rfl,rfl,lR,fun _ _ _=>rfl⟩) (fun _ _ s=>s) (fun _ _ s=>s))
   have a0:=qG (show Cl3 (d.drewN nq) g zs from ay)
   clear h l m j q r H ad ac;obtain⟨h,l,m⟩:=af.rc;obtain⟨j,q,r⟩:=af.gf;generalize d.drewN nq=O at *
   have bl:=qG (show Cl3 (O.setCell ⟨B,o+2,none⟩ (qJ c)) g zs from fun i u E=>(qV (a:=⟨g,i,none⟩) (zE (by show g≠B;exact a6))).trans (a0 i u E))
   have a1:=qG (show RwR (O.setCell ⟨B,o+2,none⟩ (qJ c)) w1.heap.size (splice (List.replicate c z3) 0 (zs.take lo)) []from(zE (by show w1.heap.size≠B;exact G.symm)).trans ae)
   go_upto_region 8 with fail
   go_upto_region 9 with (refine zV rfl (.tmp 59) (.tmp 60) 124 124 rfl 129 Tryz.underlying124 zp (qK w1.heap.size 0) (qK g (b*3)) 0 0 0 (cap - b) rfl rfl w1.heap.size (c*3) (fl3 (splice (List.replicate c z3) 0 (zs.take lo))++ []) 129 (by exact a1) 0 (by show 0=min _ _;omega) (fl3 (zs.drop b)) (by rw [zI,M.out,vO]) (fun a4=>absurd a4 (by omega)) (by rw [zI,M.out,qM,zI,length_splice _ _ _ (by rw [C.out,qP];omega),qP];omega) (One3.fl (ap)) ?_;intro ag J)
   have a2:=qG (Row1.to J (ze (sp:=[]) (by rw [M.out,length_splice _ _ _ (by rw [C.out,qP];omega),qP];omega)))
   have bm:ag.cell? ⟨B,o,none⟩=some (.slice (qK g 0) b cap):=(qV (a:=⟨B,o,none⟩) (J.block B G)).trans ((ks O ⟨B,o+2,none⟩ ⟨B,o,none⟩ (qJ c) (by simp)).trans h)
   have bn:ag.frozen? ⟨B,o,none⟩=false:=(zN (p:=⟨B,o,none⟩) (J.block B G)).trans (by simpa using j)
   clear J h l m j q r;go_wp2;go_end0;exact⟨rfl,w1.heap.size,J9 W az au ae a2 lo c rfl rfl⟩
theorem One3.rep (n:Nat):One3 (List.replicate n z3):=fun x a=>by rw [kK a];exact⟨rfl,rfl,rfl⟩
theorem One3.txt {zs:List T3v} (a:One3 zs) (lo hi:Nat):One3 (zh zs lo hi):=(a.take lo).app (a.drop hi)
theorem One3.lay {xs:List T3v} (a:One3 xs) (p n:Nat):One3 (glayA z3 xs p n):=(a.take p).app ((One3.rep _).app (a.drop p))
structure Ja (w w1:World) (B o:Nat) (cs:Array Value) (t:TypeId) (tx:List T3v) (n b:Nat) (S:Nat->Prop) (a c:Nat) (d:List T3v) (g:List Value) (e f:Nat):Prop where
 gb:GB w1 B o (set3 cs o (.slice (qK a 0) b c) (qJ e) (qJ f)) t (.slice (qK a 0) b c) e f
 rw:RwR w1 a d g
 len:d.length=b
 gv:GVA z3 d e f
 tx:zh d e f=tx
 room:n<=f - e
 cap:b<=c∧c<=maxLen∧g.length=c*3 - b*3
 low:a<w.heap.size->S a
 ne:B≠a
 chg:ChgP w w1 S
 one:One3 d
structure KD (w w1:World) (B o:Nat) (cs:Array Value) (t:TypeId) (zs:List T3v) (c:Nat) (S:Nat->Prop) (lo hi:Nat) (a b:Nat) (d:List Value):Prop where
 gb:GB w1 B o (set3 cs o (.slice (qK a 0) c b) (qJ lo) (qJ hi)) t (.slice (qK a 0) c b) lo hi
 rw:RwR w1 a zs d
 cap:c<=b∧b<=maxLen∧d.length=b*3 - c*3
 low:a<w.heap.size->S a
 ne:B≠a
 chg:ChgP w w1 S
 one:One3 zs
theorem zH7 (B o g cap:Nat) (cs:Array Value) (t:TypeId) (zs:List T3v) (sp:List Value) (lo hi n a:Nat) (S:Nat->Prop) (w:World) (c:GB w B o cs t (.slice (qK g 0) zs.length cap) lo hi) (J:RwR w g zs sp) (i:One3 zs) (j:B≠g) (G:g<w.heap.size)
  (l:zs.length<=cap) (Q:cap<=maxLen) (R:sp.length=cap*3 - zs.length*3) (p:GVA z3 zs lo hi) (H:(zh zs lo hi).length+n<=16384) (T:S g) (U:S B)
  (V:(n<=hi - lo∧a=zs.length)∨(hi - lo<n∧Dbl ((zh zs lo hi).length+n) (max zs.length 16) a)):
  Calls Tryz.prog 186 #[.pointer (qK B o),qJ n] w fun x w1=>x= .returned (.tuple #[])∧∃v y A C D E,Ja w w1 B o cs t (zh zs lo hi) n a S v y A C D E:=by
 have d:=p.a;have f:=p.b;have r:=p.c;have W:(zh zs lo hi).length=zs.length - (hi - lo):=yd d f;have X:=c.lt
 rcases V with ⟨h,rfl⟩ | ⟨h,q⟩
 ·refine(makeR_no B o _ zs.length cap lo hi n w c.rc d f (by omega) h).mono fun x w1 ⟨F,m,N⟩=>⟨F,g,cap,zs,sp,lo,hi,?_⟩
  subst N
  exact⟨by rw [c.self];exact c.block rfl,J,rfl,p,rfl,h,⟨l,Q,R⟩,fun _=>T,j,⟨rfl,rfl,rfl,lR,fun _ _ _=>rfl⟩,i⟩
 ·have Y:=jY q
  have s:=zEb J
  have K:zs.length<=a:=by omega
  have u:∀x w1,(x=Ending.returned (.tuple #[])∧∃g',ZE w w1 B o cs t lo (a - (zs.length - hi)) a (splice (splice (List.replicate a z3) 0 (zs.take lo)) (a - (zs.length - hi)) (zs.drop hi)) g')->(x=Ending.returned (.tuple #[])∧∃v y A C D E,Ja w w1 B o cs t (zh zs lo hi) n a S v y A C D E):=by
   rintro x w1 ⟨F,g',b⟩;rw [ggrowA (z:=z3) d f K]at b
   have L:a - (zs.length - hi)=lo+(a - (zh zs lo hi).length):=by omega
   rw [L]at b
   refine⟨F,g',a,glayA z3 (zh zs lo hi) lo a,[],lo,lo+(a - (zh zs lo hi).length),b.gb,b.rw,zg (z:=z3) (by omega) (by omega),zBv (z:=z3) (by omega) (by omega) (by omega) (by omega),zDh (z:=z3) (by omega) (by omega),by omega,⟨lR,by unfold maxLen;omega,by simp⟩,fun c=>absurd c (by have:=b.ge;omega),by have:=b.ge;omega,?_,One3.lay (One3.txt i _ _) _ _⟩
   exact⟨b.chg.os,b.chg.tape,b.chg.output,b.chg.size,fun k O P=>b.chg.block k O (fun e=>P (e▸U))⟩
  by_cases M:hi<zs.length
  ·exact(makeR_A B o g cap zs.length cs t zs lo hi n (max zs.length 16) (zh zs lo hi).length ((zh zs lo hi).length+n) a (a - (zs.length - hi)) w c s G l rfl i d f r h (by omega) rfl H (by omega) q (by omega) M j.symm).mono u
  ·by_cases I:cap=zs.length
   ·exact(makeR_B B o g cap zs.length cs t zs lo hi n (max zs.length 16) (zh zs lo hi).length ((zh zs lo hi).length+n) a (a - (zs.length - hi)) w c s G l rfl i d f r h (by omega) rfl H (by omega) q (by omega) (by omega) I j.symm).mono u
   ·exact(makeR_C B o g cap zs.length cs t zs lo hi n (max zs.length 16) (zh zs lo hi).length ((zh zs lo hi).length+n) a (a - (zs.length - hi)) w c s G l rfl i d f r h (by omega) rfl H (by omega) q (by omega) (by omega) I j.symm).mono u
end Go.Proofs.YtljdnoinennfaaaGreatDoor

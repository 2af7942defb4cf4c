import Derived.Test.YtibbhecojkehfaaGreatDoorMq07
import Derived.RangeFuncNested
import Derived.RangeFuncBox
import Derived.RangeFuncBound
import Derived.RangeFuncLeaves
import Derived.OwnWalkIn
import Derived.TacticsInMore
import Derived.LoopNIn
import Derived.LoopIn
import Derived.OrdersIn
set_option linter.all false
set_option maxRecDepth 100000
set_option maxHeartbeats 16000000
namespace Go.Proofs.YtibbhecojkehfaaGreatDoor
open Go Go.RowKit
def Fnd (w:World) (b:Nat) (x y z i n k d s:Int):Prop:=w.heap[b]? =some (.cells #[.int .i64 x,.int .i64 y,.int .i64 z,.int .i64 i,.int .i64 n,.int .i64 k,.int .i64 d,.int .i64 s] 315 (0,0))
theorem Fnd.c {w:World} {b:Nat} {x y z i n k d s:Int} (h:Fnd w b x y z i n k d s):w.cell? ⟨b,0,none⟩=some (.int .i64 x)∧w.cell? ⟨b,1,none⟩=some (.int .i64 y)∧w.cell? ⟨b,2,none⟩=some (.int .i64 z)∧w.cell? ⟨b,3,none⟩=some (.int .i64 i)∧w.cell? ⟨b,4,none⟩=some (.int .i64 n)∧w.cell? ⟨b,5,none⟩=some (.int .i64 k)∧w.cell? ⟨b,6,none⟩=some (.int .i64 d)∧w.cell? ⟨b,7,none⟩=some (.int .i64 s):=by
 refine⟨?_,?_,?_,?_,?_,?_,?_,?_⟩<;>rw [cell_of_row w b _ _ _ _ h]<;>rfl
theorem Fnd.fz {w:World} {b:Nat} {x y z i n k d s:Int} (h:Fnd w b x y z i n k d s) (j:Nat):w.frozen? ⟨b,j,none⟩=false:=frozen_of_row w b j _ _ h
theorem Fnd.lt {w:World} {b:Nat} {x y z i n k d s:Int} (h:Fnd w b x y z i n k d s):b<w.heap.size:=by
 rcases Nat.lt_or_ge b w.heap.size with h' | h'
 ·exact h'
 unfold Fnd at h;rw [Array.getElem?_eq_none h']at h;cases h
theorem Fnd.set7 {w:World} {b:Nat} {x y z i n k d s:Int} (h:Fnd w b x y z i n k d s) (u:Int):Fnd (w.setCell ⟨b,7,none⟩ (.int .i64 u)) b x y z i n k d u:=by
 unfold Fnd at h |-;rw [heap_setCell_same w b 7 _ _ _ h];rfl
theorem Fnd.set345 {w:World} {b:Nat} {x y z i n k d s:Int} (h:Fnd w b x y z i n k d s) (u v t:Int):Fnd (((w.setCell ⟨b,3,none⟩ (.int .i64 u)).setCell ⟨b,4,none⟩ (.int .i64 v)).setCell ⟨b,5,none⟩ (.int .i64 t)) b x y z u v t d s:=by
 unfold Fnd at h |-;have h1:=heap_setCell_same w b 3 _ _ (.int .i64 u) h;have h2:=heap_setCell_same _ b 4 _ _ (.int .i64 v) h1;have h3:=heap_setCell_same _ b 5 _ _ (.int .i64 t) h2;rw [h3];rfl
theorem Fnd.below {B:Nat} {w w':World} {b:Nat} {x y z i n k d s:Int} (h:Fnd w b x y z i n k d s) (hb:Below B w w') (hB:b<B):Fnd w' b x y z i n k d s:=(hb.block b hB).trans h
def fndV (x y z:Int) (r:Nat×Int×Int×Int×Int):Value:=.agg #[.int .i64 x,.int .i64 y,.int .i64 z,.int .i64 r.1,.int .i64 r.2.1,.int .i64 r.2.2.1,.int .i64 r.2.2.2.1,.int .i64 r.2.2.2.2]
def zr (m:Pc->Int) (T:AT) (k:Int) (i:Nat) (n b s:Int):Nat×Int×Int×Int×Int:=
 ((seekT m T k).1+i,(seekT m T k).2.1+n,(seekT m T k).2.2.1+b,(seekT m T k).2.2.2.1,(seekT m T k).2.2.2.2+s)
theorem ZB (m:Pc->Int) (T:AT) (k:Int):seekT m T k=zr m T k 0 0 0 0:=by simp [zr]
theorem Za (m:Pc->Int) (k:Int) (i:Nat) (n b s:Int):zr m .nil k i n b s=(i,n,b,k,s):=by simp [zr,seekT]
theorem ZC (m:Pc->Int) (l:AT) (p:Pc) (r:AT) (k:Int) (i:Nat) (n b s:Int) (h:k<sumM m (l.told 0)):zr m (.node l p r) k i n b s=zr m l k i n b (s+1):=by
 simp only [zr,seekT,if_pos h];simp;omega
theorem ZD (m:Pc->Int) (l:AT) (p:Pc) (r:AT) (k:Int) (i:Nat) (n b s:Int) (h:¬k<sumM m (l.told 0)) (h2:k - sumM m (l.told 0)<m p):zr m (.node l p r) k i n b s=(i+l.its,n+l.rns,b+l.bks,k - sumM m (l.told 0),s+1):=by
 simp only [zr,seekT,if_neg h,if_pos h2];simp;omega
theorem jc (m:Pc->Int) (l:AT) (p:Pc) (r:AT) (k:Int) (i:Nat) (n b s:Int) (h:¬k<sumM m (l.told 0)) (h2:¬k - sumM m (l.told 0)<m p):zr m (.node l p r) k i n b s=zr m r (k - sumM m (l.told 0) - m p) (i+l.its+1) (n+l.rns+p.len) (b+l.bks+p.brk) (s+1):=by
 simp only [zr,seekT,if_neg h,if_neg h2];simp;omega
structure Rnd (w wx:World) (a:Nat) (i n b s li ln lb pl pb:Int):Prop where
 f:Fnd wx (w.heap.size+1) 0 0 0 i n b 0 s
 g:Fnd wx w.heap.size 0 0 0 0 0 0 0 0
 h:Below w.heap.size w wx
 l:wx.heap[a]? =some (.cells #[.int .i64 li,.int .i64 ln,.int .i64 lb] 152 (0,0))
 o:wx.heap[a+1]? =some (.cells #[.int .i64 1,.int .i64 pl,.int .i64 pb] 152 (0,0))
 sz:a+2<=wx.heap.size
 lo:w.heap.size+1<a
theorem Rnd.below {w wx wy:World} {a:Nat} {i n b s li ln lb pl pb:Int} (r:Rnd w wx a i n b s li ln lb pl pb) (hb:Below wx.heap.size wx wy):Rnd w wy a i n b s li ln lb pl pb:=by
 have h1:=r.sz;have h2:=r.lo
 exact⟨r.f.below hb (by omega),r.g.below hb (by omega),r.h.trans (hb.mono (by omega)),(hb.block a (by omega)).trans r.l,(hb.block (a+1) (by omega)).trans r.o,by have:=hb.size;omega,h2⟩
theorem Rnd.set345 {w wx:World} {a:Nat} {i n b s li ln lb pl pb:Int} (r:Rnd w wx a i n b s li ln lb pl pb) (x y z:Int):
  Rnd w (((wx.setCell ⟨w.heap.size+1,3,none⟩ (.int .i64 x)).setCell ⟨w.heap.size+1,4,none⟩ (.int .i64 y)).setCell ⟨w.heap.size+1,5,none⟩ (.int .i64 z)) a x y z s li ln lb pl pb:=by
 have h1:=r.sz;have h2:=r.lo
 have ho:∀k,k≠w.heap.size+1->(((wx.setCell ⟨w.heap.size+1,3,none⟩ (.int .i64 x)).setCell ⟨w.heap.size+1,4,none⟩ (.int .i64 y)).setCell ⟨w.heap.size+1,5,none⟩ (.int .i64 z)).heap[k]? =wx.heap[k]?:=fun k hk=>by
  rw [heap_setCell_other _ _ _ _ hk,heap_setCell_other _ _ _ _ hk,heap_setCell_other _ _ _ _ hk]
 exact⟨r.f.set345 x y z,(ho _ (by omega)).trans r.g,((r.h.setCell (by simp) _).setCell (by simp) _).setCell (by simp) _,(ho _ (by omega)).trans r.l,(ho _ (by omega)).trans r.o,by simpa using h1,h2⟩
theorem cc3 {w:World} {b:Nat} {x y z:Int} {t:TypeId} (h:w.heap[b]? =some (.cells #[.int .i64 x,.int .i64 y,.int .i64 z] t (0,0))):w.cell? ⟨b,0,none⟩=some (.int .i64 x)∧w.cell? ⟨b,1,none⟩=some (.int .i64 y)∧w.cell? ⟨b,2,none⟩=some (.int .i64 z):=by
 refine⟨?_,?_,?_⟩<;>rw [cell_of_row w b _ _ _ _ h]<;>rfl
theorem measR (i n k:Int) (w:World):Calls Tryz.prog 199 #[cnt i n k] w fun e w'=>e= .returned (.int .i64 n)∧Below w.heap.size w w':=by
 unfold cnt;go_enter Tryz.func199,Tryz.ntmps199;go_wp2;go_ret;exact⟨rfl,(Below.refl _ _).alloc lR _⟩
theorem sumM_okR {T:AT} (h:T.ok):sumM (fun p=>p.len) (T.told 0)=T.rns:=by
 rw [JT,AT.rns_told]
theorem seekER (T:AT) (u:Option Addr) (bs:List Nat) (base:Nat) (k:Int) (w:World) (hT:Lies w base T u bs) (hok:T.ok) (hk:0<=k∧k<=8192):
  Calls Tryz.prog 198 #[.pointer u,.int .i64 k,.func (.func 199) #[] #[]] w fun e w'=>e= .returned (fndV (seekP (fun p=>p.len) T k).off (seekP (fun p=>p.len) T k).len (seekP (fun p=>p.len) T k).brk (seekT (fun p=>p.len) T k))∧Below w.heap.size w w':=by
 have HRES:=hide (ZB (fun p=>p.len) T k)
 generalize seekT (fun p=>p.len) T k=res at HRES |-
 generalize hpe:seekP (fun p=>p.len) T k=pe
 have HPE:=hide hpe.symm;clear hpe;have HT:=hide hT;have HOK:=hide hok;have bT:=hok.bd
 have hhT:(T.ht:Int)<=8192:=by have:=zi T;omega
 have HB0:=hide (((Below.refl w.heap.size w).alloc lR (.cells #[.int .i64 0,.int .i64 0,.int .i64 0,.int .i64 0,.int .i64 0,.int .i64 0,.int .i64 0,.int .i64 0] 315)).alloc (by simp) (.cells #[.int .i64 0,.int .i64 0,.int .i64 0,.int .i64 0,.int .i64 0,.int .i64 0,.int .i64 0,.int .i64 0] 315))
 have hF0:Fnd ((w.alloc (.cells #[.int .i64 0,.int .i64 0,.int .i64 0,.int .i64 0,.int .i64 0,.int .i64 0,.int .i64 0,.int .i64 0] 315)).alloc (.cells #[.int .i64 0,.int .i64 0,.int .i64 0,.int .i64 0,.int .i64 0,.int .i64 0,.int .i64 0,.int .i64 0] 315)) (w.heap.size+1) 0 0 0 0 0 0 0 0:=by
  have:=heap_alloc_new (w.alloc (.cells #[.int .i64 0,.int .i64 0,.int .i64 0,.int .i64 0,.int .i64 0,.int .i64 0,.int .i64 0,.int .i64 0] 315)) (.cells #[.int .i64 0,.int .i64 0,.int .i64 0,.int .i64 0,.int .i64 0,.int .i64 0,.int .i64 0,.int .i64 0] 315);simpa [Fnd]using this
 have hG0:Fnd ((w.alloc (.cells #[.int .i64 0,.int .i64 0,.int .i64 0,.int .i64 0,.int .i64 0,.int .i64 0,.int .i64 0,.int .i64 0] 315)).alloc (.cells #[.int .i64 0,.int .i64 0,.int .i64 0,.int .i64 0,.int .i64 0,.int .i64 0,.int .i64 0,.int .i64 0] 315)) w.heap.size 0 0 0 0 0 0 0 0:=by
  unfold Fnd;rw [Below.heap_alloc _ _ _ (by simp)];exact heap_alloc_new _ _
 have HF0:=hide hF0;have HG0:=hide hG0;clear hT hok hF0 hG0;go_enter Tryz.func198,Tryz.ntmps198;go_wp2_with fail;generalize (w.alloc (.cells #[.int .i64 0,.int .i64 0,.int .i64 0,.int .i64 0,.int .i64 0,.int .i64 0,.int .i64 0,.int .i64 0] 315)).alloc (.cells #[.int .i64 0,.int .i64 0,.int .i64 0,.int .i64 0,.int .i64 0,.int .i64 0,.int .i64 0,.int .i64 0] 315)=w0 at *
 go_loopg [0,1] T.ht (fun g pv kv wr=>∃ (S:AT) (us:Option Addr) (cs:List Nat) (kk:Int) (i:Nat) (n b s:Int),pv= .pointer us∧kv= .int .i64 kk∧g=S.ht∧Lies w base S us cs∧S.ok∧(0<=kk∧kk<=8192)∧
  ((i:Int)+S.its<=8192∧0<=n∧n+S.rns<=8192∧0<=b∧b+S.bks<=8192∧0<=s∧s+S.ht<=8192)∧Fnd wr (w.heap.size+1) 0 0 0 i n b 0 s∧Fnd wr w.heap.size 0 0 0 0 0 0 0 0∧Below w.heap.size w wr∧res=zr (fun p=>p.len) S kk i n b s∧Hid (pe=seekP (fun p=>p.len) S kk))
 case atStart=>exact⟨T,u,bs,k,0,0,0,0,rfl,rfl,rfl,HT.out,HOK.out,hk,by omega,HF0.out,HG0.out,HB0.out,HRES.out,HPE⟩
 obtain⟨S,us,cs,kk,i,n,b,s,rfl,rfl,rfl,hS,hSok,hkk,hbd,hF,hG,hbw,heq,hpe⟩:=hrel;clear HT HOK HRES HPE HB0 HF0 HG0 bT hhT;have hFl:=hF.lt;have hGl:=hG.lt
 cases S with
 | nil=>
  obtain⟨rfl,rfl⟩:=hS;rw [Za]at heq;have HEQ:=hide heq;have HF:=hide hF;have HG:=hide hG;have HBW:=hide hbw;obtain⟨p0,p1,p2,f0,f1,f2,f3,f4⟩:=hF.c;obtain⟨g0,g1,g2,g3,g4,g5,g6,g7⟩:=hG.c;have ff3:=hF.fz 6
  have hz:=fun j=>hG.fz j
  have z0:=hz 0;have z1:=hz 1;have z2:=hz 2;have z3:=hz 3;have z4:=hz 4;have z5:=hz 5;have z6:=hz 6;have z7:=hz 7;clear heq hF hG hbw hbd hz;go_wp2
  refine bodyPost_ret (v:=fndV 0 0 0 (i,n,b,kk,s)) (by simp [results,Tryz.results198,go_sem,g0,g1,g2,g3,g4,g5,g6,g7];rfl) rfl ⟨by rw [HEQ.out,hpe.out];rfl,?_⟩
  repeat (refine Below.setCell ?_ (by simp) _)
  exact HBW.out
 | node l p r=>
  obtain⟨nb,ul,ur,bl,br,rfl,hbase,hnd,hl,hr,rfl⟩:=hS;have bL:=hSok.left.bd;have bR:=hSok.right.bd;have bP:=hSok.piece;have hsl:=sumM_okR hSok.left
  have hht:((AT.node l p r).ht:Int)=1+max (l.ht:Int) r.ht:=by simp only [AT.ht];omega
  have hit:((AT.node l p r).its:Int)=l.its+1+r.its:=by simp only [AT.its];omega
  have hrn:(AT.node l p r).rns=l.rns+p.len+r.rns:=rfl;have hbk:(AT.node l p r).bks=l.bks+p.brk+r.bks:=rfl;rw [hht,hit,hrn,hbk]at hbd
  have hms:0<=l.rns∧l.rns<=8192∧0<=p.len∧p.len<=8192:=by omega
  have HTL:Hid (kk<sumM (fun p=>p.len) (l.told 0)↔kk<l.rns):=by rw [hsl];exact Iff.rfl
  have HSL:=hide hsl;have HEQ0:=hide heq;have HL:=hide hl;have HR:=hide hr;have HND:=hide hnd;have HOK:=hide hSok;have hltb:=hnd.lt;have HF1:=hide (hF.set7 (s+1))
  have HG1:=hide (show Fnd (wr.setCell ⟨w.heap.size+1,7,none⟩ (.int .i64 (s+1))) w.heap.size 0 0 0 0 0 0 0 0 from by unfold Fnd;rw [heap_setCell_other _ _ _ _ (by simp)];exact hG)
  have HB1:=hide (hbw.setCell (p:=⟨w.heap.size+1,7,none⟩) (by simp) (.int .i64 (s+1)))
  obtain⟨p0,p1,p2,f0,f1,f2,f3,f4⟩:=hF.c;have ff4:=hF.fz 7;have c3:=(hbw.cell (p:=⟨nb,3,none⟩) hltb).trans hnd.c3;have c3':(wr.setCell ⟨w.heap.size+1,7,none⟩ (.int .i64 (s+1))).cell? ⟨nb,3,none⟩=some (.pointer ul):=(HB1.out.cell (p:=⟨nb,3,none⟩) hltb).trans hnd.c3;clear heq hF hG hbw hl hr hnd hSok hsl hht hit hrn hbk;go_wp2_with fail;generalize wr.setCell ⟨w.heap.size+1,7,none⟩ (.int .i64 (s+1))=w1 at *;have hlw1:=HF1.out.lt;refine(allN l ul bl base w1 (HL.out.below HB1.out lR)).mono ?_;rintro e w2 ⟨rfl,hb2⟩
  have HF2:=hide (HF1.out.below hb2 (by omega))
  have HG2:=hide (HG1.out.below hb2 (by omega))
  have HB2:=hide (HB1.out.trans (hb2.mono (by omega)))
  clear hb2 HF1 HG1 HB1 c3' c3 p0 p1 p2 f0 f1 f2 f3 f4 ff4;have hlw2:=HF2.out.lt;go_wp2_with fail;refine(ownN p nb ul ur _ _ _ _ w2 ((HB2.out.block nb hltb).trans HND.out)).mono ?_;rintro e w3 ⟨rfl,hb3⟩;have hlw3:=hb3.size
  have HF3:=hide ((HF2.out.below hb3 (by omega)).below (((Below.refl w3.heap.size w3).alloc lR (.cells #[.int .i64 l.its,.int .i64 l.rns,.int .i64 l.bks] 152)).alloc (by simp) (.cells #[.int .i64 1,.int .i64 p.len,.int .i64 p.brk] 152)) (by omega))
  have HG3:=hide ((HG2.out.below hb3 (by omega)).below (((Below.refl w3.heap.size w3).alloc lR (.cells #[.int .i64 l.its,.int .i64 l.rns,.int .i64 l.bks] 152)).alloc (by simp) (.cells #[.int .i64 1,.int .i64 p.len,.int .i64 p.brk] 152)) (by omega))
  have HB3:=hide ((((HB2.out.trans (hb3.mono (by omega)))).alloc (by omega) (.cells #[.int .i64 l.its,.int .i64 l.rns,.int .i64 l.bks] 152)).alloc (by simp;omega) (.cells #[.int .i64 1,.int .i64 p.len,.int .i64 p.brk] 152))
  clear hb3 HF2 HG2 HB2
  have hA:((w3.alloc (.cells #[.int .i64 l.its,.int .i64 l.rns,.int .i64 l.bks] 152)).alloc (.cells #[.int .i64 1,.int .i64 p.len,.int .i64 p.brk] 152)).heap[w3.heap.size]? =some (.cells #[.int .i64 l.its,.int .i64 l.rns,.int .i64 l.bks] 152 (0,0)):=by
   rw [Below.heap_alloc _ _ _ (by simp)];exact heap_alloc_new _ _
  have hO:((w3.alloc (.cells #[.int .i64 l.its,.int .i64 l.rns,.int .i64 l.bks] 152)).alloc (.cells #[.int .i64 1,.int .i64 p.len,.int .i64 p.brk] 152)).heap[w3.heap.size+1]? =some (.cells #[.int .i64 1,.int .i64 p.len,.int .i64 p.brk] 152 (0,0)):=by
   have:=heap_alloc_new (w3.alloc (.cells #[.int .i64 l.its,.int .i64 l.rns,.int .i64 l.bks] 152)) (.cells #[.int .i64 1,.int .i64 p.len,.int .i64 p.brk] 152);simpa using this
  have hs4:((w3.alloc (.cells #[.int .i64 l.its,.int .i64 l.rns,.int .i64 l.bks] 152)).alloc (.cells #[.int .i64 1,.int .i64 p.len,.int .i64 p.brk] 152)).heap.size=w3.heap.size+2:=by simp
  have RN4:=hide (Rnd.mk HF3.out HG3.out HB3.out hA hO (by omega) (by omega))
  clear hA hO hs4 HF3 HG3 HB3;unfold cnt;go_wp2_with fail;generalize (w3.alloc (.cells #[.int .i64 l.its,.int .i64 l.rns,.int .i64 l.bks] 152)).alloc (.cells #[.int .i64 1,.int .i64 p.len,.int .i64 p.brk] 152)=w4 at *;generalize w3.heap.size=a at *;have ha:=RN4.out.lo;refine(measR _ _ _ w4).mono ?_;rintro e w5 ⟨rfl,hb5⟩;have RN5:=hide (RN4.out.below hb5);clear hb5 RN4;have c3:=(RN5.out.h.cell (p:=⟨nb,3,none⟩) hltb).trans HND.out.c3;have sz5:=RN5.out.sz
  by_cases hlt:kk<l.rns
  ·have HEQ:=hide (HEQ0.out.trans (ZC _ _ _ _ _ _ _ _ _ (HTL.out.2 hlt)))
   have HPL:Hid (pe=seekP (fun p=>p.len) l kk):=hide (hpe.out.trans (by simp only [seekP];rw [if_pos (HTL.out.2 hlt)]))
   clear HEQ0 HTL hpe;go_wp2;go_roundg l.ht
   case measure=>simp only [AT.ht];omega
   exact⟨l,ul,bl,kk,i,n,b,s+1,rfl,rfl,rfl,HL.out,HOK.out.left,hkk,by omega,RN5.out.f,RN5.out.g,RN5.out.h,HEQ.out,HPL⟩
  have hnl:=fun h=>hlt (HTL.out.1 h)
  obtain⟨l0,l1,l2⟩:=cc3 RN5.out.l;go_wp2_with fail;refine(measR _ _ _ w5).mono ?_;rintro e w6 ⟨rfl,hb6⟩;have RN6:=hide (RN5.out.below hb6);clear hb6 RN5 c3 l0 l1 l2;obtain⟨l0,l1,l2⟩:=cc3 RN6.out.l;obtain⟨p0,p1,p2,f0,f1,f2,f3,f4⟩:=RN6.out.f.c;have sz6:=RN6.out.sz;go_wp2_with fail
  refine(plusN _ _ _ _ _ _ w6 (by omega) (by omega) (by omega) (by omega) (by omega) (by omega)).mono ?_
  rintro e w7 ⟨rfl,hb7⟩;have RN7:=hide (RN6.out.below hb7);clear hb7 RN6 l0 l1 l2 p0 p1 p2 f0 f1 f2 f3 f4;obtain⟨p0,p1,p2,f0,f1,f2,f3,f4⟩:=RN7.out.f.c;have ff0:=RN7.out.f.fz 3;have ff1:=RN7.out.f.fz 4;have ff2:=RN7.out.f.fz 5;have RN8:=hide (RN7.out.set345 (i+l.its) (n+l.rns) (b+l.bks));have sz7:=RN7.out.sz;obtain⟨o0,o1,o2⟩:=cc3 RN8.out.o;unfold cnt;go_wp2_with fail;generalize ((w7.setCell ⟨w.heap.size+1,3,none⟩ (.int .i64 (i+l.its))).setCell ⟨w.heap.size+1,4,none⟩ (.int .i64 (n+l.rns))).setCell ⟨w.heap.size+1,5,none⟩ (.int .i64 (b+l.bks))=w8 at *;clear RN7 p0 p1 p2 f0 f1 f2 f3 f4 ff0 ff1 ff2;refine(measR _ _ _ w8).mono ?_;rintro e w9 ⟨rfl,hb9⟩;have RN9:=hide (RN8.out.below hb9);clear hb9 RN8 o0 o1 o2;have sz9:=RN9.out.sz
  by_cases hin:kk - l.rns<p.len
  ·have HEQ:=hide (HEQ0.out.trans (ZD _ _ _ _ _ _ _ _ _ hnl (by rw [HSL.out];exact hin)))
   have HPH:Hid (pe=p):=hide (hpe.out.trans (by simp only [seekP];rw [if_neg hnl,if_pos (by rw [HSL.out];exact hin)]))
   rw [HSL.out]at HEQ;clear HEQ0 HTL HSL hnl hpe;obtain⟨p0,p1,p2,f0,f1,f2,f3,f4⟩:=RN9.out.f.c;obtain⟨g0,g1,g2,g3,g4,g5,g6,g7⟩:=RN9.out.g.c;have ff3:=RN9.out.f.fz 6;have z0:=RN9.out.g.fz 0;have z1:=RN9.out.g.fz 1;have z2:=RN9.out.g.fz 2;have z3:=RN9.out.g.fz 3;have z4:=RN9.out.g.fz 4;have z5:=RN9.out.g.fz 5;have z6:=RN9.out.g.fz 6;have z7:=RN9.out.g.fz 7;have e0:=RN9.out.f.fz 0;have e1:=RN9.out.f.fz 1;have e2:=RN9.out.f.fz 2;have d0:=(RN9.out.h.cell (p:=⟨nb,0,none⟩) hltb).trans HND.out.c0;have d1:=(RN9.out.h.cell (p:=⟨nb,1,none⟩) hltb).trans HND.out.c1;have d2:=(RN9.out.h.cell (p:=⟨nb,2,none⟩) hltb).trans HND.out.c2
   have hnb1:nb≠w.heap.size+1:=by omega
   have hnb0:nb≠w.heap.size:=by omega
   go_wp2
   refine bodyPost_ret (v:=fndV p.off p.len p.brk (i+l.its,n+l.rns,b+l.bks,kk - l.rns,s+1)) (by simp [results,Tryz.results198,go_sem,g0,g1,g2,g3,g4,g5,g6,g7];rfl) rfl ⟨by rw [HEQ.out,HPH.out],?_⟩
   repeat (refine Below.setCell ?_ (by simp) _)
   exact RN9.out.h
  have HEQ:=hide (HEQ0.out.trans (jc _ _ _ _ _ _ _ _ _ hnl (by rw [HSL.out];exact hin)))
  have HPR:Hid (pe=seekP (fun p=>p.len) r (kk - l.rns - p.len)):=hide (hpe.out.trans (by simp only [seekP];rw [if_neg hnl,if_neg (by rw [HSL.out];exact hin),HSL.out]))
  rw [HSL.out]at HEQ;clear HEQ0 HTL HSL hnl hpe;obtain⟨o0,o1,o2⟩:=cc3 RN9.out.o;go_wp2_with fail;refine(measR _ _ _ w9).mono ?_;rintro e w10 ⟨rfl,hb10⟩;have RN10:=hide (RN9.out.below hb10);clear hb10 RN9 o0 o1 o2;obtain⟨o0,o1,o2⟩:=cc3 RN10.out.o;obtain⟨p0,p1,p2,f0,f1,f2,f3,f4⟩:=RN10.out.f.c;have sz10:=RN10.out.sz;go_wp2_with fail
  refine(plusN _ _ _ _ _ _ w10 (by omega) (by omega) (by omega) (by omega) (by omega) (by omega)).mono ?_
  rintro e w11 ⟨rfl,hb11⟩;have RN11:=hide (RN10.out.below hb11);clear hb11 RN10 o0 o1 o2 p0 p1 p2 f0 f1 f2 f3 f4;obtain⟨p0,p1,p2,f0,f1,f2,f3,f4⟩:=RN11.out.f.c;have ff0:=RN11.out.f.fz 3;have ff1:=RN11.out.f.fz 4;have ff2:=RN11.out.f.fz 5;have RN12:=hide (RN11.out.set345 (i+l.its+1) (n+l.rns+p.len) (b+l.bks+p.brk));have sz11:=RN11.out.sz;have c4:=(RN12.out.h.cell (p:=⟨nb,4,none⟩) hltb).trans HND.out.c4;unfold cnt;go_wp2;go_roundg r.ht
  case measure=>simp only [AT.ht];omega
  exact⟨r,ur,br,kk - l.rns - p.len,i+l.its+1,n+l.rns+p.len,b+l.bks+p.brk,s+1,rfl,rfl,rfl,HR.out,HOK.out.right,by omega,by omega,RN12.out.f,RN12.out.g,RN12.out.h,HEQ.out,HPR⟩
end Go.Proofs.YtibbhecojkehfaaGreatDoor
namespace Go.Proofs.YtibbhecojkehfaaGreatDoor
open Go Go.RowKit Go.Shelf
attribute [local go_sem] Oper.semAt_some
theorem Yr {F:Fence} (hd:F.depth=none) (k:Nat):F.room k:=fun d h=>by rw [hd]at h;cases h
theorem JX {F:Fence} (hd:F.depth=none) {m m':Nat} {P:Program} {l:Nat} {f:FuncId} {tmps:Array Value} {assign body:Code} {w:World} {R:Ending->World->Prop}
  (h:RoundIn F m P l f tmps assign body w R):RoundIn F m' P l f tmps assign body w R:=⟨h.1,fun c cs _=>h.2 c cs (Yr hd _)⟩
theorem Zb {F:Fence} (hd:F.depth=none) {m:Nat} (m':Nat) {P:Program} {l:Nat} {args:Array Value} {W:World} {R:Ending->World->Prop} (h:YieldAt F m P l args W R):YieldAt F m' P l args W R:=by
 obtain⟨fn,tmps,assign,body,hy,hR⟩:=h;exact⟨fn,tmps,assign,body,hy,JX hd hR⟩
def IsT (n₀:Nat) (W:World) (p:Option Addr) (T:AT):Prop:=∃base bs,Lies W base T p bs∧∀x∈bs,x<n₀
theorem IsT.below {n₀:Nat} {A B:World} {p:Option Addr} {T:AT} (h:IsT n₀ A p T) (hb:Below n₀ A B):IsT n₀ B p T:=by
 obtain⟨base,bs,h1,h2⟩:=h
 exact⟨base,bs,h1.frame fun b hbs=>hb.block b (h2 b hbs),h2⟩
theorem IsT.parts {n₀:Nat} {W:World} {p:Option Addr} {l:AT} {q:Pc} {r:AT} (h:IsT n₀ W p (.node l q r)):∃b pl pr,p=some ⟨b,0,none⟩∧b<n₀∧W.cell? ⟨b,0,none⟩=some (.int .i64 q.off)∧W.cell? ⟨b,1,none⟩=some (.int .i64 q.len)∧W.cell? ⟨b,2,none⟩=some (.int .i64 q.brk)∧
  W.cell? ⟨b,3,none⟩=some (.pointer pl)∧W.cell? ⟨b,4,none⟩=some (.pointer pr)∧IsT n₀ W pl l∧IsT n₀ W pr r:=by
 obtain⟨base,bs,⟨b,ul,ur,bl,br,rfl,hb,hn,hl,hr,rfl⟩,h2⟩:=h
 exact⟨b,ul,ur,rfl,h2 b (by simp),hn.c0,hn.c1,hn.c2,hn.c3,hn.c4,⟨base,bl,hl,fun x hx=>h2 x (by simp [hx])⟩,⟨base,br,hr,fun x hx=>h2 x (by simp [hx])⟩⟩
theorem walk_in (F:Fence) (hd:F.depth=none) (h6:F.fn 69) (hro:F.round=none) (l n₀ N:Nat) (J Jx:List It->World->Prop)
  (hY:∀m pre (x:It) W,J pre W->pre.length<N->YieldAt F m Tryz.prog l #[.int .i64 x.lv,.agg #[.int .i64 x.pc.off,.int .i64 x.pc.len,.int .i64 x.pc.brk]] W fun e W'=>
   (e= .returned (.bool true)∧J (pre++ [x]) W'∧Below n₀ W W')∨(e= .returned (.bool false)∧Jx (pre++ [x]) W')) (T:AT):
  ∀ (n:Nat) (p:Option Addr) (lv:Int) (pre:List It) (W:World),IsT n₀ W p T->0<=lv->lv+T.ht<=1048576->J pre W->pre.length+T.its<=N->
   CallsIn F n Tryz.prog 69 #[.pointer p,.int .i64 lv,.func (.yield l) #[] #[]] W fun e W'=>
    (e= .returned (.bool true)∧J (pre++T.told lv) W'∧Below n₀ W W')∨(e= .returned (.bool false)∧∃q,q<+:T.told lv∧Jx (pre++q) W'):=by
 induction T with
 | nil=>
  intro n p lv pre W ht h0 h1 hJ _;obtain⟨base,bs,⟨rfl,rfl⟩,_⟩:=ht;refine callsIn_of_wp Tryz.func69 rfl h6 ?_ hro;simp only [Tryz.ntmps69,List.size_toArray,List.length_cons,List.length_nil,Nat.reduceAdd,Nat.reduceSub,Array.replicate_succ,Array.replicate_zero,List.push_toArray,List.append_toArray,List.nil_append,List.cons_append];have hU:undef=Value.tuple #[]:=rfl
  gi_wp2_with fail
  go_ret
  exact .inl ⟨rfl,by simpa [AT.told]using hJ,Below.refl _ _⟩
 | node tl v tr ihl ihr=>
  intro n p lv pre W ht h0 h1 hJ hN;obtain⟨b,pl,pr,rfl,hb,c0,c1,c2,c3,c4,hl,hr⟩:=ht.parts
  have hdd:∀k:Nat,(F.depth.isSome=true->1<=k):=fun k h=>by rw [hd]at h;cases h
  have hht:((AT.node tl v tr).ht:Int)=1+max (tl.ht:Int) tr.ht:=by simp only [AT.ht];omega
  have hll:(tl.told (lv+1)).length=tl.its:=AT.told_length _ _;rw [hht]at h1;simp only [AT.its]at hN;have hU:undef=Value.tuple #[]:=rfl
  have HTD:=hide (show(AT.node tl v tr).told lv=tl.told (lv+1)++⟨v,lv⟩::tr.told (lv+1)from rfl)
  generalize (AT.node tl v tr).told lv=TD at HTD |-
  have hy2:∀W1,J (pre++tl.told (lv+1)) W1->Below n₀ W W1->YieldAt F (n - 1) Tryz.prog l #[.int .i64 lv,.agg #[.int .i64 v.off,.int .i64 v.len,.int .i64 v.brk]] W1 fun e W2=>
    (e= .returned (.bool true)∧J (pre++tl.told (lv+1)++ [⟨v,lv⟩]) W2∧Below n₀ W W2∧W2.cell? ⟨b,4,none⟩=some (.pointer pr)∧IsT n₀ W2 pr tr)∨(e= .returned (.bool false)∧Jx (pre++tl.told (lv+1)++ [⟨v,lv⟩]) W2):=fun W1 hJ1 hb1=>
   YieldAt.mono (hY (n - 1) _ ⟨v,lv⟩ W1 hJ1 (by simp [hll];omega)) fun e W2 h=>h.elim
    (fun⟨he,hj,hb2⟩=>.inl ⟨he,hj,hb1.trans hb2,((hb1.trans hb2).cell (p:=⟨b,4,none⟩) hb).trans c4,hr.below (hb1.trans hb2)⟩) .inr
  have ih1:=(ihl (n - 1) pl (lv+1) pre W hl (by omega) (by omega) hJ (by omega)).mono (R':=fun e W1=>
    (e= .returned (.bool true)∧W1.cell? ⟨b,0,none⟩=some (.int .i64 v.off)∧W1.cell? ⟨b,1,none⟩=some (.int .i64 v.len)∧W1.cell? ⟨b,2,none⟩=some (.int .i64 v.brk)∧YieldAt F (n - 1) Tryz.prog l #[.int .i64 lv,.agg #[.int .i64 v.off,.int .i64 v.len,.int .i64 v.brk]] W1 fun e W2=>
     (e= .returned (.bool true)∧J (pre++tl.told (lv+1)++ [⟨v,lv⟩]) W2∧Below n₀ W W2∧W2.cell? ⟨b,4,none⟩=some (.pointer pr)∧IsT n₀ W2 pr tr)∨(e= .returned (.bool false)∧Jx (pre++tl.told (lv+1)++ [⟨v,lv⟩]) W2))∨
    (e= .returned (.bool false)∧∃q,q<+:tl.told (lv+1)∧Jx (pre++q) W1))
   (fun e W1 h=>h.elim (fun⟨he,hj,hb1⟩=>.inl ⟨he,(hb1.cell (p:=⟨b,0,none⟩) hb).trans c0,(hb1.cell (p:=⟨b,1,none⟩) hb).trans c1,(hb1.cell (p:=⟨b,2,none⟩) hb).trans c2,hy2 W1 hj hb1⟩) .inr)
  clear hy2 ihl;refine callsIn_of_wp Tryz.func69 rfl h6 ?_ hro;simp only [Tryz.ntmps69,List.size_toArray,List.length_cons,List.length_nil,Nat.reduceAdd,Nat.reduceSub,Array.replicate_succ,Array.replicate_zero,List.push_toArray,List.append_toArray,List.nil_append,List.cons_append]
  gi_wp2_with (first
   | ((try refine⟨hdd _,?_⟩);gi_at_call 69;refine ih1.mono ?_;clear ih1;rintro e W1 (⟨rfl,c0',c1',c2',fn,tmps,assign,body,hy,hR⟩ | ⟨rfl,q,hq,hx1⟩))
   | ((try refine⟨hdd _,?_⟩);refine hR.mono ?_;clear hR;rintro e W2 (⟨rfl,hJ2,hb2,c4',hr2⟩ | ⟨rfl,hx2⟩))
   | ((try refine⟨hdd _,?_⟩);gi_at_call 69;refine(ihr (n - 1) pr (lv+1) _ _ hr2 (by omega) (by omega) hJ2 (by simp [hll];omega)).mono ?_;rintro e W3 (⟨rfl,hJ3,hb3⟩ | ⟨rfl,q,hq,hx3⟩)))
  ·go_ret
   exact .inl ⟨rfl,by rw [HTD.out];simpa [List.append_assoc]using hJ3,hb2.trans hb3⟩
  ·go_ret
   obtain⟨r,hr'⟩:=hq
   exact .inr ⟨rfl,tl.told (lv+1)++⟨v,lv⟩::q,⟨r,by rw [HTD.out];simp [<- hr']⟩,by simpa [List.append_assoc]using hx3⟩
  ·go_ret
   exact .inr ⟨rfl,tl.told (lv+1)++ [⟨v,lv⟩],⟨tr.told (lv+1),by rw [HTD.out];simp⟩,by simpa [List.append_assoc]using hx2⟩
  go_ret
  exact .inr ⟨rfl,q,hq.trans (by rw [HTD.out];simp),hx1⟩
theorem all1_in (F:Fence) (hd:F.depth=none) (n:Nat) (h5:F.fn 68) (h6:F.fn 69) (hro:F.round=none) (l Bt Bl n₀:Nat) (p0:Option Addr) (T:AT) (hht:(T.ht:Int)<=1048576) (J Jx:List It->World->Prop)
  (hY:∀pre (x:It) W,J pre W->pre.length<T.its->YieldAt F (n - 1) Tryz.prog l #[.int .i64 x.lv,.agg #[.int .i64 x.pc.off,.int .i64 x.pc.len,.int .i64 x.pc.brk]] W fun e W'=>
   (e= .returned (.bool true)∧J (pre++ [x]) W'∧Below n₀ W W')∨(e= .returned (.bool false)∧Jx (pre++ [x]) W'))
  (W:World) (hBt:W.cell? ⟨Bt,0,none⟩=some (.pointer p0)) (hBl:W.cell? ⟨Bl,0,none⟩=some (.int .i64 0)) (hT:IsT n₀ W p0 T) (h0:J [] W):
  CallsIn F n Tryz.prog 68 #[.func (.yield l) #[] #[],.pointer (some ⟨Bt,0,none⟩),.pointer (some ⟨Bl,0,none⟩)] W fun e W'=>(∃v,e= .returned v)∧
   ((∃ys,ys=T.told 0∧J ys W')∨(∃pre,pre<+:T.told 0∧Jx pre W')):=by
 have hdd:∀k:Nat,(F.depth.isSome=true->1<=k):=fun k h=>by rw [hd]at h;cases h
 have hp:=walk_in F hd h6 hro l n₀ T.its J Jx (fun m pre x W hj hl=>Zb hd m (hY pre x W hj hl)) T (n - 1) p0 0 [] W hT (by omega) (by omega) h0 (by simp)
 refine callsIn_of_wp Tryz.func68 rfl h5 ?_ hro;simp only [Tryz.ntmps68,List.size_toArray,List.length_cons,List.length_nil,Nat.reduceAdd,Nat.reduceSub,Array.replicate_succ,Array.replicate_zero,List.push_toArray,List.append_toArray,List.nil_append,List.cons_append]
 gi_wp2_with ((try refine⟨hdd _,?_⟩);gi_at_call 69;refine hp.mono ?_;clear hp;rintro e W1 (⟨rfl,hJ1,_⟩ | ⟨rfl,q,hq,hx⟩))
 ·go_end0
  exact⟨⟨_,rfl⟩,.inl ⟨_,rfl,by simpa using hJ1⟩⟩
 go_end0
 exact⟨⟨_,rfl⟩,.inr ⟨q,hq,by simpa using hx⟩⟩
theorem all_in (F:Fence) (n:Nat) (h4:F.fn 54) (hro:F.round=none) (p0:Option Addr) (w:World):
  CallsIn F n Tryz.prog 54 #[.pointer p0,.int .i64 0] w fun e w'=>e= .returned (.func (.func 68) #[] #[.pointer (some ⟨w.heap.size,0,none⟩),.pointer (some ⟨w.heap.size+1,0,none⟩)])∧w'=(w.alloc (.cells #[.pointer p0] 84)).alloc (.cells #[.int .i64 0] 3):=by
 refine callsIn_of_wp Tryz.func54 rfl h4 ?_ hro;simp only [Tryz.ntmps54,List.size_toArray,List.length_cons,List.length_nil,Nat.reduceAdd,Nat.reduceSub,Array.replicate_succ,Array.replicate_zero,List.push_toArray,List.append_toArray,List.nil_append,List.cons_append]
 gi_wp2
 go_ret;exact⟨rfl,rfl⟩
theorem Ku (F:Fence) (hd:F.depth=none) (n:Nat) (h5:F.fn 68) (h6:F.fn 69) (hro:F.round=none) (Bt Bl n₀:Nat) (p0:Option Addr) (T:AT) (hht:(T.ht:Int)<=1048576) (w:World) (hBt:Bt<w.heap.size) (hBl:Bl<w.heap.size) (hn₀:n₀<=w.heap.size)
  (hc:w.cell? ⟨Bt,0,none⟩=some (.pointer p0)) (hc2:w.cell? ⟨Bl,0,none⟩=some (.int .i64 0)) (hT:IsT n₀ w p0 T):
  SeqStopsK F n Tryz.prog 68 #[.pointer (some ⟨Bt,0,none⟩),.pointer (some ⟨Bl,0,none⟩)] (fun x:It=>#[Value.int .i64 x.lv,.agg #[.int .i64 x.pc.off,.int .i64 x.pc.len,.int .i64 x.pc.brk]]) (Below n₀) (fun ys=>ys=T.told 0) (fun pre=>pre<+:T.told 0) T.its w:=fun l J Jx W hW _ _ hY h0=>
 all1_in F hd n h5 h6 hro l Bt Bl n₀ p0 T hht J Jx hY W ((hW.cell (p:=⟨Bt,0,none⟩) hBt).trans hc) ((hW.cell (p:=⟨Bl,0,none⟩) hBl).trans hc2) (hT.below (hW.mono hn₀)) h0
attribute [local go_sem] Oper.semAt_some
end Go.Proofs.YtibbhecojkehfaaGreatDoor
namespace Go.Proofs.YtibbhecojkehfaaGreatDoor
open Go Go.RowKit
theorem XK (zs:List Int) (v:Value) (w:World) (h:Rd .i32 w v zs) (hn:zs.length<=1099511627776):
  Calls Tryz.prog 46 #[v] w fun e w'=>e= .returned (.int .i64 (brk zs))∧w'=w:=by
 rcases h with ⟨ao,cap,rfl,rfl⟩ | ⟨b,off,cap,rfl,hp,hc⟩
 ·go_enter Tryz.func46,Tryz.ntmps46
  go_wp2;refine wp_loop_rounds 1 ?_;rw [rounds_succ];go_wp2;go_ret;exact⟨rfl,rfl⟩
 have HC:=hide hc;clear hc hp;go_enter Tryz.func46,Tryz.ntmps46;go_wp2
 go_loop [3,8] (fun n i=>∃k:Nat,k<=zs.length∧i= .int .i64 k∧n= .int .i64 (brk (zs.take k))) (fun _ i=>zs.length - (intOf i).toNat)
 case atStart=>exact⟨0,Nat.zero_le _,rfl,rfl⟩
 obtain⟨k,hk,rfl,rfl⟩:=hrel;have hbd:=brk_bd (zs.take k);have hle:(zs.take k).length<=k:=List.length_take_le _ _
 by_cases hlt:k<zs.length
 ·have hx:=HC.out k hlt
  have hsn:=brk_snoc zs k hlt;generalize zs.getD k 0=z at hx hsn
  by_cases hz:z=10
  ·rw [if_pos hz]at hsn
   subst hz;have HS:=hide hsn;clear hsn;go_wp2;go_round
   case rel=>exact⟨k+1,by omega,by go_num,by rw [HS.out]⟩
   simp [intOf];omega
  rw [if_neg hz]at hsn
  have hz':(z==10)=false:=by simp [hz]
  have HS:=hide hsn;clear hsn hz;go_wp2;go_round
  case rel=>exact⟨k+1,by omega,by go_num,by rw [HS.out,Int.add_zero]⟩
  simp [intOf];omega
 obtain rfl:k=zs.length:=by omega
 go_wp2;go_ret;exact⟨rfl,rfl⟩
theorem Y7 (B:Nat) (w:World) (n:Nat):Below B w (w.drewN n):=by
 induction n generalizing w with
 | zero=>exact Below.refl _ _
 | succ n ih=>exact⟨(ih w.drew).os,(ih w.drew).tape,(ih w.drew).output,(ih w.drew).size,(ih w.drew).block⟩
theorem rd_cut {w:World} {b o cap:Nat} {zs:List Int} (hc:∀i,i<zs.length->w.cell? ⟨b,o+i,none⟩=some (.int .i32 (zs.getD i 0))) (k l:Nat) (hkl:k+l<=zs.length) (h0:0<l) (hcap:zs.length<=cap) (hm:cap<=maxLen):
  Rd .i32 w (.slice (some ⟨b,o+k,none⟩) l (cap - k)) ((zs.drop k).take l):=by
 have hl:((zs.drop k).take l).length=l:=by rw [List.length_take,List.length_drop];omega
 refine .inr ⟨b,o+k,cap - k,by rw [hl],⟨by omega,by omega,by omega⟩,fun i hi=>?_⟩
 rw [hl]at hi
 rw [show o+k+i=o+(k+i)by omega,hc (k+i) (by omega)]
 congr 2
 simp only [List.getD_eq_getElem?_getD,List.getElem?_take,List.getElem?_drop];rw [if_pos hi]
theorem Xz (ao:Option Addr) (n cap:Nat) (w:World) (hn:n<=cap) (hm:cap<=maxLen):
  Calls Tryz.prog 25 #[.slice ao n cap] w fun e w'=>e= .returned (.slice ao n n)∧w'=w:=by
 have g1:(n:Int)<=(cap:Int):=by omega
 go_enter Tryz.func25,Tryz.ntmps25;go_wp2;go_ret;exact⟨rfl,rfl⟩
theorem ZE (zs:List Int) (c b o cap k l:Nat) (w:World) (hc:∀i,i<zs.length->w.cell? ⟨b,o+i,none⟩=some (.int .i32 (zs.getD i 0))) (hs:w.cell? ⟨c,0,none⟩=some (.slice (some ⟨b,o,none⟩) zs.length cap)) (hb:b<w.heap.size) (hcw:c<w.heap.size) (hkl:k+l<=zs.length) (h0:0<l) (hcap:zs.length<=cap) (hm:cap<=maxLen) (hn:zs.length<=1048576):
  Calls Tryz.prog 26 #[.pointer (some ⟨c,0,none⟩),.int .i64 (k:Int),.int .i64 (l:Int)] w fun e w'=>e= .returned (.agg #[.int .i64 (k:Int),.int .i64 (l:Int),.int .i64 (brk ((zs.drop k).take l))])∧Below w.heap.size w w':=by
 have B0:=hide ((Below.refl w.heap.size w).alloc lR (.cells #[.int .i64 0,.int .i64 0,.int .i64 0] 89))
 have HB:=hide (XK ((zs.drop k).take l) _ (w.alloc (.cells #[.int .i64 0,.int .i64 0,.int .i64 0] 89)) (rd_cut (fun i hi=>(B0.out.cell (p:=⟨b,o+i,none⟩) hb).trans (hc i hi)) k l hkl h0 hcap hm) (by rw [List.length_take,List.length_drop];omega))
 have hs0:=(B0.out.cell (p:=⟨c,0,none⟩) hcw).trans hs;have K0:(w.alloc (.cells #[.int .i64 0,.int .i64 0,.int .i64 0] 89)).heap[w.heap.size]? =some (.cells #[.int .i64 0,.int .i64 0,.int .i64 0] 89 (0,0)):=heap_alloc_new _ _;have HK:=hide K0;generalize brk ((zs.drop k).take l)=br at *;generalize zs.length=n at *;unfold maxLen at hm
 have g1:(k:Int)<=(k:Int)+(l:Int):=by omega
 have g2:(k:Int)+(l:Int)<=(cap:Int):=by omega
 have g4:(0:Int)<=(k:Int)+(l:Int):=by omega
 have g3:¬cap=k:=by omega
 clear hc K0;go_enter Tryz.func26,Tryz.ntmps26;go_wp2_with fail;generalize w.alloc (.cells #[.int .i64 0,.int .i64 0,.int .i64 0] 89)=w0 at *;refine HB.out.mono ?_;rintro e w1 ⟨rfl,hw1⟩;have hw2:=hw1.symm;subst hw2
 have c0:w0.cell? ⟨w.heap.size,0,none⟩=some (.int .i64 0):=by rw [cell_of_row w0 _ 0 _ _ _ HK.out];rfl
 have c1:w0.cell? ⟨w.heap.size,1,none⟩=some (.int .i64 0):=by rw [cell_of_row w0 _ 1 _ _ _ HK.out];rfl
 have c2:w0.cell? ⟨w.heap.size,2,none⟩=some (.int .i64 0):=by rw [cell_of_row w0 _ 2 _ _ _ HK.out];rfl
 have f0:=frozen_of_row w0 w.heap.size 0 _ _ HK.out;have f1:=frozen_of_row w0 w.heap.size 1 _ _ HK.out;have f2:=frozen_of_row w0 w.heap.size 2 _ _ HK.out;go_wp2
 refine bodyPost_ret (v:=.agg #[.int .i64 (k:Int),.int .i64 (l:Int),.int .i64 br]) (by simp [results,Tryz.results26,go_sem,c0,c1,c2]) rfl ⟨rfl,?_⟩
 exact((B0.out.setCell (by simp) _).setCell (by simp) _).setCell (by simp) _
end Go.Proofs.YtibbhecojkehfaaGreatDoor
namespace Go.Proofs.YtibbhecojkehfaaGreatDoor
open Go Go.RowKit Go.Shelf Go.Sort
attribute [local go_sem] Oper.semAt_some
def PK (w:World) (c b o n cap:Nat) (u:Option Addr):Prop:=w.heap[c]? =some (.cells #[.slice (some ⟨b,o,none⟩) n cap,.pointer u] 86 (0,0))
theorem PK.below {B:Nat} {w w':World} {c b o n cap:Nat} {u:Option Addr} (h:PK w c b o n cap u) (hb:Below B w w') (hB:c<B):PK w' c b o n cap u:=(hb.block c hB).trans h
theorem PK.lt {w:World} {c b o n cap:Nat} {u:Option Addr} (h:PK w c b o n cap u):c<w.heap.size:=(Array.getElem?_eq_some_iff.1 h).1
theorem PK.c0 {w:World} {c b o n cap:Nat} {u:Option Addr} (h:PK w c b o n cap u):w.cell? ⟨c,0,none⟩=some (.slice (some ⟨b,o,none⟩) n cap):=by rw [cell_of_row w _ 0 _ _ _ h];rfl
theorem PK.c1 {w:World} {c b o n cap:Nat} {u:Option Addr} (h:PK w c b o n cap u):w.cell? ⟨c,1,none⟩=some (.pointer u):=by rw [cell_of_row w _ 1 _ _ _ h];rfl
def At32' (w:World) (b o:Nat) (zs:List Int):Prop:=∀i,i<zs.length->w.cell? ⟨b,o+i,none⟩=some (.int .i32 (zs.getD i 0))
theorem KeepsOthers.of_below {W W':World} (hb:Below W.heap.size W W'):KeepsOthers W W':=⟨hb.size,fun k o hk _=>(hb.block k (Array.getElem?_eq_some_iff.1 hk).1).trans hk⟩
end Go.Proofs.YtibbhecojkehfaaGreatDoor
namespace Go.Proofs.YtibbhecojkehfaaGreatDoor
open Go Go.Sort Go.RowKit
theorem yg {n:Nat} {P:Program} {id:Nat} {Q:Exit->Act->World->Prop} {a:Act} {w:World} {o0:Oper} {L:List Oper} (m:Nat) (v:Value) (hm:P.follows .mixedOrders=true)
  (hB:(Region.noSelect (o0::L).toArray&&Region.free .any (o0::L).toArray (Array.replicate (o0::L).toArray.size false) 0&&(Region.ready .any (o0::L).toArray (Array.replicate (o0::L).toArray.size false)).contains 0&&tailS .any (o0::L).toArray 1 (m+1)&&lexT .any (o0::L).toArray (m+1) (L.take m).length 1 ((Array.replicate (o0::L).toArray.size false).setIfInBounds 0 true)&&seqB .any (o0::L).toArray (L.drop m).length (m+1) (finL (L.take m).length 1 ((Array.replicate (o0::L).toArray.size false).setIfInBounds 0 true))&&decide (m<=L.length))=true)
  (hQ:∀c a w,Q (.panic c) (a.put o0.dst v) w->Q (.panic c) a w) (hy:YieldsFenced P (o0::L).toArray o0 v a)
  (h:wpQuietIn Fence.wide n P (o0::L).toArray (fun w'=>∃p:Regrown,w'=grow (redrawn w p.d) p.os) (fun a'=>∀w',(∃p:Regrown,w'=grow (redrawn w p.d) p.os)->wpListIn Fence.wide n P (o0::L).toArray Q (L.drop m) a' w') (L.take m) (a.put o0.dst v)):(Code.region id (o0::L).toArray true).wpIn Fence.wide n P Q a w:=by
 simp only [Bool.and_eq_true,decide_eq_true_eq]at hB;obtain⟨⟨⟨⟨⟨⟨h1,h2⟩,h3⟩,h4⟩,h5⟩,h6⟩,h7⟩:=hB
 have e1:(L.take m).length=m:=by rw [List.length_take];omega
 have hsz:(o0::L).toArray.size=((L.take m).length+(L.drop m).length)+1:=by rw [List.length_take,List.length_drop];simp;omega
 refine wpIn_region_any hm ?_
 have fin:wpAnyIn Fence.wide n P .any (o0::L).toArray Q (((L.take m).length+(L.drop m).length)+1) (Array.replicate (o0::L).toArray.size false) a {w with drawn:=w.drawn+1}:=?_
 ·rw [<- hsz]at fin
  exact fin
 refine wpAnyIn_take (i:=0) (oi:=o0) (v:=v) rfl (by simp) h1 h2 h3 hQ hy ?_
 have hr0:0∈Region.ready .any (o0::L).toArray (Array.replicate (o0::L).toArray.size false):=by simpa using h3
 refine JR (s:=1) (L.take m) (L.drop m) 1 _ _ _ ⟨⟨w.drawn+1,#[]⟩,by rw [grow_empty];rfl⟩ rfl (fun j hj=>?_) (fun j hj=>?_) h1 (by rw [e1,Nat.add_comm];exact h4) ⟨(clo0 _).set hr0,fun i hi=>?_⟩ (by rw [e1,Nat.add_comm];rw [e1]at h5;exact h5) (by rw [e1,Nat.add_comm 1];rw [e1]at h6;exact h6) h
 ·rw [e1]at hj
  rw [List.getElem?_take,if_pos hj,show 1+j=j+1 by omega];simp
 ·rw [e1,List.getElem?_drop,show 1+m+j=(m+j)+1 by omega];simp
 obtain rfl:i=0:=by omega
 simp
end Go.Proofs.YtibbhecojkehfaaGreatDoor

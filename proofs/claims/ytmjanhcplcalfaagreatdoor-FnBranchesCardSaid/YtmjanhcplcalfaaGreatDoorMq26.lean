import Derived.Test.YtmjanhcplcalfaaGreatDoorMq25
set_option linter.all false
set_option maxRecDepth 100000
set_option maxHeartbeats 8000000
namespace Go.Proofs.YtmjanhcplcalfaaGreatDoor
open Go Go.RowKit Go.Proofs.Tryz
theorem brF {a6:List Int} {ao:Option Addr} {cap:Nat} {c3:Value} {w x:World} {L D ch ci c4 cj ck i1 i2 cl cm I bk bl r bm bn h cn co ay cp cq cr cs:Nat} {tx b0 R J a7:List Int} {u39 u40 u41 u42 u43 u44 u45 u46 u47 u48 u49 u50 u51 u52 u53 u54 u55 u56 u57 u58 u59 u60 u61 u62 u63 u64 u65 u66 u67 u68 u69 u70 u71 u72 u73 u74 u75 u76 u77 u78 u79 u80 u81 u82 u83 u84 u85 u86 u87 u88 u89 u90 u91 u92 u93 u94 u95 u96 u97 u98 u99 u100 u101 u102 u103 u104 u105 u106 u107 u108 u109 u110 u111 u112 u113 u114 u115 u116 u117 u118 u119 u120 u121 u122 u123 u124 u125 u126 u127 u128 u129 u130 u131 u132 u133 u134 u135 u136 u137 u138 u139 u140 u141 u142 u143 u144 u145 u146 u147 u148 u149 u150 u151 u152 u153 u154 u155 u156 u157 u158 u159 u160 u161 u162 u163 u164 u165 u166 u167 u168 u169 u170 u171 u172 u173 u174 u175 u176 u177 u178 u179 u180 u181 u182 u183 u184 u185 u186 u187 u188 u189 u190 u191 u192 u193 u194 u195 u196 u197 u198 u199 u200 u201 u202 u203 u204 u205 u206 u207 u208 u209 u210 u211 u212 u213 u214 u215 u216 u217 u218 u219 u220 u221 u222 u223 u224 u225 u226 u227 u228 u229 u230 u231 u232 u233 u234 u235 u236 u237 u238 u239 u240 u241 u242 u243 u244 u245 u246 u247 u248 u249 u250 u251 u252 u253 u254 u255 u256 u257 u258 u259 u260 u261 u262 u263 u264 u265 u266 u267 u268 u269 u270 u271 u272 u273 u274 u275 u276 u277 u278 u279 u280 u281 u282 u283 u284 u285 u286 u287 u288 u289 u290 u291 u292 u293 u294:Value} (S:Hid (An (Bw w D) (An (Lx D cs a7) (An (Lx D cr J) (An (Px D cq a7 (400+r)) (An (Px D cp J (400+I)) (An (Ro D cn ay co a7) (An (Ro D bm h bn J) (An (Ro D bk r bl R) (An (Ro D cl I cm b0) (An (Lx D ci tx) (An (Ro D cj L ck tx) (Px D ch tx 400))))))))))) x)) (ct:Hid (SrcB a6 (.slice ao a6.length cap) w.heap.size x)) (dm:a6.length<=1048576) (c5:L<=5080) (cu:w.heap.size<D) (c6:i1<=L) (c7:i2<=L) (c8:0<I∧I<=9) (b1:0<r∧r<=9) (c9:L<=h∧h<=L+9∧0<h) (da:L<=ay∧ay<=L+9∧0<ay) (ai:Hid (∀cg,Below w.heap.size w cg->cg.cell? ⟨0,0,none⟩=some (.iface 184 (.agg #[.pointer (qK 1 67)])))) (b2:Hid (tx.length=L)) (b3:Hid (b0.length=I)) (Y:Hid (R.length=r)) (u:Hid (J.length=h)) (b4:Hid (a7.length=ay)) (b5:Hid (J=tx.take i1++(b0++tx.drop i1))) (b6:Hid (a7=tx.take i2++(R++tx.drop i2))):
  Code.wp prog (sufB 20) (bodyPost prog Tryz.f3 fun e w'=>e= .returned (.bool true)∧Below w.heap.size w w') ⟨#[.slice ao a6.length cap,c3,undef,undef,.bool false,.pointer (qK w.heap.size 0),.pointer (qK c4 0),.pointer (qK ch 0),.slice (qK cj 0) L ck,.pointer (qK ci 0),qJ 0,qJ i1,qJ i2,.slice (qK cl 0) I cm,.slice (qK bk 0) r bl,.slice (qK bm 0) h bn,.slice (qK cn 0) ay co,.pointer (qK cp 0),qJ 0,.pointer (qK cq 0),qJ 0,.pointer (qK cr 0),qJ 0,.pointer (qK cs 0),qJ 0,undef,undef,undef,undef,undef,undef,undef,undef,undef,undef,undef,undef,undef,undef,u39,u40,u41,u42,u43,u44,u45,u46,u47,u48,u49,u50,u51,u52,u53,u54,u55,u56,u57,u58,u59,u60,u61,u62,u63,u64,u65,u66,u67,u68,u69,u70,u71,u72,u73,u74,u75,u76,u77,u78,u79,u80,u81,u82,u83,u84,u85,u86,u87,u88,u89,u90,u91,u92,u93,u94,u95,u96,u97,u98,u99,u100,u101,u102,u103,u104,u105,u106,u107,u108,u109,u110,u111,u112,u113,u114,u115,u116,u117,u118,u119,u120,u121,u122,u123,u124,u125,u126,u127,u128,u129,u130,u131,u132,u133,u134,u135,u136,u137,u138,u139,u140,u141,u142,u143,u144,u145,u146,u147,u148,u149,u150,u151,u152,u153,u154,u155,u156,u157,u158,u159,u160,u161,u162,u163,u164,u165,u166,u167,u168,u169,u170,u171,u172,u173,u174,u175,u176,u177,u178,u179,u180,u181,u182,u183,u184,u185,u186,u187,u188,u189,u190,u191,u192,u193,u194,u195,u196,u197,u198,u199,u200,u201,u202,u203,u204,u205,u206,u207,u208,u209,u210,u211,u212,u213,u214,u215,u216,u217,u218,u219,u220,u221,u222,u223,u224,u225,u226,u227,u228,u229,u230,u231,u232,u233,u234,u235,u236,u237,u238,u239,u240,u241,u242,u243,u244,u245,u246,u247,u248,u249,u250,u251,u252,u253,u254,u255,u256,u257,u258,u259,u260,u261,u262,u263,u264,u265,u266,u267,u268,u269,u270,u271,u272,u273,u274,u275,u276,u277,u278,u279,u280,u281,u282,u283,u284,u285,u286,u287,u288,u289,u290,u291,u292,u293,u294],[]⟩ x:=by
 conv=>arg 2;whnf
 dsimp only;obtain⟨db,a8⟩:∃q,q=x:=⟨_,rfl⟩
 subst a8;have ce:=S;clear S;have cf:=ct;clear ct;have cy:IntKind.i64.wrap ((h:Int)+1)=(h:Int)+1:=i64w _ (by omega) (by omega);go_wp2_with fail;refine(JH a6 _ w.heap.size ((h:Int)+1) db cf (by omega) (by omega)).mono ?_;rintro e dn ⟨oi,rfl,cv,cw,cx⟩;obtain⟨T,rfl⟩:=xZ cv.1;have bp:T<=h:=by omega
 clear cv cy;have az:=goD ce cx lR cu;have cz:=qG cw;clear cw cx ce cf;clear cz;obtain⟨a9,ba⟩:∃z,z=J.drop T:=⟨_,rfl⟩
 have bq:=qG ba;have br:=qG (show a9.length=h - T by rw [ba,qR,u.out]);obtain⟨aj,ak,al,am,an,ap,m⟩:=az.2.2.2.2.1;obtain⟨U,V⟩:=m.k.c;have P:=qG (pvD (i:=0) (j:=T) m.v (xX _) (by rw [u.out];exact bp) (ai _ az.1.1));simp only [kn,xH]at P;rw [<- ba]at P;clear m;go_wp2_with fail;refine P.mono ?_;rintro e aq ⟨A,B,ar,au,C,av,rfl,bc,d⟩;have a0:=qG (bc.base az.1.2);clear bc U V P;have bs:=goS az d;clear d az;have d:=(qO aq.heap.size aq).alloc lR (.cells #[.slice (qK A 0) B ar,.slice au C av] 30);have F:=qG (show Px D aq.heap.size a9 (400+I) (aq.alloc (.cells #[.slice (qK A 0) B ar,.slice au C av] 30))from⟨_,_,_,_,_,_,PX.new a0 lR bs.1.2⟩);go_upto_region 24 with fail;generalize aq.alloc (.cells #[.slice (qK A 0) B ar,.slice au C av] 30)=dj at *
 have a1:=goN (q:=Px D aq.heap.size a9 (400+I)) (goS bs d) (F);clear d bs;clear F a0;generalize aq.heap.size=dk at *
 obtain⟨aj,ak,al,am,an,ap,m⟩:=a1.2.2.2.1;obtain⟨U,V⟩:=m.k.c;have P:=qG (lqD (i:=0) (j:=T) m.v (xX _) (by rw [u.out];exact bp) (ai _ a1.1.1));simp only [kn,xH]at P;rw [<- ba]at P;clear m;go_wp2_with fail;refine P.mono ?_;rintro e aw ⟨A,B,ar,au,C,av,rfl,bc,d⟩;have a0:=qG (bc.base a1.1.2);clear bc U V P;have bt:=goS a1 d;clear d a1;have d:=(qO aw.heap.size aw).alloc lR (.cells #[.slice A B ar,.slice au C av] 36);have F:=qG (show Lx D aw.heap.size a9 (aw.alloc (.cells #[.slice A B ar,.slice au C av] 36))from⟨_,_,_,_,_,_,LX.new a0 lR bt.1.2⟩);go_upto_region 25 with fail;generalize aw.alloc (.cells #[.slice A B ar,.slice au C av] 36)=X at *
 have ab:=goN (q:=Lx D aw.heap.size a9) (goS bt d) (F);clear d bt;clear F a0;generalize aw.heap.size=dl at *
 clear ba;obtain⟨Z,bo⟩:∃z,z=J++R:=⟨_,rfl⟩
 have bu:=qG bo;have bv:=qG (show Z.length=h+r by rw [bo,qM,u.out,Y.out]);have bj:=qG (show Z=J.take h++(R++J.drop h)by rw [bo,xu (by rw [u.out];exact lR),vE (by rw [u.out];exact lR),jd]);clear bo;obtain⟨aj,ak,al,am,an,ap,m⟩:=ab.2.2.2.2.2.2.1;obtain⟨U,V⟩:=m.k.c;have bw:=m.k.lt;have ac:=qG m;have ad:=qG ab.2.2.2.2.2.2.2.2.2.1.1;have ae:=qG ab.1.1;have a2:=qG (fun(v:World) (b7:PV v D aj ak al am an ap J (400+I)) (b8 T b9:Nat) (ht:own32 v b9 (.slice (qK b8 0) r T) R) (d:Below w.heap.size w v)=>pxI (off:=h) (wt:=Z) b7 ht Y b1.1 (by rw [u.out];omega) (by rw [u.out];omega) (by omega) bj (ai v d));have af:=qG (fun(v:World) (g c base:Nat) (ca:own32 v base (.slice (qK g 0) r c) R)=>cpK Y ca (by omega));clear m;go_upto_region 25 with fail;go_cut [30,31] (fun bx bz wc=>∃a5,bx= .pointer (qK a5 0)∧bz=qJ 0∧Px X.heap.size a5 Z ((400+I)+r) wc∧Below X.heap.size X wc)
 case first=>
  as_aux_lemma=>
   clear ab b2 ai u b4 b5 b6 b3 Y br bq bv bu bj;refine(kD (n:=6)).1 ?_;refine ZD (fun y=>Below X.heap.size X y) (by kernel_rfl) ?_;refine tk 1 (.slice (qK bm 0) h bn) ?_ ?_
   ·intro y p;go_simp
   go_simp;refine tk 2 (qJ h) ?_ ?_
   ·intro y p;go_simp
   go_simp;refine tk 3 (.slice (qK bk 0) r bl) ?_ ?_
   ·intro y p;go_simp
   go_simp;refine tk 0 (.agg #[.slice (qK aj 0) ak al,.slice am an ap]) ?_ ?_
   ·intro y p;(obtain⟨dc,dd⟩:=(ac.below p).k.c;go_simp)
   go_simp;obtain⟨K,ax⟩:∃y,y=X.drew:=⟨_,rfl⟩
   rw [<- ax];have o:=qG (show Below X.heap.size X K from by rw [ax];exact zT rfl rfl rfl rfl);clear ax U V;refine tw 4 9 o ?a25 ?b25
   case' a25=>
    gi_wp2_with fail;refine⟨xn,(xf.2 (af _ _ _ _ (zB ad o lR))).mono ?_⟩;rintro e M ⟨cb,cc,rfl,N,E⟩;have b:=qG (o.trans (E.mono o.size));have G:=qG N;clear N E;gi_wp2_with fail;refine tw 5 9 b ?_ ?c25
    case' c25=>
     gi_wp2_with fail;have s:=qG (D2.new M (.slice none 0 0) (.slice none 0 0) 30);have t:=(qO M.heap.size M).alloc lR (.cells #[.slice none 0 0,.slice none 0 0] 30);have k:=qG (b.trans (t.mono b.size));have l:=b.size;obtain⟨cd,O⟩:∃z,z=M.alloc (.cells #[.slice none 0 0,.slice none 0 0] 30):=⟨_,rfl⟩
     have a3:=qG (zB G t lR);rw [<- O]at s k a3 |-;clear t O b G;have b:=k;have G:=a3;have W:=s;refine on 5 b ?_
   case' b25=>
    gi_wp2_with fail;have s:=qG (D2.new K (.slice none 0 0) (.slice none 0 0) 30);have t:=(qO K.heap.size K).alloc lR (.cells #[.slice none 0 0,.slice none 0 0] 30);have k:=qG (o.trans (t.mono o.size));have l:=o.size;obtain⟨cd,O⟩:∃z,z=K.alloc (.cells #[.slice none 0 0,.slice none 0 0] 30):=⟨_,rfl⟩
    rw [<- O]at s k |-;clear t O;refine on 4 k ?_;gi_wp2_with fail;refine⟨xn,(xf.2 (af _ _ _ _ (zB ad k lR))).mono ?_⟩;rintro e M ⟨cb,cc,rfl,N,E⟩;have b:=qG (k.trans (E.mono k.size));have G:=qG N;have W:=qG (s.below E s.lt);clear N E;gi_wp2_with fail;refine on 5 b ?_
   all_goals
    have ag:=b.size;gi_wp2_with fail;refine⟨xn,(xf.2 (a2 _ (ac.v.below b) _ _ _ G (ae.trans (b.mono ae.size)))).mono ?_⟩;rintro e de ⟨A,B,bd,be,C,bf,rfl,bg,bh⟩;have f:=qG (b.trans (bh.mono ag));have a4:=qG bg;have H:=f.size;clear bg;gi_wp2_with fail;refine tk 6 (.tuple #[.agg #[.slice (qK A 0) B bd,.slice be C bf],qJ 0]) ?_ ?_
    ·intro y p;go_simp
    go_simp;refine tk 7 (.agg #[.slice (qK A 0) B bd,.slice be C bf]) ?_ ?_
    ·intro y p;go_simp
    go_simp;refine tk 8 (qJ 0) ?_ ?_
    ·intro y p;go_simp
    go_simp
    first
     | (have Q:=qG (W.below bh W.lt);obtain⟨df,dg⟩:=Q.c;have c0:=Q.fz 0;have c1:=Q.fz 1;refine on 10 f ?_;gi_wp2_with fail;refine on 11 ((f.setCell l _).setCell l _) ?_;gi_wp2_with fail;refine doneC (by kernel_rfl) ((f.setCell l _).setCell l _) ?_ _;gi_wp2_with fail;go_meet;exact⟨_,rfl,rfl,⟨_,_,_,_,_,_,PX.set Q a4 ag l⟩,(f.setCell l _).setCell l _⟩)
     | (refine on 9 f ?_;gi_wp2_with fail;refine on 10 (f.alloc H _) ?_;gi_wp2_with fail;refine on 11 (f.alloc H _) ?_;gi_wp2_with fail;refine doneC (by kernel_rfl) (f.alloc H _) ?_ _;gi_wp2_with fail;go_meet;exact⟨_,rfl,rfl,⟨_,_,_,_,_,_,PX.new a4 ag H⟩,f.alloc H _⟩)
 obtain⟨aa,a8⟩:∃q,q=wc:=⟨_,rfl⟩
 subst a8;obtain⟨dh,rfl,rfl,bi,d⟩:=hcut;have F:=qG (bi.up (D:=D) ab.1.2);clear bi U V bw ac ad ae a2 af;have ah:=goN (q:=Px D dh Z ((400+I)+r)) (goS ab d) (F);clear d ab;clear F;obtain⟨aj,ak,al,am,an,ap,m⟩:=ah.2.2.2.2.2.1;obtain⟨U,V⟩:=m.k.c;have bw:=m.k.lt;have ac:=qG m;have ad:=qG ah.2.2.2.2.2.2.2.2.2.2.1.1;have ae:=qG ah.1.1;have a2:=qG (fun(v:World) (b7:LQ v D aj ak al am an ap J) (b8 T b9:Nat) (ht:own32 v b9 (.slice (qK b8 0) r T) R) (d:Below w.heap.size w v)=>lxI (off:=h) (wt:=Z) b7 ht Y b1.1 (by rw [u.out];omega) (by rw [u.out];omega) bj (ai v d));have af:=qG (fun(v:World) (g c base:Nat) (ca:own32 v base (.slice (qK g 0) r c) R)=>cpK Y ca (by omega));clear m;go_upto_region 26 with fail;go_cut [32,33] (fun bx bz wc=>∃a5,bx= .pointer (qK a5 0)∧bz=qJ 0∧Lx aa.heap.size a5 Z wc∧Below aa.heap.size aa wc)
 case first=>
  as_aux_lemma=>
   clear ah b2 ai u b4 b5 b6 b3 Y br bq bv bu bj;refine(kD (n:=6)).1 ?_;refine ZD (fun y=>Below aa.heap.size aa y) (by kernel_rfl) ?_;refine tk 1 (.slice (qK bm 0) h bn) ?_ ?_
   ·intro y p;go_simp
   go_simp;refine tk 2 (qJ h) ?_ ?_
   ·intro y p;go_simp
   go_simp;refine tk 3 (.slice (qK bk 0) r bl) ?_ ?_
   ·intro y p;go_simp
   go_simp;refine tk 0 (.agg #[.slice aj ak al,.slice am an ap]) ?_ ?_
   ·intro y p;(obtain⟨dc,dd⟩:=(ac.below p).k.c;go_simp)
   go_simp;obtain⟨K,ax⟩:∃y,y=aa.drew:=⟨_,rfl⟩
   rw [<- ax];have o:=qG (show Below aa.heap.size aa K from by rw [ax];exact zT rfl rfl rfl rfl);clear ax U V;refine tw 4 9 o ?a26 ?b26
   case' a26=>
    gi_wp2_with fail;refine⟨xn,(xf.2 (af _ _ _ _ (zB ad o lR))).mono ?_⟩;rintro e M ⟨cb,cc,rfl,N,E⟩;have b:=qG (o.trans (E.mono o.size));have G:=qG N;clear N E;gi_wp2_with fail;refine tw 5 9 b ?_ ?c26
    case' c26=>
     gi_wp2_with fail;have s:=qG (D2.new M (.slice none 0 0) (.slice none 0 0) 36);have t:=(qO M.heap.size M).alloc lR (.cells #[.slice none 0 0,.slice none 0 0] 36);have k:=qG (b.trans (t.mono b.size));have l:=b.size;obtain⟨cd,O⟩:∃z,z=M.alloc (.cells #[.slice none 0 0,.slice none 0 0] 36):=⟨_,rfl⟩
     have a3:=qG (zB G t lR);rw [<- O]at s k a3 |-;clear t O b G;have b:=k;have G:=a3;have W:=s;refine on 5 b ?_
   case' b26=>
    gi_wp2_with fail;have s:=qG (D2.new K (.slice none 0 0) (.slice none 0 0) 36);have t:=(qO K.heap.size K).alloc lR (.cells #[.slice none 0 0,.slice none 0 0] 36);have k:=qG (o.trans (t.mono o.size));have l:=o.size;obtain⟨cd,O⟩:∃z,z=K.alloc (.cells #[.slice none 0 0,.slice none 0 0] 36):=⟨_,rfl⟩
    rw [<- O]at s k |-;clear t O;refine on 4 k ?_;gi_wp2_with fail;refine⟨xn,(xf.2 (af _ _ _ _ (zB ad k lR))).mono ?_⟩;rintro e M ⟨cb,cc,rfl,N,E⟩;have b:=qG (k.trans (E.mono k.size));have G:=qG N;have W:=qG (s.below E s.lt);clear N E;gi_wp2_with fail;refine on 5 b ?_
   all_goals
    have ag:=b.size;gi_wp2_with fail;refine⟨xn,(xf.2 (a2 _ (ac.v.below b) _ _ _ G (ae.trans (b.mono ae.size)))).mono ?_⟩;rintro e de ⟨A,B,bd,be,C,bf,rfl,bg,bh⟩;have f:=qG (b.trans (bh.mono ag));have a4:=qG bg;have H:=f.size;clear bg;gi_wp2_with fail;refine tk 6 (.tuple #[.agg #[.slice A B bd,.slice be C bf],qJ 0]) ?_ ?_
    ·intro y p;go_simp
    go_simp;refine tk 7 (.agg #[.slice A B bd,.slice be C bf]) ?_ ?_
    ·intro y p;go_simp
    go_simp;refine tk 8 (qJ 0) ?_ ?_
    ·intro y p;go_simp
    go_simp
    first
     | (have Q:=qG (W.below bh W.lt);obtain⟨df,dg⟩:=Q.c;have c0:=Q.fz 0;have c1:=Q.fz 1;refine on 10 f ?_;gi_wp2_with fail;refine on 11 ((f.setCell l _).setCell l _) ?_;gi_wp2_with fail;refine doneC (by kernel_rfl) ((f.setCell l _).setCell l _) ?_ _;gi_wp2_with fail;go_meet;exact⟨_,rfl,rfl,⟨_,_,_,_,_,_,LX.set Q a4 ag l W.lt⟩,(f.setCell l _).setCell l _⟩)
     | (refine on 9 f ?_;gi_wp2_with fail;refine on 10 (f.alloc H _) ?_;gi_wp2_with fail;refine on 11 (f.alloc H _) ?_;gi_wp2_with fail;refine doneC (by kernel_rfl) (f.alloc H _) ?_ _;gi_wp2_with fail;go_meet;exact⟨_,rfl,rfl,⟨_,_,_,_,_,_,LX.new a4 ag H⟩,f.alloc H _⟩)
 obtain⟨dp,a8⟩:∃q,q=wc:=⟨_,rfl⟩
 subst a8;obtain⟨di,rfl,rfl,bi,d⟩:=hcut;have F:=qG (bi.up (D:=D) ah.1.2);clear bi U V bw ac ad ae a2 af;have c2:=goN (q:=Lx D di Z) (goS ah d) (F);clear d ah;clear F;refine ‹∀ (a:Act) (w:World),Code.wp prog _ _ a w->_› _ _ ?_;exact brI c2 c5 cu c6 c7 c8 b1 c9 da ai b2 b3 Y u b4 b5 b6 bp bq br bu bv
end Go.Proofs.YtmjanhcplcalfaaGreatDoor

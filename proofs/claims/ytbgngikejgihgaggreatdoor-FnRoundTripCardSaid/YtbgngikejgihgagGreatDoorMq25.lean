import Derived.Test.YtbgngikejgihgagGreatDoorMq21
import Derived.Test.YtbgngikejgihgagGreatDoorMq22
import Derived.Test.YtbgngikejgihgagGreatDoorMq24
import Derived.Test.YtbgngikejgihgagGreatDoorMq05
import Derived.WalkKit
import Derived.Test.YtbgngikejgihgagGreatDoorMq12
import Derived.Test.YtbgngikejgihgagGreatDoorMq20
import Derived.WalkLawsBesides
import Derived.Laws.AppendOwnNone
namespace Go.Proofs.YtbgngikejgihgagGreatDoor
open Go Go.RowKit
set_option linter.unusedVariables false

/-- The piece is put behind the one that ends where the store ended. -/
theorem insP_meet {S : List Int} {n : Nat} {T : AT} {off : Int} {r : Nat} {y : It} (h : T.ok) (h0 : 0 ≤ off) (h1 : off ≤ T.rns) (hR : cutN T off = r + 1) (hy : (T.told 0)[r]? = some y) (ht : total ((T.told 0).take (cutN T off)) = off) (hm : y.pc.off + y.pc.len = (n : Int)) :
    insP S n T off = T.put r (pcAt S y.pc.off (y.pc.len + ((S.length : Int) - n))) := by
  obtain ⟨a, s, c⟩ := sk_at h h0 h1
  have hi : skI T off = 0 := by
    rcases Decidable.em (skI T off = 0) with hi | hi
    · exact hi
    · exfalso
      obtain ⟨c1, c2, c3⟩ := c.resolve_left hi
      rw [cutN, if_neg hi, total_take] at ht
      have e4 := (split_at c3).1
      rw [e4, take_mid _ _ _ _ (by rw [List.length_take]; have := (split_at c3).2; omega), lsum_app, lsum_cons, lsum_nil, s] at ht
      omega
  have hf : T.flat[r]? = some y.pc := by rw [← AT.flat_of T 0, List.getElem?_map, hy]; rfl
  have ha : ahead T (r + 1) = y.pc := by rw [ahead, Nat.add_sub_cancel, List.getD_eq_getElem?_getD, hf]; rfl
  rw [insP, hR, cutP, if_pos hi, addP, if_pos (by rw [meetB, decide_eq_true_eq, ha]; exact ⟨by omega, hm⟩), ha, Nat.add_sub_cancel]
/-- One more piece. -/
theorem insP_more {S : List Int} {n : Nat} {T : AT} {off : Int} (h : T.ok) (hw : ∀ p ∈ T.flat, p.off + p.len ≤ (n : Int)) (h0 : 0 ≤ off) (h1 : off ≤ T.rns) (hno : ¬ (∃ r y, cutN T off = r + 1 ∧ (T.told 0)[r]? = some y ∧ total ((T.told 0).take (cutN T off)) = off ∧ y.pc.off + y.pc.len = (n : Int))) :
    insP S n T off = (cutP S T off).ins (cutN T off) (pcAt S n ((S.length : Int) - n)) := by
  obtain ⟨a, s, c⟩ := sk_at h h0 h1
  rw [insP, addP, if_neg]
  intro hmt
  simp only [meetB, decide_eq_true_eq] at hmt
  obtain ⟨m1, m2⟩ := hmt
  by_cases hi : skI T off = 0
  · refine hno ?_
    have e1 : cutN T off = skR T off := by rw [cutN, if_pos hi]; omega
    rw [cutP, if_pos hi] at m2
    obtain ⟨r, hr⟩ : ∃ r, cutN T off = r + 1 := ⟨cutN T off - 1, by omega⟩
    have ha := ahead_at (T := T) (R := cutN T off) m1 (by omega)
    obtain ⟨y, hy, hyp⟩ := told_at ha
    refine ⟨r, y, hr, by rw [← hy, hr]; rfl, ?_, by rw [hyp]; exact m2⟩
    rw [total_take, e1, s, hi]; omega
  · obtain ⟨c1, c2, c3⟩ := c.resolve_left hi
    have e1 : cutN T off = skR T off + 1 := by rw [cutN, if_neg hi]
    have hw' := hw _ (List.mem_of_getElem? c3)
    have ha : ahead (cutP S T off) (cutN T off) = pcAt S (skP T off).off (skI T off) := by
      rw [ahead, e1, Nat.add_sub_cancel, List.getD_eq_getElem?_getD, cutP_flat h h0 h1 hi, List.getElem?_append_right (by rw [List.length_take]; omega)]
      have : skR T off - (T.flat.take (skR T off)).length = 0 := by rw [List.length_take]; have := (split_at c3).2; omega
      rw [this]; rfl
    rw [ha] at m2
    simp only [pcAt] at m2
    omega

/-- l4PieceInsert. -/
theorem insS (zs ts : List Int) (T : AT) (b o cap base : Nat) (at' : Option Addr) (ct bx ox cx : Nat) (off : Int) (w : World) (hc : cells32 w b o zs) (hb : b < w.heap.size) (ht : cells32 w bx ox ts) (hbx : bx < w.heap.size) (ho : OwI w base (.slice at' T.its ct) (T.told 0)) (hok : T.ok) (hbal : T.bal) (hw : T.wp zs) (h0 : 0 ≤ off) (h1 : off ≤ T.rns) (hr : T.rns + ts.length ≤ 8192) (hs : zs.length + ts.length ≤ 220000) :
    Calls Tryz.prog 76 #[.agg #[.slice (some ⟨b, o, none⟩) zs.length cap, .slice at' T.its ct], .int .i64 off, .slice (some ⟨bx, ox, none⟩) ts.length cx] w (InsPost w (zs ++ ts) ((if ts.length = 0 then T else insP (zs ++ ts) zs.length T off).told 0)) := by
  have hlen := AT.told_length T 0
  have bd := hok.bd
  obtain ⟨hcp, hcm⟩ : T.its ≤ ct ∧ ct ≤ maxLen := by
    rcases ho.2 with ⟨h1, h2⟩ | ⟨g, cp, cur, h1, _, _, h2, h3, _⟩
    · simp only [Value.slice.injEq] at h1; exact ⟨by omega, by unfold maxLen; omega⟩
    · rw [hlen] at h1 h2; cases h1; exact ⟨h2, h3⟩
  have hS : (zs ++ ts).length = zs.length + ts.length := List.length_append
  have hwS := hw.app ts
  have hwp := (wp_flat zs T).1 hw
  have hco := cutP_ok (S := zs ++ ts) hok hwS (by omega) h0 h1
  have hcb := hco.bd
  have hRk := (cutN_at (S := zs ++ ts) hok h0 h1).1
  obtain ⟨hRk0, _⟩ : cutN T off ≤ T.its ∧ True := by
    obtain ⟨a, s, c⟩ := sk_at hok h0 h1
    refine ⟨?_, trivial⟩
    by_cases hi : skI T off = 0
    · rw [cutN, if_pos hi]; omega
    · obtain ⟨c1, c2, c3⟩ := c.resolve_left hi
      have := (split_at c3).2
      rw [AT.flat_its] at this
      rw [cutN, if_neg hi]; omega
  have hmS : ((zs ++ ts).length : Int) - (zs.length : Int) = (ts.length : Int) := by omega
  refine insSA zs ts (zs ++ ts) (T.told 0) _ ((cutP (zs ++ ts) T off).told 0) zs.length ts.length T.its (cutP (zs ++ ts) T off).its (cutN T off) b o cap at' ct bx ox cx off (total ((T.told 0).take (cutN T off))) (pcAt (zs ++ ts) (zs.length : Int) (ts.length : Int)).brk w (hide rfl) (hide rfl) (hide rfl) (hide hlen) (by omega) (by omega) hs (by omega) hRk0 hcp hcm ⟨h0, by omega⟩ (hide hc) hb (hide ht) hbx (hide ?_) (hide ?_) (hide ?_) (hide ?_) (hide ?_) (hide ?_) (hide ?_) (hide ?_) (hide ?_) (hide ?_) (hide ?_)
  · intro j y hy
    have hmem : y.pc ∈ T.flat := by rw [← AT.flat_of T 0]; exact List.mem_map.2 ⟨y, List.mem_iff_getElem?.2 ⟨j, hy⟩, rfl⟩
    have hk := hok.1 _ hmem
    simp only [pcOk, decide_eq_true_eq] at hk
    have := (hwp _ hmem).2.2.1
    omega
  · intro W hW
    have h9 := copyA (T.told 0) _ base W (OwI.below ho hW (Nat.le_refl _)) (by omega)
    rw [hlen] at h9; exact h9
  · intro W base' gi ci hoW
    have h9 := rankS W.heap.size _ (T.told 0) off W (OwI.rd hoW) (by omega) (told_okp hok)
    rw [← cutN_rank hok h0 h1] at h9; exact h9
  · intro W base' gi ci hoW
    have h9 := rankS W.heap.size _ ((cutP (zs ++ ts) T off).told 0) off W (OwI.rd hoW) (by rw [AT.told_length]; omega) (told_okp hco)
    rw [cut_rank hok hwS (by omega) h0 h1] at h9; exact h9
  · intro W base' gi ci hoW
    exact totalS W.heap.size _ _ W ((OwI.rd hoW).takeX hlen _ hRk0) (Nat.le_refl _) (by rw [List.length_take]; omega) (fun x hx => told_okp hok x (List.mem_of_mem_take hx))
  · intro W base' gs cs gi ci hcW hgs hcs hcsm hoW hbW
    have h9 := cutS (zs ++ ts) T off gs 0 cs base' gi ci W hcW hgs (by omega) hcsm (by omega) hok hbal hwS h0 h1 hoW hbW
    rw [hS] at h9; exact h9
  · intro W gs cs hcW hgs hcs hcsm hm0
    have h9 := specPieceI (zs ++ ts) gs 0 cs (zs.length : Int) (ts.length : Int) W hcW hgs (by omega) (by omega) (by omega) (by omega) hcsm (by omega)
    rw [hS] at h9; exact h9
  · intro W gs cs y hcW hgs hcs hcsm hq hl hme
    have h9 := specPieceI (zs ++ ts) gs 0 cs y.pc.off (y.pc.len + (ts.length : Int)) W hcW hgs hq (by omega) (by omega) (by omega) hcsm (by omega)
    rw [hS] at h9; exact h9
  · intro W base' g c hno hm0 hoW
    have h9 := insertS (cutP (zs ++ ts) T off) (cutN T off) (pcAt (zs ++ ts) (zs.length : Int) (ts.length : Int)) base' g c W (cutP_bal hbal) (by omega) hRk hoW
    rw [if_neg (by omega), insP_more hok (fun p hp => (hwp p hp).2.2.1) h0 h1 hno, hmS]
    exact h9
  · intro r y hR hy ht' hme hm0
    rw [if_neg (by omega), insP_meet hok h0 h1 hR hy ht' hme, hmS]
    exact AT.put_told T r _ 0 y hy
  · intro hm0
    rw [if_pos hm0]

end Go.Proofs.YtbgngikejgihgagGreatDoor

namespace Go.Proofs.YtbgngikejgihgagGreatDoor
open Go Go.RowKit
set_option linter.unusedVariables false

/-- What comes back: the pieces of before, or two of them made one. -/
def Back (S : List Int) (F G : List Pc) : Prop := G = F ∨ ∃ r p q, F[r]? = some p ∧ F[r + 1]? = some q ∧ p.off + p.len = q.off ∧ G = F.take r ++ pcAt S p.off (p.len + q.len) :: F.drop (r + 2)

theorem Back.len {S : List Int} {F G : List Pc} (h : Back S F G) : G.length ≤ F.length := by
  rcases h with rfl | ⟨r, p, q, hp, hq, _, rfl⟩
  · exact Nat.le_refl _
  · have := (split_at hq).2
    rw [List.length_append, List.length_take, List.length_cons, List.length_drop]; omega
end Go.Proofs.YtbgngikejgihgagGreatDoor

namespace Go.Proofs.YtbgngikejgihgagGreatDoor
open Go Go.RowKit
set_option linter.unusedVariables false

theorem told_memH {T : AT} {d : Int} {x : It} (h : x ∈ T.told d) : x.pc ∈ T.flat := by
  rw [← AT.flat_of T d]; exact List.mem_map.2 ⟨x, h, rfl⟩
theorem readT_toldH (T : AT) (hb : T.bal) (hok : T.ok) : readT (T.told 0) = some T := by
  have hits : (T.told 0).length = T.its := AT.told_length T 0
  have bd := hok.bd
  have hp := parse_complete T 8200 0 [] hb (by have := AT.bal_low T hb (by omega); omega) (fun y yt h => by cases h)
  rw [List.append_nil] at hp
  unfold readT
  rw [if_pos, hp]
  simp only [okI, Bool.and_eq_true, decide_eq_true_eq]
  refine ⟨List.all_eq_true.2 fun x hx => ?_, by rw [AT.rns_told]; exact hok.2⟩
  have h1 := hok.1 x.pc (told_memH hx)
  have h2 := AT.told_lv T 0 x hx
  have h3 := AT.ht_its T
  simp only [Bool.and_eq_true, decide_eq_true_eq]
  exact ⟨h1, by omega, by omega⟩
/-- A tree that keeps its bounds is read. -/
theorem pRead_told {S : List Int} {T : AT} (hb : T.bal) (hok : T.ok) (hw : T.wp S) (hS : S.length ≤ 220000) : pRead S (T.told 0) = some T := by
  unfold pRead
  rw [readT_toldH T hb hok]
  simp only
  rw [if_pos]
  refine ⟨hS, List.all_eq_true.2 fun x hx => ?_⟩
  have hm := told_memH hx
  exact (wpB_iff (hok.1 _ hm)).2 ((wp_flat S T).1 hw _ hm)

theorem tx_flat (S : List Int) : ∀ T : AT, T.tx S = T.flat.flatMap (ptx S)
  | .nil => rfl
  | .node l p r => by simp only [AT.tx, AT.flat, List.flatMap_append, List.flatMap_cons, tx_flat S l, tx_flat S r]
theorem ptx_two {S : List Int} {p q : Pc} (hp : WP S p) (hq : WP S q) (hm : p.off + p.len = q.off) : ptx S (pcAt S p.off (p.len + q.len)) = ptx S p ++ ptx S q := by
  obtain ⟨a1, a2, a3, _⟩ := hp
  obtain ⟨b1, b2, b3, _⟩ := hq
  unfold ptx pcAt
  simp only
  rw [show (p.len + q.len).toNat = p.len.toNat + q.len.toNat by omega, List.take_add, List.drop_drop, show p.off.toNat + p.len.toNat = q.off.toNat by omega]
theorem Back.tx {S : List Int} {T R : AT} (h : Back S T.flat R.flat) (hw : T.wp S) : R.tx S = T.tx S := by
  have hwf := (wp_flat S T).1 hw
  rw [tx_flat, tx_flat]
  rcases h with e | ⟨r, p, q, hp, hq, hm, e⟩
  · rw [e]
  · rw [e]
    have e2 := two_at (R := r + 1) (by omega) (by rw [Nat.add_sub_cancel]; exact hp) hq
    rw [Nat.add_sub_cancel] at e2
    conv => rhs; rw [e2]
    rw [List.flatMap_append, List.flatMap_append, List.flatMap_cons, List.flatMap_cons, List.flatMap_cons, ptx_two (hwf _ (List.mem_of_getElem? hp)) (hwf _ (List.mem_of_getElem? hq)) hm, List.append_assoc]
theorem Back.wp {S : List Int} {T R : AT} (h : Back S T.flat R.flat) (hw : T.wp S) : R.wp S := by
  have hwf := (wp_flat S T).1 hw
  refine (wp_flat S R).2 fun x hx => ?_
  rcases h with e | ⟨r, p, q, hp, hq, hm, e⟩
  · rw [e] at hx; exact hwf x hx
  · rw [e] at hx
    simp only [List.mem_append, List.mem_cons] at hx
    rcases hx with hx | rfl | hx
    · exact hwf x (List.mem_of_mem_take hx)
    · have a := hwf _ (List.mem_of_getElem? hp)
      have b := hwf _ (List.mem_of_getElem? hq)
      exact pcAt_wp a.1 (by have := a.2.1; have := b.2.1; omega) (by have := b.2.2.1; omega)
    · exact hwf x (List.mem_of_mem_drop hx)
/-- What is put in. -/
theorem insP_wp_rns {zs ts : List Int} {T : AT} {off : Int} (h : T.ok) (hw : T.wp zs) (h0 : 0 ≤ off) (h1 : off ≤ T.rns) (hm : 0 < ts.length) :
    (insP (zs ++ ts) zs.length T off).wp (zs ++ ts) ∧ (insP (zs ++ ts) zs.length T off).rns = T.rns + ts.length ∧ (insP (zs ++ ts) zs.length T off).its ≤ T.its + 2 := by
  have hSl : (zs ++ ts).length = zs.length + ts.length := List.length_append
  have hwS := hw.app ts
  have hmS : ((zs ++ ts).length : Int) - (zs.length : Int) = (ts.length : Int) := by omega
  have hwz := (wp_flat zs T).1 hw
  have hwf := (wp_flat (zs ++ ts) T).1 hwS
  by_cases hcase : ∃ r y, cutN T off = r + 1 ∧ (T.told 0)[r]? = some y ∧ total ((T.told 0).take (cutN T off)) = off ∧ y.pc.off + y.pc.len = (zs.length : Int)
  · obtain ⟨r, y, hR, hy, ht, hme⟩ := hcase
    have hI := insP_meet (S := zs ++ ts) h h0 h1 hR hy ht hme
    rw [hmS] at hI
    have hf : T.flat[r]? = some y.pc := by rw [← AT.flat_of T 0, List.getElem?_map, hy]; rfl
    have fI := put_flat' T r (pcAt (zs ++ ts) y.pc.off (y.pc.len + (ts.length : Int))) _ hf
    have hpl := flat_pos h _ (List.mem_of_getElem? hf)
    rw [hI]
    refine ⟨?_, ?_, by rw [AT.put_its]; omega⟩
    · refine (wp_flat _ _).2 fun p hp => ?_
      rw [fI] at hp
      simp only [List.mem_append, List.mem_cons] at hp
      rcases hp with hp | rfl | hp
      · exact hwf _ (List.mem_of_mem_take hp)
      · have := (hwf _ (List.mem_of_getElem? hf)).1
        exact pcAt_wp this (by omega) (by omega)
      · exact hwf _ (List.mem_of_mem_drop hp)
    · rw [AT.rns_lsum, AT.rns_lsum, fI, lsum_app, lsum_cons]
      have e := (split_at hf).1
      have : lsum T.flat = lsum (T.flat.take r) + (y.pc.len + lsum (T.flat.drop (r + 1))) := by
        conv => lhs; rw [e]
        rw [lsum_app, lsum_cons]
      simp only [pcAt]
      omega
  · have hI := insP_more (S := zs ++ ts) h (fun p hp => (hwz p hp).2.2.1) h0 h1 hcase
    rw [hmS] at hI
    obtain ⟨hA1, hA2⟩ := cutN_at (S := zs ++ ts) h h0 h1
    have fI : (insP (zs ++ ts) zs.length T off).flat = (cutP (zs ++ ts) T off).flat.take (cutN T off) ++ pcAt (zs ++ ts) (zs.length : Int) (ts.length : Int) :: (cutP (zs ++ ts) T off).flat.drop (cutN T off) := by rw [hI, AT.ins_flat _ _ _ hA1]
    have wpC := (wp_flat _ _).1 (cutP_wp (S := zs ++ ts) h hwS h0 h1)
    refine ⟨?_, ?_, ?_⟩
    · refine (wp_flat _ _).2 fun p hp => ?_
      rw [fI] at hp
      simp only [List.mem_append, List.mem_cons] at hp
      rcases hp with hp | rfl | hp
      · exact wpC _ (List.mem_of_mem_take hp)
      · exact pcAt_wp (by omega) (by omega) (by omega)
      · exact wpC _ (List.mem_of_mem_drop hp)
    · rw [AT.rns_lsum, fI, lsum_app, lsum_cons]
      have e1 := cutP_len (S := zs ++ ts) h h0 h1
      have e2 : lsum (cutP (zs ++ ts) T off).flat = lsum ((cutP (zs ++ ts) T off).flat.take (cutN T off)) + lsum ((cutP (zs ++ ts) T off).flat.drop (cutN T off)) := by rw [← lsum_app, List.take_append_drop]
      rw [AT.rns_lsum]
      simp only [pcAt]
      omega
    · have e3 : (cutP (zs ++ ts) T off).its ≤ T.its + 1 := by
        by_cases hi : skI T off = 0
        · rw [cutP, if_pos hi]; omega
        · rw [← AT.flat_its, cutP_flat h h0 h1 hi, List.length_append, List.length_cons, List.length_cons, List.length_take, List.length_drop, AT.flat_its]
          obtain ⟨c0, s, c⟩ := sk_at h h0 h1
          have := (split_at (c.resolve_left hi).2.2).2
          rw [AT.flat_its] at this
          omega
      have e4 : (cutP (zs ++ ts) T off).flat.length = (cutP (zs ++ ts) T off).its := AT.flat_its _
      rw [← AT.flat_its, fI, List.length_append, List.length_cons, List.length_take, List.length_drop]; omega

theorem healP_bal {S : List Int} {T : AT} {R : Nat} (h : T.bal) : (healP S T R).bal := by
  cases hb : healB T R with
  | false => rw [healP, if_neg (by rw [hb]; simp)]; exact h
  | true =>
    rw [healP, if_pos hb]
    simp only [healB, decide_eq_true_eq] at hb
    exact (AT.rem_bal _ _ (AT.put_bal _ _ _ h) (by rw [AT.put_its]; exact hb.1.2)).1
/-- What is taken out: its bounds. -/
theorem delP_all {S : List Int} {T : AT} {lo hi : Int} (h : T.ok) (hb : T.bal) (hw : T.wp S) (hS : S.length ≤ 220000) (h0 : 0 ≤ lo) (hlh : lo ≤ hi) (h1 : hi ≤ T.rns) :
    (delP S T lo hi).ok ∧ (delP S T lo hi).bal ∧ (delP S T lo hi).wp S ∧ (delP S T lo hi).rns ≤ T.rns := by
  have F := delF h hb hw hS h0 hlh h1
  have hwJ := (wp_flat S _).1 F.wpJ
  have rJ : (dlJ S T lo hi).rns ≤ T.rns := by
    have sf := AT.split_flat (dl2 S T lo hi) (cutN T lo) F.a2
    have fX : (dlX S T lo hi).flat = (dl2 S T lo hi).flat.take (cutN T lo) := sf.1
    have fY : (dlY S T lo hi).flat = (dl2 S T lo hi).flat.drop (cutN T lo) := sf.2
    have sf2 := AT.split_flat (dlY S T lo hi) (dlZ S T lo hi - cutN T lo) (by have := F.yits; have := F.z2; omega)
    have fW : (dlW S T lo hi).flat = (dlY S T lo hi).flat.drop (dlZ S T lo hi - cutN T lo) := sf2.2
    have r2 : (dl2 S T lo hi).rns = T.rns := by rw [dl2, cutP_rns F.ok1 (by omega) (by rw [F.rn1]; exact h1), F.rn1]
    have e1 : lsum (dl2 S T lo hi).flat = lsum ((dl2 S T lo hi).flat.take (cutN T lo)) + lsum ((dl2 S T lo hi).flat.drop (cutN T lo)) := by rw [← lsum_app, List.take_append_drop]
    have e2 : lsum (dlY S T lo hi).flat = lsum ((dlY S T lo hi).flat.take (dlZ S T lo hi - cutN T lo)) + lsum ((dlY S T lo hi).flat.drop (dlZ S T lo hi - cutN T lo)) := by rw [← lsum_app, List.take_append_drop]
    have e3 := lsum_nn (F := (dlY S T lo hi).flat.take (dlZ S T lo hi - cutN T lo)) (fun q hq => flat_pos F.okY q (List.mem_of_mem_take hq))
    rw [AT.rns_lsum] at r2
    rw [AT.rns_lsum, dlJ, AT.join_flat, lsum_app, fX, fW]
    rw [fY] at e2 e3 ⊢
    omega
  refine ⟨F.okR, healP_bal F.balJ, ?_, ?_⟩
  · cases hhb : healB (dlJ S T lo hi) (cutN T lo) with
    | false => rw [delP, healP, if_neg (by rw [hhb]; simp)]; exact F.wpJ
    | true =>
      have h9 := hhb
      simp only [healB, decide_eq_true_eq] at h9
      have ha := ahead_at (T := dlJ S T lo hi) (R := cutN T lo) h9.1.1 (by omega)
      have hq := atP_at (T := dlJ S T lo hi) (R := cutN T lo) h9.1.2
      refine (wp_flat S _).2 fun x hx => ?_
      rw [delP, healP_flat hhb] at hx
      simp only [List.mem_append, List.mem_cons] at hx
      rcases hx with hx | rfl | hx
      · exact hwJ x (List.mem_of_mem_take hx)
      · have a := hwJ _ (List.mem_of_getElem? ha)
        have b := hwJ _ (List.mem_of_getElem? hq)
        exact pcAt_wp a.1 (by have := a.2.1; have := b.2.1; omega) (by have := b.2.2.1; omega)
      · exact hwJ x (List.mem_of_mem_drop hx)
  · refine Int.le_trans ?_ rJ
    cases hhb : healB (dlJ S T lo hi) (cutN T lo) with
    | false => rw [delP, healP, if_neg (by rw [hhb]; simp)]; exact Int.le_refl _
    | true =>
      have h9 := hhb
      simp only [healB, decide_eq_true_eq] at h9
      have ha := ahead_at (T := dlJ S T lo hi) (R := cutN T lo) h9.1.1 (by omega)
      have hq := atP_at (T := dlJ S T lo hi) (R := cutN T lo) h9.1.2
      have e := two_at h9.1.1 ha hq
      rw [AT.rns_lsum, AT.rns_lsum, delP, healP_flat hhb, lsum_app, lsum_cons]
      have : lsum (dlJ S T lo hi).flat = lsum ((dlJ S T lo hi).flat.take (cutN T lo - 1)) + ((ahead (dlJ S T lo hi) (cutN T lo)).len + ((atP (dlJ S T lo hi) (cutN T lo)).len + lsum ((dlJ S T lo hi).flat.drop (cutN T lo + 1)))) := by
        conv => lhs; rw [e]
        rw [lsum_app, lsum_cons, lsum_cons]
      simp only [pcAt]
      omega
end Go.Proofs.YtbgngikejgihgagGreatDoor

namespace Go.Proofs.YtbgngikejgihgagGreatDoor
open Go Go.RowKit
set_option linter.unusedVariables false

set_option maxHeartbeats 2000000 in
set_option maxRecDepth 100000 in
theorem ptextS (B : Nat) (zs : List Int) (b o cap : Nat) (v : Value) (xs : List It) (w : World) (hc : At32 w b o zs) (hb : b < w.heap.size) (hz : zs.length ≤ 1048576) (hcap : zs.length ≤ cap) (hm : cap ≤ maxLen) (hr : RdI B w v xs) (hB : B ≤ w.heap.size) (hn : xs.length ≤ 8192) (hw : ∀ x ∈ xs, WP zs x.pc ∧ 1 ≤ x.pc.len) (ht : (txt zs xs).length ≤ 8192) :
    Calls Tryz.prog 35 #[.agg #[.slice (some ⟨b, o, none⟩) zs.length cap, v]] w fun e w' => ∃ v', e = .returned v' ∧ own32 w' w.heap.size v' (txt zs xs) ∧ Below w.heap.size w w' := by
  obtain ⟨i0, hi, hz0, hz1, hz2⟩ := info_parts Tryz.info32T
  obtain ⟨ao, cap', rfl⟩ := hr.val
  have HB0 := hide (((Below.refl w.heap.size w).alloc (Nat.le_refl _) (.cells #[.slice (some ⟨b, o, none⟩) zs.length cap, .slice ao xs.length cap'] 69)).alloc (by simp) (.cells #[] 21))
  have HC0 := hide (hc.below HB0.out hb)
  have hs0 : ((w.alloc (.cells #[.slice (some ⟨b, o, none⟩) zs.length cap, .slice ao xs.length cap'] 69)).alloc (.cells #[] 21)).heap.size = w.heap.size + 2 := by simp
  have hk0 : ((w.alloc (.cells #[.slice (some ⟨b, o, none⟩) zs.length cap, .slice ao xs.length cap'] 69)).alloc (.cells #[] 21)).heap[w.heap.size]? = some (.cells #[.slice (some ⟨b, o, none⟩) zs.length cap, .slice ao xs.length cap'] 69 (0, 0)) := (Below.heap_alloc _ _ _ (by simp)).trans (heap_alloc_new _ _)
  have O0 := own32_new (w.alloc (.cells #[.slice (some ⟨b, o, none⟩) zs.length cap, .slice ao xs.length cap'] 69))
  rw [World.size_alloc] at O0
  have HO0 := hide (show own32 _ (w.heap.size + 1) _ [] from O0)
  have c0 : ((w.alloc (.cells #[.slice (some ⟨b, o, none⟩) zs.length cap, .slice ao xs.length cap'] 69)).alloc (.cells #[] 21)).cell? ⟨w.heap.size, 1, none⟩ = some (.slice ao xs.length cap') := by rw [cell_of_row _ _ 1 _ _ _ hk0]; rfl
  have hcell : ∀ j, j < xs.length → ∃ b off x, ao = some ⟨b, off, none⟩ ∧ b < B ∧ xs[j]? = some x ∧ ItAt w b (off + j * 4) x := by
    intro j hj
    obtain ⟨b, off, cap', e, _, hb, hc⟩ := hr.at (by intro e; subst e; simp at hj)
    cases e
    obtain ⟨x, h1, h2⟩ := itAt_of (B := B) (cap := cap) hc hj
    exact ⟨b, off, x, rfl, hb, h1, h2⟩
  have HC := hide hcell
  have hcapx : xs.length ≤ cap' ∧ cap' ≤ maxLen ∨ xs.length = 0 := by
    rcases hr with ⟨_, _, e, rfl⟩ | ⟨_, _, _, e, hp, _⟩
    · right; rfl
    · cases e; left; exact ⟨hp.2.1, hp.2.2⟩
  unfold maxLen at hcapx hm
  have HW := hide hw
  have HTL : Hid (∀ j, (txt zs (xs.take j)).length ≤ 8192) := hide fun j => by
    have e := txt_append zs (xs.take j) (xs.drop j)
    rw [List.take_append_drop] at e
    rw [e, List.length_append] at ht
    omega
  have HK0 := hide hk0
  have HR0 := hide (hr.below HB0.out hB)
  generalize hN : xs.length = n at *
  generalize hNZ : zs.length = nz at *
  clear hr hcell hw hc O0 hk0 ht
  go_enter Tryz.func35, Tryz.ntmps35
  go_wp2_with fail
  generalize (w.alloc (.cells #[.slice (some ⟨b, o, none⟩) nz cap, .slice ao n cap'] 69)).alloc (.cells #[] 21) = w0 at *
  go_loopw [3, 11] (fun s i wr => ∃ j : Nat, j ≤ n ∧ i = .int .i64 j ∧ own32 wr (w.heap.size + 1) s (txt zs (xs.take j)) ∧ Below (w.heap.size + 1) w0 wr) (fun _ i _ => n - (intOf i).toNat)
  case atStart => exact ⟨0, Nat.zero_le _, rfl, HO0.out, Below.refl _ _⟩
  case round =>
    obtain ⟨j, hj, rfl, hoj, hbw⟩ := hrel
    have HOJ := hide hoj
    have HBW := hide hbw
    have hsw := hbw.size
    obtain ⟨asl, csl, rfl⟩ := own32_val hoj
    clear hbw hoj c0
    by_cases hjn : j < n
    · obtain ⟨b', off, x, rfl, hb', hx, a0, a1, a2, a3⟩ := HC.out j hjn
      have hjn' : (j : Int) < n := by omega
      have hx' := hide hx
      obtain ⟨⟨h1, h2, h3, h4⟩, h5⟩ := HW.out x (List.mem_iff_getElem?.2 ⟨j, hx⟩)
      rw [hNZ] at h3
      have hBw := (HB0.out.trans (HBW.out.mono (by omega)))
      have hbw2 : b' < w.heap.size := by omega
      have e0 := (hBw.cell (p := ⟨b', off + j * 4, none⟩) hbw2).trans a0
      have e1 := (hBw.cell (p := ⟨b', off + j * 4 + 1, none⟩) hbw2).trans a1
      have e2 := (hBw.cell (p := ⟨b', off + j * 4 + 2, none⟩) hbw2).trans a2
      have e3 := (hBw.cell (p := ⟨b', off + j * 4 + 3, none⟩) hbw2).trans a3
      have hbr : b' < wr.heap.size := by omega
      have HTJ := hide (HTL.out j)
      have HTJ1 := hide (HTL.out (j + 1))
      have ETX := hide (show txt zs (xs.take (j + 1)) = txt zs (xs.take j) ++ ptx zs x.pc by rw [take_succ_of hx]; rw [txt_append]; simp [txt])
      clear a0 a1 a2 a3 hx hBw h4
      obtain ⟨⟨po, pl, pb⟩, lv⟩ := x
      simp only at *
      obtain ⟨q, rfl⟩ : ∃ q : Nat, po = q := ⟨po.toNat, by omega⟩
      obtain ⟨l, rfl⟩ : ∃ l : Nat, pl = l := ⟨pl.toNat, by omega⟩
      have HBA := hide (HBW.out.alloc (by omega) (.cells #[.int .i64 (q : Int), .int .i64 (l : Int), .int .i64 pb, .int .i64 lv] 145))
      have KA : (wr.alloc (.cells #[.int .i64 (q : Int), .int .i64 (l : Int), .int .i64 pb, .int .i64 lv] 145)).heap[wr.heap.size]? = some (.cells #[.int .i64 (q : Int), .int .i64 (l : Int), .int .i64 pb, .int .i64 lv] 145 (0, 0)) := heap_alloc_new _ _
      have d0 : (wr.alloc (.cells #[.int .i64 (q : Int), .int .i64 (l : Int), .int .i64 pb, .int .i64 lv] 145)).cell? ⟨wr.heap.size, 0, none⟩ = some (.int .i64 (q : Int)) := by rw [cell_of_row _ _ 0 _ _ _ KA]; rfl
      have d1 : (wr.alloc (.cells #[.int .i64 (q : Int), .int .i64 (l : Int), .int .i64 pb, .int .i64 lv] 145)).cell? ⟨wr.heap.size, 1, none⟩ = some (.int .i64 (l : Int)) := by rw [cell_of_row _ _ 1 _ _ _ KA]; rfl
      have c0 : (wr.alloc (.cells #[.int .i64 (q : Int), .int .i64 (l : Int), .int .i64 pb, .int .i64 lv] 145)).cell? ⟨w.heap.size, 0, none⟩ = some (.slice (some ⟨b, o, none⟩) nz cap) := by rw [HBA.out.cell (p := ⟨w.heap.size, 0, none⟩) (by show w.heap.size < w.heap.size + 1; omega), cell_of_row w0 _ 0 _ _ _ HK0.out]; rfl
      have HOA := hide (show own32 _ (w.heap.size + 1) _ _ from World.ownsRow.alloc HOJ.out (.cells #[.int .i64 (q : Int), .int .i64 (l : Int), .int .i64 pb, .int .i64 lv] 145))
      have HCA := hide ((HC0.out.below HBA.out (by omega)).app q l (by omega))
      have hsa : (wr.alloc (.cells #[.int .i64 (q : Int), .int .i64 (l : Int), .int .i64 pb, .int .i64 lv] 145)).heap.size = wr.heap.size + 1 := by simp
      have hlw : w.heap.size < wr.heap.size := by omega
      have g1 : (q : Int) ≤ (q : Int) + (l : Int) := by omega
      have g2 : (q : Int) + (l : Int) ≤ (cap : Int) := by omega
      have g3 : ¬ cap = q := by omega
      have g4 : (0 : Int) ≤ (q : Int) + (l : Int) := by omega
      have hll : ((zs.drop q).take l).length = l := by rw [List.length_take, List.length_drop]; omega
      have HLL := hide (show ((zs.drop q).take l).length = q + l - q by rw [hll]; omega)
      simp only [ptx, Int.toNat_natCast] at ETX
      have htj := HTJ.out
      have htj1 := HTJ1.out
      rw [ETX.out, List.length_append, hll] at htj1
      have HLE := hide (show (ints .i32 ((zs.drop q).take l)).length = (q + l - q) * 1 by rw [ints_length, hll]; omega)
      clear KA HTJ HTJ1 hll
      generalize hU : (zs.drop q).take l = U at *
      generalize hV : txt zs (xs.take j) = V at *
      generalize hVL : V.length = vl at *
      go_wp2_with (at_builtin; refine wpList_append_own _ rfl _ _ 36 rfl (w.heap.size + 1) 21 i0 (.int .i32 0) 1 4 Tryz.underlying36 hi hz0 hz1 hz2 rfl (by decide) _ vl (ints .i32 V) rfl (by have h9 := HOA.out; unfold own32 at h9; rw [hVL] at h9; exact h9) ⟨b, o + q, none⟩ (q + l - q) (cap - q) (ints .i32 U) rfl HLE.out HCA.out (ints_one _ _) (by unfold maxLen; omega) (by omega) (by omega) ?_; intro v2 w2 hown' hgrow _)
      have HON := hide (show own32 w2 (w.heap.size + 1) v2 (txt zs (xs.take (j + 1))) by rw [ETX.out]; exact own32_app hVL HLL.out hown')
      have HBN := hide (HBA.out.grown hgrow (by omega) (fun r hr => (HOA.out.lt r hr).1))
      clear hown' hgrow
      go_wp2
      go_roundw
      case rel => exact ⟨j + 1, by omega, by go_num, HON.out, HBN.out⟩
      case measure => simp [intOf]; omega
    · obtain rfl : j = n := by omega
      have hge : ¬ (j : Int) < (j : Int) := by omega
      have e : xs.take j = xs := List.take_of_length_le (by omega)
      rw [e] at HOJ ⊢
      clear e
      go_wp2
      go_ret
      exact ⟨_, rfl, owns_base HOJ.out (by omega), HB0.out.trans (HBW.out.mono (by omega))⟩
end Go.Proofs.YtbgngikejgihgagGreatDoor

import Derived.WalkKit
import Derived.Test.YtbgngikejgihgagGreatDoorMq27
import Derived.Test.YtbgngikejgihgagGreatDoorMq37
import Derived.Test.YtbgngikejgihgagGreatDoorMq07
import Derived.Test.YtbgngikejgihgagGreatDoorMq11
import Derived.Test.YtbgngikejgihgagGreatDoorMq30
import Derived.Test.YtbgngikejgihgagGreatDoorMq32
namespace Go.Proofs.YtbgngikejgihgagGreatDoor
open Go Go.RowKit
set_option linter.unusedVariables false

theorem lsum_succ {F : List Pc} {r : Nat} {p : Pc} (h : F[r]? = some p) : lsum (F.take (r + 1)) = lsum (F.take r) + p.len := by
  have hr := (split_at h).2
  conv => lhs; rw [(split_at h).1]
  rw [take_mid _ _ _ _ (by rw [List.length_take]; omega), lsum_app, lsum_cons, lsum_nil]
  omega
/-- A search that ends between two pieces. -/
theorem sk_bound {T : AT} {off : Int} {R : Nat} (h : T.ok) (hR : R ≤ T.its) (hl : lsum (T.flat.take R) = off) : skI T off = 0 ∧ skR T off = R := by
  have hp := flat_pos h
  have hfl := AT.flat_its T
  have h0 : 0 ≤ off := by rw [← hl]; exact lsum_nn fun q hq => hp q (List.mem_of_mem_take hq)
  have h1 : off ≤ T.rns := by
    rw [AT.rns_lsum, ← hl]
    have := lsum_take_le hp (show R ≤ T.flat.length by omega)
    rwa [List.take_length] at this
  obtain ⟨a, s, c⟩ := sk_at h h0 h1
  have hi : skI T off = 0 := by
    rcases Decidable.em (skI T off = 0) with hi | hi
    · exact hi
    · exfalso
      obtain ⟨c1, c2, c3⟩ := c.resolve_left hi
      have e := lsum_succ c3
      rcases Nat.lt_or_ge (skR T off) R with q | q
      · have := lsum_take_le hp (show skR T off + 1 ≤ R from q); omega
      · have := lsum_take_le hp q; omega
  refine ⟨hi, ?_⟩
  rw [hi] at s
  rcases Nat.lt_trichotomy (skR T off) R with q | q | q
  · have := lsum_take_lt hp q (by omega); omega
  · exact q
  · have := lsum_take_lt hp q (by omega); omega
/-- A search that ends inside a piece. -/
theorem sk_inner {T : AT} {off i : Int} {r : Nat} {p : Pc} (h : T.ok) (hp : T.flat[r]? = some p) (hl : lsum (T.flat.take r) = off - i) (hi0 : 0 < i) (hi1 : i < p.len) : skI T off = i ∧ skR T off = r ∧ skP T off = p := by
  have hps := flat_pos h
  have hfl := AT.flat_its T
  have hr := (split_at hp).2
  have e := lsum_succ hp
  have h0 : 0 ≤ off := by
    have := lsum_nn (F := T.flat.take r) fun q hq => hps q (List.mem_of_mem_take hq)
    omega
  have h1 : off ≤ T.rns := by
    rw [AT.rns_lsum]
    have := lsum_take_le hps (show r + 1 ≤ T.flat.length by omega)
    rw [List.take_length] at this
    omega
  obtain ⟨a, s, c⟩ := sk_at h h0 h1
  have hi : skI T off ≠ 0 := by
    intro hi
    rw [hi] at s
    rcases Nat.lt_or_ge r (skR T off) with q | q
    · have := lsum_take_le hps (show r + 1 ≤ skR T off from q); omega
    · have := lsum_take_le hps q; omega
  obtain ⟨c1, c2, c3⟩ := c.resolve_left hi
  have e2 := lsum_succ c3
  have hrr : skR T off = r := by
    rcases Nat.lt_trichotomy (skR T off) r with q | q | q
    · have := lsum_take_le hps (show skR T off + 1 ≤ r from q); omega
    · exact q
    · have := lsum_take_le hps (show r + 1 ≤ skR T off from q); omega
  rw [hrr] at s c3
  refine ⟨by omega, hrr, ?_⟩
  rw [hp] at c3; exact (Option.some.inj c3).symm

theorem take_insm {C : List Pc} {a : Nat} (x : Pc) (ha : a ≤ C.length) : (C.take a ++ x :: C.drop a).take a = C.take a ∧ (C.take a ++ x :: C.drop a).take (a + 1) = C.take a ++ [x] ∧ (C.take a ++ x :: C.drop a).drop (a + 1) = C.drop a := by
  have hl : (C.take a).length = a := by rw [List.length_take]; omega
  refine ⟨?_, take_mid _ _ _ _ hl, ?_⟩
  · rw [List.take_append_of_le_length (by omega), List.take_of_length_le (by omega)]
  · have : ∀ (A B : List Pc) (y : Pc) (n : Nat), A.length = n → (A ++ y :: B).drop (n + 1) = B := by
      intro A B y n hn
      subst hn
      rw [List.drop_length_add_append]; rfl
    exact this _ _ _ _ hl

/-- What was put in is taken out again: the pieces that stood around it. -/
theorem dlJ_mid {S : List Int} {T : AT} {off : Int} {m a : Nat} {C : List Pc} {x : Pc} (h : T.ok) (hb : T.bal) (hw : T.wp S) (hS : S.length ≤ 220000) (h0 : 0 ≤ off) (hr : off + m ≤ T.rns) (hF : (cutP S T off).flat = C.take a ++ x :: C.drop a) (ha : a ≤ C.length) (hl : lsum (C.take a) = off) (hx : x.len = (m : Int)) (hN : cutN T off = a) :
    (dlJ S T off (off + m)).flat = C := by
  have F := delF h hb hw hS h0 (show off ≤ off + m by omega) hr
  obtain ⟨t1, t2, t3⟩ := take_insm x ha
  have hits : a + 1 ≤ (cutP S T off).its := by
    rw [← AT.flat_its, hF, List.length_append, List.length_take, List.length_cons]; omega
  have hs := sk_bound (R := a + 1) (off := off + m) F.ok1 hits (by rw [hF, t2, lsum_app, lsum_cons, lsum_nil, hl, hx]; omega)
  have e2 : dl2 S T off (off + m) = cutP S T off := by rw [dl2, cutP, if_pos hs.1]
  have ez : dlZ S T off (off + m) = a + 1 := by rw [dlZ, cutN, if_pos hs.1, hs.2]
  have hle : cutN T off ≤ (dl2 S T off (off + m)).its := F.a2
  have sf := AT.split_flat (dl2 S T off (off + m)) (cutN T off) hle
  have fX : (dlX S T off (off + m)).flat = C.take a := by
    have : (dlX S T off (off + m)).flat = (dl2 S T off (off + m)).flat.take (cutN T off) := sf.1
    rw [this, e2, hF, hN, t1]
  have fY : (dlY S T off (off + m)).flat = (dl2 S T off (off + m)).flat.drop (cutN T off) := sf.2
  have hyi := F.yits
  have hz2 := F.z2
  have haz := F.az
  have sf2 := AT.split_flat (dlY S T off (off + m)) (dlZ S T off (off + m) - cutN T off) (by omega)
  have fW : (dlW S T off (off + m)).flat = C.drop a := by
    have h9 : (dlW S T off (off + m)).flat = (dlY S T off (off + m)).flat.drop (dlZ S T off (off + m) - cutN T off) := sf2.2
    rw [h9, fY, List.drop_drop, show cutN T off + (dlZ S T off (off + m) - cutN T off) = a + 1 by omega, e2, hF, t3]
  rw [dlJ, AT.join_flat, fX, fW, List.take_append_drop]

/-- What comes back: the pieces of before, or two of them made one. -/
def Back (S : List Int) (F G : List Pc) : Prop := G = F ∨ ∃ r p q, F[r]? = some p ∧ F[r + 1]? = some q ∧ p.off + p.len = q.off ∧ G = F.take r ++ pcAt S p.off (p.len + q.len) :: F.drop (r + 2)

theorem heal_back {zs ts : List Int} {T : AT} {off : Int} (h : T.ok) (hb : T.bal) (hw : T.wp zs) (h0 : 0 ≤ off) (h1 : off ≤ T.rns) (hm : 0 < ts.length) (hr : T.rns + ts.length ≤ 8192) (hS : zs.length + ts.length ≤ 220000) (hrn : off + ts.length ≤ (insP (zs ++ ts) zs.length T off).rns) :
    Back (zs ++ ts) T.flat (delP (zs ++ ts) (insP (zs ++ ts) zs.length T off) off (off + ts.length)).flat := by
  have hSl : (zs ++ ts).length = zs.length + ts.length := List.length_append
  have hwS := hw.app ts
  have hmS : ((zs ++ ts).length : Int) - (zs.length : Int) = (ts.length : Int) := by omega
  have okI : (insP (zs ++ ts) zs.length T off).ok := insP_ok h hwS h0 h1 (by omega) (by omega) (by omega)
  have balI : (insP (zs ++ ts) zs.length T off).bal := insP_bal hb
  have hp := flat_pos h
  have hfl := AT.flat_its T
  have hwz := (wp_flat zs T).1 hw
  have hwf := (wp_flat (zs ++ ts) T).1 hwS
  by_cases hcase : ∃ r y, cutN T off = r + 1 ∧ (T.told 0)[r]? = some y ∧ total ((T.told 0).take (cutN T off)) = off ∧ y.pc.off + y.pc.len = (zs.length : Int)
  · obtain ⟨r, y, hR, hy, ht, hme⟩ := hcase
    have hI := insP_meet (S := zs ++ ts) h h0 h1 hR hy ht hme
    rw [hmS] at hI
    have hf : T.flat[r]? = some y.pc := by rw [← AT.flat_of T 0, List.getElem?_map, hy]; rfl
    have hrl := (split_at hf).2
    rw [total_take, hR, lsum_succ hf] at ht
    have hlr : ((T.flat).take r).length = r := by rw [List.length_take]; omega
    have hpl := hp _ (List.mem_of_getElem? hf)
    have fI : (insP (zs ++ ts) zs.length T off).flat = T.flat.take r ++ pcAt (zs ++ ts) y.pc.off (y.pc.len + (ts.length : Int)) :: T.flat.drop (r + 1) := by rw [hI, put_flat' T r _ _ hf]
    have g1 : (insP (zs ++ ts) zs.length T off).flat[r]? = some (pcAt (zs ++ ts) y.pc.off (y.pc.len + (ts.length : Int))) := by
      rw [fI, List.getElem?_append_right (by omega), hlr, Nat.sub_self, List.getElem?_cons_zero]
    have g2 : (insP (zs ++ ts) zs.length T off).flat.take r = T.flat.take r := by rw [fI, List.take_append_of_le_length (by omega), List.take_of_length_le (by omega)]
    have g3 : (insP (zs ++ ts) zs.length T off).flat.drop (r + 1) = T.flat.drop (r + 1) := by
      rw [fI]
      have : ∀ (A B : List Pc) (z : Pc) (n : Nat), A.length = n → (A ++ z :: B).drop (n + 1) = B := by
        intro A B z n hn
        subst hn
        rw [List.drop_length_add_append]; rfl
      exact this _ _ _ _ hlr
    have hsk := sk_inner (i := y.pc.len) (off := off) okI g1 (by rw [g2]; omega) (by omega) (by simp only [pcAt]; omega)
    have hne : skI (insP (zs ++ ts) zs.length T off) off ≠ 0 := by rw [hsk.1]; omega
    have hrns : off ≤ (insP (zs ++ ts) zs.length T off).rns := by omega
    have wpI : (insP (zs ++ ts) zs.length T off).wp (zs ++ ts) := by
      refine (wp_flat _ _).2 fun p hp => ?_
      rw [fI] at hp
      simp only [List.mem_append, List.mem_cons] at hp
      rcases hp with hp | rfl | hp
      · exact hwf _ (List.mem_of_mem_take hp)
      · have := (hwf _ (List.mem_of_getElem? hf)).1
        exact pcAt_wp this (by omega) (by omega)
      · exact hwf _ (List.mem_of_mem_drop hp)
    have hcf := cutP_flat (S := zs ++ ts) okI h0 hrns hne
    rw [hsk.1, hsk.2.1, hsk.2.2, g2, g3] at hcf
    have e1 : pcAt (zs ++ ts) (pcAt (zs ++ ts) y.pc.off (y.pc.len + (ts.length : Int))).off y.pc.len = y.pc := pcAt_of (hwf _ (List.mem_of_getElem? hf))
    rw [e1] at hcf
    have etk : T.flat.take (r + 1) = T.flat.take r ++ [y.pc] := by
      conv => lhs; rw [(split_at hf).1]
      exact take_mid _ _ _ _ hlr
    have hJ := dlJ_mid (S := zs ++ ts) (a := r + 1) (C := T.flat) (m := ts.length) okI balI wpI (by omega) h0 hrn (x := pcAt (zs ++ ts) ((pcAt (zs ++ ts) y.pc.off (y.pc.len + (ts.length : Int))).off + y.pc.len) ((pcAt (zs ++ ts) y.pc.off (y.pc.len + (ts.length : Int))).len - y.pc.len)) (by rw [hcf, etk, List.append_assoc]; rfl) (by omega) (by rw [lsum_succ hf]; exact ht) (by simp only [pcAt]; omega) (by rw [cutN, if_neg hne, hsk.2.1])
    have ha : cutN (insP (zs ++ ts) zs.length T off) off = r + 1 := by rw [cutN, if_neg hne, hsk.2.1]
    left
    rw [delP, ha, healP, if_neg]
    · exact hJ
    · simp only [healB, decide_eq_true_eq]
      rintro ⟨⟨_, q2⟩, q3⟩
      rw [← AT.flat_its, hJ] at q2
      rw [ahead, atP, hJ, Nat.add_sub_cancel, List.getD_eq_getElem?_getD, List.getD_eq_getElem?_getD, hf, List.getElem?_eq_getElem q2] at q3
      have hq := hwz _ (List.getElem_mem q2)
      have hq2 := hp _ (List.getElem_mem q2)
      have := hq.2.2.1
      simp only [Option.getD_some] at q3
      omega
  · have hI := insP_more (S := zs ++ ts) h (fun p hp => (hwz p hp).2.2.1) h0 h1 hcase
    rw [hmS] at hI
    obtain ⟨hA1, hA2⟩ := cutN_at (S := zs ++ ts) h h0 h1
    have fI : (insP (zs ++ ts) zs.length T off).flat = (cutP (zs ++ ts) T off).flat.take (cutN T off) ++ pcAt (zs ++ ts) (zs.length : Int) (ts.length : Int) :: (cutP (zs ++ ts) T off).flat.drop (cutN T off) := by rw [hI, AT.ins_flat _ _ _ hA1]
    have hA1' : cutN T off ≤ (cutP (zs ++ ts) T off).flat.length := by rw [AT.flat_its]; exact hA1
    obtain ⟨t1, t2, t3⟩ := take_insm (pcAt (zs ++ ts) (zs.length : Int) (ts.length : Int)) hA1'
    have hsk := sk_bound (R := cutN T off) (off := off) okI (by rw [← AT.flat_its, fI, List.length_append, List.length_take, List.length_cons]; omega) (by rw [fI, t1]; exact hA2)
    have wpC := (wp_flat _ _).1 (cutP_wp (S := zs ++ ts) h hwS h0 h1)
    have wpI : (insP (zs ++ ts) zs.length T off).wp (zs ++ ts) := by
      refine (wp_flat _ _).2 fun p hp => ?_
      rw [fI] at hp
      simp only [List.mem_append, List.mem_cons] at hp
      rcases hp with hp | rfl | hp
      · exact wpC _ (List.mem_of_mem_take hp)
      · exact pcAt_wp (by omega) (by omega) (by omega)
      · exact wpC _ (List.mem_of_mem_drop hp)
    have hcc : cutP (zs ++ ts) (insP (zs ++ ts) zs.length T off) off = insP (zs ++ ts) zs.length T off := by rw [cutP, if_pos hsk.1]
    have hcn : cutN (insP (zs ++ ts) zs.length T off) off = cutN T off := by rw [cutN, if_pos hsk.1, hsk.2]; rfl
    have hJ := dlJ_mid (S := zs ++ ts) (a := cutN T off) (C := (cutP (zs ++ ts) T off).flat) (m := ts.length) (x := pcAt (zs ++ ts) (zs.length : Int) (ts.length : Int)) okI balI wpI (by omega) h0 hrn (by rw [hcc, fI]) hA1' hA2 rfl hcn
    by_cases hi : skI T off = 0
    · have eC : cutP (zs ++ ts) T off = T := by rw [cutP, if_pos hi]
      rw [eC] at hJ
      cases hhb : healB (dlJ (zs ++ ts) (insP (zs ++ ts) zs.length T off) off (off + ts.length)) (cutN T off) with
      | false =>
        left
        rw [delP, hcn, healP, if_neg (by rw [hhb]; simp)]
        exact hJ
      | true =>
        right
        have hhb' := hhb
        simp only [healB, decide_eq_true_eq] at hhb'
        obtain ⟨⟨q1, q2⟩, q3⟩ := hhb'
        have ha := ahead_at (T := dlJ (zs ++ ts) (insP (zs ++ ts) zs.length T off) off (off + ts.length)) (R := cutN T off) q1 (by omega)
        have hq := atP_at (T := dlJ (zs ++ ts) (insP (zs ++ ts) zs.length T off) off (off + ts.length)) (R := cutN T off) q2
        rw [hJ] at ha hq
        refine ⟨cutN T off - 1, _, _, ha, by rw [show cutN T off - 1 + 1 = cutN T off by omega]; exact hq, q3, ?_⟩
        rw [delP, hcn, healP_flat hhb, hJ, show cutN T off - 1 + 2 = cutN T off + 1 by omega]
    · obtain ⟨c0, s, c⟩ := sk_at h h0 h1
      obtain ⟨c1, c2, c3⟩ := c.resolve_left hi
      have hrl := (split_at c3).2
      have hlr : ((T.flat).take (skR T off)).length = skR T off := by rw [List.length_take]; omega
      have hcf := cutP_flat (S := zs ++ ts) h h0 h1 hi
      have hna : cutN T off = skR T off + 1 := by rw [cutN, if_neg hi]
      have hJl : (dlJ (zs ++ ts) (insP (zs ++ ts) zs.length T off) off (off + ts.length)).its = T.flat.length + 1 := by
        rw [← AT.flat_its, hJ, hcf, List.length_append, List.length_cons, List.length_cons, List.length_drop, hlr]; omega
      have eA : ahead (dlJ (zs ++ ts) (insP (zs ++ ts) zs.length T off) off (off + ts.length)) (cutN T off) = pcAt (zs ++ ts) (skP T off).off (skI T off) := by
        rw [ahead, hJ, hna, Nat.add_sub_cancel, List.getD_eq_getElem?_getD, hcf, List.getElem?_append_right (by omega), hlr, Nat.sub_self]; rfl
      have eP : atP (dlJ (zs ++ ts) (insP (zs ++ ts) zs.length T off) off (off + ts.length)) (cutN T off) = pcAt (zs ++ ts) ((skP T off).off + skI T off) ((skP T off).len - skI T off) := by
        rw [atP, hJ, hna, List.getD_eq_getElem?_getD, hcf, List.getElem?_append_right (by omega), hlr, show skR T off + 1 - skR T off = 1 by omega]; rfl
      have hhb : healB (dlJ (zs ++ ts) (insP (zs ++ ts) zs.length T off) off (off + ts.length)) (cutN T off) = true := by
        simp only [healB, decide_eq_true_eq]
        refine ⟨⟨by omega, by omega⟩, ?_⟩
        rw [eA, eP]
        rfl
      left
      rw [delP, hcn, healP_flat hhb, hJ, eA, eP, hna, Nat.add_sub_cancel, hcf, List.take_append_of_le_length (by omega), List.take_of_length_le (by omega)]
      have ed : (T.flat.take (skR T off) ++ pcAt (zs ++ ts) (skP T off).off (skI T off) :: pcAt (zs ++ ts) ((skP T off).off + skI T off) ((skP T off).len - skI T off) :: T.flat.drop (skR T off + 1)).drop (skR T off + 1 + 1) = T.flat.drop (skR T off + 1) := by
        have : ∀ (A B : List Pc) (z1 z2 : Pc) (n : Nat), A.length = n → (A ++ z1 :: z2 :: B).drop (n + 1 + 1) = B := by
          intro A B z1 z2 n hn
          subst hn
          rw [Nat.add_assoc, List.drop_length_add_append]; rfl
        exact this _ _ _ _ _ hlr
      rw [ed]
      have ep : pcAt (zs ++ ts) (pcAt (zs ++ ts) (skP T off).off (skI T off)).off ((pcAt (zs ++ ts) (skP T off).off (skI T off)).len + (pcAt (zs ++ ts) ((skP T off).off + skI T off) ((skP T off).len - skI T off)).len) = skP T off := by
        have := pcAt_of (hwf _ (List.mem_of_getElem? c3))
        simp only [pcAt] at this ⊢
        rw [show skI T off + ((skP T off).len - skI T off) = (skP T off).len by omega]
        exact this
      rw [ep]
      exact (split_at c3).1.symm

theorem Back.len {S : List Int} {F G : List Pc} (h : Back S F G) : G.length ≤ F.length := by
  rcases h with rfl | ⟨r, p, q, hp, hq, _, rfl⟩
  · exact Nat.le_refl _
  · have := (split_at hq).2
    rw [List.length_append, List.length_take, List.length_cons, List.length_drop]; omega
end Go.Proofs.YtbgngikejgihgagGreatDoor

namespace Go.Proofs.YtbgngikejgihgagGreatDoor
open Go Go.RowKit
set_option linter.unusedVariables false

theorem told_memH {T : AT} {d : Int} {x : It} (h : x ∈ T.told d) : x.pc ∈ T.flat := by
  rw [← AT.flat_of T d]; exact List.mem_map.2 ⟨x, h, rfl⟩
theorem readT_toldH (T : AT) (hb : T.bal) (hok : T.ok) : readT (T.told 0) = some T := by
  have hits : (T.told 0).length = T.its := AT.told_length T 0
  have bd := hok.bd
  have hp := parse_complete T 8200 0 [] hb (by have := AT.bal_low T hb (by omega); omega) (fun y yt h => by cases h)
  rw [List.append_nil] at hp
  unfold readT
  rw [if_pos, hp]
  simp only [okI, Bool.and_eq_true, decide_eq_true_eq]
  refine ⟨List.all_eq_true.2 fun x hx => ?_, by rw [AT.rns_told]; exact hok.2⟩
  have h1 := hok.1 x.pc (told_memH hx)
  have h2 := AT.told_lv T 0 x hx
  have h3 := AT.ht_its T
  simp only [Bool.and_eq_true, decide_eq_true_eq]
  exact ⟨h1, by omega, by omega⟩
/-- A tree that keeps its bounds is read. -/
theorem pRead_told {S : List Int} {T : AT} (hb : T.bal) (hok : T.ok) (hw : T.wp S) (hS : S.length ≤ 220000) : pRead S (T.told 0) = some T := by
  unfold pRead
  rw [readT_toldH T hb hok]
  simp only
  rw [if_pos]
  refine ⟨hS, List.all_eq_true.2 fun x hx => ?_⟩
  have hm := told_memH hx
  exact (wpB_iff (hok.1 _ hm)).2 ((wp_flat S T).1 hw _ hm)

theorem tx_flat (S : List Int) : ∀ T : AT, T.tx S = T.flat.flatMap (ptx S)
  | .nil => rfl
  | .node l p r => by simp only [AT.tx, AT.flat, List.flatMap_append, List.flatMap_cons, tx_flat S l, tx_flat S r]
theorem ptx_two {S : List Int} {p q : Pc} (hp : WP S p) (hq : WP S q) (hm : p.off + p.len = q.off) : ptx S (pcAt S p.off (p.len + q.len)) = ptx S p ++ ptx S q := by
  obtain ⟨a1, a2, a3, _⟩ := hp
  obtain ⟨b1, b2, b3, _⟩ := hq
  unfold ptx pcAt
  simp only
  rw [show (p.len + q.len).toNat = p.len.toNat + q.len.toNat by omega, List.take_add, List.drop_drop, show p.off.toNat + p.len.toNat = q.off.toNat by omega]
theorem Back.tx {S : List Int} {T R : AT} (h : Back S T.flat R.flat) (hw : T.wp S) : R.tx S = T.tx S := by
  have hwf := (wp_flat S T).1 hw
  rw [tx_flat, tx_flat]
  rcases h with e | ⟨r, p, q, hp, hq, hm, e⟩
  · rw [e]
  · rw [e]
    have e2 := two_at (R := r + 1) (by omega) (by rw [Nat.add_sub_cancel]; exact hp) hq
    rw [Nat.add_sub_cancel] at e2
    conv => rhs; rw [e2]
    rw [List.flatMap_append, List.flatMap_append, List.flatMap_cons, List.flatMap_cons, List.flatMap_cons, ptx_two (hwf _ (List.mem_of_getElem? hp)) (hwf _ (List.mem_of_getElem? hq)) hm, List.append_assoc]
theorem Back.wp {S : List Int} {T R : AT} (h : Back S T.flat R.flat) (hw : T.wp S) : R.wp S := by
  have hwf := (wp_flat S T).1 hw
  refine (wp_flat S R).2 fun x hx => ?_
  rcases h with e | ⟨r, p, q, hp, hq, hm, e⟩
  · rw [e] at hx; exact hwf x hx
  · rw [e] at hx
    simp only [List.mem_append, List.mem_cons] at hx
    rcases hx with hx | rfl | hx
    · exact hwf x (List.mem_of_mem_take hx)
    · have a := hwf _ (List.mem_of_getElem? hp)
      have b := hwf _ (List.mem_of_getElem? hq)
      exact pcAt_wp a.1 (by have := a.2.1; have := b.2.1; omega) (by have := b.2.2.1; omega)
    · exact hwf x (List.mem_of_mem_drop hx)
theorem ptx_app {zs : List Int} {p : Pc} (h : WP zs p) (ts : List Int) : ptx (zs ++ ts) p = ptx zs p := by
  obtain ⟨h1, h2, h3, h4⟩ := h
  unfold ptx
  rw [List.drop_append_of_le_length (by omega), List.take_append_of_le_length (by rw [List.length_drop]; omega)]
theorem tx_app {zs : List Int} {T : AT} (h : T.wp zs) (ts : List Int) : T.tx (zs ++ ts) = T.tx zs := by
  rw [tx_flat, tx_flat]
  have hwf := (wp_flat zs T).1 h
  have : ∀ F : List Pc, (∀ p ∈ F, WP zs p) → F.flatMap (ptx (zs ++ ts)) = F.flatMap (ptx zs) := by
    intro F
    induction F with
    | nil => intro _; rfl
    | cons p F ih => intro hF; rw [List.flatMap_cons, List.flatMap_cons, ptx_app (hF p (by simp)) ts, ih (fun q hq => hF q (by simp [hq]))]
  exact this _ hwf

/-- What is put in. -/
theorem insP_wp_rns {zs ts : List Int} {T : AT} {off : Int} (h : T.ok) (hw : T.wp zs) (h0 : 0 ≤ off) (h1 : off ≤ T.rns) (hm : 0 < ts.length) :
    (insP (zs ++ ts) zs.length T off).wp (zs ++ ts) ∧ (insP (zs ++ ts) zs.length T off).rns = T.rns + ts.length ∧ (insP (zs ++ ts) zs.length T off).its ≤ T.its + 2 := by
  have hSl : (zs ++ ts).length = zs.length + ts.length := List.length_append
  have hwS := hw.app ts
  have hmS : ((zs ++ ts).length : Int) - (zs.length : Int) = (ts.length : Int) := by omega
  have hwz := (wp_flat zs T).1 hw
  have hwf := (wp_flat (zs ++ ts) T).1 hwS
  by_cases hcase : ∃ r y, cutN T off = r + 1 ∧ (T.told 0)[r]? = some y ∧ total ((T.told 0).take (cutN T off)) = off ∧ y.pc.off + y.pc.len = (zs.length : Int)
  · obtain ⟨r, y, hR, hy, ht, hme⟩ := hcase
    have hI := insP_meet (S := zs ++ ts) h h0 h1 hR hy ht hme
    rw [hmS] at hI
    have hf : T.flat[r]? = some y.pc := by rw [← AT.flat_of T 0, List.getElem?_map, hy]; rfl
    have fI := put_flat' T r (pcAt (zs ++ ts) y.pc.off (y.pc.len + (ts.length : Int))) _ hf
    have hpl := flat_pos h _ (List.mem_of_getElem? hf)
    rw [hI]
    refine ⟨?_, ?_, by rw [AT.put_its]; omega⟩
    · refine (wp_flat _ _).2 fun p hp => ?_
      rw [fI] at hp
      simp only [List.mem_append, List.mem_cons] at hp
      rcases hp with hp | rfl | hp
      · exact hwf _ (List.mem_of_mem_take hp)
      · have := (hwf _ (List.mem_of_getElem? hf)).1
        exact pcAt_wp this (by omega) (by omega)
      · exact hwf _ (List.mem_of_mem_drop hp)
    · rw [AT.rns_lsum, AT.rns_lsum, fI, lsum_app, lsum_cons]
      have e := (split_at hf).1
      have : lsum T.flat = lsum (T.flat.take r) + (y.pc.len + lsum (T.flat.drop (r + 1))) := by
        conv => lhs; rw [e]
        rw [lsum_app, lsum_cons]
      simp only [pcAt]
      omega
  · have hI := insP_more (S := zs ++ ts) h (fun p hp => (hwz p hp).2.2.1) h0 h1 hcase
    rw [hmS] at hI
    obtain ⟨hA1, hA2⟩ := cutN_at (S := zs ++ ts) h h0 h1
    have fI : (insP (zs ++ ts) zs.length T off).flat = (cutP (zs ++ ts) T off).flat.take (cutN T off) ++ pcAt (zs ++ ts) (zs.length : Int) (ts.length : Int) :: (cutP (zs ++ ts) T off).flat.drop (cutN T off) := by rw [hI, AT.ins_flat _ _ _ hA1]
    have wpC := (wp_flat _ _).1 (cutP_wp (S := zs ++ ts) h hwS h0 h1)
    refine ⟨?_, ?_, ?_⟩
    · refine (wp_flat _ _).2 fun p hp => ?_
      rw [fI] at hp
      simp only [List.mem_append, List.mem_cons] at hp
      rcases hp with hp | rfl | hp
      · exact wpC _ (List.mem_of_mem_take hp)
      · exact pcAt_wp (by omega) (by omega) (by omega)
      · exact wpC _ (List.mem_of_mem_drop hp)
    · rw [AT.rns_lsum, fI, lsum_app, lsum_cons]
      have e1 := cutP_len (S := zs ++ ts) h h0 h1
      have e2 : lsum (cutP (zs ++ ts) T off).flat = lsum ((cutP (zs ++ ts) T off).flat.take (cutN T off)) + lsum ((cutP (zs ++ ts) T off).flat.drop (cutN T off)) := by rw [← lsum_app, List.take_append_drop]
      rw [AT.rns_lsum]
      simp only [pcAt]
      omega
    · have e3 : (cutP (zs ++ ts) T off).its ≤ T.its + 1 := by
        by_cases hi : skI T off = 0
        · rw [cutP, if_pos hi]; omega
        · rw [← AT.flat_its, cutP_flat h h0 h1 hi, List.length_append, List.length_cons, List.length_cons, List.length_take, List.length_drop, AT.flat_its]
          obtain ⟨c0, s, c⟩ := sk_at h h0 h1
          have := (split_at (c.resolve_left hi).2.2).2
          rw [AT.flat_its] at this
          omega
      have e4 : (cutP (zs ++ ts) T off).flat.length = (cutP (zs ++ ts) T off).its := AT.flat_its _
      rw [← AT.flat_its, fI, List.length_append, List.length_cons, List.length_take, List.length_drop]; omega

theorem healP_bal {S : List Int} {T : AT} {R : Nat} (h : T.bal) : (healP S T R).bal := by
  cases hb : healB T R with
  | false => rw [healP, if_neg (by rw [hb]; simp)]; exact h
  | true =>
    rw [healP, if_pos hb]
    simp only [healB, decide_eq_true_eq] at hb
    exact (AT.rem_bal _ _ (AT.put_bal _ _ _ h) (by rw [AT.put_its]; exact hb.1.2)).1
/-- What is taken out: its bounds. -/
theorem delP_all {S : List Int} {T : AT} {lo hi : Int} (h : T.ok) (hb : T.bal) (hw : T.wp S) (hS : S.length ≤ 220000) (h0 : 0 ≤ lo) (hlh : lo ≤ hi) (h1 : hi ≤ T.rns) :
    (delP S T lo hi).ok ∧ (delP S T lo hi).bal ∧ (delP S T lo hi).wp S ∧ (delP S T lo hi).rns ≤ T.rns := by
  have F := delF h hb hw hS h0 hlh h1
  have hwJ := (wp_flat S _).1 F.wpJ
  have rJ : (dlJ S T lo hi).rns ≤ T.rns := by
    have sf := AT.split_flat (dl2 S T lo hi) (cutN T lo) F.a2
    have fX : (dlX S T lo hi).flat = (dl2 S T lo hi).flat.take (cutN T lo) := sf.1
    have fY : (dlY S T lo hi).flat = (dl2 S T lo hi).flat.drop (cutN T lo) := sf.2
    have sf2 := AT.split_flat (dlY S T lo hi) (dlZ S T lo hi - cutN T lo) (by have := F.yits; have := F.z2; omega)
    have fW : (dlW S T lo hi).flat = (dlY S T lo hi).flat.drop (dlZ S T lo hi - cutN T lo) := sf2.2
    have r2 : (dl2 S T lo hi).rns = T.rns := by rw [dl2, cutP_rns F.ok1 (by omega) (by rw [F.rn1]; exact h1), F.rn1]
    have e1 : lsum (dl2 S T lo hi).flat = lsum ((dl2 S T lo hi).flat.take (cutN T lo)) + lsum ((dl2 S T lo hi).flat.drop (cutN T lo)) := by rw [← lsum_app, List.take_append_drop]
    have e2 : lsum (dlY S T lo hi).flat = lsum ((dlY S T lo hi).flat.take (dlZ S T lo hi - cutN T lo)) + lsum ((dlY S T lo hi).flat.drop (dlZ S T lo hi - cutN T lo)) := by rw [← lsum_app, List.take_append_drop]
    have e3 := lsum_nn (F := (dlY S T lo hi).flat.take (dlZ S T lo hi - cutN T lo)) (fun q hq => flat_pos F.okY q (List.mem_of_mem_take hq))
    rw [AT.rns_lsum] at r2
    rw [AT.rns_lsum, dlJ, AT.join_flat, lsum_app, fX, fW]
    rw [fY] at e2 e3 ⊢
    omega
  refine ⟨F.okR, healP_bal F.balJ, ?_, ?_⟩
  · cases hhb : healB (dlJ S T lo hi) (cutN T lo) with
    | false => rw [delP, healP, if_neg (by rw [hhb]; simp)]; exact F.wpJ
    | true =>
      have h9 := hhb
      simp only [healB, decide_eq_true_eq] at h9
      have ha := ahead_at (T := dlJ S T lo hi) (R := cutN T lo) h9.1.1 (by omega)
      have hq := atP_at (T := dlJ S T lo hi) (R := cutN T lo) h9.1.2
      refine (wp_flat S _).2 fun x hx => ?_
      rw [delP, healP_flat hhb] at hx
      simp only [List.mem_append, List.mem_cons] at hx
      rcases hx with hx | rfl | hx
      · exact hwJ x (List.mem_of_mem_take hx)
      · have a := hwJ _ (List.mem_of_getElem? ha)
        have b := hwJ _ (List.mem_of_getElem? hq)
        exact pcAt_wp a.1 (by have := a.2.1; have := b.2.1; omega) (by have := b.2.2.1; omega)
      · exact hwJ x (List.mem_of_mem_drop hx)
  · refine Int.le_trans ?_ rJ
    cases hhb : healB (dlJ S T lo hi) (cutN T lo) with
    | false => rw [delP, healP, if_neg (by rw [hhb]; simp)]; exact Int.le_refl _
    | true =>
      have h9 := hhb
      simp only [healB, decide_eq_true_eq] at h9
      have ha := ahead_at (T := dlJ S T lo hi) (R := cutN T lo) h9.1.1 (by omega)
      have hq := atP_at (T := dlJ S T lo hi) (R := cutN T lo) h9.1.2
      have e := two_at h9.1.1 ha hq
      rw [AT.rns_lsum, AT.rns_lsum, delP, healP_flat hhb, lsum_app, lsum_cons]
      have : lsum (dlJ S T lo hi).flat = lsum ((dlJ S T lo hi).flat.take (cutN T lo - 1)) + ((ahead (dlJ S T lo hi) (cutN T lo)).len + ((atP (dlJ S T lo hi) (cutN T lo)).len + lsum ((dlJ S T lo hi).flat.drop (cutN T lo + 1)))) := by
        conv => lhs; rw [e]
        rw [lsum_app, lsum_cons, lsum_cons]
      simp only [pcAt]
      omega
end Go.Proofs.YtbgngikejgihgagGreatDoor

namespace Go.Proofs.YtbgngikejgihgagGreatDoor
open Go Go.Sort Go.RowKit
set_option linter.unusedVariables false

section
variable {F : Fence} {n : Nat} {P : Program} {ops : Array Oper} {md : Region.Mode}

/-- These operations come up in this order, and none besides. -/
def seqI (md : Region.Mode) (ops : Array Oper) : List Nat → Array Bool → Bool
  | [], listed => (Region.ready md ops listed).isEmpty
  | k :: is, listed => (Region.ready md ops listed) == [k] && seqI md ops is (listed.setIfInBounds k true)

theorem wpAnyIn_of_idx {Q : Exit → Act → World → Prop} : ∀ (is : List Nat) (l : List Oper) (listed : Array Bool) (a : Act) (w : World), is.map (fun i => ops[i]?) = l.map some → seqI md ops is listed = true → wpListIn F n P ops Q l a w → wpAnyIn F n P md ops Q l.length listed a w
  | [], [], listed, a, w, _, hS, h => ⟨by simpa [seqI] using hS, h⟩
  | [], _ :: _, _, _, _, he, _, _ => by simp at he
  | _ :: _, [], _, _, _, he, _, _ => by simp at he
  | k :: is, o :: l, listed, a, w, he, hS, h => by
    simp only [List.map_cons, List.cons.injEq] at he
    have h0 : ops[k]? = some o := he.1
    simp only [seqI, Bool.and_eq_true, beq_iff_eq] at hS
    have ih := fun a w => wpAnyIn_of_idx (Q := Q) is l (listed.setIfInBounds k true) a w he.2 hS.2
    refine ⟨fun h1 => (by rw [hS.1] at h1; cases h1), fun i hi => ?_⟩
    rw [hS.1] at hi
    obtain rfl : i = k := by simpa using hi
    unfold wpOpIn
    unfold wpListIn at h
    simp only [h0]
    split at h
    · rename_i hw
      rw [if_pos hw]
      exact Oper.wpIn_mono (fun a w h => ih a w h) h
    · rename_i hw
      rw [if_neg hw]
      exact ⟨h.1, ih _ _ h.2⟩
theorem wpAnyIn_of_two {Q : Exit → Act → World → Prop} {i j : Nat} {o1 o2 : Oper} {listed : Array Bool} {a : Act} {w : World} (h1 : ops[i]? = some o1) (h2 : ops[j]? = some o2) (hS : seqI md ops [i, j] listed = true) (h : wpListIn F n P ops Q [o1, o2] a w) : wpAnyIn F n P md ops Q 2 listed a w :=
  wpAnyIn_of_idx [i, j] [o1, o2] listed a w (by simp [h1, h2]) hS h
end
end Go.Proofs.YtbgngikejgihgagGreatDoor

namespace Go.Proofs.YtbgngikejgihgagGreatDoor
open Go Go.Sort Go.RowKit
set_option linter.unusedVariables false

section
variable {F : Fence} {n : Nat} {P : Program} {ops : Array Oper} {md : Region.Mode}
theorem wpAnyIn_of_three {Q : Exit → Act → World → Prop} {i1 i2 i3 : Nat} {o1 o2 o3 : Oper} {listed : Array Bool} {a : Act} {w : World} (h1 : ops[i1]? = some o1) (h2 : ops[i2]? = some o2) (h3 : ops[i3]? = some o3) (hS : seqI md ops [i1, i2, i3] listed = true) (h : wpListIn F n P ops Q [o1, o2, o3] a w) : wpAnyIn F n P md ops Q 3 listed a w :=
  wpAnyIn_of_idx [i1, i2, i3] [o1, o2, o3] listed a w (by simp [h1, h2, h3]) hS h
theorem wpAnyIn_of_four {Q : Exit → Act → World → Prop} {i1 i2 i3 i4 : Nat} {o1 o2 o3 o4 : Oper} {listed : Array Bool} {a : Act} {w : World} (h1 : ops[i1]? = some o1) (h2 : ops[i2]? = some o2) (h3 : ops[i3]? = some o3) (h4 : ops[i4]? = some o4) (hS : seqI md ops [i1, i2, i3, i4] listed = true) (h : wpListIn F n P ops Q [o1, o2, o3, o4] a w) : wpAnyIn F n P md ops Q 4 listed a w :=
  wpAnyIn_of_idx [i1, i2, i3, i4] [o1, o2, o3, o4] listed a w (by simp [h1, h2, h3, h4]) hS h
theorem wpAnyIn_of_five {Q : Exit → Act → World → Prop} {i1 i2 i3 i4 i5 : Nat} {o1 o2 o3 o4 o5 : Oper} {listed : Array Bool} {a : Act} {w : World} (h1 : ops[i1]? = some o1) (h2 : ops[i2]? = some o2) (h3 : ops[i3]? = some o3) (h4 : ops[i4]? = some o4) (h5 : ops[i5]? = some o5) (hS : seqI md ops [i1, i2, i3, i4, i5] listed = true) (h : wpListIn F n P ops Q [o1, o2, o3, o4, o5] a w) : wpAnyIn F n P md ops Q 5 listed a w :=
  wpAnyIn_of_idx [i1, i2, i3, i4, i5] [o1, o2, o3, o4, o5] listed a w (by simp [h1, h2, h3, h4, h5]) hS h
end
end Go.Proofs.YtbgngikejgihgagGreatDoor

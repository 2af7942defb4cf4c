import Derived.Test.YtbkcbhjejkicjaaGreatDoorMq32
import Derived.Test.YtbkcbhjejkicjaaGreatDoorMq08
namespace Go.Proofs.YtbkcbhjejkicjaaGreatDoor
open Go Go.RowKit Go.Sort
set_option linter.unusedVariables false

/-- A stack behind one more group. -/
def pushL (lim : Nat) (gs : List (List Rc)) (g : List Rc) : List (List Rc) := if lim < gs.length + 1 then (gs ++ [g]).drop 1 else gs ++ [g]
/-- An engine behind an insertion, no group being open. -/
def insE (M : Ens) (off : Nat) (ts : List Int) : Ens :=
  { M with tx := putT M.tx off ts, ms := srt (M.ms.map (mov (pushF off ts.length))), dn := pushL M.lim M.dn [⟨true, off, ts, M.ms, srt (M.ms.map (mov (pushF off ts.length)))⟩], ud := [], sp := M.sp + ts.length }
theorem SG.vals {w : World} {Z : Nat → Prop} : ∀ {vs : List Value} {gs : List (List Rc)}, GG w Z vs gs → ∀ v ∈ vs, ∃ a l k, v = .slice a l k
  | [], _, _, v, hv => by simp at hv
  | x :: vs, g :: gs, h, v, hv => by
    rcases List.mem_cons.1 hv with rfl | hv
    · obtain ⟨xs, h1, _⟩ := h.1
      rcases h1.2 with ⟨e, e0⟩ | ⟨g', cap', cur, e, _⟩
      · exact ⟨_, _, _, e⟩
      · exact ⟨_, _, _, e⟩
    · exact SG.vals h.2 v hv
theorem GG.drop1 {w : World} {Z : Nat → Prop} : ∀ {vs : List Value} {gs : List (List Rc)}, GG w Z vs gs → GG w Z (vs.drop 1) (gs.drop 1)
  | [], [], _ => trivial
  | _ :: _, _ :: _, h => h.2
/-- What an edit leaves is an engine's memory. -/
theorem EM.edit {K : Core} {w w0 w' : World} {Z F FC : Nat → Prop} {E c n off : Nat} {mv dv uv cv : Value} {ss : List Value} {M : Ens} {ts : List Int} {tb ct : Nat}
    (h : EM K w Z F E c n mv dv uv cv ss FC M) (hop : M.opn = false)
    (hB : ChgP w w0 (fun q => q = E)) (hT0 : own32 w0 w.heap.size (.slice (some ⟨tb, 0, none⟩) ts.length ct) ts) (hsp : M.sp + ts.length ≤ 200000)
    (hvd : Vd (srt (M.ms.map (mov (pushF off ts.length)))) ∧ ∀ x ∈ srt (M.ms.map (mov (pushF off ts.length))), x.2.1 ≤ (putT M.tx off ts).length)
    {s0 s1 s2 s3 s4 s5 s6 s7 : Value} {vs : List Value} (hss : ss = [s0, s1, s2, s3, s4, s5, s6, s7]) (hvs : w.ownsRow 0 106 1 dv M.dn.length vs) (hgg : GG w Z vs M.dn)
    (hP : EditPost K w0 (fun q => Z q ∨ q = tb) (fun q => FC q ∨ (w.heap.size ≤ q ∧ q < w0.heap.size)) E c (n + ts.length) M.lim (putT M.tx off ts) (srt (M.ms.map (mov (pushF off ts.length)))) mv dv (.slice (some ⟨tb, 0, none⟩) ts.length ct) cv s0 s1 s2 s3 s4 s5 s6 s7 (M.sp + ts.length : Nat) off vs w') :
    ∃ Z' F' FC' mv' dv', EM K w' Z' F' E c (n + ts.length) mv' dv' (.slice none 0 0) cv ss FC' (insE M off ts) ∧ (∀ q, F q → F' q) ∧ (∀ q, Z q → Z' q) ∧ (∀ q, F' q → F q ∨ w.heap.size ≤ q) ∧ (∀ q, Z' q → Z q ∨ w.heap.size ≤ q) ∧ ChgP w w' (fun q => ¬ F q) ∧ (∀ r, w.heap.size ≤ r → r < w0.heap.size → r ≠ tb → FC' r ∧ ¬ F' r ∧ dv'.ownBlock ≠ some r) := by
  obtain ⟨mv', gb, dv', heb, hcr, hom, hgb1, hgb2, hgb3, hrow, hc, hq⟩ := hP
  have hw0 := hB.size
  have hw' := hc.size
  have htb := hT0.lt tb rfl
  have hEl : E < w.heap.size := h.fl E h.fe.1
  have hzE : ∀ q, Z q → q ≠ E := fun q hq e => h.fe.2 (by rw [← e]; exact h.zf q hq)
  have hdl : ∀ q, dv.ownBlock = some q → q < w.heap.size := fun q hq => h.fl q (h.fd q hq).1
  have kz : Kz Z w w' := fun q hq => by
    have hl := h.fl q (h.ff q (h.zf q hq))
    rw [hc.block q (by omega) (fun h9 => ?_), hB.block q hl (hzE q hq)]
    rcases h9 with h9 | h9 | h9
    · exact h9 (.inl (h.ff q (h.zf q hq)))
    · exact hzE q hq h9
    · exact (h.fd q h9).2 (h.zf q hq)
  have kt : w'.heap[tb]? = w0.heap[tb]? := hc.block tb htb.2 (fun h9 => by
    rcases h9 with h9 | h9 | h9
    · exact h9 (.inr ⟨htb.1, htb.2⟩)
    · omega
    · have := hdl tb h9; omega)
  have hml : ∀ q, mv'.ownBlock = some q → w0.heap.size ≤ q ∧ q < w'.heap.size := fun q hq => hom.lt q hq
  have hdn : ∀ q, dv'.ownBlock = some q → q < w'.heap.size := fun q hq => (hrow.lt q hq).2
  let Z' : Nat → Prop := fun q => Z q ∨ q = tb ∨ mv'.ownBlock = some q ∨ q = gb
  let F' : Nat → Prop := fun q => F q ∨ q = tb ∨ mv'.ownBlock = some q ∨ q = gb
  have zz : ∀ q, Z q → Z' q := fun q hq => .inl hq
  have sz : w.heap.size ≤ w'.heap.size := by omega
  have hT' : HT w' Z' (.slice (some ⟨tb, 0, none⟩) ts.length ct) ts := ⟨tb, ct, rfl, owns_base (owns_of_block hT0 (fun q hq => by simp only [Value.ownBlock, Option.some.injEq] at hq; subst hq; exact kt)) (Nat.zero_le _), .inr (.inl rfl)⟩
  have hM' : HM w' Z' mv' (srt (M.ms.map (mov (pushF off ts.length)))) := ⟨hom.base (Nat.zero_le _), fun q hq => .inr (.inr (.inl hq))⟩
  have hG' : HG w' Z' (.slice (some ⟨gb, 0, none⟩) 1 1) [⟨true, off, ts, M.ms, srt (M.ms.map (mov (pushF off ts.length)))⟩] :=
    ⟨_, owns_base (⟨rfl, .inr ⟨gb, 1, _, rfl, Nat.le_refl _, hgb3, Nat.le_refl _, by unfold maxLen; omega, rfl, rfl⟩⟩ : w'.ownsRow gb 218 5 (.slice (some ⟨gb, 0, none⟩) 1 1) 1 [.int .i64 1, .int .i64 off, .slice (some ⟨tb, 0, none⟩) ts.length ct, mv, mv']) (Nat.zero_le _),
      ⟨[.int .i64 1, .int .i64 off, .slice (some ⟨tb, 0, none⟩) ts.length ct, mv, mv'], [], by simp, ⟨_, _, _, rfl, hT', h.ms.kept kz zz, hM'⟩, rfl⟩, fun q hq => by simp only [Value.ownBlock, Option.some.injEq] at hq; exact .inr (.inr (.inr hq.symm))⟩
  have hgl := hgg.len
  have hGG : GG w' Z' (pushV M.lim vs (.slice (some ⟨gb, 0, none⟩) 1 1)) (pushL M.lim M.dn [⟨true, off, ts, M.ms, srt (M.ms.map (mov (pushF off ts.length)))⟩]) := by
    have h1 : GG w' Z' (vs ++ [.slice (some ⟨gb, 0, none⟩) 1 1]) (M.dn ++ [[⟨true, off, ts, M.ms, srt (M.ms.map (mov (pushF off ts.length)))⟩]]) := (hgg.kept kz sz zz).app ⟨hG', trivial⟩
    unfold pushV pushL
    rw [hgl]
    split
    · exact h1.drop1
    · exact h1
  have off1 : ∀ q, dv'.ownBlock = some q → mv'.ownBlock ≠ some q := fun q hq h9 => own_apart hrow hom (by decide) hq h9
  have off2 : ∀ q, dv'.ownBlock = some q → q ≠ gb := fun q hq e => by
    subst e
    exact own_apart hrow (⟨rfl, .inr ⟨q, 1, _, rfl, Nat.le_refl _, hgb3, Nat.le_refl _, by unfold maxLen; omega, rfl, rfl⟩⟩ : w'.ownsRow q 218 5 (.slice (some ⟨q, 0, none⟩) 1 1) 1 _) (by decide) hq rfl
  refine ⟨Z', F', (fun q => (FC q ∨ (w.heap.size ≤ q ∧ q < w0.heap.size)) ∨ mv'.ownBlock = some q ∨ q = gb ∨ dv'.ownBlock = some q), mv', dv', ⟨?_, hM', ⟨_, (by have h9 := hrow; rw [hGG.len] at h9; exact h9), hGG⟩, SG.nil, (fun h9 => by rw [show (insE M off ts).opn = M.opn from rfl, hop] at h9; cases h9), h.cvs, ⟨h.sl.1, h.sl.2.1, fun i v k hv hk => (h.sl.2.2 i v k hv hk).kept kz sz zz⟩, ?_, (by have := h.n; show n + ts.length ≤ 8192 + (M.sp + ts.length); omega), hsp, h.lm, ?_, hvd, ?_, ?_, ?_, ⟨.inl (.inl h.fe.1), ?_⟩, ?_, (fun q hq => by simp [Value.ownBlock] at hq), (fun h9 => by rw [show (insE M off ts).opn = M.opn from rfl, hop] at h9; cases h9)⟩, fun q hq => .inl hq, zz, ?_, ?_, ?_, ?_⟩
  · refine ⟨s0, s1, s2, s3, s4, s5, s6, s7, hss, ?_⟩
    rw [show (insE M off ts).opn = false from hop]
    exact heb
  · refine K.step hcr (fun q _ => rfl) (fun q _ _ => rfl) (Nat.le_refl _) (fun q hq => ?_) (fun q hq => .inl hq)
    rcases hq with h9 | h9
    · exact .inl h9
    · exact .inr (.inl h9)
  · have h1 := h.ln.1
    have h2 := h.lm
    refine ⟨?_, Nat.zero_le _⟩
    show (pushL M.lim M.dn _).length ≤ 1000
    unfold pushL
    split
    · rw [List.length_drop, List.length_append, List.length_singleton]; omega
    · rw [List.length_append, List.length_singleton]; omega
  · intro q hq
    rcases hq with h9 | h9
    · exact .inl (h.zf q h9)
    · exact .inr h9
  · intro q hq
    rcases hq with h9 | h9 | h9 | h9
    · exact .inl (.inl (h.ff q h9))
    · subst h9; exact .inl (.inr ⟨htb.1, htb.2⟩)
    · exact .inr (.inl h9)
    · exact .inr (.inr (.inl h9))
  · intro q hq
    rcases hq with (h9 | h9) | h9 | h9 | h9
    · have := h.fl q h9; omega
    · omega
    · exact (hml q h9).2
    · omega
    · exact hdn q h9
  · intro h9
    rcases h9 with h9 | h9 | h9 | h9
    · exact h.fe.2 h9
    · have := htb.1; omega
    · have := (hml E h9).1; omega
    · omega
  · intro q hq'
    refine ⟨.inr (.inr (.inr hq')), fun h9 => ?_⟩
    rcases h9 with h9 | h9 | h9 | h9
    · rcases hq q hq' with h8 | h8
      · exact (h.fd q h8).2 h9
      · have := h.fl q (h.ff q h9); omega
    · rcases hq q hq' with h8 | h8
      · have := hdl q h8; have := htb.1; omega
      · have := htb.2; omega
    · exact off1 q hq' h9
    · exact off2 q hq' h9
  · intro q hq
    rcases hq with h9 | h9 | h9 | h9
    · exact .inl h9
    · exact .inr (by rw [h9]; exact htb.1)
    · exact .inr (by have := (hml q h9).1; omega)
    · exact .inr (by omega)
  · intro q hq
    rcases hq with h9 | h9 | h9 | h9
    · exact .inl h9
    · exact .inr (by rw [h9]; exact htb.1)
    · exact .inr (by have := (hml q h9).1; omega)
    · exact .inr (by omega)
  · refine ((ChgP.reflS w (fun q => ¬ F q)).transS hB (fun q hq => by rw [hq]; exact .inl h.fe.2)).transS hc (fun q hq => ?_)
    rcases Nat.lt_or_ge q w.heap.size with hql | hql
    · rcases hq with h9 | h9 | h9
      · exact .inl (fun h8 => h9 (.inl (h.ff q h8)))
      · exact .inl (by rw [h9]; exact h.fe.2)
      · exact .inl (h.fd q h9).2
    · exact .inr hql
  · intro r h1 h2 h3
    refine ⟨.inl (.inr ⟨h1, h2⟩), fun h9 => ?_, fun h9 => ?_⟩
    · rcases h9 with h9 | h9 | h9 | h9
      · have := h.fl r (h.ff r h9); omega
      · exact h3 h9
      · have := (hml r h9).1; omega
      · omega
    · rcases hq r h9 with h8 | h8
      · have := hdl r h8; omega
      · omega
/-- An engine's memory where something else is written. -/
theorem EM.chg {K : Core} {w w' : World} {Z F FC R : Nat → Prop} {E c n : Nat} {mv dv uv cv : Value} {ss : List Value} {M : Ens} (h : EM K w Z F E c n mv dv uv cv ss FC M) (hc : ChgP w w' R) (hR : ∀ q, q < w.heap.size → R q → FC q ∧ ¬ Z q ∧ q ≠ E ∧ dv.ownBlock ≠ some q ∧ uv.ownBlock ≠ some q ∧ (M.opn = true → cv.ownBlock ≠ some q)) : EM K w' Z F E c n mv dv uv cv ss FC M := by
  have hs := hc.size
  have kz : Kz Z w w' := fun q hq => hc.block q (h.fl q (h.ff q (h.zf q hq))) (fun h9 => (hR q (h.fl q (h.ff q (h.zf q hq))) h9).2.1 hq)
  have hEl : E < w.heap.size := h.fl E h.fe.1
  refine ⟨?_, h.ms.kept kz (fun _ hq => hq), h.dn.kept (fun q hq => hc.block q (h.dn.lt hq) (fun h9 => (hR q (h.dn.lt hq) h9).2.2.2.1 hq)) kz hs (fun _ hq => hq), h.ud.kept (fun q hq => hc.block q (h.ud.lt hq) (fun h9 => (hR q (h.ud.lt hq) h9).2.2.2.2.1 hq)) kz hs (fun _ hq => hq), fun ho => ?_, h.cvs, ⟨h.sl.1, h.sl.2.1, fun i v k hv hk => (h.sl.2.2 i v k hv hk).kept kz hs (fun _ hq => hq)⟩, ?_, h.n, h.sp, h.lm, h.ln, h.vd, h.zf, h.ff, fun q hq => by have := h.fl q hq; omega, h.fe, h.fd, h.fu, h.fc⟩
  · obtain ⟨s0, s1, s2, s3, s4, s5, s6, s7, e, hb⟩ := h.blk
    exact ⟨s0, s1, s2, s3, s4, s5, s6, s7, e, (hc.block E hEl (fun h9 => (hR E hEl h9).2.2.1 rfl)).trans hb⟩
  · obtain ⟨xs, h1, h2, h3⟩ := h.cu ho
    exact ⟨xs, owns_of_block h1 (fun q hq => hc.block q (h1.lt q hq).2 (fun h9 => (hR q (h1.lt q hq).2 h9).2.2.2.2.2 ho hq)), h2.kept kz hs (fun _ hq => hq), h3⟩
  · exact K.step h.cr kz (fun q hq hn => hc.block q hq (fun h9 => hn (hR q hq h9).1)) hs (fun _ hq => hq) (fun _ hq => .inl hq)
theorem EM.wide {K : Core} {w w' : World} {Z F FC : Nat → Prop} {E c n : Nat} {mv dv uv cv : Value} {ss : List Value} {M : Ens} (h : EM K w Z F E c n mv dv uv cv ss FC M) (hb : Below w.heap.size w w') : EM K w' Z (fun q => F q ∨ (w.heap.size ≤ q ∧ q < w'.heap.size)) E c n mv dv uv cv ss (fun q => FC q ∨ (w.heap.size ≤ q ∧ q < w'.heap.size)) M := by
  have h1 := h.chg (ChgP.of_below (S := fun _ => False) hb (Nat.le_refl _)) (fun _ _ h9 => h9.elim)
  have hEl := h.fl E h.fe.1
  refine ⟨h1.blk, h1.ms, h1.dn, h1.ud, fun ho => ?_, h1.cvs, h1.sl, ?_, h1.n, h1.sp, h1.lm, h1.ln, h1.vd, fun q hq => .inl (h.zf q hq), fun q hq => hq.imp (h.ff q) id, fun q hq => ?_, ⟨.inl h.fe.1, fun h9 => h9.elim h.fe.2 (fun h8 => by omega)⟩, fun q hq => ⟨.inl (h.fd q hq).1, fun h9 => h9.elim (h.fd q hq).2 (fun h8 => by have := h.fl q (h.fd q hq).1; omega)⟩, fun q hq => ⟨.inl (h.fu q hq).1, fun h9 => h9.elim (h.fu q hq).2.1 (fun h8 => by have := h.fl q (h.fu q hq).1; omega), (h.fu q hq).2.2⟩, fun ho q hq => ⟨.inl (h.fc ho q hq).1, fun h9 => h9.elim (h.fc ho q hq).2 (fun h8 => by have := h.fl q (h.fc ho q hq).1; omega)⟩⟩
  · obtain ⟨xs, a1, a2, a3⟩ := h1.cu ho
    exact ⟨xs, a1, a2, fun q hq h9 => h9.elim (a3 q hq) (fun h8 => by have := h.fl q (h.fc ho q hq).1; omega)⟩
  · exact K.step h.cr (fun q hq => hb.block q (h.fl q (h.ff q (h.zf q hq)))) (fun q hq _ => hb.block q hq) hb.size (fun _ hq => hq) (fun q hq => hq.imp id (fun h8 => h8.1))
  · rcases hq with h9 | h9
    · have := h.fl q h9; have := hb.size; omega
    · exact h9.2
theorem EM.below {K : Core} {w w' : World} {Z F FC : Nat → Prop} {E c n : Nat} {mv dv uv cv : Value} {ss : List Value} {M : Ens} (h : EM K w Z F E c n mv dv uv cv ss FC M) (hb : Below w.heap.size w w') : EM K w' Z F E c n mv dv uv cv ss FC M :=
  h.chg (ChgP.of_below (S := fun _ => False) hb (Nat.le_refl _)) (fun _ _ h9 => h9.elim)
end Go.Proofs.YtbkcbhjejkicjaaGreatDoor

namespace Go.Proofs.YtbkcbhjejkicjaaGreatDoor
open Go Go.RowKit Go.Sort
set_option linter.unusedVariables false

/-- An observation's cells. -/
def obV (code x y : Int) (tv mv : Value) (len lines un re op : Int) : Array Value := #[.int .i64 code, .int .i64 x, .int .i64 y, tv, mv, .int .i64 len, .int .i64 lines, .int .i64 un, .int .i64 re, .int .i64 op]
def AnsPost (K : Core) (w : World) (Z F : Nat → Prop) (E c n : Nat) (cv : Value) (ss : List Value) (M : Ens) (w' : World) : Prop :=
  ∃ Z' F' FC' mv' dv', EM K w' Z' F' E c n mv' dv' (.slice none 0 0) cv ss FC' M ∧ (∀ q, F q → F' q) ∧ (∀ q, Z q → Z' q) ∧ (∀ q, F' q → F q ∨ w.heap.size ≤ q) ∧ (∀ q, Z' q → Z q ∨ w.heap.size ≤ q) ∧ ChgP w w' (fun q => ¬ F q)
set_option maxHeartbeats 8000000 in
set_option maxRecDepth 100000 in
theorem ansIns (K : Core) (P : List Int → Prop) (hA : AskK K) (hI : InsK K P) (Z F FC : Nat → Prop) (E c n off : Nat) (mv dv uv cv : Value) (ss : List Value) (M : Ens) (bs : List Int) (kd b1 b2 : Int) (ta : Option Addr) (tl tk : Nat) (w : World) (h : EM K w Z F E c n mv dv uv cv ss FC M) (hop : M.opn = false)
    (hrd : Rd .u8 w (.slice ta tl tk) bs) (hby : bytes bs) (hTab : Tab w) (hbn : bs.length ≤ 1048576) (hP : P (decs bs)) (h0 : 0 < (decs bs).length) (hof : off ≤ M.tx.length) (hlen : M.tx.length + (decs bs).length ≤ 8192) (hsp : M.sp + (decs bs).length ≤ 200000)
    (hvd : Vd (srt (M.ms.map (mov (pushF off (decs bs).length)))) ∧ ∀ x ∈ srt (M.ms.map (mov (pushF off (decs bs).length))), x.2.1 ≤ (putT M.tx off (decs bs)).length) :
    Calls Tryz.prog 81 #[.pointer (some ⟨E, 0, none⟩), .agg #[.int .i64 kd, .int .i64 off, .int .i64 b1, .int .i64 b2, .slice ta tl tk]] w fun e w' => e = .returned (.tuple #[.agg (obV 0 (decs bs).length 0 (.slice none 0 0) (.slice none 0 0) 0 0 0 0 0), .nilIface]) ∧ AnsPost K w Z F E c (n + (decs bs).length) cv ss (insE M off (decs bs)) w' := by
  obtain ⟨s0, s1, s2, s3, s4, s5, s6, s7, hss, hblk⟩ := h.blk
  obtain ⟨vs, hrow, hgg⟩ := h.dn
  have hblk2 : EB16 w E mv dv uv M.lim M.opn cv (.iface K.ty (.pointer (some ⟨c, 0, none⟩))) s0 s1 s2 s3 s4 s5 s6 s7 M.sp := hblk
  clear hblk
  have hblk := hblk2
  clear hblk2
  rw [hop] at hblk
  obtain ⟨am, km, rfl⟩ := h.ms.val
  have hm := K.mLen
  have he := K.eLen
  have hEl := hblk.lt
  have HGL := hide hgg.len
  have hdl := h.ln.1
  have hlm := h.lm.2
  have OP := hide (show ((w.alloc (.cells #[.int .i64 kd, .int .i64 off, .int .i64 b1, .int .i64 b2, .slice ta tl tk] 30)).alloc (.cells (obV 0 0 0 (.slice none 0 0) (.slice none 0 0) 0 0 0 0 0) 52)).heap[w.heap.size]? = some (.cells #[.int .i64 kd, .int .i64 off, .int .i64 b1, .int .i64 b2, .slice ta tl tk] 30 (0, 0)) from (((Below.refl (w.alloc (.cells #[.int .i64 kd, .int .i64 off, .int .i64 b1, .int .i64 b2, .slice ta tl tk] 30)).heap.size (w.alloc (.cells #[.int .i64 kd, .int .i64 off, .int .i64 b1, .int .i64 b2, .slice ta tl tk] 30))).alloc (Nat.le_refl _) _).block w.heap.size (by simp)).trans (heap_alloc_new _ _))
  have RS := hide (show ((w.alloc (.cells #[.int .i64 kd, .int .i64 off, .int .i64 b1, .int .i64 b2, .slice ta tl tk] 30)).alloc (.cells (obV 0 0 0 (.slice none 0 0) (.slice none 0 0) 0 0 0 0 0) 52)).heap[w.heap.size + 1]? = some (.cells (obV 0 0 0 (.slice none 0 0) (.slice none 0 0) 0 0 0 0 0) 52 (0, 0)) from by
    have h9 := heap_alloc_new (w.alloc (.cells #[.int .i64 kd, .int .i64 off, .int .i64 b1, .int .i64 b2, .slice ta tl tk] 30)) (.cells (obV 0 0 0 (.slice none 0 0) (.slice none 0 0) 0 0 0 0 0) 52)
    rw [World.size_alloc] at h9; exact h9)
  have BB := hide (bA (bA (Below.refl w.heap.size w) (.cells #[.int .i64 kd, .int .i64 off, .int .i64 b1, .int .i64 b2, .slice ta tl tk] 30)) (.cells (obV 0 0 0 (.slice none 0 0) (.slice none 0 0) 0 0 0 0 0) 52))
  have yA : w.heap.size + 1 < ((w.alloc (.cells #[.int .i64 kd, .int .i64 off, .int .i64 b1, .int .i64 b2, .slice ta tl tk] 30)).alloc (.cells (obV 0 0 0 (.slice none 0 0) (.slice none 0 0) 0 0 0 0 0) 52)).heap.size := by simp
  have DE := hide (fun (W : World) (hW : Below w.heap.size w W) => implDec bs (.slice ta tl tk) W (hrd.below hW) hby (by obtain ⟨t, fr, h9⟩ := hTab; exact ⟨t, fr, (hW.block 1 (Array.getElem?_eq_some_iff.1 h9).1).trans h9⟩) hbn)
  have H := hide h
  have HSS := hide hss
  have HRW := hide hrow
  have HGG := hide hgg
  have HB := hide hblk
  have HV := hide hvd
  have HP := hide hP
  have HAL := hide hA.len
  have HOP := hide hop
  have HED := hide (editI K P hI)
  have hMs := h.ms
  have HMS := hide hMs
  have hEx : ∀ q, (Value.slice am M.ms.length km).ownBlock = some q → Z q := h.ms.2
  generalize hts : decs bs = ts at *
  unfold obV at *
  clear h hrow hgg hblk hvd hP hA hI hrd hTab hby hts hMs hop hss
  go_enter Tryz.func81, Tryz.ntmps81
  go_upto_region 1 with fail
  generalize (w.alloc (.cells #[.int .i64 kd, .int .i64 off, .int .i64 b1, .int .i64 b2, .slice ta tl tk] 30)).alloc (.cells #[.int .i64 0, .int .i64 0, .int .i64 0, .slice none 0 0, .slice none 0 0, .int .i64 0, .int .i64 0, .int .i64 0, .int .i64 0, .int .i64 0] 52) = wA at *
  have x4 : wA.cell? ⟨w.heap.size, 4, none⟩ = some (.slice ta tl tk) := by rw [cell_of_row _ _ 4 _ _ _ OP.out]; rfl
  have DA := hide (DE.out wA BB.out)
  go_wp2_with fail
  refine DA.out.mono ?_
  rintro e w1 ⟨v1, rfl, ho1, hb1⟩
  obtain ⟨tb, ct, rfl⟩ : ∃ tb ct, v1 = .slice (some ⟨tb, 0, none⟩) ts.length ct := by
    rcases ho1.2 with ⟨_, e0⟩ | ⟨g', cap', cur, e, _⟩
    · omega
    · exact ⟨_, _, e⟩
  have y1 := hb1.size
  have B1 := hide (BB.out.trans (hb1.mono (by omega)))
  have T1 := hide (show own32 w1 wA.heap.size (.slice (some ⟨tb, 0, none⟩) ts.length ct) ts from ho1)
  have OP1 := hide ((hb1.block w.heap.size (by omega)).trans OP.out)
  have RS1 := hide ((hb1.block (w.heap.size + 1) (by omega)).trans RS.out)
  clear ho1 hb1 DA DE OP RS BB x4
  have z1 : w1.cell? ⟨w.heap.size, 1, none⟩ = some (.int .i64 off) := by rw [cell_of_row _ _ 1 _ _ _ OP1.out]; rfl
  have z6 : w1.cell? ⟨E, 6, none⟩ = some (.iface K.ty (.pointer (some ⟨c, 0, none⟩))) := (B1.out.cell (p := ⟨E, 6, none⟩) hEl).trans HB.out.c.2.2.2.2.2.2.1
  have q1 := fun d os => cell_regrown z1 d os
  have q6 := fun d os => cell_regrown z6 d os
  have HLQ := hide (fun d os => Calls.regrown_of (w := w1) (d := d) (os := os) (HAL.out (grow (redrawn w1 d) os) Z FC c n M.tx ((H.out.below (B1.out.trans ((below_regrown w1 d os).mono B1.out.size))).cr)))
  have HCQ := hide (fun d os => Calls.regrown_of (w := w1) (d := d) (os := os) ((show Calls Tryz.prog 103 #[.int .i64 off, .int .i64 (ts.length : Nat), .int .i64 (M.tx.length : Nat)] (grow (redrawn w1 d) os) fun e w' => e = .returned .nilIface ∧ Below (grow (redrawn w1 d) os).heap.size (grow (redrawn w1 d) os) w' from (checkPutG off ts.length M.tx.length (grow (redrawn w1 d) os) (by omega) (by omega)).mono (by
      rintro e w' ⟨rfl, rfl⟩
      rw [if_pos (by omega), show decide (((M.tx.length : Nat) : Int) ≤ 8192 ∧ ((ts.length : Nat) : Int) ≤ 8192 - (M.tx.length : Nat)) = true by rw [decide_eq_true_eq]; omega]
      exact ⟨rfl, Below.refl _ _⟩))))
  clear z1 z6
  go_wp2_with fail
  refine wp_region_quiet_below (by kernel_rfl) (by kernel_rfl) ?_
  repeat (quiet_step (first | exact HLQ.out _ _ | exact HCQ.out _ _))
  refine wpQuiet_nil ?_
  intro _ hw'
  obtain ⟨⟨dq, osq⟩, hw''⟩ := hw'
  subst hw''
  have BQ := hide (below_regrown w1 dq osq)
  clear q1 q6 HLQ HCQ
  generalize grow (redrawn w1 dq) osq = w2 at *
  have y2 := BQ.out.size
  have yw1 := B1.out.size
  have B2 := hide (B1.out.trans (BQ.out.mono yw1))
  have T2 := hide (owns_below T1.out BQ.out (Nat.le_refl _))
  have OP2 := hide ((BQ.out.block w.heap.size (by omega)).trans OP1.out)
  have RS2 := hide ((BQ.out.block (w.heap.size + 1) (by omega)).trans RS1.out)
  have E2 := hide (HB.out.same (B2.out.block E hEl))
  have SPN := hide (spendG E M.sp ts.length w2 E2.out.c.2.2.2.2.2.2.2 (E2.out.f 15) (by omega) (by omega))
  clear BQ T1 OP1 RS1
  go_wp2_with fail
  refine SPN.out.mono ?_
  rintro e w3 ⟨rfl, hw3⟩
  have htb := T2.out.lt tb rfl
  have htE : tb ≠ E := by have := htb.1; omega
  have E3 := hide (show EB16 w3 E (.slice am M.ms.length km) dv uv M.lim false cv (.iface K.ty (.pointer (some ⟨c, 0, none⟩))) s0 s1 s2 s3 s4 s5 s6 s7 (M.sp + ts.length : Nat) from by
    rw [hw3, show (((M.sp + ts.length : Nat)) : Int) = (M.sp : Int) + (ts.length : Nat) by omega]; exact E2.out.set15 _)
  have C3 := hide (show ChgP w w3 (fun q => q = E) from by rw [hw3]; exact (ChgP.of_below B2.out (Nat.le_refl _)).setS ⟨E, 15, none⟩ _ (.inl rfl))
  have T3 := hide (show own32 w3 w.heap.size (.slice (some ⟨tb, 0, none⟩) ts.length ct) ts from by
    rw [hw3]; exact owns_base (owns_of_block T2.out (fun q hq => heap_setCell_other w2 ⟨E, 15, none⟩ q _ (by simp only [Value.ownBlock, Option.some.injEq] at hq; subst hq; exact htE))) (by omega))
  have OP3 := hide (show w3.heap[w.heap.size]? = some (.cells #[.int .i64 kd, .int .i64 off, .int .i64 b1, .int .i64 b2, .slice ta tl tk] 30 (0, 0)) from by rw [hw3, heap_setCell_other w2 ⟨E, 15, none⟩ _ _ (by show w.heap.size ≠ E; omega)]; exact OP2.out)
  have RS3 := hide (show w3.heap[w.heap.size + 1]? = some (.cells #[.int .i64 0, .int .i64 0, .int .i64 0, .slice none 0 0, .slice none 0 0, .int .i64 0, .int .i64 0, .int .i64 0, .int .i64 0, .int .i64 0] 52 (0, 0)) from by rw [hw3, heap_setCell_other w2 ⟨E, 15, none⟩ _ _ (by show w.heap.size + 1 ≠ E; omega)]; exact RS2.out)
  have y3 : w2.heap.size ≤ w3.heap.size := by rw [hw3]; simp
  have kp3 : ∀ q, q < w.heap.size → q ≠ E → w3.heap[q]? = w.heap[q]? := fun q hq hne => C3.out.block q hq hne
  have hZE : ∀ q, Z q → q ≠ E := fun q hq e => H.out.fe.2 (by rw [← e]; exact H.out.zf q hq)
  have hZl : ∀ q, Z q → q < w.heap.size := fun q hq => H.out.fl q (H.out.ff q (H.out.zf q hq))
  have htb2 : w.heap.size ≤ tb ∧ tb < w3.heap.size := ⟨by have := htb.1; omega, by have := htb.2; omega⟩
  have hdE : ∀ q, dv.ownBlock = some q → q ≠ E := fun q hq => HB.out.off HRW.out (by decide) hq
  have ED := hide (HED.out (fun q => Z q ∨ q = tb) (fun q => FC q ∨ (w.heap.size ≤ q ∧ q < w3.heap.size)) E c n off M.lim M.tx ts M.ms dv uv cv s0 s1 s2 s3 s4 s5 s6 s7 (M.sp + ts.length : Nat) vs (some ⟨tb, 0, none⟩) am ts.length M.ms.length ct km w3 E3.out
    (K.step H.out.cr (fun q hq => kp3 q (hZl q hq) (hZE q hq)) (fun q hq hn => kp3 q hq (fun e => hn (by rw [e]; exact H.out.fe.1))) (by omega) (fun q hq => .inl hq) (fun q hq => hq.imp id (fun h9 => h9.1)))
    (fun q hq => by
      rcases hq with h9 | h9
      · have := H.out.fl q h9; omega
      · exact h9.2)
    (fun q hq => by
      rcases hq with h9 | h9
      · exact .inl (H.out.ff q (H.out.zf q h9))
      · subst h9; exact .inr htb2)
    (.inl H.out.fe.1) (fun h9 => by
      rcases h9 with h9 | h9
      · exact hZE E h9 rfl
      · exact htE h9.symm)
    ⟨tb, ct, rfl, owns_base T3.out (Nat.zero_le _), .inr rfl⟩ HP.out h0 hof hlen (by have := H.out.n; omega)
    (owns_of_block H.out.ms.1 (fun q hq => kp3 q (hZl q (H.out.ms.2 q hq)) (hZE q (H.out.ms.2 q hq)))) (fun q hq => .inl (hEx q hq)) H.out.vd.1
    (by have h9 := HRW.out; rw [← HGL.out] at h9; exact owns_of_block h9 (fun q hq => kp3 q (h9.lt q hq).2 (hdE q hq))) (SG.vals HGG.out) (by rw [HGL.out]; exact hdl) hlm
    (fun q hq => ⟨.inl (H.out.fd q hq).1, fun h9 => by
      rcases h9 with h9 | h9
      · exact (H.out.fd q hq).2 (H.out.zf q h9)
      · have := H.out.fl q (H.out.fd q hq).1; omega⟩))
  have z1 : w3.cell? ⟨w.heap.size, 1, none⟩ = some (.int .i64 off) := by rw [cell_of_row _ _ 1 _ _ _ OP3.out]; rfl
  have h0' : (0 : Int) < (ts.length : Nat) := by omega
  clear hw3 SPN E2 T2 OP2 RS2 HED HAL HMS B2 B1 kp3
  go_wp2_with fail
  refine ED.out.mono ?_
  rintro e w4 ⟨rfl, hep⟩
  obtain ⟨Z', F', FC', mv', dv', hem, hF1, hZ1, hF2, hZ2, hch, hbox⟩ := H.out.edit (w0 := w3) (w' := w4) (ts := ts) (off := off) (tb := tb) (ct := ct) HOP.out C3.out T3.out hsp HV.out HSS.out HRW.out HGG.out hep
  have hcb : ChgP w3 w4 (fun q => ¬ (FC q ∨ (w.heap.size ≤ q ∧ q < w3.heap.size)) ∨ q = E ∨ dv.ownBlock = some q) := by
    obtain ⟨_, _, _, _, _, _, _, _, _, _, h9, _⟩ := hep
    exact h9
  have y4 := hcb.size
  have RS4 := hide ((hcb.block (w.heap.size + 1) (by omega) (fun h9 => by
    rcases h9 with h9 | h9 | h9
    · exact h9 (.inr ⟨by omega, by omega⟩)
    · omega
    · have := H.out.fl _ (H.out.fd _ h9).1; omega)).trans RS3.out)
  have BX := hide (hbox (w.heap.size + 1) (by omega) (by omega) (by
    intro e
    have h9 := T3.out
    rcases h9.2 with ⟨e9, _⟩ | ⟨g', cap', cur, e9, _, h8, _⟩
    · cases e9
    · simp only [Value.slice.injEq, Option.some.injEq, Addr.mk.injEq, and_true, true_and] at e9
      rw [← e9.1, ← e, RS3.out] at h8
      simp at h8))
  have EM4 := hide hem
  have FF := hide (And.intro hF1 (And.intro hZ1 (And.intro hF2 (And.intro hZ2 hch))))
  have f3 := fun j => frozen_of_row w4 (w.heap.size + 1) j _ _ RS4.out
  clear hep hem hF1 hZ1 hF2 hZ2 hch hbox hcb ED E3 C3 T3 OP3 RS3 z1 htb htb2 htE
  have g0 : w4.cell? ⟨w.heap.size + 1, 0, none⟩ = some (.int .i64 0) := by rw [cell_of_row _ _ 0 _ _ _ RS4.out]; rfl
  have g1 : w4.cell? ⟨w.heap.size + 1, 1, none⟩ = some (.int .i64 0) := by rw [cell_of_row _ _ 1 _ _ _ RS4.out]; rfl
  have g2 : w4.cell? ⟨w.heap.size + 1, 2, none⟩ = some (.int .i64 0) := by rw [cell_of_row _ _ 2 _ _ _ RS4.out]; rfl
  have g3 : w4.cell? ⟨w.heap.size + 1, 3, none⟩ = some (.slice none 0 0) := by rw [cell_of_row _ _ 3 _ _ _ RS4.out]; rfl
  have g4 : w4.cell? ⟨w.heap.size + 1, 4, none⟩ = some (.slice none 0 0) := by rw [cell_of_row _ _ 4 _ _ _ RS4.out]; rfl
  have g5 : w4.cell? ⟨w.heap.size + 1, 5, none⟩ = some (.int .i64 0) := by rw [cell_of_row _ _ 5 _ _ _ RS4.out]; rfl
  have g6 : w4.cell? ⟨w.heap.size + 1, 6, none⟩ = some (.int .i64 0) := by rw [cell_of_row _ _ 6 _ _ _ RS4.out]; rfl
  have g7 : w4.cell? ⟨w.heap.size + 1, 7, none⟩ = some (.int .i64 0) := by rw [cell_of_row _ _ 7 _ _ _ RS4.out]; rfl
  have g8 : w4.cell? ⟨w.heap.size + 1, 8, none⟩ = some (.int .i64 0) := by rw [cell_of_row _ _ 8 _ _ _ RS4.out]; rfl
  have g9 : w4.cell? ⟨w.heap.size + 1, 9, none⟩ = some (.int .i64 0) := by rw [cell_of_row _ _ 9 _ _ _ RS4.out]; rfl
  go_wp2
  have CW := hide (show ChgP w4 ((((((((((w4.setCell ⟨w.heap.size + 1, 0, none⟩ (.int .i64 0)).setCell ⟨w.heap.size + 1, 1, none⟩ (.int .i64 (ts.length : Nat))).setCell ⟨w.heap.size + 1, 2, none⟩ (.int .i64 0)).setCell ⟨w.heap.size + 1, 3, none⟩ (.slice none 0 0)).setCell ⟨w.heap.size + 1, 4, none⟩ (.slice none 0 0)).setCell ⟨w.heap.size + 1, 5, none⟩ (.int .i64 0)).setCell ⟨w.heap.size + 1, 6, none⟩ (.int .i64 0)).setCell ⟨w.heap.size + 1, 7, none⟩ (.int .i64 0)).setCell ⟨w.heap.size + 1, 8, none⟩ (.int .i64 0)).setCell ⟨w.heap.size + 1, 9, none⟩ (.int .i64 0)) (fun q => q = w.heap.size + 1) from ((((((((((ChgP.reflS w4 (fun q => q = w.heap.size + 1)).setS ⟨w.heap.size + 1, 0, none⟩ (.int .i64 0) (.inl rfl)).setS ⟨w.heap.size + 1, 1, none⟩ (.int .i64 (ts.length : Nat)) (.inl rfl)).setS ⟨w.heap.size + 1, 2, none⟩ (.int .i64 0) (.inl rfl)).setS ⟨w.heap.size + 1, 3, none⟩ (.slice none 0 0) (.inl rfl)).setS ⟨w.heap.size + 1, 4, none⟩ (.slice none 0 0) (.inl rfl)).setS ⟨w.heap.size + 1, 5, none⟩ (.int .i64 0) (.inl rfl)).setS ⟨w.heap.size + 1, 6, none⟩ (.int .i64 0) (.inl rfl)).setS ⟨w.heap.size + 1, 7, none⟩ (.int .i64 0) (.inl rfl)).setS ⟨w.heap.size + 1, 8, none⟩ (.int .i64 0) (.inl rfl)).setS ⟨w.heap.size + 1, 9, none⟩ (.int .i64 0) (.inl rfl))
  have RW : ((((((((((w4.setCell ⟨w.heap.size + 1, 0, none⟩ (.int .i64 0)).setCell ⟨w.heap.size + 1, 1, none⟩ (.int .i64 (ts.length : Nat))).setCell ⟨w.heap.size + 1, 2, none⟩ (.int .i64 0)).setCell ⟨w.heap.size + 1, 3, none⟩ (.slice none 0 0)).setCell ⟨w.heap.size + 1, 4, none⟩ (.slice none 0 0)).setCell ⟨w.heap.size + 1, 5, none⟩ (.int .i64 0)).setCell ⟨w.heap.size + 1, 6, none⟩ (.int .i64 0)).setCell ⟨w.heap.size + 1, 7, none⟩ (.int .i64 0)).setCell ⟨w.heap.size + 1, 8, none⟩ (.int .i64 0)).setCell ⟨w.heap.size + 1, 9, none⟩ (.int .i64 0)).heap[w.heap.size + 1]? = some (.cells #[.int .i64 0, .int .i64 (ts.length : Nat), .int .i64 0, .slice none 0 0, .slice none 0 0, .int .i64 0, .int .i64 0, .int .i64 0, .int .i64 0, .int .i64 0] 52 (0, 0)) := by
    have h9 := RS4.out
    have k0 := heap_setCell_same w4 (w.heap.size + 1) 0 _ _ (.int .i64 0) h9
    have k1 := heap_setCell_same _ (w.heap.size + 1) 1 _ _ (.int .i64 (ts.length : Nat)) k0
    have k2 := heap_setCell_same _ (w.heap.size + 1) 2 _ _ (.int .i64 0) k1
    have k3 := heap_setCell_same _ (w.heap.size + 1) 3 _ _ (.slice none 0 0) k2
    have k4 := heap_setCell_same _ (w.heap.size + 1) 4 _ _ (.slice none 0 0) k3
    have k5 := heap_setCell_same _ (w.heap.size + 1) 5 _ _ (.int .i64 0) k4
    have k6 := heap_setCell_same _ (w.heap.size + 1) 6 _ _ (.int .i64 0) k5
    have k7 := heap_setCell_same _ (w.heap.size + 1) 7 _ _ (.int .i64 0) k6
    have k8 := heap_setCell_same _ (w.heap.size + 1) 8 _ _ (.int .i64 0) k7
    have k9 := heap_setCell_same _ (w.heap.size + 1) 9 _ _ (.int .i64 0) k8
    exact k9
  have RWW := hide RW
  clear RW g0 g1 g2 g3 g4 g5 g6 g7 g8 g9 f3
  generalize ((((((((((w4.setCell ⟨w.heap.size + 1, 0, none⟩ (.int .i64 0)).setCell ⟨w.heap.size + 1, 1, none⟩ (.int .i64 (ts.length : Nat))).setCell ⟨w.heap.size + 1, 2, none⟩ (.int .i64 0)).setCell ⟨w.heap.size + 1, 3, none⟩ (.slice none 0 0)).setCell ⟨w.heap.size + 1, 4, none⟩ (.slice none 0 0)).setCell ⟨w.heap.size + 1, 5, none⟩ (.int .i64 0)).setCell ⟨w.heap.size + 1, 6, none⟩ (.int .i64 0)).setCell ⟨w.heap.size + 1, 7, none⟩ (.int .i64 0)).setCell ⟨w.heap.size + 1, 8, none⟩ (.int .i64 0)).setCell ⟨w.heap.size + 1, 9, none⟩ (.int .i64 0)) = w5 at *
  have g0 : w5.cell? ⟨w.heap.size + 1, 0, none⟩ = some (.int .i64 0) := by rw [cell_of_row _ _ 0 _ _ _ RWW.out]; rfl
  have g1 : w5.cell? ⟨w.heap.size + 1, 1, none⟩ = some (.int .i64 (ts.length : Nat)) := by rw [cell_of_row _ _ 1 _ _ _ RWW.out]; rfl
  have g2 : w5.cell? ⟨w.heap.size + 1, 2, none⟩ = some (.int .i64 0) := by rw [cell_of_row _ _ 2 _ _ _ RWW.out]; rfl
  have g3 : w5.cell? ⟨w.heap.size + 1, 3, none⟩ = some (.slice none 0 0) := by rw [cell_of_row _ _ 3 _ _ _ RWW.out]; rfl
  have g4 : w5.cell? ⟨w.heap.size + 1, 4, none⟩ = some (.slice none 0 0) := by rw [cell_of_row _ _ 4 _ _ _ RWW.out]; rfl
  have g5 : w5.cell? ⟨w.heap.size + 1, 5, none⟩ = some (.int .i64 0) := by rw [cell_of_row _ _ 5 _ _ _ RWW.out]; rfl
  have g6 : w5.cell? ⟨w.heap.size + 1, 6, none⟩ = some (.int .i64 0) := by rw [cell_of_row _ _ 6 _ _ _ RWW.out]; rfl
  have g7 : w5.cell? ⟨w.heap.size + 1, 7, none⟩ = some (.int .i64 0) := by rw [cell_of_row _ _ 7 _ _ _ RWW.out]; rfl
  have g8 : w5.cell? ⟨w.heap.size + 1, 8, none⟩ = some (.int .i64 0) := by rw [cell_of_row _ _ 8 _ _ _ RWW.out]; rfl
  have g9 : w5.cell? ⟨w.heap.size + 1, 9, none⟩ = some (.int .i64 0) := by rw [cell_of_row _ _ 9 _ _ _ RWW.out]; rfl
  refine bodyPost_ret (v := .tuple #[.agg #[.int .i64 0, .int .i64 (ts.length : Nat), .int .i64 0, .slice none 0 0, .slice none 0 0, .int .i64 0, .int .i64 0, .int .i64 0, .int .i64 0, .int .i64 0], .nilIface]) (by simp [results, Tryz.results81, go_sem, g0, g1, g2, g3, g4, g5, g6, g7, g8, g9]) rfl ⟨rfl, Z', F', FC', mv', dv', EM4.out.chg CW.out (fun q _ hq => ?_), FF.out.1, FF.out.2.1, FF.out.2.2.1, FF.out.2.2.2.1, FF.out.2.2.2.2.transS CW.out (fun q hq => .inr (by omega))⟩
  subst hq
  exact ⟨BX.out.1, fun h9 => BX.out.2.1 (EM4.out.zf _ h9), fun e => BX.out.2.1 (absurd e (by omega)), BX.out.2.2, by simp [Value.ownBlock], fun h9 => by rw [show (insE M off ts).opn = M.opn from rfl, HOP.out] at h9; cases h9⟩
end Go.Proofs.YtbkcbhjejkicjaaGreatDoor


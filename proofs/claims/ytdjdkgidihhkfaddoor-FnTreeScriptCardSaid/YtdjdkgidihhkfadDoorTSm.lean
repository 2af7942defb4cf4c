import Derived.Test.YtdjdkgidihhkfadDoorTDTop
import Derived.Test.YtdjdkgidihhkfadDoorTPcs3
namespace Go.Proofs.YtdjdkgidihhkfadDoor
open Go Go.RowKit
set_option linter.unusedVariables false

theorem AT.told_pc : ∀ (T : AT) (d : Int), (T.told d).map It.pc = T.flat
  | .nil, _ => rfl
  | .node l p r, d => by simp [AT.told, AT.flat, AT.told_pc l, AT.told_pc r]
theorem AT.rns_sm : ∀ T : AT, (∀ q ∈ T.flat, Sm q) → T.rns ≤ 9 * T.its
  | .nil, _ => by simp [AT.rns, AT.its]
  | .node l p r, h => by
    have h1 := AT.rns_sm l (fun q hq => h q (by simp [AT.flat, hq]))
    have h2 := AT.rns_sm r (fun q hq => h q (by simp [AT.flat, hq]))
    have h3 := (h p (by simp [AT.flat])).2.2.2.1
    simp only [AT.rns, AT.its]; omega
theorem sm_ok {T : AT} (h : ∀ q ∈ T.flat, Sm q) (hn : T.its ≤ 127) : T.ok :=
  ⟨fun q hq => (h q hq).ok, by have := AT.rns_sm T h; omega⟩

theorem RdP.take {B g cap k : Nat} {w : World} {qs : List Pc} (h : RdP B w (.slice (some ⟨g, 0, none⟩) qs.length cap) qs) (hk : k ≤ qs.length) : RdP B w (.slice (some ⟨g, 0, none⟩) k cap) (qs.take k) := by
  rcases Nat.eq_zero_or_pos k with rfl | h0
  · exact .inl ⟨_, _, rfl, by simp⟩
  · rcases h with ⟨_, _, _, rfl⟩ | ⟨b, off, cap', hv, hp, hl, hc⟩
    · simp at hk; omega
    · simp only [Value.slice.injEq, Option.some.injEq, Addr.mk.injEq, and_true, true_and] at hv
      obtain ⟨⟨rfl, rfl⟩, rfl⟩ := hv
      refine .inr ⟨g, 0, cap, by rw [List.length_take, Nat.min_eq_left hk], by rw [List.length_take]; omega, hl, fun i q hq => hc i q ?_⟩
      rw [List.getElem?_take] at hq
      split at hq
      · exact hq
      · cases hq
theorem RdP.drop {B g cap k : Nat} {w : World} {qs : List Pc} (h : RdP B w (.slice (some ⟨g, 0, none⟩) qs.length cap) qs) (hk : k ≤ qs.length) {ao : Option Addr} (ha : k < qs.length → ao = some ⟨g, k * 3, none⟩) : RdP B w (.slice ao (qs.length - k) (cap - k)) (qs.drop k) := by
  rcases Nat.eq_or_lt_of_le hk with rfl | h0
  · exact .inl ⟨_, _, by rw [Nat.sub_self], by simp⟩
  · obtain rfl := ha h0
    rcases h with ⟨_, _, _, rfl⟩ | ⟨b, off, cap', hv, hp, hl, hc⟩
    · simp at h0
    · simp only [Value.slice.injEq, Option.some.injEq, Addr.mk.injEq, and_true, true_and] at hv
      obtain ⟨⟨rfl, rfl⟩, rfl⟩ := hv
      refine .inr ⟨g, k * 3, cap - k, by rw [List.length_drop], by rw [List.length_drop]; omega, hl, fun i q hq => ?_⟩
      rw [List.getElem?_drop] at hq
      have := hc (k + i) q hq
      rw [show 0 + (k + i) * 3 = k * 3 + i * 3 by omega] at this
      exact this

end Go.Proofs.YtdjdkgidihhkfadDoor

import Derived.Test.YtbgngikejgihgaeGreatDoorPsW
namespace Go.Proofs.YtbgngikejgihgaeGreatDoor
open Go Go.RowKit
set_option linter.unusedVariables false

/-- A hexadecimal digit. -/
def digU (c : UInt8) : Option Nat := if 48 ≤ c.toNat ∧ c.toNat ≤ 57 then some (c.toNat - 48) else if 97 ≤ c.toNat ∧ c.toNat ≤ 102 then some (c.toNat - 87) else none
def hexP : List UInt8 → Option (List UInt8)
  | [] => some []
  | [_] => none
  | a :: b :: r => match digU a, digU b with
    | some h, some l => (hexP r).map fun t => UInt8.ofNat (16 * h + l) :: t
    | _, _ => none
/-- What a word is as hexadecimal text. -/
def hexU (w : List UInt8) : Option (List UInt8) := if w = [45] then some [] else hexP w
/-- An operation that is read: kind, three numbers, text. -/
structure Sop where
  k : Int
  a : Int
  b : Int
  c : Int
  t : List UInt8
/-- What has been read of a script: its operations, the four numbers, the operation that is being read. -/
structure Sr where
  ops : List Sop
  cap : Int
  big : Int
  near : Int
  run : Int
  op : Sop
def sr0 : Sr := ⟨[], 100, 1000, 20, 4, ⟨0, 0, 0, 0, []⟩⟩
/-- A number is laid where its letter says. -/
def setU (c : UInt8) (n : Int) (s : Sr) : Sr :=
  if c = 65 then { s with op := { s.op with a := n } } else if c = 66 then { s with op := { s.op with b := n } } else if c = 67 then { s with op := { s.op with c := n } }
  else if c = 75 then { s with op := { s.op with k := n } } else if c = 104 then { s with cap := n } else if c = 98 then { s with big := n } else if c = 110 then { s with near := n } else { s with run := n }
/-- A word is read as its letter tells. -/
def takU (c : UInt8) (w : List UInt8) (s : Sr) : Int × Sr :=
  if c = 84 then (match hexU w with
    | some t => (0, { s with op := { s.op with t := t } })
    | none => (18, s))
  else (match numU w 18 with
    | some n => (0, setU c n s)
    | none => (17, s))
def runF : List UInt8 → List (List UInt8) → Sr → Int × Sr
  | c :: cs, w :: ws, s => if (takU c w s).1 = 0 then runF cs ws (takU c w s).2 else takU c w s
  | _, _, s => (0, s)
/-- The words of commands: kind and form. -/
def cmds : List (List UInt8 × Int × List UInt8) :=
  [([105, 110, 115], 1, [65, 84]), ([100, 101, 108], 2, [65, 66]), ([103, 101, 116], 3, [65, 66]), ([119, 104, 101, 114, 101], 4, [65]), ([97, 116], 5, [65, 66]), ([109, 97, 114, 107], 6, [65, 66, 67]), ([100, 114, 111, 112], 7, [65]), ([108, 111, 111, 107], 8, [65]),
   ([117, 110, 100, 111], 9, []), ([114, 101, 100, 111], 10, []), ([98, 101, 103, 105, 110], 11, []), ([101, 110, 100], 12, []), ([115, 110, 97, 112], 13, [65]), ([98, 97, 99, 107], 14, [65]), ([109, 111, 118, 101], 15, [65]), ([100, 117, 109, 112], 16, []),
   ([111, 112], 0, [75]), ([99, 97, 112], -1, [104]), ([112, 111, 108, 105, 99, 121], -1, [98, 110, 114])]
def cmdU (w : List UInt8) : Option (Int × List UInt8) := (cmds.find? fun x => decide (x.1 = w)).map (·.2)
/-- A line ends. -/
def finU (k : Int) (s : Sr) : Sr := if k = -1 then s else { s with ops := s.ops ++ [s.op] }
/-- A line with words. -/
def lineU (ws : List (List UInt8)) (s : Sr) : Int × Sr :=
  match cmdU (ws.headD []) with
  | none => (15, s)
  | some (k, form) => if ws.length ≠ form.length + 1 then (16, s) else
    if (runF form ws.tail { s with op := ⟨k, 0, 0, 0, []⟩ }).1 = 0 then (0, finU k (runF form ws.tail { s with op := ⟨k, 0, 0, 0, []⟩ }).2) else runF form ws.tail { s with op := ⟨k, 0, 0, 0, []⟩ }
/-- A line that says nothing. -/
def idleU (ws : List (List UInt8)) : Bool := decide (ws = []) || (ws.headD []).head? == some 35
/-- The lines, one after another: the code, the line's number, what has been read. -/
def scrU : Nat → List (List UInt8) → Sr → Int × Int × Sr
  | _, [], s => (0, 0, s)
  | i, l :: ls, s => if idleU (wdU l) = true then scrU (i + 1) ls s else
    if (lineU (wdU l) s).1 = 0 then scrU (i + 1) ls (lineU (wdU l) s).2 else ((lineU (wdU l) s).1, (i : Int) + 1, s)
/-- What a script is read as: operations, cap, the policy's three numbers, code, line. -/
structure Psd where
  ops : List Sop
  cap : Int
  big : Int
  near : Int
  run : Int
  code : Int
  line : Int
def psdU (l : List UInt8) : Psd :=
  if 16384 < l.length then ⟨[], 0, 0, 0, 0, 14, 0⟩
  else if (scrU 0 (cutU 10 l) sr0).1 = 0 then ⟨(scrU 0 (cutU 10 l) sr0).2.2.ops, (scrU 0 (cutU 10 l) sr0).2.2.cap, (scrU 0 (cutU 10 l) sr0).2.2.big, (scrU 0 (cutU 10 l) sr0).2.2.near, (scrU 0 (cutU 10 l) sr0).2.2.run, 0, 0⟩
  else ⟨[], 0, 0, 0, 0, (scrU 0 (cutU 10 l) sr0).1, (scrU 0 (cutU 10 l) sr0).2.1⟩
theorem hexP_odd : ∀ l : List UInt8, l.length % 2 ≠ 0 → hexP l = none
  | [], h => absurd rfl h
  | [_], _ => rfl
  | a :: b :: r, h => by
    have := hexP_odd r (by simp at h; omega)
    unfold hexP
    rw [this]
    split <;> rfl
theorem hexP_two (a b : UInt8) (r : List UInt8) : hexP (a :: b :: r) = (match digU a, digU b with | some h, some l => (hexP r).map fun t => UInt8.ofNat (16 * h + l) :: t | _, _ => none) := by rw [hexP]
theorem hexP_bad {a b : UInt8} (r : List UInt8) (h : digU a = none ∨ digU b = none) : hexP (a :: b :: r) = none := by
  rw [hexP_two]
  rcases h with h | h
  · rw [h]
  · rw [h]; cases digU a <;> rfl
theorem hexP_ok {a b : UInt8} {x y : Nat} (r : List UInt8) (h1 : digU a = some x) (h2 : digU b = some y) : hexP (a :: b :: r) = (hexP r).map fun t => UInt8.ofNat (16 * x + y) :: t := by rw [hexP_two, h1, h2]
theorem digU_lt {c : UInt8} {x : Nat} (h : digU c = some x) : x < 16 := by
  unfold digU at h
  split at h
  · injection h; omega
  · split at h
    · injection h; omega
    · cases h
/-- A prefix of digits is read. -/
theorem hexP_app : ∀ (p r : List UInt8) (t : List UInt8), hexP p = some t → hexP (p ++ r) = (hexP r).map fun u => t ++ u
  | [], r, t, h => by
    have : t = [] := by rw [hexP] at h; exact (Option.some.inj h).symm
    subst this
    rw [List.nil_append]
    cases hexP r <;> rfl
  | [_], r, t, h => by rw [hexP] at h; cases h
  | a :: b :: p, r, t, h => by
    cases ha : digU a with
    | none => rw [hexP_bad p (.inl ha)] at h; cases h
    | some x =>
      cases hb : digU b with
      | none => rw [hexP_bad p (.inr hb)] at h; cases h
      | some y =>
        rw [hexP_ok p ha hb] at h
        cases hp : hexP p with
        | none => rw [hp] at h; cases h
        | some u =>
          rw [hp] at h
          have e : t = UInt8.ofNat (16 * x + y) :: u := (Option.some.inj h).symm
          subst e
          rw [List.cons_append, List.cons_append, hexP_ok _ ha hb, hexP_app p r u hp]
          cases hexP r <;> rfl
theorem runF_cons (c : UInt8) (cs : List UInt8) (w : List UInt8) (ws : List (List UInt8)) (s : Sr) : runF (c :: cs) (w :: ws) s = if (takU c w s).1 = 0 then runF cs ws (takU c w s).2 else takU c w s := by rw [runF]
end Go.Proofs.YtbgngikejgihgaeGreatDoor

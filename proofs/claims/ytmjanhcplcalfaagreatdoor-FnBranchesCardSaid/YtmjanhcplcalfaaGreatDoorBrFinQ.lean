import Derived.Test.YtmjanhcplcalfaaGreatDoorMq29
import Derived.Test.YtmjanhcplcalfaaGreatDoorTie
namespace Go.Proofs.YtmjanhcplcalfaaGreatDoor
open Go Go.RowKit Go.ChangeShapes Go.WideShapes Go.ChangeAt Go.Joins
theorem branches_card : Rows.FnBranchesCardSaid :=
  Claim7.holds_tied_plain_at .later [] _ _ _ _ said (fun _ h => by cases h) (by as_aux_lemma => kernel_rfl) (fun _ h => by cases h) fnBranches_row_tie rfl ⟨rfl, rfl⟩ (by as_aux_lemma => kernel_rfl) rfl plain (by as_aux_lemma => kernel_rfl)
#print axioms branches_card
end Go.Proofs.YtmjanhcplcalfaaGreatDoor

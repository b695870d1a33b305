/-
  DERIVED. GIVEN WITH THE SEED: THE CARDS: each row of YtfjikeejifhnbaaDoorRows.lean that lists a variable, with what it lists TIED to the program's text (the seventh form; the later family's looks); each row that meets fmt, with fmt's text TOLD by the authors' own Lean function (tested against real Go, not proved from fmt's source: count such statements apart). THE CARD IS WHAT COUNTS. Prove the row's statement (the work); the ties are given (YtfjikeejifhnbaaDoorTie.lean); close each card by the builder's one call (the guide's Derived/Test/ToyasCard.lean, 'card_holds'). Laid BY PROGRAM, IN A SANDBOX (cutbox-door.mjs). By AI agents, Wed Nov 11 2026. No macro, syntax, notation, axiom, sorry.
-/
import Derived.Test.YtfjikeejifhnbaaDoorRows
import GoSem.ClaimSeven
namespace Go.Proofs.YtfjikeejifhnbaaDoor
namespace Rows

/-- THE TIED CARD OF 'antecedelaw03.RelationPairs'. -/
def relationPairsCard : Claim7 := { stood := { row := relationPairsRow, standIns := [], harness := (true, "a2d8a5e80882537def66a2f89c65b3b5d6af73906c18287b2e547d1caffe1aa7"), looks := false }, kinds := [], alts := [], laidByText := true, laidKinds := [.data], laidTests := true, laidLooks := .later }
def RelationPairsCardSaid : Prop := Claim7.holds Tryd.pinned (.plain (OpenSpec.ofChange relationPairsSpec)) relationPairsCard

/-- THE TIED CARD OF 'antecedelaw03.RelationClosures'. -/
def relationClosuresCard : Claim7 := { stood := { row := relationClosuresRow, standIns := [], harness := (true, "a2d8a5e80882537def66a2f89c65b3b5d6af73906c18287b2e547d1caffe1aa7"), looks := false }, kinds := [], alts := [], laidByText := true, laidKinds := [.data], laidTests := true, laidLooks := .later }
def RelationClosuresCardSaid : Prop := Claim7.holds Tryd.pinned (.plain (OpenSpec.ofChange relationClosuresSpec)) relationClosuresCard

/-- THE TIED CARD OF 'antecedelaw03.RelationOrders'. -/
def relationOrdersCard : Claim7 := { stood := { row := relationOrdersRow, standIns := [], harness := (true, "a2d8a5e80882537def66a2f89c65b3b5d6af73906c18287b2e547d1caffe1aa7"), looks := false }, kinds := [], alts := [], laidByText := true, laidKinds := [.data], laidTests := true, laidLooks := .later }
def RelationOrdersCardSaid : Prop := Claim7.holds Tryd.pinned (.plain (OpenSpec.ofChange relationOrdersSpec)) relationOrdersCard

/-- THE TIED CARD OF 'antecedelaw03.RelationLeast'. -/
def relationLeastCard : Claim7 := { stood := { row := relationLeastRow, standIns := [], harness := (true, "a2d8a5e80882537def66a2f89c65b3b5d6af73906c18287b2e547d1caffe1aa7"), looks := false }, kinds := [], alts := [], laidByText := true, laidKinds := [.data], laidTests := true, laidLooks := .later }
def RelationLeastCardSaid : Prop := Claim7.holds Tryd.pinned (.plain (OpenSpec.ofChange relationLeastSpec)) relationLeastCard

/-- THE TIED CARD OF 'antecedelaw03.RelationAlgebra'. -/
def relationAlgebraCard : Claim7 := { stood := { row := relationAlgebraRow, standIns := [], harness := (true, "a2d8a5e80882537def66a2f89c65b3b5d6af73906c18287b2e547d1caffe1aa7"), looks := false }, kinds := [], alts := [], laidByText := true, laidKinds := [.data], laidTests := true, laidLooks := .later }
def RelationAlgebraCardSaid : Prop := Claim7.holds Tryd.pinned (.plain (OpenSpec.ofChange relationAlgebraSpec)) relationAlgebraCard

/-- THE TIED CARD OF 'antecedelaw03.RelationEither'. -/
def relationEitherCard : Claim7 := { stood := { row := relationEitherRow, standIns := [], harness := (true, "a2d8a5e80882537def66a2f89c65b3b5d6af73906c18287b2e547d1caffe1aa7"), looks := false }, kinds := [], alts := [], laidByText := true, laidKinds := [.data], laidTests := true, laidLooks := .later }
def RelationEitherCardSaid : Prop := Claim7.holds Tryd.pinned (.plain (OpenSpec.ofChange relationEitherSpec)) relationEitherCard

/-- THE SECOND FORM's CARD OF 'antecedelaw03.RelationPairs'. -/
def relationPairsUptoCard : Claim7 := { stood := { row := relationPairsUptoRow, standIns := [], harness := (true, "a2d8a5e80882537def66a2f89c65b3b5d6af73906c18287b2e547d1caffe1aa7"), looks := false }, kinds := [], alts := [], laidByText := true, laidKinds := [.data], laidTests := true, laidLooks := .later }
def RelationPairsUptoCardSaid : Prop := Claim7.holds Tryd.pinned (.plain (OpenSpec.upto relationPairsSpec)) relationPairsUptoCard

/-- THE SECOND FORM's CARD OF 'antecedelaw03.RelationClosures'. -/
def relationClosuresUptoCard : Claim7 := { stood := { row := relationClosuresUptoRow, standIns := [], harness := (true, "a2d8a5e80882537def66a2f89c65b3b5d6af73906c18287b2e547d1caffe1aa7"), looks := false }, kinds := [], alts := [], laidByText := true, laidKinds := [.data], laidTests := true, laidLooks := .later }
def RelationClosuresUptoCardSaid : Prop := Claim7.holds Tryd.pinned (.plain (OpenSpec.upto relationClosuresSpec)) relationClosuresUptoCard

/-- THE SECOND FORM's CARD OF 'antecedelaw03.RelationOrders'. -/
def relationOrdersUptoCard : Claim7 := { stood := { row := relationOrdersUptoRow, standIns := [], harness := (true, "a2d8a5e80882537def66a2f89c65b3b5d6af73906c18287b2e547d1caffe1aa7"), looks := false }, kinds := [], alts := [], laidByText := true, laidKinds := [.data], laidTests := true, laidLooks := .later }
def RelationOrdersUptoCardSaid : Prop := Claim7.holds Tryd.pinned (.plain (OpenSpec.upto relationOrdersSpec)) relationOrdersUptoCard

/-- THE SECOND FORM's CARD OF 'antecedelaw03.RelationLeast'. -/
def relationLeastUptoCard : Claim7 := { stood := { row := relationLeastUptoRow, standIns := [], harness := (true, "a2d8a5e80882537def66a2f89c65b3b5d6af73906c18287b2e547d1caffe1aa7"), looks := false }, kinds := [], alts := [], laidByText := true, laidKinds := [.data], laidTests := true, laidLooks := .later }
def RelationLeastUptoCardSaid : Prop := Claim7.holds Tryd.pinned (.plain (OpenSpec.upto relationLeastSpec)) relationLeastUptoCard

/-- THE SECOND FORM's CARD OF 'antecedelaw03.RelationAlgebra'. -/
def relationAlgebraUptoCard : Claim7 := { stood := { row := relationAlgebraUptoRow, standIns := [], harness := (true, "a2d8a5e80882537def66a2f89c65b3b5d6af73906c18287b2e547d1caffe1aa7"), looks := false }, kinds := [], alts := [], laidByText := true, laidKinds := [.data], laidTests := true, laidLooks := .later }
def RelationAlgebraUptoCardSaid : Prop := Claim7.holds Tryd.pinned (.plain (OpenSpec.upto relationAlgebraSpec)) relationAlgebraUptoCard

/-- THE SECOND FORM's CARD OF 'antecedelaw03.RelationEither'. -/
def relationEitherUptoCard : Claim7 := { stood := { row := relationEitherUptoRow, standIns := [], harness := (true, "a2d8a5e80882537def66a2f89c65b3b5d6af73906c18287b2e547d1caffe1aa7"), looks := false }, kinds := [], alts := [], laidByText := true, laidKinds := [.data], laidTests := true, laidLooks := .later }
def RelationEitherUptoCardSaid : Prop := Claim7.holds Tryd.pinned (.plain (OpenSpec.upto relationEitherSpec)) relationEitherUptoCard
end Rows
end Go.Proofs.YtfjikeejifhnbaaDoor

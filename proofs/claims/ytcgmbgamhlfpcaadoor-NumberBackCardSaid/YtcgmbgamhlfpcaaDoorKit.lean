/- What the rows of this seat share: the listed variables as the program's own door lays them (the witness). -/
import Derived.Test.YtcgmbgamhlfpcaaDoorRows
import Derived.Test.YtcgmbgamhlfpcaaDoorTie
import Derived.Test.YtcgmbgamhlfpcaaDoorCards
import Derived.ProofKit
import Derived.LaidMore
import Derived.OpenShut
import Derived.ShutString
import Derived.Stop.Joined
import Derived.SevenTiedAt
namespace Go.Proofs.YtcgmbgamhlfpcaaDoor
open Go.ChangeShapes Go.WideShapes Go.ChangeAt Go.RowKit
theorem own : ownKnob Tryd.prog.godebug = none := by kernel_rfl
noncomputable def doorWorld (os : Os) : World := World.doorLaid Tryd.prog 62 os
theorem door_met (os : Os) (args : Array Value) : laidMetH Tryd.prog Rows.numberSumsRow.laid ((doorWorld os).forCall (fun _ _ => 0) ⟨#[], args, []⟩).memory :=
  laidMetH_of_parts3 (fuel := 8) (laidMet_of_run' 8 (by kernel_rfl) (by kernel_rfl)) (by kernel_rfl) (by kernel_rfl)
theorem laidOut : laidOutB Tryd.prog = true := by kernel_rfl
/- what a list of integers that came in looks like -/
def IsRow (w : World) (a : Option Addr) (len cap : Nat) (zs : List Int) : Prop :=
  (a = none ∧ len = 0 ∧ cap = 0 ∧ zs = []) ∨
  ∃ x, a = some x ∧ len ≤ cap ∧ cap ≤ maxLen ∧ zs.length = cap ∧ ∀ i, i < zs.length → w.cell? (x.add i) = some (.int .i64 (zs.getD i 0))
end Go.Proofs.YtcgmbgamhlfpcaaDoor

/-
  The statement Rows.TzfileDoesNotAliasCardSaid: for every input the law TzfileDoesNotAlias of zoneinfolaw21 returns true and leaves its arguments as they read before. Conditions: none beside the row's own: the listed package-level tables start as the program's text lays them, and the card ties them to that text.
-/
import Derived.Test.YtpapfpcehlhgeaaGreatDoorRows
import Derived.Test.YtpapfpcehlhgeaaGreatDoorCards
import Derived.Test.YtpapfpcehlhgeaaGreatDoorTie
import Derived.Test.YtpapfpcehlhgeaaGreatDoorELaw21e
import Derived.Test.YtpapfpcehlhgeaaGreatDoorEBkO
import Derived.Test.YtpapfpcehlhgeaaGreatDoorETbZ
import Derived.Test.YtpapfpcehlhgeaaGreatDoorTzfileDoesNotAliasLift
import Derived.WalkKit
import Derived.ProofKit
import Derived.OpenShut
import Derived.ShutString
import Derived.ChangeOld
import Derived.Below
import Derived.Lib.SmallJoins
import Derived.LaidMore
import Derived.Stop.Joined
import Derived.SevenTiedAt
import Derived.Lay
import Derived.MakeChecks
namespace Go.Proofs.YtpapfpcehlhgeaaGreatDoor.tzfileDoesNotAlias
open Go.ChangeShapes Go.WideShapes Go.ChangeAt Go.RowKit
open Go.ChangeMaps (open_string shut_string)
set_option linter.unusedVariables false
set_option maxHeartbeats 16000000 in
theorem closed : joinedFacts Tryz.prog 7 Tryz.f7 Rows.tzfileDoesNotAliasSpec Rows.tzfileDoesNotAliasRow = true := by
  unfold joinedFacts
  repeat' with_reducible refine (Bool.and_eq_true _ _).mpr ⟨?_, ?_⟩
  all_goals (as_aux_lemma => kernel_rfl)
end Go.Proofs.YtpapfpcehlhgeaaGreatDoor.tzfileDoesNotAlias

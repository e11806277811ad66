/-
  The statement Rows.TzfileDoesNotAliasCardSaid: for every input the law TzfileDoesNotAlias of zoneinfolaw21 returns true and leaves its arguments as they read before. Conditions: none beside the row's own: the listed package-level tables start as the program's text lays them, and the card ties them to that text.
-/
import Derived.Test.YtpapfpcehlhgeaaGreatDoorRows
import Derived.Test.YtpapfpcehlhgeaaGreatDoorCards
import Derived.Test.YtpapfpcehlhgeaaGreatDoorTie
import Derived.Test.YtpapfpcehlhgeaaGreatDoorELaw21e
import Derived.Test.YtpapfpcehlhgeaaGreatDoorEBkO
import Derived.Test.YtpapfpcehlhgeaaGreatDoorETbZ
import Derived.Test.YtpapfpcehlhgeaaGreatDoorTzfileDoesNotAliasLift
import Derived.Test.YtpapfpcehlhgeaaGreatDoorTzfileDoesNotAliasClosed
import Derived.WalkKit
import Derived.ProofKit
import Derived.OpenShut
import Derived.ShutString
import Derived.ChangeOld
import Derived.Below
import Derived.Lib.SmallJoins
import Derived.LaidMore
import Derived.Stop.Joined
import Derived.SevenTiedAt
import Derived.Lay
import Derived.MakeChecks
namespace Go.Proofs.YtpapfpcehlhgeaaGreatDoor.tzfileDoesNotAlias
open Go.ChangeShapes Go.WideShapes Go.ChangeAt Go.RowKit
open Go.ChangeMaps (open_string shut_string)
set_option linter.unusedVariables false
set_option maxHeartbeats 16000000 in
theorem over : Rows.tzfileDoesNotAliasRow.holds Tryz.pinned (OpenSpec.ofChange Rows.tzfileDoesNotAliasSpec) :=
  OpenClaim.holds_of_wide 7 Tryz.f7 rfl rfl rfl rfl rfl rfl rfl ⟨rfl, rfl, rfl, rfl, rfl⟩ rfl rfl rfl rfl rfl (by as_aux_lemma => kernel_rfl) Tryz.func7 closed
    (of_decide_eq_true (by as_aux_lemma => kernel_rfl)) (by unfold Func.isWrapper; first | (rw [if_pos (by decide +kernel)]; kernel_rfl) | (rw [if_neg (by decide +kernel)]; exact ⟨rfl, rfl⟩))
    (fun os started H enc _ => lifted os started H enc)
end Go.Proofs.YtpapfpcehlhgeaaGreatDoor.tzfileDoesNotAlias

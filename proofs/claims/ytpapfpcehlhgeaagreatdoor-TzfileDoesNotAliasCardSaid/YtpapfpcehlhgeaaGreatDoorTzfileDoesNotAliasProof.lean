/-
  The statement Rows.TzfileDoesNotAliasCardSaid: for every input the law TzfileDoesNotAlias of zoneinfolaw21 returns true and leaves its arguments as they read before. Conditions: none beside the row's own: the listed package-level tables start as the program's text lays them, and the card ties them to that text.
-/
import Derived.Test.YtpapfpcehlhgeaaGreatDoorRows
import Derived.Test.YtpapfpcehlhgeaaGreatDoorCards
import Derived.Test.YtpapfpcehlhgeaaGreatDoorTie
import Derived.Test.YtpapfpcehlhgeaaGreatDoorELaw21e
import Derived.Test.YtpapfpcehlhgeaaGreatDoorEBkO
import Derived.Test.YtpapfpcehlhgeaaGreatDoorETbZ
import Derived.Test.YtpapfpcehlhgeaaGreatDoorTzfileDoesNotAliasOver
import Derived.WalkKit
import Derived.ProofKit
import Derived.OpenShut
import Derived.ShutString
import Derived.ChangeOld
import Derived.Below
import Derived.Lib.SmallJoins
import Derived.LaidMore
import Derived.Stop.Joined
import Derived.SevenTiedAt
import Derived.Lay
import Derived.MakeChecks
namespace Go.Proofs.YtpapfpcehlhgeaaGreatDoor.tzfileDoesNotAlias
open Go.ChangeShapes Go.WideShapes Go.ChangeAt Go.RowKit
open Go.ChangeMaps (open_string shut_string)
set_option linter.unusedVariables false
set_option maxHeartbeats 16000000 in
theorem proved : Rows.TzfileDoesNotAliasCardSaid :=
  Claim7.holds_tied_plain_at .later [] [.data, .data, .data, .data, .data, .data, .handle, .sentinel, .sentinel, .data, .pinned] true (true, "d320e4b44e5ffedb8f38deb75da267a7b590fe61dddab0122bc5a71a48fd4e86") true
    over (fun _ h => by cases h) (by as_aux_lemma => kernel_rfl) (fun _ h => by cases h) Go.Proofs.YtpapfpcehlhgeaaGreatDoor.tzfileDoesNotAlias_row_tie rfl ⟨rfl, rfl⟩ (by as_aux_lemma => kernel_rfl) rfl
    (fun f fn hf hfn => by
      obtain rfl : f = 7 := Option.some.inj ((show Tryz.prog.funcNamed "zoneinfo/zoneinfolaw21.TzfileDoesNotAlias" = some 7 by as_aux_lemma => kernel_rfl).symm.trans hf) |>.symm
      obtain rfl : fn = Tryz.f7 := (Option.some.inj (Tryz.func7.symm.trans hfn)).symm
      exact ⟨by as_aux_lemma => kernel_rfl, fun j t ht => by
        rw [Tryz.params7] at ht
        have hm : t ∈ [22, 30] := by simpa using Array.mem_of_getElem? ht
        have hall : ([22, 30].all fun u => !Tryz.prog.wantsStandIn u) = true := by as_aux_lemma => kernel_rfl
        exact (show Tryz.prog.wantsStandIn t = false by simpa using List.all_eq_true.1 hall t hm)⟩)
    (by as_aux_lemma => kernel_rfl)
#print axioms proved
end Go.Proofs.YtpapfpcehlhgeaaGreatDoor.tzfileDoesNotAlias

/-
  EQUALITY OF ARRAYS OF 64-BIT INTEGERS that hold the same numbers. No program.
-/
import Derived.Test.YtggjokiiemnkhaaBase
namespace Go.Proofs.Ytggjokiiemnkhaa
open Go.ChangeShapes Go.WideShapes Go.ChangeAt Go.RowKit
set_option linter.unusedVariables false
theorem run_equalIn_arr {P : Program} (d : Nat) (T e : TypeId) (n : Nat) (ht : P.underlying T = some (.array n e)) (he : P.underlying e = some (.int .u64)) (hs : ∀ w, (sizeOf e).run P w = .ok 1 w) (ha : ∀ w, (isAgg e).run P w = .ok false w) (l : List Int) (hl : l.length = n) (w : World) :
    (Op.equalIn (d + 1 + 1) T (.agg (l.map (Value.int .u64)).toArray) (.agg (l.map (Value.int .u64)).toArray)).run P w = .ok true w := by
  rw [Op.equalIn]
  simp only [Sem.run_bind, run_underlying ht, Result.andThen_ok, hs, Nat.mul_one]
  rw [Std.Legacy.Range.forIn_eq_forIn_range']
  have key : ∀ (is : List Nat), (∀ i ∈ is, i < n) → ∀ w, (forIn (m := Sem) is ((none, ()) : Option Bool × Unit) fun i r => do
      if (!(← Op.equalIn (d + 1) e (← part e (l.map (Value.int .u64)).toArray i) (← part e (l.map (Value.int .u64)).toArray i))) = true then pure (ForInStep.done (some false, ())) else pure (ForInStep.yield (none, ()))).run P w = .ok (none, ()) w := by
    intro is
    induction is with
    | nil => intro _ w; rfl
    | cons i is ih =>
      intro h w
      have hi := h i (by simp)
      have hx : (l.map (Value.int .u64)).toArray[i]? = some (.int .u64 (l[i]'(by omega))) := by simp
      have hp : ∀ w, (part e (l.map (Value.int .u64)).toArray i).run P w = .ok (.int .u64 (l[i]'(by omega))) w := fun w => by
        unfold part
        simp only [Sem.run_bind, ha, Result.andThen_ok, Bool.false_eq_true, if_false, hx]
        rfl
      simp only [List.forIn_cons, Sem.run_bind, hp, Result.andThen_ok, run_equalIn_int (P := P) (h := he), beq_self_eq_true]
      simpa using ih (fun j hj => h j (by simp [hj])) w
  rw [key _ (fun i hi => by simp [Std.Legacy.Range.size] at hi; omega)]
  rfl
theorem eq_arr {P : Program} (T e : TypeId) (n : Nat) (ht : P.underlying T = some (.array n e)) (he : P.underlying e = some (.int .u64)) (hs : ∀ w, (sizeOf e).run P w = .ok 1 w) (ha : ∀ w, (isAgg e).run P w = .ok false w) (l : List Int) (hl : l.length = n) (w : World) :
    (Op.equalIn 10000 T (.agg (l.map (Value.int .u64)).toArray) (.agg (l.map (Value.int .u64)).toArray)).run P w = .ok true w := run_equalIn_arr 9998 T e n ht he hs ha l hl w
end Go.Proofs.Ytggjokiiemnkhaa

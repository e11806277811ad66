/-
  WORDS ON A MAP OF FUNCTION VALUES THAT THE CALL MAKES (a composite literal): over no program's function. No conditions beyond each theorem's own.
-/
import Derived.Test.YtdhogpcoegfopaaGreatDoorBase
import Derived.Maps.OwnSet
namespace Go.Proofs.YtdhogpcoegfopaaGreatDoor
open Go.ChangeShapes Go.WideShapes Go.ChangeAt Go.RowKit Go.Maps
set_option linter.unusedVariables false
set_option maxRecDepth 100000
/-- an element as it stands. -/
def heldE (v : Value) : Option (DataW Value × List MemPlace) := some (.held v, [])
theorem heldE_inv {v x : Value} {ps : List MemPlace} (h : heldE v = some (.held x, ps)) : v = x := by
  simp only [heldE, Option.some.injEq, Prod.mk.injEq, DataW.held.injEq] at h
  exact h.1
/-- what new memory does to a map. -/
theorem own_below {w w' : World} {P : Program} {k : TypeId} {R : Value → Option (DataW Value × List MemPlace)} {b n : Nat} {D : DataW Value} (h : w.ownsMap P k R b n D) (hb : Below w.heap.size w w') : w'.ownsMap P k R b n D := by
  have hlt := h.lt
  obtain ⟨es, clock, h1, F, hs, hD⟩ := h
  exact ⟨es, clock, (hb.block b hlt).trans h1, F, hs, hD⟩
/-- an entry of a map's literal, at the operation. -/
theorem wpList_insert_held {P : Program} (w : World) {ops : Array Oper} {rest : List Oper} {o : Oper} {a : Act} {Q : Exit → Act → World → Prop}
    (hg : o.guard = none) (m x v : Operand) (t : TypeId) (hop : o.op = Op.insert t m x v)
    (k e : TypeId) (K : Keyed P k) (ht : P.underlying t = some (.map k e)) (b n : Nat) (D : DataW Value)
    (hm : a.eval m = .map (some b)) (hown : w.ownsMap P k heldE b n D) (hn : n < maxLen) (key val : Value) (kl : Lit) (hx : a.eval x = key) (hv : a.eval v = val) (hkey : keyOf P k key = some kl)
    (hK : ∀ w', w'.ownsMap P k heldE b (n + 1) (D.put kl (.held val)) → w.grownBy w' (some b) → wpList P ops Q rest (a.put o.dst undef) w') :
    wpList P ops Q (o :: rest) a w := by
  refine wpList_plain hg fun K' hK' => ?_
  obtain ⟨w', hrun, r1, r2⟩ := hown.update (R := heldE) (val := val) (d := .held val) (ps := []) K ht hn hkey rfl
  unfold Oper.wp
  simp [execOp, hop, hm, hx, hv, hrun, Result.andThen]
  exact hK' _ _ (hK w' r1 r2)
/-- the element's value, without 'ok' and with it. -/
theorem held_look {w : World} {P : Program} {k t e : TypeId} {b n : Nat} {D : DataW Value} (h : w.ownsMap P k heldE b n D) (K : Keyed P k) (ht : P.underlying t = some (.map k e)) (hz : (zeroValue e).run P w = .ok .nilFunc w)
    {key : Value} {kl : Lit} (hkey : keyOf P k key = some kl) {v : Value} (hv : D.atKey kl (.held .nilFunc) = .held v) : (Instr.lookup t (.map (some b)) key false).run P w = .ok v w := by
  obtain ⟨u, ps, hrun, hu⟩ := h.lookup K ht hz rfl hkey
  rw [hv] at hu
  rw [hrun, heldE_inv hu]
theorem held_look_ok {w : World} {P : Program} {k t e : TypeId} {b n : Nat} {D : DataW Value} (h : w.ownsMap P k heldE b n D) (K : Keyed P k) (ht : P.underlying t = some (.map k e)) (hz : (zeroValue e).run P w = .ok .nilFunc w)
    {key : Value} {kl : Lit} (hkey : keyOf P k key = some kl) {v : Value} {ok : Bool} (hv : D.atKey kl (.held .nilFunc) = .held v) (ho : Maps.has D kl = ok) : (Instr.lookup t (.map (some b)) key true).run P w = .ok (.tuple #[v, .bool ok]) w := by
  obtain ⟨u, ps, hrun, hu⟩ := h.look_ok K ht hz rfl hkey
  rw [hv] at hu
  rw [hrun, heldE_inv hu, ho]
/-- three entries under 1, 2, 3. -/
def three (f1 f2 f3 : Value) : DataW Value := (((DataW.map []).put (.int .i64 1) (.held f1)).put (.int .i64 2) (.held f2)).put (.int .i64 3) (.held f3)
theorem three_is (f1 f2 f3 : Value) : three f1 f2 f3 = .map [(.int .i64 1, .held f1), (.int .i64 2, .held f2), (.int .i64 3, .held f3)] := by
  simp [three, DataW.put, DataW.insert, Lit.sameKey, Lit.before]
theorem three_1 (f1 f2 f3 : Value) : (three f1 f2 f3).atKey (.int .i64 1) (.held .nilFunc) = .held f1 ∧ Maps.has (three f1 f2 f3) (.int .i64 1) = true := by
  rw [three_is]; simp [DataW.atKey, Lit.sameKey, Maps.has]
theorem three_2 (f1 f2 f3 : Value) : (three f1 f2 f3).atKey (.int .i64 2) (.held .nilFunc) = .held f2 ∧ Maps.has (three f1 f2 f3) (.int .i64 2) = true := by
  rw [three_is]; simp [DataW.atKey, Lit.sameKey, Maps.has]
theorem three_3 (f1 f2 f3 : Value) : (three f1 f2 f3).atKey (.int .i64 3) (.held .nilFunc) = .held f3 ∧ Maps.has (three f1 f2 f3) (.int .i64 3) = true := by
  rw [three_is]; simp [DataW.atKey, Lit.sameKey, Maps.has]
theorem three_no (f1 f2 f3 : Value) {K : Int} (h1 : K ≠ 1) (h2 : K ≠ 2) (h3 : K ≠ 3) : (three f1 f2 f3).atKey (.int .i64 K) (.held .nilFunc) = .held .nilFunc ∧ Maps.has (three f1 f2 f3) (.int .i64 K) = false := by
  have a1 : ¬ (1 : Int) = K := fun e => h1 e.symm
  have a2 : ¬ (2 : Int) = K := fun e => h2 e.symm
  have a3 : ¬ (3 : Int) = K := fun e => h3 e.symm
  rw [three_is]; simp [DataW.atKey, Lit.sameKey, Maps.has, a1, a2, a3]
end Go.Proofs.YtdhogpcoegfopaaGreatDoor

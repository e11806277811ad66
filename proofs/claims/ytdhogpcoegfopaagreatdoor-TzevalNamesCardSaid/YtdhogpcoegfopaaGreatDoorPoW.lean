/-
  WORDS ON RULES (api.Rule, api.RuleDay) as values, as opaque rows of cells, and what Day and Parse answer. No conditions.
-/
import Derived.Test.YtdhogpcoegfopaaGreatDoorRows
import Derived.Test.YtdhogpcoegfopaaGreatDoorPtSp
import Derived.Test.YtdhogpcoegfopaaGreatDoorPtFmt
import Derived.Test.YtdhogpcoegfopaaGreatDoorTn
import Derived.Test.YtdhogpcoegfopaaGreatDoorHf
import Derived.Test.YtdhogpcoegfopaaGreatDoorRow
namespace Go.Proofs.YtdhogpcoegfopaaGreatDoor
open Go.ChangeShapes Go.WideShapes Go.ChangeAt Go.RowKit
set_option linter.unusedVariables false
set_option maxRecDepth 100000
/-- a rule day and a rule as values. -/
def vday (d : RD) : Value := .agg #[.int .i64 d.1, .int .i64 d.2.1, .int .i64 d.2.2.1, .int .i64 d.2.2.2.1, .int .i64 d.2.2.2.2.1, .int .i64 d.2.2.2.2.2]
def vrule (std : ByteArray) (so : Int) (hd : Bool) (dst : ByteArray) (dof : Int) (st en : RD) : Value :=
  .agg #[.string std, .int .i64 so, .bool hd, .string dst, .int .i64 dof, .int .i64 st.1, .int .i64 st.2.1, .int .i64 st.2.2.1, .int .i64 st.2.2.2.1, .int .i64 st.2.2.2.2.1, .int .i64 st.2.2.2.2.2, .int .i64 en.1, .int .i64 en.2.1, .int .i64 en.2.2.1, .int .i64 en.2.2.2.1, .int .i64 en.2.2.2.2.1, .int .i64 en.2.2.2.2.2]
/-- the cells of a rule. -/
def crule (std : ByteArray) (so : Int) (hd : Bool) (dst : ByteArray) (dof : Int) (st en : RD) : Array Value :=
  #[.string std, .int .i64 so, .bool hd, .string dst, .int .i64 dof, .int .i64 st.1, .int .i64 st.2.1, .int .i64 st.2.2.1, .int .i64 st.2.2.2.1, .int .i64 st.2.2.2.2.1, .int .i64 st.2.2.2.2.2, .int .i64 en.1, .int .i64 en.2.1, .int .i64 en.2.2.1, .int .i64 en.2.2.2.1, .int .i64 en.2.2.2.2.1, .int .i64 en.2.2.2.2.2]
theorem vrule_c (std : ByteArray) (so : Int) (hd : Bool) (dst : ByteArray) (dof : Int) (st en : RD) : vrule std so hd dst dof st en = .agg (crule std so hd dst dof st en) := rfl
/-- cells that fill a struct's row. -/
def Gr (P : Program) (T : TypeId) (n : Nat) (cs : Array Value) : Prop := (P.info? T).map (·.size) = some cs.size ∧ cs.size = n ∧ cs.all (·.oneCell') = true
theorem gr_rule (std : ByteArray) (so : Int) (hd : Bool) (dst : ByteArray) (dof : Int) (st en : RD) : Gr Tryz.prog 25 17 (crule std so hd dst dof st en) :=
  ⟨by rw [show (crule std so hd dst dof st en).size = 17 from rfl]; kernel_rfl, rfl, by simp [crule, Value.oneCell']⟩
/-- a whole row stored, as the walk meets it where the cells are a variable. -/
theorem st_row {P : Program} {T : TypeId} {n : Nat} {cs old : Array Value} {w : World} {g : Nat} (h : Gr P T n cs) (ho : old.size = cs.size) (hg : w.heap[g]? = some (.cells old T (0, 0))) :
    (storeCells ⟨g, 0, none⟩ cs.toList 0).run P w = .ok () (w.setRow g cs) := by
  have := run_storeVar_row (P := P) w g T T old cs hg h.1 ho h.2.2
  cases hq : P.info? T with
  | none => have := h.1; simp [hq] at this
  | some i =>
    have hs : cs.size = i.size := by have := h.1; simp [hq] at this; omega
    simpa [storeVar, sizeOf, typeInfo, hq, Value.cells, hs] using this
def ptRes (r : Except Nat PR) : Value :=
  match r with
  | .error a => .tuple #[vrule ⟨#[]⟩ 0 false ⟨#[]⟩ 0 rd0 rd0, .int .i64 14, .int .i64 a]
  | .ok r => .tuple #[vrule (mkS r.1) r.2.1 r.2.2.1 (mkS r.2.2.2.1) r.2.2.2.2.1 r.2.2.2.2.2.1 r.2.2.2.2.2.2, .int .i64 0, .int .i64 0]
def ptDayRes (r : Option (RD × Nat)) : Value :=
  match r with
  | none => .tuple #[vday rd0, .int .i64 0, .bool false]
  | some (d, n) => .tuple #[vday d, .int .i64 n, .bool true]
theorem cells17 {w : World} {g : Nat} {a0 a1 a2 a3 a4 a5 a6 a7 a8 a9 a10 a11 a12 a13 a14 a15 a16 : Value} (h : Bx w g [a0, a1, a2, a3, a4, a5, a6, a7, a8, a9, a10, a11, a12, a13, a14, a15, a16]) :
    w.cell? ⟨g, 0, none⟩ = some a0 ∧ w.cell? ⟨g, 1, none⟩ = some a1 ∧ w.cell? ⟨g, 2, none⟩ = some a2 ∧ w.cell? ⟨g, 3, none⟩ = some a3 ∧ w.cell? ⟨g, 4, none⟩ = some a4 ∧ w.cell? ⟨g, 5, none⟩ = some a5 ∧ w.cell? ⟨g, 6, none⟩ = some a6 ∧ w.cell? ⟨g, 7, none⟩ = some a7 ∧ w.cell? ⟨g, 8, none⟩ = some a8 ∧ w.cell? ⟨g, 9, none⟩ = some a9 ∧ w.cell? ⟨g, 10, none⟩ = some a10 ∧ w.cell? ⟨g, 11, none⟩ = some a11 ∧ w.cell? ⟨g, 12, none⟩ = some a12 ∧ w.cell? ⟨g, 13, none⟩ = some a13 ∧ w.cell? ⟨g, 14, none⟩ = some a14 ∧ w.cell? ⟨g, 15, none⟩ = some a15 ∧ w.cell? ⟨g, 16, none⟩ = some a16 :=
  ⟨h.2.1 0 _ rfl, h.2.1 1 _ rfl, h.2.1 2 _ rfl, h.2.1 3 _ rfl, h.2.1 4 _ rfl, h.2.1 5 _ rfl, h.2.1 6 _ rfl, h.2.1 7 _ rfl, h.2.1 8 _ rfl, h.2.1 9 _ rfl, h.2.1 10 _ rfl, h.2.1 11 _ rfl, h.2.1 12 _ rfl, h.2.1 13 _ rfl, h.2.1 14 _ rfl, h.2.1 15 _ rfl, h.2.1 16 _ rfl⟩
theorem cells6' {w : World} {g : Nat} {a b c d e f : Value} (h : Bx w g [a, b, c, d, e, f]) : w.cell? ⟨g, 0, none⟩ = some a ∧ w.cell? ⟨g, 1, none⟩ = some b ∧ w.cell? ⟨g, 2, none⟩ = some c ∧ w.cell? ⟨g, 3, none⟩ = some d ∧ w.cell? ⟨g, 4, none⟩ = some e ∧ w.cell? ⟨g, 5, none⟩ = some f :=
  ⟨h.2.1 0 _ rfl, h.2.1 1 _ rfl, h.2.1 2 _ rfl, h.2.1 3 _ rfl, h.2.1 4 _ rfl, h.2.1 5 _ rfl⟩
theorem prOk_len {r : PR} (h : prOk r) : (mkS r.1).size ≤ 255 ∧ (mkS r.2.2.2.1).size ≤ 255 := by
  obtain ⟨h1, h2, h3⟩ := h
  rw [size_mk, size_mk]
  refine ⟨(nameOk_iff.1 h1).2.1, ?_⟩
  split at h3
  · exact (nameOk_iff.1 h3.1).2.1
  · rw [h3.1]; simp
theorem ptOk_len {s : ByteArray} {r : PR} (h : ptParse (byt s) = .ok r) (hs : s.size ≤ maxLen) : (mkS r.1).size ≤ maxLen ∧ (mkS r.2.2.2.1).size ≤ maxLen := by
  have := prOk_len (ptParse_ok h)
  simp only [maxLen]
  omega
end Go.Proofs.YtdhogpcoegfopaaGreatDoor

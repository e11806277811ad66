/-
  Texts of mine in one file: Row4, Str, Tn, TnMath. Their conditions stand in the theorems.
-/
import Derived.Test.YtbehflfpdkedgaaGreatDoorQ01
import Derived.Laws.Rows
import Derived.Laws.Tables
import Derived.Deep.WholeRow
import Derived.Deep.RegionHeld3
import Derived.RangeFuncNested
import Derived.RangeFuncBound
import Derived.RangeFuncCalls
import Derived.RangeFuncLeaves
import Derived.Shelf.Abstract
import Derived.Shelf.RegionOpen
import Derived.WalkKit
import Derived.OwnWalkIn
import Derived.TacticsInMore
import Derived.LoopNIn
import Derived.LoopIn
import Derived.WalkMore
import Derived.Test.YtbehflfpdkedgaaGreatDoorRows
namespace Go.Proofs.YtbehflfpdkedgaaGreatDoor
set_option linter.unusedVariables false
set_option linter.unusedSimpArgs false
set_option maxRecDepth 100000
set_option maxHeartbeats 16000000
open Go.ChangeShapes Go.WideShapes Go.ChangeAt Go.RowKit
def Ro (w : World) (g : Nat) (vs : Array Value) (T : TypeId) : Prop := w.heap[g]? = some (.cells vs T (0, 0))
theorem Ro.lt {w : World} {g : Nat} {vs : Array Value} {T : TypeId} (h : Ro w g vs T) : g < w.heap.size := by
 rcases Nat.lt_or_ge g w.heap.size with hl | hl
 ·exact hl
 ·unfold Ro at h
  rw [Array.getElem?_eq_none hl] at h
  cases h
theorem Ro.new (w : World) (vs : Array Value) (T : TypeId) : Ro (w.alloc (.cells vs T)) w.heap.size vs T := heap_alloc_last w _
theorem Ro.below {w w' : World} {g : Nat} {vs : Array Value} {T : TypeId} (h : Ro w g vs T) (hb : Below w.heap.size w w') : Ro w' g vs T := (hb.block g h.lt).trans h
theorem Ro.alloc {w : World} {g : Nat} {vs : Array Value} {T : TypeId} (h : Ro w g vs T) (o : Obj) : Ro (w.alloc o) g vs T := h.below (bl_new w o)
theorem Ro.drew {w : World} {g : Nat} {vs : Array Value} {T : TypeId} (h : Ro w g vs T) : Ro w.drew g vs T := h
theorem Ro.cell {w : World} {g : Nat} {vs : Array Value} {T : TypeId} (h : Ro w g vs T) (j : Nat) : w.cell? ⟨g, j, none⟩ = vs[j]? := cell_of_row w g j vs T (0, 0) h
theorem Ro.frozen {w : World} {g : Nat} {vs : Array Value} {T : TypeId} (h : Ro w g vs T) (j : Nat) : w.frozen? ⟨g, j, none⟩ = false := frozen_of_row w g j vs T h
section
variable {P : Program} {ops : Array Oper} {rest : List Oper} {o : Oper} {a : Act} {w : World} {Q : Exit → Act → World → Prop}
theorem load_row_g (hw : Region.wanted o (yielded ops a.tmps) = true) (ty : TypeId) (x : Operand) (ho : o.op = .load ty x)
 (g : Nat) (hx : a.eval x = .pointer (some ⟨g, 0, none⟩)) (t : TypeId) (cs : Array Value) (d : TypeDesc) (hg : Ro w g cs t)
 (hu : P.underlying ty = some d) (hd : (match d with | .struct _ | .array _ _ => true | _ => false) = true) (hi : (P.info? ty).map (·.size) = some cs.size)
 (h : wpList P ops Q rest (a.put o.dst (.agg cs)) w) : wpList P ops Q (o :: rest) a w :=
 wpList_step fun _ hK => by
  rw [if_pos hw]
  exact wp_load_row ty x ho g hx t cs (0, 0) d hg hu hd hi (hK _ _ h)
theorem Ro.load {w : World} {g : Nat} {cs : Array Value} {t : TypeId} (h : Ro w g cs t) (ty : TypeId) (d : TypeDesc) (hu : P.underlying ty = some d) (hd : (match d with | .struct _ | .array _ _ => true | _ => false) = true) (hi : (P.info? ty).map (·.size) = some cs.size) :
 (Instr.loadAt ty (.pointer (some ⟨g, 0, none⟩))).run P w = .ok (.agg cs) w ∧ (loadVar ty ⟨g, 0, none⟩).run P w = .ok (.agg cs) w := by
 have hl := run_loadVar_row w g t ty cs (0, 0) d h hu hd hi
 refine ⟨?_, hl⟩
 simp only [Instr.loadAt, Instr.sureAddr, Sem.run_bind, Sem.run_pure, Result.andThen]
 exact hl
end
theorem ro_set {w : World} {g : Nat} {vs : Array Value} {T : TypeId} (h : Ro w g vs T) (k : Nat) (v : Value) : Ro (w.setCell ⟨g, k, none⟩ v) g (vs.setIfInBounds k v) T := by
 unfold Ro at *
 simp [World.setCell, Array.getElem?_modify, h]
theorem ro_set_ne {w : World} {g g' : Nat} {vs : Array Value} {T : TypeId} (h : Ro w g vs T) (hne : g' ≠ g) (k : Nat) (v : Value) : Ro (w.setCell ⟨g', k, none⟩ v) g vs T := by
 unfold Ro at *
 simp [World.setCell, Array.getElem?_modify, hne, h]
theorem ro_row {w : World} {g : Nat} {vs : Array Value} {T : TypeId} (h : Ro w g vs T) (cs : Array Value) : Ro (w.setRow g cs) g cs T := setRow_heap w g vs cs T (0, 0) h
theorem bl_row {a w : World} (h : Below a.heap.size a w) {g : Nat} (hg : a.heap.size ≤ g) (cs : Array Value) : Below a.heap.size a (w.setRow g cs) :=
 ⟨h.os, h.tape, h.output, by rw [size_setRow]; exact h.size, fun k hk => by rw [setRow_other w g k cs (by omega)]; exact h.block k hk⟩
theorem ro_cf {w : World} {g : Nat} {vs : Array Value} {T : TypeId} (h : Ro w g vs T) (k : Nat) (v : Value) (hv : vs[k]? = some v) : w.cell? ⟨g, k, none⟩ = some v ∧ w.frozen? ⟨g, k, none⟩ = false := ⟨by rw [h.cell, hv], h.frozen k⟩
theorem ro_set1' {w : World} {g : Nat} {x0 a' : Value} {T : TypeId} (h : Ro w g #[a'] T) : Ro (w.setCell ⟨g, 0, none⟩ x0) g #[x0] T := by
 have := ro_set h 0 x0
 simpa using this
theorem ro_away1 {w : World} {g g' : Nat} {vs : Array Value} {a : Value} {T : TypeId} (h : Ro w g vs T) (hne : g' ≠ g) : Ro (w.setCell ⟨g', 0, none⟩ a) g vs T := ro_set_ne h hne 0 a
theorem bl_set1 {w0 w : World} {a : Value} (h : Below w0.heap.size w0 w) {g : Nat} (hg : w0.heap.size ≤ g) : Below w0.heap.size w0 (w.setCell ⟨g, 0, none⟩ a) := bl_set h hg _
theorem wpAnyH_takeD {P : Program} {md : Region.Mode} {ops : Array Oper} {Q : Exit → Act → World → Prop} {S : World → Prop} {i : Nat} {oi : Oper} {d : Option Tmp} {v : Value} {fuel : Nat} {listed : Array Bool} {a : Act} {w : World} (hi : ops[i]? = some oi) (hd : oi.dst = d)
 (hs : Region.noSelect ops = true) (hf : Region.free md ops listed i = true) (hr : (Region.ready md ops listed).contains i = true)
 (hQ : ∀ c a w, Q (.panic c) (a.put d v) w → Q (.panic c) a w) (hy : YieldsIf P ops S oi v a) (hS : S w)
 (h : wpAnyH P md ops Q S fuel (listed.setIfInBounds i true) (a.put d v) w) : wpAnyH P md ops Q S (fuel + 1) listed a w := by
 subst hd
 exact wpAnyH_take hi hs hf hr hQ hy hS h
theorem yieldsIf_load_row {P : Program} {ops : Array Oper} {S : World → Prop} {op : Oper} {a : Act} (hw : Region.wanted op (yielded ops a.tmps) = true) (ty : TypeId) (x : Operand) (ho : op.op = .load ty x)
 (g : Nat) (hx : a.eval x = .pointer (some ⟨g, 0, none⟩)) (t : TypeId) (cs : Array Value) (d : TypeDesc) (hS : ∀ w, S w → Ro w g cs t)
 (hu : P.underlying ty = some d) (hd : (match d with | .struct _ | .array _ _ => true | _ => false) = true) (hi : (P.info? ty).map (·.size) = some cs.size) : YieldsIf P ops S op (.agg cs) a :=
 .inl ⟨hw, fun w hw' => by
  unfold execOp
  simp only [ho, hx, Sem.run_bind, Sem.run_pure, ((hS w hw').load ty d hu hd hi).1, Result.andThen_ok]⟩
open Go.ChangeShapes Go.WideShapes Go.ChangeAt Go.RowKit Go.Shelf
theorem grown_of {W W' : World} (h : Below W.heap.size W W') : W.grownBy W' none := ⟨h.os, h.tape, h.output, h.size, fun k hk _ => h.block k hk⟩
theorem ko_below {W W' : World} (h : Below W.heap.size W W') : KeepsOthers W W' := KeepsOthers.of_grownBy (grown_of h) (fun j o e => by cases e)
theorem ro_keep {W W' : World} {row : Option Nat} {g : Nat} {vs : Array Value} {T : TypeId} (hs : Ro W g vs T) (hg : W.grownBy W' row) (hr : ∀ r, row = some r → ∃ o : Obj, W.heap[r]? = some o ∧ o.isCells = false) : Ro W' g vs T :=
 (hg.block g hs.lt (fun e => by obtain ⟨o, ho, hc⟩ := hr g e.symm; unfold Ro at hs; rw [hs] at ho; cases ho; simp [Obj.isCells] at hc)).trans hs
def Kp1 (n₀ g : Nat) (W W' : World) : Prop := Below n₀ W W' ∧ W'.heap[g]? = W.heap[g]?
theorem kp1_t {n₀ g : Nat} {A B C : World} (h : Kp1 n₀ g A B) (k : Kp1 n₀ g B C) : Kp1 n₀ g A C := ⟨h.1.trans k.1, k.2.trans h.2⟩
theorem kp1_b {n₀ g : Nat} {w : World} (hn : n₀ ≤ w.heap.size) (hg : g < w.heap.size) (W : World) (l : Nat) (o o' : Obj) (hl : w.heap.size ≤ l) (h : W.heap[l]? = some o) (hc : o.isCells = false) (hw : o.isWalk = false) : Kp1 n₀ g W (W.putObj l o') :=
 ⟨belowK_b hn W l o o' hl h hc hw, World.putObj_heap_other (by omega)⟩
theorem kp1_below {n₀ g : Nat} {W W' : World} (h : Below W.heap.size W W') (hn : n₀ ≤ W.heap.size) (hg : g < W.heap.size) : Kp1 n₀ g W W' := ⟨h.mono hn, h.block g hg⟩
theorem kp1_refl (n₀ g : Nat) (W : World) : Kp1 n₀ g W W := ⟨Below.refl _ _, rfl⟩
theorem ro_set4' {w : World} {g : Nat} {x0 x1 x2 x3 y0 y1 y2 y3 : Value} {T : TypeId} (h : Ro w g #[y0, y1, y2, y3] T) : Ro ((((w.setCell ⟨g, 0, none⟩ x0).setCell ⟨g, 1, none⟩ x1).setCell ⟨g, 2, none⟩ x2).setCell ⟨g, 3, none⟩ x3) g #[x0, x1, x2, x3] T := (ro_set (ro_set (ro_set (ro_set h 0 x0) 1 x1) 2 x2) 3 x3)
theorem bl_setx4 {w0 w : World} {x0 x1 x2 x3 : Value} (h : Below w0.heap.size w0 w) {g : Nat} (hg : w0.heap.size ≤ g) : Below w0.heap.size w0 ((((w.setCell ⟨g, 0, none⟩ x0).setCell ⟨g, 1, none⟩ x1).setCell ⟨g, 2, none⟩ x2).setCell ⟨g, 3, none⟩ x3) := (bl_set (bl_set (bl_set (bl_set h hg x0) hg x1) hg x2) hg x3)
def mkS (l : List UInt8) : ByteArray := ⟨l.toArray⟩
abbrev byt (s : ByteArray) : List UInt8 := s.data.toList
theorem byt_mk (l : List UInt8) : byt (mkS l) = l := by simp [byt, mkS]
theorem mk_byt (s : ByteArray) : mkS (byt s) = s := by cases s; simp [mkS]
theorem byt_inj {a b : ByteArray} : byt a = byt b ↔ a = b := ⟨fun h => by rw [← mk_byt a, h, mk_byt], fun h => by rw [h]⟩
theorem len_byt (s : ByteArray) : (byt s).length = s.size := by simp [byt]
theorem size_mk (l : List UInt8) : (mkS l).size = l.length := by simp [mkS, ByteArray.size]
theorem get_byt (s : ByteArray) (k : Nat) (h : k < s.size) : (byt s)[k]'(by rw [len_byt]; exact h) = s[k] := by simp [byt]; rfl
theorem tw_lt {p : UInt8 → Bool} : ∀ {l : List UInt8} {k : Nat} (h : k < (l.takeWhile p).length) (hk : k < l.length), p l[k] = true
 | [], _, h, _ => by simp at h
 | a :: l, k, h, hk => by
   by_cases ha : p a = true
   ·rw [List.takeWhile_cons_of_pos ha] at h
    cases k with
    | zero => exact ha
    | succ k =>
      simp only [List.getElem_cons_succ]
      exact tw_lt (by simpa using h) (by simpa using hk)
   ·rw [List.takeWhile_cons_of_neg ha] at h
    simp at h
theorem tw_le (p : UInt8 → Bool) (l : List UInt8) : (l.takeWhile p).length ≤ l.length := (List.takeWhile_sublist _).length_le
theorem tw_at {p : UInt8 → Bool} : ∀ {l : List UInt8} (h : (l.takeWhile p).length < l.length), p (l[(l.takeWhile p).length]'h) = false
 | [], h => by simp at h
 | a :: l, h => by
   by_cases ha : p a = true
   ·have e : (List.takeWhile p (a :: l)) = a :: List.takeWhile p l := List.takeWhile_cons_of_pos ha
    have h' : (l.takeWhile p).length < l.length := by rw [e] at h; simpa using h
    simp only [e, List.length_cons, List.getElem_cons_succ]
    exact tw_at h'
   ·have e : (List.takeWhile p (a :: l)) = [] := List.takeWhile_cons_of_neg ha
    simp only [e, List.length_nil, List.getElem_cons_zero]
    simpa using ha
theorem take_tw {p : UInt8 → Bool} (l : List UInt8) : l.take (l.takeWhile p).length = l.takeWhile p := by
 induction l with
 | nil => rfl
 | cons a l ih =>
   by_cases ha : p a = true
   ·rw [List.takeWhile_cons_of_pos ha]; simp [ih]
   ·rw [List.takeWhile_cons_of_neg ha]; simp
theorem all_tw {p : UInt8 → Bool} (l : List UInt8) : l.all p = decide ((l.takeWhile p).length = l.length) := by
 induction l with
 | nil => rfl
 | cons a l ih =>
   by_cases ha : p a = true
   ·rw [List.takeWhile_cons_of_pos ha]; simp [ih, ha]
   ·rw [List.takeWhile_cons_of_neg ha]; simp [ha]
theorem byt_extract (s : ByteArray) (a b : Nat) : byt (s.extract a b) = ((byt s).take b).drop a := by
 simp [byt, ByteArray.data_extract, Array.toList_extract, List.extract_eq_drop_take']
theorem byt_append (s t : ByteArray) : byt (s ++ t) = byt s ++ byt t := by simp [byt]
theorem seq_ne {a b : ByteArray} (h : ¬ a = b) : (a.toList == b.toList) = false := by
 rw [ByteArray.toList_eq, ByteArray.toList_eq]
 simp only [beq_eq_false_iff_ne, ne_eq]
 exact fun e => h (byt_inj.1 e)
theorem seq_eq {a b : ByteArray} (h : a = b) : (a.toList == b.toList) = true := by rw [h]; simp
def alphaI (x : Int) : Bool := (decide (65 ≤ x) && decide (x ≤ 90)) || (decide (97 ≤ x) && decide (x ≤ 122))
def alpha (c : UInt8) : Bool := alphaI c.toNat
def nameI (x : Int) : Bool := alphaI x || (decide (48 ≤ x) && decide (x ≤ 57)) || decide (x = 43) || decide (x = 45)
def nameB (c : UInt8) : Bool := nameI c.toNat
def nameOk (l : List UInt8) : Bool := decide (3 ≤ l.length) && decide (l.length ≤ 255) && l.all nameB
def letters (l : List UInt8) : Nat := (l.takeWhile alpha).length
def not62 (c : UInt8) : Bool := decide (¬ (c.toNat : Int) = 62)
def tnParse (l : List UInt8) : Option (List UInt8 × Nat) :=
 match l with
 | [] => none
 | a :: t =>
   if a.toNat = 60 then
    let q := t.takeWhile not62
    if q.length < t.length ∧ nameOk q then some (q, q.length + 2) else none
   else
    let q := l.takeWhile alpha
    if nameOk q then some (q, q.length) else none
def tnRes (r : Option (List UInt8 × Nat)) : Value :=
 match r with
 | none => .tuple #[.string ⟨#[]⟩, .int .i64 0, .bool false]
 | some (q, n) => .tuple #[.string (mkS q), .int .i64 n, .bool true]
theorem retV {a b : Value} (h : a = b) : Ending.returned a = .returned b := by rw [h]
namespace r7_
theorem IsAlpha (x : Int) (w : World) (h0 : 0 ≤ x) (h1 : x < 256) : Calls Tryz.prog 136 #[.int .u8 x] w fun e w' => e = .returned (.bool (alphaI x)) ∧ w = w' := by
 go_enter Tryz.func136, Tryz.ntmps136
 go_wp2
 all_goals go_ret
 all_goals
  refine ⟨retb ?_, rfl⟩
  unfold alphaI
  rw [Bool.eq_iff_iff]
  simp
  try omega
theorem letters_ (s : ByteArray) (w : World) (hs : s.size ≤ maxLen) : Calls Tryz.prog 110 #[.string s] w fun e w' => e = .returned (.int .i64 (letters (byt s))) ∧ w = w' := by
 unfold maxLen at hs
 obtain ⟨q, hq⟩ : ∃ q, q = letters (byt s) := ⟨_, rfl⟩
 have hql : q ≤ s.size := by have := tw_le alpha (byt s); rw [len_byt] at this; rw [hq]; exact this
 have h1 : ∀ k (hk : k < q) (hs : k < s.size), alpha s[k] = true := fun k hk hs => by
  rw [← get_byt s k hs]
  exact tw_lt (by rw [hq] at hk; exact hk) _
 have h2 : ∀ h : q < s.size, alpha s[q] = false := fun h => by
  subst hq
  rw [← get_byt s _ h]
  exact tw_at (by rw [len_byt]; exact h)
 have H1 := hide h1
 have H2 := hide h2
 rw [← hq]
 clear hq h1 h2
 go_enter Tryz.func110, Tryz.ntmps110
 go_wp2
 go_loop [3] (fun n => ∃ k : Nat, k ≤ q ∧ n = .int .i64 k) (fun n => q + 1 - (intOf n).toNat)
 case atStart => exact ⟨0, Nat.zero_le _, rfl⟩
 case round =>
  obtain ⟨k, hk, rfl⟩ := hrel
  by_cases hlt : k < q
  ·have hks : k < s.size := by omega
   have ha := hide (H1.out k hlt hks)
   have C := hide (fun w => IsAlpha (s[k].toNat : Int) w (by omega) (by have := (s[k]).toNat_lt; omega))
   rw [show alphaI (s[k].toNat : Int) = true from ha.out] at C
   go_wp2_with fail
   refine (C.out _).mono ?_
   rintro e w' ⟨rfl, rfl⟩
   go_wp2
   go_round
   case rel => exact ⟨k + 1, by omega, by go_num⟩
   case measure => simp [intOf]; omega
  ·obtain rfl : k = q := by omega
   by_cases hks : k < s.size
   ·have C := hide (fun w => IsAlpha (s[k].toNat : Int) w (by omega) (by have := (s[k]).toNat_lt; omega))
    rw [show alphaI (s[k].toNat : Int) = false from H2.out hks] at C
    go_wp2_with fail
    refine (C.out _).mono ?_
    rintro e w' ⟨rfl, rfl⟩
    go_wp2
    go_ret
    exact ⟨rfl, rfl⟩
   ·go_wp2
    go_ret
    exact ⟨rfl, rfl⟩
theorem Valid (s : ByteArray) (w : World) (hs : s.size ≤ maxLen) : Calls Tryz.prog 109 #[.string s] w fun e w' => e = .returned (.bool (nameOk (byt s))) ∧ w = w' := by
 unfold maxLen at hs
 obtain ⟨q, hq⟩ : ∃ q, q = ((byt s).takeWhile nameB).length := ⟨_, rfl⟩
 have hql : q ≤ s.size := by have := tw_le nameB (byt s); rw [len_byt] at this; rw [hq]; exact this
 have h1 : ∀ k (hk : k < q) (hs : k < s.size), nameB s[k] = true := fun k hk hs => by
  rw [← get_byt s k hs]
  exact tw_lt (by rw [hq] at hk; exact hk) _
 have h2 : ∀ h : q < s.size, nameB s[q] = false := fun h => by
  subst hq
  rw [← get_byt s _ h]
  exact tw_at (by rw [len_byt]; exact h)
 have hf := hide (show nameOk (byt s) = (decide (3 ≤ s.size) && decide (s.size ≤ 255) && decide (q = s.size)) by
  unfold nameOk
  rw [all_tw, len_byt, hq])
 have H1 := hide h1
 have H2 := hide h2
 rw [hf.out]
 clear hq h1 h2 hf
 go_enter Tryz.func109, Tryz.ntmps109
 go_wp2
 go_loop [3] (fun n => ∃ k : Nat, k ≤ q ∧ n = .int .i64 k) (fun n => q + 1 - (intOf n).toNat)
 case atStart => exact ⟨0, Nat.zero_le _, rfl⟩
 case round =>
  obtain ⟨k, hk, rfl⟩ := hrel
  by_cases hlt : k < q
  ·have hks : k < s.size := by omega
   have ha := H1.out k hlt hks
   have hc := (s[k]).toNat_lt
   unfold nameB at ha
   obtain ⟨x, hx⟩ : ∃ x : Int, (s[k].toNat : Int) = x := ⟨_, rfl⟩
   rw [hx] at ha
   have x0 : 0 ≤ x := by omega
   have x1 : x < 256 := by omega
   have C := hide (fun w => IsAlpha x w x0 x1)
   have ha' : alphaI x = true ∨ (alphaI x = false ∧ 48 ≤ x ∧ x ≤ 57) ∨ (alphaI x = false ∧ x = 43) ∨ (alphaI x = false ∧ x = 45) := by
    unfold nameI at ha
    cases h : alphaI x <;> simp [h] at ha ⊢ <;> omega
   clear ha hc
   rcases ha' with h | ⟨h, a1, a2⟩ | ⟨h, rfl⟩ | ⟨h, rfl⟩
   all_goals
    rw [h] at C
    clear h
    go_wp2_with fail
    refine (C.out _).mono ?_
    rintro e w' ⟨rfl, rfl⟩
    go_wp2
    go_round
    case rel => exact ⟨k + 1, by omega, by go_num⟩
    case measure => simp [intOf]; omega
  ·obtain rfl : k = q := by omega
   by_cases hks : k < s.size
   ·have ha := H2.out hks
    have hc := (s[k]).toNat_lt
    unfold nameB at ha
    obtain ⟨x, hx⟩ : ∃ x : Int, (s[k].toNat : Int) = x := ⟨_, rfl⟩
    rw [hx] at ha
    have x0 : 0 ≤ x := by omega
    have x1 : x < 256 := by omega
    have C := hide (fun w => IsAlpha x w x0 x1)
    have ha' : alphaI x = false ∧ (x < 48 ∨ 57 < x) ∧ ¬ x = 43 ∧ ¬ x = 45 := by
     unfold nameI at ha
     cases h : alphaI x <;> simp [h] at ha ⊢ <;> omega
    clear ha hc
    obtain ⟨h, a1, a2, a3⟩ := ha'
    have n2 : (x != 43) = true := by simpa using a2
    have n3 : (x != 45) = true := by simpa using a3
    clear a2 a3
    rw [h] at C
    clear h
    have e : (decide (3 ≤ s.size) && decide (s.size ≤ 255) && decide (k = s.size)) = false := by simp; omega
    have E := hide e
    clear e
    rcases a1 with a1 | a1
    all_goals
     go_wp2_with fail
     refine (C.out _).mono ?_
     rintro e w' ⟨rfl, rfl⟩
     go_wp2
     go_ret
     exact ⟨retb E.out.symm, rfl⟩
   ·obtain rfl : k = s.size := by omega
    go_wp2
    all_goals go_ret
    all_goals
     refine ⟨retb ?_, rfl⟩
     rw [Bool.eq_iff_iff]; simp; omega
theorem Parse (s : ByteArray) (w : World) (hs : s.size ≤ 1000000) : Calls Tryz.prog 78 #[.string s] w fun e w' => e = .returned (tnRes (tnParse (byt s))) ∧ w = w' := by
 have V := hide (fun (t : ByteArray) w (h : t.size ≤ maxLen) => Valid t w h)
 have L := hide (fun w => letters_ s w (by unfold maxLen; omega))
 by_cases hq0 : 0 < s.size ∧ (byt s).head? = some 60
 ·obtain ⟨h0, h1⟩ := hq0
  obtain ⟨t, ht⟩ : ∃ t, byt s = 60 :: t := by
   cases h : byt s with
   | nil => rw [h] at h1; cases h1
   | cons a t => rw [h] at h1; cases h1; exact ⟨t, rfl⟩
  have hlen : s.size = t.length + 1 := by rw [← len_byt, ht]; rfl
  have hs0 : (s[0]'h0).toNat = 60 := by rw [← get_byt s 0 h0]; simp [ht]
  obtain ⟨q, hq⟩ : ∃ q, q = (t.takeWhile not62).length := ⟨_, rfl⟩
  have hql : q ≤ t.length := by rw [hq]; exact tw_le _ _
  have h2 : ∀ k (hk : k < q) (hs : k + 1 < s.size), not62 (s[k + 1]'hs) = true := fun k hk hs => by
   rw [← get_byt s (k + 1) hs]
   have := tw_lt (p := not62) (l := t) (k := k) (by rw [← hq]; exact hk) (by omega)
   simpa [ht] using this
  have h3 : ∀ hs : q + 1 < s.size, not62 (s[q + 1]'hs) = false := fun hs => by
   rw [← get_byt s (q + 1) hs]
   have := tw_at (p := not62) (l := t) (by rw [← hq]; omega)
   simpa [ht, ← hq] using this
  have hb0 : (s[0]'h0).toNat = 60 := hs0
  have hme : byt (s.extract 1 (q + 1)) = t.takeWhile not62 := by
   rw [byt_extract, ht, hq]
   simp
   exact take_tw t
  have hf : tnParse (byt s) = if q < t.length ∧ nameOk (t.takeWhile not62) then some (t.takeWhile not62, q + 2) else none := by
   rw [ht]
   have : (60 : UInt8).toNat = 60 := rfl
   simp only [tnParse, this, if_pos]
   rw [← hq]
  have hms : mkS (t.takeWhile not62) = s.extract 1 (q + 1) := by rw [← hme, mk_byt]
  have V1 := hide (fun w => V.out (s.extract 1 (q + 1)) w (by rw [← len_byt, hme, ← hq]; unfold maxLen; omega))
  rw [hme] at V1
  obtain ⟨r, hr⟩ : ∃ r, r = tnRes (tnParse (byt s)) := ⟨_, rfl⟩
  rw [← hr]
  rw [hf] at hr
  replace hr := hide hr
  have Hms := hide hms
  generalize nameOk (t.takeWhile not62) = b at *
  generalize t.takeWhile not62 = u at *
  have H2 := hide h2
  have H3 := hide h3
  clear h2 h3 hf hme V L h1 ht hs0 hms hq
  replace hlen := hide hlen
  have hq1 : q + 1 ≤ s.size := by have := hlen.out; omega
  go_enter Tryz.func78, Tryz.ntmps78
  go_wp2
  go_loop [5] (fun n => ∃ k : Nat, k ≤ q ∧ n = .int .i64 ((k : Int) + 1)) (fun n => q + 2 - (intOf n).toNat)
  case atStart => exact ⟨0, Nat.zero_le _, rfl⟩
  case round =>
   obtain ⟨k, hk, rfl⟩ := hrel
   by_cases hlt : k < q
   ·have hks : k + 1 < s.size := by omega
    have ha := H2.out k hlt hks
    have hx : ¬ (s[k + 1].toNat : Int) = 62 := by simpa [not62] using ha
    clear ha
    go_wp2
    go_round
    case rel => exact ⟨k + 1, by omega, by go_num⟩
    case measure => simp [intOf]; omega
   ·obtain rfl : k = q := by omega
    by_cases hks : k + 1 < s.size
    ·have ha := H3.out hks
     have hx : (s[k + 1].toNat : Int) = 62 := by simpa [not62] using ha
     clear ha
     have hkt : k < t.length := by have := hlen.out; omega
     have i1 : (1 : Int) ≤ (k : Int) + 1 := by omega
     have i2 : (k : Int) + 1 ≤ (s.size : Int) := by omega
     cases b
     ·go_wp2_with fail
      refine (V1.out _).mono ?_
      rintro e w' ⟨rfl, rfl⟩
      go_wp2
      go_ret3
      exact ⟨retV (by rw [hr.out, if_neg (by simp)]; rfl), rfl⟩
     ·go_wp2_with fail
      refine (V1.out _).mono ?_
      rintro e w' ⟨rfl, rfl⟩
      go_wp2
      go_ret3
      exact ⟨retV (by rw [hr.out, if_pos (by simp [hkt])]; simp only [tnRes, Hms.out]; congr 3), rfl⟩
    ·go_wp2
     go_ret3
     exact ⟨retV (by rw [hr.out, if_neg (by have := hlen.out; intro h; omega)]; rfl), rfl⟩
 ·obtain ⟨q, hq⟩ : ∃ q, q = letters (byt s) := ⟨_, rfl⟩
  have hql : q ≤ s.size := by have := tw_le alpha (byt s); rw [len_byt] at this; rw [hq]; exact this
  have hme : byt (s.extract 0 q) = (byt s).takeWhile alpha := by
   rw [byt_extract, hq]
   simp
   exact take_tw _
  have hf : tnParse (byt s) = if nameOk ((byt s).takeWhile alpha) then some ((byt s).takeWhile alpha, q) else none := by
   cases h : byt s with
   | nil => rfl
   | cons a t =>
     have ha : ¬ a.toNat = 60 := by
      intro h60
      apply hq0
      refine ⟨by rw [← len_byt, h]; simp, ?_⟩
      rw [h]
      simp
      exact UInt8.toNat_inj.1 h60
     simp only [tnParse, if_neg ha]
     rw [hq, h]
     rfl
  have hms : mkS ((byt s).takeWhile alpha) = s.extract 0 q := by rw [← hme, mk_byt]
  have V1 := hide (fun w => V.out (s.extract 0 q) w (by rw [← len_byt, hme]; have := tw_le alpha (byt s); rw [len_byt] at this; unfold maxLen; omega))
  rw [hme] at V1
  rw [← hq] at L
  obtain ⟨r, hr⟩ : ∃ r, r = tnRes (tnParse (byt s)) := ⟨_, rfl⟩
  rw [← hr]
  rw [hf] at hr
  replace hr := hide hr
  have Hms := hide hms
  have hq0' : s.size = 0 ∨ (∃ h : 0 < s.size, ¬ ((s[0]'h).toNat : Int) = 60) := by
   rcases Nat.eq_zero_or_pos s.size with h | h
   ·exact .inl h
   ·refine .inr ⟨h, fun h60 => hq0 ⟨h, ?_⟩⟩
    rw [← get_byt s 0 h] at h60
    cases hb : byt s with
    | nil => rw [← len_byt, hb] at h; simp at h
    | cons a t =>
      simp [hb] at h60 ⊢
      exact UInt8.toNat_inj.1 (by have : (60 : UInt8).toNat = 60 := rfl; omega)
  generalize nameOk ((byt s).takeWhile alpha) = b at *
  generalize (byt s).takeWhile alpha = u at *
  clear hf hme V hms hq hq0
  have i2 : (q : Int) ≤ (s.size : Int) := by omega
  rcases hq0' with h0 | ⟨h0, h1⟩
  all_goals
   cases b
   all_goals
    go_enter Tryz.func78, Tryz.ntmps78
    go_wp2_with fail
    refine (L.out _).mono ?_
    rintro e w' ⟨rfl, rfl⟩
    go_wp2_with fail
    refine (V1.out _).mono ?_
    rintro e w' ⟨rfl, rfl⟩
    go_wp2
    go_ret3
    exact ⟨retV (by rw [hr.out]; simp [tnRes, Hms.out]; try rfl), rfl⟩
end r7_
theorem nameOk_iff {l : List UInt8} : nameOk l = true ↔ 3 ≤ l.length ∧ l.length ≤ 255 ∧ ∀ c ∈ l, nameB c = true := by
 unfold nameOk
 simp [and_assoc]
theorem tnParse_some {l a : List UInt8} {n : Nat} (h : tnParse l = some (a, n)) : nameOk a = true ∧ n ≤ l.length ∧ 3 ≤ n ∧ (l.take n = a ∨ l.take n = 60 :: (a ++ [62])) := by
 cases l with
 | nil => simp [tnParse] at h
 | cons c t =>
   unfold tnParse at h
   simp only at h
   split at h
   ·rename_i h60
    split at h
    ·rename_i hq
     cases h
     obtain ⟨hq, hn⟩ := hq
     have h3 := (nameOk_iff.1 hn).1
     refine ⟨hn, by simp; omega, by omega, .inr ?_⟩
     have e1 := take_tw (p := not62) t
     have e2 := tw_at (p := not62) hq
     rw [show c = 60 from UInt8.toNat_inj.1 (by rw [h60]; rfl)]
     rw [List.take_succ_cons]
     congr 1
     rw [List.take_succ_eq_append_getElem hq, e1]
     congr 2
     have e3 := Decidable.not_not.1 (of_decide_eq_false e2)
     exact UInt8.toNat_inj.1 (by have : (62 : UInt8).toNat = 62 := rfl; omega)
    ·cases h
   ·split at h
    ·rename_i hn
     cases h
     refine ⟨hn, tw_le _ _, (nameOk_iff.1 hn).1, .inl (take_tw _)⟩
    ·cases h
end Go.Proofs.YtbehflfpdkedgaaGreatDoor

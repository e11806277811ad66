/-
  CONTRACTS OF posixtz.attempt, of the code that landed at 120e3cd: the steps end, or they panic with a failure, which is recovered. No conditions beyond what each states.
-/
import Derived.Test.YtjjmkbofddbnnaaGreatDoorPz
import Derived.Defers
import Derived.Recover
namespace Go.Proofs.YtjjmkbofddbnnaaGreatDoor
open Go.ChangeShapes Go.WideShapes Go.ChangeAt Go.RowKit
set_option linter.unusedVariables false
set_option maxRecDepth 100000
/-- but for the blocks b and g the world w' holds what w held. -/
structure But2 (b g : Nat) (w w' : World) : Prop where
  os : w'.os = w.os
  tape : w'.tape = w.tape
  output : w'.output = w.output
  size : w.heap.size ≤ w'.heap.size
  block : ∀ k, k < w.heap.size → k ≠ b → k ≠ g → w'.heap[k]? = w.heap[k]?
theorem But2.refl (b g : Nat) (w : World) : But2 b g w w := ⟨rfl, rfl, rfl, Nat.le_refl _, fun _ _ _ _ => rfl⟩
theorem But2.trans {b g : Nat} {w w1 w2 : World} (h : But2 b g w w1) (k : But2 b g w1 w2) : But2 b g w w2 :=
  ⟨k.os.trans h.os, k.tape.trans h.tape, k.output.trans h.output, Nat.le_trans h.size k.size, fun i hi hn hm => (k.block i (Nat.lt_of_lt_of_le hi h.size) hn hm).trans (h.block i hi hn hm)⟩
theorem But2.of {b g : Nat} {w w1 : World} (h : Below w.heap.size w w1) : But2 b g w w1 := ⟨h.os, h.tape, h.output, h.size, fun k hk _ _ => h.block k hk⟩
theorem But2.one {b g : Nat} {w w1 : World} (h : But b w w1) : But2 b g w w1 := ⟨h.os, h.tape, h.output, h.size, fun k hk hn _ => h.block k hk hn⟩
theorem But2.two {b g : Nat} {w w1 : World} (h : But g w w1) : But2 b g w w1 := ⟨h.os, h.tape, h.output, h.size, fun k hk _ hn => h.block k hk hn⟩
theorem But2.next {b g : Nat} {w w1 w2 : World} (h : But2 b g w w1) (k : Below w1.heap.size w1 w2) : But2 b g w w2 := h.trans (.of k)
theorem But2.setNew {b g q o : Nat} {w w1 : World} (h : But2 b g w w1) (hg : w.heap.size ≤ q) (v : Value) : But2 b g w (w1.setCell ⟨q, o, none⟩ v) :=
  ⟨h.os, h.tape, h.output, by have := h.size; simpa [World.setCell] using this, fun k hk hn hm => (Below.heap_setCell w1 ⟨q, o, none⟩ v k (by show k ≠ q; omega)).trans (h.block k hk hn hm)⟩
theorem But2.below {b g B : Nat} {w w1 : World} (h : But2 b g w w1) (hb : B ≤ b) (hg : B ≤ g) (hB : B ≤ w.heap.size) : Below B w w1 := ⟨h.os, h.tape, h.output, h.size, fun k hk => h.block k (by omega) (by omega) (by omega)⟩
theorem Bx.but2 {b g q : Nat} {w w1 : World} {vs : List Value} (h : Bx w q vs) (hb : But2 b g w w1) (h1 : q ≠ b) (h2 : q ≠ g) : Bx w1 q vs := by
  have e := hb.block q h.1 h1 h2
  exact ⟨Nat.lt_of_lt_of_le h.1 hb.size, fun j v hj => by rw [World.cell?_of_block (w := w) (a := ⟨q, j, none⟩) e]; exact h.2.1 j v hj, fun j => by rw [World.frozen?_of_block (w := w) (a := ⟨q, j, none⟩) e]; exact h.2.2 j⟩
theorem Ro.but2 {b g q : Nat} {w w1 : World} {vs : Array Value} {T : TypeId} (h : Ro w q vs T) (hb : But2 b g w w1) (h1 : q ≠ b) (h2 : q ≠ g) : Ro w1 q vs T := (hb.block q h.lt h1 h2).trans h
namespace po_
theorem catch_fail (a f : Nat) (q x : Int) (y : Bool) (w : World) (hne : a ≠ f) (ha : w.cell? ⟨a, 0, none⟩ = some (.int .i64 x)) (hz : w.frozen? ⟨a, 0, none⟩ = false) (hf : w.cell? ⟨f, 0, none⟩ = some (.bool y)) (hy : w.frozen? ⟨f, 0, none⟩ = false) :
    CallsD Tryz.prog 27 #[.pointer (some ⟨a, 0, none⟩), .pointer (some ⟨f, 0, none⟩)] (.panicking [{ v := .iface 51 (.int .i64 q), recovered := false }]) w fun e u' w' =>
      e = .returned (.tuple #[]) ∧ u' = .panicking [{ v := .iface 51 (.int .i64 q), recovered := true }] ∧ w' = (w.setCell ⟨a, 0, none⟩ (.int .i64 q)).setCell ⟨f, 0, none⟩ (.bool true) := by
  have hta : ∀ w : World, (Instr.typeAssert (.iface 51 (.int .i64 q)) 20 51 true).run Tryz.prog w = .ok (.tuple #[.int .i64 q, .bool true]) w := fun _ => rfl
  refine callsD_of_wpS Tryz.func27 rfl fun c₀ cs hu => ?_
  apply wpS_seq
  apply wpS_region
  simp [wpOpsS, go_sem, recoverD, hu, Tryz.ntmps27, Exit.thenS]
  show Code.wpS _ _ _ { tmps := #[.pointer (some ⟨a, 0, none⟩), .pointer (some ⟨f, 0, none⟩), .iface 51 (.int .i64 q), undef, undef, .iface 51 (.int .i64 q), undef, undef, undef, undef, undef, undef, undef, undef, undef, undef, undef], defers := [] } _ _
  refine wpS_of_wp ?_
  generalize hQ : (fun (e : Exit) (a' : Act) (w' : World) => bodyPostS Tryz.prog Tryz.f27 c₀ cs _ e a' _ w') = Q'
  go_wp2
  subst hQ
  simp [bodyPostS, results, Tryz.results27]
theorem catch_idle (a f : Nat) (w : World) :
    CallsD Tryz.prog 27 #[.pointer (some ⟨a, 0, none⟩), .pointer (some ⟨f, 0, none⟩)] .returning w fun e u' w' => e = .returned (.tuple #[]) ∧ u' = .returning ∧ w' = w := by
  refine callsD_of_wpS Tryz.func27 rfl fun c₀ cs hu => ?_
  apply wpS_seq
  apply wpS_region
  simp [wpOpsS, go_sem, recoverD, hu, Tryz.ntmps27, Exit.thenS]
  show Code.wpS _ _ _ { tmps := #[.pointer (some ⟨a, 0, none⟩), .pointer (some ⟨f, 0, none⟩), .nilIface, undef, undef, .nilIface, undef, undef, undef, undef, undef, undef, undef, undef, undef, undef, undef], defers := [] } _ _
  refine wpS_of_wp ?_
  generalize hQ : (fun (e : Exit) (a' : Act) (w' : World) => bodyPostS Tryz.prog Tryz.f27 c₀ cs _ e a' _ w') = Q'
  go_wp2
  subst hQ
  cases c₀
  simp_all [bodyPostS, results, Tryz.results27]
theorem attempt_yes (F b g : Nat) (caps : Array Value) (R : World → Prop) (w : World)
    (hC : ∀ (args : Array Value) (w : World), (callFunc F args).run Tryz.prog w = .ok (.enter F args) w)
    (hS : ∀ w1, Below w.heap.size w w1 → Calls Tryz.prog F caps w1 fun e w2 => e = .returned (.tuple #[]) ∧ R w2 ∧ But2 b g w1 w2)
    (hR : ∀ (w2 : World) (q o : Nat) (v : Value), w.heap.size ≤ q → R w2 → R (w2.setCell ⟨q, o, none⟩ v)) (hb : b < w.heap.size) (hg : g < w.heap.size) :
    Calls Tryz.prog 17 #[.func (.func F) #[] caps] w fun e w' => e = .returned (.tuple #[.int .i64 0, .bool false]) ∧ R w' ∧ But2 b g w w' := by
  have hmf : ∀ (fn : Fn) (first cap : Array Value) (w : World), (Instr.makeFunc fn first cap).run Tryz.prog w = .ok (.func fn first cap) w := fun _ _ _ _ => rfl
  have hb0 := bl_alloc (bl_new w (.cells #[.int .i64 0] 3)) (.cells #[.bool false] 4)
  have x0 : Bx ((w.alloc (.cells #[.int .i64 0] 3)).alloc (.cells #[.bool false] 4)) w.heap.size [.int .i64 0] := (Bx.new w [.int .i64 0] 3).alloc _
  have y0 : Bx ((w.alloc (.cells #[.int .i64 0] 3)).alloc (.cells #[.bool false] 4)) (w.heap.size + 1) [.bool false] := by have := Bx.new (w.alloc (.cells #[.int .i64 0] 3)) [.bool false] 4; simpa using this
  replace hS := hide hS
  replace hR := hide hR
  go_enter_defers Tryz.func17, Tryz.ntmps17
  go_wp2_with fail
  generalize (w.alloc (.cells #[.int .i64 0] 3)).alloc (.cells #[.bool false] 4) = w0 at *
  refine (hS.out _ hb0).mono ?_
  rintro e w2 ⟨rfl, hr, h2⟩
  have x2 := x0.but2 h2 (by omega) (by omega)
  have y2 := y0.but2 h2 (by omega) (by omega)
  have hr2 := hide (hR.out _ (w.heap.size + 1) 0 (.bool false) (by omega) (hR.out w2 w.heap.size 0 (.int .i64 0) (by omega) hr))
  have hb2 := hide (((But2.of (b := b) (g := g) hb0).trans h2).setNew (q := w.heap.size) (o := 0) (by omega) (.int .i64 0) |>.setNew (q := w.heap.size + 1) (o := 0) (by omega) (.bool false))
  have c0 := x2.2.1 0 _ rfl
  have f0 := x2.2.2 0
  have c1 := y2.2.1 0 _ rfl
  have f1 := y2.2.2 0
  clear x0 y0 hb0 h2 hr x2 y2 hS hR
  go_wp2_with fail
  refine leaves_cons (f := 27) (args := #[.pointer (some ⟨w.heap.size, 0, none⟩), .pointer (some ⟨w.heap.size + 1, 0, none⟩)]) (by simp) (by simp [go_sem]) ?_
  refine (catch_idle w.heap.size (w.heap.size + 1) _).mono ?_
  rintro e u' w'' ⟨rfl, rfl, rfl⟩
  simp [Leaves, settle, results, Tryz.results17, go_sem, c0, c1]
  exact ⟨hr2.out, hb2.out⟩
theorem attempt_no (F b g : Nat) (caps : Array Value) (w : World)
    (hC : ∀ (args : Array Value) (w : World), (callFunc F args).run Tryz.prog w = .ok (.enter F args) w)
    (hS : ∀ w1, Below w.heap.size w w1 → Calls Tryz.prog F caps w1 fun e w2 => (∃ q : Int, e = fail q) ∧ But2 b g w1 w2) (hb : b < w.heap.size) (hg : g < w.heap.size) :
    Calls Tryz.prog 17 #[.func (.func F) #[] caps] w fun e w' => (∃ q : Int, e = .returned (.tuple #[.int .i64 q, .bool true])) ∧ But2 b g w w' := by
  have hmf : ∀ (fn : Fn) (first cap : Array Value) (w : World), (Instr.makeFunc fn first cap).run Tryz.prog w = .ok (.func fn first cap) w := fun _ _ _ _ => rfl
  have hb0 := bl_alloc (bl_new w (.cells #[.int .i64 0] 3)) (.cells #[.bool false] 4)
  have x0 : Bx ((w.alloc (.cells #[.int .i64 0] 3)).alloc (.cells #[.bool false] 4)) w.heap.size [.int .i64 0] := (Bx.new w [.int .i64 0] 3).alloc _
  have y0 : Bx ((w.alloc (.cells #[.int .i64 0] 3)).alloc (.cells #[.bool false] 4)) (w.heap.size + 1) [.bool false] := by have := Bx.new (w.alloc (.cells #[.int .i64 0] 3)) [.bool false] 4; simpa using this
  replace hS := hide hS
  go_enter_defers Tryz.func17, Tryz.ntmps17
  go_wp2_with fail
  generalize (w.alloc (.cells #[.int .i64 0] 3)).alloc (.cells #[.bool false] 4) = w0 at *
  refine (hS.out _ hb0).mono ?_
  rintro e w2 ⟨⟨q, rfl⟩, h2⟩
  have x2 := x0.but2 h2 (by omega) (by omega)
  have y2 := y0.but2 h2 (by omega) (by omega)
  have hb2 := hide (((But2.of (b := b) (g := g) hb0).trans h2).setNew (q := w.heap.size) (o := 0) (by omega) (.int .i64 q) |>.setNew (q := w.heap.size + 1) (o := 0) (by omega) (.bool true))
  have c0 := x2.2.1 0 _ rfl
  have f0 := x2.2.2 0
  have c1 := y2.2.1 0 _ rfl
  have f1 := y2.2.2 0
  clear x0 y0 hb0 h2 x2 y2 hS
  unfold fail
  go_wp2_with fail
  refine leaves_cons (f := 27) (args := #[.pointer (some ⟨w.heap.size, 0, none⟩), .pointer (some ⟨w.heap.size + 1, 0, none⟩)]) (by simp) (by simp [go_sem]) ?_
  refine (catch_fail w.heap.size (w.heap.size + 1) q 0 false _ (by omega) c0 f0 c1 f1).mono ?_
  rintro e u' w'' ⟨rfl, rfl, rfl⟩
  simp [Leaves, settle, results, Tryz.results17, go_sem, c0, c1]
  exact hb2.out
theorem attempt_at (F b g : Nat) (q : Int) (caps : Array Value) (w : World)
    (hC : ∀ (args : Array Value) (w : World), (callFunc F args).run Tryz.prog w = .ok (.enter F args) w)
    (hS : ∀ w1, Below w.heap.size w w1 → Calls Tryz.prog F caps w1 fun e w2 => e = fail q ∧ But2 b g w1 w2) (hb : b < w.heap.size) (hg : g < w.heap.size) :
    Calls Tryz.prog 17 #[.func (.func F) #[] caps] w fun e w' => e = .returned (.tuple #[.int .i64 q, .bool true]) ∧ But2 b g w w' := by
  have hmf : ∀ (fn : Fn) (first cap : Array Value) (w : World), (Instr.makeFunc fn first cap).run Tryz.prog w = .ok (.func fn first cap) w := fun _ _ _ _ => rfl
  have hb0 := bl_alloc (bl_new w (.cells #[.int .i64 0] 3)) (.cells #[.bool false] 4)
  have x0 : Bx ((w.alloc (.cells #[.int .i64 0] 3)).alloc (.cells #[.bool false] 4)) w.heap.size [.int .i64 0] := (Bx.new w [.int .i64 0] 3).alloc _
  have y0 : Bx ((w.alloc (.cells #[.int .i64 0] 3)).alloc (.cells #[.bool false] 4)) (w.heap.size + 1) [.bool false] := by have := Bx.new (w.alloc (.cells #[.int .i64 0] 3)) [.bool false] 4; simpa using this
  replace hS := hide hS
  go_enter_defers Tryz.func17, Tryz.ntmps17
  go_wp2_with fail
  generalize (w.alloc (.cells #[.int .i64 0] 3)).alloc (.cells #[.bool false] 4) = w0 at *
  refine (hS.out _ hb0).mono ?_
  rintro e w2 ⟨rfl, h2⟩
  have x2 := x0.but2 h2 (by omega) (by omega)
  have y2 := y0.but2 h2 (by omega) (by omega)
  have hb2 := hide (((But2.of (b := b) (g := g) hb0).trans h2).setNew (q := w.heap.size) (o := 0) (by omega) (.int .i64 q) |>.setNew (q := w.heap.size + 1) (o := 0) (by omega) (.bool true))
  have c0 := x2.2.1 0 _ rfl
  have f0 := x2.2.2 0
  have c1 := y2.2.1 0 _ rfl
  have f1 := y2.2.2 0
  clear x0 y0 hb0 h2 x2 y2 hS
  unfold fail
  go_wp2_with fail
  refine leaves_cons (f := 27) (args := #[.pointer (some ⟨w.heap.size, 0, none⟩), .pointer (some ⟨w.heap.size + 1, 0, none⟩)]) (by simp) (by simp [go_sem]) ?_
  refine (catch_fail w.heap.size (w.heap.size + 1) q 0 false _ (by omega) c0 f0 c1 f1).mono ?_
  rintro e u' w'' ⟨rfl, rfl, rfl⟩
  simp [Leaves, settle, results, Tryz.results17, go_sem, c0, c1]
  exact hb2.out
end po_
end Go.Proofs.YtjjmkbofddbnnaaGreatDoor

/-
  CONTRACTS OF posixtz's PARSER: rule, way by way, of the code that landed at 120e3cd. Condition: a text of at most 1,000,000 bytes.
-/
import Derived.Test.YtjjmkbofddbnnaaGreatDoorPs5
namespace Go.Proofs.YtjjmkbofddbnnaaGreatDoor
open Go.ChangeShapes Go.WideShapes Go.ChangeAt Go.RowKit
set_option linter.unusedVariables false
set_option maxRecDepth 100000
theorem But.two {b g : Nat} {w w1 w2 : World} (h : But b w w1) (k : But2 b g w1 w2) (hg : w.heap.size ≤ g) : But b w w2 :=
  ⟨k.os.trans h.os, k.tape.trans h.tape, k.output.trans h.output, Nat.le_trans h.size k.size, fun i hi hn => (k.block i (Nat.lt_of_lt_of_le hi h.size) hn (by omega)).trans (h.block i hi hn)⟩
namespace po_
set_option maxHeartbeats 4000000 in
theorem rule_0 (s std dst : ByteArray) (so dof : Int) (b k0 k1 k2 k6 qq : Nat) (st1 st2 st3 st4 st5 st6 en1 en2 en3 en4 en5 en6 : Int) (w : World) (hs : s.size ≤ 1000000) (hp : Pz w b s (k0 : Int))
    (H0 : (∀ w, Pz w b s ((k0 : Nat) : Int) → Calls Tryz.prog 28 #[.pointer (some ⟨b, 0, none⟩)] w fun e w' => e = fail ((qq : Nat) : Int) ∧ But b w w')) :
    Calls Tryz.prog 19 #[.pointer (some ⟨b, 0, none⟩)] w fun e w' => e = fail (qq : Int) ∧ But b w w' := by
  replace H0 := hide H0
  have hbl : b < w.heap.size := hp.1
  have hR := hide (show Ro ((w.alloc (.cells #[.string ⟨#[]⟩, .int .i64 0, .bool false, .string ⟨#[]⟩, .int .i64 0, .int .i64 0, .int .i64 0, .int .i64 0, .int .i64 0, .int .i64 0, .int .i64 0, .int .i64 0, .int .i64 0, .int .i64 0, .int .i64 0, .int .i64 0, .int .i64 0] 29)).alloc (.cells #[.string ⟨#[]⟩, .int .i64 0, .bool false, .string ⟨#[]⟩, .int .i64 0, .int .i64 0, .int .i64 0, .int .i64 0, .int .i64 0, .int .i64 0, .int .i64 0, .int .i64 0, .int .i64 0, .int .i64 0, .int .i64 0, .int .i64 0, .int .i64 0] 29)) w.heap.size #[.string ⟨#[]⟩, .int .i64 0, .bool false, .string ⟨#[]⟩, .int .i64 0, .int .i64 0, .int .i64 0, .int .i64 0, .int .i64 0, .int .i64 0, .int .i64 0, .int .i64 0, .int .i64 0, .int .i64 0, .int .i64 0, .int .i64 0, .int .i64 0] 29 from (Ro.new w #[.string ⟨#[]⟩, .int .i64 0, .bool false, .string ⟨#[]⟩, .int .i64 0, .int .i64 0, .int .i64 0, .int .i64 0, .int .i64 0, .int .i64 0, .int .i64 0, .int .i64 0, .int .i64 0, .int .i64 0, .int .i64 0, .int .i64 0, .int .i64 0] 29).alloc _)
  have hG := hide (show Ro ((w.alloc (.cells #[.string ⟨#[]⟩, .int .i64 0, .bool false, .string ⟨#[]⟩, .int .i64 0, .int .i64 0, .int .i64 0, .int .i64 0, .int .i64 0, .int .i64 0, .int .i64 0, .int .i64 0, .int .i64 0, .int .i64 0, .int .i64 0, .int .i64 0, .int .i64 0] 29)).alloc (.cells #[.string ⟨#[]⟩, .int .i64 0, .bool false, .string ⟨#[]⟩, .int .i64 0, .int .i64 0, .int .i64 0, .int .i64 0, .int .i64 0, .int .i64 0, .int .i64 0, .int .i64 0, .int .i64 0, .int .i64 0, .int .i64 0, .int .i64 0, .int .i64 0] 29)) (w.heap.size + 1) #[.string ⟨#[]⟩, .int .i64 0, .bool false, .string ⟨#[]⟩, .int .i64 0, .int .i64 0, .int .i64 0, .int .i64 0, .int .i64 0, .int .i64 0, .int .i64 0, .int .i64 0, .int .i64 0, .int .i64 0, .int .i64 0, .int .i64 0, .int .i64 0] 29 by have := Ro.new (w.alloc (.cells #[.string ⟨#[]⟩, .int .i64 0, .bool false, .string ⟨#[]⟩, .int .i64 0, .int .i64 0, .int .i64 0, .int .i64 0, .int .i64 0, .int .i64 0, .int .i64 0, .int .i64 0, .int .i64 0, .int .i64 0, .int .i64 0, .int .i64 0, .int .i64 0] 29)) #[.string ⟨#[]⟩, .int .i64 0, .bool false, .string ⟨#[]⟩, .int .i64 0, .int .i64 0, .int .i64 0, .int .i64 0, .int .i64 0, .int .i64 0, .int .i64 0, .int .i64 0, .int .i64 0, .int .i64 0, .int .i64 0, .int .i64 0, .int .i64 0] 29; simpa using this)
  have hB := hide (show But b w ((w.alloc (.cells #[.string ⟨#[]⟩, .int .i64 0, .bool false, .string ⟨#[]⟩, .int .i64 0, .int .i64 0, .int .i64 0, .int .i64 0, .int .i64 0, .int .i64 0, .int .i64 0, .int .i64 0, .int .i64 0, .int .i64 0, .int .i64 0, .int .i64 0, .int .i64 0] 29)).alloc (.cells #[.string ⟨#[]⟩, .int .i64 0, .bool false, .string ⟨#[]⟩, .int .i64 0, .int .i64 0, .int .i64 0, .int .i64 0, .int .i64 0, .int .i64 0, .int .i64 0, .int .i64 0, .int .i64 0, .int .i64 0, .int .i64 0, .int .i64 0, .int .i64 0] 29)) from ((But.refl b w).alloc _).alloc _)
  have P := hide (show Pz ((w.alloc (.cells #[.string ⟨#[]⟩, .int .i64 0, .bool false, .string ⟨#[]⟩, .int .i64 0, .int .i64 0, .int .i64 0, .int .i64 0, .int .i64 0, .int .i64 0, .int .i64 0, .int .i64 0, .int .i64 0, .int .i64 0, .int .i64 0, .int .i64 0, .int .i64 0] 29)).alloc (.cells #[.string ⟨#[]⟩, .int .i64 0, .bool false, .string ⟨#[]⟩, .int .i64 0, .int .i64 0, .int .i64 0, .int .i64 0, .int .i64 0, .int .i64 0, .int .i64 0, .int .i64 0, .int .i64 0, .int .i64 0, .int .i64 0, .int .i64 0, .int .i64 0] 29)) b s _ from (hp.below (bl_new _ _)).below (bl_new _ _))
  clear hp
  go_enter Tryz.func19, Tryz.ntmps19
  go_wp2_with fail
  generalize (w.alloc (.cells #[.string ⟨#[]⟩, .int .i64 0, .bool false, .string ⟨#[]⟩, .int .i64 0, .int .i64 0, .int .i64 0, .int .i64 0, .int .i64 0, .int .i64 0, .int .i64 0, .int .i64 0, .int .i64 0, .int .i64 0, .int .i64 0, .int .i64 0, .int .i64 0] 29)).alloc (.cells #[.string ⟨#[]⟩, .int .i64 0, .bool false, .string ⟨#[]⟩, .int .i64 0, .int .i64 0, .int .i64 0, .int .i64 0, .int .i64 0, .int .i64 0, .int .i64 0, .int .i64 0, .int .i64 0, .int .i64 0, .int .i64 0, .int .i64 0, .int .i64 0] 29) = v0 at *
  go_wp2_with fail
  refine (H0.out _ P.out).mono ?_
  rintro e v ⟨rfl, h1⟩
  unfold fail
  go_wp2
  exact ⟨rfl, rfl, hB.out.trans h1⟩
set_option maxHeartbeats 4000000 in
theorem rule_1 (s std dst : ByteArray) (so dof : Int) (b k0 k1 k2 k6 qq : Nat) (st1 st2 st3 st4 st5 st6 en1 en2 en3 en4 en5 en6 : Int) (w : World) (hs : s.size ≤ 1000000) (hp : Pz w b s (k0 : Int))
    (H0 : (∀ w, Pz w b s ((k0 : Nat) : Int) → Calls Tryz.prog 28 #[.pointer (some ⟨b, 0, none⟩)] w fun e w' => e = .returned (.string std) ∧ Pz w' b s ((k1 : Nat) : Int) ∧ But b w w'))
    (H1 : (∀ w, Pz w b s ((k1 : Nat) : Int) → Calls Tryz.prog 29 #[.pointer (some ⟨b, 0, none⟩)] w fun e w' => e = fail ((qq : Nat) : Int) ∧ But b w w')) :
    Calls Tryz.prog 19 #[.pointer (some ⟨b, 0, none⟩)] w fun e w' => e = fail (qq : Int) ∧ But b w w' := by
  replace H0 := hide H0
  replace H1 := hide H1
  have hbl : b < w.heap.size := hp.1
  have hR := hide (show Ro ((w.alloc (.cells #[.string ⟨#[]⟩, .int .i64 0, .bool false, .string ⟨#[]⟩, .int .i64 0, .int .i64 0, .int .i64 0, .int .i64 0, .int .i64 0, .int .i64 0, .int .i64 0, .int .i64 0, .int .i64 0, .int .i64 0, .int .i64 0, .int .i64 0, .int .i64 0] 29)).alloc (.cells #[.string ⟨#[]⟩, .int .i64 0, .bool false, .string ⟨#[]⟩, .int .i64 0, .int .i64 0, .int .i64 0, .int .i64 0, .int .i64 0, .int .i64 0, .int .i64 0, .int .i64 0, .int .i64 0, .int .i64 0, .int .i64 0, .int .i64 0, .int .i64 0] 29)) w.heap.size #[.string ⟨#[]⟩, .int .i64 0, .bool false, .string ⟨#[]⟩, .int .i64 0, .int .i64 0, .int .i64 0, .int .i64 0, .int .i64 0, .int .i64 0, .int .i64 0, .int .i64 0, .int .i64 0, .int .i64 0, .int .i64 0, .int .i64 0, .int .i64 0] 29 from (Ro.new w #[.string ⟨#[]⟩, .int .i64 0, .bool false, .string ⟨#[]⟩, .int .i64 0, .int .i64 0, .int .i64 0, .int .i64 0, .int .i64 0, .int .i64 0, .int .i64 0, .int .i64 0, .int .i64 0, .int .i64 0, .int .i64 0, .int .i64 0, .int .i64 0] 29).alloc _)
  have hG := hide (show Ro ((w.alloc (.cells #[.string ⟨#[]⟩, .int .i64 0, .bool false, .string ⟨#[]⟩, .int .i64 0, .int .i64 0, .int .i64 0, .int .i64 0, .int .i64 0, .int .i64 0, .int .i64 0, .int .i64 0, .int .i64 0, .int .i64 0, .int .i64 0, .int .i64 0, .int .i64 0] 29)).alloc (.cells #[.string ⟨#[]⟩, .int .i64 0, .bool false, .string ⟨#[]⟩, .int .i64 0, .int .i64 0, .int .i64 0, .int .i64 0, .int .i64 0, .int .i64 0, .int .i64 0, .int .i64 0, .int .i64 0, .int .i64 0, .int .i64 0, .int .i64 0, .int .i64 0] 29)) (w.heap.size + 1) #[.string ⟨#[]⟩, .int .i64 0, .bool false, .string ⟨#[]⟩, .int .i64 0, .int .i64 0, .int .i64 0, .int .i64 0, .int .i64 0, .int .i64 0, .int .i64 0, .int .i64 0, .int .i64 0, .int .i64 0, .int .i64 0, .int .i64 0, .int .i64 0] 29 by have := Ro.new (w.alloc (.cells #[.string ⟨#[]⟩, .int .i64 0, .bool false, .string ⟨#[]⟩, .int .i64 0, .int .i64 0, .int .i64 0, .int .i64 0, .int .i64 0, .int .i64 0, .int .i64 0, .int .i64 0, .int .i64 0, .int .i64 0, .int .i64 0, .int .i64 0, .int .i64 0] 29)) #[.string ⟨#[]⟩, .int .i64 0, .bool false, .string ⟨#[]⟩, .int .i64 0, .int .i64 0, .int .i64 0, .int .i64 0, .int .i64 0, .int .i64 0, .int .i64 0, .int .i64 0, .int .i64 0, .int .i64 0, .int .i64 0, .int .i64 0, .int .i64 0] 29; simpa using this)
  have hB := hide (show But b w ((w.alloc (.cells #[.string ⟨#[]⟩, .int .i64 0, .bool false, .string ⟨#[]⟩, .int .i64 0, .int .i64 0, .int .i64 0, .int .i64 0, .int .i64 0, .int .i64 0, .int .i64 0, .int .i64 0, .int .i64 0, .int .i64 0, .int .i64 0, .int .i64 0, .int .i64 0] 29)).alloc (.cells #[.string ⟨#[]⟩, .int .i64 0, .bool false, .string ⟨#[]⟩, .int .i64 0, .int .i64 0, .int .i64 0, .int .i64 0, .int .i64 0, .int .i64 0, .int .i64 0, .int .i64 0, .int .i64 0, .int .i64 0, .int .i64 0, .int .i64 0, .int .i64 0] 29)) from ((But.refl b w).alloc _).alloc _)
  have P := hide (show Pz ((w.alloc (.cells #[.string ⟨#[]⟩, .int .i64 0, .bool false, .string ⟨#[]⟩, .int .i64 0, .int .i64 0, .int .i64 0, .int .i64 0, .int .i64 0, .int .i64 0, .int .i64 0, .int .i64 0, .int .i64 0, .int .i64 0, .int .i64 0, .int .i64 0, .int .i64 0] 29)).alloc (.cells #[.string ⟨#[]⟩, .int .i64 0, .bool false, .string ⟨#[]⟩, .int .i64 0, .int .i64 0, .int .i64 0, .int .i64 0, .int .i64 0, .int .i64 0, .int .i64 0, .int .i64 0, .int .i64 0, .int .i64 0, .int .i64 0, .int .i64 0, .int .i64 0] 29)) b s _ from (hp.below (bl_new _ _)).below (bl_new _ _))
  clear hp
  go_enter Tryz.func19, Tryz.ntmps19
  go_wp2_with fail
  generalize (w.alloc (.cells #[.string ⟨#[]⟩, .int .i64 0, .bool false, .string ⟨#[]⟩, .int .i64 0, .int .i64 0, .int .i64 0, .int .i64 0, .int .i64 0, .int .i64 0, .int .i64 0, .int .i64 0, .int .i64 0, .int .i64 0, .int .i64 0, .int .i64 0, .int .i64 0] 29)).alloc (.cells #[.string ⟨#[]⟩, .int .i64 0, .bool false, .string ⟨#[]⟩, .int .i64 0, .int .i64 0, .int .i64 0, .int .i64 0, .int .i64 0, .int .i64 0, .int .i64 0, .int .i64 0, .int .i64 0, .int .i64 0, .int .i64 0, .int .i64 0, .int .i64 0] 29) = v0 at *
  go_wp2_with fail
  refine (H0.out _ P.out).mono ?_
  rintro e v1 ⟨rfl, p1, h1⟩
  replace hR := hide (hR.out.but h1 (by omega))
  replace hG := hide (hG.out.but h1 (by omega))
  replace hB := hide (hB.out.trans h1)
  replace P := hide p1
  clear h1 p1
  obtain ⟨p0, q0⟩ := ro_cf hG.out 0 _ rfl
  go_upto_region 3 with fail
  clear p0 q0
  replace hG := hide (show Ro (v1.setCell ⟨w.heap.size + 1, 0, none⟩ (.string std)) (w.heap.size + 1) #[.string std, .int .i64 0, .bool false, .string ⟨#[]⟩, .int .i64 0, .int .i64 0, .int .i64 0, .int .i64 0, .int .i64 0, .int .i64 0, .int .i64 0, .int .i64 0, .int .i64 0, .int .i64 0, .int .i64 0, .int .i64 0, .int .i64 0] 29 from ro_set hG.out 0 (.string std))
  replace hR := hide (ro_set_ne hR.out (show w.heap.size + 1 ≠ w.heap.size by omega) 0 (.string std))
  replace P := hide (show Pz (v1.setCell ⟨w.heap.size + 1, 0, none⟩ (.string std)) b s _ from P.out.set_ne 0 (show w.heap.size + 1 ≠ b by omega) (.string std))
  replace hB := hide (show But b w (v1.setCell ⟨w.heap.size + 1, 0, none⟩ (.string std)) from hB.out.setNew (show w.heap.size ≤ w.heap.size + 1 by omega) (.string std))
  generalize v1.setCell ⟨w.heap.size + 1, 0, none⟩ (.string std) = v2 at *
  go_wp2_with fail
  refine (H1.out _ P.out).mono ?_
  rintro e v ⟨rfl, h1⟩
  unfold fail
  go_wp2
  exact ⟨rfl, rfl, hB.out.trans h1⟩
set_option maxHeartbeats 4000000 in
theorem rule_s (s std dst : ByteArray) (so dof : Int) (b k0 k1 k2 k6 qq : Nat) (st1 st2 st3 st4 st5 st6 en1 en2 en3 en4 en5 en6 : Int) (w : World) (hs : s.size ≤ 1000000) (hp : Pz w b s (k0 : Int))
    (H0 : (∀ w, Pz w b s ((k0 : Nat) : Int) → Calls Tryz.prog 28 #[.pointer (some ⟨b, 0, none⟩)] w fun e w' => e = .returned (.string std) ∧ Pz w' b s ((k1 : Nat) : Int) ∧ But b w w'))
    (H1 : (∀ w, Pz w b s ((k1 : Nat) : Int) → Calls Tryz.prog 29 #[.pointer (some ⟨b, 0, none⟩)] w fun e w' => e = .returned (.int .i64 so) ∧ Pz w' b s ((k2 : Nat) : Int) ∧ But b w w')) (hk2 : k2 ≤ s.size) (hX : mkS (rst s k2) = ⟨#[]⟩) :
    Calls Tryz.prog 19 #[.pointer (some ⟨b, 0, none⟩)] w fun e w' => e = .returned (.agg #[.string std, .int .i64 so, .bool false, .string ⟨#[]⟩, .int .i64 0, .int .i64 0, .int .i64 0, .int .i64 0, .int .i64 0, .int .i64 0, .int .i64 0, .int .i64 0, .int .i64 0, .int .i64 0, .int .i64 0, .int .i64 0, .int .i64 0]) ∧ Pz w' b s (k2 : Int) ∧ But b w w' := by
  replace H0 := hide H0
  replace H1 := hide H1
  have R := hide (fun w hp => rest_ s k2 b w hs hk2 hp)
  rw [show mkS (rst s k2) = ⟨#[]⟩ from hX] at R
  have I := hide (fun w => inRange_ 0 w (by omega) (by omega))
  rw [show decide (offOk 0) = true from by decide] at I
  have hbl : b < w.heap.size := hp.1
  have hR := hide (show Ro ((w.alloc (.cells #[.string ⟨#[]⟩, .int .i64 0, .bool false, .string ⟨#[]⟩, .int .i64 0, .int .i64 0, .int .i64 0, .int .i64 0, .int .i64 0, .int .i64 0, .int .i64 0, .int .i64 0, .int .i64 0, .int .i64 0, .int .i64 0, .int .i64 0, .int .i64 0] 29)).alloc (.cells #[.string ⟨#[]⟩, .int .i64 0, .bool false, .string ⟨#[]⟩, .int .i64 0, .int .i64 0, .int .i64 0, .int .i64 0, .int .i64 0, .int .i64 0, .int .i64 0, .int .i64 0, .int .i64 0, .int .i64 0, .int .i64 0, .int .i64 0, .int .i64 0] 29)) w.heap.size #[.string ⟨#[]⟩, .int .i64 0, .bool false, .string ⟨#[]⟩, .int .i64 0, .int .i64 0, .int .i64 0, .int .i64 0, .int .i64 0, .int .i64 0, .int .i64 0, .int .i64 0, .int .i64 0, .int .i64 0, .int .i64 0, .int .i64 0, .int .i64 0] 29 from (Ro.new w #[.string ⟨#[]⟩, .int .i64 0, .bool false, .string ⟨#[]⟩, .int .i64 0, .int .i64 0, .int .i64 0, .int .i64 0, .int .i64 0, .int .i64 0, .int .i64 0, .int .i64 0, .int .i64 0, .int .i64 0, .int .i64 0, .int .i64 0, .int .i64 0] 29).alloc _)
  have hG := hide (show Ro ((w.alloc (.cells #[.string ⟨#[]⟩, .int .i64 0, .bool false, .string ⟨#[]⟩, .int .i64 0, .int .i64 0, .int .i64 0, .int .i64 0, .int .i64 0, .int .i64 0, .int .i64 0, .int .i64 0, .int .i64 0, .int .i64 0, .int .i64 0, .int .i64 0, .int .i64 0] 29)).alloc (.cells #[.string ⟨#[]⟩, .int .i64 0, .bool false, .string ⟨#[]⟩, .int .i64 0, .int .i64 0, .int .i64 0, .int .i64 0, .int .i64 0, .int .i64 0, .int .i64 0, .int .i64 0, .int .i64 0, .int .i64 0, .int .i64 0, .int .i64 0, .int .i64 0] 29)) (w.heap.size + 1) #[.string ⟨#[]⟩, .int .i64 0, .bool false, .string ⟨#[]⟩, .int .i64 0, .int .i64 0, .int .i64 0, .int .i64 0, .int .i64 0, .int .i64 0, .int .i64 0, .int .i64 0, .int .i64 0, .int .i64 0, .int .i64 0, .int .i64 0, .int .i64 0] 29 by have := Ro.new (w.alloc (.cells #[.string ⟨#[]⟩, .int .i64 0, .bool false, .string ⟨#[]⟩, .int .i64 0, .int .i64 0, .int .i64 0, .int .i64 0, .int .i64 0, .int .i64 0, .int .i64 0, .int .i64 0, .int .i64 0, .int .i64 0, .int .i64 0, .int .i64 0, .int .i64 0] 29)) #[.string ⟨#[]⟩, .int .i64 0, .bool false, .string ⟨#[]⟩, .int .i64 0, .int .i64 0, .int .i64 0, .int .i64 0, .int .i64 0, .int .i64 0, .int .i64 0, .int .i64 0, .int .i64 0, .int .i64 0, .int .i64 0, .int .i64 0, .int .i64 0] 29; simpa using this)
  have hB := hide (show But b w ((w.alloc (.cells #[.string ⟨#[]⟩, .int .i64 0, .bool false, .string ⟨#[]⟩, .int .i64 0, .int .i64 0, .int .i64 0, .int .i64 0, .int .i64 0, .int .i64 0, .int .i64 0, .int .i64 0, .int .i64 0, .int .i64 0, .int .i64 0, .int .i64 0, .int .i64 0] 29)).alloc (.cells #[.string ⟨#[]⟩, .int .i64 0, .bool false, .string ⟨#[]⟩, .int .i64 0, .int .i64 0, .int .i64 0, .int .i64 0, .int .i64 0, .int .i64 0, .int .i64 0, .int .i64 0, .int .i64 0, .int .i64 0, .int .i64 0, .int .i64 0, .int .i64 0] 29)) from ((But.refl b w).alloc _).alloc _)
  have P := hide (show Pz ((w.alloc (.cells #[.string ⟨#[]⟩, .int .i64 0, .bool false, .string ⟨#[]⟩, .int .i64 0, .int .i64 0, .int .i64 0, .int .i64 0, .int .i64 0, .int .i64 0, .int .i64 0, .int .i64 0, .int .i64 0, .int .i64 0, .int .i64 0, .int .i64 0, .int .i64 0] 29)).alloc (.cells #[.string ⟨#[]⟩, .int .i64 0, .bool false, .string ⟨#[]⟩, .int .i64 0, .int .i64 0, .int .i64 0, .int .i64 0, .int .i64 0, .int .i64 0, .int .i64 0, .int .i64 0, .int .i64 0, .int .i64 0, .int .i64 0, .int .i64 0, .int .i64 0] 29)) b s _ from (hp.below (bl_new _ _)).below (bl_new _ _))
  clear hp
  go_enter Tryz.func19, Tryz.ntmps19
  go_wp2_with fail
  generalize (w.alloc (.cells #[.string ⟨#[]⟩, .int .i64 0, .bool false, .string ⟨#[]⟩, .int .i64 0, .int .i64 0, .int .i64 0, .int .i64 0, .int .i64 0, .int .i64 0, .int .i64 0, .int .i64 0, .int .i64 0, .int .i64 0, .int .i64 0, .int .i64 0, .int .i64 0] 29)).alloc (.cells #[.string ⟨#[]⟩, .int .i64 0, .bool false, .string ⟨#[]⟩, .int .i64 0, .int .i64 0, .int .i64 0, .int .i64 0, .int .i64 0, .int .i64 0, .int .i64 0, .int .i64 0, .int .i64 0, .int .i64 0, .int .i64 0, .int .i64 0, .int .i64 0] 29) = v0 at *
  go_wp2_with fail
  refine (H0.out _ P.out).mono ?_
  rintro e v1 ⟨rfl, p1, h1⟩
  replace hR := hide (hR.out.but h1 (by omega))
  replace hG := hide (hG.out.but h1 (by omega))
  replace hB := hide (hB.out.trans h1)
  replace P := hide p1
  clear h1 p1
  obtain ⟨p0, q0⟩ := ro_cf hG.out 0 _ rfl
  go_upto_region 3 with fail
  clear p0 q0
  replace hG := hide (show Ro (v1.setCell ⟨w.heap.size + 1, 0, none⟩ (.string std)) (w.heap.size + 1) #[.string std, .int .i64 0, .bool false, .string ⟨#[]⟩, .int .i64 0, .int .i64 0, .int .i64 0, .int .i64 0, .int .i64 0, .int .i64 0, .int .i64 0, .int .i64 0, .int .i64 0, .int .i64 0, .int .i64 0, .int .i64 0, .int .i64 0] 29 from ro_set hG.out 0 (.string std))
  replace hR := hide (ro_set_ne hR.out (show w.heap.size + 1 ≠ w.heap.size by omega) 0 (.string std))
  replace P := hide (show Pz (v1.setCell ⟨w.heap.size + 1, 0, none⟩ (.string std)) b s _ from P.out.set_ne 0 (show w.heap.size + 1 ≠ b by omega) (.string std))
  replace hB := hide (show But b w (v1.setCell ⟨w.heap.size + 1, 0, none⟩ (.string std)) from hB.out.setNew (show w.heap.size ≤ w.heap.size + 1 by omega) (.string std))
  generalize v1.setCell ⟨w.heap.size + 1, 0, none⟩ (.string std) = v2 at *
  go_wp2_with fail
  refine (H1.out _ P.out).mono ?_
  rintro e v3 ⟨rfl, p1, h1⟩
  replace hR := hide (hR.out.but h1 (by omega))
  replace hG := hide (hG.out.but h1 (by omega))
  replace hB := hide (hB.out.trans h1)
  replace P := hide p1
  clear h1 p1
  obtain ⟨p1, q1⟩ := ro_cf hG.out 1 _ rfl
  go_upto_region 4 with fail
  clear p1 q1
  replace hG := hide (show Ro (v3.setCell ⟨w.heap.size + 1, 1, none⟩ (.int .i64 so)) (w.heap.size + 1) #[.string std, .int .i64 so, .bool false, .string ⟨#[]⟩, .int .i64 0, .int .i64 0, .int .i64 0, .int .i64 0, .int .i64 0, .int .i64 0, .int .i64 0, .int .i64 0, .int .i64 0, .int .i64 0, .int .i64 0, .int .i64 0, .int .i64 0] 29 from ro_set hG.out 1 (.int .i64 so))
  replace hR := hide (ro_set_ne hR.out (show w.heap.size + 1 ≠ w.heap.size by omega) 1 (.int .i64 so))
  replace P := hide (show Pz (v3.setCell ⟨w.heap.size + 1, 1, none⟩ (.int .i64 so)) b s _ from P.out.set_ne 1 (show w.heap.size + 1 ≠ b by omega) (.int .i64 so))
  replace hB := hide (show But b w (v3.setCell ⟨w.heap.size + 1, 1, none⟩ (.int .i64 so)) from hB.out.setNew (show w.heap.size ≤ w.heap.size + 1 by omega) (.int .i64 so))
  generalize v3.setCell ⟨w.heap.size + 1, 1, none⟩ (.int .i64 so) = v4 at *
  go_wp2_with fail
  refine (R.out _ P.out).mono ?_
  rintro e v5 ⟨rfl, h1⟩
  replace P := hide (P.out.below h1)
  replace hR := hide (hR.out.below h1)
  replace hG := hide (hG.out.below h1)
  replace hB := hide (hB.out.next h1)
  clear h1
  go_wp2_with fail
  refine (R.out _ P.out).mono ?_
  rintro e v6 ⟨rfl, h1⟩
  replace P := hide (P.out.below h1)
  replace hR := hide (hR.out.below h1)
  replace hG := hide (hG.out.below h1)
  replace hB := hide (hB.out.next h1)
  clear h1
  obtain ⟨p4, q4⟩ := ro_cf hG.out 4 _ rfl
  go_wp2_with fail
  refine (I.out _).mono ?_
  rintro e v ⟨rfl, rfl⟩
  go_wp2_with fail
  refine (require_yes b _).mono ?_
  rintro e v ⟨rfl, rfl⟩
  clear p4 q4
  have G : Gr Tryz.prog 29 17 #[.string std, .int .i64 so, .bool false, .string ⟨#[]⟩, .int .i64 0, .int .i64 0, .int .i64 0, .int .i64 0, .int .i64 0, .int .i64 0, .int .i64 0, .int .i64 0, .int .i64 0, .int .i64 0, .int .i64 0, .int .i64 0, .int .i64 0] := ⟨by rw [show (#[.string std, .int .i64 so, .bool false, .string ⟨#[]⟩, .int .i64 0, .int .i64 0, .int .i64 0, .int .i64 0, .int .i64 0, .int .i64 0, .int .i64 0, .int .i64 0, .int .i64 0, .int .i64 0, .int .i64 0, .int .i64 0, .int .i64 0] : Array Value).size = 17 from rfl]; kernel_rfl, rfl, by simp [Value.oneCell']⟩
  generalize hcs : (#[.string std, .int .i64 so, .bool false, .string ⟨#[]⟩, .int .i64 0, .int .i64 0, .int .i64 0, .int .i64 0, .int .i64 0, .int .i64 0, .int .i64 0, .int .i64 0, .int .i64 0, .int .i64 0, .int .i64 0, .int .i64 0, .int .i64 0] : Array Value) = cs at *
  have G1 := G.1
  have G2 := G.2.2
  have zs : (#[.string ⟨#[]⟩, .int .i64 0, .bool false, .string ⟨#[]⟩, .int .i64 0, .int .i64 0, .int .i64 0, .int .i64 0, .int .i64 0, .int .i64 0, .int .i64 0, .int .i64 0, .int .i64 0, .int .i64 0, .int .i64 0, .int .i64 0, .int .i64 0] : Array Value).size = cs.size := by rw [G.2.1]; rfl
  go_wp2_with (first | (refine wpList_store_row rfl 29 _ _ rfl _ _ rfl rfl _ _ hR.out G1 zs G2 ?_) | (refine load_row_g (by rfl) 29 _ rfl _ rfl _ _ _ hG.out Tryz.underlying29 rfl G1 ?_))
  have hl := ((ro_row hR.out cs).load 29 _ Tryz.underlying29 rfl G1).2
  exact bodyPost_ret (results_c Tryz.results19 rfl hl) rfl ⟨by rw [← hcs], P.out.row (by omega) _, hB.out.row (by omega) _⟩
set_option maxHeartbeats 4000000 in
theorem rule_df (s std dst : ByteArray) (so dof : Int) (b k0 k1 k2 k6 qq : Nat) (st1 st2 st3 st4 st5 st6 en1 en2 en3 en4 en5 en6 : Int) (w : World) (hs : s.size ≤ 1000000) (hp : Pz w b s (k0 : Int))
    (H0 : (∀ w, Pz w b s ((k0 : Nat) : Int) → Calls Tryz.prog 28 #[.pointer (some ⟨b, 0, none⟩)] w fun e w' => e = .returned (.string std) ∧ Pz w' b s ((k1 : Nat) : Int) ∧ But b w w'))
    (H1 : (∀ w, Pz w b s ((k1 : Nat) : Int) → Calls Tryz.prog 29 #[.pointer (some ⟨b, 0, none⟩)] w fun e w' => e = .returned (.int .i64 so) ∧ Pz w' b s ((k2 : Nat) : Int) ∧ But b w w')) (hk2 : k2 ≤ s.size) (hX : (mkS (rst s k2)).toList.isEmpty = false)
    (HD : (∀ g w, Pz w b s (k2 : Int) → Ro w g #[.string std, .int .i64 so, .bool false, .string ⟨#[]⟩, .int .i64 0, .int .i64 0, .int .i64 0, .int .i64 0, .int .i64 0, .int .i64 0, .int .i64 0, .int .i64 0, .int .i64 0, .int .i64 0, .int .i64 0, .int .i64 0, .int .i64 0] 29 → b ≠ g → Calls Tryz.prog 31 #[.pointer (some ⟨b, 0, none⟩), .pointer (some ⟨g, 0, none⟩)] w fun e w' => e = fail (qq : Int) ∧ But2 b g w w')) :
    Calls Tryz.prog 19 #[.pointer (some ⟨b, 0, none⟩)] w fun e w' => e = fail (qq : Int) ∧ But b w w' := by
  replace H0 := hide H0
  replace H1 := hide H1
  replace HD := hide HD
  have R := hide (fun w hp => rest_ s k2 b w hs hk2 hp)
  obtain ⟨X, hX2⟩ : ∃ X, X = mkS (rst s k2) := ⟨_, rfl⟩
  rw [← hX2] at R hX
  have x1 : X.toList.isEmpty = false := hX
  clear hX2 hX
  have hbl : b < w.heap.size := hp.1
  have hR := hide (show Ro ((w.alloc (.cells #[.string ⟨#[]⟩, .int .i64 0, .bool false, .string ⟨#[]⟩, .int .i64 0, .int .i64 0, .int .i64 0, .int .i64 0, .int .i64 0, .int .i64 0, .int .i64 0, .int .i64 0, .int .i64 0, .int .i64 0, .int .i64 0, .int .i64 0, .int .i64 0] 29)).alloc (.cells #[.string ⟨#[]⟩, .int .i64 0, .bool false, .string ⟨#[]⟩, .int .i64 0, .int .i64 0, .int .i64 0, .int .i64 0, .int .i64 0, .int .i64 0, .int .i64 0, .int .i64 0, .int .i64 0, .int .i64 0, .int .i64 0, .int .i64 0, .int .i64 0] 29)) w.heap.size #[.string ⟨#[]⟩, .int .i64 0, .bool false, .string ⟨#[]⟩, .int .i64 0, .int .i64 0, .int .i64 0, .int .i64 0, .int .i64 0, .int .i64 0, .int .i64 0, .int .i64 0, .int .i64 0, .int .i64 0, .int .i64 0, .int .i64 0, .int .i64 0] 29 from (Ro.new w #[.string ⟨#[]⟩, .int .i64 0, .bool false, .string ⟨#[]⟩, .int .i64 0, .int .i64 0, .int .i64 0, .int .i64 0, .int .i64 0, .int .i64 0, .int .i64 0, .int .i64 0, .int .i64 0, .int .i64 0, .int .i64 0, .int .i64 0, .int .i64 0] 29).alloc _)
  have hG := hide (show Ro ((w.alloc (.cells #[.string ⟨#[]⟩, .int .i64 0, .bool false, .string ⟨#[]⟩, .int .i64 0, .int .i64 0, .int .i64 0, .int .i64 0, .int .i64 0, .int .i64 0, .int .i64 0, .int .i64 0, .int .i64 0, .int .i64 0, .int .i64 0, .int .i64 0, .int .i64 0] 29)).alloc (.cells #[.string ⟨#[]⟩, .int .i64 0, .bool false, .string ⟨#[]⟩, .int .i64 0, .int .i64 0, .int .i64 0, .int .i64 0, .int .i64 0, .int .i64 0, .int .i64 0, .int .i64 0, .int .i64 0, .int .i64 0, .int .i64 0, .int .i64 0, .int .i64 0] 29)) (w.heap.size + 1) #[.string ⟨#[]⟩, .int .i64 0, .bool false, .string ⟨#[]⟩, .int .i64 0, .int .i64 0, .int .i64 0, .int .i64 0, .int .i64 0, .int .i64 0, .int .i64 0, .int .i64 0, .int .i64 0, .int .i64 0, .int .i64 0, .int .i64 0, .int .i64 0] 29 by have := Ro.new (w.alloc (.cells #[.string ⟨#[]⟩, .int .i64 0, .bool false, .string ⟨#[]⟩, .int .i64 0, .int .i64 0, .int .i64 0, .int .i64 0, .int .i64 0, .int .i64 0, .int .i64 0, .int .i64 0, .int .i64 0, .int .i64 0, .int .i64 0, .int .i64 0, .int .i64 0] 29)) #[.string ⟨#[]⟩, .int .i64 0, .bool false, .string ⟨#[]⟩, .int .i64 0, .int .i64 0, .int .i64 0, .int .i64 0, .int .i64 0, .int .i64 0, .int .i64 0, .int .i64 0, .int .i64 0, .int .i64 0, .int .i64 0, .int .i64 0, .int .i64 0] 29; simpa using this)
  have hB := hide (show But b w ((w.alloc (.cells #[.string ⟨#[]⟩, .int .i64 0, .bool false, .string ⟨#[]⟩, .int .i64 0, .int .i64 0, .int .i64 0, .int .i64 0, .int .i64 0, .int .i64 0, .int .i64 0, .int .i64 0, .int .i64 0, .int .i64 0, .int .i64 0, .int .i64 0, .int .i64 0] 29)).alloc (.cells #[.string ⟨#[]⟩, .int .i64 0, .bool false, .string ⟨#[]⟩, .int .i64 0, .int .i64 0, .int .i64 0, .int .i64 0, .int .i64 0, .int .i64 0, .int .i64 0, .int .i64 0, .int .i64 0, .int .i64 0, .int .i64 0, .int .i64 0, .int .i64 0] 29)) from ((But.refl b w).alloc _).alloc _)
  have P := hide (show Pz ((w.alloc (.cells #[.string ⟨#[]⟩, .int .i64 0, .bool false, .string ⟨#[]⟩, .int .i64 0, .int .i64 0, .int .i64 0, .int .i64 0, .int .i64 0, .int .i64 0, .int .i64 0, .int .i64 0, .int .i64 0, .int .i64 0, .int .i64 0, .int .i64 0, .int .i64 0] 29)).alloc (.cells #[.string ⟨#[]⟩, .int .i64 0, .bool false, .string ⟨#[]⟩, .int .i64 0, .int .i64 0, .int .i64 0, .int .i64 0, .int .i64 0, .int .i64 0, .int .i64 0, .int .i64 0, .int .i64 0, .int .i64 0, .int .i64 0, .int .i64 0, .int .i64 0] 29)) b s _ from (hp.below (bl_new _ _)).below (bl_new _ _))
  clear hp
  go_enter Tryz.func19, Tryz.ntmps19
  go_wp2_with fail
  generalize (w.alloc (.cells #[.string ⟨#[]⟩, .int .i64 0, .bool false, .string ⟨#[]⟩, .int .i64 0, .int .i64 0, .int .i64 0, .int .i64 0, .int .i64 0, .int .i64 0, .int .i64 0, .int .i64 0, .int .i64 0, .int .i64 0, .int .i64 0, .int .i64 0, .int .i64 0] 29)).alloc (.cells #[.string ⟨#[]⟩, .int .i64 0, .bool false, .string ⟨#[]⟩, .int .i64 0, .int .i64 0, .int .i64 0, .int .i64 0, .int .i64 0, .int .i64 0, .int .i64 0, .int .i64 0, .int .i64 0, .int .i64 0, .int .i64 0, .int .i64 0, .int .i64 0] 29) = v0 at *
  go_wp2_with fail
  refine (H0.out _ P.out).mono ?_
  rintro e v1 ⟨rfl, p1, h1⟩
  replace hR := hide (hR.out.but h1 (by omega))
  replace hG := hide (hG.out.but h1 (by omega))
  replace hB := hide (hB.out.trans h1)
  replace P := hide p1
  clear h1 p1
  obtain ⟨p0, q0⟩ := ro_cf hG.out 0 _ rfl
  go_upto_region 3 with fail
  clear p0 q0
  replace hG := hide (show Ro (v1.setCell ⟨w.heap.size + 1, 0, none⟩ (.string std)) (w.heap.size + 1) #[.string std, .int .i64 0, .bool false, .string ⟨#[]⟩, .int .i64 0, .int .i64 0, .int .i64 0, .int .i64 0, .int .i64 0, .int .i64 0, .int .i64 0, .int .i64 0, .int .i64 0, .int .i64 0, .int .i64 0, .int .i64 0, .int .i64 0] 29 from ro_set hG.out 0 (.string std))
  replace hR := hide (ro_set_ne hR.out (show w.heap.size + 1 ≠ w.heap.size by omega) 0 (.string std))
  replace P := hide (show Pz (v1.setCell ⟨w.heap.size + 1, 0, none⟩ (.string std)) b s _ from P.out.set_ne 0 (show w.heap.size + 1 ≠ b by omega) (.string std))
  replace hB := hide (show But b w (v1.setCell ⟨w.heap.size + 1, 0, none⟩ (.string std)) from hB.out.setNew (show w.heap.size ≤ w.heap.size + 1 by omega) (.string std))
  generalize v1.setCell ⟨w.heap.size + 1, 0, none⟩ (.string std) = v2 at *
  go_wp2_with fail
  refine (H1.out _ P.out).mono ?_
  rintro e v3 ⟨rfl, p1, h1⟩
  replace hR := hide (hR.out.but h1 (by omega))
  replace hG := hide (hG.out.but h1 (by omega))
  replace hB := hide (hB.out.trans h1)
  replace P := hide p1
  clear h1 p1
  obtain ⟨p1, q1⟩ := ro_cf hG.out 1 _ rfl
  go_upto_region 4 with fail
  clear p1 q1
  replace hG := hide (show Ro (v3.setCell ⟨w.heap.size + 1, 1, none⟩ (.int .i64 so)) (w.heap.size + 1) #[.string std, .int .i64 so, .bool false, .string ⟨#[]⟩, .int .i64 0, .int .i64 0, .int .i64 0, .int .i64 0, .int .i64 0, .int .i64 0, .int .i64 0, .int .i64 0, .int .i64 0, .int .i64 0, .int .i64 0, .int .i64 0, .int .i64 0] 29 from ro_set hG.out 1 (.int .i64 so))
  replace hR := hide (ro_set_ne hR.out (show w.heap.size + 1 ≠ w.heap.size by omega) 1 (.int .i64 so))
  replace P := hide (show Pz (v3.setCell ⟨w.heap.size + 1, 1, none⟩ (.int .i64 so)) b s _ from P.out.set_ne 1 (show w.heap.size + 1 ≠ b by omega) (.int .i64 so))
  replace hB := hide (show But b w (v3.setCell ⟨w.heap.size + 1, 1, none⟩ (.int .i64 so)) from hB.out.setNew (show w.heap.size ≤ w.heap.size + 1 by omega) (.int .i64 so))
  generalize v3.setCell ⟨w.heap.size + 1, 1, none⟩ (.int .i64 so) = v4 at *
  go_wp2_with fail
  refine (R.out _ P.out).mono ?_
  rintro e v5 ⟨rfl, h1⟩
  replace P := hide (P.out.below h1)
  replace hR := hide (hR.out.below h1)
  replace hG := hide (hG.out.below h1)
  replace hB := hide (hB.out.next h1)
  clear h1
  go_wp2_with fail
  refine (HD.out _ _ P.out hG.out (by omega)).mono ?_
  rintro e v ⟨rfl, h1⟩
  unfold fail
  go_wp2
  exact ⟨rfl, rfl, hB.out.two h1 (by omega)⟩
set_option maxHeartbeats 4000000 in
theorem rule_r (s std dst : ByteArray) (so dof : Int) (b k0 k1 k2 k6 qq : Nat) (st1 st2 st3 st4 st5 st6 en1 en2 en3 en4 en5 en6 : Int) (w : World) (hs : s.size ≤ 1000000) (hp : Pz w b s (k0 : Int))
    (H0 : (∀ w, Pz w b s ((k0 : Nat) : Int) → Calls Tryz.prog 28 #[.pointer (some ⟨b, 0, none⟩)] w fun e w' => e = .returned (.string std) ∧ Pz w' b s ((k1 : Nat) : Int) ∧ But b w w'))
    (H1 : (∀ w, Pz w b s ((k1 : Nat) : Int) → Calls Tryz.prog 29 #[.pointer (some ⟨b, 0, none⟩)] w fun e w' => e = .returned (.int .i64 so) ∧ Pz w' b s ((k2 : Nat) : Int) ∧ But b w w')) (hk2 : k2 ≤ s.size) (hX : (mkS (rst s k2)).toList.isEmpty = false)
    (HD : (∀ g w, Pz w b s (k2 : Int) → Ro w g #[.string std, .int .i64 so, .bool false, .string ⟨#[]⟩, .int .i64 0, .int .i64 0, .int .i64 0, .int .i64 0, .int .i64 0, .int .i64 0, .int .i64 0, .int .i64 0, .int .i64 0, .int .i64 0, .int .i64 0, .int .i64 0, .int .i64 0] 29 → b ≠ g → Calls Tryz.prog 31 #[.pointer (some ⟨b, 0, none⟩), .pointer (some ⟨g, 0, none⟩)] w fun e w' => e = .returned (.tuple #[]) ∧ Pz w' b s (k6 : Int) ∧ Ro w' g #[.string std, .int .i64 so, .bool true, .string dst, .int .i64 dof, .int .i64 st1, .int .i64 st2, .int .i64 st3, .int .i64 st4, .int .i64 st5, .int .i64 st6, .int .i64 en1, .int .i64 en2, .int .i64 en3, .int .i64 en4, .int .i64 en5, .int .i64 en6] 29 ∧ But2 b g w w')) (hk6 : k6 ≤ s.size) (hY : (mkS (rst s k6)).toList.isEmpty = false) :
    Calls Tryz.prog 19 #[.pointer (some ⟨b, 0, none⟩)] w fun e w' => e = fail (k6 : Int) ∧ But b w w' := by
  replace H0 := hide H0
  replace H1 := hide H1
  replace HD := hide HD
  have R := hide (fun w hp => rest_ s k2 b w hs hk2 hp)
  obtain ⟨X, hX2⟩ : ∃ X, X = mkS (rst s k2) := ⟨_, rfl⟩
  rw [← hX2] at R hX
  have x1 : X.toList.isEmpty = false := hX
  clear hX2 hX
  have R2 := hide (fun w hp => rest_ s k6 b w hs hk6 hp)
  obtain ⟨Y, hY2⟩ : ∃ Y, Y = mkS (rst s k6) := ⟨_, rfl⟩
  rw [← hY2] at R2 hY
  have y1 : Y.toList.isEmpty = false := hY
  clear hY2 hY
  have hbl : b < w.heap.size := hp.1
  have hR := hide (show Ro ((w.alloc (.cells #[.string ⟨#[]⟩, .int .i64 0, .bool false, .string ⟨#[]⟩, .int .i64 0, .int .i64 0, .int .i64 0, .int .i64 0, .int .i64 0, .int .i64 0, .int .i64 0, .int .i64 0, .int .i64 0, .int .i64 0, .int .i64 0, .int .i64 0, .int .i64 0] 29)).alloc (.cells #[.string ⟨#[]⟩, .int .i64 0, .bool false, .string ⟨#[]⟩, .int .i64 0, .int .i64 0, .int .i64 0, .int .i64 0, .int .i64 0, .int .i64 0, .int .i64 0, .int .i64 0, .int .i64 0, .int .i64 0, .int .i64 0, .int .i64 0, .int .i64 0] 29)) w.heap.size #[.string ⟨#[]⟩, .int .i64 0, .bool false, .string ⟨#[]⟩, .int .i64 0, .int .i64 0, .int .i64 0, .int .i64 0, .int .i64 0, .int .i64 0, .int .i64 0, .int .i64 0, .int .i64 0, .int .i64 0, .int .i64 0, .int .i64 0, .int .i64 0] 29 from (Ro.new w #[.string ⟨#[]⟩, .int .i64 0, .bool false, .string ⟨#[]⟩, .int .i64 0, .int .i64 0, .int .i64 0, .int .i64 0, .int .i64 0, .int .i64 0, .int .i64 0, .int .i64 0, .int .i64 0, .int .i64 0, .int .i64 0, .int .i64 0, .int .i64 0] 29).alloc _)
  have hG := hide (show Ro ((w.alloc (.cells #[.string ⟨#[]⟩, .int .i64 0, .bool false, .string ⟨#[]⟩, .int .i64 0, .int .i64 0, .int .i64 0, .int .i64 0, .int .i64 0, .int .i64 0, .int .i64 0, .int .i64 0, .int .i64 0, .int .i64 0, .int .i64 0, .int .i64 0, .int .i64 0] 29)).alloc (.cells #[.string ⟨#[]⟩, .int .i64 0, .bool false, .string ⟨#[]⟩, .int .i64 0, .int .i64 0, .int .i64 0, .int .i64 0, .int .i64 0, .int .i64 0, .int .i64 0, .int .i64 0, .int .i64 0, .int .i64 0, .int .i64 0, .int .i64 0, .int .i64 0] 29)) (w.heap.size + 1) #[.string ⟨#[]⟩, .int .i64 0, .bool false, .string ⟨#[]⟩, .int .i64 0, .int .i64 0, .int .i64 0, .int .i64 0, .int .i64 0, .int .i64 0, .int .i64 0, .int .i64 0, .int .i64 0, .int .i64 0, .int .i64 0, .int .i64 0, .int .i64 0] 29 by have := Ro.new (w.alloc (.cells #[.string ⟨#[]⟩, .int .i64 0, .bool false, .string ⟨#[]⟩, .int .i64 0, .int .i64 0, .int .i64 0, .int .i64 0, .int .i64 0, .int .i64 0, .int .i64 0, .int .i64 0, .int .i64 0, .int .i64 0, .int .i64 0, .int .i64 0, .int .i64 0] 29)) #[.string ⟨#[]⟩, .int .i64 0, .bool false, .string ⟨#[]⟩, .int .i64 0, .int .i64 0, .int .i64 0, .int .i64 0, .int .i64 0, .int .i64 0, .int .i64 0, .int .i64 0, .int .i64 0, .int .i64 0, .int .i64 0, .int .i64 0, .int .i64 0] 29; simpa using this)
  have hB := hide (show But b w ((w.alloc (.cells #[.string ⟨#[]⟩, .int .i64 0, .bool false, .string ⟨#[]⟩, .int .i64 0, .int .i64 0, .int .i64 0, .int .i64 0, .int .i64 0, .int .i64 0, .int .i64 0, .int .i64 0, .int .i64 0, .int .i64 0, .int .i64 0, .int .i64 0, .int .i64 0] 29)).alloc (.cells #[.string ⟨#[]⟩, .int .i64 0, .bool false, .string ⟨#[]⟩, .int .i64 0, .int .i64 0, .int .i64 0, .int .i64 0, .int .i64 0, .int .i64 0, .int .i64 0, .int .i64 0, .int .i64 0, .int .i64 0, .int .i64 0, .int .i64 0, .int .i64 0] 29)) from ((But.refl b w).alloc _).alloc _)
  have P := hide (show Pz ((w.alloc (.cells #[.string ⟨#[]⟩, .int .i64 0, .bool false, .string ⟨#[]⟩, .int .i64 0, .int .i64 0, .int .i64 0, .int .i64 0, .int .i64 0, .int .i64 0, .int .i64 0, .int .i64 0, .int .i64 0, .int .i64 0, .int .i64 0, .int .i64 0, .int .i64 0] 29)).alloc (.cells #[.string ⟨#[]⟩, .int .i64 0, .bool false, .string ⟨#[]⟩, .int .i64 0, .int .i64 0, .int .i64 0, .int .i64 0, .int .i64 0, .int .i64 0, .int .i64 0, .int .i64 0, .int .i64 0, .int .i64 0, .int .i64 0, .int .i64 0, .int .i64 0] 29)) b s _ from (hp.below (bl_new _ _)).below (bl_new _ _))
  clear hp
  go_enter Tryz.func19, Tryz.ntmps19
  go_wp2_with fail
  generalize (w.alloc (.cells #[.string ⟨#[]⟩, .int .i64 0, .bool false, .string ⟨#[]⟩, .int .i64 0, .int .i64 0, .int .i64 0, .int .i64 0, .int .i64 0, .int .i64 0, .int .i64 0, .int .i64 0, .int .i64 0, .int .i64 0, .int .i64 0, .int .i64 0, .int .i64 0] 29)).alloc (.cells #[.string ⟨#[]⟩, .int .i64 0, .bool false, .string ⟨#[]⟩, .int .i64 0, .int .i64 0, .int .i64 0, .int .i64 0, .int .i64 0, .int .i64 0, .int .i64 0, .int .i64 0, .int .i64 0, .int .i64 0, .int .i64 0, .int .i64 0, .int .i64 0] 29) = v0 at *
  go_wp2_with fail
  refine (H0.out _ P.out).mono ?_
  rintro e v1 ⟨rfl, p1, h1⟩
  replace hR := hide (hR.out.but h1 (by omega))
  replace hG := hide (hG.out.but h1 (by omega))
  replace hB := hide (hB.out.trans h1)
  replace P := hide p1
  clear h1 p1
  obtain ⟨p0, q0⟩ := ro_cf hG.out 0 _ rfl
  go_upto_region 3 with fail
  clear p0 q0
  replace hG := hide (show Ro (v1.setCell ⟨w.heap.size + 1, 0, none⟩ (.string std)) (w.heap.size + 1) #[.string std, .int .i64 0, .bool false, .string ⟨#[]⟩, .int .i64 0, .int .i64 0, .int .i64 0, .int .i64 0, .int .i64 0, .int .i64 0, .int .i64 0, .int .i64 0, .int .i64 0, .int .i64 0, .int .i64 0, .int .i64 0, .int .i64 0] 29 from ro_set hG.out 0 (.string std))
  replace hR := hide (ro_set_ne hR.out (show w.heap.size + 1 ≠ w.heap.size by omega) 0 (.string std))
  replace P := hide (show Pz (v1.setCell ⟨w.heap.size + 1, 0, none⟩ (.string std)) b s _ from P.out.set_ne 0 (show w.heap.size + 1 ≠ b by omega) (.string std))
  replace hB := hide (show But b w (v1.setCell ⟨w.heap.size + 1, 0, none⟩ (.string std)) from hB.out.setNew (show w.heap.size ≤ w.heap.size + 1 by omega) (.string std))
  generalize v1.setCell ⟨w.heap.size + 1, 0, none⟩ (.string std) = v2 at *
  go_wp2_with fail
  refine (H1.out _ P.out).mono ?_
  rintro e v3 ⟨rfl, p1, h1⟩
  replace hR := hide (hR.out.but h1 (by omega))
  replace hG := hide (hG.out.but h1 (by omega))
  replace hB := hide (hB.out.trans h1)
  replace P := hide p1
  clear h1 p1
  obtain ⟨p1, q1⟩ := ro_cf hG.out 1 _ rfl
  go_upto_region 4 with fail
  clear p1 q1
  replace hG := hide (show Ro (v3.setCell ⟨w.heap.size + 1, 1, none⟩ (.int .i64 so)) (w.heap.size + 1) #[.string std, .int .i64 so, .bool false, .string ⟨#[]⟩, .int .i64 0, .int .i64 0, .int .i64 0, .int .i64 0, .int .i64 0, .int .i64 0, .int .i64 0, .int .i64 0, .int .i64 0, .int .i64 0, .int .i64 0, .int .i64 0, .int .i64 0] 29 from ro_set hG.out 1 (.int .i64 so))
  replace hR := hide (ro_set_ne hR.out (show w.heap.size + 1 ≠ w.heap.size by omega) 1 (.int .i64 so))
  replace P := hide (show Pz (v3.setCell ⟨w.heap.size + 1, 1, none⟩ (.int .i64 so)) b s _ from P.out.set_ne 1 (show w.heap.size + 1 ≠ b by omega) (.int .i64 so))
  replace hB := hide (show But b w (v3.setCell ⟨w.heap.size + 1, 1, none⟩ (.int .i64 so)) from hB.out.setNew (show w.heap.size ≤ w.heap.size + 1 by omega) (.int .i64 so))
  generalize v3.setCell ⟨w.heap.size + 1, 1, none⟩ (.int .i64 so) = v4 at *
  go_wp2_with fail
  refine (R.out _ P.out).mono ?_
  rintro e v5 ⟨rfl, h1⟩
  replace P := hide (P.out.below h1)
  replace hR := hide (hR.out.below h1)
  replace hG := hide (hG.out.below h1)
  replace hB := hide (hB.out.next h1)
  clear h1
  go_wp2_with fail
  refine (HD.out _ _ P.out hG.out (by omega)).mono ?_
  rintro e v6 ⟨rfl, p1, g1, h1⟩
  replace hR := hide (hR.out.but2 h1 (by omega) (by omega))
  replace hG := hide g1
  replace P := hide p1
  replace hB := hide (hB.out.two h1 (by omega))
  clear p1 g1 h1
  go_wp2_with fail
  refine (R2.out _ P.out).mono ?_
  rintro e v7 ⟨rfl, h1⟩
  replace P := hide (P.out.below h1)
  replace hR := hide (hR.out.below h1)
  replace hG := hide (hG.out.below h1)
  replace hB := hide (hB.out.next h1)
  clear h1
  go_wp2_with fail
  refine (require_no s (k6 : Int) b _ P.out).mono ?_
  rintro e v ⟨rfl, rfl⟩
  unfold fail
  go_wp2
  exact ⟨rfl, rfl, hB.out⟩
set_option maxHeartbeats 4000000 in
theorem rule_n (s std dst : ByteArray) (so dof : Int) (b k0 k1 k2 k6 qq : Nat) (st1 st2 st3 st4 st5 st6 en1 en2 en3 en4 en5 en6 : Int) (w : World) (hs : s.size ≤ 1000000) (hp : Pz w b s (k0 : Int))
    (H0 : (∀ w, Pz w b s ((k0 : Nat) : Int) → Calls Tryz.prog 28 #[.pointer (some ⟨b, 0, none⟩)] w fun e w' => e = .returned (.string std) ∧ Pz w' b s ((k1 : Nat) : Int) ∧ But b w w'))
    (H1 : (∀ w, Pz w b s ((k1 : Nat) : Int) → Calls Tryz.prog 29 #[.pointer (some ⟨b, 0, none⟩)] w fun e w' => e = .returned (.int .i64 so) ∧ Pz w' b s ((k2 : Nat) : Int) ∧ But b w w')) (hk2 : k2 ≤ s.size) (hX : (mkS (rst s k2)).toList.isEmpty = false)
    (HD : (∀ g w, Pz w b s (k2 : Int) → Ro w g #[.string std, .int .i64 so, .bool false, .string ⟨#[]⟩, .int .i64 0, .int .i64 0, .int .i64 0, .int .i64 0, .int .i64 0, .int .i64 0, .int .i64 0, .int .i64 0, .int .i64 0, .int .i64 0, .int .i64 0, .int .i64 0, .int .i64 0] 29 → b ≠ g → Calls Tryz.prog 31 #[.pointer (some ⟨b, 0, none⟩), .pointer (some ⟨g, 0, none⟩)] w fun e w' => e = .returned (.tuple #[]) ∧ Pz w' b s (k6 : Int) ∧ Ro w' g #[.string std, .int .i64 so, .bool true, .string dst, .int .i64 dof, .int .i64 st1, .int .i64 st2, .int .i64 st3, .int .i64 st4, .int .i64 st5, .int .i64 st6, .int .i64 en1, .int .i64 en2, .int .i64 en3, .int .i64 en4, .int .i64 en5, .int .i64 en6] 29 ∧ But2 b g w w')) (hk6 : k6 ≤ s.size) (hi : -9223372036854775808 ≤ dof ∧ dof < 9223372036854775808) (hY : mkS (rst s k6) = ⟨#[]⟩) (ho : decide (offOk dof) = false) :
    Calls Tryz.prog 19 #[.pointer (some ⟨b, 0, none⟩)] w fun e w' => e = fail (k6 : Int) ∧ But b w w' := by
  replace H0 := hide H0
  replace H1 := hide H1
  replace HD := hide HD
  have R := hide (fun w hp => rest_ s k2 b w hs hk2 hp)
  obtain ⟨X, hX2⟩ : ∃ X, X = mkS (rst s k2) := ⟨_, rfl⟩
  rw [← hX2] at R hX
  have x1 : X.toList.isEmpty = false := hX
  clear hX2 hX
  have R2 := hide (fun w hp => rest_ s k6 b w hs hk6 hp)
  rw [show mkS (rst s k6) = ⟨#[]⟩ from hY] at R2
  have I := hide (fun w => inRange_ dof w hi.1 hi.2)
  rw [show decide (offOk dof) = false from ho] at I
  have hbl : b < w.heap.size := hp.1
  have hR := hide (show Ro ((w.alloc (.cells #[.string ⟨#[]⟩, .int .i64 0, .bool false, .string ⟨#[]⟩, .int .i64 0, .int .i64 0, .int .i64 0, .int .i64 0, .int .i64 0, .int .i64 0, .int .i64 0, .int .i64 0, .int .i64 0, .int .i64 0, .int .i64 0, .int .i64 0, .int .i64 0] 29)).alloc (.cells #[.string ⟨#[]⟩, .int .i64 0, .bool false, .string ⟨#[]⟩, .int .i64 0, .int .i64 0, .int .i64 0, .int .i64 0, .int .i64 0, .int .i64 0, .int .i64 0, .int .i64 0, .int .i64 0, .int .i64 0, .int .i64 0, .int .i64 0, .int .i64 0] 29)) w.heap.size #[.string ⟨#[]⟩, .int .i64 0, .bool false, .string ⟨#[]⟩, .int .i64 0, .int .i64 0, .int .i64 0, .int .i64 0, .int .i64 0, .int .i64 0, .int .i64 0, .int .i64 0, .int .i64 0, .int .i64 0, .int .i64 0, .int .i64 0, .int .i64 0] 29 from (Ro.new w #[.string ⟨#[]⟩, .int .i64 0, .bool false, .string ⟨#[]⟩, .int .i64 0, .int .i64 0, .int .i64 0, .int .i64 0, .int .i64 0, .int .i64 0, .int .i64 0, .int .i64 0, .int .i64 0, .int .i64 0, .int .i64 0, .int .i64 0, .int .i64 0] 29).alloc _)
  have hG := hide (show Ro ((w.alloc (.cells #[.string ⟨#[]⟩, .int .i64 0, .bool false, .string ⟨#[]⟩, .int .i64 0, .int .i64 0, .int .i64 0, .int .i64 0, .int .i64 0, .int .i64 0, .int .i64 0, .int .i64 0, .int .i64 0, .int .i64 0, .int .i64 0, .int .i64 0, .int .i64 0] 29)).alloc (.cells #[.string ⟨#[]⟩, .int .i64 0, .bool false, .string ⟨#[]⟩, .int .i64 0, .int .i64 0, .int .i64 0, .int .i64 0, .int .i64 0, .int .i64 0, .int .i64 0, .int .i64 0, .int .i64 0, .int .i64 0, .int .i64 0, .int .i64 0, .int .i64 0] 29)) (w.heap.size + 1) #[.string ⟨#[]⟩, .int .i64 0, .bool false, .string ⟨#[]⟩, .int .i64 0, .int .i64 0, .int .i64 0, .int .i64 0, .int .i64 0, .int .i64 0, .int .i64 0, .int .i64 0, .int .i64 0, .int .i64 0, .int .i64 0, .int .i64 0, .int .i64 0] 29 by have := Ro.new (w.alloc (.cells #[.string ⟨#[]⟩, .int .i64 0, .bool false, .string ⟨#[]⟩, .int .i64 0, .int .i64 0, .int .i64 0, .int .i64 0, .int .i64 0, .int .i64 0, .int .i64 0, .int .i64 0, .int .i64 0, .int .i64 0, .int .i64 0, .int .i64 0, .int .i64 0] 29)) #[.string ⟨#[]⟩, .int .i64 0, .bool false, .string ⟨#[]⟩, .int .i64 0, .int .i64 0, .int .i64 0, .int .i64 0, .int .i64 0, .int .i64 0, .int .i64 0, .int .i64 0, .int .i64 0, .int .i64 0, .int .i64 0, .int .i64 0, .int .i64 0] 29; simpa using this)
  have hB := hide (show But b w ((w.alloc (.cells #[.string ⟨#[]⟩, .int .i64 0, .bool false, .string ⟨#[]⟩, .int .i64 0, .int .i64 0, .int .i64 0, .int .i64 0, .int .i64 0, .int .i64 0, .int .i64 0, .int .i64 0, .int .i64 0, .int .i64 0, .int .i64 0, .int .i64 0, .int .i64 0] 29)).alloc (.cells #[.string ⟨#[]⟩, .int .i64 0, .bool false, .string ⟨#[]⟩, .int .i64 0, .int .i64 0, .int .i64 0, .int .i64 0, .int .i64 0, .int .i64 0, .int .i64 0, .int .i64 0, .int .i64 0, .int .i64 0, .int .i64 0, .int .i64 0, .int .i64 0] 29)) from ((But.refl b w).alloc _).alloc _)
  have P := hide (show Pz ((w.alloc (.cells #[.string ⟨#[]⟩, .int .i64 0, .bool false, .string ⟨#[]⟩, .int .i64 0, .int .i64 0, .int .i64 0, .int .i64 0, .int .i64 0, .int .i64 0, .int .i64 0, .int .i64 0, .int .i64 0, .int .i64 0, .int .i64 0, .int .i64 0, .int .i64 0] 29)).alloc (.cells #[.string ⟨#[]⟩, .int .i64 0, .bool false, .string ⟨#[]⟩, .int .i64 0, .int .i64 0, .int .i64 0, .int .i64 0, .int .i64 0, .int .i64 0, .int .i64 0, .int .i64 0, .int .i64 0, .int .i64 0, .int .i64 0, .int .i64 0, .int .i64 0] 29)) b s _ from (hp.below (bl_new _ _)).below (bl_new _ _))
  clear hp
  go_enter Tryz.func19, Tryz.ntmps19
  go_wp2_with fail
  generalize (w.alloc (.cells #[.string ⟨#[]⟩, .int .i64 0, .bool false, .string ⟨#[]⟩, .int .i64 0, .int .i64 0, .int .i64 0, .int .i64 0, .int .i64 0, .int .i64 0, .int .i64 0, .int .i64 0, .int .i64 0, .int .i64 0, .int .i64 0, .int .i64 0, .int .i64 0] 29)).alloc (.cells #[.string ⟨#[]⟩, .int .i64 0, .bool false, .string ⟨#[]⟩, .int .i64 0, .int .i64 0, .int .i64 0, .int .i64 0, .int .i64 0, .int .i64 0, .int .i64 0, .int .i64 0, .int .i64 0, .int .i64 0, .int .i64 0, .int .i64 0, .int .i64 0] 29) = v0 at *
  go_wp2_with fail
  refine (H0.out _ P.out).mono ?_
  rintro e v1 ⟨rfl, p1, h1⟩
  replace hR := hide (hR.out.but h1 (by omega))
  replace hG := hide (hG.out.but h1 (by omega))
  replace hB := hide (hB.out.trans h1)
  replace P := hide p1
  clear h1 p1
  obtain ⟨p0, q0⟩ := ro_cf hG.out 0 _ rfl
  go_upto_region 3 with fail
  clear p0 q0
  replace hG := hide (show Ro (v1.setCell ⟨w.heap.size + 1, 0, none⟩ (.string std)) (w.heap.size + 1) #[.string std, .int .i64 0, .bool false, .string ⟨#[]⟩, .int .i64 0, .int .i64 0, .int .i64 0, .int .i64 0, .int .i64 0, .int .i64 0, .int .i64 0, .int .i64 0, .int .i64 0, .int .i64 0, .int .i64 0, .int .i64 0, .int .i64 0] 29 from ro_set hG.out 0 (.string std))
  replace hR := hide (ro_set_ne hR.out (show w.heap.size + 1 ≠ w.heap.size by omega) 0 (.string std))
  replace P := hide (show Pz (v1.setCell ⟨w.heap.size + 1, 0, none⟩ (.string std)) b s _ from P.out.set_ne 0 (show w.heap.size + 1 ≠ b by omega) (.string std))
  replace hB := hide (show But b w (v1.setCell ⟨w.heap.size + 1, 0, none⟩ (.string std)) from hB.out.setNew (show w.heap.size ≤ w.heap.size + 1 by omega) (.string std))
  generalize v1.setCell ⟨w.heap.size + 1, 0, none⟩ (.string std) = v2 at *
  go_wp2_with fail
  refine (H1.out _ P.out).mono ?_
  rintro e v3 ⟨rfl, p1, h1⟩
  replace hR := hide (hR.out.but h1 (by omega))
  replace hG := hide (hG.out.but h1 (by omega))
  replace hB := hide (hB.out.trans h1)
  replace P := hide p1
  clear h1 p1
  obtain ⟨p1, q1⟩ := ro_cf hG.out 1 _ rfl
  go_upto_region 4 with fail
  clear p1 q1
  replace hG := hide (show Ro (v3.setCell ⟨w.heap.size + 1, 1, none⟩ (.int .i64 so)) (w.heap.size + 1) #[.string std, .int .i64 so, .bool false, .string ⟨#[]⟩, .int .i64 0, .int .i64 0, .int .i64 0, .int .i64 0, .int .i64 0, .int .i64 0, .int .i64 0, .int .i64 0, .int .i64 0, .int .i64 0, .int .i64 0, .int .i64 0, .int .i64 0] 29 from ro_set hG.out 1 (.int .i64 so))
  replace hR := hide (ro_set_ne hR.out (show w.heap.size + 1 ≠ w.heap.size by omega) 1 (.int .i64 so))
  replace P := hide (show Pz (v3.setCell ⟨w.heap.size + 1, 1, none⟩ (.int .i64 so)) b s _ from P.out.set_ne 1 (show w.heap.size + 1 ≠ b by omega) (.int .i64 so))
  replace hB := hide (show But b w (v3.setCell ⟨w.heap.size + 1, 1, none⟩ (.int .i64 so)) from hB.out.setNew (show w.heap.size ≤ w.heap.size + 1 by omega) (.int .i64 so))
  generalize v3.setCell ⟨w.heap.size + 1, 1, none⟩ (.int .i64 so) = v4 at *
  go_wp2_with fail
  refine (R.out _ P.out).mono ?_
  rintro e v5 ⟨rfl, h1⟩
  replace P := hide (P.out.below h1)
  replace hR := hide (hR.out.below h1)
  replace hG := hide (hG.out.below h1)
  replace hB := hide (hB.out.next h1)
  clear h1
  go_wp2_with fail
  refine (HD.out _ _ P.out hG.out (by omega)).mono ?_
  rintro e v6 ⟨rfl, p1, g1, h1⟩
  replace hR := hide (hR.out.but2 h1 (by omega) (by omega))
  replace hG := hide g1
  replace P := hide p1
  replace hB := hide (hB.out.two h1 (by omega))
  clear p1 g1 h1
  go_wp2_with fail
  refine (R2.out _ P.out).mono ?_
  rintro e v7 ⟨rfl, h1⟩
  replace P := hide (P.out.below h1)
  replace hR := hide (hR.out.below h1)
  replace hG := hide (hG.out.below h1)
  replace hB := hide (hB.out.next h1)
  clear h1
  obtain ⟨p4, q4⟩ := ro_cf hG.out 4 _ rfl
  go_wp2_with fail
  refine (I.out _).mono ?_
  rintro e v ⟨rfl, rfl⟩
  go_wp2_with fail
  refine (require_no s (k6 : Int) b _ P.out).mono ?_
  rintro e v ⟨rfl, rfl⟩
  unfold fail
  go_wp2
  exact ⟨rfl, rfl, hB.out⟩
set_option maxHeartbeats 4000000 in
theorem rule_y (s std dst : ByteArray) (so dof : Int) (b k0 k1 k2 k6 qq : Nat) (st1 st2 st3 st4 st5 st6 en1 en2 en3 en4 en5 en6 : Int) (w : World) (hs : s.size ≤ 1000000) (hp : Pz w b s (k0 : Int))
    (H0 : (∀ w, Pz w b s ((k0 : Nat) : Int) → Calls Tryz.prog 28 #[.pointer (some ⟨b, 0, none⟩)] w fun e w' => e = .returned (.string std) ∧ Pz w' b s ((k1 : Nat) : Int) ∧ But b w w'))
    (H1 : (∀ w, Pz w b s ((k1 : Nat) : Int) → Calls Tryz.prog 29 #[.pointer (some ⟨b, 0, none⟩)] w fun e w' => e = .returned (.int .i64 so) ∧ Pz w' b s ((k2 : Nat) : Int) ∧ But b w w')) (hk2 : k2 ≤ s.size) (hX : (mkS (rst s k2)).toList.isEmpty = false)
    (HD : (∀ g w, Pz w b s (k2 : Int) → Ro w g #[.string std, .int .i64 so, .bool false, .string ⟨#[]⟩, .int .i64 0, .int .i64 0, .int .i64 0, .int .i64 0, .int .i64 0, .int .i64 0, .int .i64 0, .int .i64 0, .int .i64 0, .int .i64 0, .int .i64 0, .int .i64 0, .int .i64 0] 29 → b ≠ g → Calls Tryz.prog 31 #[.pointer (some ⟨b, 0, none⟩), .pointer (some ⟨g, 0, none⟩)] w fun e w' => e = .returned (.tuple #[]) ∧ Pz w' b s (k6 : Int) ∧ Ro w' g #[.string std, .int .i64 so, .bool true, .string dst, .int .i64 dof, .int .i64 st1, .int .i64 st2, .int .i64 st3, .int .i64 st4, .int .i64 st5, .int .i64 st6, .int .i64 en1, .int .i64 en2, .int .i64 en3, .int .i64 en4, .int .i64 en5, .int .i64 en6] 29 ∧ But2 b g w w')) (hk6 : k6 ≤ s.size) (hi : -9223372036854775808 ≤ dof ∧ dof < 9223372036854775808) (hY : mkS (rst s k6) = ⟨#[]⟩) (ho : decide (offOk dof) = true) :
    Calls Tryz.prog 19 #[.pointer (some ⟨b, 0, none⟩)] w fun e w' => e = .returned (.agg #[.string std, .int .i64 so, .bool true, .string dst, .int .i64 dof, .int .i64 st1, .int .i64 st2, .int .i64 st3, .int .i64 st4, .int .i64 st5, .int .i64 st6, .int .i64 en1, .int .i64 en2, .int .i64 en3, .int .i64 en4, .int .i64 en5, .int .i64 en6]) ∧ Pz w' b s (k6 : Int) ∧ But b w w' := by
  replace H0 := hide H0
  replace H1 := hide H1
  replace HD := hide HD
  have R := hide (fun w hp => rest_ s k2 b w hs hk2 hp)
  obtain ⟨X, hX2⟩ : ∃ X, X = mkS (rst s k2) := ⟨_, rfl⟩
  rw [← hX2] at R hX
  have x1 : X.toList.isEmpty = false := hX
  clear hX2 hX
  have R2 := hide (fun w hp => rest_ s k6 b w hs hk6 hp)
  rw [show mkS (rst s k6) = ⟨#[]⟩ from hY] at R2
  have I := hide (fun w => inRange_ dof w hi.1 hi.2)
  rw [show decide (offOk dof) = true from ho] at I
  have hbl : b < w.heap.size := hp.1
  have hR := hide (show Ro ((w.alloc (.cells #[.string ⟨#[]⟩, .int .i64 0, .bool false, .string ⟨#[]⟩, .int .i64 0, .int .i64 0, .int .i64 0, .int .i64 0, .int .i64 0, .int .i64 0, .int .i64 0, .int .i64 0, .int .i64 0, .int .i64 0, .int .i64 0, .int .i64 0, .int .i64 0] 29)).alloc (.cells #[.string ⟨#[]⟩, .int .i64 0, .bool false, .string ⟨#[]⟩, .int .i64 0, .int .i64 0, .int .i64 0, .int .i64 0, .int .i64 0, .int .i64 0, .int .i64 0, .int .i64 0, .int .i64 0, .int .i64 0, .int .i64 0, .int .i64 0, .int .i64 0] 29)) w.heap.size #[.string ⟨#[]⟩, .int .i64 0, .bool false, .string ⟨#[]⟩, .int .i64 0, .int .i64 0, .int .i64 0, .int .i64 0, .int .i64 0, .int .i64 0, .int .i64 0, .int .i64 0, .int .i64 0, .int .i64 0, .int .i64 0, .int .i64 0, .int .i64 0] 29 from (Ro.new w #[.string ⟨#[]⟩, .int .i64 0, .bool false, .string ⟨#[]⟩, .int .i64 0, .int .i64 0, .int .i64 0, .int .i64 0, .int .i64 0, .int .i64 0, .int .i64 0, .int .i64 0, .int .i64 0, .int .i64 0, .int .i64 0, .int .i64 0, .int .i64 0] 29).alloc _)
  have hG := hide (show Ro ((w.alloc (.cells #[.string ⟨#[]⟩, .int .i64 0, .bool false, .string ⟨#[]⟩, .int .i64 0, .int .i64 0, .int .i64 0, .int .i64 0, .int .i64 0, .int .i64 0, .int .i64 0, .int .i64 0, .int .i64 0, .int .i64 0, .int .i64 0, .int .i64 0, .int .i64 0] 29)).alloc (.cells #[.string ⟨#[]⟩, .int .i64 0, .bool false, .string ⟨#[]⟩, .int .i64 0, .int .i64 0, .int .i64 0, .int .i64 0, .int .i64 0, .int .i64 0, .int .i64 0, .int .i64 0, .int .i64 0, .int .i64 0, .int .i64 0, .int .i64 0, .int .i64 0] 29)) (w.heap.size + 1) #[.string ⟨#[]⟩, .int .i64 0, .bool false, .string ⟨#[]⟩, .int .i64 0, .int .i64 0, .int .i64 0, .int .i64 0, .int .i64 0, .int .i64 0, .int .i64 0, .int .i64 0, .int .i64 0, .int .i64 0, .int .i64 0, .int .i64 0, .int .i64 0] 29 by have := Ro.new (w.alloc (.cells #[.string ⟨#[]⟩, .int .i64 0, .bool false, .string ⟨#[]⟩, .int .i64 0, .int .i64 0, .int .i64 0, .int .i64 0, .int .i64 0, .int .i64 0, .int .i64 0, .int .i64 0, .int .i64 0, .int .i64 0, .int .i64 0, .int .i64 0, .int .i64 0] 29)) #[.string ⟨#[]⟩, .int .i64 0, .bool false, .string ⟨#[]⟩, .int .i64 0, .int .i64 0, .int .i64 0, .int .i64 0, .int .i64 0, .int .i64 0, .int .i64 0, .int .i64 0, .int .i64 0, .int .i64 0, .int .i64 0, .int .i64 0, .int .i64 0] 29; simpa using this)
  have hB := hide (show But b w ((w.alloc (.cells #[.string ⟨#[]⟩, .int .i64 0, .bool false, .string ⟨#[]⟩, .int .i64 0, .int .i64 0, .int .i64 0, .int .i64 0, .int .i64 0, .int .i64 0, .int .i64 0, .int .i64 0, .int .i64 0, .int .i64 0, .int .i64 0, .int .i64 0, .int .i64 0] 29)).alloc (.cells #[.string ⟨#[]⟩, .int .i64 0, .bool false, .string ⟨#[]⟩, .int .i64 0, .int .i64 0, .int .i64 0, .int .i64 0, .int .i64 0, .int .i64 0, .int .i64 0, .int .i64 0, .int .i64 0, .int .i64 0, .int .i64 0, .int .i64 0, .int .i64 0] 29)) from ((But.refl b w).alloc _).alloc _)
  have P := hide (show Pz ((w.alloc (.cells #[.string ⟨#[]⟩, .int .i64 0, .bool false, .string ⟨#[]⟩, .int .i64 0, .int .i64 0, .int .i64 0, .int .i64 0, .int .i64 0, .int .i64 0, .int .i64 0, .int .i64 0, .int .i64 0, .int .i64 0, .int .i64 0, .int .i64 0, .int .i64 0] 29)).alloc (.cells #[.string ⟨#[]⟩, .int .i64 0, .bool false, .string ⟨#[]⟩, .int .i64 0, .int .i64 0, .int .i64 0, .int .i64 0, .int .i64 0, .int .i64 0, .int .i64 0, .int .i64 0, .int .i64 0, .int .i64 0, .int .i64 0, .int .i64 0, .int .i64 0] 29)) b s _ from (hp.below (bl_new _ _)).below (bl_new _ _))
  clear hp
  go_enter Tryz.func19, Tryz.ntmps19
  go_wp2_with fail
  generalize (w.alloc (.cells #[.string ⟨#[]⟩, .int .i64 0, .bool false, .string ⟨#[]⟩, .int .i64 0, .int .i64 0, .int .i64 0, .int .i64 0, .int .i64 0, .int .i64 0, .int .i64 0, .int .i64 0, .int .i64 0, .int .i64 0, .int .i64 0, .int .i64 0, .int .i64 0] 29)).alloc (.cells #[.string ⟨#[]⟩, .int .i64 0, .bool false, .string ⟨#[]⟩, .int .i64 0, .int .i64 0, .int .i64 0, .int .i64 0, .int .i64 0, .int .i64 0, .int .i64 0, .int .i64 0, .int .i64 0, .int .i64 0, .int .i64 0, .int .i64 0, .int .i64 0] 29) = v0 at *
  go_wp2_with fail
  refine (H0.out _ P.out).mono ?_
  rintro e v1 ⟨rfl, p1, h1⟩
  replace hR := hide (hR.out.but h1 (by omega))
  replace hG := hide (hG.out.but h1 (by omega))
  replace hB := hide (hB.out.trans h1)
  replace P := hide p1
  clear h1 p1
  obtain ⟨p0, q0⟩ := ro_cf hG.out 0 _ rfl
  go_upto_region 3 with fail
  clear p0 q0
  replace hG := hide (show Ro (v1.setCell ⟨w.heap.size + 1, 0, none⟩ (.string std)) (w.heap.size + 1) #[.string std, .int .i64 0, .bool false, .string ⟨#[]⟩, .int .i64 0, .int .i64 0, .int .i64 0, .int .i64 0, .int .i64 0, .int .i64 0, .int .i64 0, .int .i64 0, .int .i64 0, .int .i64 0, .int .i64 0, .int .i64 0, .int .i64 0] 29 from ro_set hG.out 0 (.string std))
  replace hR := hide (ro_set_ne hR.out (show w.heap.size + 1 ≠ w.heap.size by omega) 0 (.string std))
  replace P := hide (show Pz (v1.setCell ⟨w.heap.size + 1, 0, none⟩ (.string std)) b s _ from P.out.set_ne 0 (show w.heap.size + 1 ≠ b by omega) (.string std))
  replace hB := hide (show But b w (v1.setCell ⟨w.heap.size + 1, 0, none⟩ (.string std)) from hB.out.setNew (show w.heap.size ≤ w.heap.size + 1 by omega) (.string std))
  generalize v1.setCell ⟨w.heap.size + 1, 0, none⟩ (.string std) = v2 at *
  go_wp2_with fail
  refine (H1.out _ P.out).mono ?_
  rintro e v3 ⟨rfl, p1, h1⟩
  replace hR := hide (hR.out.but h1 (by omega))
  replace hG := hide (hG.out.but h1 (by omega))
  replace hB := hide (hB.out.trans h1)
  replace P := hide p1
  clear h1 p1
  obtain ⟨p1, q1⟩ := ro_cf hG.out 1 _ rfl
  go_upto_region 4 with fail
  clear p1 q1
  replace hG := hide (show Ro (v3.setCell ⟨w.heap.size + 1, 1, none⟩ (.int .i64 so)) (w.heap.size + 1) #[.string std, .int .i64 so, .bool false, .string ⟨#[]⟩, .int .i64 0, .int .i64 0, .int .i64 0, .int .i64 0, .int .i64 0, .int .i64 0, .int .i64 0, .int .i64 0, .int .i64 0, .int .i64 0, .int .i64 0, .int .i64 0, .int .i64 0] 29 from ro_set hG.out 1 (.int .i64 so))
  replace hR := hide (ro_set_ne hR.out (show w.heap.size + 1 ≠ w.heap.size by omega) 1 (.int .i64 so))
  replace P := hide (show Pz (v3.setCell ⟨w.heap.size + 1, 1, none⟩ (.int .i64 so)) b s _ from P.out.set_ne 1 (show w.heap.size + 1 ≠ b by omega) (.int .i64 so))
  replace hB := hide (show But b w (v3.setCell ⟨w.heap.size + 1, 1, none⟩ (.int .i64 so)) from hB.out.setNew (show w.heap.size ≤ w.heap.size + 1 by omega) (.int .i64 so))
  generalize v3.setCell ⟨w.heap.size + 1, 1, none⟩ (.int .i64 so) = v4 at *
  go_wp2_with fail
  refine (R.out _ P.out).mono ?_
  rintro e v5 ⟨rfl, h1⟩
  replace P := hide (P.out.below h1)
  replace hR := hide (hR.out.below h1)
  replace hG := hide (hG.out.below h1)
  replace hB := hide (hB.out.next h1)
  clear h1
  go_wp2_with fail
  refine (HD.out _ _ P.out hG.out (by omega)).mono ?_
  rintro e v6 ⟨rfl, p1, g1, h1⟩
  replace hR := hide (hR.out.but2 h1 (by omega) (by omega))
  replace hG := hide g1
  replace P := hide p1
  replace hB := hide (hB.out.two h1 (by omega))
  clear p1 g1 h1
  go_wp2_with fail
  refine (R2.out _ P.out).mono ?_
  rintro e v7 ⟨rfl, h1⟩
  replace P := hide (P.out.below h1)
  replace hR := hide (hR.out.below h1)
  replace hG := hide (hG.out.below h1)
  replace hB := hide (hB.out.next h1)
  clear h1
  obtain ⟨p4, q4⟩ := ro_cf hG.out 4 _ rfl
  go_wp2_with fail
  refine (I.out _).mono ?_
  rintro e v ⟨rfl, rfl⟩
  go_wp2_with fail
  refine (require_yes b _).mono ?_
  rintro e v ⟨rfl, rfl⟩
  clear p4 q4
  have G : Gr Tryz.prog 29 17 #[.string std, .int .i64 so, .bool true, .string dst, .int .i64 dof, .int .i64 st1, .int .i64 st2, .int .i64 st3, .int .i64 st4, .int .i64 st5, .int .i64 st6, .int .i64 en1, .int .i64 en2, .int .i64 en3, .int .i64 en4, .int .i64 en5, .int .i64 en6] := ⟨by rw [show (#[.string std, .int .i64 so, .bool true, .string dst, .int .i64 dof, .int .i64 st1, .int .i64 st2, .int .i64 st3, .int .i64 st4, .int .i64 st5, .int .i64 st6, .int .i64 en1, .int .i64 en2, .int .i64 en3, .int .i64 en4, .int .i64 en5, .int .i64 en6] : Array Value).size = 17 from rfl]; kernel_rfl, rfl, by simp [Value.oneCell']⟩
  generalize hcs : (#[.string std, .int .i64 so, .bool true, .string dst, .int .i64 dof, .int .i64 st1, .int .i64 st2, .int .i64 st3, .int .i64 st4, .int .i64 st5, .int .i64 st6, .int .i64 en1, .int .i64 en2, .int .i64 en3, .int .i64 en4, .int .i64 en5, .int .i64 en6] : Array Value) = cs at *
  have G1 := G.1
  have G2 := G.2.2
  have zs : (#[.string ⟨#[]⟩, .int .i64 0, .bool false, .string ⟨#[]⟩, .int .i64 0, .int .i64 0, .int .i64 0, .int .i64 0, .int .i64 0, .int .i64 0, .int .i64 0, .int .i64 0, .int .i64 0, .int .i64 0, .int .i64 0, .int .i64 0, .int .i64 0] : Array Value).size = cs.size := by rw [G.2.1]; rfl
  go_wp2_with (first | (refine wpList_store_row rfl 29 _ _ rfl _ _ rfl rfl _ _ hR.out G1 zs G2 ?_) | (refine load_row_g (by rfl) 29 _ rfl _ rfl _ _ _ hG.out Tryz.underlying29 rfl G1 ?_))
  have hl := ((ro_row hR.out cs).load 29 _ Tryz.underlying29 rfl G1).2
  exact bodyPost_ret (results_c Tryz.results19 rfl hl) rfl ⟨by rw [← hcs], P.out.row (by omega) _, hB.out.row (by omega) _⟩
end po_
end Go.Proofs.YtjjmkbofddbnnaaGreatDoor

/-
  THE WALKS OF THE LAWS OF LAYER 9 (zoneinfolaw09): PosixtzDefaults. No conditions.
-/
import Derived.Test.YtjjmkbofddbnnaaGreatDoorLaw9
import Derived.Test.YtjjmkbofddbnnaaGreatDoorDyF
import Derived.Test.YtjjmkbofddbnnaaGreatDoorRdRef
namespace Go.Proofs.YtjjmkbofddbnnaaGreatDoor
open Go.ChangeShapes Go.WideShapes Go.ChangeAt Go.RowKit
set_option linter.unusedVariables false
theorem bl_setRow {a w : World} (h : Below a.heap.size a w) {g : Nat} (hg : a.heap.size ≤ g) (cs : Array Value) : Below a.heap.size a (w.setRow g cs) :=
  ⟨h.os, h.tape, h.output, by rw [size_setRow]; exact h.size, fun k hk => by rw [setRow_other w g k cs (by omega)]; exact h.block k hk⟩
theorem Ro.setRow {w : World} {g : Nat} {vs : Array Value} {T : TypeId} (h : Ro w g vs T) (cs : Array Value) : Ro (w.setRow g cs) g cs T := setRow_heap w g vs cs T (0, 0) h
theorem Ro.setRow_ne {w : World} {g g' : Nat} {vs : Array Value} {T : TypeId} (h : Ro w g vs T) (hne : g ≠ g') (cs : Array Value) : Ro (w.setRow g' cs) g vs T := by
  unfold Ro
  rw [setRow_other w g' g cs hne]
  exact h
theorem Bx.setRow_ne {w : World} {g g' : Nat} {vs : List Value} (h : Bx w g vs) (hne : g ≠ g') (cs : Array Value) : Bx (w.setRow g' cs) g vs :=
  ⟨by rw [size_setRow]; exact h.1, fun j v hj => by rw [cell_setRow_other w g' cs ⟨g, j, none⟩ hne]; exact h.2.1 j v hj, fun j => by
    have : (w.setRow g' cs).frozen? ⟨g, j, none⟩ = w.frozen? ⟨g, j, none⟩ := by simp [World.frozen?, setRow_other w g' g cs hne]
    rw [this]; exact h.2.2 j⟩
theorem cell_row_ne {w : World} {g g' j : Nat} {v : Value} {cs : Array Value} (h : w.cell? ⟨g, j, none⟩ = some v) (hne : g ≠ g') : (w.setRow g' cs).cell? ⟨g, j, none⟩ = some v := by
  rw [cell_setRow_other w g' cs ⟨g, j, none⟩ hne]; exact h
theorem sz1 {W w6 : World} {o : Obj} (h : Below (W.alloc o).heap.size (W.alloc o) w6) : W.heap.size + 1 ≤ w6.heap.size := by have := h.size; simpa using this
theorem sz2 {W w6 : World} {o : Obj} (h : Below (W.alloc o).drew.heap.size (W.alloc o).drew w6) : W.heap.size + 1 ≤ w6.heap.size := by
  have : (W.alloc o).heap.size ≤ w6.heap.size := h.size
  simpa using this
theorem sz3 {W w6 : World} (h : Below W.drew.heap.size W.drew w6) : W.heap.size ≤ w6.heap.size := h.size
theorem sz4 {W w6 : World} (h : Below W.heap.size W w6) : W.heap.size ≤ w6.heap.size := h.size
/-- the fresh rule's row in the worlds behind. -/
theorem hz1 {W w6 : World} (h : Below (W.alloc (.cells #[.string ⟨#[]⟩, .int .i64 0, .bool false, .string ⟨#[]⟩, .int .i64 0, .int .i64 0, .int .i64 0, .int .i64 0, .int .i64 0, .int .i64 0, .int .i64 0, .int .i64 0, .int .i64 0, .int .i64 0, .int .i64 0, .int .i64 0, .int .i64 0] 29)).heap.size (W.alloc (.cells #[.string ⟨#[]⟩, .int .i64 0, .bool false, .string ⟨#[]⟩, .int .i64 0, .int .i64 0, .int .i64 0, .int .i64 0, .int .i64 0, .int .i64 0, .int .i64 0, .int .i64 0, .int .i64 0, .int .i64 0, .int .i64 0, .int .i64 0, .int .i64 0] 29)) w6) : w6.heap[W.heap.size]? = some (.cells #[.string ⟨#[]⟩, .int .i64 0, .bool false, .string ⟨#[]⟩, .int .i64 0, .int .i64 0, .int .i64 0, .int .i64 0, .int .i64 0, .int .i64 0, .int .i64 0, .int .i64 0, .int .i64 0, .int .i64 0, .int .i64 0, .int .i64 0, .int .i64 0] 29 (0, 0)) := (Ro.new W #[.string ⟨#[]⟩, .int .i64 0, .bool false, .string ⟨#[]⟩, .int .i64 0, .int .i64 0, .int .i64 0, .int .i64 0, .int .i64 0, .int .i64 0, .int .i64 0, .int .i64 0, .int .i64 0, .int .i64 0, .int .i64 0, .int .i64 0, .int .i64 0] 29).below h
theorem hz2 {W w6 : World} (h : Below (W.alloc (.cells #[.string ⟨#[]⟩, .int .i64 0, .bool false, .string ⟨#[]⟩, .int .i64 0, .int .i64 0, .int .i64 0, .int .i64 0, .int .i64 0, .int .i64 0, .int .i64 0, .int .i64 0, .int .i64 0, .int .i64 0, .int .i64 0, .int .i64 0, .int .i64 0] 29)).drew.heap.size (W.alloc (.cells #[.string ⟨#[]⟩, .int .i64 0, .bool false, .string ⟨#[]⟩, .int .i64 0, .int .i64 0, .int .i64 0, .int .i64 0, .int .i64 0, .int .i64 0, .int .i64 0, .int .i64 0, .int .i64 0, .int .i64 0, .int .i64 0, .int .i64 0, .int .i64 0] 29)).drew w6) : w6.heap[W.heap.size]? = some (.cells #[.string ⟨#[]⟩, .int .i64 0, .bool false, .string ⟨#[]⟩, .int .i64 0, .int .i64 0, .int .i64 0, .int .i64 0, .int .i64 0, .int .i64 0, .int .i64 0, .int .i64 0, .int .i64 0, .int .i64 0, .int .i64 0, .int .i64 0, .int .i64 0] 29 (0, 0)) := (Ro.new W #[.string ⟨#[]⟩, .int .i64 0, .bool false, .string ⟨#[]⟩, .int .i64 0, .int .i64 0, .int .i64 0, .int .i64 0, .int .i64 0, .int .i64 0, .int .i64 0, .int .i64 0, .int .i64 0, .int .i64 0, .int .i64 0, .int .i64 0, .int .i64 0] 29).drew.below h
theorem hz3 {W w6 : World} {g : Nat} (h : Below W.heap.size W w6) (hz : W.heap[g]? = some (.cells #[.string ⟨#[]⟩, .int .i64 0, .bool false, .string ⟨#[]⟩, .int .i64 0, .int .i64 0, .int .i64 0, .int .i64 0, .int .i64 0, .int .i64 0, .int .i64 0, .int .i64 0, .int .i64 0, .int .i64 0, .int .i64 0, .int .i64 0, .int .i64 0] 29 (0, 0))) : w6.heap[g]? = some (.cells #[.string ⟨#[]⟩, .int .i64 0, .bool false, .string ⟨#[]⟩, .int .i64 0, .int .i64 0, .int .i64 0, .int .i64 0, .int .i64 0, .int .i64 0, .int .i64 0, .int .i64 0, .int .i64 0, .int .i64 0, .int .i64 0, .int .i64 0, .int .i64 0] 29 (0, 0)) := Ro.below (show Ro W g #[.string ⟨#[]⟩, .int .i64 0, .bool false, .string ⟨#[]⟩, .int .i64 0, .int .i64 0, .int .i64 0, .int .i64 0, .int .i64 0, .int .i64 0, .int .i64 0, .int .i64 0, .int .i64 0, .int .i64 0, .int .i64 0, .int .i64 0, .int .i64 0] 29 from hz) h
namespace l9_
set_option maxRecDepth 100000 in
set_option maxHeartbeats 8000000 in
theorem defaults_yes (std : ByteArray) (a K1 D1 M1 W1 V1 T1 K2 D2 M2 W2 V2 T2 : Int) (w : World) (hs : std.size ≤ maxLen) (n1 : nameOk (byt std) = true) (a2 : -86399 ≤ a) (a3 : a ≤ 89999) (r1 : RdOk K1 D1 M1 W1 V1 T1) (r2 : RdOk K2 D2 M2 W2 V2 T2) :
    Calls Tryz.prog 4 #[.string std, .int .i64 a, .agg #[.int .i64 K1, .int .i64 D1, .int .i64 M1, .int .i64 W1, .int .i64 V1, .int .i64 T1], .agg #[.int .i64 K2, .int .i64 D2, .int .i64 M2, .int .i64 W2, .int .i64 V2, .int .i64 T2]] w fun e w' => e = .returned (.bool true) ∧ Below w.heap.size w w' := by
  have hb := hide (bl_alloc (bl_new w (.cells #[.int .i64 K1, .int .i64 D1, .int .i64 M1, .int .i64 W1, .int .i64 V1, .int .i64 T1] 23)) (.cells #[.int .i64 K2, .int .i64 D2, .int .i64 M2, .int .i64 W2, .int .i64 V2, .int .i64 T2] 23))
  have b1 := hide ((Bx.new w [.int .i64 K1, .int .i64 D1, .int .i64 M1, .int .i64 W1, .int .i64 V1, .int .i64 T1] 23).alloc (.cells #[.int .i64 K2, .int .i64 D2, .int .i64 M2, .int .i64 W2, .int .i64 V2, .int .i64 T2] 23))
  have b2 : Hid (Bx ((w.alloc (.cells #[.int .i64 K1, .int .i64 D1, .int .i64 M1, .int .i64 W1, .int .i64 V1, .int .i64 T1] 23)).alloc (.cells #[.int .i64 K2, .int .i64 D2, .int .i64 M2, .int .i64 W2, .int .i64 V2, .int .i64 T2] 23)) (w.heap.size + 1) [.int .i64 K2, .int .i64 D2, .int .i64 M2, .int .i64 W2, .int .i64 V2, .int .i64 T2]) := hide (by
    have := Bx.new (w.alloc (.cells #[.int .i64 K1, .int .i64 D1, .int .i64 M1, .int .i64 W1, .int .i64 V1, .int .i64 T1] 23)) [.int .i64 K2, .int .i64 D2, .int .i64 M2, .int .i64 W2, .int .i64 V2, .int .i64 T2] 23
    simpa using this)
  have za := (nameOk_iff.1 n1).2.1
  rw [len_byt] at za
  have q1 : rdOk (K1, D1, M1, W1, V1, 7200) := ⟨by show (-604799 : Int) ≤ 7200; omega, by show (7200 : Int) ≤ 604799; omega, r1.2.2⟩
  have q2 : rdOk (K2, D2, M2, W2, V2, T2) := r2
  have N1 : Hid (∀ w, Calls Tryz.prog 7 #[.string std] w fun e w' => e = .returned (.bool true) ∧ w = w') := hide (fun w => by
    have := r7_.Valid std w hs
    rwa [n1] at this)
  have R1 : Hid (∀ w, Calls Tryz.prog 8 #[.agg #[.int .i64 K1, .int .i64 D1, .int .i64 M1, .int .i64 W1, .int .i64 V1, .int .i64 T1]] w fun e w' => e = .returned (.bool true) ∧ Below w.heap.size w w') := hide (fun w => by
    have := r6_.Valid K1 D1 M1 W1 V1 T1 w
    rwa [decide_eq_true r1] at this)
  have R2 : Hid (∀ w, Calls Tryz.prog 8 #[.agg #[.int .i64 K2, .int .i64 D2, .int .i64 M2, .int .i64 W2, .int .i64 V2, .int .i64 T2]] w fun e w' => e = .returned (.bool true) ∧ Below w.heap.size w w') := hide (fun w => by
    have := r6_.Valid K2 D2 M2 W2 V2 T2 w
    rwa [decide_eq_true r2] at this)
  obtain ⟨b, hbb⟩ : ∃ b, b = a - 3600 := ⟨_, rfl⟩
  have ha : offOk a := ⟨by omega, by omega⟩
  have hbo : offOk b := ⟨by omega, by omega⟩
  have hw : IntKind.i64.wrap (a - 3600) = b := by rw [hbb]; exact IntWalk.i64_in _ (by omega)
  obtain ⟨Fa, hFa, zFa, yFa⟩ : ∃ S : ByteArray, S = mkS (hmsFmt a) ∧ S.size ≤ 20 ∧ byt S = hmsFmt a := ⟨_, rfl, by rw [size_mk]; have := hmsFmt_len (x := a) (by omega) (by omega); omega, byt_mk _⟩
  obtain ⟨Fb, hFb, zFb, yFb⟩ : ∃ S : ByteArray, S = mkS (hmsFmt b) ∧ S.size ≤ 20 ∧ byt S = hmsFmt b := ⟨_, rfl, by rw [size_mk]; have := hmsFmt_len (x := b) (by omega) (by omega); omega, byt_mk _⟩
  obtain ⟨Fx, hFx, zFx, yFx⟩ : ∃ S : ByteArray, S = mkS (dayF (K1, D1, M1, W1, V1, 7200)) ∧ S.size ≤ 100 ∧ byt S = dayF (K1, D1, M1, W1, V1, 7200) := ⟨_, rfl, by rw [size_mk]; exact dayF_len q1, byt_mk _⟩
  obtain ⟨Fy, hFy, zFy, yFy⟩ : ∃ S : ByteArray, S = mkS (dayF (K2, D2, M2, W2, V2, T2)) ∧ S.size ≤ 100 ∧ byt S = dayF (K2, D2, M2, W2, V2, T2) := ⟨_, rfl, by rw [size_mk]; exact dayF_len q2, byt_mk _⟩
  have Ga := hide (fun w => r8_.Format a w (by omega) (by omega))
  have Gc := hide (fun w => r8_.Format b w (by omega) (by omega))
  have Gx := hide (fun w => day (K1, D1, M1, W1, V1, 7200) w q1)
  have Gy := hide (fun w => day (K2, D2, M2, W2, V2, T2) w q2)
  rw [← hFa] at Ga
  rw [← hFb] at Gc
  rw [← hFx] at Gx
  rw [← hFy] at Gy
  simp only [vday] at Gx Gy
  obtain ⟨k, hk⟩ : ∃ k : Nat, Fx.size = k + 2 := ⟨(dayCore (K1, D1, M1, W1, V1, 7200)).length, by rw [← len_byt, yFx]; simp [dayF]; rfl⟩
  obtain ⟨S3, hS3, zS3, yS3⟩ : ∃ S : ByteArray, Fx.extract 0 k = S ∧ S.size = k ∧ byt S = dayCore (K1, D1, M1, W1, V1, 7200) := ⟨_, rfl, by rw [ByteArray.size_extract]; omega, by
    rw [byt_extract, yFx]
    have : (dayCore (K1, D1, M1, W1, V1, 7200)).length = k := by
      have := hk
      rw [← len_byt, yFx] at this
      simp only [dayF, List.length_append, List.length_cons] at this
      rw [show (hmsFmt (7200 : Int)).length = 1 from rfl] at this
      omega
    rw [← this]
    simp [dayF]⟩
  have z60 : (⟨#[60]⟩ : ByteArray).size = 1 := rfl
  have z62 : (⟨#[62]⟩ : ByteArray).size = 1 := rfl
  have z44 : (⟨#[44]⟩ : ByteArray).size = 1 := rfl
  have zds : (⟨#[60, 68, 83, 84, 62]⟩ : ByteArray).size = 5 := rfl
  obtain ⟨B1, zB1, yB1, j1⟩ := cat ⟨#[60]⟩ std 260 (by omega) (by decide)
  obtain ⟨B2, zB2, yB2, j2⟩ := cat B1 ⟨#[62]⟩ 261 (by omega) (by decide)
  obtain ⟨B3, zB3, yB3, j3⟩ := cat B2 Fa 290 (by omega) (by decide)
  obtain ⟨B4, zB4, yB4, j4⟩ := cat B3 ⟨#[60, 68, 83, 84, 62]⟩ 300 (by omega) (by decide)
  obtain ⟨C1, zC1, yC1, k1⟩ := cat B4 ⟨#[44]⟩ 301 (by omega) (by decide)
  obtain ⟨C2, zC2, yC2, k2⟩ := cat C1 S3 500 (by omega) (by decide)
  obtain ⟨C3, zC3, yC3, k3⟩ := cat C2 ⟨#[44]⟩ 501 (by omega) (by decide)
  obtain ⟨C4, zC4, yC4, k4⟩ := cat C3 Fy 700 (by omega) (by decide)
  obtain ⟨E1, zE1, yE1, l1⟩ := cat B4 Fb 400 (by omega) (by decide)
  obtain ⟨E2, zE2, yE2, l2⟩ := cat E1 ⟨#[44]⟩ 401 (by omega) (by decide)
  obtain ⟨E3, zE3, yE3, l3⟩ := cat E2 Fx 600 (by omega) (by decide)
  obtain ⟨E4, zE4, yE4, l4⟩ := cat E3 ⟨#[44]⟩ 601 (by omega) (by decide)
  obtain ⟨E5, zE5, yE5, l5⟩ := cat E4 Fy 702 (by omega) (by decide)
  have P1 := hide (fun w => po_.Parse C4 w (by omega))
  have P2 := hide (fun w => po_.Parse E5 w (by omega))
  have e4 : byt B4 = 60 :: (byt std ++ 62 :: (hmsFmt a ++ [60, 68, 83, 84, 62])) := by
    rw [yB4, yB3, yB2, yB1, yFa]; simp [byt]
  have e3 : byt C4 = 60 :: (byt std ++ 62 :: (hmsFmt a ++ ([60, 68, 83, 84, 62] ++ 44 :: (dayCore (K1, D1, M1, W1, V1, 7200) ++ 44 :: dayF (K2, D2, M2, W2, V2, T2))))) := by
    rw [yC4, yC3, yC2, yC1, e4, yS3, yFy]; simp [byt]
  have e6 : byt E5 = 60 :: (byt std ++ 62 :: (hmsFmt a ++ ([60, 68, 83, 84, 62] ++ (hmsFmt b ++ 44 :: (dayF (K1, D1, M1, W1, V1, 7200) ++ 44 :: dayF (K2, D2, M2, W2, V2, T2)))))) := by
    rw [yE5, yE4, yE3, yE2, yE1, e4, yFb, yFx, yFy]; simp [byt]
  have hT : ∀ t, tnParse ([60, 68, 83, 84, 62] ++ t) = some ([68, 83, 84], ([60, 68, 83, 84, 62] : List UInt8).length) := fun t => tnParse_q [68, 83, 84] t (by decide)
  have hS : ∀ t, hstop ([60, 68, 83, 84, 62] ++ t) := fun t => .inr ⟨60, _, rfl, by decide, by decide⟩
  have hY : ptDay (dayF (K2, D2, M2, W2, V2, T2)) = some ((K2, D2, M2, W2, V2, T2), (dayF (K2, D2, M2, W2, V2, T2)).length) := by have := ptDay_full (tail := []) q2 hstop_nil; rwa [List.append_nil] at this
  rw [e3, ptParse_dflt n1 ha (fun t _ => hT t) hS (by decide) ⟨by omega, by omega⟩ (ptDay_core q1 (.inr ⟨44, _, rfl, by decide, by decide⟩) rfl) hY] at P1
  rw [e6, ptParse_dst n1 ha (fun t _ => hT t) hS (by decide) hbo (ptDay_full q1 (hstop44 _)) hY, show -b = -a + 3600 by omega] at P2
  simp only [ptRes, vrule_c] at P1 P2
  have G1 := gr_rule (mkS (byt std)) (-a) true (mkS [68, 83, 84]) (-a + 3600) (K1, D1, M1, W1, V1, 7200) (K2, D2, M2, W2, V2, T2)
  have hc1 : (crule (mkS (byt std)) (-a) true (mkS [68, 83, 84]) (-a + 3600) (K1, D1, M1, W1, V1, 7200) (K2, D2, M2, W2, V2, T2))[1]? = some (.int .i64 (-a)) := rfl
  have hc4 : (crule (mkS (byt std)) (-a) true (mkS [68, 83, 84]) (-a + 3600) (K1, D1, M1, W1, V1, 7200) (K2, D2, M2, W2, V2, T2))[4]? = some (.int .i64 (-a + 3600)) := rfl
  have hc10 : (crule (mkS (byt std)) (-a) true (mkS [68, 83, 84]) (-a + 3600) (K1, D1, M1, W1, V1, 7200) (K2, D2, M2, W2, V2, T2))[10]? = some (.int .i64 7200) := rfl
  have t1 : ∀ w : World, (binOp .eql 29 (.agg (crule (mkS (byt std)) (-a) true (mkS [68, 83, 84]) (-a + 3600) (K1, D1, M1, W1, V1, 7200) (K2, D2, M2, W2, V2, T2))) (.agg (crule (mkS (byt std)) (-a) true (mkS [68, 83, 84]) (-a + 3600) (K1, D1, M1, W1, V1, 7200) (K2, D2, M2, W2, V2, T2)))).run Tryz.prog w = .ok (.bool true) w := fun _ => by simp [go_sem, crule]
  generalize crule (mkS (byt std)) (-a) true (mkS [68, 83, 84]) (-a + 3600) (K1, D1, M1, W1, V1, 7200) (K2, D2, M2, W2, V2, T2) = c at *
  have hst : ∀ (W : World) (g : Nat), W.heap[g]? = some (.cells #[.string ⟨#[]⟩, .int .i64 0, .bool false, .string ⟨#[]⟩, .int .i64 0, .int .i64 0, .int .i64 0, .int .i64 0, .int .i64 0, .int .i64 0, .int .i64 0, .int .i64 0, .int .i64 0, .int .i64 0, .int .i64 0, .int .i64 0, .int .i64 0] 29 (0, 0)) → (storeCells ⟨g, 0, none⟩ c.toList 0).run Tryz.prog W = .ok () (W.setRow g c) := fun W g h => st_row G1 (by rw [G1.2.1]; rfl) h
  have hsz := G1.2.1
  clear hFa hFb hFx hFy yFa yFb yFx yFy yB1 yB2 yB3 yB4 yC1 yC2 yC3 yC4 yE1 yE2 yE3 yE4 yE5 e3 e4 e6 r1 r2 q1 q2 n1 ha hbo hs z60 z62 z44 zds hT hS hY yS3 hbb
  replace G1 := hide G1
  replace hc1 := hide hc1
  replace hc4 := hide hc4
  replace hc10 := hide hc10
  go_enter Tryz.func4, Tryz.ntmps4
  go_wp2_with fail
  refine (awake _).mono ?_
  rintro e w1 ⟨rfl, h1⟩
  replace b1 := hide (b1.out.below h1)
  replace b2 := hide (b2.out.below h1)
  replace hb := hide (bel_next hb.out h1)
  clear h1
  go_wp2_with fail
  refine (N1.out _).mono ?_
  rintro e w2 ⟨rfl, rfl⟩
  obtain ⟨x0, x1, x2, x3, x4, x5⟩ := cells6' b1.out
  obtain ⟨y0, y1, y2, y3, y4, y5⟩ := cells6' b2.out
  go_wp2_with fail
  refine (R1.out _).mono ?_
  rintro e w1 ⟨rfl, h1⟩
  replace b1 := hide (b1.out.below h1)
  replace b2 := hide (b2.out.below h1)
  replace hb := hide (bel_next hb.out h1)
  clear h1
  clear x0 x1 x2 x3 x4 x5 y0 y1 y2 y3 y4 y5
  obtain ⟨x0, x1, x2, x3, x4, x5⟩ := cells6' b1.out
  obtain ⟨y0, y1, y2, y3, y4, y5⟩ := cells6' b2.out
  go_wp2_with fail
  refine (R2.out _).mono ?_
  rintro e w1 ⟨rfl, h1⟩
  replace b1 := hide (b1.out.below h1)
  replace b2 := hide (b2.out.below h1)
  replace hb := hide (bel_next hb.out h1)
  clear h1
  clear x0 x1 x2 x3 x4 x5 y0 y1 y2 y3 y4 y5
  obtain ⟨x0, x1, x2, x3, x4, x5⟩ := cells6' b1.out
  have fr := b1.out.fr
  have lt := b1.out.lt
  go_upto_region 4 with fail
  clear x0 x1 x2 x3 x4 x5 fr lt
  replace b1 : Hid (Bx (w1.setCell ⟨w.heap.size, 5, none⟩ (.int .i64 7200)) w.heap.size [.int .i64 K1, .int .i64 D1, .int .i64 M1, .int .i64 W1, .int .i64 V1, .int .i64 7200]) := hide (by simpa using b1.out.set 5 (.int .i64 7200) (by simp))
  replace b2 := hide (b2.out.set_ne 5 (show w.heap.size ≠ w.heap.size + 1 by omega) (.int .i64 7200))
  replace hb := hide (bl_set (o := 5) hb.out (Nat.le_refl _) (.int .i64 7200))
  generalize w1.setCell ⟨w.heap.size, 5, none⟩ (.int .i64 7200) = u2 at *
  obtain ⟨x0, x1, x2, x3, x4, x5⟩ := cells6' b1.out
  obtain ⟨y0, y1, y2, y3, y4, y5⟩ := cells6' b2.out
  go_wp2_with fail
  refine (Gx.out _).mono ?_
  rintro e w1 ⟨rfl, h1⟩
  replace b1 := hide (b1.out.below h1)
  replace b2 := hide (b2.out.below h1)
  replace hb := hide (bel_next hb.out h1)
  clear h1
  clear x0 x1 x2 x3 x4 x5 y0 y1 y2 y3 y4 y5
  go_wp2_with fail
  refine (Ga.out _).mono ?_
  rintro e w1 ⟨rfl, h1⟩
  replace b1 := hide (b1.out.below h1)
  replace b2 := hide (b2.out.below h1)
  replace hb := hide (bel_next hb.out h1)
  clear h1
  obtain ⟨x0, x1, x2, x3, x4, x5⟩ := cells6' b1.out
  obtain ⟨y0, y1, y2, y3, y4, y5⟩ := cells6' b2.out
  go_wp2_with fail
  refine (Gy.out _).mono ?_
  rintro e w1 ⟨rfl, h1⟩
  replace b1 := hide (b1.out.below h1)
  replace b2 := hide (b2.out.below h1)
  replace hb := hide (bel_next hb.out h1)
  clear h1
  clear x0 x1 x2 x3 x4 x5 y0 y1 y2 y3 y4 y5
  go_wp2_with fail
  refine (P1.out _).mono ?_
  rintro e w1 ⟨rfl, h1⟩
  replace b1 := hide (b1.out.below h1)
  replace b2 := hide (b2.out.below h1)
  replace hb := hide (bel_next hb.out h1)
  clear h1
  have b3 := hide (Ro.new w1 c 29)
  replace b1 := hide (b1.out.alloc (.cells c 29))
  replace b2 := hide (b2.out.alloc (.cells c 29))
  replace hb := hide (bl_alloc hb.out (.cells c 29))
  have H1 := G1.out
  go_upto_region 8 with (first | (refine wpList_store_row rfl 29 _ _ rfl _ _ rfl rfl _ _ (heap_alloc_last _ _) H1.1 (by rw [H1.2.1]; rfl) H1.2.2 ?_; rw [World.setRow_alloc_new]))
  obtain ⟨g12, hg12⟩ : ∃ g, g = w1.heap.size := ⟨_, rfl⟩
  rw [← hg12] at b3 ⊢
  clear hg12 H1
  generalize w1.alloc (.cells c 29) = u3 at *
  clear Ga Gx P1 N1 R1 R2 j1 j2 j3 j4 k1 k2 k3 k4
  have hst1 : ∀ W : World, (storeCells ⟨W.heap.size, 0, none⟩ c.toList 0).run Tryz.prog (W.alloc (.cells #[.string ⟨#[]⟩, .int .i64 0, .bool false, .string ⟨#[]⟩, .int .i64 0, .int .i64 0, .int .i64 0, .int .i64 0, .int .i64 0, .int .i64 0, .int .i64 0, .int .i64 0, .int .i64 0, .int .i64 0, .int .i64 0, .int .i64 0, .int .i64 0] 29)) = .ok () (W.alloc (.cells c 29)) := fun W => by rw [hst _ _ (heap_alloc_last W _), World.setRow_alloc_new]
  have hst2 : ∀ W : World, (storeCells ⟨W.heap.size, 0, none⟩ c.toList 0).run Tryz.prog (W.alloc (.cells #[.string ⟨#[]⟩, .int .i64 0, .bool false, .string ⟨#[]⟩, .int .i64 0, .int .i64 0, .int .i64 0, .int .i64 0, .int .i64 0, .int .i64 0, .int .i64 0, .int .i64 0, .int .i64 0, .int .i64 0, .int .i64 0, .int .i64 0, .int .i64 0] 29)).drew = .ok () ((W.alloc (.cells #[.string ⟨#[]⟩, .int .i64 0, .bool false, .string ⟨#[]⟩, .int .i64 0, .int .i64 0, .int .i64 0, .int .i64 0, .int .i64 0, .int .i64 0, .int .i64 0, .int .i64 0, .int .i64 0, .int .i64 0, .int .i64 0, .int .i64 0, .int .i64 0] 29)).drew.setRow W.heap.size c) := fun W => hst _ _ (heap_alloc_last W _)
  have hs0 := b2.out.lt
  have hs1 := b3.out.lt
  go_region_held3 (fun w' => w'.cell? ⟨w.heap.size + 1, 0, none⟩ = some (.int .i64 K2) ∧ w'.cell? ⟨w.heap.size + 1, 1, none⟩ = some (.int .i64 D2) ∧ w'.cell? ⟨w.heap.size + 1, 2, none⟩ = some (.int .i64 M2) ∧ w'.cell? ⟨w.heap.size + 1, 3, none⟩ = some (.int .i64 W2) ∧ w'.cell? ⟨w.heap.size + 1, 4, none⟩ = some (.int .i64 V2) ∧ w'.cell? ⟨w.heap.size + 1, 5, none⟩ = some (.int .i64 T2) ∧ Hid (Bx w' (w.heap.size + 1) [.int .i64 K2, .int .i64 D2, .int .i64 M2, .int .i64 W2, .int .i64 V2, .int .i64 T2]) ∧ Hid (Ro w' g12 c 29) ∧ Hid (Below w.heap.size w w'))
    (first
      | exact ⟨(cells6' b2.out).1, (cells6' b2.out).2.1, (cells6' b2.out).2.2.1, (cells6' b2.out).2.2.2.1, (cells6' b2.out).2.2.2.2.1, (cells6' b2.out).2.2.2.2.2, b2, b3, by first | exact hb | exact hide (bl_drew hb.out)⟩
      | (go_split_ands; refine ⟨?_, ?_, ?_, ?_, ?_, ?_, ?_, ?_, ?_⟩ <;> first | exact cellE h1' (by assumption) | exact hide (Bx.below (Hid.out (by assumption)) h1') | exact hide (Ro.below (Hid.out (by assumption)) h1') | exact hide (bel_next (Hid.out (by assumption)) h1'))
      | (go_split_ands; refine ⟨?_, ?_, ?_, ?_, ?_, ?_, ?_, ?_, ?_⟩ <;> first | exact cellA (by assumption) | exact hide (Bx.alloc (Hid.out (by assumption)) _) | exact hide (Ro.alloc (Hid.out (by assumption)) _) | exact hide (bl_alloc (Hid.out (by assumption)) _))
      | (go_split_ands; refine ⟨?_, ?_, ?_, ?_, ?_, ?_, ?_, ?_, ?_⟩ <;> first | exact cellA (cellE h1' (by assumption)) | exact hide (Bx.alloc (Bx.below (Hid.out (by assumption)) h1') _) | exact hide (Ro.alloc (Ro.below (Hid.out (by assumption)) h1') _) | exact hide (bl_alloc (bel_next (Hid.out (by assumption)) h1') _))
      | (go_split_ands; refine ⟨?_, ?_, ?_, ?_, ?_, ?_, ?_, ?_, ?_⟩ <;> first | exact cell_row_ne (by assumption) (by omega) | exact hide (Bx.setRow_ne (Hid.out (by assumption)) (by omega) _) | exact hide (Ro.setRow_ne (Hid.out (by assumption)) (by omega) _) | exact hide (bl_setRow (Hid.out (by assumption)) (by omega) _)))
    (first
      | (go_at_call 9; go_split_ands; with_reducible refine (Gc.out _).mono ?_; rintro e w6 ⟨rfl, h1'⟩; (first | have hz := hz1 h1' | have hz := hz2 h1' | have hz := hz3 h1' (by assumption) | skip); (with_reducible first | have hs := sz1 h1' | have hs := sz2 h1' | have hs := sz3 h1' | have hs := sz4 h1'))
      | (go_at_call 12; go_split_ands; with_reducible refine (Gy.out _).mono ?_; rintro e w6 ⟨rfl, h1'⟩; (first | have hz := hz1 h1' | have hz := hz2 h1' | have hz := hz3 h1' (by assumption) | skip); (with_reducible first | have hs := sz1 h1' | have hs := sz2 h1' | have hs := sz3 h1' | have hs := sz4 h1'))
      | (go_at_call 10; go_split_ands; with_reducible refine (P2.out _).mono ?_; rintro e w6 ⟨rfl, h1'⟩; (first | have hz := hz1 h1' | have hz := hz2 h1' | have hz := hz3 h1' (by assumption) | skip); (with_reducible first | have hs := sz1 h1' | have hs := sz2 h1' | have hs := sz3 h1' | have hs := sz4 h1')))
  all_goals (try go_split_ands)
  all_goals (first | have b4 := hide (Ro.setRow (show Ro _ _ #[.string ⟨#[]⟩, .int .i64 0, .bool false, .string ⟨#[]⟩, .int .i64 0, .int .i64 0, .int .i64 0, .int .i64 0, .int .i64 0, .int .i64 0, .int .i64 0, .int .i64 0, .int .i64 0, .int .i64 0, .int .i64 0, .int .i64 0, .int .i64 0] 29 from hz) c) | have b4 := hide (Ro.new w6 c 29))
  all_goals rename Hid (Ro _ g12 c _) => b5
  all_goals rename Hid (Below _ _ _) => hb'
  all_goals have x1 := b5.out.cell 1
  all_goals have x4 := b5.out.cell 4
  all_goals have x10 := b5.out.cell 10
  all_goals rw [hc1.out] at x1
  all_goals rw [hc4.out] at x4
  all_goals rw [hc10.out] at x10
  all_goals have H1 := G1.out
  all_goals clear hst1 hst2 hst l1 l2 l3 l4 l5 P2 Gc Gy
  all_goals go_wp2_with (first | (refine load_row_g (by rfl) 29 _ rfl _ rfl _ _ _ b5.out Tryz.underlying29 rfl H1.1 ?_) | (refine load_row_g (by rfl) 29 _ rfl _ rfl _ _ _ b4.out Tryz.underlying29 rfl H1.1 ?_))
  all_goals go_ret
  all_goals exact ⟨rfl, hb'.out⟩
set_option maxRecDepth 100000 in
set_option maxHeartbeats 8000000 in
theorem defaults (std : ByteArray) (a K1 D1 M1 W1 V1 T1 K2 D2 M2 W2 V2 T2 : Int) (w : World) (hs : std.size ≤ maxLen) (wa : (Lit.int .i64 a).wf = true) (w10 : (Lit.int .i64 K1).wf = true) (w11 : (Lit.int .i64 D1).wf = true) (w12 : (Lit.int .i64 M1).wf = true) (w13 : (Lit.int .i64 W1).wf = true) (w14 : (Lit.int .i64 V1).wf = true) (w15 : (Lit.int .i64 T1).wf = true) (w20 : (Lit.int .i64 K2).wf = true) (w21 : (Lit.int .i64 D2).wf = true) (w22 : (Lit.int .i64 M2).wf = true) (w23 : (Lit.int .i64 W2).wf = true) (w24 : (Lit.int .i64 V2).wf = true) (w25 : (Lit.int .i64 T2).wf = true) :
    Calls Tryz.prog 4 #[.string std, .int .i64 a, .agg #[.int .i64 K1, .int .i64 D1, .int .i64 M1, .int .i64 W1, .int .i64 V1, .int .i64 T1], .agg #[.int .i64 K2, .int .i64 D2, .int .i64 M2, .int .i64 W2, .int .i64 V2, .int .i64 T2]] w fun e w' => e = .returned (.bool true) ∧ Below w.heap.size w w' := by
  obtain ⟨a0, a1⟩ := wf_i64 wa
  clear wa w10 w20 w11 w21 w12 w22 w13 w23 w14 w24 w15 w25
  by_cases hgood : nameOk (byt std) = true ∧ -86399 ≤ a ∧ a ≤ 89999 ∧ RdOk K1 D1 M1 W1 V1 T1 ∧ RdOk K2 D2 M2 W2 V2 T2
  · exact defaults_yes std a K1 D1 M1 W1 V1 T1 K2 D2 M2 W2 V2 T2 w hs hgood.1 hgood.2.1 hgood.2.2.1 hgood.2.2.2.1 hgood.2.2.2.2
  have hb := hide (bl_alloc (bl_new w (.cells #[.int .i64 K1, .int .i64 D1, .int .i64 M1, .int .i64 W1, .int .i64 V1, .int .i64 T1] 23)) (.cells #[.int .i64 K2, .int .i64 D2, .int .i64 M2, .int .i64 W2, .int .i64 V2, .int .i64 T2] 23))
  have b1 := hide ((Bx.new w [.int .i64 K1, .int .i64 D1, .int .i64 M1, .int .i64 W1, .int .i64 V1, .int .i64 T1] 23).alloc (.cells #[.int .i64 K2, .int .i64 D2, .int .i64 M2, .int .i64 W2, .int .i64 V2, .int .i64 T2] 23))
  have b2 : Hid (Bx ((w.alloc (.cells #[.int .i64 K1, .int .i64 D1, .int .i64 M1, .int .i64 W1, .int .i64 V1, .int .i64 T1] 23)).alloc (.cells #[.int .i64 K2, .int .i64 D2, .int .i64 M2, .int .i64 W2, .int .i64 V2, .int .i64 T2] 23)) (w.heap.size + 1) [.int .i64 K2, .int .i64 D2, .int .i64 M2, .int .i64 W2, .int .i64 V2, .int .i64 T2]) := hide (by
    have := Bx.new (w.alloc (.cells #[.int .i64 K1, .int .i64 D1, .int .i64 M1, .int .i64 W1, .int .i64 V1, .int .i64 T1] 23)) [.int .i64 K2, .int .i64 D2, .int .i64 M2, .int .i64 W2, .int .i64 V2, .int .i64 T2] 23
    simpa using this)
  by_cases n1 : nameOk (byt std) = true
  · have N1 : Hid (∀ w, Calls Tryz.prog 7 #[.string std] w fun e w' => e = .returned (.bool true) ∧ w = w') := hide (fun w => by
      have := r7_.Valid std w hs
      rwa [n1] at this)
    by_cases h1 : -86399 ≤ a
    · by_cases h2 : a ≤ 89999
      · by_cases r1 : RdOk K1 D1 M1 W1 V1 T1
        · have r2 : ¬ RdOk K2 D2 M2 W2 V2 T2 := fun r2 => hgood ⟨n1, h1, h2, r1, r2⟩
          clear hgood
          have R1 : Hid (∀ w, Calls Tryz.prog 8 #[.agg #[.int .i64 K1, .int .i64 D1, .int .i64 M1, .int .i64 W1, .int .i64 V1, .int .i64 T1]] w fun e w' => e = .returned (.bool true) ∧ Below w.heap.size w w') := hide (fun w => by
            have := r6_.Valid K1 D1 M1 W1 V1 T1 w
            rwa [decide_eq_true r1] at this)
          have R2 : Hid (∀ w, Calls Tryz.prog 8 #[.agg #[.int .i64 K2, .int .i64 D2, .int .i64 M2, .int .i64 W2, .int .i64 V2, .int .i64 T2]] w fun e w' => e = .returned (.bool false) ∧ Below w.heap.size w w') := hide (fun w => by
            have := r6_.Valid K2 D2 M2 W2 V2 T2 w
            rwa [decide_eq_false r2] at this)
          go_enter Tryz.func4, Tryz.ntmps4
          go_wp2_with fail
          refine (awake _).mono ?_
          rintro e w1 ⟨rfl, h1⟩
          replace b1 := hide (b1.out.below h1)
          replace b2 := hide (b2.out.below h1)
          replace hb := hide (bel_next hb.out h1)
          clear h1
          go_wp2_with fail
          refine (N1.out _).mono ?_
          rintro e w2 ⟨rfl, rfl⟩
          obtain ⟨x0, x1, x2, x3, x4, x5⟩ := cells6' b1.out
          obtain ⟨y0, y1, y2, y3, y4, y5⟩ := cells6' b2.out
          go_wp2_with fail
          refine (R1.out _).mono ?_
          rintro e w1 ⟨rfl, h1⟩
          replace b1 := hide (b1.out.below h1)
          replace b2 := hide (b2.out.below h1)
          replace hb := hide (bel_next hb.out h1)
          clear h1
          clear x0 x1 x2 x3 x4 x5 y0 y1 y2 y3 y4 y5
          obtain ⟨x0, x1, x2, x3, x4, x5⟩ := cells6' b1.out
          obtain ⟨y0, y1, y2, y3, y4, y5⟩ := cells6' b2.out
          go_wp2_with fail
          refine (R2.out _).mono ?_
          rintro e w1 ⟨rfl, h1⟩
          replace b1 := hide (b1.out.below h1)
          replace b2 := hide (b2.out.below h1)
          replace hb := hide (bel_next hb.out h1)
          clear h1
          clear x0 x1 x2 x3 x4 x5 y0 y1 y2 y3 y4 y5
          go_wp2_with fail
          refine (awake _).mono ?_
          rintro e w1 ⟨rfl, h1⟩
          replace hb := hide (bel_next hb.out h1)
          clear h1
          go_wp2
          go_ret
          exact ⟨rfl, hb.out⟩
        · clear hgood
          have R1 : Hid (∀ w, Calls Tryz.prog 8 #[.agg #[.int .i64 K1, .int .i64 D1, .int .i64 M1, .int .i64 W1, .int .i64 V1, .int .i64 T1]] w fun e w' => e = .returned (.bool false) ∧ Below w.heap.size w w') := hide (fun w => by
            have := r6_.Valid K1 D1 M1 W1 V1 T1 w
            rwa [decide_eq_false r1] at this)
          go_enter Tryz.func4, Tryz.ntmps4
          go_wp2_with fail
          refine (awake _).mono ?_
          rintro e w1 ⟨rfl, h1⟩
          replace b1 := hide (b1.out.below h1)
          replace b2 := hide (b2.out.below h1)
          replace hb := hide (bel_next hb.out h1)
          clear h1
          go_wp2_with fail
          refine (N1.out _).mono ?_
          rintro e w2 ⟨rfl, rfl⟩
          obtain ⟨x0, x1, x2, x3, x4, x5⟩ := cells6' b1.out
          obtain ⟨y0, y1, y2, y3, y4, y5⟩ := cells6' b2.out
          go_wp2_with fail
          refine (R1.out _).mono ?_
          rintro e w1 ⟨rfl, h1⟩
          replace b1 := hide (b1.out.below h1)
          replace b2 := hide (b2.out.below h1)
          replace hb := hide (bel_next hb.out h1)
          clear h1
          clear x0 x1 x2 x3 x4 x5 y0 y1 y2 y3 y4 y5
          go_wp2_with fail
          refine (awake _).mono ?_
          rintro e w1 ⟨rfl, h1⟩
          replace hb := hide (bel_next hb.out h1)
          clear h1
          go_wp2
          go_ret
          exact ⟨rfl, hb.out⟩
      · clear hgood
        go_enter Tryz.func4, Tryz.ntmps4
        go_wp2_with fail
        refine (awake _).mono ?_
        rintro e w1 ⟨rfl, h1⟩
        replace b1 := hide (b1.out.below h1)
        replace b2 := hide (b2.out.below h1)
        replace hb := hide (bel_next hb.out h1)
        clear h1
        go_wp2_with fail
        refine (N1.out _).mono ?_
        rintro e w2 ⟨rfl, rfl⟩
        go_wp2_with fail
        refine (awake _).mono ?_
        rintro e w1 ⟨rfl, h1⟩
        replace hb := hide (bel_next hb.out h1)
        clear h1
        go_wp2
        go_ret
        exact ⟨rfl, hb.out⟩
    · clear hgood
      go_enter Tryz.func4, Tryz.ntmps4
      go_wp2_with fail
      refine (awake _).mono ?_
      rintro e w1 ⟨rfl, h1⟩
      replace b1 := hide (b1.out.below h1)
      replace b2 := hide (b2.out.below h1)
      replace hb := hide (bel_next hb.out h1)
      clear h1
      go_wp2_with fail
      refine (N1.out _).mono ?_
      rintro e w2 ⟨rfl, rfl⟩
      go_wp2_with fail
      refine (awake _).mono ?_
      rintro e w1 ⟨rfl, h1⟩
      replace hb := hide (bel_next hb.out h1)
      clear h1
      go_wp2
      go_ret
      exact ⟨rfl, hb.out⟩
  · clear hgood
    have N1 : Hid (∀ w, Calls Tryz.prog 7 #[.string std] w fun e w' => e = .returned (.bool false) ∧ w = w') := hide (fun w => by
      have := r7_.Valid std w hs
      rwa [(Bool.not_eq_true _).mp n1] at this)
    go_enter Tryz.func4, Tryz.ntmps4
    go_wp2_with fail
    refine (awake _).mono ?_
    rintro e w1 ⟨rfl, h1⟩
    replace b1 := hide (b1.out.below h1)
    replace b2 := hide (b2.out.below h1)
    replace hb := hide (bel_next hb.out h1)
    clear h1
    go_wp2_with fail
    refine (N1.out _).mono ?_
    rintro e w2 ⟨rfl, rfl⟩
    go_wp2_with fail
    refine (awake _).mono ?_
    rintro e w1 ⟨rfl, h1⟩
    replace hb := hide (bel_next hb.out h1)
    clear h1
    go_wp2
    go_ret
    exact ⟨rfl, hb.out⟩
end l9_
end Go.Proofs.YtjjmkbofddbnnaaGreatDoor

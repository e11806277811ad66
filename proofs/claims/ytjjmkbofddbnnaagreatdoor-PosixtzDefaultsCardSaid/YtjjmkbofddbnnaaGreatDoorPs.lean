/-
  CONTRACTS OF posixtz's PARSER: a date, way by way, of the code that landed at 120e3cd. Condition: a text of at most 1,000,000 bytes.
-/
import Derived.Test.YtjjmkbofddbnnaaGreatDoorPq
import Derived.Test.YtjjmkbofddbnnaaGreatDoorRow2
namespace Go.Proofs.YtjjmkbofddbnnaaGreatDoor
open Go.ChangeShapes Go.WideShapes Go.ChangeAt Go.RowKit
set_option linter.unusedVariables false
set_option maxRecDepth 100000
theorem Pz.cast {w : World} {b : Nat} {s : ByteArray} {k j : Int} (h : Pz w b s k) (e : k = j) : Pz w b s j := e ▸ h
theorem Pz.set_ne {w : World} {b g : Nat} {s : ByteArray} {k : Int} (h : Pz w b s k) (o : Nat) (hne : g ≠ b) (v : Value) : Pz (w.setCell ⟨g, o, none⟩ v) b s k := Bx.set_ne h o hne v
theorem Bx.row {w : World} {b g : Nat} {vs : List Value} (h : Bx w b vs) (hne : b ≠ g) (cs : Array Value) : Bx (w.setRow g cs) b vs := by
  have e : (w.setRow g cs).heap[b]? = w.heap[b]? := setRow_other w g b cs hne
  refine ⟨by have := h.1; rw [size_setRow]; exact this, fun j v hj => by rw [World.cell?_of_block (w := w) (a := ⟨b, j, none⟩) e]; exact h.2.1 j v hj, fun j => by rw [World.frozen?_of_block (w := w) (a := ⟨b, j, none⟩) e]; exact h.2.2 j⟩
theorem Pz.row {w : World} {b g : Nat} {s : ByteArray} {k : Int} (h : Pz w b s k) (hne : b ≠ g) (cs : Array Value) : Pz (w.setRow g cs) b s k := Bx.row h hne cs
theorem But.row {b g : Nat} {w w1 : World} (h : But b w w1) (hg : w.heap.size ≤ g) (cs : Array Value) : But b w (w1.setRow g cs) :=
  ⟨h.os, h.tape, h.output, by rw [size_setRow]; exact h.size, fun k hk hn => by rw [setRow_other w1 g k cs (by omega)]; exact h.block k hk hn⟩
/-- one result, a struct in a box. -/
theorem results_c {P : Program} {fn : Func} {a t : Nat} (hr : fn.results = #[.cell a t]) {tmps : Array Value} {p : Addr} {w : World} {v : Value} (hp : tmps.getD a undef = .pointer (some p))
    (h : (loadVar t p).run P w = .ok v w) : (results fn tmps).run P w = .ok v w := by
  simp only [Array.getD_eq_getD_getElem?] at hp
  simp [results, hr, hp, asAddr, h]
namespace po_
set_option maxHeartbeats 2000000 in
theorem date_J (s : ByteArray) (k b : Nat) (w : World) (hs : s.size ≤ 1000000) (hk : k ≤ s.size) (hp : Pz w b s k) (t : List UInt8) (v : Int) (n : Nat) (hc : rst s k = 74 :: t) (h : ptNum (rst s (k + 1)) = some (v, n)) (hn : k + 1 + n ≤ s.size) :
    Calls Tryz.prog 33 #[.pointer (some ⟨b, 0, none⟩)] w fun e w' => e = .returned (.agg #[.int .i64 1, .int .i64 v, .int .i64 0, .int .i64 0, .int .i64 0, .int .i64 7200]) ∧ Pz w' b s ((k + 1 + n : Nat) : Int) ∧ But b w w' := by
  have hz : k < s.size := by
    have := congrArg List.length hc
    rw [List.length_drop, len_byt, List.length_cons] at this
    omega
  have C0 := hide (fun w hp => skip_yes s k b 74 t w hs hk hp hc)
  have C1 := hide (fun w hp => number_yes s (k + 1) b v n w hs (by omega) hp h)
  have hbl : b < w.heap.size := hp.1
  have hR := hide (show Ro ((w.alloc (.cells #[.int .i64 0, .int .i64 0, .int .i64 0, .int .i64 0, .int .i64 0, .int .i64 0] 23)).alloc (.cells #[.int .i64 0, .int .i64 0, .int .i64 0, .int .i64 0, .int .i64 0, .int .i64 7200] 23)) w.heap.size #[.int .i64 0, .int .i64 0, .int .i64 0, .int .i64 0, .int .i64 0, .int .i64 0] 23 from (Ro.new w #[.int .i64 0, .int .i64 0, .int .i64 0, .int .i64 0, .int .i64 0, .int .i64 0] 23).alloc _)
  have hD := hide (show Ro ((w.alloc (.cells #[.int .i64 0, .int .i64 0, .int .i64 0, .int .i64 0, .int .i64 0, .int .i64 0] 23)).alloc (.cells #[.int .i64 0, .int .i64 0, .int .i64 0, .int .i64 0, .int .i64 0, .int .i64 7200] 23)) (w.heap.size + 1) #[.int .i64 0, .int .i64 0, .int .i64 0, .int .i64 0, .int .i64 0, .int .i64 7200] 23 by have := Ro.new (w.alloc (.cells #[.int .i64 0, .int .i64 0, .int .i64 0, .int .i64 0, .int .i64 0, .int .i64 0] 23)) #[.int .i64 0, .int .i64 0, .int .i64 0, .int .i64 0, .int .i64 0, .int .i64 7200] 23; simpa using this)
  have hB := hide (show But b w ((w.alloc (.cells #[.int .i64 0, .int .i64 0, .int .i64 0, .int .i64 0, .int .i64 0, .int .i64 0] 23)).alloc (.cells #[.int .i64 0, .int .i64 0, .int .i64 0, .int .i64 0, .int .i64 0, .int .i64 7200] 23)) from ((But.refl b w).alloc _).alloc _)
  have P := hide (show Pz ((w.alloc (.cells #[.int .i64 0, .int .i64 0, .int .i64 0, .int .i64 0, .int .i64 0, .int .i64 0] 23)).alloc (.cells #[.int .i64 0, .int .i64 0, .int .i64 0, .int .i64 0, .int .i64 0, .int .i64 7200] 23)) b s k from (hp.below (bl_new _ _)).below (bl_new _ _))
  clear hp
  clear hc h
  go_enter Tryz.func33, Tryz.ntmps33
  go_wp2_with (refine wpList_store_row rfl 23 _ _ rfl _ _ rfl rfl _ _ (heap_alloc_last _ _) (by kernel_rfl) rfl (by simp [Value.oneCell']) ?_; rw [World.setRow_alloc_new])
  generalize (w.alloc (.cells #[.int .i64 0, .int .i64 0, .int .i64 0, .int .i64 0, .int .i64 0, .int .i64 0] 23)).alloc (.cells #[.int .i64 0, .int .i64 0, .int .i64 0, .int .i64 0, .int .i64 0, .int .i64 7200] 23) = v0 at *
  go_wp2_with fail
  refine (C0.out _ P.out).mono ?_
  rintro e v1 ⟨rfl, p1, h1⟩
  replace hR := hide (hR.out.but h1 (by omega))
  replace hD := hide (hD.out.but h1 (by omega))
  replace hB := hide (hB.out.trans h1)
  clear h1
  replace P := hide (p1.cast (show _ = ((k + 1 : Nat) : Int) by omega))
  clear p1
  go_wp2_with fail
  refine (C1.out _ P.out).mono ?_
  rintro e v2 ⟨rfl, p1, h1⟩
  replace hR := hide (hR.out.but h1 (by omega))
  replace hD := hide (hD.out.but h1 (by omega))
  replace hB := hide (hB.out.trans h1)
  clear h1
  replace P := hide (p1.cast (show _ = ((k + 1 + n : Nat) : Int) by omega))
  clear p1
  obtain ⟨p0, q0⟩ := ro_cf hD.out 0 _ rfl
  obtain ⟨p1, q1⟩ := ro_cf hD.out 1 _ rfl
  go_upto_region 11 with fail
  clear p0 q0 p1 q1
  replace hD := hide (show Ro (v2.setCell ⟨w.heap.size + 1, 0, none⟩ (.int .i64 1)) (w.heap.size + 1) #[.int .i64 1, .int .i64 0, .int .i64 0, .int .i64 0, .int .i64 0, .int .i64 7200] 23 from ro_set hD.out 0 (.int .i64 1))
  replace hR := hide (show Ro (v2.setCell ⟨w.heap.size + 1, 0, none⟩ (.int .i64 1)) (w.heap.size) _ _ from ro_set_ne hR.out (show w.heap.size + 1 ≠ w.heap.size by omega) 0 (.int .i64 1))
  replace P := hide (show Pz (v2.setCell ⟨w.heap.size + 1, 0, none⟩ (.int .i64 1)) b s _ from P.out.set_ne 0 (show w.heap.size + 1 ≠ b by omega) (.int .i64 1))
  replace hB := hide (show But b w (v2.setCell ⟨w.heap.size + 1, 0, none⟩ (.int .i64 1)) from hB.out.setNew (show w.heap.size ≤ w.heap.size + 1 by omega) (.int .i64 1))
  generalize v2.setCell ⟨w.heap.size + 1, 0, none⟩ (.int .i64 1) = v3 at *
  replace hD := hide (show Ro (v3.setCell ⟨w.heap.size + 1, 1, none⟩ (.int .i64 v)) (w.heap.size + 1) #[.int .i64 1, .int .i64 v, .int .i64 0, .int .i64 0, .int .i64 0, .int .i64 7200] 23 from ro_set hD.out 1 (.int .i64 v))
  replace hR := hide (show Ro (v3.setCell ⟨w.heap.size + 1, 1, none⟩ (.int .i64 v)) (w.heap.size) _ _ from ro_set_ne hR.out (show w.heap.size + 1 ≠ w.heap.size by omega) 1 (.int .i64 v))
  replace P := hide (show Pz (v3.setCell ⟨w.heap.size + 1, 1, none⟩ (.int .i64 v)) b s _ from P.out.set_ne 1 (show w.heap.size + 1 ≠ b by omega) (.int .i64 v))
  replace hB := hide (show But b w (v3.setCell ⟨w.heap.size + 1, 1, none⟩ (.int .i64 v)) from hB.out.setNew (show w.heap.size ≤ w.heap.size + 1 by omega) (.int .i64 v))
  generalize v3.setCell ⟨w.heap.size + 1, 1, none⟩ (.int .i64 v) = v4 at *
  have G : Gr Tryz.prog 23 6 #[.int .i64 1, .int .i64 v, .int .i64 0, .int .i64 0, .int .i64 0, .int .i64 7200] := ⟨by kernel_rfl, rfl, by simp [Value.oneCell']⟩
  go_wp2_with (first | (refine wpList_store_row rfl 23 _ _ rfl _ _ rfl rfl _ _ hR.out G.1 rfl G.2.2 ?_) | (refine load_row_g (by rfl) 23 _ rfl _ rfl _ _ _ hD.out Tryz.underlying23 rfl G.1 ?_))
  have hl := ((ro_row hR.out #[.int .i64 1, .int .i64 v, .int .i64 0, .int .i64 0, .int .i64 0, .int .i64 7200]).load 23 _ Tryz.underlying23 rfl G.1).2
  exact bodyPost_ret (results_c Tryz.results33 rfl hl) rfl ⟨rfl, P.out.row (by omega) _, hB.out.row (by omega) _⟩
set_option maxHeartbeats 2000000 in
theorem date_J1 (s : ByteArray) (k b : Nat) (w : World) (hs : s.size ≤ 1000000) (hk : k ≤ s.size) (hp : Pz w b s k) (t : List UInt8) (hc : rst s k = 74 :: t) (h : ptNum (rst s (k + 1)) = none) :
    Calls Tryz.prog 33 #[.pointer (some ⟨b, 0, none⟩)] w fun e w' => ∃ q : Int, e = fail q ∧ But b w w' := by
  have hz : k < s.size := by
    have := congrArg List.length hc
    rw [List.length_drop, len_byt, List.length_cons] at this
    omega
  have C0 := hide (fun w hp => skip_yes s k b 74 t w hs hk hp hc)
  have C1 := hide (fun w hp => number_no s (k + 1) b w hs (by omega) hp h)
  have hbl : b < w.heap.size := hp.1
  have hR := hide (show Ro ((w.alloc (.cells #[.int .i64 0, .int .i64 0, .int .i64 0, .int .i64 0, .int .i64 0, .int .i64 0] 23)).alloc (.cells #[.int .i64 0, .int .i64 0, .int .i64 0, .int .i64 0, .int .i64 0, .int .i64 7200] 23)) w.heap.size #[.int .i64 0, .int .i64 0, .int .i64 0, .int .i64 0, .int .i64 0, .int .i64 0] 23 from (Ro.new w #[.int .i64 0, .int .i64 0, .int .i64 0, .int .i64 0, .int .i64 0, .int .i64 0] 23).alloc _)
  have hD := hide (show Ro ((w.alloc (.cells #[.int .i64 0, .int .i64 0, .int .i64 0, .int .i64 0, .int .i64 0, .int .i64 0] 23)).alloc (.cells #[.int .i64 0, .int .i64 0, .int .i64 0, .int .i64 0, .int .i64 0, .int .i64 7200] 23)) (w.heap.size + 1) #[.int .i64 0, .int .i64 0, .int .i64 0, .int .i64 0, .int .i64 0, .int .i64 7200] 23 by have := Ro.new (w.alloc (.cells #[.int .i64 0, .int .i64 0, .int .i64 0, .int .i64 0, .int .i64 0, .int .i64 0] 23)) #[.int .i64 0, .int .i64 0, .int .i64 0, .int .i64 0, .int .i64 0, .int .i64 7200] 23; simpa using this)
  have hB := hide (show But b w ((w.alloc (.cells #[.int .i64 0, .int .i64 0, .int .i64 0, .int .i64 0, .int .i64 0, .int .i64 0] 23)).alloc (.cells #[.int .i64 0, .int .i64 0, .int .i64 0, .int .i64 0, .int .i64 0, .int .i64 7200] 23)) from ((But.refl b w).alloc _).alloc _)
  have P := hide (show Pz ((w.alloc (.cells #[.int .i64 0, .int .i64 0, .int .i64 0, .int .i64 0, .int .i64 0, .int .i64 0] 23)).alloc (.cells #[.int .i64 0, .int .i64 0, .int .i64 0, .int .i64 0, .int .i64 0, .int .i64 7200] 23)) b s k from (hp.below (bl_new _ _)).below (bl_new _ _))
  clear hp
  clear hc h
  go_enter Tryz.func33, Tryz.ntmps33
  go_wp2_with (refine wpList_store_row rfl 23 _ _ rfl _ _ rfl rfl _ _ (heap_alloc_last _ _) (by kernel_rfl) rfl (by simp [Value.oneCell']) ?_; rw [World.setRow_alloc_new])
  generalize (w.alloc (.cells #[.int .i64 0, .int .i64 0, .int .i64 0, .int .i64 0, .int .i64 0, .int .i64 0] 23)).alloc (.cells #[.int .i64 0, .int .i64 0, .int .i64 0, .int .i64 0, .int .i64 0, .int .i64 7200] 23) = v0 at *
  go_wp2_with fail
  refine (C0.out _ P.out).mono ?_
  rintro e v1 ⟨rfl, p1, h1⟩
  replace hR := hide (hR.out.but h1 (by omega))
  replace hD := hide (hD.out.but h1 (by omega))
  replace hB := hide (hB.out.trans h1)
  clear h1
  replace P := hide (p1.cast (show _ = ((k + 1 : Nat) : Int) by omega))
  clear p1
  go_wp2_with fail
  refine (C1.out _ P.out).mono ?_
  rintro e v ⟨rfl, h1⟩
  unfold fail
  go_wp2
  exact ⟨rfl, _, rfl, hB.out.next h1⟩
set_option maxHeartbeats 2000000 in
theorem date_Z (s : ByteArray) (k b : Nat) (w : World) (hs : s.size ≤ 1000000) (hk : k ≤ s.size) (hp : Pz w b s k) (v : Int) (n : Nat) (hc : (rst s k).head? ≠ some 74) (hd : (rst s k).head? ≠ some 77) (h : ptNum (rst s k) = some (v, n)) (hn : k + n ≤ s.size) :
    Calls Tryz.prog 33 #[.pointer (some ⟨b, 0, none⟩)] w fun e w' => e = .returned (.agg #[.int .i64 2, .int .i64 v, .int .i64 0, .int .i64 0, .int .i64 0, .int .i64 7200]) ∧ Pz w' b s ((k + n : Nat) : Int) ∧ But b w w' := by
  skip
  have C0 := hide (fun w hp => skip_no s k b 74 w hs hk hp hc)
  have C1 := hide (fun w hp => skip_no s k b 77 w hs hk hp hd)
  have C2 := hide (fun w hp => number_yes s k b v n w hs hk hp h)
  have hbl : b < w.heap.size := hp.1
  have hR := hide (show Ro ((w.alloc (.cells #[.int .i64 0, .int .i64 0, .int .i64 0, .int .i64 0, .int .i64 0, .int .i64 0] 23)).alloc (.cells #[.int .i64 0, .int .i64 0, .int .i64 0, .int .i64 0, .int .i64 0, .int .i64 7200] 23)) w.heap.size #[.int .i64 0, .int .i64 0, .int .i64 0, .int .i64 0, .int .i64 0, .int .i64 0] 23 from (Ro.new w #[.int .i64 0, .int .i64 0, .int .i64 0, .int .i64 0, .int .i64 0, .int .i64 0] 23).alloc _)
  have hD := hide (show Ro ((w.alloc (.cells #[.int .i64 0, .int .i64 0, .int .i64 0, .int .i64 0, .int .i64 0, .int .i64 0] 23)).alloc (.cells #[.int .i64 0, .int .i64 0, .int .i64 0, .int .i64 0, .int .i64 0, .int .i64 7200] 23)) (w.heap.size + 1) #[.int .i64 0, .int .i64 0, .int .i64 0, .int .i64 0, .int .i64 0, .int .i64 7200] 23 by have := Ro.new (w.alloc (.cells #[.int .i64 0, .int .i64 0, .int .i64 0, .int .i64 0, .int .i64 0, .int .i64 0] 23)) #[.int .i64 0, .int .i64 0, .int .i64 0, .int .i64 0, .int .i64 0, .int .i64 7200] 23; simpa using this)
  have hB := hide (show But b w ((w.alloc (.cells #[.int .i64 0, .int .i64 0, .int .i64 0, .int .i64 0, .int .i64 0, .int .i64 0] 23)).alloc (.cells #[.int .i64 0, .int .i64 0, .int .i64 0, .int .i64 0, .int .i64 0, .int .i64 7200] 23)) from ((But.refl b w).alloc _).alloc _)
  have P := hide (show Pz ((w.alloc (.cells #[.int .i64 0, .int .i64 0, .int .i64 0, .int .i64 0, .int .i64 0, .int .i64 0] 23)).alloc (.cells #[.int .i64 0, .int .i64 0, .int .i64 0, .int .i64 0, .int .i64 0, .int .i64 7200] 23)) b s k from (hp.below (bl_new _ _)).below (bl_new _ _))
  clear hp
  clear hc hd h
  go_enter Tryz.func33, Tryz.ntmps33
  go_wp2_with (refine wpList_store_row rfl 23 _ _ rfl _ _ rfl rfl _ _ (heap_alloc_last _ _) (by kernel_rfl) rfl (by simp [Value.oneCell']) ?_; rw [World.setRow_alloc_new])
  generalize (w.alloc (.cells #[.int .i64 0, .int .i64 0, .int .i64 0, .int .i64 0, .int .i64 0, .int .i64 0] 23)).alloc (.cells #[.int .i64 0, .int .i64 0, .int .i64 0, .int .i64 0, .int .i64 0, .int .i64 7200] 23) = v0 at *
  go_wp2_with fail
  refine (C0.out _ P.out).mono ?_
  rintro e v1 ⟨rfl, h1⟩
  replace P := hide (P.out.below h1)
  replace hR := hide (hR.out.below h1)
  replace hD := hide (hD.out.below h1)
  replace hB := hide (hB.out.next h1)
  clear h1
  go_wp2_with fail
  refine (C1.out _ P.out).mono ?_
  rintro e v2 ⟨rfl, h1⟩
  replace P := hide (P.out.below h1)
  replace hR := hide (hR.out.below h1)
  replace hD := hide (hD.out.below h1)
  replace hB := hide (hB.out.next h1)
  clear h1
  go_wp2_with fail
  refine (C2.out _ P.out).mono ?_
  rintro e v3 ⟨rfl, p1, h1⟩
  replace hR := hide (hR.out.but h1 (by omega))
  replace hD := hide (hD.out.but h1 (by omega))
  replace hB := hide (hB.out.trans h1)
  clear h1
  replace P := hide (p1.cast (show _ = ((k + n : Nat) : Int) by omega))
  clear p1
  obtain ⟨p0, q0⟩ := ro_cf hD.out 0 _ rfl
  obtain ⟨p1, q1⟩ := ro_cf hD.out 1 _ rfl
  go_upto_region 11 with fail
  clear p0 q0 p1 q1
  replace hD := hide (show Ro (v3.setCell ⟨w.heap.size + 1, 0, none⟩ (.int .i64 2)) (w.heap.size + 1) #[.int .i64 2, .int .i64 0, .int .i64 0, .int .i64 0, .int .i64 0, .int .i64 7200] 23 from ro_set hD.out 0 (.int .i64 2))
  replace hR := hide (show Ro (v3.setCell ⟨w.heap.size + 1, 0, none⟩ (.int .i64 2)) (w.heap.size) _ _ from ro_set_ne hR.out (show w.heap.size + 1 ≠ w.heap.size by omega) 0 (.int .i64 2))
  replace P := hide (show Pz (v3.setCell ⟨w.heap.size + 1, 0, none⟩ (.int .i64 2)) b s _ from P.out.set_ne 0 (show w.heap.size + 1 ≠ b by omega) (.int .i64 2))
  replace hB := hide (show But b w (v3.setCell ⟨w.heap.size + 1, 0, none⟩ (.int .i64 2)) from hB.out.setNew (show w.heap.size ≤ w.heap.size + 1 by omega) (.int .i64 2))
  generalize v3.setCell ⟨w.heap.size + 1, 0, none⟩ (.int .i64 2) = v4 at *
  replace hD := hide (show Ro (v4.setCell ⟨w.heap.size + 1, 1, none⟩ (.int .i64 v)) (w.heap.size + 1) #[.int .i64 2, .int .i64 v, .int .i64 0, .int .i64 0, .int .i64 0, .int .i64 7200] 23 from ro_set hD.out 1 (.int .i64 v))
  replace hR := hide (show Ro (v4.setCell ⟨w.heap.size + 1, 1, none⟩ (.int .i64 v)) (w.heap.size) _ _ from ro_set_ne hR.out (show w.heap.size + 1 ≠ w.heap.size by omega) 1 (.int .i64 v))
  replace P := hide (show Pz (v4.setCell ⟨w.heap.size + 1, 1, none⟩ (.int .i64 v)) b s _ from P.out.set_ne 1 (show w.heap.size + 1 ≠ b by omega) (.int .i64 v))
  replace hB := hide (show But b w (v4.setCell ⟨w.heap.size + 1, 1, none⟩ (.int .i64 v)) from hB.out.setNew (show w.heap.size ≤ w.heap.size + 1 by omega) (.int .i64 v))
  generalize v4.setCell ⟨w.heap.size + 1, 1, none⟩ (.int .i64 v) = v5 at *
  have G : Gr Tryz.prog 23 6 #[.int .i64 2, .int .i64 v, .int .i64 0, .int .i64 0, .int .i64 0, .int .i64 7200] := ⟨by kernel_rfl, rfl, by simp [Value.oneCell']⟩
  go_wp2_with (first | (refine wpList_store_row rfl 23 _ _ rfl _ _ rfl rfl _ _ hR.out G.1 rfl G.2.2 ?_) | (refine load_row_g (by rfl) 23 _ rfl _ rfl _ _ _ hD.out Tryz.underlying23 rfl G.1 ?_))
  have hl := ((ro_row hR.out #[.int .i64 2, .int .i64 v, .int .i64 0, .int .i64 0, .int .i64 0, .int .i64 7200]).load 23 _ Tryz.underlying23 rfl G.1).2
  exact bodyPost_ret (results_c Tryz.results33 rfl hl) rfl ⟨rfl, P.out.row (by omega) _, hB.out.row (by omega) _⟩
set_option maxHeartbeats 2000000 in
theorem date_Z1 (s : ByteArray) (k b : Nat) (w : World) (hs : s.size ≤ 1000000) (hk : k ≤ s.size) (hp : Pz w b s k) (hc : (rst s k).head? ≠ some 74) (hd : (rst s k).head? ≠ some 77) (h : ptNum (rst s k) = none) :
    Calls Tryz.prog 33 #[.pointer (some ⟨b, 0, none⟩)] w fun e w' => ∃ q : Int, e = fail q ∧ But b w w' := by
  skip
  have C0 := hide (fun w hp => skip_no s k b 74 w hs hk hp hc)
  have C1 := hide (fun w hp => skip_no s k b 77 w hs hk hp hd)
  have C2 := hide (fun w hp => number_no s k b w hs hk hp h)
  have hbl : b < w.heap.size := hp.1
  have hR := hide (show Ro ((w.alloc (.cells #[.int .i64 0, .int .i64 0, .int .i64 0, .int .i64 0, .int .i64 0, .int .i64 0] 23)).alloc (.cells #[.int .i64 0, .int .i64 0, .int .i64 0, .int .i64 0, .int .i64 0, .int .i64 7200] 23)) w.heap.size #[.int .i64 0, .int .i64 0, .int .i64 0, .int .i64 0, .int .i64 0, .int .i64 0] 23 from (Ro.new w #[.int .i64 0, .int .i64 0, .int .i64 0, .int .i64 0, .int .i64 0, .int .i64 0] 23).alloc _)
  have hD := hide (show Ro ((w.alloc (.cells #[.int .i64 0, .int .i64 0, .int .i64 0, .int .i64 0, .int .i64 0, .int .i64 0] 23)).alloc (.cells #[.int .i64 0, .int .i64 0, .int .i64 0, .int .i64 0, .int .i64 0, .int .i64 7200] 23)) (w.heap.size + 1) #[.int .i64 0, .int .i64 0, .int .i64 0, .int .i64 0, .int .i64 0, .int .i64 7200] 23 by have := Ro.new (w.alloc (.cells #[.int .i64 0, .int .i64 0, .int .i64 0, .int .i64 0, .int .i64 0, .int .i64 0] 23)) #[.int .i64 0, .int .i64 0, .int .i64 0, .int .i64 0, .int .i64 0, .int .i64 7200] 23; simpa using this)
  have hB := hide (show But b w ((w.alloc (.cells #[.int .i64 0, .int .i64 0, .int .i64 0, .int .i64 0, .int .i64 0, .int .i64 0] 23)).alloc (.cells #[.int .i64 0, .int .i64 0, .int .i64 0, .int .i64 0, .int .i64 0, .int .i64 7200] 23)) from ((But.refl b w).alloc _).alloc _)
  have P := hide (show Pz ((w.alloc (.cells #[.int .i64 0, .int .i64 0, .int .i64 0, .int .i64 0, .int .i64 0, .int .i64 0] 23)).alloc (.cells #[.int .i64 0, .int .i64 0, .int .i64 0, .int .i64 0, .int .i64 0, .int .i64 7200] 23)) b s k from (hp.below (bl_new _ _)).below (bl_new _ _))
  clear hp
  clear hc hd h
  go_enter Tryz.func33, Tryz.ntmps33
  go_wp2_with (refine wpList_store_row rfl 23 _ _ rfl _ _ rfl rfl _ _ (heap_alloc_last _ _) (by kernel_rfl) rfl (by simp [Value.oneCell']) ?_; rw [World.setRow_alloc_new])
  generalize (w.alloc (.cells #[.int .i64 0, .int .i64 0, .int .i64 0, .int .i64 0, .int .i64 0, .int .i64 0] 23)).alloc (.cells #[.int .i64 0, .int .i64 0, .int .i64 0, .int .i64 0, .int .i64 0, .int .i64 7200] 23) = v0 at *
  go_wp2_with fail
  refine (C0.out _ P.out).mono ?_
  rintro e v1 ⟨rfl, h1⟩
  replace P := hide (P.out.below h1)
  replace hR := hide (hR.out.below h1)
  replace hD := hide (hD.out.below h1)
  replace hB := hide (hB.out.next h1)
  clear h1
  go_wp2_with fail
  refine (C1.out _ P.out).mono ?_
  rintro e v2 ⟨rfl, h1⟩
  replace P := hide (P.out.below h1)
  replace hR := hide (hR.out.below h1)
  replace hD := hide (hD.out.below h1)
  replace hB := hide (hB.out.next h1)
  clear h1
  go_wp2_with fail
  refine (C2.out _ P.out).mono ?_
  rintro e v ⟨rfl, h1⟩
  unfold fail
  go_wp2
  exact ⟨rfl, _, rfl, hB.out.next h1⟩
set_option maxHeartbeats 4000000 in
theorem date_M (s : ByteArray) (k b : Nat) (w : World) (hs : s.size ≤ 1000000) (hk : k ≤ s.size) (hp : Pz w b s k) (t : List UInt8) (hc : (rst s k).head? ≠ some 74) (hd : rst s k = 77 :: t) (m : Int) (i : Nat) (h1 : ptNum (rst s (k + 1)) = some (m, i)) (n1 : k + 1 + i ≤ s.size) (t1 : List UInt8) (h2 : rst s (k + 1 + i) = 46 :: t1) (n2 : k + 1 + i + 1 ≤ s.size) (y : Int) (j : Nat) (h3 : ptNum (rst s (k + 1 + i + 1)) = some (y, j)) (n3 : k + 1 + i + 1 + j ≤ s.size) (t2 : List UInt8) (h4 : rst s (k + 1 + i + 1 + j) = 46 :: t2) (n4 : k + 1 + i + 1 + j + 1 ≤ s.size) (x : Int) (n : Nat) (h5 : ptNum (rst s (k + 1 + i + 1 + j + 1)) = some (x, n)) (n5 : k + 1 + i + 1 + j + 1 + n ≤ s.size) :
    Calls Tryz.prog 33 #[.pointer (some ⟨b, 0, none⟩)] w fun e w' => e = .returned (.agg #[.int .i64 3, .int .i64 0, .int .i64 m, .int .i64 y, .int .i64 x, .int .i64 7200]) ∧ Pz w' b s ((k + 1 + i + 1 + j + 1 + n : Nat) : Int) ∧ But b w w' := by
  have hz : k < s.size := by
    have := congrArg List.length hd
    rw [List.length_drop, len_byt, List.length_cons] at this
    omega
  have C0 := hide (fun w hp => skip_no s k b 74 w hs hk hp hc)
  have C1 := hide (fun w hp => skip_yes s k b 77 t w hs hk hp hd)
  have C2 := hide (fun w hp => number_yes s (k + 1) b m i w hs (by omega) hp h1)
  have C3 := hide (fun w hp => expect_yes s (k + 1 + i) b 46 t1 w hs (by omega) hp h2)
  have C4 := hide (fun w hp => number_yes s (k + 1 + i + 1) b y j w hs (by omega) hp h3)
  have C5 := hide (fun w hp => expect_yes s (k + 1 + i + 1 + j) b 46 t2 w hs (by omega) hp h4)
  have C6 := hide (fun w hp => number_yes s (k + 1 + i + 1 + j + 1) b x n w hs (by omega) hp h5)
  have hbl : b < w.heap.size := hp.1
  have hR := hide (show Ro ((w.alloc (.cells #[.int .i64 0, .int .i64 0, .int .i64 0, .int .i64 0, .int .i64 0, .int .i64 0] 23)).alloc (.cells #[.int .i64 0, .int .i64 0, .int .i64 0, .int .i64 0, .int .i64 0, .int .i64 7200] 23)) w.heap.size #[.int .i64 0, .int .i64 0, .int .i64 0, .int .i64 0, .int .i64 0, .int .i64 0] 23 from (Ro.new w #[.int .i64 0, .int .i64 0, .int .i64 0, .int .i64 0, .int .i64 0, .int .i64 0] 23).alloc _)
  have hD := hide (show Ro ((w.alloc (.cells #[.int .i64 0, .int .i64 0, .int .i64 0, .int .i64 0, .int .i64 0, .int .i64 0] 23)).alloc (.cells #[.int .i64 0, .int .i64 0, .int .i64 0, .int .i64 0, .int .i64 0, .int .i64 7200] 23)) (w.heap.size + 1) #[.int .i64 0, .int .i64 0, .int .i64 0, .int .i64 0, .int .i64 0, .int .i64 7200] 23 by have := Ro.new (w.alloc (.cells #[.int .i64 0, .int .i64 0, .int .i64 0, .int .i64 0, .int .i64 0, .int .i64 0] 23)) #[.int .i64 0, .int .i64 0, .int .i64 0, .int .i64 0, .int .i64 0, .int .i64 7200] 23; simpa using this)
  have hB := hide (show But b w ((w.alloc (.cells #[.int .i64 0, .int .i64 0, .int .i64 0, .int .i64 0, .int .i64 0, .int .i64 0] 23)).alloc (.cells #[.int .i64 0, .int .i64 0, .int .i64 0, .int .i64 0, .int .i64 0, .int .i64 7200] 23)) from ((But.refl b w).alloc _).alloc _)
  have P := hide (show Pz ((w.alloc (.cells #[.int .i64 0, .int .i64 0, .int .i64 0, .int .i64 0, .int .i64 0, .int .i64 0] 23)).alloc (.cells #[.int .i64 0, .int .i64 0, .int .i64 0, .int .i64 0, .int .i64 0, .int .i64 7200] 23)) b s k from (hp.below (bl_new _ _)).below (bl_new _ _))
  clear hp
  clear hc hd h1 h2 h3 h4 h5
  go_enter Tryz.func33, Tryz.ntmps33
  go_wp2_with (refine wpList_store_row rfl 23 _ _ rfl _ _ rfl rfl _ _ (heap_alloc_last _ _) (by kernel_rfl) rfl (by simp [Value.oneCell']) ?_; rw [World.setRow_alloc_new])
  generalize (w.alloc (.cells #[.int .i64 0, .int .i64 0, .int .i64 0, .int .i64 0, .int .i64 0, .int .i64 0] 23)).alloc (.cells #[.int .i64 0, .int .i64 0, .int .i64 0, .int .i64 0, .int .i64 0, .int .i64 7200] 23) = v0 at *
  go_wp2_with fail
  refine (C0.out _ P.out).mono ?_
  rintro e v1 ⟨rfl, h1⟩
  replace P := hide (P.out.below h1)
  replace hR := hide (hR.out.below h1)
  replace hD := hide (hD.out.below h1)
  replace hB := hide (hB.out.next h1)
  clear h1
  go_wp2_with fail
  refine (C1.out _ P.out).mono ?_
  rintro e v2 ⟨rfl, p1, h1⟩
  replace hR := hide (hR.out.but h1 (by omega))
  replace hD := hide (hD.out.but h1 (by omega))
  replace hB := hide (hB.out.trans h1)
  clear h1
  replace P := hide (p1.cast (show _ = ((k + 1 : Nat) : Int) by omega))
  clear p1
  go_wp2_with fail
  refine (C2.out _ P.out).mono ?_
  rintro e v3 ⟨rfl, p1, h1⟩
  replace hR := hide (hR.out.but h1 (by omega))
  replace hD := hide (hD.out.but h1 (by omega))
  replace hB := hide (hB.out.trans h1)
  clear h1
  replace P := hide (p1.cast (show _ = ((k + 1 + i : Nat) : Int) by omega))
  clear p1
  obtain ⟨p0, q0⟩ := ro_cf hD.out 0 _ rfl
  obtain ⟨p2, q2⟩ := ro_cf hD.out 2 _ rfl
  go_upto_region 7 with fail
  clear p0 q0 p2 q2
  replace hD := hide (show Ro (v3.setCell ⟨w.heap.size + 1, 0, none⟩ (.int .i64 3)) (w.heap.size + 1) #[.int .i64 3, .int .i64 0, .int .i64 0, .int .i64 0, .int .i64 0, .int .i64 7200] 23 from ro_set hD.out 0 (.int .i64 3))
  replace hR := hide (show Ro (v3.setCell ⟨w.heap.size + 1, 0, none⟩ (.int .i64 3)) (w.heap.size) _ _ from ro_set_ne hR.out (show w.heap.size + 1 ≠ w.heap.size by omega) 0 (.int .i64 3))
  replace P := hide (show Pz (v3.setCell ⟨w.heap.size + 1, 0, none⟩ (.int .i64 3)) b s _ from P.out.set_ne 0 (show w.heap.size + 1 ≠ b by omega) (.int .i64 3))
  replace hB := hide (show But b w (v3.setCell ⟨w.heap.size + 1, 0, none⟩ (.int .i64 3)) from hB.out.setNew (show w.heap.size ≤ w.heap.size + 1 by omega) (.int .i64 3))
  generalize v3.setCell ⟨w.heap.size + 1, 0, none⟩ (.int .i64 3) = v4 at *
  replace hD := hide (show Ro (v4.setCell ⟨w.heap.size + 1, 2, none⟩ (.int .i64 m)) (w.heap.size + 1) #[.int .i64 3, .int .i64 0, .int .i64 m, .int .i64 0, .int .i64 0, .int .i64 7200] 23 from ro_set hD.out 2 (.int .i64 m))
  replace hR := hide (show Ro (v4.setCell ⟨w.heap.size + 1, 2, none⟩ (.int .i64 m)) (w.heap.size) _ _ from ro_set_ne hR.out (show w.heap.size + 1 ≠ w.heap.size by omega) 2 (.int .i64 m))
  replace P := hide (show Pz (v4.setCell ⟨w.heap.size + 1, 2, none⟩ (.int .i64 m)) b s _ from P.out.set_ne 2 (show w.heap.size + 1 ≠ b by omega) (.int .i64 m))
  replace hB := hide (show But b w (v4.setCell ⟨w.heap.size + 1, 2, none⟩ (.int .i64 m)) from hB.out.setNew (show w.heap.size ≤ w.heap.size + 1 by omega) (.int .i64 m))
  generalize v4.setCell ⟨w.heap.size + 1, 2, none⟩ (.int .i64 m) = v5 at *
  go_wp2_with fail
  refine (C3.out _ P.out).mono ?_
  rintro e v6 ⟨rfl, p1, h1⟩
  replace hR := hide (hR.out.but h1 (by omega))
  replace hD := hide (hD.out.but h1 (by omega))
  replace hB := hide (hB.out.trans h1)
  clear h1
  replace P := hide (p1.cast (show _ = ((k + 1 + i + 1 : Nat) : Int) by omega))
  clear p1
  go_wp2_with fail
  refine (C4.out _ P.out).mono ?_
  rintro e v7 ⟨rfl, p1, h1⟩
  replace hR := hide (hR.out.but h1 (by omega))
  replace hD := hide (hD.out.but h1 (by omega))
  replace hB := hide (hB.out.trans h1)
  clear h1
  replace P := hide (p1.cast (show _ = ((k + 1 + i + 1 + j : Nat) : Int) by omega))
  clear p1
  obtain ⟨p3, q3⟩ := ro_cf hD.out 3 _ rfl
  go_upto_region 9 with fail
  clear p3 q3
  replace hD := hide (show Ro (v7.setCell ⟨w.heap.size + 1, 3, none⟩ (.int .i64 y)) (w.heap.size + 1) #[.int .i64 3, .int .i64 0, .int .i64 m, .int .i64 y, .int .i64 0, .int .i64 7200] 23 from ro_set hD.out 3 (.int .i64 y))
  replace hR := hide (show Ro (v7.setCell ⟨w.heap.size + 1, 3, none⟩ (.int .i64 y)) (w.heap.size) _ _ from ro_set_ne hR.out (show w.heap.size + 1 ≠ w.heap.size by omega) 3 (.int .i64 y))
  replace P := hide (show Pz (v7.setCell ⟨w.heap.size + 1, 3, none⟩ (.int .i64 y)) b s _ from P.out.set_ne 3 (show w.heap.size + 1 ≠ b by omega) (.int .i64 y))
  replace hB := hide (show But b w (v7.setCell ⟨w.heap.size + 1, 3, none⟩ (.int .i64 y)) from hB.out.setNew (show w.heap.size ≤ w.heap.size + 1 by omega) (.int .i64 y))
  generalize v7.setCell ⟨w.heap.size + 1, 3, none⟩ (.int .i64 y) = v8 at *
  go_wp2_with fail
  refine (C5.out _ P.out).mono ?_
  rintro e v9 ⟨rfl, p1, h1⟩
  replace hR := hide (hR.out.but h1 (by omega))
  replace hD := hide (hD.out.but h1 (by omega))
  replace hB := hide (hB.out.trans h1)
  clear h1
  replace P := hide (p1.cast (show _ = ((k + 1 + i + 1 + j + 1 : Nat) : Int) by omega))
  clear p1
  go_wp2_with fail
  refine (C6.out _ P.out).mono ?_
  rintro e v10 ⟨rfl, p1, h1⟩
  replace hR := hide (hR.out.but h1 (by omega))
  replace hD := hide (hD.out.but h1 (by omega))
  replace hB := hide (hB.out.trans h1)
  clear h1
  replace P := hide (p1.cast (show _ = ((k + 1 + i + 1 + j + 1 + n : Nat) : Int) by omega))
  clear p1
  obtain ⟨p4, q4⟩ := ro_cf hD.out 4 _ rfl
  go_upto_region 11 with fail
  clear p4 q4
  replace hD := hide (show Ro (v10.setCell ⟨w.heap.size + 1, 4, none⟩ (.int .i64 x)) (w.heap.size + 1) #[.int .i64 3, .int .i64 0, .int .i64 m, .int .i64 y, .int .i64 x, .int .i64 7200] 23 from ro_set hD.out 4 (.int .i64 x))
  replace hR := hide (show Ro (v10.setCell ⟨w.heap.size + 1, 4, none⟩ (.int .i64 x)) (w.heap.size) _ _ from ro_set_ne hR.out (show w.heap.size + 1 ≠ w.heap.size by omega) 4 (.int .i64 x))
  replace P := hide (show Pz (v10.setCell ⟨w.heap.size + 1, 4, none⟩ (.int .i64 x)) b s _ from P.out.set_ne 4 (show w.heap.size + 1 ≠ b by omega) (.int .i64 x))
  replace hB := hide (show But b w (v10.setCell ⟨w.heap.size + 1, 4, none⟩ (.int .i64 x)) from hB.out.setNew (show w.heap.size ≤ w.heap.size + 1 by omega) (.int .i64 x))
  generalize v10.setCell ⟨w.heap.size + 1, 4, none⟩ (.int .i64 x) = v11 at *
  have G : Gr Tryz.prog 23 6 #[.int .i64 3, .int .i64 0, .int .i64 m, .int .i64 y, .int .i64 x, .int .i64 7200] := ⟨by kernel_rfl, rfl, by simp [Value.oneCell']⟩
  go_wp2_with (first | (refine wpList_store_row rfl 23 _ _ rfl _ _ rfl rfl _ _ hR.out G.1 rfl G.2.2 ?_) | (refine load_row_g (by rfl) 23 _ rfl _ rfl _ _ _ hD.out Tryz.underlying23 rfl G.1 ?_))
  have hl := ((ro_row hR.out #[.int .i64 3, .int .i64 0, .int .i64 m, .int .i64 y, .int .i64 x, .int .i64 7200]).load 23 _ Tryz.underlying23 rfl G.1).2
  exact bodyPost_ret (results_c Tryz.results33 rfl hl) rfl ⟨rfl, P.out.row (by omega) _, hB.out.row (by omega) _⟩
set_option maxHeartbeats 4000000 in
theorem date_M1 (s : ByteArray) (k b : Nat) (w : World) (hs : s.size ≤ 1000000) (hk : k ≤ s.size) (hp : Pz w b s k) (t : List UInt8) (hc : (rst s k).head? ≠ some 74) (hd : rst s k = 77 :: t) (h1 : ptNum (rst s (k + 1)) = none) :
    Calls Tryz.prog 33 #[.pointer (some ⟨b, 0, none⟩)] w fun e w' => ∃ q : Int, e = fail q ∧ But b w w' := by
  have hz : k < s.size := by
    have := congrArg List.length hd
    rw [List.length_drop, len_byt, List.length_cons] at this
    omega
  have C0 := hide (fun w hp => skip_no s k b 74 w hs hk hp hc)
  have C1 := hide (fun w hp => skip_yes s k b 77 t w hs hk hp hd)
  have C2 := hide (fun w hp => number_no s (k + 1) b w hs (by omega) hp h1)
  have hbl : b < w.heap.size := hp.1
  have hR := hide (show Ro ((w.alloc (.cells #[.int .i64 0, .int .i64 0, .int .i64 0, .int .i64 0, .int .i64 0, .int .i64 0] 23)).alloc (.cells #[.int .i64 0, .int .i64 0, .int .i64 0, .int .i64 0, .int .i64 0, .int .i64 7200] 23)) w.heap.size #[.int .i64 0, .int .i64 0, .int .i64 0, .int .i64 0, .int .i64 0, .int .i64 0] 23 from (Ro.new w #[.int .i64 0, .int .i64 0, .int .i64 0, .int .i64 0, .int .i64 0, .int .i64 0] 23).alloc _)
  have hD := hide (show Ro ((w.alloc (.cells #[.int .i64 0, .int .i64 0, .int .i64 0, .int .i64 0, .int .i64 0, .int .i64 0] 23)).alloc (.cells #[.int .i64 0, .int .i64 0, .int .i64 0, .int .i64 0, .int .i64 0, .int .i64 7200] 23)) (w.heap.size + 1) #[.int .i64 0, .int .i64 0, .int .i64 0, .int .i64 0, .int .i64 0, .int .i64 7200] 23 by have := Ro.new (w.alloc (.cells #[.int .i64 0, .int .i64 0, .int .i64 0, .int .i64 0, .int .i64 0, .int .i64 0] 23)) #[.int .i64 0, .int .i64 0, .int .i64 0, .int .i64 0, .int .i64 0, .int .i64 7200] 23; simpa using this)
  have hB := hide (show But b w ((w.alloc (.cells #[.int .i64 0, .int .i64 0, .int .i64 0, .int .i64 0, .int .i64 0, .int .i64 0] 23)).alloc (.cells #[.int .i64 0, .int .i64 0, .int .i64 0, .int .i64 0, .int .i64 0, .int .i64 7200] 23)) from ((But.refl b w).alloc _).alloc _)
  have P := hide (show Pz ((w.alloc (.cells #[.int .i64 0, .int .i64 0, .int .i64 0, .int .i64 0, .int .i64 0, .int .i64 0] 23)).alloc (.cells #[.int .i64 0, .int .i64 0, .int .i64 0, .int .i64 0, .int .i64 0, .int .i64 7200] 23)) b s k from (hp.below (bl_new _ _)).below (bl_new _ _))
  clear hp
  clear hc hd h1
  go_enter Tryz.func33, Tryz.ntmps33
  go_wp2_with (refine wpList_store_row rfl 23 _ _ rfl _ _ rfl rfl _ _ (heap_alloc_last _ _) (by kernel_rfl) rfl (by simp [Value.oneCell']) ?_; rw [World.setRow_alloc_new])
  generalize (w.alloc (.cells #[.int .i64 0, .int .i64 0, .int .i64 0, .int .i64 0, .int .i64 0, .int .i64 0] 23)).alloc (.cells #[.int .i64 0, .int .i64 0, .int .i64 0, .int .i64 0, .int .i64 0, .int .i64 7200] 23) = v0 at *
  go_wp2_with fail
  refine (C0.out _ P.out).mono ?_
  rintro e v1 ⟨rfl, h1⟩
  replace P := hide (P.out.below h1)
  replace hR := hide (hR.out.below h1)
  replace hD := hide (hD.out.below h1)
  replace hB := hide (hB.out.next h1)
  clear h1
  go_wp2_with fail
  refine (C1.out _ P.out).mono ?_
  rintro e v2 ⟨rfl, p1, h1⟩
  replace hR := hide (hR.out.but h1 (by omega))
  replace hD := hide (hD.out.but h1 (by omega))
  replace hB := hide (hB.out.trans h1)
  clear h1
  replace P := hide (p1.cast (show _ = ((k + 1 : Nat) : Int) by omega))
  clear p1
  go_wp2_with fail
  refine (C2.out _ P.out).mono ?_
  rintro e v ⟨rfl, h1⟩
  unfold fail
  go_wp2
  exact ⟨rfl, _, rfl, hB.out.next h1⟩
set_option maxHeartbeats 4000000 in
theorem date_M2 (s : ByteArray) (k b : Nat) (w : World) (hs : s.size ≤ 1000000) (hk : k ≤ s.size) (hp : Pz w b s k) (t : List UInt8) (hc : (rst s k).head? ≠ some 74) (hd : rst s k = 77 :: t) (m : Int) (i : Nat) (h1 : ptNum (rst s (k + 1)) = some (m, i)) (n1 : k + 1 + i ≤ s.size) (h2 : (rst s (k + 1 + i)).head? ≠ some 46) :
    Calls Tryz.prog 33 #[.pointer (some ⟨b, 0, none⟩)] w fun e w' => ∃ q : Int, e = fail q ∧ But b w w' := by
  have hz : k < s.size := by
    have := congrArg List.length hd
    rw [List.length_drop, len_byt, List.length_cons] at this
    omega
  have C0 := hide (fun w hp => skip_no s k b 74 w hs hk hp hc)
  have C1 := hide (fun w hp => skip_yes s k b 77 t w hs hk hp hd)
  have C2 := hide (fun w hp => number_yes s (k + 1) b m i w hs (by omega) hp h1)
  have C3 := hide (fun w hp => expect_no s (k + 1 + i) b 46 w hs (by omega) hp h2)
  have hbl : b < w.heap.size := hp.1
  have hR := hide (show Ro ((w.alloc (.cells #[.int .i64 0, .int .i64 0, .int .i64 0, .int .i64 0, .int .i64 0, .int .i64 0] 23)).alloc (.cells #[.int .i64 0, .int .i64 0, .int .i64 0, .int .i64 0, .int .i64 0, .int .i64 7200] 23)) w.heap.size #[.int .i64 0, .int .i64 0, .int .i64 0, .int .i64 0, .int .i64 0, .int .i64 0] 23 from (Ro.new w #[.int .i64 0, .int .i64 0, .int .i64 0, .int .i64 0, .int .i64 0, .int .i64 0] 23).alloc _)
  have hD := hide (show Ro ((w.alloc (.cells #[.int .i64 0, .int .i64 0, .int .i64 0, .int .i64 0, .int .i64 0, .int .i64 0] 23)).alloc (.cells #[.int .i64 0, .int .i64 0, .int .i64 0, .int .i64 0, .int .i64 0, .int .i64 7200] 23)) (w.heap.size + 1) #[.int .i64 0, .int .i64 0, .int .i64 0, .int .i64 0, .int .i64 0, .int .i64 7200] 23 by have := Ro.new (w.alloc (.cells #[.int .i64 0, .int .i64 0, .int .i64 0, .int .i64 0, .int .i64 0, .int .i64 0] 23)) #[.int .i64 0, .int .i64 0, .int .i64 0, .int .i64 0, .int .i64 0, .int .i64 7200] 23; simpa using this)
  have hB := hide (show But b w ((w.alloc (.cells #[.int .i64 0, .int .i64 0, .int .i64 0, .int .i64 0, .int .i64 0, .int .i64 0] 23)).alloc (.cells #[.int .i64 0, .int .i64 0, .int .i64 0, .int .i64 0, .int .i64 0, .int .i64 7200] 23)) from ((But.refl b w).alloc _).alloc _)
  have P := hide (show Pz ((w.alloc (.cells #[.int .i64 0, .int .i64 0, .int .i64 0, .int .i64 0, .int .i64 0, .int .i64 0] 23)).alloc (.cells #[.int .i64 0, .int .i64 0, .int .i64 0, .int .i64 0, .int .i64 0, .int .i64 7200] 23)) b s k from (hp.below (bl_new _ _)).below (bl_new _ _))
  clear hp
  clear hc hd h1 h2
  go_enter Tryz.func33, Tryz.ntmps33
  go_wp2_with (refine wpList_store_row rfl 23 _ _ rfl _ _ rfl rfl _ _ (heap_alloc_last _ _) (by kernel_rfl) rfl (by simp [Value.oneCell']) ?_; rw [World.setRow_alloc_new])
  generalize (w.alloc (.cells #[.int .i64 0, .int .i64 0, .int .i64 0, .int .i64 0, .int .i64 0, .int .i64 0] 23)).alloc (.cells #[.int .i64 0, .int .i64 0, .int .i64 0, .int .i64 0, .int .i64 0, .int .i64 7200] 23) = v0 at *
  go_wp2_with fail
  refine (C0.out _ P.out).mono ?_
  rintro e v1 ⟨rfl, h1⟩
  replace P := hide (P.out.below h1)
  replace hR := hide (hR.out.below h1)
  replace hD := hide (hD.out.below h1)
  replace hB := hide (hB.out.next h1)
  clear h1
  go_wp2_with fail
  refine (C1.out _ P.out).mono ?_
  rintro e v2 ⟨rfl, p1, h1⟩
  replace hR := hide (hR.out.but h1 (by omega))
  replace hD := hide (hD.out.but h1 (by omega))
  replace hB := hide (hB.out.trans h1)
  clear h1
  replace P := hide (p1.cast (show _ = ((k + 1 : Nat) : Int) by omega))
  clear p1
  go_wp2_with fail
  refine (C2.out _ P.out).mono ?_
  rintro e v3 ⟨rfl, p1, h1⟩
  replace hR := hide (hR.out.but h1 (by omega))
  replace hD := hide (hD.out.but h1 (by omega))
  replace hB := hide (hB.out.trans h1)
  clear h1
  replace P := hide (p1.cast (show _ = ((k + 1 + i : Nat) : Int) by omega))
  clear p1
  obtain ⟨p0, q0⟩ := ro_cf hD.out 0 _ rfl
  obtain ⟨p2, q2⟩ := ro_cf hD.out 2 _ rfl
  go_upto_region 7 with fail
  clear p0 q0 p2 q2
  replace hD := hide (show Ro (v3.setCell ⟨w.heap.size + 1, 0, none⟩ (.int .i64 3)) (w.heap.size + 1) #[.int .i64 3, .int .i64 0, .int .i64 0, .int .i64 0, .int .i64 0, .int .i64 7200] 23 from ro_set hD.out 0 (.int .i64 3))
  replace hR := hide (show Ro (v3.setCell ⟨w.heap.size + 1, 0, none⟩ (.int .i64 3)) (w.heap.size) _ _ from ro_set_ne hR.out (show w.heap.size + 1 ≠ w.heap.size by omega) 0 (.int .i64 3))
  replace P := hide (show Pz (v3.setCell ⟨w.heap.size + 1, 0, none⟩ (.int .i64 3)) b s _ from P.out.set_ne 0 (show w.heap.size + 1 ≠ b by omega) (.int .i64 3))
  replace hB := hide (show But b w (v3.setCell ⟨w.heap.size + 1, 0, none⟩ (.int .i64 3)) from hB.out.setNew (show w.heap.size ≤ w.heap.size + 1 by omega) (.int .i64 3))
  generalize v3.setCell ⟨w.heap.size + 1, 0, none⟩ (.int .i64 3) = v4 at *
  replace hD := hide (show Ro (v4.setCell ⟨w.heap.size + 1, 2, none⟩ (.int .i64 m)) (w.heap.size + 1) #[.int .i64 3, .int .i64 0, .int .i64 m, .int .i64 0, .int .i64 0, .int .i64 7200] 23 from ro_set hD.out 2 (.int .i64 m))
  replace hR := hide (show Ro (v4.setCell ⟨w.heap.size + 1, 2, none⟩ (.int .i64 m)) (w.heap.size) _ _ from ro_set_ne hR.out (show w.heap.size + 1 ≠ w.heap.size by omega) 2 (.int .i64 m))
  replace P := hide (show Pz (v4.setCell ⟨w.heap.size + 1, 2, none⟩ (.int .i64 m)) b s _ from P.out.set_ne 2 (show w.heap.size + 1 ≠ b by omega) (.int .i64 m))
  replace hB := hide (show But b w (v4.setCell ⟨w.heap.size + 1, 2, none⟩ (.int .i64 m)) from hB.out.setNew (show w.heap.size ≤ w.heap.size + 1 by omega) (.int .i64 m))
  generalize v4.setCell ⟨w.heap.size + 1, 2, none⟩ (.int .i64 m) = v5 at *
  go_wp2_with fail
  refine (C3.out _ P.out).mono ?_
  rintro e v ⟨rfl, h1⟩
  unfold fail
  go_wp2
  exact ⟨rfl, _, rfl, hB.out.next h1⟩
set_option maxHeartbeats 4000000 in
theorem date_M3 (s : ByteArray) (k b : Nat) (w : World) (hs : s.size ≤ 1000000) (hk : k ≤ s.size) (hp : Pz w b s k) (t : List UInt8) (hc : (rst s k).head? ≠ some 74) (hd : rst s k = 77 :: t) (m : Int) (i : Nat) (h1 : ptNum (rst s (k + 1)) = some (m, i)) (n1 : k + 1 + i ≤ s.size) (t1 : List UInt8) (h2 : rst s (k + 1 + i) = 46 :: t1) (n2 : k + 1 + i + 1 ≤ s.size) (h3 : ptNum (rst s (k + 1 + i + 1)) = none) :
    Calls Tryz.prog 33 #[.pointer (some ⟨b, 0, none⟩)] w fun e w' => ∃ q : Int, e = fail q ∧ But b w w' := by
  have hz : k < s.size := by
    have := congrArg List.length hd
    rw [List.length_drop, len_byt, List.length_cons] at this
    omega
  have C0 := hide (fun w hp => skip_no s k b 74 w hs hk hp hc)
  have C1 := hide (fun w hp => skip_yes s k b 77 t w hs hk hp hd)
  have C2 := hide (fun w hp => number_yes s (k + 1) b m i w hs (by omega) hp h1)
  have C3 := hide (fun w hp => expect_yes s (k + 1 + i) b 46 t1 w hs (by omega) hp h2)
  have C4 := hide (fun w hp => number_no s (k + 1 + i + 1) b w hs (by omega) hp h3)
  have hbl : b < w.heap.size := hp.1
  have hR := hide (show Ro ((w.alloc (.cells #[.int .i64 0, .int .i64 0, .int .i64 0, .int .i64 0, .int .i64 0, .int .i64 0] 23)).alloc (.cells #[.int .i64 0, .int .i64 0, .int .i64 0, .int .i64 0, .int .i64 0, .int .i64 7200] 23)) w.heap.size #[.int .i64 0, .int .i64 0, .int .i64 0, .int .i64 0, .int .i64 0, .int .i64 0] 23 from (Ro.new w #[.int .i64 0, .int .i64 0, .int .i64 0, .int .i64 0, .int .i64 0, .int .i64 0] 23).alloc _)
  have hD := hide (show Ro ((w.alloc (.cells #[.int .i64 0, .int .i64 0, .int .i64 0, .int .i64 0, .int .i64 0, .int .i64 0] 23)).alloc (.cells #[.int .i64 0, .int .i64 0, .int .i64 0, .int .i64 0, .int .i64 0, .int .i64 7200] 23)) (w.heap.size + 1) #[.int .i64 0, .int .i64 0, .int .i64 0, .int .i64 0, .int .i64 0, .int .i64 7200] 23 by have := Ro.new (w.alloc (.cells #[.int .i64 0, .int .i64 0, .int .i64 0, .int .i64 0, .int .i64 0, .int .i64 0] 23)) #[.int .i64 0, .int .i64 0, .int .i64 0, .int .i64 0, .int .i64 0, .int .i64 7200] 23; simpa using this)
  have hB := hide (show But b w ((w.alloc (.cells #[.int .i64 0, .int .i64 0, .int .i64 0, .int .i64 0, .int .i64 0, .int .i64 0] 23)).alloc (.cells #[.int .i64 0, .int .i64 0, .int .i64 0, .int .i64 0, .int .i64 0, .int .i64 7200] 23)) from ((But.refl b w).alloc _).alloc _)
  have P := hide (show Pz ((w.alloc (.cells #[.int .i64 0, .int .i64 0, .int .i64 0, .int .i64 0, .int .i64 0, .int .i64 0] 23)).alloc (.cells #[.int .i64 0, .int .i64 0, .int .i64 0, .int .i64 0, .int .i64 0, .int .i64 7200] 23)) b s k from (hp.below (bl_new _ _)).below (bl_new _ _))
  clear hp
  clear hc hd h1 h2 h3
  go_enter Tryz.func33, Tryz.ntmps33
  go_wp2_with (refine wpList_store_row rfl 23 _ _ rfl _ _ rfl rfl _ _ (heap_alloc_last _ _) (by kernel_rfl) rfl (by simp [Value.oneCell']) ?_; rw [World.setRow_alloc_new])
  generalize (w.alloc (.cells #[.int .i64 0, .int .i64 0, .int .i64 0, .int .i64 0, .int .i64 0, .int .i64 0] 23)).alloc (.cells #[.int .i64 0, .int .i64 0, .int .i64 0, .int .i64 0, .int .i64 0, .int .i64 7200] 23) = v0 at *
  go_wp2_with fail
  refine (C0.out _ P.out).mono ?_
  rintro e v1 ⟨rfl, h1⟩
  replace P := hide (P.out.below h1)
  replace hR := hide (hR.out.below h1)
  replace hD := hide (hD.out.below h1)
  replace hB := hide (hB.out.next h1)
  clear h1
  go_wp2_with fail
  refine (C1.out _ P.out).mono ?_
  rintro e v2 ⟨rfl, p1, h1⟩
  replace hR := hide (hR.out.but h1 (by omega))
  replace hD := hide (hD.out.but h1 (by omega))
  replace hB := hide (hB.out.trans h1)
  clear h1
  replace P := hide (p1.cast (show _ = ((k + 1 : Nat) : Int) by omega))
  clear p1
  go_wp2_with fail
  refine (C2.out _ P.out).mono ?_
  rintro e v3 ⟨rfl, p1, h1⟩
  replace hR := hide (hR.out.but h1 (by omega))
  replace hD := hide (hD.out.but h1 (by omega))
  replace hB := hide (hB.out.trans h1)
  clear h1
  replace P := hide (p1.cast (show _ = ((k + 1 + i : Nat) : Int) by omega))
  clear p1
  obtain ⟨p0, q0⟩ := ro_cf hD.out 0 _ rfl
  obtain ⟨p2, q2⟩ := ro_cf hD.out 2 _ rfl
  go_upto_region 7 with fail
  clear p0 q0 p2 q2
  replace hD := hide (show Ro (v3.setCell ⟨w.heap.size + 1, 0, none⟩ (.int .i64 3)) (w.heap.size + 1) #[.int .i64 3, .int .i64 0, .int .i64 0, .int .i64 0, .int .i64 0, .int .i64 7200] 23 from ro_set hD.out 0 (.int .i64 3))
  replace hR := hide (show Ro (v3.setCell ⟨w.heap.size + 1, 0, none⟩ (.int .i64 3)) (w.heap.size) _ _ from ro_set_ne hR.out (show w.heap.size + 1 ≠ w.heap.size by omega) 0 (.int .i64 3))
  replace P := hide (show Pz (v3.setCell ⟨w.heap.size + 1, 0, none⟩ (.int .i64 3)) b s _ from P.out.set_ne 0 (show w.heap.size + 1 ≠ b by omega) (.int .i64 3))
  replace hB := hide (show But b w (v3.setCell ⟨w.heap.size + 1, 0, none⟩ (.int .i64 3)) from hB.out.setNew (show w.heap.size ≤ w.heap.size + 1 by omega) (.int .i64 3))
  generalize v3.setCell ⟨w.heap.size + 1, 0, none⟩ (.int .i64 3) = v4 at *
  replace hD := hide (show Ro (v4.setCell ⟨w.heap.size + 1, 2, none⟩ (.int .i64 m)) (w.heap.size + 1) #[.int .i64 3, .int .i64 0, .int .i64 m, .int .i64 0, .int .i64 0, .int .i64 7200] 23 from ro_set hD.out 2 (.int .i64 m))
  replace hR := hide (show Ro (v4.setCell ⟨w.heap.size + 1, 2, none⟩ (.int .i64 m)) (w.heap.size) _ _ from ro_set_ne hR.out (show w.heap.size + 1 ≠ w.heap.size by omega) 2 (.int .i64 m))
  replace P := hide (show Pz (v4.setCell ⟨w.heap.size + 1, 2, none⟩ (.int .i64 m)) b s _ from P.out.set_ne 2 (show w.heap.size + 1 ≠ b by omega) (.int .i64 m))
  replace hB := hide (show But b w (v4.setCell ⟨w.heap.size + 1, 2, none⟩ (.int .i64 m)) from hB.out.setNew (show w.heap.size ≤ w.heap.size + 1 by omega) (.int .i64 m))
  generalize v4.setCell ⟨w.heap.size + 1, 2, none⟩ (.int .i64 m) = v5 at *
  go_wp2_with fail
  refine (C3.out _ P.out).mono ?_
  rintro e v6 ⟨rfl, p1, h1⟩
  replace hR := hide (hR.out.but h1 (by omega))
  replace hD := hide (hD.out.but h1 (by omega))
  replace hB := hide (hB.out.trans h1)
  clear h1
  replace P := hide (p1.cast (show _ = ((k + 1 + i + 1 : Nat) : Int) by omega))
  clear p1
  go_wp2_with fail
  refine (C4.out _ P.out).mono ?_
  rintro e v ⟨rfl, h1⟩
  unfold fail
  go_wp2
  exact ⟨rfl, _, rfl, hB.out.next h1⟩
set_option maxHeartbeats 4000000 in
theorem date_M4 (s : ByteArray) (k b : Nat) (w : World) (hs : s.size ≤ 1000000) (hk : k ≤ s.size) (hp : Pz w b s k) (t : List UInt8) (hc : (rst s k).head? ≠ some 74) (hd : rst s k = 77 :: t) (m : Int) (i : Nat) (h1 : ptNum (rst s (k + 1)) = some (m, i)) (n1 : k + 1 + i ≤ s.size) (t1 : List UInt8) (h2 : rst s (k + 1 + i) = 46 :: t1) (n2 : k + 1 + i + 1 ≤ s.size) (y : Int) (j : Nat) (h3 : ptNum (rst s (k + 1 + i + 1)) = some (y, j)) (n3 : k + 1 + i + 1 + j ≤ s.size) (h4 : (rst s (k + 1 + i + 1 + j)).head? ≠ some 46) :
    Calls Tryz.prog 33 #[.pointer (some ⟨b, 0, none⟩)] w fun e w' => ∃ q : Int, e = fail q ∧ But b w w' := by
  have hz : k < s.size := by
    have := congrArg List.length hd
    rw [List.length_drop, len_byt, List.length_cons] at this
    omega
  have C0 := hide (fun w hp => skip_no s k b 74 w hs hk hp hc)
  have C1 := hide (fun w hp => skip_yes s k b 77 t w hs hk hp hd)
  have C2 := hide (fun w hp => number_yes s (k + 1) b m i w hs (by omega) hp h1)
  have C3 := hide (fun w hp => expect_yes s (k + 1 + i) b 46 t1 w hs (by omega) hp h2)
  have C4 := hide (fun w hp => number_yes s (k + 1 + i + 1) b y j w hs (by omega) hp h3)
  have C5 := hide (fun w hp => expect_no s (k + 1 + i + 1 + j) b 46 w hs (by omega) hp h4)
  have hbl : b < w.heap.size := hp.1
  have hR := hide (show Ro ((w.alloc (.cells #[.int .i64 0, .int .i64 0, .int .i64 0, .int .i64 0, .int .i64 0, .int .i64 0] 23)).alloc (.cells #[.int .i64 0, .int .i64 0, .int .i64 0, .int .i64 0, .int .i64 0, .int .i64 7200] 23)) w.heap.size #[.int .i64 0, .int .i64 0, .int .i64 0, .int .i64 0, .int .i64 0, .int .i64 0] 23 from (Ro.new w #[.int .i64 0, .int .i64 0, .int .i64 0, .int .i64 0, .int .i64 0, .int .i64 0] 23).alloc _)
  have hD := hide (show Ro ((w.alloc (.cells #[.int .i64 0, .int .i64 0, .int .i64 0, .int .i64 0, .int .i64 0, .int .i64 0] 23)).alloc (.cells #[.int .i64 0, .int .i64 0, .int .i64 0, .int .i64 0, .int .i64 0, .int .i64 7200] 23)) (w.heap.size + 1) #[.int .i64 0, .int .i64 0, .int .i64 0, .int .i64 0, .int .i64 0, .int .i64 7200] 23 by have := Ro.new (w.alloc (.cells #[.int .i64 0, .int .i64 0, .int .i64 0, .int .i64 0, .int .i64 0, .int .i64 0] 23)) #[.int .i64 0, .int .i64 0, .int .i64 0, .int .i64 0, .int .i64 0, .int .i64 7200] 23; simpa using this)
  have hB := hide (show But b w ((w.alloc (.cells #[.int .i64 0, .int .i64 0, .int .i64 0, .int .i64 0, .int .i64 0, .int .i64 0] 23)).alloc (.cells #[.int .i64 0, .int .i64 0, .int .i64 0, .int .i64 0, .int .i64 0, .int .i64 7200] 23)) from ((But.refl b w).alloc _).alloc _)
  have P := hide (show Pz ((w.alloc (.cells #[.int .i64 0, .int .i64 0, .int .i64 0, .int .i64 0, .int .i64 0, .int .i64 0] 23)).alloc (.cells #[.int .i64 0, .int .i64 0, .int .i64 0, .int .i64 0, .int .i64 0, .int .i64 7200] 23)) b s k from (hp.below (bl_new _ _)).below (bl_new _ _))
  clear hp
  clear hc hd h1 h2 h3 h4
  go_enter Tryz.func33, Tryz.ntmps33
  go_wp2_with (refine wpList_store_row rfl 23 _ _ rfl _ _ rfl rfl _ _ (heap_alloc_last _ _) (by kernel_rfl) rfl (by simp [Value.oneCell']) ?_; rw [World.setRow_alloc_new])
  generalize (w.alloc (.cells #[.int .i64 0, .int .i64 0, .int .i64 0, .int .i64 0, .int .i64 0, .int .i64 0] 23)).alloc (.cells #[.int .i64 0, .int .i64 0, .int .i64 0, .int .i64 0, .int .i64 0, .int .i64 7200] 23) = v0 at *
  go_wp2_with fail
  refine (C0.out _ P.out).mono ?_
  rintro e v1 ⟨rfl, h1⟩
  replace P := hide (P.out.below h1)
  replace hR := hide (hR.out.below h1)
  replace hD := hide (hD.out.below h1)
  replace hB := hide (hB.out.next h1)
  clear h1
  go_wp2_with fail
  refine (C1.out _ P.out).mono ?_
  rintro e v2 ⟨rfl, p1, h1⟩
  replace hR := hide (hR.out.but h1 (by omega))
  replace hD := hide (hD.out.but h1 (by omega))
  replace hB := hide (hB.out.trans h1)
  clear h1
  replace P := hide (p1.cast (show _ = ((k + 1 : Nat) : Int) by omega))
  clear p1
  go_wp2_with fail
  refine (C2.out _ P.out).mono ?_
  rintro e v3 ⟨rfl, p1, h1⟩
  replace hR := hide (hR.out.but h1 (by omega))
  replace hD := hide (hD.out.but h1 (by omega))
  replace hB := hide (hB.out.trans h1)
  clear h1
  replace P := hide (p1.cast (show _ = ((k + 1 + i : Nat) : Int) by omega))
  clear p1
  obtain ⟨p0, q0⟩ := ro_cf hD.out 0 _ rfl
  obtain ⟨p2, q2⟩ := ro_cf hD.out 2 _ rfl
  go_upto_region 7 with fail
  clear p0 q0 p2 q2
  replace hD := hide (show Ro (v3.setCell ⟨w.heap.size + 1, 0, none⟩ (.int .i64 3)) (w.heap.size + 1) #[.int .i64 3, .int .i64 0, .int .i64 0, .int .i64 0, .int .i64 0, .int .i64 7200] 23 from ro_set hD.out 0 (.int .i64 3))
  replace hR := hide (show Ro (v3.setCell ⟨w.heap.size + 1, 0, none⟩ (.int .i64 3)) (w.heap.size) _ _ from ro_set_ne hR.out (show w.heap.size + 1 ≠ w.heap.size by omega) 0 (.int .i64 3))
  replace P := hide (show Pz (v3.setCell ⟨w.heap.size + 1, 0, none⟩ (.int .i64 3)) b s _ from P.out.set_ne 0 (show w.heap.size + 1 ≠ b by omega) (.int .i64 3))
  replace hB := hide (show But b w (v3.setCell ⟨w.heap.size + 1, 0, none⟩ (.int .i64 3)) from hB.out.setNew (show w.heap.size ≤ w.heap.size + 1 by omega) (.int .i64 3))
  generalize v3.setCell ⟨w.heap.size + 1, 0, none⟩ (.int .i64 3) = v4 at *
  replace hD := hide (show Ro (v4.setCell ⟨w.heap.size + 1, 2, none⟩ (.int .i64 m)) (w.heap.size + 1) #[.int .i64 3, .int .i64 0, .int .i64 m, .int .i64 0, .int .i64 0, .int .i64 7200] 23 from ro_set hD.out 2 (.int .i64 m))
  replace hR := hide (show Ro (v4.setCell ⟨w.heap.size + 1, 2, none⟩ (.int .i64 m)) (w.heap.size) _ _ from ro_set_ne hR.out (show w.heap.size + 1 ≠ w.heap.size by omega) 2 (.int .i64 m))
  replace P := hide (show Pz (v4.setCell ⟨w.heap.size + 1, 2, none⟩ (.int .i64 m)) b s _ from P.out.set_ne 2 (show w.heap.size + 1 ≠ b by omega) (.int .i64 m))
  replace hB := hide (show But b w (v4.setCell ⟨w.heap.size + 1, 2, none⟩ (.int .i64 m)) from hB.out.setNew (show w.heap.size ≤ w.heap.size + 1 by omega) (.int .i64 m))
  generalize v4.setCell ⟨w.heap.size + 1, 2, none⟩ (.int .i64 m) = v5 at *
  go_wp2_with fail
  refine (C3.out _ P.out).mono ?_
  rintro e v6 ⟨rfl, p1, h1⟩
  replace hR := hide (hR.out.but h1 (by omega))
  replace hD := hide (hD.out.but h1 (by omega))
  replace hB := hide (hB.out.trans h1)
  clear h1
  replace P := hide (p1.cast (show _ = ((k + 1 + i + 1 : Nat) : Int) by omega))
  clear p1
  go_wp2_with fail
  refine (C4.out _ P.out).mono ?_
  rintro e v7 ⟨rfl, p1, h1⟩
  replace hR := hide (hR.out.but h1 (by omega))
  replace hD := hide (hD.out.but h1 (by omega))
  replace hB := hide (hB.out.trans h1)
  clear h1
  replace P := hide (p1.cast (show _ = ((k + 1 + i + 1 + j : Nat) : Int) by omega))
  clear p1
  obtain ⟨p3, q3⟩ := ro_cf hD.out 3 _ rfl
  go_upto_region 9 with fail
  clear p3 q3
  replace hD := hide (show Ro (v7.setCell ⟨w.heap.size + 1, 3, none⟩ (.int .i64 y)) (w.heap.size + 1) #[.int .i64 3, .int .i64 0, .int .i64 m, .int .i64 y, .int .i64 0, .int .i64 7200] 23 from ro_set hD.out 3 (.int .i64 y))
  replace hR := hide (show Ro (v7.setCell ⟨w.heap.size + 1, 3, none⟩ (.int .i64 y)) (w.heap.size) _ _ from ro_set_ne hR.out (show w.heap.size + 1 ≠ w.heap.size by omega) 3 (.int .i64 y))
  replace P := hide (show Pz (v7.setCell ⟨w.heap.size + 1, 3, none⟩ (.int .i64 y)) b s _ from P.out.set_ne 3 (show w.heap.size + 1 ≠ b by omega) (.int .i64 y))
  replace hB := hide (show But b w (v7.setCell ⟨w.heap.size + 1, 3, none⟩ (.int .i64 y)) from hB.out.setNew (show w.heap.size ≤ w.heap.size + 1 by omega) (.int .i64 y))
  generalize v7.setCell ⟨w.heap.size + 1, 3, none⟩ (.int .i64 y) = v8 at *
  go_wp2_with fail
  refine (C5.out _ P.out).mono ?_
  rintro e v ⟨rfl, h1⟩
  unfold fail
  go_wp2
  exact ⟨rfl, _, rfl, hB.out.next h1⟩
set_option maxHeartbeats 4000000 in
theorem date_M5 (s : ByteArray) (k b : Nat) (w : World) (hs : s.size ≤ 1000000) (hk : k ≤ s.size) (hp : Pz w b s k) (t : List UInt8) (hc : (rst s k).head? ≠ some 74) (hd : rst s k = 77 :: t) (m : Int) (i : Nat) (h1 : ptNum (rst s (k + 1)) = some (m, i)) (n1 : k + 1 + i ≤ s.size) (t1 : List UInt8) (h2 : rst s (k + 1 + i) = 46 :: t1) (n2 : k + 1 + i + 1 ≤ s.size) (y : Int) (j : Nat) (h3 : ptNum (rst s (k + 1 + i + 1)) = some (y, j)) (n3 : k + 1 + i + 1 + j ≤ s.size) (t2 : List UInt8) (h4 : rst s (k + 1 + i + 1 + j) = 46 :: t2) (n4 : k + 1 + i + 1 + j + 1 ≤ s.size) (h5 : ptNum (rst s (k + 1 + i + 1 + j + 1)) = none) :
    Calls Tryz.prog 33 #[.pointer (some ⟨b, 0, none⟩)] w fun e w' => ∃ q : Int, e = fail q ∧ But b w w' := by
  have hz : k < s.size := by
    have := congrArg List.length hd
    rw [List.length_drop, len_byt, List.length_cons] at this
    omega
  have C0 := hide (fun w hp => skip_no s k b 74 w hs hk hp hc)
  have C1 := hide (fun w hp => skip_yes s k b 77 t w hs hk hp hd)
  have C2 := hide (fun w hp => number_yes s (k + 1) b m i w hs (by omega) hp h1)
  have C3 := hide (fun w hp => expect_yes s (k + 1 + i) b 46 t1 w hs (by omega) hp h2)
  have C4 := hide (fun w hp => number_yes s (k + 1 + i + 1) b y j w hs (by omega) hp h3)
  have C5 := hide (fun w hp => expect_yes s (k + 1 + i + 1 + j) b 46 t2 w hs (by omega) hp h4)
  have C6 := hide (fun w hp => number_no s (k + 1 + i + 1 + j + 1) b w hs (by omega) hp h5)
  have hbl : b < w.heap.size := hp.1
  have hR := hide (show Ro ((w.alloc (.cells #[.int .i64 0, .int .i64 0, .int .i64 0, .int .i64 0, .int .i64 0, .int .i64 0] 23)).alloc (.cells #[.int .i64 0, .int .i64 0, .int .i64 0, .int .i64 0, .int .i64 0, .int .i64 7200] 23)) w.heap.size #[.int .i64 0, .int .i64 0, .int .i64 0, .int .i64 0, .int .i64 0, .int .i64 0] 23 from (Ro.new w #[.int .i64 0, .int .i64 0, .int .i64 0, .int .i64 0, .int .i64 0, .int .i64 0] 23).alloc _)
  have hD := hide (show Ro ((w.alloc (.cells #[.int .i64 0, .int .i64 0, .int .i64 0, .int .i64 0, .int .i64 0, .int .i64 0] 23)).alloc (.cells #[.int .i64 0, .int .i64 0, .int .i64 0, .int .i64 0, .int .i64 0, .int .i64 7200] 23)) (w.heap.size + 1) #[.int .i64 0, .int .i64 0, .int .i64 0, .int .i64 0, .int .i64 0, .int .i64 7200] 23 by have := Ro.new (w.alloc (.cells #[.int .i64 0, .int .i64 0, .int .i64 0, .int .i64 0, .int .i64 0, .int .i64 0] 23)) #[.int .i64 0, .int .i64 0, .int .i64 0, .int .i64 0, .int .i64 0, .int .i64 7200] 23; simpa using this)
  have hB := hide (show But b w ((w.alloc (.cells #[.int .i64 0, .int .i64 0, .int .i64 0, .int .i64 0, .int .i64 0, .int .i64 0] 23)).alloc (.cells #[.int .i64 0, .int .i64 0, .int .i64 0, .int .i64 0, .int .i64 0, .int .i64 7200] 23)) from ((But.refl b w).alloc _).alloc _)
  have P := hide (show Pz ((w.alloc (.cells #[.int .i64 0, .int .i64 0, .int .i64 0, .int .i64 0, .int .i64 0, .int .i64 0] 23)).alloc (.cells #[.int .i64 0, .int .i64 0, .int .i64 0, .int .i64 0, .int .i64 0, .int .i64 7200] 23)) b s k from (hp.below (bl_new _ _)).below (bl_new _ _))
  clear hp
  clear hc hd h1 h2 h3 h4 h5
  go_enter Tryz.func33, Tryz.ntmps33
  go_wp2_with (refine wpList_store_row rfl 23 _ _ rfl _ _ rfl rfl _ _ (heap_alloc_last _ _) (by kernel_rfl) rfl (by simp [Value.oneCell']) ?_; rw [World.setRow_alloc_new])
  generalize (w.alloc (.cells #[.int .i64 0, .int .i64 0, .int .i64 0, .int .i64 0, .int .i64 0, .int .i64 0] 23)).alloc (.cells #[.int .i64 0, .int .i64 0, .int .i64 0, .int .i64 0, .int .i64 0, .int .i64 7200] 23) = v0 at *
  go_wp2_with fail
  refine (C0.out _ P.out).mono ?_
  rintro e v1 ⟨rfl, h1⟩
  replace P := hide (P.out.below h1)
  replace hR := hide (hR.out.below h1)
  replace hD := hide (hD.out.below h1)
  replace hB := hide (hB.out.next h1)
  clear h1
  go_wp2_with fail
  refine (C1.out _ P.out).mono ?_
  rintro e v2 ⟨rfl, p1, h1⟩
  replace hR := hide (hR.out.but h1 (by omega))
  replace hD := hide (hD.out.but h1 (by omega))
  replace hB := hide (hB.out.trans h1)
  clear h1
  replace P := hide (p1.cast (show _ = ((k + 1 : Nat) : Int) by omega))
  clear p1
  go_wp2_with fail
  refine (C2.out _ P.out).mono ?_
  rintro e v3 ⟨rfl, p1, h1⟩
  replace hR := hide (hR.out.but h1 (by omega))
  replace hD := hide (hD.out.but h1 (by omega))
  replace hB := hide (hB.out.trans h1)
  clear h1
  replace P := hide (p1.cast (show _ = ((k + 1 + i : Nat) : Int) by omega))
  clear p1
  obtain ⟨p0, q0⟩ := ro_cf hD.out 0 _ rfl
  obtain ⟨p2, q2⟩ := ro_cf hD.out 2 _ rfl
  go_upto_region 7 with fail
  clear p0 q0 p2 q2
  replace hD := hide (show Ro (v3.setCell ⟨w.heap.size + 1, 0, none⟩ (.int .i64 3)) (w.heap.size + 1) #[.int .i64 3, .int .i64 0, .int .i64 0, .int .i64 0, .int .i64 0, .int .i64 7200] 23 from ro_set hD.out 0 (.int .i64 3))
  replace hR := hide (show Ro (v3.setCell ⟨w.heap.size + 1, 0, none⟩ (.int .i64 3)) (w.heap.size) _ _ from ro_set_ne hR.out (show w.heap.size + 1 ≠ w.heap.size by omega) 0 (.int .i64 3))
  replace P := hide (show Pz (v3.setCell ⟨w.heap.size + 1, 0, none⟩ (.int .i64 3)) b s _ from P.out.set_ne 0 (show w.heap.size + 1 ≠ b by omega) (.int .i64 3))
  replace hB := hide (show But b w (v3.setCell ⟨w.heap.size + 1, 0, none⟩ (.int .i64 3)) from hB.out.setNew (show w.heap.size ≤ w.heap.size + 1 by omega) (.int .i64 3))
  generalize v3.setCell ⟨w.heap.size + 1, 0, none⟩ (.int .i64 3) = v4 at *
  replace hD := hide (show Ro (v4.setCell ⟨w.heap.size + 1, 2, none⟩ (.int .i64 m)) (w.heap.size + 1) #[.int .i64 3, .int .i64 0, .int .i64 m, .int .i64 0, .int .i64 0, .int .i64 7200] 23 from ro_set hD.out 2 (.int .i64 m))
  replace hR := hide (show Ro (v4.setCell ⟨w.heap.size + 1, 2, none⟩ (.int .i64 m)) (w.heap.size) _ _ from ro_set_ne hR.out (show w.heap.size + 1 ≠ w.heap.size by omega) 2 (.int .i64 m))
  replace P := hide (show Pz (v4.setCell ⟨w.heap.size + 1, 2, none⟩ (.int .i64 m)) b s _ from P.out.set_ne 2 (show w.heap.size + 1 ≠ b by omega) (.int .i64 m))
  replace hB := hide (show But b w (v4.setCell ⟨w.heap.size + 1, 2, none⟩ (.int .i64 m)) from hB.out.setNew (show w.heap.size ≤ w.heap.size + 1 by omega) (.int .i64 m))
  generalize v4.setCell ⟨w.heap.size + 1, 2, none⟩ (.int .i64 m) = v5 at *
  go_wp2_with fail
  refine (C3.out _ P.out).mono ?_
  rintro e v6 ⟨rfl, p1, h1⟩
  replace hR := hide (hR.out.but h1 (by omega))
  replace hD := hide (hD.out.but h1 (by omega))
  replace hB := hide (hB.out.trans h1)
  clear h1
  replace P := hide (p1.cast (show _ = ((k + 1 + i + 1 : Nat) : Int) by omega))
  clear p1
  go_wp2_with fail
  refine (C4.out _ P.out).mono ?_
  rintro e v7 ⟨rfl, p1, h1⟩
  replace hR := hide (hR.out.but h1 (by omega))
  replace hD := hide (hD.out.but h1 (by omega))
  replace hB := hide (hB.out.trans h1)
  clear h1
  replace P := hide (p1.cast (show _ = ((k + 1 + i + 1 + j : Nat) : Int) by omega))
  clear p1
  obtain ⟨p3, q3⟩ := ro_cf hD.out 3 _ rfl
  go_upto_region 9 with fail
  clear p3 q3
  replace hD := hide (show Ro (v7.setCell ⟨w.heap.size + 1, 3, none⟩ (.int .i64 y)) (w.heap.size + 1) #[.int .i64 3, .int .i64 0, .int .i64 m, .int .i64 y, .int .i64 0, .int .i64 7200] 23 from ro_set hD.out 3 (.int .i64 y))
  replace hR := hide (show Ro (v7.setCell ⟨w.heap.size + 1, 3, none⟩ (.int .i64 y)) (w.heap.size) _ _ from ro_set_ne hR.out (show w.heap.size + 1 ≠ w.heap.size by omega) 3 (.int .i64 y))
  replace P := hide (show Pz (v7.setCell ⟨w.heap.size + 1, 3, none⟩ (.int .i64 y)) b s _ from P.out.set_ne 3 (show w.heap.size + 1 ≠ b by omega) (.int .i64 y))
  replace hB := hide (show But b w (v7.setCell ⟨w.heap.size + 1, 3, none⟩ (.int .i64 y)) from hB.out.setNew (show w.heap.size ≤ w.heap.size + 1 by omega) (.int .i64 y))
  generalize v7.setCell ⟨w.heap.size + 1, 3, none⟩ (.int .i64 y) = v8 at *
  go_wp2_with fail
  refine (C5.out _ P.out).mono ?_
  rintro e v9 ⟨rfl, p1, h1⟩
  replace hR := hide (hR.out.but h1 (by omega))
  replace hD := hide (hD.out.but h1 (by omega))
  replace hB := hide (hB.out.trans h1)
  clear h1
  replace P := hide (p1.cast (show _ = ((k + 1 + i + 1 + j + 1 : Nat) : Int) by omega))
  clear p1
  go_wp2_with fail
  refine (C6.out _ P.out).mono ?_
  rintro e v ⟨rfl, h1⟩
  unfold fail
  go_wp2
  exact ⟨rfl, _, rfl, hB.out.next h1⟩
end po_
end Go.Proofs.YtjjmkbofddbnnaaGreatDoor

/-
  CONTRACTS OF posixtz's PARSER: a date and its time, way by way, of the code that landed at 120e3cd. Condition: a text of at most 1,000,000 bytes.
-/
import Derived.Test.YtjjmkbofddbnnaaGreatDoorPs2
namespace Go.Proofs.YtjjmkbofddbnnaaGreatDoor
open Go.ChangeShapes Go.WideShapes Go.ChangeAt Go.RowKit
set_option linter.unusedVariables false
set_option maxRecDepth 100000
namespace po_
set_option maxHeartbeats 2000000 in
theorem dat_0 (s : ByteArray) (k b : Nat) (w : World) (hs : s.size ≤ 1000000) (hk : k ≤ s.size) (hp : Pz w b s k) (hd : ∀ w, Pz w b s k → Calls Tryz.prog 33 #[.pointer (some ⟨b, 0, none⟩)] w fun e w' => ∃ q : Int, e = fail q ∧ But b w w') :
    Calls Tryz.prog 23 #[.pointer (some ⟨b, 0, none⟩)] w fun e w' => ∃ q : Int, e = fail q ∧ But b w w' := by
  have D := hide hd
  have hbl : b < w.heap.size := hp.1
  have hR := hide (Ro.new w #[.int .i64 0, .int .i64 0, .int .i64 0, .int .i64 0, .int .i64 0, .int .i64 0] 23)
  have hB := hide ((But.refl b w).alloc (.cells #[.int .i64 0, .int .i64 0, .int .i64 0, .int .i64 0, .int .i64 0, .int .i64 0] 23))
  have P := hide (hp.below (bl_new w (.cells #[.int .i64 0, .int .i64 0, .int .i64 0, .int .i64 0, .int .i64 0, .int .i64 0] 23)))
  clear hp
  clear hd
  go_enter Tryz.func23, Tryz.ntmps23
  go_wp2_with fail
  generalize w.alloc (.cells #[.int .i64 0, .int .i64 0, .int .i64 0, .int .i64 0, .int .i64 0, .int .i64 0] 23) = v0 at *
  refine (D.out _ P.out).mono ?_
  rintro e v ⟨q, rfl, h1⟩
  unfold fail
  go_wp2
  exact ⟨rfl, _, rfl, hB.out.trans h1⟩
set_option maxHeartbeats 2000000 in
theorem dat_n1 (s : ByteArray) (k b : Nat) (w : World) (hs : s.size ≤ 1000000) (hk : k ≤ s.size) (hp : Pz w b s k) (a c d z f : Int) (n : Nat) (hn : k + n ≤ s.size) (hd : ∀ w, Pz w b s k → Calls Tryz.prog 33 #[.pointer (some ⟨b, 0, none⟩)] w fun e' w' => e' = .returned (.agg #[.int .i64 a, .int .i64 c, .int .i64 d, .int .i64 z, .int .i64 f, .int .i64 7200]) ∧ Pz w' b s ((k + n : Nat) : Int) ∧ But b w w') (hv : ∀ w, Calls Tryz.prog 26 #[.agg #[.int .i64 a, .int .i64 c, .int .i64 d, .int .i64 z, .int .i64 f, .int .i64 7200]] w fun e' w' => e' = .returned (.bool true) ∧ Below w.heap.size w w') (h1 : (rst s (k + n)).head? ≠ some 47) :
    Calls Tryz.prog 23 #[.pointer (some ⟨b, 0, none⟩)] w fun e w' => e = .returned (.agg #[.int .i64 a, .int .i64 c, .int .i64 d, .int .i64 z, .int .i64 f, .int .i64 7200]) ∧ Pz w' b s ((k + n : Nat) : Int) ∧ But b w w' := by
  have D := hide hd
  have K := hide (fun w hp => skip_no s (k + n) b 47 w hs hn hp h1)
  clear h1
  have V := hide hv
  have hbl : b < w.heap.size := hp.1
  have hR := hide (Ro.new w #[.int .i64 0, .int .i64 0, .int .i64 0, .int .i64 0, .int .i64 0, .int .i64 0] 23)
  have hB := hide ((But.refl b w).alloc (.cells #[.int .i64 0, .int .i64 0, .int .i64 0, .int .i64 0, .int .i64 0, .int .i64 0] 23))
  have P := hide (hp.below (bl_new w (.cells #[.int .i64 0, .int .i64 0, .int .i64 0, .int .i64 0, .int .i64 0, .int .i64 0] 23)))
  clear hp
  clear hd hv
  go_enter Tryz.func23, Tryz.ntmps23
  go_wp2_with fail
  generalize w.alloc (.cells #[.int .i64 0, .int .i64 0, .int .i64 0, .int .i64 0, .int .i64 0, .int .i64 0] 23) = v0 at *
  refine (D.out _ P.out).mono ?_
  rintro e v1 ⟨rfl, p1, h1⟩
  replace hR := hide (hR.out.but h1 (by omega))
  replace hB := hide (hB.out.trans h1)
  replace P := hide p1
  clear h1 p1
  have hg : w.heap.size < v1.heap.size := hR.out.lt
  have hD := hide (Ro.new v1 #[.int .i64 a, .int .i64 c, .int .i64 d, .int .i64 z, .int .i64 f, .int .i64 7200] 23)
  replace hR := hide (hR.out.alloc (.cells #[.int .i64 a, .int .i64 c, .int .i64 d, .int .i64 z, .int .i64 f, .int .i64 7200] 23))
  replace hB := hide (hB.out.alloc (.cells #[.int .i64 a, .int .i64 c, .int .i64 d, .int .i64 z, .int .i64 f, .int .i64 7200] 23))
  replace P := hide (P.out.below (bl_new v1 (.cells #[.int .i64 a, .int .i64 c, .int .i64 d, .int .i64 z, .int .i64 f, .int .i64 7200] 23)))
  go_wp2_with (refine wpList_store_row rfl 23 _ _ rfl _ _ rfl rfl _ _ (heap_alloc_last _ _) (by kernel_rfl) rfl (by simp [Value.oneCell']) ?_; rw [World.setRow_alloc_new])
  generalize v1.alloc (.cells #[.int .i64 a, .int .i64 c, .int .i64 d, .int .i64 z, .int .i64 f, .int .i64 7200] 23) = v9 at *
  generalize v1.heap.size = g1 at *
  refine (K.out _ P.out).mono ?_
  rintro e v2 ⟨rfl, h1⟩
  replace P := hide (P.out.below h1)
  replace hR := hide (hR.out.below h1)
  replace hD := hide (hD.out.below h1)
  replace hB := hide (hB.out.next h1)
  clear h1
  have G : Gr Tryz.prog 23 6 #[.int .i64 a, .int .i64 c, .int .i64 d, .int .i64 z, .int .i64 f, .int .i64 7200] := ⟨by kernel_rfl, rfl, by simp [Value.oneCell']⟩
  go_wp2_with (refine load_row_g (by rfl) 23 _ rfl _ rfl _ _ _ hD.out Tryz.underlying23 rfl G.1 ?_)
  refine (V.out _).mono ?_
  rintro e v3 ⟨rfl, h1⟩
  replace P := hide (P.out.below h1)
  replace hR := hide (hR.out.below h1)
  replace hD := hide (hD.out.below h1)
  replace hB := hide (hB.out.next h1)
  clear h1
  go_wp2_with fail
  refine (require_yes b _).mono ?_
  rintro e v ⟨rfl, rfl⟩
  go_wp2_with (first | (refine wpList_store_row rfl 23 _ _ rfl _ _ rfl rfl _ _ hR.out G.1 rfl G.2.2 ?_) | (refine load_row_g (by rfl) 23 _ rfl _ rfl _ _ _ hD.out Tryz.underlying23 rfl G.1 ?_))
  have hl := ((ro_row hR.out #[.int .i64 a, .int .i64 c, .int .i64 d, .int .i64 z, .int .i64 f, .int .i64 7200]).load 23 _ Tryz.underlying23 rfl G.1).2
  exact bodyPost_ret (results_c Tryz.results23 rfl hl) rfl ⟨rfl, P.out.row (by omega) _, hB.out.row (by omega) _⟩
set_option maxHeartbeats 2000000 in
theorem dat_n0 (s : ByteArray) (k b : Nat) (w : World) (hs : s.size ≤ 1000000) (hk : k ≤ s.size) (hp : Pz w b s k) (a c d z f : Int) (n : Nat) (hn : k + n ≤ s.size) (hd : ∀ w, Pz w b s k → Calls Tryz.prog 33 #[.pointer (some ⟨b, 0, none⟩)] w fun e' w' => e' = .returned (.agg #[.int .i64 a, .int .i64 c, .int .i64 d, .int .i64 z, .int .i64 f, .int .i64 7200]) ∧ Pz w' b s ((k + n : Nat) : Int) ∧ But b w w') (hv : ∀ w, Calls Tryz.prog 26 #[.agg #[.int .i64 a, .int .i64 c, .int .i64 d, .int .i64 z, .int .i64 f, .int .i64 7200]] w fun e' w' => e' = .returned (.bool false) ∧ Below w.heap.size w w') (h1 : (rst s (k + n)).head? ≠ some 47) :
    Calls Tryz.prog 23 #[.pointer (some ⟨b, 0, none⟩)] w fun e w' => ∃ q : Int, e = fail q ∧ But b w w' := by
  have D := hide hd
  have K := hide (fun w hp => skip_no s (k + n) b 47 w hs hn hp h1)
  clear h1
  have V := hide hv
  have hbl : b < w.heap.size := hp.1
  have hR := hide (Ro.new w #[.int .i64 0, .int .i64 0, .int .i64 0, .int .i64 0, .int .i64 0, .int .i64 0] 23)
  have hB := hide ((But.refl b w).alloc (.cells #[.int .i64 0, .int .i64 0, .int .i64 0, .int .i64 0, .int .i64 0, .int .i64 0] 23))
  have P := hide (hp.below (bl_new w (.cells #[.int .i64 0, .int .i64 0, .int .i64 0, .int .i64 0, .int .i64 0, .int .i64 0] 23)))
  clear hp
  clear hd hv
  go_enter Tryz.func23, Tryz.ntmps23
  go_wp2_with fail
  generalize w.alloc (.cells #[.int .i64 0, .int .i64 0, .int .i64 0, .int .i64 0, .int .i64 0, .int .i64 0] 23) = v0 at *
  refine (D.out _ P.out).mono ?_
  rintro e v1 ⟨rfl, p1, h1⟩
  replace hR := hide (hR.out.but h1 (by omega))
  replace hB := hide (hB.out.trans h1)
  replace P := hide p1
  clear h1 p1
  have hg : w.heap.size < v1.heap.size := hR.out.lt
  have hD := hide (Ro.new v1 #[.int .i64 a, .int .i64 c, .int .i64 d, .int .i64 z, .int .i64 f, .int .i64 7200] 23)
  replace hR := hide (hR.out.alloc (.cells #[.int .i64 a, .int .i64 c, .int .i64 d, .int .i64 z, .int .i64 f, .int .i64 7200] 23))
  replace hB := hide (hB.out.alloc (.cells #[.int .i64 a, .int .i64 c, .int .i64 d, .int .i64 z, .int .i64 f, .int .i64 7200] 23))
  replace P := hide (P.out.below (bl_new v1 (.cells #[.int .i64 a, .int .i64 c, .int .i64 d, .int .i64 z, .int .i64 f, .int .i64 7200] 23)))
  go_wp2_with (refine wpList_store_row rfl 23 _ _ rfl _ _ rfl rfl _ _ (heap_alloc_last _ _) (by kernel_rfl) rfl (by simp [Value.oneCell']) ?_; rw [World.setRow_alloc_new])
  generalize v1.alloc (.cells #[.int .i64 a, .int .i64 c, .int .i64 d, .int .i64 z, .int .i64 f, .int .i64 7200] 23) = v9 at *
  generalize v1.heap.size = g1 at *
  refine (K.out _ P.out).mono ?_
  rintro e v2 ⟨rfl, h1⟩
  replace P := hide (P.out.below h1)
  replace hR := hide (hR.out.below h1)
  replace hD := hide (hD.out.below h1)
  replace hB := hide (hB.out.next h1)
  clear h1
  have G : Gr Tryz.prog 23 6 #[.int .i64 a, .int .i64 c, .int .i64 d, .int .i64 z, .int .i64 f, .int .i64 7200] := ⟨by kernel_rfl, rfl, by simp [Value.oneCell']⟩
  go_wp2_with (refine load_row_g (by rfl) 23 _ rfl _ rfl _ _ _ hD.out Tryz.underlying23 rfl G.1 ?_)
  refine (V.out _).mono ?_
  rintro e v3 ⟨rfl, h1⟩
  replace P := hide (P.out.below h1)
  replace hR := hide (hR.out.below h1)
  replace hD := hide (hD.out.below h1)
  replace hB := hide (hB.out.next h1)
  clear h1
  go_wp2_with fail
  refine (require_no s ((k + n : Nat) : Int) b _ P.out).mono ?_
  rintro e v ⟨rfl, rfl⟩
  unfold fail
  go_wp2
  exact ⟨rfl, _, rfl, hB.out⟩
set_option maxHeartbeats 2000000 in
theorem dat_f (s : ByteArray) (k b : Nat) (w : World) (hs : s.size ≤ 1000000) (hk : k ≤ s.size) (hp : Pz w b s k) (a c d z f : Int) (n : Nat) (hn : k + n ≤ s.size) (hd : ∀ w, Pz w b s k → Calls Tryz.prog 33 #[.pointer (some ⟨b, 0, none⟩)] w fun e' w' => e' = .returned (.agg #[.int .i64 a, .int .i64 c, .int .i64 d, .int .i64 z, .int .i64 f, .int .i64 7200]) ∧ Pz w' b s ((k + n : Nat) : Int) ∧ But b w w') (t : List UInt8) (h1 : rst s (k + n) = 47 :: t) (h2 : hmsParse (rst s (k + n + 1)) = none) :
    Calls Tryz.prog 23 #[.pointer (some ⟨b, 0, none⟩)] w fun e w' => ∃ q : Int, e = fail q ∧ But b w w' := by
  have D := hide hd
  have K := hide (fun w hp => skip_yes s (k + n) b 47 t w hs hn hp h1)
  have hn1 : k + n < s.size := by
    have := congrArg List.length h1
    rw [List.length_drop, len_byt, List.length_cons] at this
    omega
  clear h1
  have U := hide (fun w hp => duration_no s (k + n + 1) b w hs (by omega) hp h2)
  clear h2
  have hbl : b < w.heap.size := hp.1
  have hR := hide (Ro.new w #[.int .i64 0, .int .i64 0, .int .i64 0, .int .i64 0, .int .i64 0, .int .i64 0] 23)
  have hB := hide ((But.refl b w).alloc (.cells #[.int .i64 0, .int .i64 0, .int .i64 0, .int .i64 0, .int .i64 0, .int .i64 0] 23))
  have P := hide (hp.below (bl_new w (.cells #[.int .i64 0, .int .i64 0, .int .i64 0, .int .i64 0, .int .i64 0, .int .i64 0] 23)))
  clear hp
  clear hd
  go_enter Tryz.func23, Tryz.ntmps23
  go_wp2_with fail
  generalize w.alloc (.cells #[.int .i64 0, .int .i64 0, .int .i64 0, .int .i64 0, .int .i64 0, .int .i64 0] 23) = v0 at *
  refine (D.out _ P.out).mono ?_
  rintro e v1 ⟨rfl, p1, h1⟩
  replace hR := hide (hR.out.but h1 (by omega))
  replace hB := hide (hB.out.trans h1)
  replace P := hide p1
  clear h1 p1
  have hg : w.heap.size < v1.heap.size := hR.out.lt
  have hD := hide (Ro.new v1 #[.int .i64 a, .int .i64 c, .int .i64 d, .int .i64 z, .int .i64 f, .int .i64 7200] 23)
  replace hR := hide (hR.out.alloc (.cells #[.int .i64 a, .int .i64 c, .int .i64 d, .int .i64 z, .int .i64 f, .int .i64 7200] 23))
  replace hB := hide (hB.out.alloc (.cells #[.int .i64 a, .int .i64 c, .int .i64 d, .int .i64 z, .int .i64 f, .int .i64 7200] 23))
  replace P := hide (P.out.below (bl_new v1 (.cells #[.int .i64 a, .int .i64 c, .int .i64 d, .int .i64 z, .int .i64 f, .int .i64 7200] 23)))
  go_wp2_with (refine wpList_store_row rfl 23 _ _ rfl _ _ rfl rfl _ _ (heap_alloc_last _ _) (by kernel_rfl) rfl (by simp [Value.oneCell']) ?_; rw [World.setRow_alloc_new])
  generalize v1.alloc (.cells #[.int .i64 a, .int .i64 c, .int .i64 d, .int .i64 z, .int .i64 f, .int .i64 7200] 23) = v9 at *
  generalize v1.heap.size = g1 at *
  refine (K.out _ P.out).mono ?_
  rintro e v2 ⟨rfl, p1, h1⟩
  replace P := hide (p1.cast (show _ = ((k + n + 1 : Nat) : Int) by omega))
  replace hR := hide (hR.out.but h1 (by omega))
  replace hD := hide (hD.out.but h1 (by omega))
  replace hB := hide (hB.out.trans h1)
  clear h1 p1
  go_wp2_with fail
  refine (U.out _ P.out).mono ?_
  rintro e v ⟨rfl, h1⟩
  unfold fail
  go_wp2
  exact ⟨rfl, _, rfl, hB.out.next h1⟩
set_option maxHeartbeats 2000000 in
theorem dat_y1 (s : ByteArray) (k b : Nat) (w : World) (hs : s.size ≤ 1000000) (hk : k ≤ s.size) (hp : Pz w b s k) (a c d z f : Int) (n : Nat) (hn : k + n ≤ s.size) (hd : ∀ w, Pz w b s k → Calls Tryz.prog 33 #[.pointer (some ⟨b, 0, none⟩)] w fun e' w' => e' = .returned (.agg #[.int .i64 a, .int .i64 c, .int .i64 d, .int .i64 z, .int .i64 f, .int .i64 7200]) ∧ Pz w' b s ((k + n : Nat) : Int) ∧ But b w w') (t : List UInt8) (h1 : rst s (k + n) = 47 :: t) (v : Int) (m : Nat) (h2 : hmsParse (rst s (k + n + 1)) = some (v, m)) (hm : k + n + 1 + m ≤ s.size) (hv : ∀ w, Calls Tryz.prog 26 #[.agg #[.int .i64 a, .int .i64 c, .int .i64 d, .int .i64 z, .int .i64 f, .int .i64 v]] w fun e' w' => e' = .returned (.bool true) ∧ Below w.heap.size w w') :
    Calls Tryz.prog 23 #[.pointer (some ⟨b, 0, none⟩)] w fun e w' => e = .returned (.agg #[.int .i64 a, .int .i64 c, .int .i64 d, .int .i64 z, .int .i64 f, .int .i64 v]) ∧ Pz w' b s ((k + n + 1 + m : Nat) : Int) ∧ But b w w' := by
  have D := hide hd
  have K := hide (fun w hp => skip_yes s (k + n) b 47 t w hs hn hp h1)
  have hn1 : k + n < s.size := by
    have := congrArg List.length h1
    rw [List.length_drop, len_byt, List.length_cons] at this
    omega
  clear h1
  have U := hide (fun w hp => duration_yes s (k + n + 1) b v m w hs (by omega) hp h2)
  clear h2
  have V := hide hv
  have hbl : b < w.heap.size := hp.1
  have hR := hide (Ro.new w #[.int .i64 0, .int .i64 0, .int .i64 0, .int .i64 0, .int .i64 0, .int .i64 0] 23)
  have hB := hide ((But.refl b w).alloc (.cells #[.int .i64 0, .int .i64 0, .int .i64 0, .int .i64 0, .int .i64 0, .int .i64 0] 23))
  have P := hide (hp.below (bl_new w (.cells #[.int .i64 0, .int .i64 0, .int .i64 0, .int .i64 0, .int .i64 0, .int .i64 0] 23)))
  clear hp
  clear hd hv
  go_enter Tryz.func23, Tryz.ntmps23
  go_wp2_with fail
  generalize w.alloc (.cells #[.int .i64 0, .int .i64 0, .int .i64 0, .int .i64 0, .int .i64 0, .int .i64 0] 23) = v0 at *
  refine (D.out _ P.out).mono ?_
  rintro e v1 ⟨rfl, p1, h1⟩
  replace hR := hide (hR.out.but h1 (by omega))
  replace hB := hide (hB.out.trans h1)
  replace P := hide p1
  clear h1 p1
  have hg : w.heap.size < v1.heap.size := hR.out.lt
  have hD := hide (Ro.new v1 #[.int .i64 a, .int .i64 c, .int .i64 d, .int .i64 z, .int .i64 f, .int .i64 7200] 23)
  replace hR := hide (hR.out.alloc (.cells #[.int .i64 a, .int .i64 c, .int .i64 d, .int .i64 z, .int .i64 f, .int .i64 7200] 23))
  replace hB := hide (hB.out.alloc (.cells #[.int .i64 a, .int .i64 c, .int .i64 d, .int .i64 z, .int .i64 f, .int .i64 7200] 23))
  replace P := hide (P.out.below (bl_new v1 (.cells #[.int .i64 a, .int .i64 c, .int .i64 d, .int .i64 z, .int .i64 f, .int .i64 7200] 23)))
  go_wp2_with (refine wpList_store_row rfl 23 _ _ rfl _ _ rfl rfl _ _ (heap_alloc_last _ _) (by kernel_rfl) rfl (by simp [Value.oneCell']) ?_; rw [World.setRow_alloc_new])
  generalize v1.alloc (.cells #[.int .i64 a, .int .i64 c, .int .i64 d, .int .i64 z, .int .i64 f, .int .i64 7200] 23) = v9 at *
  generalize v1.heap.size = g1 at *
  refine (K.out _ P.out).mono ?_
  rintro e v2 ⟨rfl, p1, h1⟩
  replace P := hide (p1.cast (show _ = ((k + n + 1 : Nat) : Int) by omega))
  replace hR := hide (hR.out.but h1 (by omega))
  replace hD := hide (hD.out.but h1 (by omega))
  replace hB := hide (hB.out.trans h1)
  clear h1 p1
  go_wp2_with fail
  refine (U.out _ P.out).mono ?_
  rintro e v3 ⟨rfl, p1, h1⟩
  replace hR := hide (hR.out.but h1 (by omega))
  replace hD := hide (hD.out.but h1 (by omega))
  replace hB := hide (hB.out.trans h1)
  clear h1
  replace P := hide (p1.cast (show _ = ((k + n + 1 + m : Nat) : Int) by omega))
  clear p1
  obtain ⟨p5, q5⟩ := ro_cf hD.out 5 _ rfl
  go_upto_region 4 with fail
  clear p5 q5
  replace hD := hide (show Ro (v3.setCell ⟨g1, 5, none⟩ (.int .i64 v)) (g1) #[.int .i64 a, .int .i64 c, .int .i64 d, .int .i64 z, .int .i64 f, .int .i64 v] 23 from ro_set hD.out 5 (.int .i64 v))
  replace hR := hide (show Ro (v3.setCell ⟨g1, 5, none⟩ (.int .i64 v)) (w.heap.size) _ _ from ro_set_ne hR.out (show g1 ≠ w.heap.size by omega) 5 (.int .i64 v))
  replace P := hide (show Pz (v3.setCell ⟨g1, 5, none⟩ (.int .i64 v)) b s _ from P.out.set_ne 5 (show g1 ≠ b by omega) (.int .i64 v))
  replace hB := hide (show But b w (v3.setCell ⟨g1, 5, none⟩ (.int .i64 v)) from hB.out.setNew (show w.heap.size ≤ g1 by omega) (.int .i64 v))
  generalize v3.setCell ⟨g1, 5, none⟩ (.int .i64 v) = v4 at *
  have G : Gr Tryz.prog 23 6 #[.int .i64 a, .int .i64 c, .int .i64 d, .int .i64 z, .int .i64 f, .int .i64 v] := ⟨by kernel_rfl, rfl, by simp [Value.oneCell']⟩
  go_wp2_with (refine load_row_g (by rfl) 23 _ rfl _ rfl _ _ _ hD.out Tryz.underlying23 rfl G.1 ?_)
  refine (V.out _).mono ?_
  rintro e v5 ⟨rfl, h1⟩
  replace P := hide (P.out.below h1)
  replace hR := hide (hR.out.below h1)
  replace hD := hide (hD.out.below h1)
  replace hB := hide (hB.out.next h1)
  clear h1
  go_wp2_with fail
  refine (require_yes b _).mono ?_
  rintro e v ⟨rfl, rfl⟩
  go_wp2_with (first | (refine wpList_store_row rfl 23 _ _ rfl _ _ rfl rfl _ _ hR.out G.1 rfl G.2.2 ?_) | (refine load_row_g (by rfl) 23 _ rfl _ rfl _ _ _ hD.out Tryz.underlying23 rfl G.1 ?_))
  have hl := ((ro_row hR.out #[.int .i64 a, .int .i64 c, .int .i64 d, .int .i64 z, .int .i64 f, .int .i64 v]).load 23 _ Tryz.underlying23 rfl G.1).2
  exact bodyPost_ret (results_c Tryz.results23 rfl hl) rfl ⟨rfl, P.out.row (by omega) _, hB.out.row (by omega) _⟩
set_option maxHeartbeats 2000000 in
theorem dat_y0 (s : ByteArray) (k b : Nat) (w : World) (hs : s.size ≤ 1000000) (hk : k ≤ s.size) (hp : Pz w b s k) (a c d z f : Int) (n : Nat) (hn : k + n ≤ s.size) (hd : ∀ w, Pz w b s k → Calls Tryz.prog 33 #[.pointer (some ⟨b, 0, none⟩)] w fun e' w' => e' = .returned (.agg #[.int .i64 a, .int .i64 c, .int .i64 d, .int .i64 z, .int .i64 f, .int .i64 7200]) ∧ Pz w' b s ((k + n : Nat) : Int) ∧ But b w w') (t : List UInt8) (h1 : rst s (k + n) = 47 :: t) (v : Int) (m : Nat) (h2 : hmsParse (rst s (k + n + 1)) = some (v, m)) (hm : k + n + 1 + m ≤ s.size) (hv : ∀ w, Calls Tryz.prog 26 #[.agg #[.int .i64 a, .int .i64 c, .int .i64 d, .int .i64 z, .int .i64 f, .int .i64 v]] w fun e' w' => e' = .returned (.bool false) ∧ Below w.heap.size w w') :
    Calls Tryz.prog 23 #[.pointer (some ⟨b, 0, none⟩)] w fun e w' => ∃ q : Int, e = fail q ∧ But b w w' := by
  have D := hide hd
  have K := hide (fun w hp => skip_yes s (k + n) b 47 t w hs hn hp h1)
  have hn1 : k + n < s.size := by
    have := congrArg List.length h1
    rw [List.length_drop, len_byt, List.length_cons] at this
    omega
  clear h1
  have U := hide (fun w hp => duration_yes s (k + n + 1) b v m w hs (by omega) hp h2)
  clear h2
  have V := hide hv
  have hbl : b < w.heap.size := hp.1
  have hR := hide (Ro.new w #[.int .i64 0, .int .i64 0, .int .i64 0, .int .i64 0, .int .i64 0, .int .i64 0] 23)
  have hB := hide ((But.refl b w).alloc (.cells #[.int .i64 0, .int .i64 0, .int .i64 0, .int .i64 0, .int .i64 0, .int .i64 0] 23))
  have P := hide (hp.below (bl_new w (.cells #[.int .i64 0, .int .i64 0, .int .i64 0, .int .i64 0, .int .i64 0, .int .i64 0] 23)))
  clear hp
  clear hd hv
  go_enter Tryz.func23, Tryz.ntmps23
  go_wp2_with fail
  generalize w.alloc (.cells #[.int .i64 0, .int .i64 0, .int .i64 0, .int .i64 0, .int .i64 0, .int .i64 0] 23) = v0 at *
  refine (D.out _ P.out).mono ?_
  rintro e v1 ⟨rfl, p1, h1⟩
  replace hR := hide (hR.out.but h1 (by omega))
  replace hB := hide (hB.out.trans h1)
  replace P := hide p1
  clear h1 p1
  have hg : w.heap.size < v1.heap.size := hR.out.lt
  have hD := hide (Ro.new v1 #[.int .i64 a, .int .i64 c, .int .i64 d, .int .i64 z, .int .i64 f, .int .i64 7200] 23)
  replace hR := hide (hR.out.alloc (.cells #[.int .i64 a, .int .i64 c, .int .i64 d, .int .i64 z, .int .i64 f, .int .i64 7200] 23))
  replace hB := hide (hB.out.alloc (.cells #[.int .i64 a, .int .i64 c, .int .i64 d, .int .i64 z, .int .i64 f, .int .i64 7200] 23))
  replace P := hide (P.out.below (bl_new v1 (.cells #[.int .i64 a, .int .i64 c, .int .i64 d, .int .i64 z, .int .i64 f, .int .i64 7200] 23)))
  go_wp2_with (refine wpList_store_row rfl 23 _ _ rfl _ _ rfl rfl _ _ (heap_alloc_last _ _) (by kernel_rfl) rfl (by simp [Value.oneCell']) ?_; rw [World.setRow_alloc_new])
  generalize v1.alloc (.cells #[.int .i64 a, .int .i64 c, .int .i64 d, .int .i64 z, .int .i64 f, .int .i64 7200] 23) = v9 at *
  generalize v1.heap.size = g1 at *
  refine (K.out _ P.out).mono ?_
  rintro e v2 ⟨rfl, p1, h1⟩
  replace P := hide (p1.cast (show _ = ((k + n + 1 : Nat) : Int) by omega))
  replace hR := hide (hR.out.but h1 (by omega))
  replace hD := hide (hD.out.but h1 (by omega))
  replace hB := hide (hB.out.trans h1)
  clear h1 p1
  go_wp2_with fail
  refine (U.out _ P.out).mono ?_
  rintro e v3 ⟨rfl, p1, h1⟩
  replace hR := hide (hR.out.but h1 (by omega))
  replace hD := hide (hD.out.but h1 (by omega))
  replace hB := hide (hB.out.trans h1)
  clear h1
  replace P := hide (p1.cast (show _ = ((k + n + 1 + m : Nat) : Int) by omega))
  clear p1
  obtain ⟨p5, q5⟩ := ro_cf hD.out 5 _ rfl
  go_upto_region 4 with fail
  clear p5 q5
  replace hD := hide (show Ro (v3.setCell ⟨g1, 5, none⟩ (.int .i64 v)) (g1) #[.int .i64 a, .int .i64 c, .int .i64 d, .int .i64 z, .int .i64 f, .int .i64 v] 23 from ro_set hD.out 5 (.int .i64 v))
  replace hR := hide (show Ro (v3.setCell ⟨g1, 5, none⟩ (.int .i64 v)) (w.heap.size) _ _ from ro_set_ne hR.out (show g1 ≠ w.heap.size by omega) 5 (.int .i64 v))
  replace P := hide (show Pz (v3.setCell ⟨g1, 5, none⟩ (.int .i64 v)) b s _ from P.out.set_ne 5 (show g1 ≠ b by omega) (.int .i64 v))
  replace hB := hide (show But b w (v3.setCell ⟨g1, 5, none⟩ (.int .i64 v)) from hB.out.setNew (show w.heap.size ≤ g1 by omega) (.int .i64 v))
  generalize v3.setCell ⟨g1, 5, none⟩ (.int .i64 v) = v4 at *
  have G : Gr Tryz.prog 23 6 #[.int .i64 a, .int .i64 c, .int .i64 d, .int .i64 z, .int .i64 f, .int .i64 v] := ⟨by kernel_rfl, rfl, by simp [Value.oneCell']⟩
  go_wp2_with (refine load_row_g (by rfl) 23 _ rfl _ rfl _ _ _ hD.out Tryz.underlying23 rfl G.1 ?_)
  refine (V.out _).mono ?_
  rintro e v5 ⟨rfl, h1⟩
  replace P := hide (P.out.below h1)
  replace hR := hide (hR.out.below h1)
  replace hD := hide (hD.out.below h1)
  replace hB := hide (hB.out.next h1)
  clear h1
  go_wp2_with fail
  refine (require_no s ((k + n + 1 + m : Nat) : Int) b _ P.out).mono ?_
  rintro e v ⟨rfl, rfl⟩
  unfold fail
  go_wp2
  exact ⟨rfl, _, rfl, hB.out⟩
theorem head_kind {l : List UInt8} {h : Int × Int × Int × Int × Int} {n : Nat} (e : ptHead l = some (h, n)) : (Lit.int .i64 h.1).wf = true := by
  unfold ptHead at e
  split at e
  · cases e
  · split at e
    · split at e
      · cases e
      · cases e; rfl
    · split at e
      · split at e
        · cases e
        · split at e
          · cases e
          · split at e
            · cases e
            · cases e; rfl
      · split at e
        · cases e
        · cases e; rfl
theorem dat_ (s : ByteArray) (k b : Nat) (w : World) (hs : s.size ≤ 1000000) (hk : k ≤ s.size) (hp : Pz w b s k) :
    match ptDay (rst s k) with
    | none => Calls Tryz.prog 23 #[.pointer (some ⟨b, 0, none⟩)] w fun e w' => ∃ q : Int, e = fail q ∧ But b w w'
    | some (d, n) => Calls Tryz.prog 23 #[.pointer (some ⟨b, 0, none⟩)] w fun e w' => e = .returned (.agg (rdc d)) ∧ Pz w' b s ((k + n : Nat) : Int) ∧ But b w w' := by
  have D := fun w hp => date_ s k b w hs hk hp
  unfold ptDay
  rcases hh : ptHead (rst s k) with _ | ⟨⟨a, c, d, e, f⟩, n⟩
  · simp only [hh] at D
    exact dat_0 s k b w hs hk hp D
  · simp only [hh] at D
    have hn := (D w hp).2
    replace D := fun w hp => (D w hp).1
    have V := fun v w => rd_.Valid_ a c d e f v w (head_kind hh)
    have A := rst_add s (k + n)
    simp only [ptMk] at D
    dsimp only
    rw [← rst_add]
    rcases ht : rst s (k + n) with _ | ⟨x, t⟩
    · dsimp only
      by_cases hr : RdOk a c d e f 7200
      · rw [if_pos (show rdOk (ptMk (a, c, d, e, f) 7200) from hr)]
        exact dat_n1 s k b w hs hk hp a c d e f n hn D (fun w => by have := V 7200 w; rwa [decide_eq_true hr] at this) (by rw [ht]; simp)
      · rw [if_neg (show ¬ rdOk (ptMk (a, c, d, e, f) 7200) from hr)]
        exact dat_n0 s k b w hs hk hp a c d e f n hn D (fun w => by have := V 7200 w; rwa [decide_eq_false hr] at this) (by rw [ht]; simp)
    · have hl := rst_len s (k + n)
      rw [ht, List.length_cons] at hl
      have A1 : rst s (k + n + 1) = t := by rw [A, ht]; rfl
      dsimp only
      by_cases h47 : (x.toNat : Int) = 47
      · have hx : x = 47 := u8_of h47
        subst hx
        simp only [h47, if_true]
        rcases h2 : hmsParse t with _ | ⟨v, m⟩
        · exact dat_f s k b w hs hk hp a c d e f n hn D t ht (by rw [A1]; exact h2)
        · have hb := parse_prefix h2
          simp only []
          by_cases hr : RdOk a c d e f v
          · rw [if_pos (show rdOk (ptMk (a, c, d, e, f) v) from hr)]
            have := dat_y1 s k b w hs hk hp a c d e f n hn D t ht v m (by rw [A1]; exact h2) (by omega) (fun w => by have := V v w; rwa [decide_eq_true hr] at this)
            rw [show k + n + 1 + m = k + (n + 1 + m) by omega] at this
            exact this
          · rw [if_neg (show ¬ rdOk (ptMk (a, c, d, e, f) v) from hr)]
            exact dat_y0 s k b w hs hk hp a c d e f n hn D t ht v m (by rw [A1]; exact h2) (by omega) (fun w => by have := V v w; rwa [decide_eq_false hr] at this)
      · have hx : (rst s (k + n)).head? ≠ some 47 := by rw [ht]; intro e; apply h47; simp at e; rw [e]; rfl
        simp only [h47, if_false]
        by_cases hr : RdOk a c d e f 7200
        · rw [if_pos (show rdOk (ptMk (a, c, d, e, f) 7200) from hr)]
          exact dat_n1 s k b w hs hk hp a c d e f n hn D (fun w => by have := V 7200 w; rwa [decide_eq_true hr] at this) hx
        · rw [if_neg (show ¬ rdOk (ptMk (a, c, d, e, f) 7200) from hr)]
          exact dat_n0 s k b w hs hk hp a c d e f n hn D (fun w => by have := V 7200 w; rwa [decide_eq_false hr] at this) hx
end po_
end Go.Proofs.YtjjmkbofddbnnaaGreatDoor

/-
  CONTRACTS OF posixtz's PARSER: dstOffset, change, daylight, of the code that landed at 120e3cd. Condition: a text of at most 1,000,000 bytes.
-/
import Derived.Test.YtjjmkbofddbnnaaGreatDoorPs4
namespace Go.Proofs.YtjjmkbofddbnnaaGreatDoor
open Go.ChangeShapes Go.WideShapes Go.ChangeAt Go.RowKit
set_option linter.unusedVariables false
set_option maxRecDepth 100000
theorem But2.set' {b g q : Nat} {w w1 : World} (h : But2 b g w w1) (hq : q = b ∨ q = g ∨ w.heap.size ≤ q) (o : Nat) (v : Value) : But2 b g w (w1.setCell ⟨q, o, none⟩ v) :=
  ⟨h.os, h.tape, h.output, by have := h.size; simpa [World.setCell] using this, fun k hk hn hm => (Below.heap_setCell w1 ⟨q, o, none⟩ v k (by show k ≠ q; omega)).trans (h.block k hk hn hm)⟩
namespace po_
theorem dsto_d (s : ByteArray) (k b : Nat) (so : Int) (w : World) (hs : s.size ≤ 1000000) (hk : k ≤ s.size) (hp : Pz w b s k) (h : hmsParse (rst s k) = none) (ho : offOk so) :
    Calls Tryz.prog 42 #[.pointer (some ⟨b, 0, none⟩), .int .i64 so] w fun e w' => e = .returned (.int .i64 (so + 3600)) ∧ Pz w' b s k ∧ But b w w' := by
  have R := hide (fun w hp => rest_ s k b w hs hk hp)
  have T := hide (fun w => hm_.Parse (mkS (rst s k)) w (by have := rst_size s k; omega))
  simp only [byt_mk, h, hmsRes] at T
  have P := hide hp
  have hv : -89999 ≤ so ∧ so ≤ 89999 := ho
  obtain ⟨hv0, hv1⟩ := hv
  have e1 : IntKind.i64.wrap (so + 3600) = so + 3600 := by rw [IntKind.wrap_i64]; omega
  clear hp h ho
  go_enter Tryz.func42, Tryz.ntmps42
  go_wp2_with fail
  refine (R.out _ P.out).mono ?_
  rintro e w1 ⟨rfl, hb⟩
  have P1 := hide (P.out.below hb)
  go_wp2_with fail
  refine (T.out _).mono ?_
  rintro e w2 ⟨rfl, hb2⟩
  have P2 := hide (P1.out.below hb2)
  have B2 := hide ((But.of (b := b) hb).next hb2)
  clear P P1 hb hb2 R T
  go_wp2
  go_ret
  exact ⟨rfl, P2.out, B2.out⟩
theorem dsto_y (s : ByteArray) (k b : Nat) (so v : Int) (n : Nat) (w : World) (hs : s.size ≤ 1000000) (hk : k ≤ s.size) (hp : Pz w b s k) (h : hmsParse (rst s k) = some (v, n)) (ho : offOk v) :
    Calls Tryz.prog 42 #[.pointer (some ⟨b, 0, none⟩), .int .i64 so] w fun e w' => e = .returned (.int .i64 (-v)) ∧ Pz w' b s ((k + n : Nat) : Int) ∧ But b w w' := by
  have R := hide (fun w hp => rest_ s k b w hs hk hp)
  have O := hide (fun w hp => offset_yes s k b v n w hs hk hp h ho)
  have T := hide (fun w => hm_.Parse (mkS (rst s k)) w (by have := rst_size s k; omega))
  simp only [byt_mk, h, hmsRes] at T
  have P := hide hp
  clear hp h ho
  go_enter Tryz.func42, Tryz.ntmps42
  go_wp2_with fail
  refine (R.out _ P.out).mono ?_
  rintro e w1 ⟨rfl, hb⟩
  have P1 := hide (P.out.below hb)
  go_wp2_with fail
  refine (T.out _).mono ?_
  rintro e w2 ⟨rfl, hb2⟩
  have P2 := hide (P1.out.below hb2)
  have B2 := hide ((But.of (b := b) hb).next hb2)
  clear P P1 hb hb2 R T
  go_wp2_with fail
  refine (O.out _ P2.out).mono ?_
  rintro e w3 ⟨rfl, p3, h3⟩
  replace B2 := hide (B2.out.trans h3)
  have P3 := hide (p3.cast (show _ = ((k + n : Nat) : Int) by omega))
  clear P2 h3 p3
  go_wp2
  go_ret
  exact ⟨rfl, P3.out, B2.out⟩
theorem dsto_n (s : ByteArray) (k b : Nat) (so v : Int) (n : Nat) (w : World) (hs : s.size ≤ 1000000) (hk : k ≤ s.size) (hp : Pz w b s k) (h : hmsParse (rst s k) = some (v, n)) (ho : ¬ offOk v) :
    Calls Tryz.prog 42 #[.pointer (some ⟨b, 0, none⟩), .int .i64 so] w fun e w' => e = fail k ∧ But b w w' := by
  have R := hide (fun w hp => rest_ s k b w hs hk hp)
  have O := hide (fun w hp => offset_no s k b w hs hk hp (.inr ⟨v, n, h, ho⟩))
  have T := hide (fun w => hm_.Parse (mkS (rst s k)) w (by have := rst_size s k; omega))
  simp only [byt_mk, h, hmsRes] at T
  have P := hide hp
  clear hp h ho
  go_enter Tryz.func42, Tryz.ntmps42
  go_wp2_with fail
  refine (R.out _ P.out).mono ?_
  rintro e w1 ⟨rfl, hb⟩
  have P1 := hide (P.out.below hb)
  go_wp2_with fail
  refine (T.out _).mono ?_
  rintro e w2 ⟨rfl, hb2⟩
  have P2 := hide (P1.out.below hb2)
  have B2 := hide ((But.of (b := b) hb).next hb2)
  clear P P1 hb hb2 R T
  go_wp2_with fail
  refine (O.out _ P2.out).mono ?_
  rintro e w3 ⟨rfl, h3⟩
  unfold fail
  go_wp2
  exact ⟨rfl, rfl, B2.out.next h3⟩
set_option maxHeartbeats 2000000 in
theorem change_yes (s : ByteArray) (k b : Nat) (w : World) (hs : s.size ≤ 1000000) (hk : k ≤ s.size) (hp : Pz w b s k) (a c d z f v : Int) (n : Nat) (h : ptDay (rst s k) = some ((a, c, d, z, f, v), n)) (hn : k + n ≤ s.size) :
    Calls Tryz.prog 44 #[.pointer (some ⟨b, 0, none⟩)] w fun e w' => e = .returned (.agg #[.int .i64 a, .int .i64 c, .int .i64 d, .int .i64 z, .int .i64 f, .int .i64 v]) ∧ Pz w' b s ((k + n : Nat) : Int) ∧ But b w w' := by
  have R := hide (fun w hp => rest_ s k b w hs hk hp)
  have D := hide (fun w => Day_yes (mkS (rst s k)) (a, c, d, z, f, v) n w (by have := rst_size s k; omega) (by rw [byt_mk]; exact h))
  simp only [vday] at D
  have hbl : b < w.heap.size := hp.1
  have hR := hide (Ro.new w #[.int .i64 0, .int .i64 0, .int .i64 0, .int .i64 0, .int .i64 0, .int .i64 0] 23)
  have hB := hide ((But.refl b w).alloc (.cells #[.int .i64 0, .int .i64 0, .int .i64 0, .int .i64 0, .int .i64 0, .int .i64 0] 23))
  have P := hide (hp.below (bl_new w (.cells #[.int .i64 0, .int .i64 0, .int .i64 0, .int .i64 0, .int .i64 0, .int .i64 0] 23)))
  clear hp h
  go_enter Tryz.func44, Tryz.ntmps44
  go_wp2_with fail
  generalize w.alloc (.cells #[.int .i64 0, .int .i64 0, .int .i64 0, .int .i64 0, .int .i64 0, .int .i64 0] 23) = v0 at *
  go_wp2_with fail
  refine (R.out _ P.out).mono ?_
  rintro e v1 ⟨rfl, h1⟩
  replace P := hide (P.out.below h1)
  replace hR := hide (hR.out.below h1)
  replace hB := hide (hB.out.next h1)
  clear h1
  go_wp2_with fail
  refine (D.out _).mono ?_
  rintro e v2 ⟨rfl, h1⟩
  replace P := hide (P.out.below h1)
  replace hR := hide (hR.out.below h1)
  replace hB := hide (hB.out.next h1)
  clear h1
  have hg : w.heap.size < v2.heap.size := hR.out.lt
  have hD := hide (Ro.new v2 #[.int .i64 a, .int .i64 c, .int .i64 d, .int .i64 z, .int .i64 f, .int .i64 v] 23)
  replace hR := hide (hR.out.alloc (.cells #[.int .i64 a, .int .i64 c, .int .i64 d, .int .i64 z, .int .i64 f, .int .i64 v] 23))
  replace hB := hide (hB.out.alloc (.cells #[.int .i64 a, .int .i64 c, .int .i64 d, .int .i64 z, .int .i64 f, .int .i64 v] 23))
  replace P := hide (P.out.below (bl_new v2 (.cells #[.int .i64 a, .int .i64 c, .int .i64 d, .int .i64 z, .int .i64 f, .int .i64 v] 23)))
  go_wp2_with (refine wpList_store_row rfl 23 _ _ rfl _ _ rfl rfl _ _ (heap_alloc_last _ _) (by kernel_rfl) rfl (by simp [Value.oneCell']) ?_; rw [World.setRow_alloc_new])
  generalize v2.alloc (.cells #[.int .i64 a, .int .i64 c, .int .i64 d, .int .i64 z, .int .i64 f, .int .i64 v] 23) = v9 at *
  generalize v2.heap.size = g1 at *
  refine (require_yes b _).mono ?_
  rintro e v10 ⟨rfl, rfl⟩
  obtain ⟨h0, h1, h2, h3⟩ := P.out.cells
  have e1 : IntKind.i64.wrap ((k : Int) + n) = (k : Int) + n := by rw [IntKind.wrap_i64]; omega
  go_upto_region 4 with fail
  clear h0 h1 h2 h3
  replace P := hide ((P.out.set ((k : Int) + n)).cast (show _ = ((k + n : Nat) : Int) by omega))
  replace hR := hide (ro_set_ne hR.out (show b ≠ w.heap.size by omega) 1 (.int .i64 ((k : Int) + n)))
  replace hD := hide (ro_set_ne hD.out (show b ≠ g1 by omega) 1 (.int .i64 ((k : Int) + n)))
  replace hB := hide (hB.out.set (o := 1) (.int .i64 ((k : Int) + n)))
  generalize v9.setCell ⟨b, 1, none⟩ (.int .i64 ((k : Int) + n)) = v11 at *
  have G : Gr Tryz.prog 23 6 #[.int .i64 a, .int .i64 c, .int .i64 d, .int .i64 z, .int .i64 f, .int .i64 v] := ⟨by kernel_rfl, rfl, by simp [Value.oneCell']⟩
  go_wp2_with (first | (refine wpList_store_row rfl 23 _ _ rfl _ _ rfl rfl _ _ hR.out G.1 rfl G.2.2 ?_) | (refine load_row_g (by rfl) 23 _ rfl _ rfl _ _ _ hD.out Tryz.underlying23 rfl G.1 ?_))
  have hl := ((ro_row hR.out #[.int .i64 a, .int .i64 c, .int .i64 d, .int .i64 z, .int .i64 f, .int .i64 v]).load 23 _ Tryz.underlying23 rfl G.1).2
  exact bodyPost_ret (results_c Tryz.results44 rfl hl) rfl ⟨rfl, P.out.row (by omega) _, hB.out.row (by omega) _⟩
set_option maxHeartbeats 2000000 in
theorem change_no (s : ByteArray) (k b : Nat) (w : World) (hs : s.size ≤ 1000000) (hk : k ≤ s.size) (hp : Pz w b s k) (h : ptDay (rst s k) = none) :
    Calls Tryz.prog 44 #[.pointer (some ⟨b, 0, none⟩)] w fun e w' => e = fail k ∧ But b w w' := by
  have R := hide (fun w hp => rest_ s k b w hs hk hp)
  have D := hide (fun w => Day_no (mkS (rst s k)) w (by have := rst_size s k; omega) (by rw [byt_mk]; exact h))
  simp only [vday, rd0] at D
  have hbl : b < w.heap.size := hp.1
  have hR := hide (Ro.new w #[.int .i64 0, .int .i64 0, .int .i64 0, .int .i64 0, .int .i64 0, .int .i64 0] 23)
  have hB := hide ((But.refl b w).alloc (.cells #[.int .i64 0, .int .i64 0, .int .i64 0, .int .i64 0, .int .i64 0, .int .i64 0] 23))
  have P := hide (hp.below (bl_new w (.cells #[.int .i64 0, .int .i64 0, .int .i64 0, .int .i64 0, .int .i64 0, .int .i64 0] 23)))
  clear hp h
  go_enter Tryz.func44, Tryz.ntmps44
  go_wp2_with fail
  generalize w.alloc (.cells #[.int .i64 0, .int .i64 0, .int .i64 0, .int .i64 0, .int .i64 0, .int .i64 0] 23) = v0 at *
  go_wp2_with fail
  refine (R.out _ P.out).mono ?_
  rintro e v1 ⟨rfl, h1⟩
  replace P := hide (P.out.below h1)
  replace hR := hide (hR.out.below h1)
  replace hB := hide (hB.out.next h1)
  clear h1
  go_wp2_with fail
  refine (D.out _).mono ?_
  rintro e v2 ⟨rfl, h1⟩
  replace P := hide (P.out.below h1)
  replace hR := hide (hR.out.below h1)
  replace hB := hide (hB.out.next h1)
  clear h1
  have hg : w.heap.size < v2.heap.size := hR.out.lt
  have hD := hide (Ro.new v2 #[.int .i64 0, .int .i64 0, .int .i64 0, .int .i64 0, .int .i64 0, .int .i64 0] 23)
  replace hR := hide (hR.out.alloc (.cells #[.int .i64 0, .int .i64 0, .int .i64 0, .int .i64 0, .int .i64 0, .int .i64 0] 23))
  replace hB := hide (hB.out.alloc (.cells #[.int .i64 0, .int .i64 0, .int .i64 0, .int .i64 0, .int .i64 0, .int .i64 0] 23))
  replace P := hide (P.out.below (bl_new v2 (.cells #[.int .i64 0, .int .i64 0, .int .i64 0, .int .i64 0, .int .i64 0, .int .i64 0] 23)))
  go_wp2_with (refine wpList_store_row rfl 23 _ _ rfl _ _ rfl rfl _ _ (heap_alloc_last _ _) (by kernel_rfl) rfl (by simp [Value.oneCell']) ?_; rw [World.setRow_alloc_new])
  generalize v2.alloc (.cells #[.int .i64 0, .int .i64 0, .int .i64 0, .int .i64 0, .int .i64 0, .int .i64 0] 23) = v9 at *
  generalize v2.heap.size = g1 at *
  refine (require_no s k b _ P.out).mono ?_
  rintro e v ⟨rfl, rfl⟩
  unfold fail
  go_wp2
  exact ⟨rfl, rfl, hB.out⟩
set_option maxHeartbeats 4000000 in
theorem dayl_ok (s std dst : ByteArray) (so dof : Int) (b g k0 k1 k2 k3 k4 k5 k6 qq : Nat) (st1 st2 st3 st4 st5 st6 en1 en2 en3 en4 en5 en6 : Int) (w : World) (hp : Pz w b s (k0 : Int)) (hg : Ro w g #[.string std, .int .i64 so, .bool false, .string ⟨#[]⟩, .int .i64 0, .int .i64 0, .int .i64 0, .int .i64 0, .int .i64 0, .int .i64 0, .int .i64 0, .int .i64 0, .int .i64 0, .int .i64 0, .int .i64 0, .int .i64 0, .int .i64 0] 29) (hbg : b ≠ g)
    (H0 : (∀ w, Pz w b s ((k0 : Nat) : Int) → Calls Tryz.prog 28 #[.pointer (some ⟨b, 0, none⟩)] w fun e w' => e = .returned (.string dst) ∧ Pz w' b s ((k1 : Nat) : Int) ∧ But b w w'))
    (H1 : (∀ w, Pz w b s ((k1 : Nat) : Int) → Calls Tryz.prog 42 #[.pointer (some ⟨b, 0, none⟩), .int .i64 so] w fun e w' => e = .returned (.int .i64 dof) ∧ Pz w' b s ((k2 : Nat) : Int) ∧ But b w w'))
    (H2 : (∀ w, Pz w b s ((k2 : Nat) : Int) → Calls Tryz.prog 43 #[.pointer (some ⟨b, 0, none⟩), .string ⟨#[44]⟩] w fun e w' => e = .returned (.tuple #[]) ∧ Pz w' b s ((k3 : Nat) : Int) ∧ But b w w'))
    (H3 : (∀ w, Pz w b s ((k3 : Nat) : Int) → Calls Tryz.prog 44 #[.pointer (some ⟨b, 0, none⟩)] w fun e w' => e = .returned (.agg #[.int .i64 st1, .int .i64 st2, .int .i64 st3, .int .i64 st4, .int .i64 st5, .int .i64 st6]) ∧ Pz w' b s ((k4 : Nat) : Int) ∧ But b w w'))
    (H4 : (∀ w, Pz w b s ((k4 : Nat) : Int) → Calls Tryz.prog 43 #[.pointer (some ⟨b, 0, none⟩), .string ⟨#[44]⟩] w fun e w' => e = .returned (.tuple #[]) ∧ Pz w' b s ((k5 : Nat) : Int) ∧ But b w w'))
    (H5 : (∀ w, Pz w b s ((k5 : Nat) : Int) → Calls Tryz.prog 44 #[.pointer (some ⟨b, 0, none⟩)] w fun e w' => e = .returned (.agg #[.int .i64 en1, .int .i64 en2, .int .i64 en3, .int .i64 en4, .int .i64 en5, .int .i64 en6]) ∧ Pz w' b s ((k6 : Nat) : Int) ∧ But b w w')) :
    Calls Tryz.prog 31 #[.pointer (some ⟨b, 0, none⟩), .pointer (some ⟨g, 0, none⟩)] w fun e w' => e = .returned (.tuple #[]) ∧ Pz w' b s (k6 : Int) ∧ Ro w' g #[.string std, .int .i64 so, .bool true, .string dst, .int .i64 dof, .int .i64 st1, .int .i64 st2, .int .i64 st3, .int .i64 st4, .int .i64 st5, .int .i64 st6, .int .i64 en1, .int .i64 en2, .int .i64 en3, .int .i64 en4, .int .i64 en5, .int .i64 en6] 29 ∧ But2 b g w w' := by
  replace H0 := hide H0
  replace H1 := hide H1
  replace H2 := hide H2
  replace H3 := hide H3
  replace H4 := hide H4
  replace H5 := hide H5
  have hne : b ≠ g := hbg
  have P := hide hp
  have hG := hide hg
  have hB := hide (But2.refl b g w)
  clear hp hg hbg
  go_enter Tryz.func31, Tryz.ntmps31
  obtain ⟨p2, q2⟩ := ro_cf hG.out 2 _ rfl
  go_upto_region 1 with fail
  clear p2 q2
  replace hG := hide (show Ro (w.setCell ⟨g, 2, none⟩ (.bool true)) g #[.string std, .int .i64 so, .bool true, .string ⟨#[]⟩, .int .i64 0, .int .i64 0, .int .i64 0, .int .i64 0, .int .i64 0, .int .i64 0, .int .i64 0, .int .i64 0, .int .i64 0, .int .i64 0, .int .i64 0, .int .i64 0, .int .i64 0] 29 from ro_set hG.out 2 (.bool true))
  replace P := hide (show Pz (w.setCell ⟨g, 2, none⟩ (.bool true)) b s _ from P.out.set_ne 2 (show g ≠ b by omega) (.bool true))
  replace hB := hide (show But2 b g w (w.setCell ⟨g, 2, none⟩ (.bool true)) from hB.out.set' (.inr (.inl rfl)) 2 (.bool true))
  generalize w.setCell ⟨g, 2, none⟩ (.bool true) = v1 at *
  go_wp2_with fail
  refine (H0.out _ P.out).mono ?_
  rintro e v2 ⟨rfl, p1, h1⟩
  replace hG := hide (hG.out.but h1 (by omega))
  replace hB := hide (hB.out.trans (But2.one h1))
  replace P := hide p1
  clear h1 p1
  obtain ⟨p3, q3⟩ := ro_cf hG.out 3 _ rfl
  go_upto_region 2 with fail
  clear p3 q3
  replace hG := hide (show Ro (v2.setCell ⟨g, 3, none⟩ (.string dst)) g #[.string std, .int .i64 so, .bool true, .string dst, .int .i64 0, .int .i64 0, .int .i64 0, .int .i64 0, .int .i64 0, .int .i64 0, .int .i64 0, .int .i64 0, .int .i64 0, .int .i64 0, .int .i64 0, .int .i64 0, .int .i64 0] 29 from ro_set hG.out 3 (.string dst))
  replace P := hide (show Pz (v2.setCell ⟨g, 3, none⟩ (.string dst)) b s _ from P.out.set_ne 3 (show g ≠ b by omega) (.string dst))
  replace hB := hide (show But2 b g w (v2.setCell ⟨g, 3, none⟩ (.string dst)) from hB.out.set' (.inr (.inl rfl)) 3 (.string dst))
  generalize v2.setCell ⟨g, 3, none⟩ (.string dst) = v3 at *
  obtain ⟨p1, q1⟩ := ro_cf hG.out 1 _ rfl
  go_wp2_with fail
  refine (H1.out _ P.out).mono ?_
  rintro e v4 ⟨rfl, p1, h1⟩
  replace hG := hide (hG.out.but h1 (by omega))
  replace hB := hide (hB.out.trans (But2.one h1))
  replace P := hide p1
  clear h1 p1
  clear p1 q1
  obtain ⟨p4, q4⟩ := ro_cf hG.out 4 _ rfl
  go_upto_region 3 with fail
  clear p4 q4
  replace hG := hide (show Ro (v4.setCell ⟨g, 4, none⟩ (.int .i64 dof)) g #[.string std, .int .i64 so, .bool true, .string dst, .int .i64 dof, .int .i64 0, .int .i64 0, .int .i64 0, .int .i64 0, .int .i64 0, .int .i64 0, .int .i64 0, .int .i64 0, .int .i64 0, .int .i64 0, .int .i64 0, .int .i64 0] 29 from ro_set hG.out 4 (.int .i64 dof))
  replace P := hide (show Pz (v4.setCell ⟨g, 4, none⟩ (.int .i64 dof)) b s _ from P.out.set_ne 4 (show g ≠ b by omega) (.int .i64 dof))
  replace hB := hide (show But2 b g w (v4.setCell ⟨g, 4, none⟩ (.int .i64 dof)) from hB.out.set' (.inr (.inl rfl)) 4 (.int .i64 dof))
  generalize v4.setCell ⟨g, 4, none⟩ (.int .i64 dof) = v5 at *
  go_wp2_with fail
  refine (H2.out _ P.out).mono ?_
  rintro e v6 ⟨rfl, p1, h1⟩
  replace hG := hide (hG.out.but h1 (by omega))
  replace hB := hide (hB.out.trans (But2.one h1))
  replace P := hide p1
  clear h1 p1
  go_wp2_with fail
  refine (H3.out _ P.out).mono ?_
  rintro e v7 ⟨rfl, p1, h1⟩
  replace hG := hide (hG.out.but h1 (by omega))
  replace hB := hide (hB.out.trans (But2.one h1))
  replace P := hide p1
  clear h1 p1
  obtain ⟨p5, q5⟩ := ro_cf hG.out 5 _ rfl
  obtain ⟨p6, q6⟩ := ro_cf hG.out 6 _ rfl
  obtain ⟨p7, q7⟩ := ro_cf hG.out 7 _ rfl
  obtain ⟨p8, q8⟩ := ro_cf hG.out 8 _ rfl
  obtain ⟨p9, q9⟩ := ro_cf hG.out 9 _ rfl
  obtain ⟨p10, q10⟩ := ro_cf hG.out 10 _ rfl
  go_upto_region 5 with fail
  clear p5 q5 p6 q6 p7 q7 p8 q8 p9 q9 p10 q10
  replace hG := hide (show Ro (v7.setCell ⟨g, 5, none⟩ (.int .i64 st1)) g #[.string std, .int .i64 so, .bool true, .string dst, .int .i64 dof, .int .i64 st1, .int .i64 0, .int .i64 0, .int .i64 0, .int .i64 0, .int .i64 0, .int .i64 0, .int .i64 0, .int .i64 0, .int .i64 0, .int .i64 0, .int .i64 0] 29 from ro_set hG.out 5 (.int .i64 st1))
  replace P := hide (show Pz (v7.setCell ⟨g, 5, none⟩ (.int .i64 st1)) b s _ from P.out.set_ne 5 (show g ≠ b by omega) (.int .i64 st1))
  replace hB := hide (show But2 b g w (v7.setCell ⟨g, 5, none⟩ (.int .i64 st1)) from hB.out.set' (.inr (.inl rfl)) 5 (.int .i64 st1))
  generalize v7.setCell ⟨g, 5, none⟩ (.int .i64 st1) = v8 at *
  replace hG := hide (show Ro (v8.setCell ⟨g, 6, none⟩ (.int .i64 st2)) g #[.string std, .int .i64 so, .bool true, .string dst, .int .i64 dof, .int .i64 st1, .int .i64 st2, .int .i64 0, .int .i64 0, .int .i64 0, .int .i64 0, .int .i64 0, .int .i64 0, .int .i64 0, .int .i64 0, .int .i64 0, .int .i64 0] 29 from ro_set hG.out 6 (.int .i64 st2))
  replace P := hide (show Pz (v8.setCell ⟨g, 6, none⟩ (.int .i64 st2)) b s _ from P.out.set_ne 6 (show g ≠ b by omega) (.int .i64 st2))
  replace hB := hide (show But2 b g w (v8.setCell ⟨g, 6, none⟩ (.int .i64 st2)) from hB.out.set' (.inr (.inl rfl)) 6 (.int .i64 st2))
  generalize v8.setCell ⟨g, 6, none⟩ (.int .i64 st2) = v9 at *
  replace hG := hide (show Ro (v9.setCell ⟨g, 7, none⟩ (.int .i64 st3)) g #[.string std, .int .i64 so, .bool true, .string dst, .int .i64 dof, .int .i64 st1, .int .i64 st2, .int .i64 st3, .int .i64 0, .int .i64 0, .int .i64 0, .int .i64 0, .int .i64 0, .int .i64 0, .int .i64 0, .int .i64 0, .int .i64 0] 29 from ro_set hG.out 7 (.int .i64 st3))
  replace P := hide (show Pz (v9.setCell ⟨g, 7, none⟩ (.int .i64 st3)) b s _ from P.out.set_ne 7 (show g ≠ b by omega) (.int .i64 st3))
  replace hB := hide (show But2 b g w (v9.setCell ⟨g, 7, none⟩ (.int .i64 st3)) from hB.out.set' (.inr (.inl rfl)) 7 (.int .i64 st3))
  generalize v9.setCell ⟨g, 7, none⟩ (.int .i64 st3) = v10 at *
  replace hG := hide (show Ro (v10.setCell ⟨g, 8, none⟩ (.int .i64 st4)) g #[.string std, .int .i64 so, .bool true, .string dst, .int .i64 dof, .int .i64 st1, .int .i64 st2, .int .i64 st3, .int .i64 st4, .int .i64 0, .int .i64 0, .int .i64 0, .int .i64 0, .int .i64 0, .int .i64 0, .int .i64 0, .int .i64 0] 29 from ro_set hG.out 8 (.int .i64 st4))
  replace P := hide (show Pz (v10.setCell ⟨g, 8, none⟩ (.int .i64 st4)) b s _ from P.out.set_ne 8 (show g ≠ b by omega) (.int .i64 st4))
  replace hB := hide (show But2 b g w (v10.setCell ⟨g, 8, none⟩ (.int .i64 st4)) from hB.out.set' (.inr (.inl rfl)) 8 (.int .i64 st4))
  generalize v10.setCell ⟨g, 8, none⟩ (.int .i64 st4) = v11 at *
  replace hG := hide (show Ro (v11.setCell ⟨g, 9, none⟩ (.int .i64 st5)) g #[.string std, .int .i64 so, .bool true, .string dst, .int .i64 dof, .int .i64 st1, .int .i64 st2, .int .i64 st3, .int .i64 st4, .int .i64 st5, .int .i64 0, .int .i64 0, .int .i64 0, .int .i64 0, .int .i64 0, .int .i64 0, .int .i64 0] 29 from ro_set hG.out 9 (.int .i64 st5))
  replace P := hide (show Pz (v11.setCell ⟨g, 9, none⟩ (.int .i64 st5)) b s _ from P.out.set_ne 9 (show g ≠ b by omega) (.int .i64 st5))
  replace hB := hide (show But2 b g w (v11.setCell ⟨g, 9, none⟩ (.int .i64 st5)) from hB.out.set' (.inr (.inl rfl)) 9 (.int .i64 st5))
  generalize v11.setCell ⟨g, 9, none⟩ (.int .i64 st5) = v12 at *
  replace hG := hide (show Ro (v12.setCell ⟨g, 10, none⟩ (.int .i64 st6)) g #[.string std, .int .i64 so, .bool true, .string dst, .int .i64 dof, .int .i64 st1, .int .i64 st2, .int .i64 st3, .int .i64 st4, .int .i64 st5, .int .i64 st6, .int .i64 0, .int .i64 0, .int .i64 0, .int .i64 0, .int .i64 0, .int .i64 0] 29 from ro_set hG.out 10 (.int .i64 st6))
  replace P := hide (show Pz (v12.setCell ⟨g, 10, none⟩ (.int .i64 st6)) b s _ from P.out.set_ne 10 (show g ≠ b by omega) (.int .i64 st6))
  replace hB := hide (show But2 b g w (v12.setCell ⟨g, 10, none⟩ (.int .i64 st6)) from hB.out.set' (.inr (.inl rfl)) 10 (.int .i64 st6))
  generalize v12.setCell ⟨g, 10, none⟩ (.int .i64 st6) = v13 at *
  go_wp2_with fail
  refine (H4.out _ P.out).mono ?_
  rintro e v14 ⟨rfl, p1, h1⟩
  replace hG := hide (hG.out.but h1 (by omega))
  replace hB := hide (hB.out.trans (But2.one h1))
  replace P := hide p1
  clear h1 p1
  go_wp2_with fail
  refine (H5.out _ P.out).mono ?_
  rintro e v15 ⟨rfl, p1, h1⟩
  replace hG := hide (hG.out.but h1 (by omega))
  replace hB := hide (hB.out.trans (But2.one h1))
  replace P := hide p1
  clear h1 p1
  obtain ⟨p11, q11⟩ := ro_cf hG.out 11 _ rfl
  obtain ⟨p12, q12⟩ := ro_cf hG.out 12 _ rfl
  obtain ⟨p13, q13⟩ := ro_cf hG.out 13 _ rfl
  obtain ⟨p14, q14⟩ := ro_cf hG.out 14 _ rfl
  obtain ⟨p15, q15⟩ := ro_cf hG.out 15 _ rfl
  obtain ⟨p16, q16⟩ := ro_cf hG.out 16 _ rfl
  go_wp2_with fail
  clear p11 q11 p12 q12 p13 q13 p14 q14 p15 q15 p16 q16
  replace hG := hide (show Ro (v15.setCell ⟨g, 11, none⟩ (.int .i64 en1)) g #[.string std, .int .i64 so, .bool true, .string dst, .int .i64 dof, .int .i64 st1, .int .i64 st2, .int .i64 st3, .int .i64 st4, .int .i64 st5, .int .i64 st6, .int .i64 en1, .int .i64 0, .int .i64 0, .int .i64 0, .int .i64 0, .int .i64 0] 29 from ro_set hG.out 11 (.int .i64 en1))
  replace P := hide (show Pz (v15.setCell ⟨g, 11, none⟩ (.int .i64 en1)) b s _ from P.out.set_ne 11 (show g ≠ b by omega) (.int .i64 en1))
  replace hB := hide (show But2 b g w (v15.setCell ⟨g, 11, none⟩ (.int .i64 en1)) from hB.out.set' (.inr (.inl rfl)) 11 (.int .i64 en1))
  generalize v15.setCell ⟨g, 11, none⟩ (.int .i64 en1) = v16 at *
  replace hG := hide (show Ro (v16.setCell ⟨g, 12, none⟩ (.int .i64 en2)) g #[.string std, .int .i64 so, .bool true, .string dst, .int .i64 dof, .int .i64 st1, .int .i64 st2, .int .i64 st3, .int .i64 st4, .int .i64 st5, .int .i64 st6, .int .i64 en1, .int .i64 en2, .int .i64 0, .int .i64 0, .int .i64 0, .int .i64 0] 29 from ro_set hG.out 12 (.int .i64 en2))
  replace P := hide (show Pz (v16.setCell ⟨g, 12, none⟩ (.int .i64 en2)) b s _ from P.out.set_ne 12 (show g ≠ b by omega) (.int .i64 en2))
  replace hB := hide (show But2 b g w (v16.setCell ⟨g, 12, none⟩ (.int .i64 en2)) from hB.out.set' (.inr (.inl rfl)) 12 (.int .i64 en2))
  generalize v16.setCell ⟨g, 12, none⟩ (.int .i64 en2) = v17 at *
  replace hG := hide (show Ro (v17.setCell ⟨g, 13, none⟩ (.int .i64 en3)) g #[.string std, .int .i64 so, .bool true, .string dst, .int .i64 dof, .int .i64 st1, .int .i64 st2, .int .i64 st3, .int .i64 st4, .int .i64 st5, .int .i64 st6, .int .i64 en1, .int .i64 en2, .int .i64 en3, .int .i64 0, .int .i64 0, .int .i64 0] 29 from ro_set hG.out 13 (.int .i64 en3))
  replace P := hide (show Pz (v17.setCell ⟨g, 13, none⟩ (.int .i64 en3)) b s _ from P.out.set_ne 13 (show g ≠ b by omega) (.int .i64 en3))
  replace hB := hide (show But2 b g w (v17.setCell ⟨g, 13, none⟩ (.int .i64 en3)) from hB.out.set' (.inr (.inl rfl)) 13 (.int .i64 en3))
  generalize v17.setCell ⟨g, 13, none⟩ (.int .i64 en3) = v18 at *
  replace hG := hide (show Ro (v18.setCell ⟨g, 14, none⟩ (.int .i64 en4)) g #[.string std, .int .i64 so, .bool true, .string dst, .int .i64 dof, .int .i64 st1, .int .i64 st2, .int .i64 st3, .int .i64 st4, .int .i64 st5, .int .i64 st6, .int .i64 en1, .int .i64 en2, .int .i64 en3, .int .i64 en4, .int .i64 0, .int .i64 0] 29 from ro_set hG.out 14 (.int .i64 en4))
  replace P := hide (show Pz (v18.setCell ⟨g, 14, none⟩ (.int .i64 en4)) b s _ from P.out.set_ne 14 (show g ≠ b by omega) (.int .i64 en4))
  replace hB := hide (show But2 b g w (v18.setCell ⟨g, 14, none⟩ (.int .i64 en4)) from hB.out.set' (.inr (.inl rfl)) 14 (.int .i64 en4))
  generalize v18.setCell ⟨g, 14, none⟩ (.int .i64 en4) = v19 at *
  replace hG := hide (show Ro (v19.setCell ⟨g, 15, none⟩ (.int .i64 en5)) g #[.string std, .int .i64 so, .bool true, .string dst, .int .i64 dof, .int .i64 st1, .int .i64 st2, .int .i64 st3, .int .i64 st4, .int .i64 st5, .int .i64 st6, .int .i64 en1, .int .i64 en2, .int .i64 en3, .int .i64 en4, .int .i64 en5, .int .i64 0] 29 from ro_set hG.out 15 (.int .i64 en5))
  replace P := hide (show Pz (v19.setCell ⟨g, 15, none⟩ (.int .i64 en5)) b s _ from P.out.set_ne 15 (show g ≠ b by omega) (.int .i64 en5))
  replace hB := hide (show But2 b g w (v19.setCell ⟨g, 15, none⟩ (.int .i64 en5)) from hB.out.set' (.inr (.inl rfl)) 15 (.int .i64 en5))
  generalize v19.setCell ⟨g, 15, none⟩ (.int .i64 en5) = v20 at *
  replace hG := hide (show Ro (v20.setCell ⟨g, 16, none⟩ (.int .i64 en6)) g #[.string std, .int .i64 so, .bool true, .string dst, .int .i64 dof, .int .i64 st1, .int .i64 st2, .int .i64 st3, .int .i64 st4, .int .i64 st5, .int .i64 st6, .int .i64 en1, .int .i64 en2, .int .i64 en3, .int .i64 en4, .int .i64 en5, .int .i64 en6] 29 from ro_set hG.out 16 (.int .i64 en6))
  replace P := hide (show Pz (v20.setCell ⟨g, 16, none⟩ (.int .i64 en6)) b s _ from P.out.set_ne 16 (show g ≠ b by omega) (.int .i64 en6))
  replace hB := hide (show But2 b g w (v20.setCell ⟨g, 16, none⟩ (.int .i64 en6)) from hB.out.set' (.inr (.inl rfl)) 16 (.int .i64 en6))
  generalize v20.setCell ⟨g, 16, none⟩ (.int .i64 en6) = v21 at *
  go_end0
  exact ⟨rfl, P.out, hG.out, hB.out⟩
set_option maxHeartbeats 4000000 in
theorem dayl_0 (s std dst : ByteArray) (so dof : Int) (b g k0 k1 k2 k3 k4 k5 k6 qq : Nat) (st1 st2 st3 st4 st5 st6 en1 en2 en3 en4 en5 en6 : Int) (w : World) (hp : Pz w b s (k0 : Int)) (hg : Ro w g #[.string std, .int .i64 so, .bool false, .string ⟨#[]⟩, .int .i64 0, .int .i64 0, .int .i64 0, .int .i64 0, .int .i64 0, .int .i64 0, .int .i64 0, .int .i64 0, .int .i64 0, .int .i64 0, .int .i64 0, .int .i64 0, .int .i64 0] 29) (hbg : b ≠ g)
    (H0 : (∀ w, Pz w b s ((k0 : Nat) : Int) → Calls Tryz.prog 28 #[.pointer (some ⟨b, 0, none⟩)] w fun e w' => e = fail ((qq : Nat) : Int) ∧ But b w w')) :
    Calls Tryz.prog 31 #[.pointer (some ⟨b, 0, none⟩), .pointer (some ⟨g, 0, none⟩)] w fun e w' => e = fail (qq : Int) ∧ But2 b g w w' := by
  replace H0 := hide H0
  have hne : b ≠ g := hbg
  have P := hide hp
  have hG := hide hg
  have hB := hide (But2.refl b g w)
  clear hp hg hbg
  go_enter Tryz.func31, Tryz.ntmps31
  obtain ⟨p2, q2⟩ := ro_cf hG.out 2 _ rfl
  go_upto_region 1 with fail
  clear p2 q2
  replace hG := hide (show Ro (w.setCell ⟨g, 2, none⟩ (.bool true)) g #[.string std, .int .i64 so, .bool true, .string ⟨#[]⟩, .int .i64 0, .int .i64 0, .int .i64 0, .int .i64 0, .int .i64 0, .int .i64 0, .int .i64 0, .int .i64 0, .int .i64 0, .int .i64 0, .int .i64 0, .int .i64 0, .int .i64 0] 29 from ro_set hG.out 2 (.bool true))
  replace P := hide (show Pz (w.setCell ⟨g, 2, none⟩ (.bool true)) b s _ from P.out.set_ne 2 (show g ≠ b by omega) (.bool true))
  replace hB := hide (show But2 b g w (w.setCell ⟨g, 2, none⟩ (.bool true)) from hB.out.set' (.inr (.inl rfl)) 2 (.bool true))
  generalize w.setCell ⟨g, 2, none⟩ (.bool true) = v1 at *
  go_wp2_with fail
  refine (H0.out _ P.out).mono ?_
  rintro e v ⟨rfl, h1⟩
  unfold fail
  go_wp2
  exact ⟨rfl, rfl, hB.out.trans (But2.one h1)⟩
set_option maxHeartbeats 4000000 in
theorem dayl_1 (s std dst : ByteArray) (so dof : Int) (b g k0 k1 k2 k3 k4 k5 k6 qq : Nat) (st1 st2 st3 st4 st5 st6 en1 en2 en3 en4 en5 en6 : Int) (w : World) (hp : Pz w b s (k0 : Int)) (hg : Ro w g #[.string std, .int .i64 so, .bool false, .string ⟨#[]⟩, .int .i64 0, .int .i64 0, .int .i64 0, .int .i64 0, .int .i64 0, .int .i64 0, .int .i64 0, .int .i64 0, .int .i64 0, .int .i64 0, .int .i64 0, .int .i64 0, .int .i64 0] 29) (hbg : b ≠ g)
    (H0 : (∀ w, Pz w b s ((k0 : Nat) : Int) → Calls Tryz.prog 28 #[.pointer (some ⟨b, 0, none⟩)] w fun e w' => e = .returned (.string dst) ∧ Pz w' b s ((k1 : Nat) : Int) ∧ But b w w'))
    (H1 : (∀ w, Pz w b s ((k1 : Nat) : Int) → Calls Tryz.prog 42 #[.pointer (some ⟨b, 0, none⟩), .int .i64 so] w fun e w' => e = fail ((qq : Nat) : Int) ∧ But b w w')) :
    Calls Tryz.prog 31 #[.pointer (some ⟨b, 0, none⟩), .pointer (some ⟨g, 0, none⟩)] w fun e w' => e = fail (qq : Int) ∧ But2 b g w w' := by
  replace H0 := hide H0
  replace H1 := hide H1
  have hne : b ≠ g := hbg
  have P := hide hp
  have hG := hide hg
  have hB := hide (But2.refl b g w)
  clear hp hg hbg
  go_enter Tryz.func31, Tryz.ntmps31
  obtain ⟨p2, q2⟩ := ro_cf hG.out 2 _ rfl
  go_upto_region 1 with fail
  clear p2 q2
  replace hG := hide (show Ro (w.setCell ⟨g, 2, none⟩ (.bool true)) g #[.string std, .int .i64 so, .bool true, .string ⟨#[]⟩, .int .i64 0, .int .i64 0, .int .i64 0, .int .i64 0, .int .i64 0, .int .i64 0, .int .i64 0, .int .i64 0, .int .i64 0, .int .i64 0, .int .i64 0, .int .i64 0, .int .i64 0] 29 from ro_set hG.out 2 (.bool true))
  replace P := hide (show Pz (w.setCell ⟨g, 2, none⟩ (.bool true)) b s _ from P.out.set_ne 2 (show g ≠ b by omega) (.bool true))
  replace hB := hide (show But2 b g w (w.setCell ⟨g, 2, none⟩ (.bool true)) from hB.out.set' (.inr (.inl rfl)) 2 (.bool true))
  generalize w.setCell ⟨g, 2, none⟩ (.bool true) = v1 at *
  go_wp2_with fail
  refine (H0.out _ P.out).mono ?_
  rintro e v2 ⟨rfl, p1, h1⟩
  replace hG := hide (hG.out.but h1 (by omega))
  replace hB := hide (hB.out.trans (But2.one h1))
  replace P := hide p1
  clear h1 p1
  obtain ⟨p3, q3⟩ := ro_cf hG.out 3 _ rfl
  go_upto_region 2 with fail
  clear p3 q3
  replace hG := hide (show Ro (v2.setCell ⟨g, 3, none⟩ (.string dst)) g #[.string std, .int .i64 so, .bool true, .string dst, .int .i64 0, .int .i64 0, .int .i64 0, .int .i64 0, .int .i64 0, .int .i64 0, .int .i64 0, .int .i64 0, .int .i64 0, .int .i64 0, .int .i64 0, .int .i64 0, .int .i64 0] 29 from ro_set hG.out 3 (.string dst))
  replace P := hide (show Pz (v2.setCell ⟨g, 3, none⟩ (.string dst)) b s _ from P.out.set_ne 3 (show g ≠ b by omega) (.string dst))
  replace hB := hide (show But2 b g w (v2.setCell ⟨g, 3, none⟩ (.string dst)) from hB.out.set' (.inr (.inl rfl)) 3 (.string dst))
  generalize v2.setCell ⟨g, 3, none⟩ (.string dst) = v3 at *
  obtain ⟨p1, q1⟩ := ro_cf hG.out 1 _ rfl
  go_wp2_with fail
  refine (H1.out _ P.out).mono ?_
  rintro e v ⟨rfl, h1⟩
  unfold fail
  go_wp2
  exact ⟨rfl, rfl, hB.out.trans (But2.one h1)⟩
set_option maxHeartbeats 4000000 in
theorem dayl_2 (s std dst : ByteArray) (so dof : Int) (b g k0 k1 k2 k3 k4 k5 k6 qq : Nat) (st1 st2 st3 st4 st5 st6 en1 en2 en3 en4 en5 en6 : Int) (w : World) (hp : Pz w b s (k0 : Int)) (hg : Ro w g #[.string std, .int .i64 so, .bool false, .string ⟨#[]⟩, .int .i64 0, .int .i64 0, .int .i64 0, .int .i64 0, .int .i64 0, .int .i64 0, .int .i64 0, .int .i64 0, .int .i64 0, .int .i64 0, .int .i64 0, .int .i64 0, .int .i64 0] 29) (hbg : b ≠ g)
    (H0 : (∀ w, Pz w b s ((k0 : Nat) : Int) → Calls Tryz.prog 28 #[.pointer (some ⟨b, 0, none⟩)] w fun e w' => e = .returned (.string dst) ∧ Pz w' b s ((k1 : Nat) : Int) ∧ But b w w'))
    (H1 : (∀ w, Pz w b s ((k1 : Nat) : Int) → Calls Tryz.prog 42 #[.pointer (some ⟨b, 0, none⟩), .int .i64 so] w fun e w' => e = .returned (.int .i64 dof) ∧ Pz w' b s ((k2 : Nat) : Int) ∧ But b w w'))
    (H2 : (∀ w, Pz w b s ((k2 : Nat) : Int) → Calls Tryz.prog 43 #[.pointer (some ⟨b, 0, none⟩), .string ⟨#[44]⟩] w fun e w' => e = fail ((qq : Nat) : Int) ∧ But b w w')) :
    Calls Tryz.prog 31 #[.pointer (some ⟨b, 0, none⟩), .pointer (some ⟨g, 0, none⟩)] w fun e w' => e = fail (qq : Int) ∧ But2 b g w w' := by
  replace H0 := hide H0
  replace H1 := hide H1
  replace H2 := hide H2
  have hne : b ≠ g := hbg
  have P := hide hp
  have hG := hide hg
  have hB := hide (But2.refl b g w)
  clear hp hg hbg
  go_enter Tryz.func31, Tryz.ntmps31
  obtain ⟨p2, q2⟩ := ro_cf hG.out 2 _ rfl
  go_upto_region 1 with fail
  clear p2 q2
  replace hG := hide (show Ro (w.setCell ⟨g, 2, none⟩ (.bool true)) g #[.string std, .int .i64 so, .bool true, .string ⟨#[]⟩, .int .i64 0, .int .i64 0, .int .i64 0, .int .i64 0, .int .i64 0, .int .i64 0, .int .i64 0, .int .i64 0, .int .i64 0, .int .i64 0, .int .i64 0, .int .i64 0, .int .i64 0] 29 from ro_set hG.out 2 (.bool true))
  replace P := hide (show Pz (w.setCell ⟨g, 2, none⟩ (.bool true)) b s _ from P.out.set_ne 2 (show g ≠ b by omega) (.bool true))
  replace hB := hide (show But2 b g w (w.setCell ⟨g, 2, none⟩ (.bool true)) from hB.out.set' (.inr (.inl rfl)) 2 (.bool true))
  generalize w.setCell ⟨g, 2, none⟩ (.bool true) = v1 at *
  go_wp2_with fail
  refine (H0.out _ P.out).mono ?_
  rintro e v2 ⟨rfl, p1, h1⟩
  replace hG := hide (hG.out.but h1 (by omega))
  replace hB := hide (hB.out.trans (But2.one h1))
  replace P := hide p1
  clear h1 p1
  obtain ⟨p3, q3⟩ := ro_cf hG.out 3 _ rfl
  go_upto_region 2 with fail
  clear p3 q3
  replace hG := hide (show Ro (v2.setCell ⟨g, 3, none⟩ (.string dst)) g #[.string std, .int .i64 so, .bool true, .string dst, .int .i64 0, .int .i64 0, .int .i64 0, .int .i64 0, .int .i64 0, .int .i64 0, .int .i64 0, .int .i64 0, .int .i64 0, .int .i64 0, .int .i64 0, .int .i64 0, .int .i64 0] 29 from ro_set hG.out 3 (.string dst))
  replace P := hide (show Pz (v2.setCell ⟨g, 3, none⟩ (.string dst)) b s _ from P.out.set_ne 3 (show g ≠ b by omega) (.string dst))
  replace hB := hide (show But2 b g w (v2.setCell ⟨g, 3, none⟩ (.string dst)) from hB.out.set' (.inr (.inl rfl)) 3 (.string dst))
  generalize v2.setCell ⟨g, 3, none⟩ (.string dst) = v3 at *
  obtain ⟨p1, q1⟩ := ro_cf hG.out 1 _ rfl
  go_wp2_with fail
  refine (H1.out _ P.out).mono ?_
  rintro e v4 ⟨rfl, p1, h1⟩
  replace hG := hide (hG.out.but h1 (by omega))
  replace hB := hide (hB.out.trans (But2.one h1))
  replace P := hide p1
  clear h1 p1
  clear p1 q1
  obtain ⟨p4, q4⟩ := ro_cf hG.out 4 _ rfl
  go_upto_region 3 with fail
  clear p4 q4
  replace hG := hide (show Ro (v4.setCell ⟨g, 4, none⟩ (.int .i64 dof)) g #[.string std, .int .i64 so, .bool true, .string dst, .int .i64 dof, .int .i64 0, .int .i64 0, .int .i64 0, .int .i64 0, .int .i64 0, .int .i64 0, .int .i64 0, .int .i64 0, .int .i64 0, .int .i64 0, .int .i64 0, .int .i64 0] 29 from ro_set hG.out 4 (.int .i64 dof))
  replace P := hide (show Pz (v4.setCell ⟨g, 4, none⟩ (.int .i64 dof)) b s _ from P.out.set_ne 4 (show g ≠ b by omega) (.int .i64 dof))
  replace hB := hide (show But2 b g w (v4.setCell ⟨g, 4, none⟩ (.int .i64 dof)) from hB.out.set' (.inr (.inl rfl)) 4 (.int .i64 dof))
  generalize v4.setCell ⟨g, 4, none⟩ (.int .i64 dof) = v5 at *
  go_wp2_with fail
  refine (H2.out _ P.out).mono ?_
  rintro e v ⟨rfl, h1⟩
  unfold fail
  go_wp2
  exact ⟨rfl, rfl, hB.out.trans (But2.one h1)⟩
set_option maxHeartbeats 4000000 in
theorem dayl_3 (s std dst : ByteArray) (so dof : Int) (b g k0 k1 k2 k3 k4 k5 k6 qq : Nat) (st1 st2 st3 st4 st5 st6 en1 en2 en3 en4 en5 en6 : Int) (w : World) (hp : Pz w b s (k0 : Int)) (hg : Ro w g #[.string std, .int .i64 so, .bool false, .string ⟨#[]⟩, .int .i64 0, .int .i64 0, .int .i64 0, .int .i64 0, .int .i64 0, .int .i64 0, .int .i64 0, .int .i64 0, .int .i64 0, .int .i64 0, .int .i64 0, .int .i64 0, .int .i64 0] 29) (hbg : b ≠ g)
    (H0 : (∀ w, Pz w b s ((k0 : Nat) : Int) → Calls Tryz.prog 28 #[.pointer (some ⟨b, 0, none⟩)] w fun e w' => e = .returned (.string dst) ∧ Pz w' b s ((k1 : Nat) : Int) ∧ But b w w'))
    (H1 : (∀ w, Pz w b s ((k1 : Nat) : Int) → Calls Tryz.prog 42 #[.pointer (some ⟨b, 0, none⟩), .int .i64 so] w fun e w' => e = .returned (.int .i64 dof) ∧ Pz w' b s ((k2 : Nat) : Int) ∧ But b w w'))
    (H2 : (∀ w, Pz w b s ((k2 : Nat) : Int) → Calls Tryz.prog 43 #[.pointer (some ⟨b, 0, none⟩), .string ⟨#[44]⟩] w fun e w' => e = .returned (.tuple #[]) ∧ Pz w' b s ((k3 : Nat) : Int) ∧ But b w w'))
    (H3 : (∀ w, Pz w b s ((k3 : Nat) : Int) → Calls Tryz.prog 44 #[.pointer (some ⟨b, 0, none⟩)] w fun e w' => e = fail ((qq : Nat) : Int) ∧ But b w w')) :
    Calls Tryz.prog 31 #[.pointer (some ⟨b, 0, none⟩), .pointer (some ⟨g, 0, none⟩)] w fun e w' => e = fail (qq : Int) ∧ But2 b g w w' := by
  replace H0 := hide H0
  replace H1 := hide H1
  replace H2 := hide H2
  replace H3 := hide H3
  have hne : b ≠ g := hbg
  have P := hide hp
  have hG := hide hg
  have hB := hide (But2.refl b g w)
  clear hp hg hbg
  go_enter Tryz.func31, Tryz.ntmps31
  obtain ⟨p2, q2⟩ := ro_cf hG.out 2 _ rfl
  go_upto_region 1 with fail
  clear p2 q2
  replace hG := hide (show Ro (w.setCell ⟨g, 2, none⟩ (.bool true)) g #[.string std, .int .i64 so, .bool true, .string ⟨#[]⟩, .int .i64 0, .int .i64 0, .int .i64 0, .int .i64 0, .int .i64 0, .int .i64 0, .int .i64 0, .int .i64 0, .int .i64 0, .int .i64 0, .int .i64 0, .int .i64 0, .int .i64 0] 29 from ro_set hG.out 2 (.bool true))
  replace P := hide (show Pz (w.setCell ⟨g, 2, none⟩ (.bool true)) b s _ from P.out.set_ne 2 (show g ≠ b by omega) (.bool true))
  replace hB := hide (show But2 b g w (w.setCell ⟨g, 2, none⟩ (.bool true)) from hB.out.set' (.inr (.inl rfl)) 2 (.bool true))
  generalize w.setCell ⟨g, 2, none⟩ (.bool true) = v1 at *
  go_wp2_with fail
  refine (H0.out _ P.out).mono ?_
  rintro e v2 ⟨rfl, p1, h1⟩
  replace hG := hide (hG.out.but h1 (by omega))
  replace hB := hide (hB.out.trans (But2.one h1))
  replace P := hide p1
  clear h1 p1
  obtain ⟨p3, q3⟩ := ro_cf hG.out 3 _ rfl
  go_upto_region 2 with fail
  clear p3 q3
  replace hG := hide (show Ro (v2.setCell ⟨g, 3, none⟩ (.string dst)) g #[.string std, .int .i64 so, .bool true, .string dst, .int .i64 0, .int .i64 0, .int .i64 0, .int .i64 0, .int .i64 0, .int .i64 0, .int .i64 0, .int .i64 0, .int .i64 0, .int .i64 0, .int .i64 0, .int .i64 0, .int .i64 0] 29 from ro_set hG.out 3 (.string dst))
  replace P := hide (show Pz (v2.setCell ⟨g, 3, none⟩ (.string dst)) b s _ from P.out.set_ne 3 (show g ≠ b by omega) (.string dst))
  replace hB := hide (show But2 b g w (v2.setCell ⟨g, 3, none⟩ (.string dst)) from hB.out.set' (.inr (.inl rfl)) 3 (.string dst))
  generalize v2.setCell ⟨g, 3, none⟩ (.string dst) = v3 at *
  obtain ⟨p1, q1⟩ := ro_cf hG.out 1 _ rfl
  go_wp2_with fail
  refine (H1.out _ P.out).mono ?_
  rintro e v4 ⟨rfl, p1, h1⟩
  replace hG := hide (hG.out.but h1 (by omega))
  replace hB := hide (hB.out.trans (But2.one h1))
  replace P := hide p1
  clear h1 p1
  clear p1 q1
  obtain ⟨p4, q4⟩ := ro_cf hG.out 4 _ rfl
  go_upto_region 3 with fail
  clear p4 q4
  replace hG := hide (show Ro (v4.setCell ⟨g, 4, none⟩ (.int .i64 dof)) g #[.string std, .int .i64 so, .bool true, .string dst, .int .i64 dof, .int .i64 0, .int .i64 0, .int .i64 0, .int .i64 0, .int .i64 0, .int .i64 0, .int .i64 0, .int .i64 0, .int .i64 0, .int .i64 0, .int .i64 0, .int .i64 0] 29 from ro_set hG.out 4 (.int .i64 dof))
  replace P := hide (show Pz (v4.setCell ⟨g, 4, none⟩ (.int .i64 dof)) b s _ from P.out.set_ne 4 (show g ≠ b by omega) (.int .i64 dof))
  replace hB := hide (show But2 b g w (v4.setCell ⟨g, 4, none⟩ (.int .i64 dof)) from hB.out.set' (.inr (.inl rfl)) 4 (.int .i64 dof))
  generalize v4.setCell ⟨g, 4, none⟩ (.int .i64 dof) = v5 at *
  go_wp2_with fail
  refine (H2.out _ P.out).mono ?_
  rintro e v6 ⟨rfl, p1, h1⟩
  replace hG := hide (hG.out.but h1 (by omega))
  replace hB := hide (hB.out.trans (But2.one h1))
  replace P := hide p1
  clear h1 p1
  go_wp2_with fail
  refine (H3.out _ P.out).mono ?_
  rintro e v ⟨rfl, h1⟩
  unfold fail
  go_wp2
  exact ⟨rfl, rfl, hB.out.trans (But2.one h1)⟩
set_option maxHeartbeats 4000000 in
theorem dayl_4 (s std dst : ByteArray) (so dof : Int) (b g k0 k1 k2 k3 k4 k5 k6 qq : Nat) (st1 st2 st3 st4 st5 st6 en1 en2 en3 en4 en5 en6 : Int) (w : World) (hp : Pz w b s (k0 : Int)) (hg : Ro w g #[.string std, .int .i64 so, .bool false, .string ⟨#[]⟩, .int .i64 0, .int .i64 0, .int .i64 0, .int .i64 0, .int .i64 0, .int .i64 0, .int .i64 0, .int .i64 0, .int .i64 0, .int .i64 0, .int .i64 0, .int .i64 0, .int .i64 0] 29) (hbg : b ≠ g)
    (H0 : (∀ w, Pz w b s ((k0 : Nat) : Int) → Calls Tryz.prog 28 #[.pointer (some ⟨b, 0, none⟩)] w fun e w' => e = .returned (.string dst) ∧ Pz w' b s ((k1 : Nat) : Int) ∧ But b w w'))
    (H1 : (∀ w, Pz w b s ((k1 : Nat) : Int) → Calls Tryz.prog 42 #[.pointer (some ⟨b, 0, none⟩), .int .i64 so] w fun e w' => e = .returned (.int .i64 dof) ∧ Pz w' b s ((k2 : Nat) : Int) ∧ But b w w'))
    (H2 : (∀ w, Pz w b s ((k2 : Nat) : Int) → Calls Tryz.prog 43 #[.pointer (some ⟨b, 0, none⟩), .string ⟨#[44]⟩] w fun e w' => e = .returned (.tuple #[]) ∧ Pz w' b s ((k3 : Nat) : Int) ∧ But b w w'))
    (H3 : (∀ w, Pz w b s ((k3 : Nat) : Int) → Calls Tryz.prog 44 #[.pointer (some ⟨b, 0, none⟩)] w fun e w' => e = .returned (.agg #[.int .i64 st1, .int .i64 st2, .int .i64 st3, .int .i64 st4, .int .i64 st5, .int .i64 st6]) ∧ Pz w' b s ((k4 : Nat) : Int) ∧ But b w w'))
    (H4 : (∀ w, Pz w b s ((k4 : Nat) : Int) → Calls Tryz.prog 43 #[.pointer (some ⟨b, 0, none⟩), .string ⟨#[44]⟩] w fun e w' => e = fail ((qq : Nat) : Int) ∧ But b w w')) :
    Calls Tryz.prog 31 #[.pointer (some ⟨b, 0, none⟩), .pointer (some ⟨g, 0, none⟩)] w fun e w' => e = fail (qq : Int) ∧ But2 b g w w' := by
  replace H0 := hide H0
  replace H1 := hide H1
  replace H2 := hide H2
  replace H3 := hide H3
  replace H4 := hide H4
  have hne : b ≠ g := hbg
  have P := hide hp
  have hG := hide hg
  have hB := hide (But2.refl b g w)
  clear hp hg hbg
  go_enter Tryz.func31, Tryz.ntmps31
  obtain ⟨p2, q2⟩ := ro_cf hG.out 2 _ rfl
  go_upto_region 1 with fail
  clear p2 q2
  replace hG := hide (show Ro (w.setCell ⟨g, 2, none⟩ (.bool true)) g #[.string std, .int .i64 so, .bool true, .string ⟨#[]⟩, .int .i64 0, .int .i64 0, .int .i64 0, .int .i64 0, .int .i64 0, .int .i64 0, .int .i64 0, .int .i64 0, .int .i64 0, .int .i64 0, .int .i64 0, .int .i64 0, .int .i64 0] 29 from ro_set hG.out 2 (.bool true))
  replace P := hide (show Pz (w.setCell ⟨g, 2, none⟩ (.bool true)) b s _ from P.out.set_ne 2 (show g ≠ b by omega) (.bool true))
  replace hB := hide (show But2 b g w (w.setCell ⟨g, 2, none⟩ (.bool true)) from hB.out.set' (.inr (.inl rfl)) 2 (.bool true))
  generalize w.setCell ⟨g, 2, none⟩ (.bool true) = v1 at *
  go_wp2_with fail
  refine (H0.out _ P.out).mono ?_
  rintro e v2 ⟨rfl, p1, h1⟩
  replace hG := hide (hG.out.but h1 (by omega))
  replace hB := hide (hB.out.trans (But2.one h1))
  replace P := hide p1
  clear h1 p1
  obtain ⟨p3, q3⟩ := ro_cf hG.out 3 _ rfl
  go_upto_region 2 with fail
  clear p3 q3
  replace hG := hide (show Ro (v2.setCell ⟨g, 3, none⟩ (.string dst)) g #[.string std, .int .i64 so, .bool true, .string dst, .int .i64 0, .int .i64 0, .int .i64 0, .int .i64 0, .int .i64 0, .int .i64 0, .int .i64 0, .int .i64 0, .int .i64 0, .int .i64 0, .int .i64 0, .int .i64 0, .int .i64 0] 29 from ro_set hG.out 3 (.string dst))
  replace P := hide (show Pz (v2.setCell ⟨g, 3, none⟩ (.string dst)) b s _ from P.out.set_ne 3 (show g ≠ b by omega) (.string dst))
  replace hB := hide (show But2 b g w (v2.setCell ⟨g, 3, none⟩ (.string dst)) from hB.out.set' (.inr (.inl rfl)) 3 (.string dst))
  generalize v2.setCell ⟨g, 3, none⟩ (.string dst) = v3 at *
  obtain ⟨p1, q1⟩ := ro_cf hG.out 1 _ rfl
  go_wp2_with fail
  refine (H1.out _ P.out).mono ?_
  rintro e v4 ⟨rfl, p1, h1⟩
  replace hG := hide (hG.out.but h1 (by omega))
  replace hB := hide (hB.out.trans (But2.one h1))
  replace P := hide p1
  clear h1 p1
  clear p1 q1
  obtain ⟨p4, q4⟩ := ro_cf hG.out 4 _ rfl
  go_upto_region 3 with fail
  clear p4 q4
  replace hG := hide (show Ro (v4.setCell ⟨g, 4, none⟩ (.int .i64 dof)) g #[.string std, .int .i64 so, .bool true, .string dst, .int .i64 dof, .int .i64 0, .int .i64 0, .int .i64 0, .int .i64 0, .int .i64 0, .int .i64 0, .int .i64 0, .int .i64 0, .int .i64 0, .int .i64 0, .int .i64 0, .int .i64 0] 29 from ro_set hG.out 4 (.int .i64 dof))
  replace P := hide (show Pz (v4.setCell ⟨g, 4, none⟩ (.int .i64 dof)) b s _ from P.out.set_ne 4 (show g ≠ b by omega) (.int .i64 dof))
  replace hB := hide (show But2 b g w (v4.setCell ⟨g, 4, none⟩ (.int .i64 dof)) from hB.out.set' (.inr (.inl rfl)) 4 (.int .i64 dof))
  generalize v4.setCell ⟨g, 4, none⟩ (.int .i64 dof) = v5 at *
  go_wp2_with fail
  refine (H2.out _ P.out).mono ?_
  rintro e v6 ⟨rfl, p1, h1⟩
  replace hG := hide (hG.out.but h1 (by omega))
  replace hB := hide (hB.out.trans (But2.one h1))
  replace P := hide p1
  clear h1 p1
  go_wp2_with fail
  refine (H3.out _ P.out).mono ?_
  rintro e v7 ⟨rfl, p1, h1⟩
  replace hG := hide (hG.out.but h1 (by omega))
  replace hB := hide (hB.out.trans (But2.one h1))
  replace P := hide p1
  clear h1 p1
  obtain ⟨p5, q5⟩ := ro_cf hG.out 5 _ rfl
  obtain ⟨p6, q6⟩ := ro_cf hG.out 6 _ rfl
  obtain ⟨p7, q7⟩ := ro_cf hG.out 7 _ rfl
  obtain ⟨p8, q8⟩ := ro_cf hG.out 8 _ rfl
  obtain ⟨p9, q9⟩ := ro_cf hG.out 9 _ rfl
  obtain ⟨p10, q10⟩ := ro_cf hG.out 10 _ rfl
  go_upto_region 5 with fail
  clear p5 q5 p6 q6 p7 q7 p8 q8 p9 q9 p10 q10
  replace hG := hide (show Ro (v7.setCell ⟨g, 5, none⟩ (.int .i64 st1)) g #[.string std, .int .i64 so, .bool true, .string dst, .int .i64 dof, .int .i64 st1, .int .i64 0, .int .i64 0, .int .i64 0, .int .i64 0, .int .i64 0, .int .i64 0, .int .i64 0, .int .i64 0, .int .i64 0, .int .i64 0, .int .i64 0] 29 from ro_set hG.out 5 (.int .i64 st1))
  replace P := hide (show Pz (v7.setCell ⟨g, 5, none⟩ (.int .i64 st1)) b s _ from P.out.set_ne 5 (show g ≠ b by omega) (.int .i64 st1))
  replace hB := hide (show But2 b g w (v7.setCell ⟨g, 5, none⟩ (.int .i64 st1)) from hB.out.set' (.inr (.inl rfl)) 5 (.int .i64 st1))
  generalize v7.setCell ⟨g, 5, none⟩ (.int .i64 st1) = v8 at *
  replace hG := hide (show Ro (v8.setCell ⟨g, 6, none⟩ (.int .i64 st2)) g #[.string std, .int .i64 so, .bool true, .string dst, .int .i64 dof, .int .i64 st1, .int .i64 st2, .int .i64 0, .int .i64 0, .int .i64 0, .int .i64 0, .int .i64 0, .int .i64 0, .int .i64 0, .int .i64 0, .int .i64 0, .int .i64 0] 29 from ro_set hG.out 6 (.int .i64 st2))
  replace P := hide (show Pz (v8.setCell ⟨g, 6, none⟩ (.int .i64 st2)) b s _ from P.out.set_ne 6 (show g ≠ b by omega) (.int .i64 st2))
  replace hB := hide (show But2 b g w (v8.setCell ⟨g, 6, none⟩ (.int .i64 st2)) from hB.out.set' (.inr (.inl rfl)) 6 (.int .i64 st2))
  generalize v8.setCell ⟨g, 6, none⟩ (.int .i64 st2) = v9 at *
  replace hG := hide (show Ro (v9.setCell ⟨g, 7, none⟩ (.int .i64 st3)) g #[.string std, .int .i64 so, .bool true, .string dst, .int .i64 dof, .int .i64 st1, .int .i64 st2, .int .i64 st3, .int .i64 0, .int .i64 0, .int .i64 0, .int .i64 0, .int .i64 0, .int .i64 0, .int .i64 0, .int .i64 0, .int .i64 0] 29 from ro_set hG.out 7 (.int .i64 st3))
  replace P := hide (show Pz (v9.setCell ⟨g, 7, none⟩ (.int .i64 st3)) b s _ from P.out.set_ne 7 (show g ≠ b by omega) (.int .i64 st3))
  replace hB := hide (show But2 b g w (v9.setCell ⟨g, 7, none⟩ (.int .i64 st3)) from hB.out.set' (.inr (.inl rfl)) 7 (.int .i64 st3))
  generalize v9.setCell ⟨g, 7, none⟩ (.int .i64 st3) = v10 at *
  replace hG := hide (show Ro (v10.setCell ⟨g, 8, none⟩ (.int .i64 st4)) g #[.string std, .int .i64 so, .bool true, .string dst, .int .i64 dof, .int .i64 st1, .int .i64 st2, .int .i64 st3, .int .i64 st4, .int .i64 0, .int .i64 0, .int .i64 0, .int .i64 0, .int .i64 0, .int .i64 0, .int .i64 0, .int .i64 0] 29 from ro_set hG.out 8 (.int .i64 st4))
  replace P := hide (show Pz (v10.setCell ⟨g, 8, none⟩ (.int .i64 st4)) b s _ from P.out.set_ne 8 (show g ≠ b by omega) (.int .i64 st4))
  replace hB := hide (show But2 b g w (v10.setCell ⟨g, 8, none⟩ (.int .i64 st4)) from hB.out.set' (.inr (.inl rfl)) 8 (.int .i64 st4))
  generalize v10.setCell ⟨g, 8, none⟩ (.int .i64 st4) = v11 at *
  replace hG := hide (show Ro (v11.setCell ⟨g, 9, none⟩ (.int .i64 st5)) g #[.string std, .int .i64 so, .bool true, .string dst, .int .i64 dof, .int .i64 st1, .int .i64 st2, .int .i64 st3, .int .i64 st4, .int .i64 st5, .int .i64 0, .int .i64 0, .int .i64 0, .int .i64 0, .int .i64 0, .int .i64 0, .int .i64 0] 29 from ro_set hG.out 9 (.int .i64 st5))
  replace P := hide (show Pz (v11.setCell ⟨g, 9, none⟩ (.int .i64 st5)) b s _ from P.out.set_ne 9 (show g ≠ b by omega) (.int .i64 st5))
  replace hB := hide (show But2 b g w (v11.setCell ⟨g, 9, none⟩ (.int .i64 st5)) from hB.out.set' (.inr (.inl rfl)) 9 (.int .i64 st5))
  generalize v11.setCell ⟨g, 9, none⟩ (.int .i64 st5) = v12 at *
  replace hG := hide (show Ro (v12.setCell ⟨g, 10, none⟩ (.int .i64 st6)) g #[.string std, .int .i64 so, .bool true, .string dst, .int .i64 dof, .int .i64 st1, .int .i64 st2, .int .i64 st3, .int .i64 st4, .int .i64 st5, .int .i64 st6, .int .i64 0, .int .i64 0, .int .i64 0, .int .i64 0, .int .i64 0, .int .i64 0] 29 from ro_set hG.out 10 (.int .i64 st6))
  replace P := hide (show Pz (v12.setCell ⟨g, 10, none⟩ (.int .i64 st6)) b s _ from P.out.set_ne 10 (show g ≠ b by omega) (.int .i64 st6))
  replace hB := hide (show But2 b g w (v12.setCell ⟨g, 10, none⟩ (.int .i64 st6)) from hB.out.set' (.inr (.inl rfl)) 10 (.int .i64 st6))
  generalize v12.setCell ⟨g, 10, none⟩ (.int .i64 st6) = v13 at *
  go_wp2_with fail
  refine (H4.out _ P.out).mono ?_
  rintro e v ⟨rfl, h1⟩
  unfold fail
  go_wp2
  exact ⟨rfl, rfl, hB.out.trans (But2.one h1)⟩
set_option maxHeartbeats 4000000 in
theorem dayl_5 (s std dst : ByteArray) (so dof : Int) (b g k0 k1 k2 k3 k4 k5 k6 qq : Nat) (st1 st2 st3 st4 st5 st6 en1 en2 en3 en4 en5 en6 : Int) (w : World) (hp : Pz w b s (k0 : Int)) (hg : Ro w g #[.string std, .int .i64 so, .bool false, .string ⟨#[]⟩, .int .i64 0, .int .i64 0, .int .i64 0, .int .i64 0, .int .i64 0, .int .i64 0, .int .i64 0, .int .i64 0, .int .i64 0, .int .i64 0, .int .i64 0, .int .i64 0, .int .i64 0] 29) (hbg : b ≠ g)
    (H0 : (∀ w, Pz w b s ((k0 : Nat) : Int) → Calls Tryz.prog 28 #[.pointer (some ⟨b, 0, none⟩)] w fun e w' => e = .returned (.string dst) ∧ Pz w' b s ((k1 : Nat) : Int) ∧ But b w w'))
    (H1 : (∀ w, Pz w b s ((k1 : Nat) : Int) → Calls Tryz.prog 42 #[.pointer (some ⟨b, 0, none⟩), .int .i64 so] w fun e w' => e = .returned (.int .i64 dof) ∧ Pz w' b s ((k2 : Nat) : Int) ∧ But b w w'))
    (H2 : (∀ w, Pz w b s ((k2 : Nat) : Int) → Calls Tryz.prog 43 #[.pointer (some ⟨b, 0, none⟩), .string ⟨#[44]⟩] w fun e w' => e = .returned (.tuple #[]) ∧ Pz w' b s ((k3 : Nat) : Int) ∧ But b w w'))
    (H3 : (∀ w, Pz w b s ((k3 : Nat) : Int) → Calls Tryz.prog 44 #[.pointer (some ⟨b, 0, none⟩)] w fun e w' => e = .returned (.agg #[.int .i64 st1, .int .i64 st2, .int .i64 st3, .int .i64 st4, .int .i64 st5, .int .i64 st6]) ∧ Pz w' b s ((k4 : Nat) : Int) ∧ But b w w'))
    (H4 : (∀ w, Pz w b s ((k4 : Nat) : Int) → Calls Tryz.prog 43 #[.pointer (some ⟨b, 0, none⟩), .string ⟨#[44]⟩] w fun e w' => e = .returned (.tuple #[]) ∧ Pz w' b s ((k5 : Nat) : Int) ∧ But b w w'))
    (H5 : (∀ w, Pz w b s ((k5 : Nat) : Int) → Calls Tryz.prog 44 #[.pointer (some ⟨b, 0, none⟩)] w fun e w' => e = fail ((qq : Nat) : Int) ∧ But b w w')) :
    Calls Tryz.prog 31 #[.pointer (some ⟨b, 0, none⟩), .pointer (some ⟨g, 0, none⟩)] w fun e w' => e = fail (qq : Int) ∧ But2 b g w w' := by
  replace H0 := hide H0
  replace H1 := hide H1
  replace H2 := hide H2
  replace H3 := hide H3
  replace H4 := hide H4
  replace H5 := hide H5
  have hne : b ≠ g := hbg
  have P := hide hp
  have hG := hide hg
  have hB := hide (But2.refl b g w)
  clear hp hg hbg
  go_enter Tryz.func31, Tryz.ntmps31
  obtain ⟨p2, q2⟩ := ro_cf hG.out 2 _ rfl
  go_upto_region 1 with fail
  clear p2 q2
  replace hG := hide (show Ro (w.setCell ⟨g, 2, none⟩ (.bool true)) g #[.string std, .int .i64 so, .bool true, .string ⟨#[]⟩, .int .i64 0, .int .i64 0, .int .i64 0, .int .i64 0, .int .i64 0, .int .i64 0, .int .i64 0, .int .i64 0, .int .i64 0, .int .i64 0, .int .i64 0, .int .i64 0, .int .i64 0] 29 from ro_set hG.out 2 (.bool true))
  replace P := hide (show Pz (w.setCell ⟨g, 2, none⟩ (.bool true)) b s _ from P.out.set_ne 2 (show g ≠ b by omega) (.bool true))
  replace hB := hide (show But2 b g w (w.setCell ⟨g, 2, none⟩ (.bool true)) from hB.out.set' (.inr (.inl rfl)) 2 (.bool true))
  generalize w.setCell ⟨g, 2, none⟩ (.bool true) = v1 at *
  go_wp2_with fail
  refine (H0.out _ P.out).mono ?_
  rintro e v2 ⟨rfl, p1, h1⟩
  replace hG := hide (hG.out.but h1 (by omega))
  replace hB := hide (hB.out.trans (But2.one h1))
  replace P := hide p1
  clear h1 p1
  obtain ⟨p3, q3⟩ := ro_cf hG.out 3 _ rfl
  go_upto_region 2 with fail
  clear p3 q3
  replace hG := hide (show Ro (v2.setCell ⟨g, 3, none⟩ (.string dst)) g #[.string std, .int .i64 so, .bool true, .string dst, .int .i64 0, .int .i64 0, .int .i64 0, .int .i64 0, .int .i64 0, .int .i64 0, .int .i64 0, .int .i64 0, .int .i64 0, .int .i64 0, .int .i64 0, .int .i64 0, .int .i64 0] 29 from ro_set hG.out 3 (.string dst))
  replace P := hide (show Pz (v2.setCell ⟨g, 3, none⟩ (.string dst)) b s _ from P.out.set_ne 3 (show g ≠ b by omega) (.string dst))
  replace hB := hide (show But2 b g w (v2.setCell ⟨g, 3, none⟩ (.string dst)) from hB.out.set' (.inr (.inl rfl)) 3 (.string dst))
  generalize v2.setCell ⟨g, 3, none⟩ (.string dst) = v3 at *
  obtain ⟨p1, q1⟩ := ro_cf hG.out 1 _ rfl
  go_wp2_with fail
  refine (H1.out _ P.out).mono ?_
  rintro e v4 ⟨rfl, p1, h1⟩
  replace hG := hide (hG.out.but h1 (by omega))
  replace hB := hide (hB.out.trans (But2.one h1))
  replace P := hide p1
  clear h1 p1
  clear p1 q1
  obtain ⟨p4, q4⟩ := ro_cf hG.out 4 _ rfl
  go_upto_region 3 with fail
  clear p4 q4
  replace hG := hide (show Ro (v4.setCell ⟨g, 4, none⟩ (.int .i64 dof)) g #[.string std, .int .i64 so, .bool true, .string dst, .int .i64 dof, .int .i64 0, .int .i64 0, .int .i64 0, .int .i64 0, .int .i64 0, .int .i64 0, .int .i64 0, .int .i64 0, .int .i64 0, .int .i64 0, .int .i64 0, .int .i64 0] 29 from ro_set hG.out 4 (.int .i64 dof))
  replace P := hide (show Pz (v4.setCell ⟨g, 4, none⟩ (.int .i64 dof)) b s _ from P.out.set_ne 4 (show g ≠ b by omega) (.int .i64 dof))
  replace hB := hide (show But2 b g w (v4.setCell ⟨g, 4, none⟩ (.int .i64 dof)) from hB.out.set' (.inr (.inl rfl)) 4 (.int .i64 dof))
  generalize v4.setCell ⟨g, 4, none⟩ (.int .i64 dof) = v5 at *
  go_wp2_with fail
  refine (H2.out _ P.out).mono ?_
  rintro e v6 ⟨rfl, p1, h1⟩
  replace hG := hide (hG.out.but h1 (by omega))
  replace hB := hide (hB.out.trans (But2.one h1))
  replace P := hide p1
  clear h1 p1
  go_wp2_with fail
  refine (H3.out _ P.out).mono ?_
  rintro e v7 ⟨rfl, p1, h1⟩
  replace hG := hide (hG.out.but h1 (by omega))
  replace hB := hide (hB.out.trans (But2.one h1))
  replace P := hide p1
  clear h1 p1
  obtain ⟨p5, q5⟩ := ro_cf hG.out 5 _ rfl
  obtain ⟨p6, q6⟩ := ro_cf hG.out 6 _ rfl
  obtain ⟨p7, q7⟩ := ro_cf hG.out 7 _ rfl
  obtain ⟨p8, q8⟩ := ro_cf hG.out 8 _ rfl
  obtain ⟨p9, q9⟩ := ro_cf hG.out 9 _ rfl
  obtain ⟨p10, q10⟩ := ro_cf hG.out 10 _ rfl
  go_upto_region 5 with fail
  clear p5 q5 p6 q6 p7 q7 p8 q8 p9 q9 p10 q10
  replace hG := hide (show Ro (v7.setCell ⟨g, 5, none⟩ (.int .i64 st1)) g #[.string std, .int .i64 so, .bool true, .string dst, .int .i64 dof, .int .i64 st1, .int .i64 0, .int .i64 0, .int .i64 0, .int .i64 0, .int .i64 0, .int .i64 0, .int .i64 0, .int .i64 0, .int .i64 0, .int .i64 0, .int .i64 0] 29 from ro_set hG.out 5 (.int .i64 st1))
  replace P := hide (show Pz (v7.setCell ⟨g, 5, none⟩ (.int .i64 st1)) b s _ from P.out.set_ne 5 (show g ≠ b by omega) (.int .i64 st1))
  replace hB := hide (show But2 b g w (v7.setCell ⟨g, 5, none⟩ (.int .i64 st1)) from hB.out.set' (.inr (.inl rfl)) 5 (.int .i64 st1))
  generalize v7.setCell ⟨g, 5, none⟩ (.int .i64 st1) = v8 at *
  replace hG := hide (show Ro (v8.setCell ⟨g, 6, none⟩ (.int .i64 st2)) g #[.string std, .int .i64 so, .bool true, .string dst, .int .i64 dof, .int .i64 st1, .int .i64 st2, .int .i64 0, .int .i64 0, .int .i64 0, .int .i64 0, .int .i64 0, .int .i64 0, .int .i64 0, .int .i64 0, .int .i64 0, .int .i64 0] 29 from ro_set hG.out 6 (.int .i64 st2))
  replace P := hide (show Pz (v8.setCell ⟨g, 6, none⟩ (.int .i64 st2)) b s _ from P.out.set_ne 6 (show g ≠ b by omega) (.int .i64 st2))
  replace hB := hide (show But2 b g w (v8.setCell ⟨g, 6, none⟩ (.int .i64 st2)) from hB.out.set' (.inr (.inl rfl)) 6 (.int .i64 st2))
  generalize v8.setCell ⟨g, 6, none⟩ (.int .i64 st2) = v9 at *
  replace hG := hide (show Ro (v9.setCell ⟨g, 7, none⟩ (.int .i64 st3)) g #[.string std, .int .i64 so, .bool true, .string dst, .int .i64 dof, .int .i64 st1, .int .i64 st2, .int .i64 st3, .int .i64 0, .int .i64 0, .int .i64 0, .int .i64 0, .int .i64 0, .int .i64 0, .int .i64 0, .int .i64 0, .int .i64 0] 29 from ro_set hG.out 7 (.int .i64 st3))
  replace P := hide (show Pz (v9.setCell ⟨g, 7, none⟩ (.int .i64 st3)) b s _ from P.out.set_ne 7 (show g ≠ b by omega) (.int .i64 st3))
  replace hB := hide (show But2 b g w (v9.setCell ⟨g, 7, none⟩ (.int .i64 st3)) from hB.out.set' (.inr (.inl rfl)) 7 (.int .i64 st3))
  generalize v9.setCell ⟨g, 7, none⟩ (.int .i64 st3) = v10 at *
  replace hG := hide (show Ro (v10.setCell ⟨g, 8, none⟩ (.int .i64 st4)) g #[.string std, .int .i64 so, .bool true, .string dst, .int .i64 dof, .int .i64 st1, .int .i64 st2, .int .i64 st3, .int .i64 st4, .int .i64 0, .int .i64 0, .int .i64 0, .int .i64 0, .int .i64 0, .int .i64 0, .int .i64 0, .int .i64 0] 29 from ro_set hG.out 8 (.int .i64 st4))
  replace P := hide (show Pz (v10.setCell ⟨g, 8, none⟩ (.int .i64 st4)) b s _ from P.out.set_ne 8 (show g ≠ b by omega) (.int .i64 st4))
  replace hB := hide (show But2 b g w (v10.setCell ⟨g, 8, none⟩ (.int .i64 st4)) from hB.out.set' (.inr (.inl rfl)) 8 (.int .i64 st4))
  generalize v10.setCell ⟨g, 8, none⟩ (.int .i64 st4) = v11 at *
  replace hG := hide (show Ro (v11.setCell ⟨g, 9, none⟩ (.int .i64 st5)) g #[.string std, .int .i64 so, .bool true, .string dst, .int .i64 dof, .int .i64 st1, .int .i64 st2, .int .i64 st3, .int .i64 st4, .int .i64 st5, .int .i64 0, .int .i64 0, .int .i64 0, .int .i64 0, .int .i64 0, .int .i64 0, .int .i64 0] 29 from ro_set hG.out 9 (.int .i64 st5))
  replace P := hide (show Pz (v11.setCell ⟨g, 9, none⟩ (.int .i64 st5)) b s _ from P.out.set_ne 9 (show g ≠ b by omega) (.int .i64 st5))
  replace hB := hide (show But2 b g w (v11.setCell ⟨g, 9, none⟩ (.int .i64 st5)) from hB.out.set' (.inr (.inl rfl)) 9 (.int .i64 st5))
  generalize v11.setCell ⟨g, 9, none⟩ (.int .i64 st5) = v12 at *
  replace hG := hide (show Ro (v12.setCell ⟨g, 10, none⟩ (.int .i64 st6)) g #[.string std, .int .i64 so, .bool true, .string dst, .int .i64 dof, .int .i64 st1, .int .i64 st2, .int .i64 st3, .int .i64 st4, .int .i64 st5, .int .i64 st6, .int .i64 0, .int .i64 0, .int .i64 0, .int .i64 0, .int .i64 0, .int .i64 0] 29 from ro_set hG.out 10 (.int .i64 st6))
  replace P := hide (show Pz (v12.setCell ⟨g, 10, none⟩ (.int .i64 st6)) b s _ from P.out.set_ne 10 (show g ≠ b by omega) (.int .i64 st6))
  replace hB := hide (show But2 b g w (v12.setCell ⟨g, 10, none⟩ (.int .i64 st6)) from hB.out.set' (.inr (.inl rfl)) 10 (.int .i64 st6))
  generalize v12.setCell ⟨g, 10, none⟩ (.int .i64 st6) = v13 at *
  go_wp2_with fail
  refine (H4.out _ P.out).mono ?_
  rintro e v14 ⟨rfl, p1, h1⟩
  replace hG := hide (hG.out.but h1 (by omega))
  replace hB := hide (hB.out.trans (But2.one h1))
  replace P := hide p1
  clear h1 p1
  go_wp2_with fail
  refine (H5.out _ P.out).mono ?_
  rintro e v ⟨rfl, h1⟩
  unfold fail
  go_wp2
  exact ⟨rfl, rfl, hB.out.trans (But2.one h1)⟩
end po_
end Go.Proofs.YtjjmkbofddbnnaaGreatDoor

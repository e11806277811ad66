/-
  Texts of mine in one file: Ref9g. Their conditions stand in the theorems.
-/
import Derived.Test.YtbehflfpdkedgaaGreatDoorQ39
namespace Go.Proofs.YtbehflfpdkedgaaGreatDoor
set_option linter.unusedVariables false
set_option linter.unusedSimpArgs false
set_option maxRecDepth 100000
set_option maxHeartbeats 16000000
open Go.ChangeShapes Go.WideShapes Go.ChangeAt Go.RowKit
def Lp (l : List UInt8) (a0 k a : Nat) (st en : RD) : Prop :=
 (k = 0 ∧ a = a0 ∧ st = rd0 ∧ en = rd0) ∨ (k = 1 ∧ ptComma l a0 = .ok (st, a) ∧ en = rd0) ∨ (k = 2 ∧ ∃ b, ptComma l a0 = .ok (st, b) ∧ ptComma l b = .ok (en, a))
theorem lp_err {l : List UInt8} {a0 k a x : Nat} {st en : RD} (h : Lp l a0 k a st en) (hk : k < 2) (e : ptComma l a = .error x) (std : List UInt8) (so : Int) (dst : List UInt8) (dof : Int) : ptDays l a0 std so dst dof = .error x := by
 rcases h with ⟨rfl, rfl, _⟩ | ⟨rfl, h, _⟩ | ⟨rfl, _⟩
 ·unfold ptDays; rw [e]
 ·unfold ptDays; rw [h]; simp only [e]
 ·omega
theorem lp_end {l : List UInt8} {a0 k a : Nat} {st en : RD} (h : Lp l a0 k a st en) (hk : k = 2) (std : List UInt8) (so : Int) (dst : List UInt8) (dof : Int) :
 ptDays l a0 std so dst dof = (if a = l.length ∧ offOk dof then .ok (std, so, true, dst, dof, st, en) else .error a) ∧ rdOk st ∧ rdOk en ∧ a ≤ l.length := by
 rcases h with ⟨h, _⟩ | ⟨h, _⟩ | ⟨_, b, h1, h2⟩
 ·omega
 ·omega
 ·exact ⟨by unfold ptDays; rw [h1]; simp only [h2], (ptComma_ok h1).2.2, (ptComma_ok h2).2.2, (ptComma_ok h2).2.1⟩
theorem comma_nil {l : List UInt8} {a : Nat} (h : l.drop a = []) : ptComma l a = .error a := by unfold ptComma; rw [h]
theorem comma_no {l : List UInt8} {a : Nat} {c : UInt8} {t : List UInt8} (h : l.drop a = c :: t) (hc : ¬ (c.toNat : Int) = 44) : ptComma l a = .error a := by unfold ptComma; rw [h]; simp only [hc, if_false]
theorem comma_none {l : List UInt8} {a : Nat} {c : UInt8} {t : List UInt8} (h : l.drop a = c :: t) (hc : (c.toNat : Int) = 44) (hd : ptDay t = none) : ptComma l a = .error (a + 1) := by unfold ptComma; rw [h]; simp only [hc, if_true, hd]
theorem comma_ok {l : List UInt8} {a : Nat} {c : UInt8} {t : List UInt8} {d : RD} {n : Nat} (h : l.drop a = c :: t) (hc : (c.toNat : Int) = 44) (hd : ptDay t = some (d, n)) : ptComma l a = .ok (d, a + 1 + n) := by unfold ptComma; rw [h]; simp only [hc, if_true, hd]
namespace r9_
theorem mk_max {l : List UInt8} (h : nameOk l = true) : (mkS l).size ≤ maxLen := by have := (nameOk_iff.1 h).2.1; rw [size_mk]; unfold maxLen; omega
theorem Parse_6 (s : ByteArray) (w : World) (hs : s.size ≤ 1000000) (std : List UInt8) (n : Nat) (hA : tnParse (byt s) = some (std, n)) (hn : n ≤ s.size) (v : Int) (m : Nat) (hB : hmsParse ((byt s).drop n) = some (v, m)) (hm : n + m ≤ s.size) (hv0 : -604800 < v) (hv1 : v < 604800) (ho : decide (offOk v) = true) (dst : List UInt8) (n2 : Nat) (hC : tnParse ((byt s).drop (n + m)) = some (dst, n2)) (he : n + m < s.size) (hn2 : n + m + n2 ≤ s.size) (hE : hmsParse ((byt s).drop (n + m + n2)) = none) (hns : nameOk std = true) (hso : offOk (-v)) (hnd : nameOk dst = true) (R : Value) (hRes : ptRes (ptDays (byt s) (n + m + n2) std (-v) dst (-v + 3600)) = R) :
 Calls Tryz.prog 34 #[.string s] w fun e w' => e = .returned (R) ∧ Below w.heap.size w w' := by
 replace hRes := hide hRes
 have hErr := hide (show ∀ x : Nat, ptRes (.error x) = .tuple #[.agg (crule ⟨#[]⟩ 0 false ⟨#[]⟩ 0 rd0 rd0), .int .i64 14, .int .i64 (x : Int)] from fun _ => rfl)
 have A := hide (show ∀ w : World, Calls Tryz.prog 78 #[.string s] w fun e w' => e = .returned (.tuple #[.string (mkS std), .int .i64 n, .bool true]) ∧ w = w' from fun w => by have := r7_.Parse s w hs; rwa [hA] at this)
 clear hA
 have B := hide (show ∀ w : World, Calls Tryz.prog 80 #[.string (s.extract n s.size)] w fun e w' => e = .returned (.tuple #[.int .i64 v, .int .i64 m, .bool true]) ∧ Below w.heap.size w w' from fun w => by have := r8_.Parse (s.extract n s.size) w (by rw [ByteArray.size_extract]; omega); rwa [byt_rest, hB] at this)
 clear hB
 have O := hide (fun w => in_ v w _ ho)
 clear ho
 have C' := hide (show ∀ w : World, Calls Tryz.prog 78 #[.string (s.extract (n + m) s.size)] w fun e w' => e = .returned (.tuple #[.string (mkS dst), .int .i64 n2, .bool true]) ∧ w = w' from fun w => by have := r7_.Parse (s.extract (n + m) s.size) w (by rw [ByteArray.size_extract]; omega); rwa [byt_rest, hC] at this)
 clear hC
 have D := hide (show ∀ w : World, Calls Tryz.prog 80 #[.string (s.extract (n + m + n2) s.size)] w fun e w' => e = .returned (.tuple #[.int .i64 0, .int .i64 0, .bool false]) ∧ Below w.heap.size w w' from fun w => by have := r8_.Parse (s.extract (n + m + n2) s.size) w (by rw [ByteArray.size_extract]; omega); rwa [byt_rest, hE] at this)
 clear hE
 have F := hide (fun a w => fail_ a w)
 have hR := hide (show Ro ((w.alloc (.cells #[.string ⟨#[]⟩, .int .i64 0, .bool false, .string ⟨#[]⟩, .int .i64 0, .int .i64 0, .int .i64 0, .int .i64 0, .int .i64 0, .int .i64 0, .int .i64 0, .int .i64 0, .int .i64 0, .int .i64 0, .int .i64 0, .int .i64 0, .int .i64 0] 51)).alloc (.cells #[.string ⟨#[]⟩, .int .i64 0, .bool false, .string ⟨#[]⟩, .int .i64 0, .int .i64 0, .int .i64 0, .int .i64 0, .int .i64 0, .int .i64 0, .int .i64 0, .int .i64 0, .int .i64 0, .int .i64 0, .int .i64 0, .int .i64 0, .int .i64 0] 51)) w.heap.size (crule ⟨#[]⟩ 0 false ⟨#[]⟩ 0 rd0 rd0) 51 from (Ro.new w _ 51).alloc _)
 have hD := hide (show Ro ((w.alloc (.cells #[.string ⟨#[]⟩, .int .i64 0, .bool false, .string ⟨#[]⟩, .int .i64 0, .int .i64 0, .int .i64 0, .int .i64 0, .int .i64 0, .int .i64 0, .int .i64 0, .int .i64 0, .int .i64 0, .int .i64 0, .int .i64 0, .int .i64 0, .int .i64 0] 51)).alloc (.cells #[.string ⟨#[]⟩, .int .i64 0, .bool false, .string ⟨#[]⟩, .int .i64 0, .int .i64 0, .int .i64 0, .int .i64 0, .int .i64 0, .int .i64 0, .int .i64 0, .int .i64 0, .int .i64 0, .int .i64 0, .int .i64 0, .int .i64 0, .int .i64 0] 51)) (w.heap.size + 1) #[.string ⟨#[]⟩, .int .i64 0, .bool false, .string ⟨#[]⟩, .int .i64 0, .int .i64 0, .int .i64 0, .int .i64 0, .int .i64 0, .int .i64 0, .int .i64 0, .int .i64 0, .int .i64 0, .int .i64 0, .int .i64 0, .int .i64 0, .int .i64 0] 51 by have := Ro.new (w.alloc (.cells #[.string ⟨#[]⟩, .int .i64 0, .bool false, .string ⟨#[]⟩, .int .i64 0, .int .i64 0, .int .i64 0, .int .i64 0, .int .i64 0, .int .i64 0, .int .i64 0, .int .i64 0, .int .i64 0, .int .i64 0, .int .i64 0, .int .i64 0, .int .i64 0] 51)) #[.string ⟨#[]⟩, .int .i64 0, .bool false, .string ⟨#[]⟩, .int .i64 0, .int .i64 0, .int .i64 0, .int .i64 0, .int .i64 0, .int .i64 0, .int .i64 0, .int .i64 0, .int .i64 0, .int .i64 0, .int .i64 0, .int .i64 0, .int .i64 0] 51; simpa using this)
 have hb := hide (bl_alloc (bl_new w (.cells #[.string ⟨#[]⟩, .int .i64 0, .bool false, .string ⟨#[]⟩, .int .i64 0, .int .i64 0, .int .i64 0, .int .i64 0, .int .i64 0, .int .i64 0, .int .i64 0, .int .i64 0, .int .i64 0, .int .i64 0, .int .i64 0, .int .i64 0, .int .i64 0] 51)) (.cells #[.string ⟨#[]⟩, .int .i64 0, .bool false, .string ⟨#[]⟩, .int .i64 0, .int .i64 0, .int .i64 0, .int .i64 0, .int .i64 0, .int .i64 0, .int .i64 0, .int .i64 0, .int .i64 0, .int .i64 0, .int .i64 0, .int .i64 0, .int .i64 0] 51))
 have G0 := hide (gr_rule ⟨#[]⟩ 0 false ⟨#[]⟩ 0 rd0 rd0)
 generalize crule ⟨#[]⟩ 0 false ⟨#[]⟩ 0 rd0 rd0 = c0 at *
 have c0s := G0.out.2.1
 go_enter Tryz.func34, Tryz.ntmps34
 go_wp2_with fail
 generalize (w.alloc (.cells #[.string ⟨#[]⟩, .int .i64 0, .bool false, .string ⟨#[]⟩, .int .i64 0, .int .i64 0, .int .i64 0, .int .i64 0, .int .i64 0, .int .i64 0, .int .i64 0, .int .i64 0, .int .i64 0, .int .i64 0, .int .i64 0, .int .i64 0, .int .i64 0] 51)).alloc (.cells #[.string ⟨#[]⟩, .int .i64 0, .bool false, .string ⟨#[]⟩, .int .i64 0, .int .i64 0, .int .i64 0, .int .i64 0, .int .i64 0, .int .i64 0, .int .i64 0, .int .i64 0, .int .i64 0, .int .i64 0, .int .i64 0, .int .i64 0, .int .i64 0] 51) = w0 at *
 refine (A.out _).mono ?_
 rintro e w1 ⟨rfl, rfl⟩
 go_wp2_with fail
 refine (B.out _).mono ?_
 rintro e w2 ⟨rfl, h1⟩
 replace hR := hide (hR.out.below h1)
 replace hD := hide (hD.out.below h1)
 replace hb := hide (bel_next hb.out h1)
 clear h1
 go_wp2_with fail
 refine (O.out _).mono ?_
 rintro e w3 ⟨rfl, rfl⟩
 obtain ⟨p0, q0⟩ := ro_cf hD.out 0 _ rfl
 go_upto_region 9 with fail
 clear p0 q0
 replace hD := hide (show Ro (w2.setCell ⟨w.heap.size + 1, 0, none⟩ (.string (mkS std))) (w.heap.size + 1) #[.string (mkS std), .int .i64 0, .bool false, .string ⟨#[]⟩, .int .i64 0, .int .i64 0, .int .i64 0, .int .i64 0, .int .i64 0, .int .i64 0, .int .i64 0, .int .i64 0, .int .i64 0, .int .i64 0, .int .i64 0, .int .i64 0, .int .i64 0] 51 from ro_set hD.out 0 (.string (mkS std)))
 replace hR := hide (show Ro (w2.setCell ⟨w.heap.size + 1, 0, none⟩ (.string (mkS std))) w.heap.size c0 51 from ro_set_ne hR.out (show w.heap.size + 1 ≠ w.heap.size by omega) 0 (.string (mkS std)))
 replace hb := hide (show Below w.heap.size w (w2.setCell ⟨w.heap.size + 1, 0, none⟩ (.string (mkS std))) from bl_set hb.out (show w.heap.size ≤ w.heap.size + 1 by omega) (.string (mkS std)))
 generalize w2.setCell ⟨w.heap.size + 1, 0, none⟩ (.string (mkS std)) = w4 at *
 obtain ⟨p1, q1⟩ := ro_cf hD.out 1 _ rfl
 go_upto_region 10 with fail
 clear p1 q1
 replace hD := hide (show Ro (w4.setCell ⟨w.heap.size + 1, 1, none⟩ (.int .i64 (-v))) (w.heap.size + 1) #[.string (mkS std), .int .i64 (-v), .bool false, .string ⟨#[]⟩, .int .i64 0, .int .i64 0, .int .i64 0, .int .i64 0, .int .i64 0, .int .i64 0, .int .i64 0, .int .i64 0, .int .i64 0, .int .i64 0, .int .i64 0, .int .i64 0, .int .i64 0] 51 from ro_set hD.out 1 (.int .i64 (-v)))
 replace hR := hide (show Ro (w4.setCell ⟨w.heap.size + 1, 1, none⟩ (.int .i64 (-v))) w.heap.size c0 51 from ro_set_ne hR.out (show w.heap.size + 1 ≠ w.heap.size by omega) 1 (.int .i64 (-v)))
 replace hb := hide (show Below w.heap.size w (w4.setCell ⟨w.heap.size + 1, 1, none⟩ (.int .i64 (-v))) from bl_set hb.out (show w.heap.size ≤ w.heap.size + 1 by omega) (.int .i64 (-v)))
 generalize w4.setCell ⟨w.heap.size + 1, 1, none⟩ (.int .i64 (-v)) = w5 at *
 go_wp2_with fail
 refine (C'.out _).mono ?_
 rintro e w6 ⟨rfl, rfl⟩
 obtain ⟨p2, q2⟩ := ro_cf hD.out 2 _ rfl
 go_upto_region 18 with fail
 clear p2 q2
 replace hD := hide (show Ro (w5.setCell ⟨w.heap.size + 1, 2, none⟩ (.bool true)) (w.heap.size + 1) #[.string (mkS std), .int .i64 (-v), .bool true, .string ⟨#[]⟩, .int .i64 0, .int .i64 0, .int .i64 0, .int .i64 0, .int .i64 0, .int .i64 0, .int .i64 0, .int .i64 0, .int .i64 0, .int .i64 0, .int .i64 0, .int .i64 0, .int .i64 0] 51 from ro_set hD.out 2 (.bool true))
 replace hR := hide (show Ro (w5.setCell ⟨w.heap.size + 1, 2, none⟩ (.bool true)) w.heap.size c0 51 from ro_set_ne hR.out (show w.heap.size + 1 ≠ w.heap.size by omega) 2 (.bool true))
 replace hb := hide (show Below w.heap.size w (w5.setCell ⟨w.heap.size + 1, 2, none⟩ (.bool true)) from bl_set hb.out (show w.heap.size ≤ w.heap.size + 1 by omega) (.bool true))
 generalize w5.setCell ⟨w.heap.size + 1, 2, none⟩ (.bool true) = w7 at *
 obtain ⟨p3, q3⟩ := ro_cf hD.out 3 _ rfl
 go_upto_region 19 with fail
 clear p3 q3
 replace hD := hide (show Ro (w7.setCell ⟨w.heap.size + 1, 3, none⟩ (.string (mkS dst))) (w.heap.size + 1) #[.string (mkS std), .int .i64 (-v), .bool true, .string (mkS dst), .int .i64 0, .int .i64 0, .int .i64 0, .int .i64 0, .int .i64 0, .int .i64 0, .int .i64 0, .int .i64 0, .int .i64 0, .int .i64 0, .int .i64 0, .int .i64 0, .int .i64 0] 51 from ro_set hD.out 3 (.string (mkS dst)))
 replace hR := hide (show Ro (w7.setCell ⟨w.heap.size + 1, 3, none⟩ (.string (mkS dst))) w.heap.size c0 51 from ro_set_ne hR.out (show w.heap.size + 1 ≠ w.heap.size by omega) 3 (.string (mkS dst)))
 replace hb := hide (show Below w.heap.size w (w7.setCell ⟨w.heap.size + 1, 3, none⟩ (.string (mkS dst))) from bl_set hb.out (show w.heap.size ≤ w.heap.size + 1 by omega) (.string (mkS dst)))
 generalize w7.setCell ⟨w.heap.size + 1, 3, none⟩ (.string (mkS dst)) = w8 at *
 obtain ⟨p1, q1⟩ := ro_cf hD.out 1 _ rfl
 obtain ⟨p4, q4⟩ := ro_cf hD.out 4 _ rfl
 go_upto_region 20 with fail
 clear p1 q1 p4 q4
 replace hD := hide (show Ro (w8.setCell ⟨w.heap.size + 1, 4, none⟩ (.int .i64 (-v + 3600))) (w.heap.size + 1) #[.string (mkS std), .int .i64 (-v), .bool true, .string (mkS dst), .int .i64 (-v + 3600), .int .i64 0, .int .i64 0, .int .i64 0, .int .i64 0, .int .i64 0, .int .i64 0, .int .i64 0, .int .i64 0, .int .i64 0, .int .i64 0, .int .i64 0, .int .i64 0] 51 from ro_set hD.out 4 (.int .i64 (-v + 3600)))
 replace hR := hide (show Ro (w8.setCell ⟨w.heap.size + 1, 4, none⟩ (.int .i64 (-v + 3600))) w.heap.size c0 51 from ro_set_ne hR.out (show w.heap.size + 1 ≠ w.heap.size by omega) 4 (.int .i64 (-v + 3600)))
 replace hb := hide (show Below w.heap.size w (w8.setCell ⟨w.heap.size + 1, 4, none⟩ (.int .i64 (-v + 3600))) from bl_set hb.out (show w.heap.size ≤ w.heap.size + 1 by omega) (.int .i64 (-v + 3600)))
 generalize w8.setCell ⟨w.heap.size + 1, 4, none⟩ (.int .i64 (-v + 3600)) = w9 at *
 go_wp2_with fail
 refine (D.out _).mono ?_
 rintro e w10 ⟨rfl, h1⟩
 replace hR := hide (hR.out.below h1)
 replace hD := hide (hD.out.below h1)
 replace hb := hide (bel_next hb.out h1)
 clear h1
 go_wp2_with fail
 go_loopw [12, 14] (fun atv kv wr => ∃ (k a : Nat) (st en : RD), k ≤ 2 ∧ a ≤ s.size ∧ atv = .int .i64 a ∧ kv = .int .i64 k ∧ Hid (Lp (byt s) (n + m + n2) k a st en) ∧ Hid (Ro wr w.heap.size c0 51) ∧ Hid (Ro wr (w.heap.size + 1) #[.string (mkS std), .int .i64 (-v), .bool true, .string (mkS dst), .int .i64 (-v + 3600), .int .i64 st.1, .int .i64 st.2.1, .int .i64 st.2.2.1, .int .i64 st.2.2.2.1, .int .i64 st.2.2.2.2.1, .int .i64 st.2.2.2.2.2, .int .i64 en.1, .int .i64 en.2.1, .int .i64 en.2.2.1, .int .i64 en.2.2.2.1, .int .i64 en.2.2.2.2.1, .int .i64 en.2.2.2.2.2] 51) ∧ Hid (Below w.heap.size w wr)) (fun _ kv _ => 2 - (intOf kv).toNat)
 case atStart => exact ⟨0, n + m + n2, rd0, rd0, by omega, by omega, by simp, rfl, hide (.inl ⟨rfl, rfl, rfl, rfl⟩), hR, hide (show Ro _ (w.heap.size + 1) #[.string (mkS std), .int .i64 (-v), .bool true, .string (mkS dst), .int .i64 (-v + 3600), .int .i64 rd0.1, .int .i64 rd0.2.1, .int .i64 rd0.2.2.1, .int .i64 rd0.2.2.2.1, .int .i64 rd0.2.2.2.2.1, .int .i64 rd0.2.2.2.2.2, .int .i64 rd0.1, .int .i64 rd0.2.1, .int .i64 rd0.2.2.1, .int .i64 rd0.2.2.2.1, .int .i64 rd0.2.2.2.2.1, .int .i64 rd0.2.2.2.2.2] 51 from hD.out), hb⟩
 case round =>
  clear hR hD hb
  obtain ⟨k, a, st, en, hk, ha, rfl, rfl, hL, hR, hD, hb⟩ := hrel
  rcases (show k = 0 ∨ k = 1 ∨ k = 2 by omega) with rfl | rfl | rfl
  ·have E := hide (fun x (e : ptComma (byt s) a = .error x) => lp_err hL.out (by omega) e std (-v) dst (-v + 3600))
   rcases hq : (byt s).drop a with _ | ⟨c, t⟩
   ·have hge := drop_nil hq
    have hx := hide (comma_nil hq)
    clear hq hL
    go_wp2_with fail
    refine (F.out _ _).mono ?_
    rintro e w12 ⟨rfl, h1⟩
    replace hR := hide (hR.out.below h1)
    replace hb := hide (bel_next hb.out h1)
    clear h1
    have G1 := G0.out
    go_wp2_with (refine wpList_store_row rfl 51 _ _ rfl _ _ rfl rfl _ _ hR.out G1.1 (c0s.trans G1.2.1.symm) G1.2.2 ?_)
    have hl := ((ro_row hR.out c0).load 51 _ Tryz.underlying51 rfl G1.1).2
    refine bodyPost_ret (results_c9 (x := .int .i64 14) (y := .int .i64 a) Tryz.results34 rfl rfl rfl hl) rfl ⟨by rw [← hRes.out, E.out _ hx.out, hErr.out], bl_row hb.out (Nat.le_refl _) c0⟩
   obtain ⟨hlt, h1, h2⟩ := drop_cons hq
   by_cases h44 : ¬ (c.toNat : Int) = 44
   ·have hx := hide (comma_no hq h44)
    have e44 : ((c.toNat : Int) != 44) = true := by simpa using h44
    have h3 : (s[a].toNat : Int) = (c.toNat : Int) := by rw [h1]
    have hcb := byte_bd c
    clear hq h44 h1 h2 hL
    generalize (c.toNat : Int) = x at *
    obtain ⟨hc0, hc1⟩ := hcb
    go_wp2_with fail
    refine (F.out _ _).mono ?_
    rintro e w12 ⟨rfl, h1⟩
    replace hR := hide (hR.out.below h1)
    replace hb := hide (bel_next hb.out h1)
    clear h1
    have G1 := G0.out
    go_wp2_with (refine wpList_store_row rfl 51 _ _ rfl _ _ rfl rfl _ _ hR.out G1.1 (c0s.trans G1.2.1.symm) G1.2.2 ?_)
    have hl := ((ro_row hR.out c0).load 51 _ Tryz.underlying51 rfl G1.1).2
    refine bodyPost_ret (results_c9 (x := .int .i64 14) (y := .int .i64 a) Tryz.results34 rfl rfl rfl hl) rfl ⟨by rw [← hRes.out, E.out _ hx.out, hErr.out], bl_row hb.out (Nat.le_refl _) c0⟩
   replace h44 := Decidable.not_not.1 h44
   have h3 : (s[a].toNat : Int) = 44 := by rw [h1]; exact h44
   have P := hide (fun w => Day (s.extract (a + 1) s.size) w (by rw [ByteArray.size_extract]; omega))
   rw [byt_rest, h2] at P
   rcases hd : ptDay t with _ | ⟨d, n'⟩
   ·rw [hd] at P
    simp only [ptDayRes, vday, rd0] at P
    have hx := hide (comma_none hq h44 hd)
    clear hq h44 h1 h2 hd hL
    go_wp2_with fail
    refine (P.out _).mono ?_
    rintro e w13 ⟨rfl, h1⟩
    replace hR := hide (hR.out.below h1)
    replace hD := hide (hD.out.below h1)
    replace hb := hide (bel_next hb.out h1)
    clear h1
    go_wp2_with fail
    replace hR := hide (hR.out.alloc (.cells #[.int .i64 0, .int .i64 0, .int .i64 0, .int .i64 0, .int .i64 0, .int .i64 0] 49))
    replace hb := hide (bl_alloc hb.out (.cells #[.int .i64 0, .int .i64 0, .int .i64 0, .int .i64 0, .int .i64 0, .int .i64 0] 49))
    refine (F.out _ _).mono ?_
    rintro e w12 ⟨rfl, h1⟩
    replace hR := hide (hR.out.below h1)
    replace hb := hide (bel_next hb.out h1)
    clear h1
    have G1 := G0.out
    go_wp2_with (refine wpList_store_row rfl 51 _ _ rfl _ _ rfl rfl _ _ hR.out G1.1 (c0s.trans G1.2.1.symm) G1.2.2 ?_)
    have hl := ((ro_row hR.out c0).load 51 _ Tryz.underlying51 rfl G1.1).2
    refine bodyPost_ret (results_c9 (x := .int .i64 14) (y := .int .i64 ((a : Int) + 1)) Tryz.results34 rfl rfl rfl hl) rfl ⟨by rw [← hRes.out, E.out _ hx.out, hErr.out]; simp, bl_row hb.out (Nat.le_refl _) c0⟩
   rw [hd] at P
   simp only [ptDayRes, vday] at P
   have hx := hide (comma_ok hq h44 hd)
   have hcl := ptComma_ok hx.out
   rw [len_byt] at hcl
   obtain ⟨_, hle, _⟩ := hcl
   have hL2 := hide (show Lp (byt s) (n + m + n2) (0 + 1) (a + 1 + n') d en from by
    rcases hL.out with ⟨h, rfl, rfl, rfl⟩ | ⟨h, h5, rfl⟩ | ⟨h, _⟩
    ·exact .inr (.inl ⟨rfl, hx.out, rfl⟩)
    ·omega
    ·omega)
   clear hq h44 h1 h2 hd hL hx E
   go_wp2_with fail
   refine (P.out _).mono ?_
   rintro e w13 ⟨rfl, h1⟩
   replace hR := hide (hR.out.below h1)
   replace hD := hide (hD.out.below h1)
   replace hb := hide (bel_next hb.out h1)
   clear h1
   go_upto_region 36 with fail
   replace hR := hide (hR.out.alloc (.cells #[.int .i64 d.1, .int .i64 d.2.1, .int .i64 d.2.2.1, .int .i64 d.2.2.2.1, .int .i64 d.2.2.2.2.1, .int .i64 d.2.2.2.2.2] 49))
   replace hD := hide (hD.out.alloc (.cells #[.int .i64 d.1, .int .i64 d.2.1, .int .i64 d.2.2.1, .int .i64 d.2.2.2.1, .int .i64 d.2.2.2.2.1, .int .i64 d.2.2.2.2.2] 49))
   have hN := hide (show Ro (w13.alloc (.cells #[.int .i64 d.1, .int .i64 d.2.1, .int .i64 d.2.2.1, .int .i64 d.2.2.2.1, .int .i64 d.2.2.2.2.1, .int .i64 d.2.2.2.2.2] 49)) w13.heap.size #[.int .i64 d.1, .int .i64 d.2.1, .int .i64 d.2.2.1, .int .i64 d.2.2.2.1, .int .i64 d.2.2.2.2.1, .int .i64 d.2.2.2.2.2] 49 from Ro.new w13 _ _)
   replace hb := hide (bl_alloc hb.out (.cells #[.int .i64 d.1, .int .i64 d.2.1, .int .i64 d.2.2.1, .int .i64 d.2.2.2.1, .int .i64 d.2.2.2.2.1, .int .i64 d.2.2.2.2.2] 49))
   generalize w13.alloc (.cells #[.int .i64 d.1, .int .i64 d.2.1, .int .i64 d.2.2.1, .int .i64 d.2.2.2.1, .int .i64 d.2.2.2.2.1, .int .i64 d.2.2.2.2.2] 49) = w16 at *
   obtain ⟨a0, b0⟩ := ro_cf hN.out 0 _ rfl
   obtain ⟨a1, b1⟩ := ro_cf hN.out 1 _ rfl
   obtain ⟨a2, b2⟩ := ro_cf hN.out 2 _ rfl
   obtain ⟨a3, b3⟩ := ro_cf hN.out 3 _ rfl
   obtain ⟨a4, b4⟩ := ro_cf hN.out 4 _ rfl
   obtain ⟨a5, b5⟩ := ro_cf hN.out 5 _ rfl
   obtain ⟨p5, q5⟩ := ro_cf hD.out 5 _ rfl
   obtain ⟨p6, q6⟩ := ro_cf hD.out 6 _ rfl
   obtain ⟨p7, q7⟩ := ro_cf hD.out 7 _ rfl
   obtain ⟨p8, q8⟩ := ro_cf hD.out 8 _ rfl
   obtain ⟨p9, q9⟩ := ro_cf hD.out 9 _ rfl
   obtain ⟨p10, q10⟩ := ro_cf hD.out 10 _ rfl
   go_upto_region 28 with fail
   clear hN p5 q5 a0 b0 p6 q6 a1 b1 p7 q7 a2 b2 p8 q8 a3 b3 p9 q9 a4 b4 p10 q10 a5 b5
   replace hR := hide (show Ro ((((((w16.setCell ⟨w.heap.size + 1, 5, none⟩ (.int .i64 d.1)).setCell ⟨w.heap.size + 1, 6, none⟩ (.int .i64 d.2.1)).setCell ⟨w.heap.size + 1, 7, none⟩ (.int .i64 d.2.2.1)).setCell ⟨w.heap.size + 1, 8, none⟩ (.int .i64 d.2.2.2.1)).setCell ⟨w.heap.size + 1, 9, none⟩ (.int .i64 d.2.2.2.2.1)).setCell ⟨w.heap.size + 1, 10, none⟩ (.int .i64 d.2.2.2.2.2)) w.heap.size c0 51 from (ro_set_ne (ro_set_ne (ro_set_ne (ro_set_ne (ro_set_ne (ro_set_ne hR.out (show w.heap.size + 1 ≠ w.heap.size by omega) 5 (.int .i64 d.1)) (show w.heap.size + 1 ≠ w.heap.size by omega) 6 (.int .i64 d.2.1)) (show w.heap.size + 1 ≠ w.heap.size by omega) 7 (.int .i64 d.2.2.1)) (show w.heap.size + 1 ≠ w.heap.size by omega) 8 (.int .i64 d.2.2.2.1)) (show w.heap.size + 1 ≠ w.heap.size by omega) 9 (.int .i64 d.2.2.2.2.1)) (show w.heap.size + 1 ≠ w.heap.size by omega) 10 (.int .i64 d.2.2.2.2.2)))
   replace hD := hide (show Ro ((((((w16.setCell ⟨w.heap.size + 1, 5, none⟩ (.int .i64 d.1)).setCell ⟨w.heap.size + 1, 6, none⟩ (.int .i64 d.2.1)).setCell ⟨w.heap.size + 1, 7, none⟩ (.int .i64 d.2.2.1)).setCell ⟨w.heap.size + 1, 8, none⟩ (.int .i64 d.2.2.2.1)).setCell ⟨w.heap.size + 1, 9, none⟩ (.int .i64 d.2.2.2.2.1)).setCell ⟨w.heap.size + 1, 10, none⟩ (.int .i64 d.2.2.2.2.2)) (w.heap.size + 1) #[.string (mkS std), .int .i64 (-v), .bool true, .string (mkS dst), .int .i64 (-v + 3600), .int .i64 d.1, .int .i64 d.2.1, .int .i64 d.2.2.1, .int .i64 d.2.2.2.1, .int .i64 d.2.2.2.2.1, .int .i64 d.2.2.2.2.2, .int .i64 en.1, .int .i64 en.2.1, .int .i64 en.2.2.1, .int .i64 en.2.2.2.1, .int .i64 en.2.2.2.2.1, .int .i64 en.2.2.2.2.2] 51 from (ro_set (ro_set (ro_set (ro_set (ro_set (ro_set hD.out 5 (.int .i64 d.1)) 6 (.int .i64 d.2.1)) 7 (.int .i64 d.2.2.1)) 8 (.int .i64 d.2.2.2.1)) 9 (.int .i64 d.2.2.2.2.1)) 10 (.int .i64 d.2.2.2.2.2)))
   replace hb := hide (show Below w.heap.size w ((((((w16.setCell ⟨w.heap.size + 1, 5, none⟩ (.int .i64 d.1)).setCell ⟨w.heap.size + 1, 6, none⟩ (.int .i64 d.2.1)).setCell ⟨w.heap.size + 1, 7, none⟩ (.int .i64 d.2.2.1)).setCell ⟨w.heap.size + 1, 8, none⟩ (.int .i64 d.2.2.2.1)).setCell ⟨w.heap.size + 1, 9, none⟩ (.int .i64 d.2.2.2.2.1)).setCell ⟨w.heap.size + 1, 10, none⟩ (.int .i64 d.2.2.2.2.2)) from (bl_set (bl_set (bl_set (bl_set (bl_set (bl_set hb.out (show w.heap.size ≤ w.heap.size + 1 by omega) (.int .i64 d.1)) (show w.heap.size ≤ w.heap.size + 1 by omega) (.int .i64 d.2.1)) (show w.heap.size ≤ w.heap.size + 1 by omega) (.int .i64 d.2.2.1)) (show w.heap.size ≤ w.heap.size + 1 by omega) (.int .i64 d.2.2.2.1)) (show w.heap.size ≤ w.heap.size + 1 by omega) (.int .i64 d.2.2.2.2.1)) (show w.heap.size ≤ w.heap.size + 1 by omega) (.int .i64 d.2.2.2.2.2)))
   generalize ((((((w16.setCell ⟨w.heap.size + 1, 5, none⟩ (.int .i64 d.1)).setCell ⟨w.heap.size + 1, 6, none⟩ (.int .i64 d.2.1)).setCell ⟨w.heap.size + 1, 7, none⟩ (.int .i64 d.2.2.1)).setCell ⟨w.heap.size + 1, 8, none⟩ (.int .i64 d.2.2.2.1)).setCell ⟨w.heap.size + 1, 9, none⟩ (.int .i64 d.2.2.2.2.1)).setCell ⟨w.heap.size + 1, 10, none⟩ (.int .i64 d.2.2.2.2.2)) = w14 at *
   go_wp2
   go_roundw
   case rel => exact ⟨0 + 1, a + 1 + n', d, en, by omega, by omega, by simp, by simp, hL2, hR, hD, hb⟩
   case measure => simp [intOf]
  ·have E := hide (fun x (e : ptComma (byt s) a = .error x) => lp_err hL.out (by omega) e std (-v) dst (-v + 3600))
   rcases hq : (byt s).drop a with _ | ⟨c, t⟩
   ·have hge := drop_nil hq
    have hx := hide (comma_nil hq)
    clear hq hL
    go_wp2_with fail
    refine (F.out _ _).mono ?_
    rintro e w12 ⟨rfl, h1⟩
    replace hR := hide (hR.out.below h1)
    replace hb := hide (bel_next hb.out h1)
    clear h1
    have G1 := G0.out
    go_wp2_with (refine wpList_store_row rfl 51 _ _ rfl _ _ rfl rfl _ _ hR.out G1.1 (c0s.trans G1.2.1.symm) G1.2.2 ?_)
    have hl := ((ro_row hR.out c0).load 51 _ Tryz.underlying51 rfl G1.1).2
    refine bodyPost_ret (results_c9 (x := .int .i64 14) (y := .int .i64 a) Tryz.results34 rfl rfl rfl hl) rfl ⟨by rw [← hRes.out, E.out _ hx.out, hErr.out], bl_row hb.out (Nat.le_refl _) c0⟩
   obtain ⟨hlt, h1, h2⟩ := drop_cons hq
   by_cases h44 : ¬ (c.toNat : Int) = 44
   ·have hx := hide (comma_no hq h44)
    have e44 : ((c.toNat : Int) != 44) = true := by simpa using h44
    have h3 : (s[a].toNat : Int) = (c.toNat : Int) := by rw [h1]
    have hcb := byte_bd c
    clear hq h44 h1 h2 hL
    generalize (c.toNat : Int) = x at *
    obtain ⟨hc0, hc1⟩ := hcb
    go_wp2_with fail
    refine (F.out _ _).mono ?_
    rintro e w12 ⟨rfl, h1⟩
    replace hR := hide (hR.out.below h1)
    replace hb := hide (bel_next hb.out h1)
    clear h1
    have G1 := G0.out
    go_wp2_with (refine wpList_store_row rfl 51 _ _ rfl _ _ rfl rfl _ _ hR.out G1.1 (c0s.trans G1.2.1.symm) G1.2.2 ?_)
    have hl := ((ro_row hR.out c0).load 51 _ Tryz.underlying51 rfl G1.1).2
    refine bodyPost_ret (results_c9 (x := .int .i64 14) (y := .int .i64 a) Tryz.results34 rfl rfl rfl hl) rfl ⟨by rw [← hRes.out, E.out _ hx.out, hErr.out], bl_row hb.out (Nat.le_refl _) c0⟩
   replace h44 := Decidable.not_not.1 h44
   have h3 : (s[a].toNat : Int) = 44 := by rw [h1]; exact h44
   have P := hide (fun w => Day (s.extract (a + 1) s.size) w (by rw [ByteArray.size_extract]; omega))
   rw [byt_rest, h2] at P
   rcases hd : ptDay t with _ | ⟨d, n'⟩
   ·rw [hd] at P
    simp only [ptDayRes, vday, rd0] at P
    have hx := hide (comma_none hq h44 hd)
    clear hq h44 h1 h2 hd hL
    go_wp2_with fail
    refine (P.out _).mono ?_
    rintro e w13 ⟨rfl, h1⟩
    replace hR := hide (hR.out.below h1)
    replace hD := hide (hD.out.below h1)
    replace hb := hide (bel_next hb.out h1)
    clear h1
    go_wp2_with fail
    replace hR := hide (hR.out.alloc (.cells #[.int .i64 0, .int .i64 0, .int .i64 0, .int .i64 0, .int .i64 0, .int .i64 0] 49))
    replace hb := hide (bl_alloc hb.out (.cells #[.int .i64 0, .int .i64 0, .int .i64 0, .int .i64 0, .int .i64 0, .int .i64 0] 49))
    refine (F.out _ _).mono ?_
    rintro e w12 ⟨rfl, h1⟩
    replace hR := hide (hR.out.below h1)
    replace hb := hide (bel_next hb.out h1)
    clear h1
    have G1 := G0.out
    go_wp2_with (refine wpList_store_row rfl 51 _ _ rfl _ _ rfl rfl _ _ hR.out G1.1 (c0s.trans G1.2.1.symm) G1.2.2 ?_)
    have hl := ((ro_row hR.out c0).load 51 _ Tryz.underlying51 rfl G1.1).2
    refine bodyPost_ret (results_c9 (x := .int .i64 14) (y := .int .i64 ((a : Int) + 1)) Tryz.results34 rfl rfl rfl hl) rfl ⟨by rw [← hRes.out, E.out _ hx.out, hErr.out]; simp, bl_row hb.out (Nat.le_refl _) c0⟩
   rw [hd] at P
   simp only [ptDayRes, vday] at P
   have hx := hide (comma_ok hq h44 hd)
   have hcl := ptComma_ok hx.out
   rw [len_byt] at hcl
   obtain ⟨_, hle, _⟩ := hcl
   have hL2 := hide (show Lp (byt s) (n + m + n2) (1 + 1) (a + 1 + n') st d from by
    rcases hL.out with ⟨h, rfl, rfl, rfl⟩ | ⟨h, h5, rfl⟩ | ⟨h, _⟩
    ·omega
    ·exact .inr (.inr ⟨rfl, a, h5, hx.out⟩)
    ·omega)
   clear hq h44 h1 h2 hd hL hx E
   go_wp2_with fail
   refine (P.out _).mono ?_
   rintro e w13 ⟨rfl, h1⟩
   replace hR := hide (hR.out.below h1)
   replace hD := hide (hD.out.below h1)
   replace hb := hide (bel_next hb.out h1)
   clear h1
   go_upto_region 37 with fail
   replace hR := hide (hR.out.alloc (.cells #[.int .i64 d.1, .int .i64 d.2.1, .int .i64 d.2.2.1, .int .i64 d.2.2.2.1, .int .i64 d.2.2.2.2.1, .int .i64 d.2.2.2.2.2] 49))
   replace hD := hide (hD.out.alloc (.cells #[.int .i64 d.1, .int .i64 d.2.1, .int .i64 d.2.2.1, .int .i64 d.2.2.2.1, .int .i64 d.2.2.2.2.1, .int .i64 d.2.2.2.2.2] 49))
   have hN := hide (show Ro (w13.alloc (.cells #[.int .i64 d.1, .int .i64 d.2.1, .int .i64 d.2.2.1, .int .i64 d.2.2.2.1, .int .i64 d.2.2.2.2.1, .int .i64 d.2.2.2.2.2] 49)) w13.heap.size #[.int .i64 d.1, .int .i64 d.2.1, .int .i64 d.2.2.1, .int .i64 d.2.2.2.1, .int .i64 d.2.2.2.2.1, .int .i64 d.2.2.2.2.2] 49 from Ro.new w13 _ _)
   replace hb := hide (bl_alloc hb.out (.cells #[.int .i64 d.1, .int .i64 d.2.1, .int .i64 d.2.2.1, .int .i64 d.2.2.2.1, .int .i64 d.2.2.2.2.1, .int .i64 d.2.2.2.2.2] 49))
   generalize w13.alloc (.cells #[.int .i64 d.1, .int .i64 d.2.1, .int .i64 d.2.2.1, .int .i64 d.2.2.2.1, .int .i64 d.2.2.2.2.1, .int .i64 d.2.2.2.2.2] 49) = w16 at *
   obtain ⟨a0, b0⟩ := ro_cf hN.out 0 _ rfl
   obtain ⟨a1, b1⟩ := ro_cf hN.out 1 _ rfl
   obtain ⟨a2, b2⟩ := ro_cf hN.out 2 _ rfl
   obtain ⟨a3, b3⟩ := ro_cf hN.out 3 _ rfl
   obtain ⟨a4, b4⟩ := ro_cf hN.out 4 _ rfl
   obtain ⟨a5, b5⟩ := ro_cf hN.out 5 _ rfl
   obtain ⟨p11, q11⟩ := ro_cf hD.out 11 _ rfl
   obtain ⟨p12, q12⟩ := ro_cf hD.out 12 _ rfl
   obtain ⟨p13, q13⟩ := ro_cf hD.out 13 _ rfl
   obtain ⟨p14, q14⟩ := ro_cf hD.out 14 _ rfl
   obtain ⟨p15, q15⟩ := ro_cf hD.out 15 _ rfl
   obtain ⟨p16, q16⟩ := ro_cf hD.out 16 _ rfl
   go_upto_region 28 with fail
   clear hN p11 q11 a0 b0 p12 q12 a1 b1 p13 q13 a2 b2 p14 q14 a3 b3 p15 q15 a4 b4 p16 q16 a5 b5
   replace hR := hide (show Ro ((((((w16.setCell ⟨w.heap.size + 1, 11, none⟩ (.int .i64 d.1)).setCell ⟨w.heap.size + 1, 12, none⟩ (.int .i64 d.2.1)).setCell ⟨w.heap.size + 1, 13, none⟩ (.int .i64 d.2.2.1)).setCell ⟨w.heap.size + 1, 14, none⟩ (.int .i64 d.2.2.2.1)).setCell ⟨w.heap.size + 1, 15, none⟩ (.int .i64 d.2.2.2.2.1)).setCell ⟨w.heap.size + 1, 16, none⟩ (.int .i64 d.2.2.2.2.2)) w.heap.size c0 51 from (ro_set_ne (ro_set_ne (ro_set_ne (ro_set_ne (ro_set_ne (ro_set_ne hR.out (show w.heap.size + 1 ≠ w.heap.size by omega) 11 (.int .i64 d.1)) (show w.heap.size + 1 ≠ w.heap.size by omega) 12 (.int .i64 d.2.1)) (show w.heap.size + 1 ≠ w.heap.size by omega) 13 (.int .i64 d.2.2.1)) (show w.heap.size + 1 ≠ w.heap.size by omega) 14 (.int .i64 d.2.2.2.1)) (show w.heap.size + 1 ≠ w.heap.size by omega) 15 (.int .i64 d.2.2.2.2.1)) (show w.heap.size + 1 ≠ w.heap.size by omega) 16 (.int .i64 d.2.2.2.2.2)))
   replace hD := hide (show Ro ((((((w16.setCell ⟨w.heap.size + 1, 11, none⟩ (.int .i64 d.1)).setCell ⟨w.heap.size + 1, 12, none⟩ (.int .i64 d.2.1)).setCell ⟨w.heap.size + 1, 13, none⟩ (.int .i64 d.2.2.1)).setCell ⟨w.heap.size + 1, 14, none⟩ (.int .i64 d.2.2.2.1)).setCell ⟨w.heap.size + 1, 15, none⟩ (.int .i64 d.2.2.2.2.1)).setCell ⟨w.heap.size + 1, 16, none⟩ (.int .i64 d.2.2.2.2.2)) (w.heap.size + 1) #[.string (mkS std), .int .i64 (-v), .bool true, .string (mkS dst), .int .i64 (-v + 3600), .int .i64 st.1, .int .i64 st.2.1, .int .i64 st.2.2.1, .int .i64 st.2.2.2.1, .int .i64 st.2.2.2.2.1, .int .i64 st.2.2.2.2.2, .int .i64 d.1, .int .i64 d.2.1, .int .i64 d.2.2.1, .int .i64 d.2.2.2.1, .int .i64 d.2.2.2.2.1, .int .i64 d.2.2.2.2.2] 51 from (ro_set (ro_set (ro_set (ro_set (ro_set (ro_set hD.out 11 (.int .i64 d.1)) 12 (.int .i64 d.2.1)) 13 (.int .i64 d.2.2.1)) 14 (.int .i64 d.2.2.2.1)) 15 (.int .i64 d.2.2.2.2.1)) 16 (.int .i64 d.2.2.2.2.2)))
   replace hb := hide (show Below w.heap.size w ((((((w16.setCell ⟨w.heap.size + 1, 11, none⟩ (.int .i64 d.1)).setCell ⟨w.heap.size + 1, 12, none⟩ (.int .i64 d.2.1)).setCell ⟨w.heap.size + 1, 13, none⟩ (.int .i64 d.2.2.1)).setCell ⟨w.heap.size + 1, 14, none⟩ (.int .i64 d.2.2.2.1)).setCell ⟨w.heap.size + 1, 15, none⟩ (.int .i64 d.2.2.2.2.1)).setCell ⟨w.heap.size + 1, 16, none⟩ (.int .i64 d.2.2.2.2.2)) from (bl_set (bl_set (bl_set (bl_set (bl_set (bl_set hb.out (show w.heap.size ≤ w.heap.size + 1 by omega) (.int .i64 d.1)) (show w.heap.size ≤ w.heap.size + 1 by omega) (.int .i64 d.2.1)) (show w.heap.size ≤ w.heap.size + 1 by omega) (.int .i64 d.2.2.1)) (show w.heap.size ≤ w.heap.size + 1 by omega) (.int .i64 d.2.2.2.1)) (show w.heap.size ≤ w.heap.size + 1 by omega) (.int .i64 d.2.2.2.2.1)) (show w.heap.size ≤ w.heap.size + 1 by omega) (.int .i64 d.2.2.2.2.2)))
   generalize ((((((w16.setCell ⟨w.heap.size + 1, 11, none⟩ (.int .i64 d.1)).setCell ⟨w.heap.size + 1, 12, none⟩ (.int .i64 d.2.1)).setCell ⟨w.heap.size + 1, 13, none⟩ (.int .i64 d.2.2.1)).setCell ⟨w.heap.size + 1, 14, none⟩ (.int .i64 d.2.2.2.1)).setCell ⟨w.heap.size + 1, 15, none⟩ (.int .i64 d.2.2.2.2.1)).setCell ⟨w.heap.size + 1, 16, none⟩ (.int .i64 d.2.2.2.2.2)) = w14 at *
   go_wp2
   go_roundw
   case rel => exact ⟨1 + 1, a + 1 + n', st, d, by omega, by omega, by simp, by simp, hL2, hR, hD, hb⟩
   case measure => simp [intOf]
  ·obtain ⟨hend, hst, hen, _⟩ := lp_end hL.out rfl std (-v) dst (-v + 3600)
   rw [len_byt] at hend
   clear hL
   by_cases hae : ¬ a = s.size
   ·have hne : ((a : Int) != (s.size : Int)) = true := by simp; omega
    have hx := hide (show ptDays (byt s) (n + m + n2) std (-v) dst (-v + 3600) = .error a by rw [hend, if_neg (fun h => hae h.1)])
    clear hend hae
    go_wp2_with fail
    refine (F.out _ _).mono ?_
    rintro e w12 ⟨rfl, h1⟩
    replace hR := hide (hR.out.below h1)
    replace hb := hide (bel_next hb.out h1)
    clear h1
    have G1 := G0.out
    go_wp2_with (refine wpList_store_row rfl 51 _ _ rfl _ _ rfl rfl _ _ hR.out G1.1 (c0s.trans G1.2.1.symm) G1.2.2 ?_)
    have hl := ((ro_row hR.out c0).load 51 _ Tryz.underlying51 rfl G1.1).2
    refine bodyPost_ret (results_c9 (x := .int .i64 14) (y := .int .i64 a) Tryz.results34 rfl rfl rfl hl) rfl ⟨by rw [← hRes.out, hx.out, hErr.out], bl_row hb.out (Nat.le_refl _) c0⟩
   replace hae := Decidable.not_not.1 hae
   subst hae
   obtain ⟨ok, hok⟩ : ∃ ok, decide (offOk (-v + 3600)) = ok := ⟨_, rfl⟩
   have hprok : decide (prOk (std, -v, true, dst, -v + 3600, st, en)) = ok := by
    rw [← hok, Bool.eq_iff_iff, decide_eq_true_iff, decide_eq_true_iff]
    unfold prOk
    simp only [if_true]
    exact ⟨fun h => h.2.2.2.1, fun h => ⟨hns, hso, hnd, h, hst, hen⟩⟩
   have V := hide (fun w => Valid (mkS std) (-v) true (mkS dst) (-v + 3600) st en w (mk_max hns) (mk_max hnd))
   rw [byt_mk, byt_mk, hprok] at V
   simp only [vrule_c] at V
   have Gd := gr_rule (mkS std) (-v) true (mkS dst) (-v + 3600) st en
   obtain ⟨cs, hcs⟩ : ∃ cs, crule (mkS std) (-v) true (mkS dst) (-v + 3600) st en = cs := ⟨_, rfl⟩
   rw [hcs] at Gd V
   have hDc := hide (show Ro wr (w.heap.size + 1) cs 51 by rw [← hcs]; exact hD.out)
   have hx := hide (show ptRes (ptDays (byt s) (n + m + n2) std (-v) dst (-v + 3600)) = if ok then .tuple #[.agg cs, .int .i64 0, .int .i64 0] else .tuple #[.agg c0, .int .i64 14, .int .i64 (s.size : Int)] by
    rw [hend, ← hok]
    by_cases h : offOk (-v + 3600)
    ·rw [if_pos ⟨rfl, h⟩, decide_eq_true h, ← hcs]; rfl
    ·rw [if_neg (fun h' => h h'.2), decide_eq_false h]; exact hErr.out _)
   clear hend hprok hok hcs hD
   have G2 := Gd
   go_wp2_with (first | (refine load_row_g (by rfl) 51 _ rfl _ rfl _ _ _ hDc.out Tryz.underlying51 rfl G2.1 ?_))
   refine (V.out _).mono ?_
   rintro e w15 ⟨rfl, h1⟩
   replace hDc := hide (hDc.out.below h1)
   replace hR := hide (hR.out.below h1)
   replace hb := hide (bel_next hb.out h1)
   clear h1
   cases ok
   ·go_wp2_with fail
    refine (F.out _ _).mono ?_
    rintro e w12 ⟨rfl, h1⟩
    replace hR := hide (hR.out.below h1)
    replace hb := hide (bel_next hb.out h1)
    clear h1
    have G1 := G0.out
    go_wp2_with (refine wpList_store_row rfl 51 _ _ rfl _ _ rfl rfl _ _ hR.out G1.1 (c0s.trans G1.2.1.symm) G1.2.2 ?_)
    have hl := ((ro_row hR.out c0).load 51 _ Tryz.underlying51 rfl G1.1).2
    refine bodyPost_ret (results_c9 (x := .int .i64 14) (y := .int .i64 (s.size : Int)) Tryz.results34 rfl rfl rfl hl) rfl ⟨by rw [← hRes.out, hx.out]; rfl, bl_row hb.out (Nat.le_refl _) c0⟩
   ·have G1 := Gd
    go_wp2_with (first | (refine load_row_g (by rfl) 51 _ rfl _ rfl _ _ _ hDc.out Tryz.underlying51 rfl G1.1 ?_) | refine wpList_store_row rfl 51 _ _ rfl _ _ rfl rfl _ _ hR.out G1.1 (c0s.trans G1.2.1.symm) G1.2.2 ?_)
    have hl := ((ro_row hR.out cs).load 51 _ Tryz.underlying51 rfl G1.1).2
    exact bodyPost_ret (results_c9 (x := .int .i64 0) (y := .int .i64 0) Tryz.results34 rfl rfl rfl hl) rfl ⟨by rw [← hRes.out, hx.out]; rfl, bl_row hb.out (Nat.le_refl _) cs⟩
theorem Parse_7 (s : ByteArray) (w : World) (hs : s.size ≤ 1000000) (std : List UInt8) (n : Nat) (hA : tnParse (byt s) = some (std, n)) (hn : n ≤ s.size) (v : Int) (m : Nat) (hB : hmsParse ((byt s).drop n) = some (v, m)) (hm : n + m ≤ s.size) (hv0 : -604800 < v) (hv1 : v < 604800) (ho : decide (offOk v) = true) (dst : List UInt8) (n2 : Nat) (hC : tnParse ((byt s).drop (n + m)) = some (dst, n2)) (he : n + m < s.size) (hn2 : n + m + n2 ≤ s.size) (v2 : Int) (m2 : Nat) (hE : hmsParse ((byt s).drop (n + m + n2)) = some (v2, m2)) (hm2 : n + m + n2 + m2 ≤ s.size) (hv20 : -604800 < v2) (hv21 : v2 < 604800) (ho2 : decide (offOk v2) = true) (hns : nameOk std = true) (hso : offOk (-v)) (hnd : nameOk dst = true) (R : Value) (hRes : ptRes (ptDays (byt s) (n + m + n2 + m2) std (-v) dst (-v2)) = R) :
 Calls Tryz.prog 34 #[.string s] w fun e w' => e = .returned (R) ∧ Below w.heap.size w w' := by
 replace hRes := hide hRes
 have hErr := hide (show ∀ x : Nat, ptRes (.error x) = .tuple #[.agg (crule ⟨#[]⟩ 0 false ⟨#[]⟩ 0 rd0 rd0), .int .i64 14, .int .i64 (x : Int)] from fun _ => rfl)
 have A := hide (show ∀ w : World, Calls Tryz.prog 78 #[.string s] w fun e w' => e = .returned (.tuple #[.string (mkS std), .int .i64 n, .bool true]) ∧ w = w' from fun w => by have := r7_.Parse s w hs; rwa [hA] at this)
 clear hA
 have B := hide (show ∀ w : World, Calls Tryz.prog 80 #[.string (s.extract n s.size)] w fun e w' => e = .returned (.tuple #[.int .i64 v, .int .i64 m, .bool true]) ∧ Below w.heap.size w w' from fun w => by have := r8_.Parse (s.extract n s.size) w (by rw [ByteArray.size_extract]; omega); rwa [byt_rest, hB] at this)
 clear hB
 have O := hide (fun w => in_ v w _ ho)
 clear ho
 have C' := hide (show ∀ w : World, Calls Tryz.prog 78 #[.string (s.extract (n + m) s.size)] w fun e w' => e = .returned (.tuple #[.string (mkS dst), .int .i64 n2, .bool true]) ∧ w = w' from fun w => by have := r7_.Parse (s.extract (n + m) s.size) w (by rw [ByteArray.size_extract]; omega); rwa [byt_rest, hC] at this)
 clear hC
 have D := hide (show ∀ w : World, Calls Tryz.prog 80 #[.string (s.extract (n + m + n2) s.size)] w fun e w' => e = .returned (.tuple #[.int .i64 v2, .int .i64 m2, .bool true]) ∧ Below w.heap.size w w' from fun w => by have := r8_.Parse (s.extract (n + m + n2) s.size) w (by rw [ByteArray.size_extract]; omega); rwa [byt_rest, hE] at this)
 clear hE
 have O2 := hide (fun w => in_ v2 w _ ho2)
 clear ho2
 have F := hide (fun a w => fail_ a w)
 have hR := hide (show Ro ((w.alloc (.cells #[.string ⟨#[]⟩, .int .i64 0, .bool false, .string ⟨#[]⟩, .int .i64 0, .int .i64 0, .int .i64 0, .int .i64 0, .int .i64 0, .int .i64 0, .int .i64 0, .int .i64 0, .int .i64 0, .int .i64 0, .int .i64 0, .int .i64 0, .int .i64 0] 51)).alloc (.cells #[.string ⟨#[]⟩, .int .i64 0, .bool false, .string ⟨#[]⟩, .int .i64 0, .int .i64 0, .int .i64 0, .int .i64 0, .int .i64 0, .int .i64 0, .int .i64 0, .int .i64 0, .int .i64 0, .int .i64 0, .int .i64 0, .int .i64 0, .int .i64 0] 51)) w.heap.size (crule ⟨#[]⟩ 0 false ⟨#[]⟩ 0 rd0 rd0) 51 from (Ro.new w _ 51).alloc _)
 have hD := hide (show Ro ((w.alloc (.cells #[.string ⟨#[]⟩, .int .i64 0, .bool false, .string ⟨#[]⟩, .int .i64 0, .int .i64 0, .int .i64 0, .int .i64 0, .int .i64 0, .int .i64 0, .int .i64 0, .int .i64 0, .int .i64 0, .int .i64 0, .int .i64 0, .int .i64 0, .int .i64 0] 51)).alloc (.cells #[.string ⟨#[]⟩, .int .i64 0, .bool false, .string ⟨#[]⟩, .int .i64 0, .int .i64 0, .int .i64 0, .int .i64 0, .int .i64 0, .int .i64 0, .int .i64 0, .int .i64 0, .int .i64 0, .int .i64 0, .int .i64 0, .int .i64 0, .int .i64 0] 51)) (w.heap.size + 1) #[.string ⟨#[]⟩, .int .i64 0, .bool false, .string ⟨#[]⟩, .int .i64 0, .int .i64 0, .int .i64 0, .int .i64 0, .int .i64 0, .int .i64 0, .int .i64 0, .int .i64 0, .int .i64 0, .int .i64 0, .int .i64 0, .int .i64 0, .int .i64 0] 51 by have := Ro.new (w.alloc (.cells #[.string ⟨#[]⟩, .int .i64 0, .bool false, .string ⟨#[]⟩, .int .i64 0, .int .i64 0, .int .i64 0, .int .i64 0, .int .i64 0, .int .i64 0, .int .i64 0, .int .i64 0, .int .i64 0, .int .i64 0, .int .i64 0, .int .i64 0, .int .i64 0] 51)) #[.string ⟨#[]⟩, .int .i64 0, .bool false, .string ⟨#[]⟩, .int .i64 0, .int .i64 0, .int .i64 0, .int .i64 0, .int .i64 0, .int .i64 0, .int .i64 0, .int .i64 0, .int .i64 0, .int .i64 0, .int .i64 0, .int .i64 0, .int .i64 0] 51; simpa using this)
 have hb := hide (bl_alloc (bl_new w (.cells #[.string ⟨#[]⟩, .int .i64 0, .bool false, .string ⟨#[]⟩, .int .i64 0, .int .i64 0, .int .i64 0, .int .i64 0, .int .i64 0, .int .i64 0, .int .i64 0, .int .i64 0, .int .i64 0, .int .i64 0, .int .i64 0, .int .i64 0, .int .i64 0] 51)) (.cells #[.string ⟨#[]⟩, .int .i64 0, .bool false, .string ⟨#[]⟩, .int .i64 0, .int .i64 0, .int .i64 0, .int .i64 0, .int .i64 0, .int .i64 0, .int .i64 0, .int .i64 0, .int .i64 0, .int .i64 0, .int .i64 0, .int .i64 0, .int .i64 0] 51))
 have G0 := hide (gr_rule ⟨#[]⟩ 0 false ⟨#[]⟩ 0 rd0 rd0)
 generalize crule ⟨#[]⟩ 0 false ⟨#[]⟩ 0 rd0 rd0 = c0 at *
 have c0s := G0.out.2.1
 go_enter Tryz.func34, Tryz.ntmps34
 go_wp2_with fail
 generalize (w.alloc (.cells #[.string ⟨#[]⟩, .int .i64 0, .bool false, .string ⟨#[]⟩, .int .i64 0, .int .i64 0, .int .i64 0, .int .i64 0, .int .i64 0, .int .i64 0, .int .i64 0, .int .i64 0, .int .i64 0, .int .i64 0, .int .i64 0, .int .i64 0, .int .i64 0] 51)).alloc (.cells #[.string ⟨#[]⟩, .int .i64 0, .bool false, .string ⟨#[]⟩, .int .i64 0, .int .i64 0, .int .i64 0, .int .i64 0, .int .i64 0, .int .i64 0, .int .i64 0, .int .i64 0, .int .i64 0, .int .i64 0, .int .i64 0, .int .i64 0, .int .i64 0] 51) = w0 at *
 refine (A.out _).mono ?_
 rintro e w1 ⟨rfl, rfl⟩
 go_wp2_with fail
 refine (B.out _).mono ?_
 rintro e w2 ⟨rfl, h1⟩
 replace hR := hide (hR.out.below h1)
 replace hD := hide (hD.out.below h1)
 replace hb := hide (bel_next hb.out h1)
 clear h1
 go_wp2_with fail
 refine (O.out _).mono ?_
 rintro e w3 ⟨rfl, rfl⟩
 obtain ⟨p0, q0⟩ := ro_cf hD.out 0 _ rfl
 go_upto_region 9 with fail
 clear p0 q0
 replace hD := hide (show Ro (w2.setCell ⟨w.heap.size + 1, 0, none⟩ (.string (mkS std))) (w.heap.size + 1) #[.string (mkS std), .int .i64 0, .bool false, .string ⟨#[]⟩, .int .i64 0, .int .i64 0, .int .i64 0, .int .i64 0, .int .i64 0, .int .i64 0, .int .i64 0, .int .i64 0, .int .i64 0, .int .i64 0, .int .i64 0, .int .i64 0, .int .i64 0] 51 from ro_set hD.out 0 (.string (mkS std)))
 replace hR := hide (show Ro (w2.setCell ⟨w.heap.size + 1, 0, none⟩ (.string (mkS std))) w.heap.size c0 51 from ro_set_ne hR.out (show w.heap.size + 1 ≠ w.heap.size by omega) 0 (.string (mkS std)))
 replace hb := hide (show Below w.heap.size w (w2.setCell ⟨w.heap.size + 1, 0, none⟩ (.string (mkS std))) from bl_set hb.out (show w.heap.size ≤ w.heap.size + 1 by omega) (.string (mkS std)))
 generalize w2.setCell ⟨w.heap.size + 1, 0, none⟩ (.string (mkS std)) = w4 at *
 obtain ⟨p1, q1⟩ := ro_cf hD.out 1 _ rfl
 go_upto_region 10 with fail
 clear p1 q1
 replace hD := hide (show Ro (w4.setCell ⟨w.heap.size + 1, 1, none⟩ (.int .i64 (-v))) (w.heap.size + 1) #[.string (mkS std), .int .i64 (-v), .bool false, .string ⟨#[]⟩, .int .i64 0, .int .i64 0, .int .i64 0, .int .i64 0, .int .i64 0, .int .i64 0, .int .i64 0, .int .i64 0, .int .i64 0, .int .i64 0, .int .i64 0, .int .i64 0, .int .i64 0] 51 from ro_set hD.out 1 (.int .i64 (-v)))
 replace hR := hide (show Ro (w4.setCell ⟨w.heap.size + 1, 1, none⟩ (.int .i64 (-v))) w.heap.size c0 51 from ro_set_ne hR.out (show w.heap.size + 1 ≠ w.heap.size by omega) 1 (.int .i64 (-v)))
 replace hb := hide (show Below w.heap.size w (w4.setCell ⟨w.heap.size + 1, 1, none⟩ (.int .i64 (-v))) from bl_set hb.out (show w.heap.size ≤ w.heap.size + 1 by omega) (.int .i64 (-v)))
 generalize w4.setCell ⟨w.heap.size + 1, 1, none⟩ (.int .i64 (-v)) = w5 at *
 go_wp2_with fail
 refine (C'.out _).mono ?_
 rintro e w6 ⟨rfl, rfl⟩
 obtain ⟨p2, q2⟩ := ro_cf hD.out 2 _ rfl
 go_upto_region 18 with fail
 clear p2 q2
 replace hD := hide (show Ro (w5.setCell ⟨w.heap.size + 1, 2, none⟩ (.bool true)) (w.heap.size + 1) #[.string (mkS std), .int .i64 (-v), .bool true, .string ⟨#[]⟩, .int .i64 0, .int .i64 0, .int .i64 0, .int .i64 0, .int .i64 0, .int .i64 0, .int .i64 0, .int .i64 0, .int .i64 0, .int .i64 0, .int .i64 0, .int .i64 0, .int .i64 0] 51 from ro_set hD.out 2 (.bool true))
 replace hR := hide (show Ro (w5.setCell ⟨w.heap.size + 1, 2, none⟩ (.bool true)) w.heap.size c0 51 from ro_set_ne hR.out (show w.heap.size + 1 ≠ w.heap.size by omega) 2 (.bool true))
 replace hb := hide (show Below w.heap.size w (w5.setCell ⟨w.heap.size + 1, 2, none⟩ (.bool true)) from bl_set hb.out (show w.heap.size ≤ w.heap.size + 1 by omega) (.bool true))
 generalize w5.setCell ⟨w.heap.size + 1, 2, none⟩ (.bool true) = w7 at *
 obtain ⟨p3, q3⟩ := ro_cf hD.out 3 _ rfl
 go_upto_region 19 with fail
 clear p3 q3
 replace hD := hide (show Ro (w7.setCell ⟨w.heap.size + 1, 3, none⟩ (.string (mkS dst))) (w.heap.size + 1) #[.string (mkS std), .int .i64 (-v), .bool true, .string (mkS dst), .int .i64 0, .int .i64 0, .int .i64 0, .int .i64 0, .int .i64 0, .int .i64 0, .int .i64 0, .int .i64 0, .int .i64 0, .int .i64 0, .int .i64 0, .int .i64 0, .int .i64 0] 51 from ro_set hD.out 3 (.string (mkS dst)))
 replace hR := hide (show Ro (w7.setCell ⟨w.heap.size + 1, 3, none⟩ (.string (mkS dst))) w.heap.size c0 51 from ro_set_ne hR.out (show w.heap.size + 1 ≠ w.heap.size by omega) 3 (.string (mkS dst)))
 replace hb := hide (show Below w.heap.size w (w7.setCell ⟨w.heap.size + 1, 3, none⟩ (.string (mkS dst))) from bl_set hb.out (show w.heap.size ≤ w.heap.size + 1 by omega) (.string (mkS dst)))
 generalize w7.setCell ⟨w.heap.size + 1, 3, none⟩ (.string (mkS dst)) = w8 at *
 obtain ⟨p1, q1⟩ := ro_cf hD.out 1 _ rfl
 obtain ⟨p4, q4⟩ := ro_cf hD.out 4 _ rfl
 go_upto_region 20 with fail
 clear p1 q1 p4 q4
 replace hD := hide (show Ro (w8.setCell ⟨w.heap.size + 1, 4, none⟩ (.int .i64 (-v + 3600))) (w.heap.size + 1) #[.string (mkS std), .int .i64 (-v), .bool true, .string (mkS dst), .int .i64 (-v + 3600), .int .i64 0, .int .i64 0, .int .i64 0, .int .i64 0, .int .i64 0, .int .i64 0, .int .i64 0, .int .i64 0, .int .i64 0, .int .i64 0, .int .i64 0, .int .i64 0] 51 from ro_set hD.out 4 (.int .i64 (-v + 3600)))
 replace hR := hide (show Ro (w8.setCell ⟨w.heap.size + 1, 4, none⟩ (.int .i64 (-v + 3600))) w.heap.size c0 51 from ro_set_ne hR.out (show w.heap.size + 1 ≠ w.heap.size by omega) 4 (.int .i64 (-v + 3600)))
 replace hb := hide (show Below w.heap.size w (w8.setCell ⟨w.heap.size + 1, 4, none⟩ (.int .i64 (-v + 3600))) from bl_set hb.out (show w.heap.size ≤ w.heap.size + 1 by omega) (.int .i64 (-v + 3600)))
 generalize w8.setCell ⟨w.heap.size + 1, 4, none⟩ (.int .i64 (-v + 3600)) = w9 at *
 go_wp2_with fail
 refine (D.out _).mono ?_
 rintro e w10 ⟨rfl, h1⟩
 replace hR := hide (hR.out.below h1)
 replace hD := hide (hD.out.below h1)
 replace hb := hide (bel_next hb.out h1)
 clear h1
 go_wp2_with fail
 refine (O2.out _).mono ?_
 rintro e w11 ⟨rfl, rfl⟩
 obtain ⟨p4, q4⟩ := ro_cf hD.out 4 _ rfl
 go_upto_region 25 with fail
 clear p4 q4
 replace hD := hide (show Ro (w10.setCell ⟨w.heap.size + 1, 4, none⟩ (.int .i64 (-v2))) (w.heap.size + 1) #[.string (mkS std), .int .i64 (-v), .bool true, .string (mkS dst), .int .i64 (-v2), .int .i64 0, .int .i64 0, .int .i64 0, .int .i64 0, .int .i64 0, .int .i64 0, .int .i64 0, .int .i64 0, .int .i64 0, .int .i64 0, .int .i64 0, .int .i64 0] 51 from ro_set hD.out 4 (.int .i64 (-v2)))
 replace hR := hide (show Ro (w10.setCell ⟨w.heap.size + 1, 4, none⟩ (.int .i64 (-v2))) w.heap.size c0 51 from ro_set_ne hR.out (show w.heap.size + 1 ≠ w.heap.size by omega) 4 (.int .i64 (-v2)))
 replace hb := hide (show Below w.heap.size w (w10.setCell ⟨w.heap.size + 1, 4, none⟩ (.int .i64 (-v2))) from bl_set hb.out (show w.heap.size ≤ w.heap.size + 1 by omega) (.int .i64 (-v2)))
 generalize w10.setCell ⟨w.heap.size + 1, 4, none⟩ (.int .i64 (-v2)) = w17 at *
 go_wp2_with fail
 go_loopw [12, 14] (fun atv kv wr => ∃ (k a : Nat) (st en : RD), k ≤ 2 ∧ a ≤ s.size ∧ atv = .int .i64 a ∧ kv = .int .i64 k ∧ Hid (Lp (byt s) (n + m + n2 + m2) k a st en) ∧ Hid (Ro wr w.heap.size c0 51) ∧ Hid (Ro wr (w.heap.size + 1) #[.string (mkS std), .int .i64 (-v), .bool true, .string (mkS dst), .int .i64 (-v2), .int .i64 st.1, .int .i64 st.2.1, .int .i64 st.2.2.1, .int .i64 st.2.2.2.1, .int .i64 st.2.2.2.2.1, .int .i64 st.2.2.2.2.2, .int .i64 en.1, .int .i64 en.2.1, .int .i64 en.2.2.1, .int .i64 en.2.2.2.1, .int .i64 en.2.2.2.2.1, .int .i64 en.2.2.2.2.2] 51) ∧ Hid (Below w.heap.size w wr)) (fun _ kv _ => 2 - (intOf kv).toNat)
 case atStart => exact ⟨0, n + m + n2 + m2, rd0, rd0, by omega, by omega, by simp, rfl, hide (.inl ⟨rfl, rfl, rfl, rfl⟩), hR, hide (show Ro _ (w.heap.size + 1) #[.string (mkS std), .int .i64 (-v), .bool true, .string (mkS dst), .int .i64 (-v2), .int .i64 rd0.1, .int .i64 rd0.2.1, .int .i64 rd0.2.2.1, .int .i64 rd0.2.2.2.1, .int .i64 rd0.2.2.2.2.1, .int .i64 rd0.2.2.2.2.2, .int .i64 rd0.1, .int .i64 rd0.2.1, .int .i64 rd0.2.2.1, .int .i64 rd0.2.2.2.1, .int .i64 rd0.2.2.2.2.1, .int .i64 rd0.2.2.2.2.2] 51 from hD.out), hb⟩
 case round =>
  clear hR hD hb
  obtain ⟨k, a, st, en, hk, ha, rfl, rfl, hL, hR, hD, hb⟩ := hrel
  rcases (show k = 0 ∨ k = 1 ∨ k = 2 by omega) with rfl | rfl | rfl
  ·have E := hide (fun x (e : ptComma (byt s) a = .error x) => lp_err hL.out (by omega) e std (-v) dst (-v2))
   rcases hq : (byt s).drop a with _ | ⟨c, t⟩
   ·have hge := drop_nil hq
    have hx := hide (comma_nil hq)
    clear hq hL
    go_wp2_with fail
    refine (F.out _ _).mono ?_
    rintro e w12 ⟨rfl, h1⟩
    replace hR := hide (hR.out.below h1)
    replace hb := hide (bel_next hb.out h1)
    clear h1
    have G1 := G0.out
    go_wp2_with (refine wpList_store_row rfl 51 _ _ rfl _ _ rfl rfl _ _ hR.out G1.1 (c0s.trans G1.2.1.symm) G1.2.2 ?_)
    have hl := ((ro_row hR.out c0).load 51 _ Tryz.underlying51 rfl G1.1).2
    refine bodyPost_ret (results_c9 (x := .int .i64 14) (y := .int .i64 a) Tryz.results34 rfl rfl rfl hl) rfl ⟨by rw [← hRes.out, E.out _ hx.out, hErr.out], bl_row hb.out (Nat.le_refl _) c0⟩
   obtain ⟨hlt, h1, h2⟩ := drop_cons hq
   by_cases h44 : ¬ (c.toNat : Int) = 44
   ·have hx := hide (comma_no hq h44)
    have e44 : ((c.toNat : Int) != 44) = true := by simpa using h44
    have h3 : (s[a].toNat : Int) = (c.toNat : Int) := by rw [h1]
    have hcb := byte_bd c
    clear hq h44 h1 h2 hL
    generalize (c.toNat : Int) = x at *
    obtain ⟨hc0, hc1⟩ := hcb
    go_wp2_with fail
    refine (F.out _ _).mono ?_
    rintro e w12 ⟨rfl, h1⟩
    replace hR := hide (hR.out.below h1)
    replace hb := hide (bel_next hb.out h1)
    clear h1
    have G1 := G0.out
    go_wp2_with (refine wpList_store_row rfl 51 _ _ rfl _ _ rfl rfl _ _ hR.out G1.1 (c0s.trans G1.2.1.symm) G1.2.2 ?_)
    have hl := ((ro_row hR.out c0).load 51 _ Tryz.underlying51 rfl G1.1).2
    refine bodyPost_ret (results_c9 (x := .int .i64 14) (y := .int .i64 a) Tryz.results34 rfl rfl rfl hl) rfl ⟨by rw [← hRes.out, E.out _ hx.out, hErr.out], bl_row hb.out (Nat.le_refl _) c0⟩
   replace h44 := Decidable.not_not.1 h44
   have h3 : (s[a].toNat : Int) = 44 := by rw [h1]; exact h44
   have P := hide (fun w => Day (s.extract (a + 1) s.size) w (by rw [ByteArray.size_extract]; omega))
   rw [byt_rest, h2] at P
   rcases hd : ptDay t with _ | ⟨d, n'⟩
   ·rw [hd] at P
    simp only [ptDayRes, vday, rd0] at P
    have hx := hide (comma_none hq h44 hd)
    clear hq h44 h1 h2 hd hL
    go_wp2_with fail
    refine (P.out _).mono ?_
    rintro e w13 ⟨rfl, h1⟩
    replace hR := hide (hR.out.below h1)
    replace hD := hide (hD.out.below h1)
    replace hb := hide (bel_next hb.out h1)
    clear h1
    go_wp2_with fail
    replace hR := hide (hR.out.alloc (.cells #[.int .i64 0, .int .i64 0, .int .i64 0, .int .i64 0, .int .i64 0, .int .i64 0] 49))
    replace hb := hide (bl_alloc hb.out (.cells #[.int .i64 0, .int .i64 0, .int .i64 0, .int .i64 0, .int .i64 0, .int .i64 0] 49))
    refine (F.out _ _).mono ?_
    rintro e w12 ⟨rfl, h1⟩
    replace hR := hide (hR.out.below h1)
    replace hb := hide (bel_next hb.out h1)
    clear h1
    have G1 := G0.out
    go_wp2_with (refine wpList_store_row rfl 51 _ _ rfl _ _ rfl rfl _ _ hR.out G1.1 (c0s.trans G1.2.1.symm) G1.2.2 ?_)
    have hl := ((ro_row hR.out c0).load 51 _ Tryz.underlying51 rfl G1.1).2
    refine bodyPost_ret (results_c9 (x := .int .i64 14) (y := .int .i64 ((a : Int) + 1)) Tryz.results34 rfl rfl rfl hl) rfl ⟨by rw [← hRes.out, E.out _ hx.out, hErr.out]; simp, bl_row hb.out (Nat.le_refl _) c0⟩
   rw [hd] at P
   simp only [ptDayRes, vday] at P
   have hx := hide (comma_ok hq h44 hd)
   have hcl := ptComma_ok hx.out
   rw [len_byt] at hcl
   obtain ⟨_, hle, _⟩ := hcl
   have hL2 := hide (show Lp (byt s) (n + m + n2 + m2) (0 + 1) (a + 1 + n') d en from by
    rcases hL.out with ⟨h, rfl, rfl, rfl⟩ | ⟨h, h5, rfl⟩ | ⟨h, _⟩
    ·exact .inr (.inl ⟨rfl, hx.out, rfl⟩)
    ·omega
    ·omega)
   clear hq h44 h1 h2 hd hL hx E
   go_wp2_with fail
   refine (P.out _).mono ?_
   rintro e w13 ⟨rfl, h1⟩
   replace hR := hide (hR.out.below h1)
   replace hD := hide (hD.out.below h1)
   replace hb := hide (bel_next hb.out h1)
   clear h1
   go_upto_region 36 with fail
   replace hR := hide (hR.out.alloc (.cells #[.int .i64 d.1, .int .i64 d.2.1, .int .i64 d.2.2.1, .int .i64 d.2.2.2.1, .int .i64 d.2.2.2.2.1, .int .i64 d.2.2.2.2.2] 49))
   replace hD := hide (hD.out.alloc (.cells #[.int .i64 d.1, .int .i64 d.2.1, .int .i64 d.2.2.1, .int .i64 d.2.2.2.1, .int .i64 d.2.2.2.2.1, .int .i64 d.2.2.2.2.2] 49))
   have hN := hide (show Ro (w13.alloc (.cells #[.int .i64 d.1, .int .i64 d.2.1, .int .i64 d.2.2.1, .int .i64 d.2.2.2.1, .int .i64 d.2.2.2.2.1, .int .i64 d.2.2.2.2.2] 49)) w13.heap.size #[.int .i64 d.1, .int .i64 d.2.1, .int .i64 d.2.2.1, .int .i64 d.2.2.2.1, .int .i64 d.2.2.2.2.1, .int .i64 d.2.2.2.2.2] 49 from Ro.new w13 _ _)
   replace hb := hide (bl_alloc hb.out (.cells #[.int .i64 d.1, .int .i64 d.2.1, .int .i64 d.2.2.1, .int .i64 d.2.2.2.1, .int .i64 d.2.2.2.2.1, .int .i64 d.2.2.2.2.2] 49))
   generalize w13.alloc (.cells #[.int .i64 d.1, .int .i64 d.2.1, .int .i64 d.2.2.1, .int .i64 d.2.2.2.1, .int .i64 d.2.2.2.2.1, .int .i64 d.2.2.2.2.2] 49) = w16 at *
   obtain ⟨a0, b0⟩ := ro_cf hN.out 0 _ rfl
   obtain ⟨a1, b1⟩ := ro_cf hN.out 1 _ rfl
   obtain ⟨a2, b2⟩ := ro_cf hN.out 2 _ rfl
   obtain ⟨a3, b3⟩ := ro_cf hN.out 3 _ rfl
   obtain ⟨a4, b4⟩ := ro_cf hN.out 4 _ rfl
   obtain ⟨a5, b5⟩ := ro_cf hN.out 5 _ rfl
   obtain ⟨p5, q5⟩ := ro_cf hD.out 5 _ rfl
   obtain ⟨p6, q6⟩ := ro_cf hD.out 6 _ rfl
   obtain ⟨p7, q7⟩ := ro_cf hD.out 7 _ rfl
   obtain ⟨p8, q8⟩ := ro_cf hD.out 8 _ rfl
   obtain ⟨p9, q9⟩ := ro_cf hD.out 9 _ rfl
   obtain ⟨p10, q10⟩ := ro_cf hD.out 10 _ rfl
   go_upto_region 28 with fail
   clear hN p5 q5 a0 b0 p6 q6 a1 b1 p7 q7 a2 b2 p8 q8 a3 b3 p9 q9 a4 b4 p10 q10 a5 b5
   replace hR := hide (show Ro ((((((w16.setCell ⟨w.heap.size + 1, 5, none⟩ (.int .i64 d.1)).setCell ⟨w.heap.size + 1, 6, none⟩ (.int .i64 d.2.1)).setCell ⟨w.heap.size + 1, 7, none⟩ (.int .i64 d.2.2.1)).setCell ⟨w.heap.size + 1, 8, none⟩ (.int .i64 d.2.2.2.1)).setCell ⟨w.heap.size + 1, 9, none⟩ (.int .i64 d.2.2.2.2.1)).setCell ⟨w.heap.size + 1, 10, none⟩ (.int .i64 d.2.2.2.2.2)) w.heap.size c0 51 from (ro_set_ne (ro_set_ne (ro_set_ne (ro_set_ne (ro_set_ne (ro_set_ne hR.out (show w.heap.size + 1 ≠ w.heap.size by omega) 5 (.int .i64 d.1)) (show w.heap.size + 1 ≠ w.heap.size by omega) 6 (.int .i64 d.2.1)) (show w.heap.size + 1 ≠ w.heap.size by omega) 7 (.int .i64 d.2.2.1)) (show w.heap.size + 1 ≠ w.heap.size by omega) 8 (.int .i64 d.2.2.2.1)) (show w.heap.size + 1 ≠ w.heap.size by omega) 9 (.int .i64 d.2.2.2.2.1)) (show w.heap.size + 1 ≠ w.heap.size by omega) 10 (.int .i64 d.2.2.2.2.2)))
   replace hD := hide (show Ro ((((((w16.setCell ⟨w.heap.size + 1, 5, none⟩ (.int .i64 d.1)).setCell ⟨w.heap.size + 1, 6, none⟩ (.int .i64 d.2.1)).setCell ⟨w.heap.size + 1, 7, none⟩ (.int .i64 d.2.2.1)).setCell ⟨w.heap.size + 1, 8, none⟩ (.int .i64 d.2.2.2.1)).setCell ⟨w.heap.size + 1, 9, none⟩ (.int .i64 d.2.2.2.2.1)).setCell ⟨w.heap.size + 1, 10, none⟩ (.int .i64 d.2.2.2.2.2)) (w.heap.size + 1) #[.string (mkS std), .int .i64 (-v), .bool true, .string (mkS dst), .int .i64 (-v2), .int .i64 d.1, .int .i64 d.2.1, .int .i64 d.2.2.1, .int .i64 d.2.2.2.1, .int .i64 d.2.2.2.2.1, .int .i64 d.2.2.2.2.2, .int .i64 en.1, .int .i64 en.2.1, .int .i64 en.2.2.1, .int .i64 en.2.2.2.1, .int .i64 en.2.2.2.2.1, .int .i64 en.2.2.2.2.2] 51 from (ro_set (ro_set (ro_set (ro_set (ro_set (ro_set hD.out 5 (.int .i64 d.1)) 6 (.int .i64 d.2.1)) 7 (.int .i64 d.2.2.1)) 8 (.int .i64 d.2.2.2.1)) 9 (.int .i64 d.2.2.2.2.1)) 10 (.int .i64 d.2.2.2.2.2)))
   replace hb := hide (show Below w.heap.size w ((((((w16.setCell ⟨w.heap.size + 1, 5, none⟩ (.int .i64 d.1)).setCell ⟨w.heap.size + 1, 6, none⟩ (.int .i64 d.2.1)).setCell ⟨w.heap.size + 1, 7, none⟩ (.int .i64 d.2.2.1)).setCell ⟨w.heap.size + 1, 8, none⟩ (.int .i64 d.2.2.2.1)).setCell ⟨w.heap.size + 1, 9, none⟩ (.int .i64 d.2.2.2.2.1)).setCell ⟨w.heap.size + 1, 10, none⟩ (.int .i64 d.2.2.2.2.2)) from (bl_set (bl_set (bl_set (bl_set (bl_set (bl_set hb.out (show w.heap.size ≤ w.heap.size + 1 by omega) (.int .i64 d.1)) (show w.heap.size ≤ w.heap.size + 1 by omega) (.int .i64 d.2.1)) (show w.heap.size ≤ w.heap.size + 1 by omega) (.int .i64 d.2.2.1)) (show w.heap.size ≤ w.heap.size + 1 by omega) (.int .i64 d.2.2.2.1)) (show w.heap.size ≤ w.heap.size + 1 by omega) (.int .i64 d.2.2.2.2.1)) (show w.heap.size ≤ w.heap.size + 1 by omega) (.int .i64 d.2.2.2.2.2)))
   generalize ((((((w16.setCell ⟨w.heap.size + 1, 5, none⟩ (.int .i64 d.1)).setCell ⟨w.heap.size + 1, 6, none⟩ (.int .i64 d.2.1)).setCell ⟨w.heap.size + 1, 7, none⟩ (.int .i64 d.2.2.1)).setCell ⟨w.heap.size + 1, 8, none⟩ (.int .i64 d.2.2.2.1)).setCell ⟨w.heap.size + 1, 9, none⟩ (.int .i64 d.2.2.2.2.1)).setCell ⟨w.heap.size + 1, 10, none⟩ (.int .i64 d.2.2.2.2.2)) = w14 at *
   go_wp2
   go_roundw
   case rel => exact ⟨0 + 1, a + 1 + n', d, en, by omega, by omega, by simp, by simp, hL2, hR, hD, hb⟩
   case measure => simp [intOf]
  ·have E := hide (fun x (e : ptComma (byt s) a = .error x) => lp_err hL.out (by omega) e std (-v) dst (-v2))
   rcases hq : (byt s).drop a with _ | ⟨c, t⟩
   ·have hge := drop_nil hq
    have hx := hide (comma_nil hq)
    clear hq hL
    go_wp2_with fail
    refine (F.out _ _).mono ?_
    rintro e w12 ⟨rfl, h1⟩
    replace hR := hide (hR.out.below h1)
    replace hb := hide (bel_next hb.out h1)
    clear h1
    have G1 := G0.out
    go_wp2_with (refine wpList_store_row rfl 51 _ _ rfl _ _ rfl rfl _ _ hR.out G1.1 (c0s.trans G1.2.1.symm) G1.2.2 ?_)
    have hl := ((ro_row hR.out c0).load 51 _ Tryz.underlying51 rfl G1.1).2
    refine bodyPost_ret (results_c9 (x := .int .i64 14) (y := .int .i64 a) Tryz.results34 rfl rfl rfl hl) rfl ⟨by rw [← hRes.out, E.out _ hx.out, hErr.out], bl_row hb.out (Nat.le_refl _) c0⟩
   obtain ⟨hlt, h1, h2⟩ := drop_cons hq
   by_cases h44 : ¬ (c.toNat : Int) = 44
   ·have hx := hide (comma_no hq h44)
    have e44 : ((c.toNat : Int) != 44) = true := by simpa using h44
    have h3 : (s[a].toNat : Int) = (c.toNat : Int) := by rw [h1]
    have hcb := byte_bd c
    clear hq h44 h1 h2 hL
    generalize (c.toNat : Int) = x at *
    obtain ⟨hc0, hc1⟩ := hcb
    go_wp2_with fail
    refine (F.out _ _).mono ?_
    rintro e w12 ⟨rfl, h1⟩
    replace hR := hide (hR.out.below h1)
    replace hb := hide (bel_next hb.out h1)
    clear h1
    have G1 := G0.out
    go_wp2_with (refine wpList_store_row rfl 51 _ _ rfl _ _ rfl rfl _ _ hR.out G1.1 (c0s.trans G1.2.1.symm) G1.2.2 ?_)
    have hl := ((ro_row hR.out c0).load 51 _ Tryz.underlying51 rfl G1.1).2
    refine bodyPost_ret (results_c9 (x := .int .i64 14) (y := .int .i64 a) Tryz.results34 rfl rfl rfl hl) rfl ⟨by rw [← hRes.out, E.out _ hx.out, hErr.out], bl_row hb.out (Nat.le_refl _) c0⟩
   replace h44 := Decidable.not_not.1 h44
   have h3 : (s[a].toNat : Int) = 44 := by rw [h1]; exact h44
   have P := hide (fun w => Day (s.extract (a + 1) s.size) w (by rw [ByteArray.size_extract]; omega))
   rw [byt_rest, h2] at P
   rcases hd : ptDay t with _ | ⟨d, n'⟩
   ·rw [hd] at P
    simp only [ptDayRes, vday, rd0] at P
    have hx := hide (comma_none hq h44 hd)
    clear hq h44 h1 h2 hd hL
    go_wp2_with fail
    refine (P.out _).mono ?_
    rintro e w13 ⟨rfl, h1⟩
    replace hR := hide (hR.out.below h1)
    replace hD := hide (hD.out.below h1)
    replace hb := hide (bel_next hb.out h1)
    clear h1
    go_wp2_with fail
    replace hR := hide (hR.out.alloc (.cells #[.int .i64 0, .int .i64 0, .int .i64 0, .int .i64 0, .int .i64 0, .int .i64 0] 49))
    replace hb := hide (bl_alloc hb.out (.cells #[.int .i64 0, .int .i64 0, .int .i64 0, .int .i64 0, .int .i64 0, .int .i64 0] 49))
    refine (F.out _ _).mono ?_
    rintro e w12 ⟨rfl, h1⟩
    replace hR := hide (hR.out.below h1)
    replace hb := hide (bel_next hb.out h1)
    clear h1
    have G1 := G0.out
    go_wp2_with (refine wpList_store_row rfl 51 _ _ rfl _ _ rfl rfl _ _ hR.out G1.1 (c0s.trans G1.2.1.symm) G1.2.2 ?_)
    have hl := ((ro_row hR.out c0).load 51 _ Tryz.underlying51 rfl G1.1).2
    refine bodyPost_ret (results_c9 (x := .int .i64 14) (y := .int .i64 ((a : Int) + 1)) Tryz.results34 rfl rfl rfl hl) rfl ⟨by rw [← hRes.out, E.out _ hx.out, hErr.out]; simp, bl_row hb.out (Nat.le_refl _) c0⟩
   rw [hd] at P
   simp only [ptDayRes, vday] at P
   have hx := hide (comma_ok hq h44 hd)
   have hcl := ptComma_ok hx.out
   rw [len_byt] at hcl
   obtain ⟨_, hle, _⟩ := hcl
   have hL2 := hide (show Lp (byt s) (n + m + n2 + m2) (1 + 1) (a + 1 + n') st d from by
    rcases hL.out with ⟨h, rfl, rfl, rfl⟩ | ⟨h, h5, rfl⟩ | ⟨h, _⟩
    ·omega
    ·exact .inr (.inr ⟨rfl, a, h5, hx.out⟩)
    ·omega)
   clear hq h44 h1 h2 hd hL hx E
   go_wp2_with fail
   refine (P.out _).mono ?_
   rintro e w13 ⟨rfl, h1⟩
   replace hR := hide (hR.out.below h1)
   replace hD := hide (hD.out.below h1)
   replace hb := hide (bel_next hb.out h1)
   clear h1
   go_upto_region 37 with fail
   replace hR := hide (hR.out.alloc (.cells #[.int .i64 d.1, .int .i64 d.2.1, .int .i64 d.2.2.1, .int .i64 d.2.2.2.1, .int .i64 d.2.2.2.2.1, .int .i64 d.2.2.2.2.2] 49))
   replace hD := hide (hD.out.alloc (.cells #[.int .i64 d.1, .int .i64 d.2.1, .int .i64 d.2.2.1, .int .i64 d.2.2.2.1, .int .i64 d.2.2.2.2.1, .int .i64 d.2.2.2.2.2] 49))
   have hN := hide (show Ro (w13.alloc (.cells #[.int .i64 d.1, .int .i64 d.2.1, .int .i64 d.2.2.1, .int .i64 d.2.2.2.1, .int .i64 d.2.2.2.2.1, .int .i64 d.2.2.2.2.2] 49)) w13.heap.size #[.int .i64 d.1, .int .i64 d.2.1, .int .i64 d.2.2.1, .int .i64 d.2.2.2.1, .int .i64 d.2.2.2.2.1, .int .i64 d.2.2.2.2.2] 49 from Ro.new w13 _ _)
   replace hb := hide (bl_alloc hb.out (.cells #[.int .i64 d.1, .int .i64 d.2.1, .int .i64 d.2.2.1, .int .i64 d.2.2.2.1, .int .i64 d.2.2.2.2.1, .int .i64 d.2.2.2.2.2] 49))
   generalize w13.alloc (.cells #[.int .i64 d.1, .int .i64 d.2.1, .int .i64 d.2.2.1, .int .i64 d.2.2.2.1, .int .i64 d.2.2.2.2.1, .int .i64 d.2.2.2.2.2] 49) = w16 at *
   obtain ⟨a0, b0⟩ := ro_cf hN.out 0 _ rfl
   obtain ⟨a1, b1⟩ := ro_cf hN.out 1 _ rfl
   obtain ⟨a2, b2⟩ := ro_cf hN.out 2 _ rfl
   obtain ⟨a3, b3⟩ := ro_cf hN.out 3 _ rfl
   obtain ⟨a4, b4⟩ := ro_cf hN.out 4 _ rfl
   obtain ⟨a5, b5⟩ := ro_cf hN.out 5 _ rfl
   obtain ⟨p11, q11⟩ := ro_cf hD.out 11 _ rfl
   obtain ⟨p12, q12⟩ := ro_cf hD.out 12 _ rfl
   obtain ⟨p13, q13⟩ := ro_cf hD.out 13 _ rfl
   obtain ⟨p14, q14⟩ := ro_cf hD.out 14 _ rfl
   obtain ⟨p15, q15⟩ := ro_cf hD.out 15 _ rfl
   obtain ⟨p16, q16⟩ := ro_cf hD.out 16 _ rfl
   go_upto_region 28 with fail
   clear hN p11 q11 a0 b0 p12 q12 a1 b1 p13 q13 a2 b2 p14 q14 a3 b3 p15 q15 a4 b4 p16 q16 a5 b5
   replace hR := hide (show Ro ((((((w16.setCell ⟨w.heap.size + 1, 11, none⟩ (.int .i64 d.1)).setCell ⟨w.heap.size + 1, 12, none⟩ (.int .i64 d.2.1)).setCell ⟨w.heap.size + 1, 13, none⟩ (.int .i64 d.2.2.1)).setCell ⟨w.heap.size + 1, 14, none⟩ (.int .i64 d.2.2.2.1)).setCell ⟨w.heap.size + 1, 15, none⟩ (.int .i64 d.2.2.2.2.1)).setCell ⟨w.heap.size + 1, 16, none⟩ (.int .i64 d.2.2.2.2.2)) w.heap.size c0 51 from (ro_set_ne (ro_set_ne (ro_set_ne (ro_set_ne (ro_set_ne (ro_set_ne hR.out (show w.heap.size + 1 ≠ w.heap.size by omega) 11 (.int .i64 d.1)) (show w.heap.size + 1 ≠ w.heap.size by omega) 12 (.int .i64 d.2.1)) (show w.heap.size + 1 ≠ w.heap.size by omega) 13 (.int .i64 d.2.2.1)) (show w.heap.size + 1 ≠ w.heap.size by omega) 14 (.int .i64 d.2.2.2.1)) (show w.heap.size + 1 ≠ w.heap.size by omega) 15 (.int .i64 d.2.2.2.2.1)) (show w.heap.size + 1 ≠ w.heap.size by omega) 16 (.int .i64 d.2.2.2.2.2)))
   replace hD := hide (show Ro ((((((w16.setCell ⟨w.heap.size + 1, 11, none⟩ (.int .i64 d.1)).setCell ⟨w.heap.size + 1, 12, none⟩ (.int .i64 d.2.1)).setCell ⟨w.heap.size + 1, 13, none⟩ (.int .i64 d.2.2.1)).setCell ⟨w.heap.size + 1, 14, none⟩ (.int .i64 d.2.2.2.1)).setCell ⟨w.heap.size + 1, 15, none⟩ (.int .i64 d.2.2.2.2.1)).setCell ⟨w.heap.size + 1, 16, none⟩ (.int .i64 d.2.2.2.2.2)) (w.heap.size + 1) #[.string (mkS std), .int .i64 (-v), .bool true, .string (mkS dst), .int .i64 (-v2), .int .i64 st.1, .int .i64 st.2.1, .int .i64 st.2.2.1, .int .i64 st.2.2.2.1, .int .i64 st.2.2.2.2.1, .int .i64 st.2.2.2.2.2, .int .i64 d.1, .int .i64 d.2.1, .int .i64 d.2.2.1, .int .i64 d.2.2.2.1, .int .i64 d.2.2.2.2.1, .int .i64 d.2.2.2.2.2] 51 from (ro_set (ro_set (ro_set (ro_set (ro_set (ro_set hD.out 11 (.int .i64 d.1)) 12 (.int .i64 d.2.1)) 13 (.int .i64 d.2.2.1)) 14 (.int .i64 d.2.2.2.1)) 15 (.int .i64 d.2.2.2.2.1)) 16 (.int .i64 d.2.2.2.2.2)))
   replace hb := hide (show Below w.heap.size w ((((((w16.setCell ⟨w.heap.size + 1, 11, none⟩ (.int .i64 d.1)).setCell ⟨w.heap.size + 1, 12, none⟩ (.int .i64 d.2.1)).setCell ⟨w.heap.size + 1, 13, none⟩ (.int .i64 d.2.2.1)).setCell ⟨w.heap.size + 1, 14, none⟩ (.int .i64 d.2.2.2.1)).setCell ⟨w.heap.size + 1, 15, none⟩ (.int .i64 d.2.2.2.2.1)).setCell ⟨w.heap.size + 1, 16, none⟩ (.int .i64 d.2.2.2.2.2)) from (bl_set (bl_set (bl_set (bl_set (bl_set (bl_set hb.out (show w.heap.size ≤ w.heap.size + 1 by omega) (.int .i64 d.1)) (show w.heap.size ≤ w.heap.size + 1 by omega) (.int .i64 d.2.1)) (show w.heap.size ≤ w.heap.size + 1 by omega) (.int .i64 d.2.2.1)) (show w.heap.size ≤ w.heap.size + 1 by omega) (.int .i64 d.2.2.2.1)) (show w.heap.size ≤ w.heap.size + 1 by omega) (.int .i64 d.2.2.2.2.1)) (show w.heap.size ≤ w.heap.size + 1 by omega) (.int .i64 d.2.2.2.2.2)))
   generalize ((((((w16.setCell ⟨w.heap.size + 1, 11, none⟩ (.int .i64 d.1)).setCell ⟨w.heap.size + 1, 12, none⟩ (.int .i64 d.2.1)).setCell ⟨w.heap.size + 1, 13, none⟩ (.int .i64 d.2.2.1)).setCell ⟨w.heap.size + 1, 14, none⟩ (.int .i64 d.2.2.2.1)).setCell ⟨w.heap.size + 1, 15, none⟩ (.int .i64 d.2.2.2.2.1)).setCell ⟨w.heap.size + 1, 16, none⟩ (.int .i64 d.2.2.2.2.2)) = w14 at *
   go_wp2
   go_roundw
   case rel => exact ⟨1 + 1, a + 1 + n', st, d, by omega, by omega, by simp, by simp, hL2, hR, hD, hb⟩
   case measure => simp [intOf]
  ·obtain ⟨hend, hst, hen, _⟩ := lp_end hL.out rfl std (-v) dst (-v2)
   rw [len_byt] at hend
   clear hL
   by_cases hae : ¬ a = s.size
   ·have hne : ((a : Int) != (s.size : Int)) = true := by simp; omega
    have hx := hide (show ptDays (byt s) (n + m + n2 + m2) std (-v) dst (-v2) = .error a by rw [hend, if_neg (fun h => hae h.1)])
    clear hend hae
    go_wp2_with fail
    refine (F.out _ _).mono ?_
    rintro e w12 ⟨rfl, h1⟩
    replace hR := hide (hR.out.below h1)
    replace hb := hide (bel_next hb.out h1)
    clear h1
    have G1 := G0.out
    go_wp2_with (refine wpList_store_row rfl 51 _ _ rfl _ _ rfl rfl _ _ hR.out G1.1 (c0s.trans G1.2.1.symm) G1.2.2 ?_)
    have hl := ((ro_row hR.out c0).load 51 _ Tryz.underlying51 rfl G1.1).2
    refine bodyPost_ret (results_c9 (x := .int .i64 14) (y := .int .i64 a) Tryz.results34 rfl rfl rfl hl) rfl ⟨by rw [← hRes.out, hx.out, hErr.out], bl_row hb.out (Nat.le_refl _) c0⟩
   replace hae := Decidable.not_not.1 hae
   subst hae
   obtain ⟨ok, hok⟩ : ∃ ok, decide (offOk (-v2)) = ok := ⟨_, rfl⟩
   have hprok : decide (prOk (std, -v, true, dst, -v2, st, en)) = ok := by
    rw [← hok, Bool.eq_iff_iff, decide_eq_true_iff, decide_eq_true_iff]
    unfold prOk
    simp only [if_true]
    exact ⟨fun h => h.2.2.2.1, fun h => ⟨hns, hso, hnd, h, hst, hen⟩⟩
   have V := hide (fun w => Valid (mkS std) (-v) true (mkS dst) (-v2) st en w (mk_max hns) (mk_max hnd))
   rw [byt_mk, byt_mk, hprok] at V
   simp only [vrule_c] at V
   have Gd := gr_rule (mkS std) (-v) true (mkS dst) (-v2) st en
   obtain ⟨cs, hcs⟩ : ∃ cs, crule (mkS std) (-v) true (mkS dst) (-v2) st en = cs := ⟨_, rfl⟩
   rw [hcs] at Gd V
   have hDc := hide (show Ro wr (w.heap.size + 1) cs 51 by rw [← hcs]; exact hD.out)
   have hx := hide (show ptRes (ptDays (byt s) (n + m + n2 + m2) std (-v) dst (-v2)) = if ok then .tuple #[.agg cs, .int .i64 0, .int .i64 0] else .tuple #[.agg c0, .int .i64 14, .int .i64 (s.size : Int)] by
    rw [hend, ← hok]
    by_cases h : offOk (-v2)
    ·rw [if_pos ⟨rfl, h⟩, decide_eq_true h, ← hcs]; rfl
    ·rw [if_neg (fun h' => h h'.2), decide_eq_false h]; exact hErr.out _)
   clear hend hprok hok hcs hD
   have G2 := Gd
   go_wp2_with (first | (refine load_row_g (by rfl) 51 _ rfl _ rfl _ _ _ hDc.out Tryz.underlying51 rfl G2.1 ?_))
   refine (V.out _).mono ?_
   rintro e w15 ⟨rfl, h1⟩
   replace hDc := hide (hDc.out.below h1)
   replace hR := hide (hR.out.below h1)
   replace hb := hide (bel_next hb.out h1)
   clear h1
   cases ok
   ·go_wp2_with fail
    refine (F.out _ _).mono ?_
    rintro e w12 ⟨rfl, h1⟩
    replace hR := hide (hR.out.below h1)
    replace hb := hide (bel_next hb.out h1)
    clear h1
    have G1 := G0.out
    go_wp2_with (refine wpList_store_row rfl 51 _ _ rfl _ _ rfl rfl _ _ hR.out G1.1 (c0s.trans G1.2.1.symm) G1.2.2 ?_)
    have hl := ((ro_row hR.out c0).load 51 _ Tryz.underlying51 rfl G1.1).2
    refine bodyPost_ret (results_c9 (x := .int .i64 14) (y := .int .i64 (s.size : Int)) Tryz.results34 rfl rfl rfl hl) rfl ⟨by rw [← hRes.out, hx.out]; rfl, bl_row hb.out (Nat.le_refl _) c0⟩
   ·have G1 := Gd
    go_wp2_with (first | (refine load_row_g (by rfl) 51 _ rfl _ rfl _ _ _ hDc.out Tryz.underlying51 rfl G1.1 ?_) | refine wpList_store_row rfl 51 _ _ rfl _ _ rfl rfl _ _ hR.out G1.1 (c0s.trans G1.2.1.symm) G1.2.2 ?_)
    have hl := ((ro_row hR.out cs).load 51 _ Tryz.underlying51 rfl G1.1).2
    exact bodyPost_ret (results_c9 (x := .int .i64 0) (y := .int .i64 0) Tryz.results34 rfl rfl rfl hl) rfl ⟨by rw [← hRes.out, hx.out]; rfl, bl_row hb.out (Nat.le_refl _) cs⟩
end r9_
end Go.Proofs.YtbehflfpdkedgaaGreatDoor

/-
  Texts of mine in one file: Ref9f. Their conditions stand in the theorems.
-/
import Derived.Test.YtbehflfpdkedgaaGreatDoorQ38
import Derived.Test.YtbehflfpdkedgaaGreatDoorQ05
namespace Go.Proofs.YtbehflfpdkedgaaGreatDoor
set_option linter.unusedVariables false
set_option linter.unusedSimpArgs false
set_option maxRecDepth 100000
set_option maxHeartbeats 16000000
open Go.ChangeShapes Go.WideShapes Go.ChangeAt Go.RowKit
theorem results_c9 {P : Program} {fn : Func} {a t b c : Nat} (hr : fn.results = #[.cell a t, .tmp b, .tmp c]) {tmps : Array Value} {p : Addr} {w : World} {v x y : Value} (hp : tmps.getD a undef = .pointer (some p)) (hx : tmps.getD b undef = x) (hy : tmps.getD c undef = y)
 (h : (loadVar t p).run P w = .ok v w) : (results fn tmps).run P w = .ok (.tuple #[v, x, y]) w := by
 simp only [Array.getD_eq_getD_getElem?] at hp hx hy
 simp [results, hr, hp, hx, hy, asAddr, h, Result.andThen]
namespace r9_
theorem fail_ (a : Int) (w : World) : Calls Tryz.prog 79 #[.int .i64 a] w fun e w' => e = .returned (.tuple #[.agg (crule ⟨#[]⟩ 0 false ⟨#[]⟩ 0 rd0 rd0), .int .i64 14, .int .i64 a]) ∧ Below w.heap.size w w' := by
 have G0 := gr_rule ⟨#[]⟩ 0 false ⟨#[]⟩ 0 rd0 rd0
 have hl := ((show Ro (w.alloc (.cells #[.string ⟨#[]⟩, .int .i64 0, .bool false, .string ⟨#[]⟩, .int .i64 0, .int .i64 0, .int .i64 0, .int .i64 0, .int .i64 0, .int .i64 0, .int .i64 0, .int .i64 0, .int .i64 0, .int .i64 0, .int .i64 0, .int .i64 0, .int .i64 0] 51)) w.heap.size (crule ⟨#[]⟩ 0 false ⟨#[]⟩ 0 rd0 rd0) 51 from Ro.new w _ 51).load 51 _ Tryz.underlying51 rfl G0.1).2
 go_enter Tryz.func79, Tryz.ntmps79
 go_wp2_with (refine wpList_store_row rfl 51 _ _ rfl _ _ rfl rfl _ _ (heap_alloc_last _ _) (by kernel_rfl) rfl (by simp [Value.oneCell']) ?_; rw [World.setRow_alloc_new])
 exact bodyPost_ret (results_c9 Tryz.results79 rfl rfl rfl hl) rfl ⟨rfl, bl_new _ _⟩
theorem Parse_0 (s : ByteArray) (w : World) (hs : s.size ≤ 1000000) (hA : tnParse (byt s) = none) :
 Calls Tryz.prog 34 #[.string s] w fun e w' => e = .returned (.tuple #[.agg (crule ⟨#[]⟩ 0 false ⟨#[]⟩ 0 rd0 rd0), .int .i64 14, .int .i64 0]) ∧ Below w.heap.size w w' := by
 have A := hide (show ∀ w : World, Calls Tryz.prog 78 #[.string s] w fun e w' => e = .returned (.tuple #[.string ⟨#[]⟩, .int .i64 0, .bool false]) ∧ w = w' from fun w => by have := r7_.Parse s w hs; rwa [hA] at this)
 clear hA
 have F := hide (fun a w => fail_ a w)
 have hR := hide (show Ro ((w.alloc (.cells #[.string ⟨#[]⟩, .int .i64 0, .bool false, .string ⟨#[]⟩, .int .i64 0, .int .i64 0, .int .i64 0, .int .i64 0, .int .i64 0, .int .i64 0, .int .i64 0, .int .i64 0, .int .i64 0, .int .i64 0, .int .i64 0, .int .i64 0, .int .i64 0] 51)).alloc (.cells #[.string ⟨#[]⟩, .int .i64 0, .bool false, .string ⟨#[]⟩, .int .i64 0, .int .i64 0, .int .i64 0, .int .i64 0, .int .i64 0, .int .i64 0, .int .i64 0, .int .i64 0, .int .i64 0, .int .i64 0, .int .i64 0, .int .i64 0, .int .i64 0] 51)) w.heap.size (crule ⟨#[]⟩ 0 false ⟨#[]⟩ 0 rd0 rd0) 51 from (Ro.new w _ 51).alloc _)
 have hD := hide (show Ro ((w.alloc (.cells #[.string ⟨#[]⟩, .int .i64 0, .bool false, .string ⟨#[]⟩, .int .i64 0, .int .i64 0, .int .i64 0, .int .i64 0, .int .i64 0, .int .i64 0, .int .i64 0, .int .i64 0, .int .i64 0, .int .i64 0, .int .i64 0, .int .i64 0, .int .i64 0] 51)).alloc (.cells #[.string ⟨#[]⟩, .int .i64 0, .bool false, .string ⟨#[]⟩, .int .i64 0, .int .i64 0, .int .i64 0, .int .i64 0, .int .i64 0, .int .i64 0, .int .i64 0, .int .i64 0, .int .i64 0, .int .i64 0, .int .i64 0, .int .i64 0, .int .i64 0] 51)) (w.heap.size + 1) #[.string ⟨#[]⟩, .int .i64 0, .bool false, .string ⟨#[]⟩, .int .i64 0, .int .i64 0, .int .i64 0, .int .i64 0, .int .i64 0, .int .i64 0, .int .i64 0, .int .i64 0, .int .i64 0, .int .i64 0, .int .i64 0, .int .i64 0, .int .i64 0] 51 by have := Ro.new (w.alloc (.cells #[.string ⟨#[]⟩, .int .i64 0, .bool false, .string ⟨#[]⟩, .int .i64 0, .int .i64 0, .int .i64 0, .int .i64 0, .int .i64 0, .int .i64 0, .int .i64 0, .int .i64 0, .int .i64 0, .int .i64 0, .int .i64 0, .int .i64 0, .int .i64 0] 51)) #[.string ⟨#[]⟩, .int .i64 0, .bool false, .string ⟨#[]⟩, .int .i64 0, .int .i64 0, .int .i64 0, .int .i64 0, .int .i64 0, .int .i64 0, .int .i64 0, .int .i64 0, .int .i64 0, .int .i64 0, .int .i64 0, .int .i64 0, .int .i64 0] 51; simpa using this)
 have hb := hide (bl_alloc (bl_new w (.cells #[.string ⟨#[]⟩, .int .i64 0, .bool false, .string ⟨#[]⟩, .int .i64 0, .int .i64 0, .int .i64 0, .int .i64 0, .int .i64 0, .int .i64 0, .int .i64 0, .int .i64 0, .int .i64 0, .int .i64 0, .int .i64 0, .int .i64 0, .int .i64 0] 51)) (.cells #[.string ⟨#[]⟩, .int .i64 0, .bool false, .string ⟨#[]⟩, .int .i64 0, .int .i64 0, .int .i64 0, .int .i64 0, .int .i64 0, .int .i64 0, .int .i64 0, .int .i64 0, .int .i64 0, .int .i64 0, .int .i64 0, .int .i64 0, .int .i64 0] 51))
 have G0 := hide (gr_rule ⟨#[]⟩ 0 false ⟨#[]⟩ 0 rd0 rd0)
 generalize crule ⟨#[]⟩ 0 false ⟨#[]⟩ 0 rd0 rd0 = c0 at *
 have c0s := G0.out.2.1
 go_enter Tryz.func34, Tryz.ntmps34
 go_wp2_with fail
 generalize (w.alloc (.cells #[.string ⟨#[]⟩, .int .i64 0, .bool false, .string ⟨#[]⟩, .int .i64 0, .int .i64 0, .int .i64 0, .int .i64 0, .int .i64 0, .int .i64 0, .int .i64 0, .int .i64 0, .int .i64 0, .int .i64 0, .int .i64 0, .int .i64 0, .int .i64 0] 51)).alloc (.cells #[.string ⟨#[]⟩, .int .i64 0, .bool false, .string ⟨#[]⟩, .int .i64 0, .int .i64 0, .int .i64 0, .int .i64 0, .int .i64 0, .int .i64 0, .int .i64 0, .int .i64 0, .int .i64 0, .int .i64 0, .int .i64 0, .int .i64 0, .int .i64 0] 51) = w0 at *
 refine (A.out _).mono ?_
 rintro e w1 ⟨rfl, rfl⟩
 go_wp2_with fail
 refine (F.out _ _).mono ?_
 rintro e w9 ⟨rfl, h1⟩
 replace hR := hide (hR.out.below h1)
 replace hb := hide (bel_next hb.out h1)
 clear h1
 have G1 := G0.out
 go_wp2_with (refine wpList_store_row rfl 51 _ _ rfl _ _ rfl rfl _ _ hR.out G1.1 (c0s.trans G1.2.1.symm) G1.2.2 ?_)
 have hl := ((ro_row hR.out c0).load 51 _ Tryz.underlying51 rfl G1.1).2
 refine bodyPost_ret (results_c9 (x := .int .i64 14) (y := .int .i64 0) Tryz.results34 rfl rfl rfl hl) rfl ⟨rfl, bl_row hb.out (Nat.le_refl _) c0⟩
theorem Parse_1 (s : ByteArray) (w : World) (hs : s.size ≤ 1000000) (std : List UInt8) (n : Nat) (hA : tnParse (byt s) = some (std, n)) (hn : n ≤ s.size) (hB : hmsParse ((byt s).drop n) = none) :
 Calls Tryz.prog 34 #[.string s] w fun e w' => e = .returned (.tuple #[.agg (crule ⟨#[]⟩ 0 false ⟨#[]⟩ 0 rd0 rd0), .int .i64 14, .int .i64 n]) ∧ Below w.heap.size w w' := by
 have A := hide (show ∀ w : World, Calls Tryz.prog 78 #[.string s] w fun e w' => e = .returned (.tuple #[.string (mkS std), .int .i64 n, .bool true]) ∧ w = w' from fun w => by have := r7_.Parse s w hs; rwa [hA] at this)
 clear hA
 have B := hide (show ∀ w : World, Calls Tryz.prog 80 #[.string (s.extract n s.size)] w fun e w' => e = .returned (.tuple #[.int .i64 0, .int .i64 0, .bool false]) ∧ Below w.heap.size w w' from fun w => by have := r8_.Parse (s.extract n s.size) w (by rw [ByteArray.size_extract]; omega); rwa [byt_rest, hB] at this)
 clear hB
 have F := hide (fun a w => fail_ a w)
 have hR := hide (show Ro ((w.alloc (.cells #[.string ⟨#[]⟩, .int .i64 0, .bool false, .string ⟨#[]⟩, .int .i64 0, .int .i64 0, .int .i64 0, .int .i64 0, .int .i64 0, .int .i64 0, .int .i64 0, .int .i64 0, .int .i64 0, .int .i64 0, .int .i64 0, .int .i64 0, .int .i64 0] 51)).alloc (.cells #[.string ⟨#[]⟩, .int .i64 0, .bool false, .string ⟨#[]⟩, .int .i64 0, .int .i64 0, .int .i64 0, .int .i64 0, .int .i64 0, .int .i64 0, .int .i64 0, .int .i64 0, .int .i64 0, .int .i64 0, .int .i64 0, .int .i64 0, .int .i64 0] 51)) w.heap.size (crule ⟨#[]⟩ 0 false ⟨#[]⟩ 0 rd0 rd0) 51 from (Ro.new w _ 51).alloc _)
 have hD := hide (show Ro ((w.alloc (.cells #[.string ⟨#[]⟩, .int .i64 0, .bool false, .string ⟨#[]⟩, .int .i64 0, .int .i64 0, .int .i64 0, .int .i64 0, .int .i64 0, .int .i64 0, .int .i64 0, .int .i64 0, .int .i64 0, .int .i64 0, .int .i64 0, .int .i64 0, .int .i64 0] 51)).alloc (.cells #[.string ⟨#[]⟩, .int .i64 0, .bool false, .string ⟨#[]⟩, .int .i64 0, .int .i64 0, .int .i64 0, .int .i64 0, .int .i64 0, .int .i64 0, .int .i64 0, .int .i64 0, .int .i64 0, .int .i64 0, .int .i64 0, .int .i64 0, .int .i64 0] 51)) (w.heap.size + 1) #[.string ⟨#[]⟩, .int .i64 0, .bool false, .string ⟨#[]⟩, .int .i64 0, .int .i64 0, .int .i64 0, .int .i64 0, .int .i64 0, .int .i64 0, .int .i64 0, .int .i64 0, .int .i64 0, .int .i64 0, .int .i64 0, .int .i64 0, .int .i64 0] 51 by have := Ro.new (w.alloc (.cells #[.string ⟨#[]⟩, .int .i64 0, .bool false, .string ⟨#[]⟩, .int .i64 0, .int .i64 0, .int .i64 0, .int .i64 0, .int .i64 0, .int .i64 0, .int .i64 0, .int .i64 0, .int .i64 0, .int .i64 0, .int .i64 0, .int .i64 0, .int .i64 0] 51)) #[.string ⟨#[]⟩, .int .i64 0, .bool false, .string ⟨#[]⟩, .int .i64 0, .int .i64 0, .int .i64 0, .int .i64 0, .int .i64 0, .int .i64 0, .int .i64 0, .int .i64 0, .int .i64 0, .int .i64 0, .int .i64 0, .int .i64 0, .int .i64 0] 51; simpa using this)
 have hb := hide (bl_alloc (bl_new w (.cells #[.string ⟨#[]⟩, .int .i64 0, .bool false, .string ⟨#[]⟩, .int .i64 0, .int .i64 0, .int .i64 0, .int .i64 0, .int .i64 0, .int .i64 0, .int .i64 0, .int .i64 0, .int .i64 0, .int .i64 0, .int .i64 0, .int .i64 0, .int .i64 0] 51)) (.cells #[.string ⟨#[]⟩, .int .i64 0, .bool false, .string ⟨#[]⟩, .int .i64 0, .int .i64 0, .int .i64 0, .int .i64 0, .int .i64 0, .int .i64 0, .int .i64 0, .int .i64 0, .int .i64 0, .int .i64 0, .int .i64 0, .int .i64 0, .int .i64 0] 51))
 have G0 := hide (gr_rule ⟨#[]⟩ 0 false ⟨#[]⟩ 0 rd0 rd0)
 generalize crule ⟨#[]⟩ 0 false ⟨#[]⟩ 0 rd0 rd0 = c0 at *
 have c0s := G0.out.2.1
 go_enter Tryz.func34, Tryz.ntmps34
 go_wp2_with fail
 generalize (w.alloc (.cells #[.string ⟨#[]⟩, .int .i64 0, .bool false, .string ⟨#[]⟩, .int .i64 0, .int .i64 0, .int .i64 0, .int .i64 0, .int .i64 0, .int .i64 0, .int .i64 0, .int .i64 0, .int .i64 0, .int .i64 0, .int .i64 0, .int .i64 0, .int .i64 0] 51)).alloc (.cells #[.string ⟨#[]⟩, .int .i64 0, .bool false, .string ⟨#[]⟩, .int .i64 0, .int .i64 0, .int .i64 0, .int .i64 0, .int .i64 0, .int .i64 0, .int .i64 0, .int .i64 0, .int .i64 0, .int .i64 0, .int .i64 0, .int .i64 0, .int .i64 0] 51) = w0 at *
 refine (A.out _).mono ?_
 rintro e w1 ⟨rfl, rfl⟩
 go_wp2_with fail
 refine (B.out _).mono ?_
 rintro e w2 ⟨rfl, h1⟩
 replace hR := hide (hR.out.below h1)
 replace hD := hide (hD.out.below h1)
 replace hb := hide (bel_next hb.out h1)
 clear h1
 go_wp2_with fail
 refine (F.out _ _).mono ?_
 rintro e w9 ⟨rfl, h1⟩
 replace hR := hide (hR.out.below h1)
 replace hb := hide (bel_next hb.out h1)
 clear h1
 have G1 := G0.out
 go_wp2_with (refine wpList_store_row rfl 51 _ _ rfl _ _ rfl rfl _ _ hR.out G1.1 (c0s.trans G1.2.1.symm) G1.2.2 ?_)
 have hl := ((ro_row hR.out c0).load 51 _ Tryz.underlying51 rfl G1.1).2
 refine bodyPost_ret (results_c9 (x := .int .i64 14) (y := .int .i64 n) Tryz.results34 rfl rfl rfl hl) rfl ⟨rfl, bl_row hb.out (Nat.le_refl _) c0⟩
theorem Parse_2 (s : ByteArray) (w : World) (hs : s.size ≤ 1000000) (std : List UInt8) (n : Nat) (hA : tnParse (byt s) = some (std, n)) (hn : n ≤ s.size) (v : Int) (m : Nat) (hB : hmsParse ((byt s).drop n) = some (v, m)) (hm : n + m ≤ s.size) (hv0 : -604800 < v) (hv1 : v < 604800) (ho : decide (offOk v) = false) :
 Calls Tryz.prog 34 #[.string s] w fun e w' => e = .returned (.tuple #[.agg (crule ⟨#[]⟩ 0 false ⟨#[]⟩ 0 rd0 rd0), .int .i64 14, .int .i64 n]) ∧ Below w.heap.size w w' := by
 have A := hide (show ∀ w : World, Calls Tryz.prog 78 #[.string s] w fun e w' => e = .returned (.tuple #[.string (mkS std), .int .i64 n, .bool true]) ∧ w = w' from fun w => by have := r7_.Parse s w hs; rwa [hA] at this)
 clear hA
 have B := hide (show ∀ w : World, Calls Tryz.prog 80 #[.string (s.extract n s.size)] w fun e w' => e = .returned (.tuple #[.int .i64 v, .int .i64 m, .bool true]) ∧ Below w.heap.size w w' from fun w => by have := r8_.Parse (s.extract n s.size) w (by rw [ByteArray.size_extract]; omega); rwa [byt_rest, hB] at this)
 clear hB
 have O := hide (fun w => in_ v w _ ho)
 clear ho
 have F := hide (fun a w => fail_ a w)
 have hR := hide (show Ro ((w.alloc (.cells #[.string ⟨#[]⟩, .int .i64 0, .bool false, .string ⟨#[]⟩, .int .i64 0, .int .i64 0, .int .i64 0, .int .i64 0, .int .i64 0, .int .i64 0, .int .i64 0, .int .i64 0, .int .i64 0, .int .i64 0, .int .i64 0, .int .i64 0, .int .i64 0] 51)).alloc (.cells #[.string ⟨#[]⟩, .int .i64 0, .bool false, .string ⟨#[]⟩, .int .i64 0, .int .i64 0, .int .i64 0, .int .i64 0, .int .i64 0, .int .i64 0, .int .i64 0, .int .i64 0, .int .i64 0, .int .i64 0, .int .i64 0, .int .i64 0, .int .i64 0] 51)) w.heap.size (crule ⟨#[]⟩ 0 false ⟨#[]⟩ 0 rd0 rd0) 51 from (Ro.new w _ 51).alloc _)
 have hD := hide (show Ro ((w.alloc (.cells #[.string ⟨#[]⟩, .int .i64 0, .bool false, .string ⟨#[]⟩, .int .i64 0, .int .i64 0, .int .i64 0, .int .i64 0, .int .i64 0, .int .i64 0, .int .i64 0, .int .i64 0, .int .i64 0, .int .i64 0, .int .i64 0, .int .i64 0, .int .i64 0] 51)).alloc (.cells #[.string ⟨#[]⟩, .int .i64 0, .bool false, .string ⟨#[]⟩, .int .i64 0, .int .i64 0, .int .i64 0, .int .i64 0, .int .i64 0, .int .i64 0, .int .i64 0, .int .i64 0, .int .i64 0, .int .i64 0, .int .i64 0, .int .i64 0, .int .i64 0] 51)) (w.heap.size + 1) #[.string ⟨#[]⟩, .int .i64 0, .bool false, .string ⟨#[]⟩, .int .i64 0, .int .i64 0, .int .i64 0, .int .i64 0, .int .i64 0, .int .i64 0, .int .i64 0, .int .i64 0, .int .i64 0, .int .i64 0, .int .i64 0, .int .i64 0, .int .i64 0] 51 by have := Ro.new (w.alloc (.cells #[.string ⟨#[]⟩, .int .i64 0, .bool false, .string ⟨#[]⟩, .int .i64 0, .int .i64 0, .int .i64 0, .int .i64 0, .int .i64 0, .int .i64 0, .int .i64 0, .int .i64 0, .int .i64 0, .int .i64 0, .int .i64 0, .int .i64 0, .int .i64 0] 51)) #[.string ⟨#[]⟩, .int .i64 0, .bool false, .string ⟨#[]⟩, .int .i64 0, .int .i64 0, .int .i64 0, .int .i64 0, .int .i64 0, .int .i64 0, .int .i64 0, .int .i64 0, .int .i64 0, .int .i64 0, .int .i64 0, .int .i64 0, .int .i64 0] 51; simpa using this)
 have hb := hide (bl_alloc (bl_new w (.cells #[.string ⟨#[]⟩, .int .i64 0, .bool false, .string ⟨#[]⟩, .int .i64 0, .int .i64 0, .int .i64 0, .int .i64 0, .int .i64 0, .int .i64 0, .int .i64 0, .int .i64 0, .int .i64 0, .int .i64 0, .int .i64 0, .int .i64 0, .int .i64 0] 51)) (.cells #[.string ⟨#[]⟩, .int .i64 0, .bool false, .string ⟨#[]⟩, .int .i64 0, .int .i64 0, .int .i64 0, .int .i64 0, .int .i64 0, .int .i64 0, .int .i64 0, .int .i64 0, .int .i64 0, .int .i64 0, .int .i64 0, .int .i64 0, .int .i64 0] 51))
 have G0 := hide (gr_rule ⟨#[]⟩ 0 false ⟨#[]⟩ 0 rd0 rd0)
 generalize crule ⟨#[]⟩ 0 false ⟨#[]⟩ 0 rd0 rd0 = c0 at *
 have c0s := G0.out.2.1
 go_enter Tryz.func34, Tryz.ntmps34
 go_wp2_with fail
 generalize (w.alloc (.cells #[.string ⟨#[]⟩, .int .i64 0, .bool false, .string ⟨#[]⟩, .int .i64 0, .int .i64 0, .int .i64 0, .int .i64 0, .int .i64 0, .int .i64 0, .int .i64 0, .int .i64 0, .int .i64 0, .int .i64 0, .int .i64 0, .int .i64 0, .int .i64 0] 51)).alloc (.cells #[.string ⟨#[]⟩, .int .i64 0, .bool false, .string ⟨#[]⟩, .int .i64 0, .int .i64 0, .int .i64 0, .int .i64 0, .int .i64 0, .int .i64 0, .int .i64 0, .int .i64 0, .int .i64 0, .int .i64 0, .int .i64 0, .int .i64 0, .int .i64 0] 51) = w0 at *
 refine (A.out _).mono ?_
 rintro e w1 ⟨rfl, rfl⟩
 go_wp2_with fail
 refine (B.out _).mono ?_
 rintro e w2 ⟨rfl, h1⟩
 replace hR := hide (hR.out.below h1)
 replace hD := hide (hD.out.below h1)
 replace hb := hide (bel_next hb.out h1)
 clear h1
 go_wp2_with fail
 refine (O.out _).mono ?_
 rintro e w3 ⟨rfl, rfl⟩
 go_wp2_with fail
 refine (F.out _ _).mono ?_
 rintro e w9 ⟨rfl, h1⟩
 replace hR := hide (hR.out.below h1)
 replace hb := hide (bel_next hb.out h1)
 clear h1
 have G1 := G0.out
 go_wp2_with (refine wpList_store_row rfl 51 _ _ rfl _ _ rfl rfl _ _ hR.out G1.1 (c0s.trans G1.2.1.symm) G1.2.2 ?_)
 have hl := ((ro_row hR.out c0).load 51 _ Tryz.underlying51 rfl G1.1).2
 refine bodyPost_ret (results_c9 (x := .int .i64 14) (y := .int .i64 n) Tryz.results34 rfl rfl rfl hl) rfl ⟨rfl, bl_row hb.out (Nat.le_refl _) c0⟩
theorem Parse_3 (s : ByteArray) (w : World) (hs : s.size ≤ 1000000) (std : List UInt8) (n : Nat) (hA : tnParse (byt s) = some (std, n)) (hn : n ≤ s.size) (v : Int) (m : Nat) (hB : hmsParse ((byt s).drop n) = some (v, m)) (hm : n + m ≤ s.size) (hv0 : -604800 < v) (hv1 : v < 604800) (ho : decide (offOk v) = true) (he : n + m = s.size) :
 Calls Tryz.prog 34 #[.string s] w fun e w' => e = .returned (.tuple #[.agg (crule (mkS std) (-v) false ⟨#[]⟩ 0 rd0 rd0), .int .i64 0, .int .i64 0]) ∧ Below w.heap.size w w' := by
 have A := hide (show ∀ w : World, Calls Tryz.prog 78 #[.string s] w fun e w' => e = .returned (.tuple #[.string (mkS std), .int .i64 n, .bool true]) ∧ w = w' from fun w => by have := r7_.Parse s w hs; rwa [hA] at this)
 clear hA
 have B := hide (show ∀ w : World, Calls Tryz.prog 80 #[.string (s.extract n s.size)] w fun e w' => e = .returned (.tuple #[.int .i64 v, .int .i64 m, .bool true]) ∧ Below w.heap.size w w' from fun w => by have := r8_.Parse (s.extract n s.size) w (by rw [ByteArray.size_extract]; omega); rwa [byt_rest, hB] at this)
 clear hB
 have O := hide (fun w => in_ v w _ ho)
 clear ho
 have Gd := gr_rule (mkS std) (-v) false ⟨#[]⟩ 0 rd0 rd0
 obtain ⟨cs, hcs⟩ : ∃ cs, crule (mkS std) (-v) false ⟨#[]⟩ 0 rd0 rd0 = cs := ⟨_, rfl⟩
 rw [hcs] at Gd ⊢
 replace hcs := hide hcs
 have F := hide (fun a w => fail_ a w)
 have hR := hide (show Ro ((w.alloc (.cells #[.string ⟨#[]⟩, .int .i64 0, .bool false, .string ⟨#[]⟩, .int .i64 0, .int .i64 0, .int .i64 0, .int .i64 0, .int .i64 0, .int .i64 0, .int .i64 0, .int .i64 0, .int .i64 0, .int .i64 0, .int .i64 0, .int .i64 0, .int .i64 0] 51)).alloc (.cells #[.string ⟨#[]⟩, .int .i64 0, .bool false, .string ⟨#[]⟩, .int .i64 0, .int .i64 0, .int .i64 0, .int .i64 0, .int .i64 0, .int .i64 0, .int .i64 0, .int .i64 0, .int .i64 0, .int .i64 0, .int .i64 0, .int .i64 0, .int .i64 0] 51)) w.heap.size (crule ⟨#[]⟩ 0 false ⟨#[]⟩ 0 rd0 rd0) 51 from (Ro.new w _ 51).alloc _)
 have hD := hide (show Ro ((w.alloc (.cells #[.string ⟨#[]⟩, .int .i64 0, .bool false, .string ⟨#[]⟩, .int .i64 0, .int .i64 0, .int .i64 0, .int .i64 0, .int .i64 0, .int .i64 0, .int .i64 0, .int .i64 0, .int .i64 0, .int .i64 0, .int .i64 0, .int .i64 0, .int .i64 0] 51)).alloc (.cells #[.string ⟨#[]⟩, .int .i64 0, .bool false, .string ⟨#[]⟩, .int .i64 0, .int .i64 0, .int .i64 0, .int .i64 0, .int .i64 0, .int .i64 0, .int .i64 0, .int .i64 0, .int .i64 0, .int .i64 0, .int .i64 0, .int .i64 0, .int .i64 0] 51)) (w.heap.size + 1) #[.string ⟨#[]⟩, .int .i64 0, .bool false, .string ⟨#[]⟩, .int .i64 0, .int .i64 0, .int .i64 0, .int .i64 0, .int .i64 0, .int .i64 0, .int .i64 0, .int .i64 0, .int .i64 0, .int .i64 0, .int .i64 0, .int .i64 0, .int .i64 0] 51 by have := Ro.new (w.alloc (.cells #[.string ⟨#[]⟩, .int .i64 0, .bool false, .string ⟨#[]⟩, .int .i64 0, .int .i64 0, .int .i64 0, .int .i64 0, .int .i64 0, .int .i64 0, .int .i64 0, .int .i64 0, .int .i64 0, .int .i64 0, .int .i64 0, .int .i64 0, .int .i64 0] 51)) #[.string ⟨#[]⟩, .int .i64 0, .bool false, .string ⟨#[]⟩, .int .i64 0, .int .i64 0, .int .i64 0, .int .i64 0, .int .i64 0, .int .i64 0, .int .i64 0, .int .i64 0, .int .i64 0, .int .i64 0, .int .i64 0, .int .i64 0, .int .i64 0] 51; simpa using this)
 have hb := hide (bl_alloc (bl_new w (.cells #[.string ⟨#[]⟩, .int .i64 0, .bool false, .string ⟨#[]⟩, .int .i64 0, .int .i64 0, .int .i64 0, .int .i64 0, .int .i64 0, .int .i64 0, .int .i64 0, .int .i64 0, .int .i64 0, .int .i64 0, .int .i64 0, .int .i64 0, .int .i64 0] 51)) (.cells #[.string ⟨#[]⟩, .int .i64 0, .bool false, .string ⟨#[]⟩, .int .i64 0, .int .i64 0, .int .i64 0, .int .i64 0, .int .i64 0, .int .i64 0, .int .i64 0, .int .i64 0, .int .i64 0, .int .i64 0, .int .i64 0, .int .i64 0, .int .i64 0] 51))
 have G0 := hide (gr_rule ⟨#[]⟩ 0 false ⟨#[]⟩ 0 rd0 rd0)
 generalize crule ⟨#[]⟩ 0 false ⟨#[]⟩ 0 rd0 rd0 = c0 at *
 have c0s := G0.out.2.1
 go_enter Tryz.func34, Tryz.ntmps34
 go_wp2_with fail
 generalize (w.alloc (.cells #[.string ⟨#[]⟩, .int .i64 0, .bool false, .string ⟨#[]⟩, .int .i64 0, .int .i64 0, .int .i64 0, .int .i64 0, .int .i64 0, .int .i64 0, .int .i64 0, .int .i64 0, .int .i64 0, .int .i64 0, .int .i64 0, .int .i64 0, .int .i64 0] 51)).alloc (.cells #[.string ⟨#[]⟩, .int .i64 0, .bool false, .string ⟨#[]⟩, .int .i64 0, .int .i64 0, .int .i64 0, .int .i64 0, .int .i64 0, .int .i64 0, .int .i64 0, .int .i64 0, .int .i64 0, .int .i64 0, .int .i64 0, .int .i64 0, .int .i64 0] 51) = w0 at *
 refine (A.out _).mono ?_
 rintro e w1 ⟨rfl, rfl⟩
 go_wp2_with fail
 refine (B.out _).mono ?_
 rintro e w2 ⟨rfl, h1⟩
 replace hR := hide (hR.out.below h1)
 replace hD := hide (hD.out.below h1)
 replace hb := hide (bel_next hb.out h1)
 clear h1
 go_wp2_with fail
 refine (O.out _).mono ?_
 rintro e w3 ⟨rfl, rfl⟩
 obtain ⟨p0, q0⟩ := ro_cf hD.out 0 _ rfl
 go_upto_region 9 with fail
 clear p0 q0
 replace hD := hide (show Ro (w2.setCell ⟨w.heap.size + 1, 0, none⟩ (.string (mkS std))) (w.heap.size + 1) #[.string (mkS std), .int .i64 0, .bool false, .string ⟨#[]⟩, .int .i64 0, .int .i64 0, .int .i64 0, .int .i64 0, .int .i64 0, .int .i64 0, .int .i64 0, .int .i64 0, .int .i64 0, .int .i64 0, .int .i64 0, .int .i64 0, .int .i64 0] 51 from ro_set hD.out 0 (.string (mkS std)))
 replace hR := hide (show Ro (w2.setCell ⟨w.heap.size + 1, 0, none⟩ (.string (mkS std))) w.heap.size c0 51 from ro_set_ne hR.out (show w.heap.size + 1 ≠ w.heap.size by omega) 0 (.string (mkS std)))
 replace hb := hide (show Below w.heap.size w (w2.setCell ⟨w.heap.size + 1, 0, none⟩ (.string (mkS std))) from bl_set hb.out (show w.heap.size ≤ w.heap.size + 1 by omega) (.string (mkS std)))
 generalize w2.setCell ⟨w.heap.size + 1, 0, none⟩ (.string (mkS std)) = w4 at *
 obtain ⟨p1, q1⟩ := ro_cf hD.out 1 _ rfl
 go_upto_region 10 with fail
 clear p1 q1
 replace hD := hide (show Ro (w4.setCell ⟨w.heap.size + 1, 1, none⟩ (.int .i64 (-v))) (w.heap.size + 1) #[.string (mkS std), .int .i64 (-v), .bool false, .string ⟨#[]⟩, .int .i64 0, .int .i64 0, .int .i64 0, .int .i64 0, .int .i64 0, .int .i64 0, .int .i64 0, .int .i64 0, .int .i64 0, .int .i64 0, .int .i64 0, .int .i64 0, .int .i64 0] 51 from ro_set hD.out 1 (.int .i64 (-v)))
 replace hR := hide (show Ro (w4.setCell ⟨w.heap.size + 1, 1, none⟩ (.int .i64 (-v))) w.heap.size c0 51 from ro_set_ne hR.out (show w.heap.size + 1 ≠ w.heap.size by omega) 1 (.int .i64 (-v)))
 replace hb := hide (show Below w.heap.size w (w4.setCell ⟨w.heap.size + 1, 1, none⟩ (.int .i64 (-v))) from bl_set hb.out (show w.heap.size ≤ w.heap.size + 1 by omega) (.int .i64 (-v)))
 generalize w4.setCell ⟨w.heap.size + 1, 1, none⟩ (.int .i64 (-v)) = w5 at *
 have hDc := hide (show Ro w5 (w.heap.size + 1) cs 51 by rw [← hcs.out]; exact hD.out)
 replace he := hide (show (((n : Int) + m) == s.size) = true by simp; omega)
 have he2 := he.out
 have e3 : IntKind.i64.wrap ((n : Int) + m) = (n : Int) + m := by rw [IntKind.wrap_i64]; omega
 have G1 := Gd
 go_wp2_with (first | (refine load_row_g (by rfl) 51 _ rfl _ rfl _ _ _ hDc.out Tryz.underlying51 rfl G1.1 ?_) | refine wpList_store_row rfl 51 _ _ rfl _ _ rfl rfl _ _ hR.out G1.1 (c0s.trans G1.2.1.symm) G1.2.2 ?_)
 have hl := ((ro_row hR.out cs).load 51 _ Tryz.underlying51 rfl G1.1).2
 exact bodyPost_ret (results_c9 (x := .int .i64 0) (y := .int .i64 0) Tryz.results34 rfl rfl rfl hl) rfl ⟨rfl, bl_row hb.out (Nat.le_refl _) cs⟩
theorem Parse_4 (s : ByteArray) (w : World) (hs : s.size ≤ 1000000) (std : List UInt8) (n : Nat) (hA : tnParse (byt s) = some (std, n)) (hn : n ≤ s.size) (v : Int) (m : Nat) (hB : hmsParse ((byt s).drop n) = some (v, m)) (hm : n + m ≤ s.size) (hv0 : -604800 < v) (hv1 : v < 604800) (ho : decide (offOk v) = true) (he : n + m < s.size) (hC : tnParse ((byt s).drop (n + m)) = none) :
 Calls Tryz.prog 34 #[.string s] w fun e w' => e = .returned (.tuple #[.agg (crule ⟨#[]⟩ 0 false ⟨#[]⟩ 0 rd0 rd0), .int .i64 14, .int .i64 ((n : Int) + m)]) ∧ Below w.heap.size w w' := by
 have A := hide (show ∀ w : World, Calls Tryz.prog 78 #[.string s] w fun e w' => e = .returned (.tuple #[.string (mkS std), .int .i64 n, .bool true]) ∧ w = w' from fun w => by have := r7_.Parse s w hs; rwa [hA] at this)
 clear hA
 have B := hide (show ∀ w : World, Calls Tryz.prog 80 #[.string (s.extract n s.size)] w fun e w' => e = .returned (.tuple #[.int .i64 v, .int .i64 m, .bool true]) ∧ Below w.heap.size w w' from fun w => by have := r8_.Parse (s.extract n s.size) w (by rw [ByteArray.size_extract]; omega); rwa [byt_rest, hB] at this)
 clear hB
 have O := hide (fun w => in_ v w _ ho)
 clear ho
 have C' := hide (show ∀ w : World, Calls Tryz.prog 78 #[.string (s.extract (n + m) s.size)] w fun e w' => e = .returned (.tuple #[.string ⟨#[]⟩, .int .i64 0, .bool false]) ∧ w = w' from fun w => by have := r7_.Parse (s.extract (n + m) s.size) w (by rw [ByteArray.size_extract]; omega); rwa [byt_rest, hC] at this)
 clear hC
 have F := hide (fun a w => fail_ a w)
 have hR := hide (show Ro ((w.alloc (.cells #[.string ⟨#[]⟩, .int .i64 0, .bool false, .string ⟨#[]⟩, .int .i64 0, .int .i64 0, .int .i64 0, .int .i64 0, .int .i64 0, .int .i64 0, .int .i64 0, .int .i64 0, .int .i64 0, .int .i64 0, .int .i64 0, .int .i64 0, .int .i64 0] 51)).alloc (.cells #[.string ⟨#[]⟩, .int .i64 0, .bool false, .string ⟨#[]⟩, .int .i64 0, .int .i64 0, .int .i64 0, .int .i64 0, .int .i64 0, .int .i64 0, .int .i64 0, .int .i64 0, .int .i64 0, .int .i64 0, .int .i64 0, .int .i64 0, .int .i64 0] 51)) w.heap.size (crule ⟨#[]⟩ 0 false ⟨#[]⟩ 0 rd0 rd0) 51 from (Ro.new w _ 51).alloc _)
 have hD := hide (show Ro ((w.alloc (.cells #[.string ⟨#[]⟩, .int .i64 0, .bool false, .string ⟨#[]⟩, .int .i64 0, .int .i64 0, .int .i64 0, .int .i64 0, .int .i64 0, .int .i64 0, .int .i64 0, .int .i64 0, .int .i64 0, .int .i64 0, .int .i64 0, .int .i64 0, .int .i64 0] 51)).alloc (.cells #[.string ⟨#[]⟩, .int .i64 0, .bool false, .string ⟨#[]⟩, .int .i64 0, .int .i64 0, .int .i64 0, .int .i64 0, .int .i64 0, .int .i64 0, .int .i64 0, .int .i64 0, .int .i64 0, .int .i64 0, .int .i64 0, .int .i64 0, .int .i64 0] 51)) (w.heap.size + 1) #[.string ⟨#[]⟩, .int .i64 0, .bool false, .string ⟨#[]⟩, .int .i64 0, .int .i64 0, .int .i64 0, .int .i64 0, .int .i64 0, .int .i64 0, .int .i64 0, .int .i64 0, .int .i64 0, .int .i64 0, .int .i64 0, .int .i64 0, .int .i64 0] 51 by have := Ro.new (w.alloc (.cells #[.string ⟨#[]⟩, .int .i64 0, .bool false, .string ⟨#[]⟩, .int .i64 0, .int .i64 0, .int .i64 0, .int .i64 0, .int .i64 0, .int .i64 0, .int .i64 0, .int .i64 0, .int .i64 0, .int .i64 0, .int .i64 0, .int .i64 0, .int .i64 0] 51)) #[.string ⟨#[]⟩, .int .i64 0, .bool false, .string ⟨#[]⟩, .int .i64 0, .int .i64 0, .int .i64 0, .int .i64 0, .int .i64 0, .int .i64 0, .int .i64 0, .int .i64 0, .int .i64 0, .int .i64 0, .int .i64 0, .int .i64 0, .int .i64 0] 51; simpa using this)
 have hb := hide (bl_alloc (bl_new w (.cells #[.string ⟨#[]⟩, .int .i64 0, .bool false, .string ⟨#[]⟩, .int .i64 0, .int .i64 0, .int .i64 0, .int .i64 0, .int .i64 0, .int .i64 0, .int .i64 0, .int .i64 0, .int .i64 0, .int .i64 0, .int .i64 0, .int .i64 0, .int .i64 0] 51)) (.cells #[.string ⟨#[]⟩, .int .i64 0, .bool false, .string ⟨#[]⟩, .int .i64 0, .int .i64 0, .int .i64 0, .int .i64 0, .int .i64 0, .int .i64 0, .int .i64 0, .int .i64 0, .int .i64 0, .int .i64 0, .int .i64 0, .int .i64 0, .int .i64 0] 51))
 have G0 := hide (gr_rule ⟨#[]⟩ 0 false ⟨#[]⟩ 0 rd0 rd0)
 generalize crule ⟨#[]⟩ 0 false ⟨#[]⟩ 0 rd0 rd0 = c0 at *
 have c0s := G0.out.2.1
 go_enter Tryz.func34, Tryz.ntmps34
 go_wp2_with fail
 generalize (w.alloc (.cells #[.string ⟨#[]⟩, .int .i64 0, .bool false, .string ⟨#[]⟩, .int .i64 0, .int .i64 0, .int .i64 0, .int .i64 0, .int .i64 0, .int .i64 0, .int .i64 0, .int .i64 0, .int .i64 0, .int .i64 0, .int .i64 0, .int .i64 0, .int .i64 0] 51)).alloc (.cells #[.string ⟨#[]⟩, .int .i64 0, .bool false, .string ⟨#[]⟩, .int .i64 0, .int .i64 0, .int .i64 0, .int .i64 0, .int .i64 0, .int .i64 0, .int .i64 0, .int .i64 0, .int .i64 0, .int .i64 0, .int .i64 0, .int .i64 0, .int .i64 0] 51) = w0 at *
 refine (A.out _).mono ?_
 rintro e w1 ⟨rfl, rfl⟩
 go_wp2_with fail
 refine (B.out _).mono ?_
 rintro e w2 ⟨rfl, h1⟩
 replace hR := hide (hR.out.below h1)
 replace hD := hide (hD.out.below h1)
 replace hb := hide (bel_next hb.out h1)
 clear h1
 go_wp2_with fail
 refine (O.out _).mono ?_
 rintro e w3 ⟨rfl, rfl⟩
 obtain ⟨p0, q0⟩ := ro_cf hD.out 0 _ rfl
 go_upto_region 9 with fail
 clear p0 q0
 replace hD := hide (show Ro (w2.setCell ⟨w.heap.size + 1, 0, none⟩ (.string (mkS std))) (w.heap.size + 1) #[.string (mkS std), .int .i64 0, .bool false, .string ⟨#[]⟩, .int .i64 0, .int .i64 0, .int .i64 0, .int .i64 0, .int .i64 0, .int .i64 0, .int .i64 0, .int .i64 0, .int .i64 0, .int .i64 0, .int .i64 0, .int .i64 0, .int .i64 0] 51 from ro_set hD.out 0 (.string (mkS std)))
 replace hR := hide (show Ro (w2.setCell ⟨w.heap.size + 1, 0, none⟩ (.string (mkS std))) w.heap.size c0 51 from ro_set_ne hR.out (show w.heap.size + 1 ≠ w.heap.size by omega) 0 (.string (mkS std)))
 replace hb := hide (show Below w.heap.size w (w2.setCell ⟨w.heap.size + 1, 0, none⟩ (.string (mkS std))) from bl_set hb.out (show w.heap.size ≤ w.heap.size + 1 by omega) (.string (mkS std)))
 generalize w2.setCell ⟨w.heap.size + 1, 0, none⟩ (.string (mkS std)) = w4 at *
 obtain ⟨p1, q1⟩ := ro_cf hD.out 1 _ rfl
 go_upto_region 10 with fail
 clear p1 q1
 replace hD := hide (show Ro (w4.setCell ⟨w.heap.size + 1, 1, none⟩ (.int .i64 (-v))) (w.heap.size + 1) #[.string (mkS std), .int .i64 (-v), .bool false, .string ⟨#[]⟩, .int .i64 0, .int .i64 0, .int .i64 0, .int .i64 0, .int .i64 0, .int .i64 0, .int .i64 0, .int .i64 0, .int .i64 0, .int .i64 0, .int .i64 0, .int .i64 0, .int .i64 0] 51 from ro_set hD.out 1 (.int .i64 (-v)))
 replace hR := hide (show Ro (w4.setCell ⟨w.heap.size + 1, 1, none⟩ (.int .i64 (-v))) w.heap.size c0 51 from ro_set_ne hR.out (show w.heap.size + 1 ≠ w.heap.size by omega) 1 (.int .i64 (-v)))
 replace hb := hide (show Below w.heap.size w (w4.setCell ⟨w.heap.size + 1, 1, none⟩ (.int .i64 (-v))) from bl_set hb.out (show w.heap.size ≤ w.heap.size + 1 by omega) (.int .i64 (-v)))
 generalize w4.setCell ⟨w.heap.size + 1, 1, none⟩ (.int .i64 (-v)) = w5 at *
 go_wp2_with fail
 refine (C'.out _).mono ?_
 rintro e w6 ⟨rfl, rfl⟩
 go_wp2_with fail
 refine (F.out _ _).mono ?_
 rintro e w9 ⟨rfl, h1⟩
 replace hR := hide (hR.out.below h1)
 replace hb := hide (bel_next hb.out h1)
 clear h1
 have G1 := G0.out
 go_wp2_with (refine wpList_store_row rfl 51 _ _ rfl _ _ rfl rfl _ _ hR.out G1.1 (c0s.trans G1.2.1.symm) G1.2.2 ?_)
 have hl := ((ro_row hR.out c0).load 51 _ Tryz.underlying51 rfl G1.1).2
 refine bodyPost_ret (results_c9 (x := .int .i64 14) (y := .int .i64 ((n : Int) + m)) Tryz.results34 rfl rfl rfl hl) rfl ⟨rfl, bl_row hb.out (Nat.le_refl _) c0⟩
theorem Parse_5 (s : ByteArray) (w : World) (hs : s.size ≤ 1000000) (std : List UInt8) (n : Nat) (hA : tnParse (byt s) = some (std, n)) (hn : n ≤ s.size) (v : Int) (m : Nat) (hB : hmsParse ((byt s).drop n) = some (v, m)) (hm : n + m ≤ s.size) (hv0 : -604800 < v) (hv1 : v < 604800) (ho : decide (offOk v) = true) (dst : List UInt8) (n2 : Nat) (hC : tnParse ((byt s).drop (n + m)) = some (dst, n2)) (he : n + m < s.size) (hn2 : n + m + n2 ≤ s.size) (v2 : Int) (m2 : Nat) (hE : hmsParse ((byt s).drop (n + m + n2)) = some (v2, m2)) (hm2 : n + m + n2 + m2 ≤ s.size) (hv20 : -604800 < v2) (hv21 : v2 < 604800) (ho2 : decide (offOk v2) = false) :
 Calls Tryz.prog 34 #[.string s] w fun e w' => e = .returned (.tuple #[.agg (crule ⟨#[]⟩ 0 false ⟨#[]⟩ 0 rd0 rd0), .int .i64 14, .int .i64 ((n : Int) + m + n2)]) ∧ Below w.heap.size w w' := by
 have A := hide (show ∀ w : World, Calls Tryz.prog 78 #[.string s] w fun e w' => e = .returned (.tuple #[.string (mkS std), .int .i64 n, .bool true]) ∧ w = w' from fun w => by have := r7_.Parse s w hs; rwa [hA] at this)
 clear hA
 have B := hide (show ∀ w : World, Calls Tryz.prog 80 #[.string (s.extract n s.size)] w fun e w' => e = .returned (.tuple #[.int .i64 v, .int .i64 m, .bool true]) ∧ Below w.heap.size w w' from fun w => by have := r8_.Parse (s.extract n s.size) w (by rw [ByteArray.size_extract]; omega); rwa [byt_rest, hB] at this)
 clear hB
 have O := hide (fun w => in_ v w _ ho)
 clear ho
 have C' := hide (show ∀ w : World, Calls Tryz.prog 78 #[.string (s.extract (n + m) s.size)] w fun e w' => e = .returned (.tuple #[.string (mkS dst), .int .i64 n2, .bool true]) ∧ w = w' from fun w => by have := r7_.Parse (s.extract (n + m) s.size) w (by rw [ByteArray.size_extract]; omega); rwa [byt_rest, hC] at this)
 clear hC
 have D := hide (show ∀ w : World, Calls Tryz.prog 80 #[.string (s.extract (n + m + n2) s.size)] w fun e w' => e = .returned (.tuple #[.int .i64 v2, .int .i64 m2, .bool true]) ∧ Below w.heap.size w w' from fun w => by have := r8_.Parse (s.extract (n + m + n2) s.size) w (by rw [ByteArray.size_extract]; omega); rwa [byt_rest, hE] at this)
 clear hE
 have O2 := hide (fun w => in_ v2 w _ ho2)
 clear ho2
 have F := hide (fun a w => fail_ a w)
 have hR := hide (show Ro ((w.alloc (.cells #[.string ⟨#[]⟩, .int .i64 0, .bool false, .string ⟨#[]⟩, .int .i64 0, .int .i64 0, .int .i64 0, .int .i64 0, .int .i64 0, .int .i64 0, .int .i64 0, .int .i64 0, .int .i64 0, .int .i64 0, .int .i64 0, .int .i64 0, .int .i64 0] 51)).alloc (.cells #[.string ⟨#[]⟩, .int .i64 0, .bool false, .string ⟨#[]⟩, .int .i64 0, .int .i64 0, .int .i64 0, .int .i64 0, .int .i64 0, .int .i64 0, .int .i64 0, .int .i64 0, .int .i64 0, .int .i64 0, .int .i64 0, .int .i64 0, .int .i64 0] 51)) w.heap.size (crule ⟨#[]⟩ 0 false ⟨#[]⟩ 0 rd0 rd0) 51 from (Ro.new w _ 51).alloc _)
 have hD := hide (show Ro ((w.alloc (.cells #[.string ⟨#[]⟩, .int .i64 0, .bool false, .string ⟨#[]⟩, .int .i64 0, .int .i64 0, .int .i64 0, .int .i64 0, .int .i64 0, .int .i64 0, .int .i64 0, .int .i64 0, .int .i64 0, .int .i64 0, .int .i64 0, .int .i64 0, .int .i64 0] 51)).alloc (.cells #[.string ⟨#[]⟩, .int .i64 0, .bool false, .string ⟨#[]⟩, .int .i64 0, .int .i64 0, .int .i64 0, .int .i64 0, .int .i64 0, .int .i64 0, .int .i64 0, .int .i64 0, .int .i64 0, .int .i64 0, .int .i64 0, .int .i64 0, .int .i64 0] 51)) (w.heap.size + 1) #[.string ⟨#[]⟩, .int .i64 0, .bool false, .string ⟨#[]⟩, .int .i64 0, .int .i64 0, .int .i64 0, .int .i64 0, .int .i64 0, .int .i64 0, .int .i64 0, .int .i64 0, .int .i64 0, .int .i64 0, .int .i64 0, .int .i64 0, .int .i64 0] 51 by have := Ro.new (w.alloc (.cells #[.string ⟨#[]⟩, .int .i64 0, .bool false, .string ⟨#[]⟩, .int .i64 0, .int .i64 0, .int .i64 0, .int .i64 0, .int .i64 0, .int .i64 0, .int .i64 0, .int .i64 0, .int .i64 0, .int .i64 0, .int .i64 0, .int .i64 0, .int .i64 0] 51)) #[.string ⟨#[]⟩, .int .i64 0, .bool false, .string ⟨#[]⟩, .int .i64 0, .int .i64 0, .int .i64 0, .int .i64 0, .int .i64 0, .int .i64 0, .int .i64 0, .int .i64 0, .int .i64 0, .int .i64 0, .int .i64 0, .int .i64 0, .int .i64 0] 51; simpa using this)
 have hb := hide (bl_alloc (bl_new w (.cells #[.string ⟨#[]⟩, .int .i64 0, .bool false, .string ⟨#[]⟩, .int .i64 0, .int .i64 0, .int .i64 0, .int .i64 0, .int .i64 0, .int .i64 0, .int .i64 0, .int .i64 0, .int .i64 0, .int .i64 0, .int .i64 0, .int .i64 0, .int .i64 0] 51)) (.cells #[.string ⟨#[]⟩, .int .i64 0, .bool false, .string ⟨#[]⟩, .int .i64 0, .int .i64 0, .int .i64 0, .int .i64 0, .int .i64 0, .int .i64 0, .int .i64 0, .int .i64 0, .int .i64 0, .int .i64 0, .int .i64 0, .int .i64 0, .int .i64 0] 51))
 have G0 := hide (gr_rule ⟨#[]⟩ 0 false ⟨#[]⟩ 0 rd0 rd0)
 generalize crule ⟨#[]⟩ 0 false ⟨#[]⟩ 0 rd0 rd0 = c0 at *
 have c0s := G0.out.2.1
 go_enter Tryz.func34, Tryz.ntmps34
 go_wp2_with fail
 generalize (w.alloc (.cells #[.string ⟨#[]⟩, .int .i64 0, .bool false, .string ⟨#[]⟩, .int .i64 0, .int .i64 0, .int .i64 0, .int .i64 0, .int .i64 0, .int .i64 0, .int .i64 0, .int .i64 0, .int .i64 0, .int .i64 0, .int .i64 0, .int .i64 0, .int .i64 0] 51)).alloc (.cells #[.string ⟨#[]⟩, .int .i64 0, .bool false, .string ⟨#[]⟩, .int .i64 0, .int .i64 0, .int .i64 0, .int .i64 0, .int .i64 0, .int .i64 0, .int .i64 0, .int .i64 0, .int .i64 0, .int .i64 0, .int .i64 0, .int .i64 0, .int .i64 0] 51) = w0 at *
 refine (A.out _).mono ?_
 rintro e w1 ⟨rfl, rfl⟩
 go_wp2_with fail
 refine (B.out _).mono ?_
 rintro e w2 ⟨rfl, h1⟩
 replace hR := hide (hR.out.below h1)
 replace hD := hide (hD.out.below h1)
 replace hb := hide (bel_next hb.out h1)
 clear h1
 go_wp2_with fail
 refine (O.out _).mono ?_
 rintro e w3 ⟨rfl, rfl⟩
 obtain ⟨p0, q0⟩ := ro_cf hD.out 0 _ rfl
 go_upto_region 9 with fail
 clear p0 q0
 replace hD := hide (show Ro (w2.setCell ⟨w.heap.size + 1, 0, none⟩ (.string (mkS std))) (w.heap.size + 1) #[.string (mkS std), .int .i64 0, .bool false, .string ⟨#[]⟩, .int .i64 0, .int .i64 0, .int .i64 0, .int .i64 0, .int .i64 0, .int .i64 0, .int .i64 0, .int .i64 0, .int .i64 0, .int .i64 0, .int .i64 0, .int .i64 0, .int .i64 0] 51 from ro_set hD.out 0 (.string (mkS std)))
 replace hR := hide (show Ro (w2.setCell ⟨w.heap.size + 1, 0, none⟩ (.string (mkS std))) w.heap.size c0 51 from ro_set_ne hR.out (show w.heap.size + 1 ≠ w.heap.size by omega) 0 (.string (mkS std)))
 replace hb := hide (show Below w.heap.size w (w2.setCell ⟨w.heap.size + 1, 0, none⟩ (.string (mkS std))) from bl_set hb.out (show w.heap.size ≤ w.heap.size + 1 by omega) (.string (mkS std)))
 generalize w2.setCell ⟨w.heap.size + 1, 0, none⟩ (.string (mkS std)) = w4 at *
 obtain ⟨p1, q1⟩ := ro_cf hD.out 1 _ rfl
 go_upto_region 10 with fail
 clear p1 q1
 replace hD := hide (show Ro (w4.setCell ⟨w.heap.size + 1, 1, none⟩ (.int .i64 (-v))) (w.heap.size + 1) #[.string (mkS std), .int .i64 (-v), .bool false, .string ⟨#[]⟩, .int .i64 0, .int .i64 0, .int .i64 0, .int .i64 0, .int .i64 0, .int .i64 0, .int .i64 0, .int .i64 0, .int .i64 0, .int .i64 0, .int .i64 0, .int .i64 0, .int .i64 0] 51 from ro_set hD.out 1 (.int .i64 (-v)))
 replace hR := hide (show Ro (w4.setCell ⟨w.heap.size + 1, 1, none⟩ (.int .i64 (-v))) w.heap.size c0 51 from ro_set_ne hR.out (show w.heap.size + 1 ≠ w.heap.size by omega) 1 (.int .i64 (-v)))
 replace hb := hide (show Below w.heap.size w (w4.setCell ⟨w.heap.size + 1, 1, none⟩ (.int .i64 (-v))) from bl_set hb.out (show w.heap.size ≤ w.heap.size + 1 by omega) (.int .i64 (-v)))
 generalize w4.setCell ⟨w.heap.size + 1, 1, none⟩ (.int .i64 (-v)) = w5 at *
 go_wp2_with fail
 refine (C'.out _).mono ?_
 rintro e w6 ⟨rfl, rfl⟩
 obtain ⟨p2, q2⟩ := ro_cf hD.out 2 _ rfl
 go_upto_region 18 with fail
 clear p2 q2
 replace hD := hide (show Ro (w5.setCell ⟨w.heap.size + 1, 2, none⟩ (.bool true)) (w.heap.size + 1) #[.string (mkS std), .int .i64 (-v), .bool true, .string ⟨#[]⟩, .int .i64 0, .int .i64 0, .int .i64 0, .int .i64 0, .int .i64 0, .int .i64 0, .int .i64 0, .int .i64 0, .int .i64 0, .int .i64 0, .int .i64 0, .int .i64 0, .int .i64 0] 51 from ro_set hD.out 2 (.bool true))
 replace hR := hide (show Ro (w5.setCell ⟨w.heap.size + 1, 2, none⟩ (.bool true)) w.heap.size c0 51 from ro_set_ne hR.out (show w.heap.size + 1 ≠ w.heap.size by omega) 2 (.bool true))
 replace hb := hide (show Below w.heap.size w (w5.setCell ⟨w.heap.size + 1, 2, none⟩ (.bool true)) from bl_set hb.out (show w.heap.size ≤ w.heap.size + 1 by omega) (.bool true))
 generalize w5.setCell ⟨w.heap.size + 1, 2, none⟩ (.bool true) = w7 at *
 obtain ⟨p3, q3⟩ := ro_cf hD.out 3 _ rfl
 go_upto_region 19 with fail
 clear p3 q3
 replace hD := hide (show Ro (w7.setCell ⟨w.heap.size + 1, 3, none⟩ (.string (mkS dst))) (w.heap.size + 1) #[.string (mkS std), .int .i64 (-v), .bool true, .string (mkS dst), .int .i64 0, .int .i64 0, .int .i64 0, .int .i64 0, .int .i64 0, .int .i64 0, .int .i64 0, .int .i64 0, .int .i64 0, .int .i64 0, .int .i64 0, .int .i64 0, .int .i64 0] 51 from ro_set hD.out 3 (.string (mkS dst)))
 replace hR := hide (show Ro (w7.setCell ⟨w.heap.size + 1, 3, none⟩ (.string (mkS dst))) w.heap.size c0 51 from ro_set_ne hR.out (show w.heap.size + 1 ≠ w.heap.size by omega) 3 (.string (mkS dst)))
 replace hb := hide (show Below w.heap.size w (w7.setCell ⟨w.heap.size + 1, 3, none⟩ (.string (mkS dst))) from bl_set hb.out (show w.heap.size ≤ w.heap.size + 1 by omega) (.string (mkS dst)))
 generalize w7.setCell ⟨w.heap.size + 1, 3, none⟩ (.string (mkS dst)) = w8 at *
 obtain ⟨p1, q1⟩ := ro_cf hD.out 1 _ rfl
 obtain ⟨p4, q4⟩ := ro_cf hD.out 4 _ rfl
 go_upto_region 20 with fail
 clear p1 q1 p4 q4
 replace hD := hide (show Ro (w8.setCell ⟨w.heap.size + 1, 4, none⟩ (.int .i64 (-v + 3600))) (w.heap.size + 1) #[.string (mkS std), .int .i64 (-v), .bool true, .string (mkS dst), .int .i64 (-v + 3600), .int .i64 0, .int .i64 0, .int .i64 0, .int .i64 0, .int .i64 0, .int .i64 0, .int .i64 0, .int .i64 0, .int .i64 0, .int .i64 0, .int .i64 0, .int .i64 0] 51 from ro_set hD.out 4 (.int .i64 (-v + 3600)))
 replace hR := hide (show Ro (w8.setCell ⟨w.heap.size + 1, 4, none⟩ (.int .i64 (-v + 3600))) w.heap.size c0 51 from ro_set_ne hR.out (show w.heap.size + 1 ≠ w.heap.size by omega) 4 (.int .i64 (-v + 3600)))
 replace hb := hide (show Below w.heap.size w (w8.setCell ⟨w.heap.size + 1, 4, none⟩ (.int .i64 (-v + 3600))) from bl_set hb.out (show w.heap.size ≤ w.heap.size + 1 by omega) (.int .i64 (-v + 3600)))
 generalize w8.setCell ⟨w.heap.size + 1, 4, none⟩ (.int .i64 (-v + 3600)) = w9 at *
 go_wp2_with fail
 refine (D.out _).mono ?_
 rintro e w10 ⟨rfl, h1⟩
 replace hR := hide (hR.out.below h1)
 replace hD := hide (hD.out.below h1)
 replace hb := hide (bel_next hb.out h1)
 clear h1
 go_wp2_with fail
 refine (O2.out _).mono ?_
 rintro e w11 ⟨rfl, rfl⟩
 go_wp2_with fail
 refine (F.out _ _).mono ?_
 rintro e w12 ⟨rfl, h1⟩
 replace hR := hide (hR.out.below h1)
 replace hb := hide (bel_next hb.out h1)
 clear h1
 have G1 := G0.out
 go_wp2_with (refine wpList_store_row rfl 51 _ _ rfl _ _ rfl rfl _ _ hR.out G1.1 (c0s.trans G1.2.1.symm) G1.2.2 ?_)
 have hl := ((ro_row hR.out c0).load 51 _ Tryz.underlying51 rfl G1.1).2
 refine bodyPost_ret (results_c9 (x := .int .i64 14) (y := .int .i64 ((n : Int) + m + n2)) Tryz.results34 rfl rfl rfl hl) rfl ⟨rfl, bl_row hb.out (Nat.le_refl _) c0⟩
end r9_
end Go.Proofs.YtbehflfpdkedgaaGreatDoor

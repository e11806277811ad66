/-
  Texts of mine in one file: Law20. Their conditions stand in the theorems.
-/
import Derived.Test.YtbehflfpdkedgaaGreatDoorQ32
import Derived.Lib.SlBytesConst
import Derived.Deep.RegionHeld3
import Derived.Deep.DeepCutAuto
namespace Go.Proofs.YtbehflfpdkedgaaGreatDoor
set_option linter.unusedVariables false
set_option linter.unusedSimpArgs false
set_option maxRecDepth 100000
set_option maxHeartbeats 16000000
open Go.ChangeShapes Go.WideShapes Go.ChangeAt Go.RowKit
def zS : Bk := ⟨[], [], [(0, false, 0)], [0], [], [], []⟩
def zB1 : Bk := ⟨[0, 100], [1, 0], [(0, false, 0), (3600, true, 4)], [85, 84, 67, 0, 65, 66, 67, 0], [], [], []⟩
def zT : Bk := ⟨[100, 100], [1, 0], [(0, false, 0), (3600, true, 4)], [85, 84, 67, 0, 65, 66, 67, 0], [], [], []⟩
theorem zS_ok : zS.ok := ⟨by simp [zS], bytes_of_mem (by decide), by simp [zS, ttOk], bytes_of_mem (by decide), by simp [zS]⟩
theorem zB1_ok : zB1.ok := ⟨by simp [zB1], bytes_of_mem (by decide), by simp [zB1, ttOk], bytes_of_mem (by decide), by simp [zB1]⟩
theorem zT_ok : zT.ok := ⟨by simp [zT], bytes_of_mem (by decide), by simp [zT, ttOk], bytes_of_mem (by decide), by simp [zT]⟩
theorem zS_v (four : Bool) (k : Nat) : vB zS four k = 0 := by cases four <;> rfl
theorem z0_v : vB Bk.zero false 4 = 6 := rfl
theorem zB1_v : vB zB1 false 8 = 0 := by decide
theorem zT_v : vB zT false 8 = 7 := by decide
theorem on_no (a so dof : Int) (s d : List UInt8) (st en : RD) (u : Int) : onB (s, so, false, d, dof, st, en) u = false := by
 cases h : onB (s, so, false, d, dof, st, en) u with
 | false => rfl
 | true => exact absurd ((onB_iff _ _).1 h) ruleS_no
theorem zF_ok : vF (byt ⟨#[85, 84, 67, 48]⟩) 2 zB1 = (0, 0) := by
 have e : ptParse (byt ⟨#[85, 84, 67, 48]⟩) = .ok ([85, 84, 67], 0, false, [], 0, rd0, rd0) := by rfl
 have a : agB ([85, 84, 67], 0, false, [], 0, rd0, rd0) zB1 = true := by
  unfold agB
  dsimp only
  rw [on_no 0]
  decide
 unfold vF
 rw [if_neg (by decide), e]
 dsimp only
 unfold vFr
 rw [if_neg (by decide), if_neg (by decide), if_pos a]
theorem zF_bad : vF (byt ⟨#[85, 84, 67, 49]⟩) 2 zB1 = (15, 0) := by
 have e : ptParse (byt ⟨#[85, 84, 67, 49]⟩) = .ok ([85, 84, 67], -3600, false, [], 0, rd0, rd0) := by rfl
 have a : agB ([85, 84, 67], -3600, false, [], 0, rd0, rd0) zB1 = false := by
  unfold agB
  dsimp only
  rw [on_no 0]
  decide
 unfold vF
 rw [if_neg (by decide), e]
 dsimp only
 unfold vFr
 rw [if_neg (by decide), if_neg (by decide), if_neg (by rw [a]; decide)]
theorem zF_syn : vF (byt ⟨#[85, 84, 67]⟩) 2 zB1 = (14, 3) := by
 have e : ptParse (byt ⟨#[85, 84, 67]⟩) = .error 3 := by rfl
 unfold vF
 rw [if_neg (by decide), e]
 rfl
theorem zF_hrs : vF (byt ⟨#[85, 84, 67, 48, 65, 66, 67, 44, 74, 49, 44, 74, 49, 47, 50, 53]⟩) 2 zB1 = (16, 0) := by
 obtain ⟨r, e, x⟩ : ∃ r, ptParse (byt ⟨#[85, 84, 67, 48, 65, 66, 67, 44, 74, 49, 44, 74, 49, 47, 50, 53]⟩) = .ok r ∧ exR r = true := ⟨_, rfl, rfl⟩
 unfold vF
 rw [if_neg (by decide), e]
 dsimp only
 unfold vFr
 rw [if_pos ⟨rfl, x⟩]
theorem vFile_2 {a b : Bk} {l : List UInt8} {v : Int} (h0 : 2 ≤ v) (h1 : v ≤ 4) (ha : vB a (decide (v = 4)) 4 = 0) (hb : vB b (decide (v = 4)) 8 = 0) : vFile v a b l = (vF l v b).1 := by
 unfold vFile
 rw [if_neg (by omega), if_neg (fun h => h ha), if_neg (by omega), if_neg (fun h => h hb)]
theorem zV3 : vFile 2 zS zB1 (byt ⟨#[85, 84, 67, 48]⟩) = 0 := by rw [vFile_2 (by decide) (by decide) (zS_v _ _) zB1_v, zF_ok]
theorem zV4 : vFile 2 zS zB1 (byt ⟨#[85, 84, 67, 49]⟩) = 15 := by rw [vFile_2 (by decide) (by decide) (zS_v _ _) zB1_v, zF_bad]
theorem zV5 : vFile 2 zS zB1 (byt ⟨#[85, 84, 67]⟩) = 14 := by rw [vFile_2 (by decide) (by decide) (zS_v _ _) zB1_v, zF_syn]
theorem zV6 : vFile 2 zS zB1 (byt ⟨#[85, 84, 67, 48, 65, 66, 67, 44, 74, 49, 44, 74, 49, 47, 50, 53]⟩) = 16 := by rw [vFile_2 (by decide) (by decide) (zS_v _ _) zB1_v, zF_hrs]
theorem zV7 : vFile 0 Bk.zero Bk.zero (byt ⟨#[]⟩) = 4 := rfl
theorem vFile_1 (b : Bk) (l : List UInt8) : vFile 1 zS b l = if l = [] ∧ zB b = true then 0 else 18 := by
 unfold vFile
 rw [if_neg (by decide), if_neg (fun h => h (zS_v _ _)), if_pos rfl]
theorem zV8 : vFile 1 zS Bk.zero (byt ⟨#[]⟩) = 0 := by rw [vFile_1]; rfl
theorem zV9 : vFile 1 zS Bk.zero (byt ⟨#[85, 84, 67, 48]⟩) = 18 := by rw [vFile_1]; rfl
theorem lit_slok (g n : Nat) (h : n ≤ 9223372036854775807) : (Sl.mk (some ⟨g, 0, none⟩) n n).ok := ⟨fun h => (by cases h), Nat.le_refl _, h⟩
theorem nil_slok : (Sl.mk none 0 0).ok := ⟨fun _ => ⟨rfl, rfl⟩, Nat.le_refl _, by decide⟩
theorem is_nil (W : World) : IsBk W ⟨⟨none, 0, 0⟩, ⟨none, 0, 0⟩, ⟨none, 0, 0⟩, ⟨none, 0, 0⟩, ⟨none, 0, 0⟩, ⟨none, 0, 0⟩, ⟨none, 0, 0⟩⟩ Bk.zero := ⟨nil_slok, nil_slok, nil_slok, nil_slok, nil_slok, nil_slok, nil_slok, Rd.none_ _, Rd.none_ _, Rk.none_ 3 _, Rd.none_ _, Rk.none_ 2 _, Rd.none_ _, Rd.none_ _, Bk.zero_ok⟩
theorem nil_small : BkS.small ⟨⟨none, 0, 0⟩, ⟨none, 0, 0⟩, ⟨none, 0, 0⟩, ⟨none, 0, 0⟩, ⟨none, 0, 0⟩, ⟨none, 0, 0⟩, ⟨none, 0, 0⟩⟩ := ⟨by decide, by decide, by decide, by decide, by decide, by decide, by decide⟩
theorem mkT1 (w : World) : (Instr.makeSlice 24 (.int .i64 1) (.int .i64 1)).run Tryz.prog w = .ok (.slice (some ⟨w.heap.size, 0, none⟩) 1 1) (w.alloc (.cells #[.int .i32 0, .bool false, .int .u8 0] 57)) := by
 obtain ⟨i, hi, hz, hsz, hbb⟩ := info_parts (show (Tryz.prog.info? 57).map (fun i => (i.zero, i.size, i.bytes)) = some (some (.agg #[.int .i32 0, .bool false, .int .u8 0]), 3, 8) by kernel_rfl)
 have hr := run_make (P := Tryz.prog) w 24 57 i _ Tryz.underlying24 hi hz .i64 .i64 1 1 (by omega) (by omega) (by rw [hbb]; decide) (by decide)
 rw [hsz] at hr
 rw [show madeCells (Value.agg #[.int .i32 0, .bool false, .int .u8 0]).cells (Int.toNat 1 * 3) = #[.int .i32 0, .bool false, .int .u8 0] from by simp [madeCells, Array.range, Value.cells]; rfl] at hr
 exact hr
theorem rd_litm (W : World) (l : List Value) (T : TypeId) (p : Nat × Nat) : Rd (W.alloc (.cells l.toArray T p)) (some ⟨W.heap.size, 0, none⟩) l.length l := by
 refine ⟨rfl, fun h => ⟨_, rfl, fun i v hv => ?_⟩⟩
 rw [addr_flat, Nat.zero_add]
 have e : (W.alloc (.cells l.toArray T p)).cell? ⟨W.heap.size, i, none⟩ = l.toArray[i]? := by
  simp only [World.cell?, World.alloc, Array.getElem?_push, if_true, Option.isSome_none, Bool.false_eq_true, if_false]
 rw [e]
 exact (List.getElem?_toArray ..).trans hv
theorem aMk0 (w : World) : ∃ S : BkS, Ro (((w.alloc (.cells #[.int .i32 0, .bool false, .int .u8 0] 57)).alloc (.cells #[.int .u8 0] 5)).alloc (.cells #[.slice none 0 0, .slice none 0 0, .slice (some ⟨w.heap.size, 0, none⟩) 1 1, .slice (some ⟨w.heap.size + 1, 0, none⟩) 1 1, .slice none 0 0, .slice none 0 0, .slice none 0 0] 28)) (w.heap.size + 1 + 1) #[.slice S.ti.A S.ti.n S.ti.c, .slice S.ix.A S.ix.n S.ix.c, .slice S.ty.A S.ty.n S.ty.c, .slice S.ch.A S.ch.n S.ch.c, .slice S.lp.A S.lp.n S.lp.c, .slice S.sd.A S.sd.n S.sd.c, .slice S.ut.A S.ut.n S.ut.c] 28 ∧ IsBk (((w.alloc (.cells #[.int .i32 0, .bool false, .int .u8 0] 57)).alloc (.cells #[.int .u8 0] 5)).alloc (.cells #[.slice none 0 0, .slice none 0 0, .slice (some ⟨w.heap.size, 0, none⟩) 1 1, .slice (some ⟨w.heap.size + 1, 0, none⟩) 1 1, .slice none 0 0, .slice none 0 0, .slice none 0 0] 28)) S zS ∧ S.small := by
 refine ⟨⟨⟨none, 0, 0⟩, ⟨none, 0, 0⟩, ⟨(some ⟨w.heap.size, 0, none⟩), 1, 1⟩, ⟨(some ⟨w.heap.size + 1, 0, none⟩), 1, 1⟩, ⟨none, 0, 0⟩, ⟨none, 0, 0⟩, ⟨none, 0, 0⟩⟩, ?_, ?_, ?_⟩
 ·have := Ro.new ((w.alloc (.cells #[.int .i32 0, .bool false, .int .u8 0] 57)).alloc (.cells #[.int .u8 0] 5)) #[.slice none 0 0, .slice none 0 0, .slice (some ⟨w.heap.size, 0, none⟩) 1 1, .slice (some ⟨w.heap.size + 1, 0, none⟩) 1 1, .slice none 0 0, .slice none 0 0, .slice none 0 0] 28
  simp only [World.size_alloc] at this; exact this
 ·refine ⟨nil_slok, nil_slok, lit_slok _ _ (by decide), lit_slok _ _ (by decide), nil_slok, nil_slok, nil_slok, Rd.none_ _, Rd.none_ _, ?_, ?_, Rk.none_ 2 _, Rd.none_ _, Rd.none_ _, zS_ok⟩
  ·exact (Rk.alloc ((Ok.lit 3 w 57 (tcs ([(0, false, 0)] : List TT)) 1 rfl (by simp [maxLen])).rd) _).alloc _
  ·have := (Rd.ints (w.alloc (.cells #[.int .i32 0, .bool false, .int .u8 0] 57)) 5 .u8 ([0] : List Int) 1 rfl rfl).alloc (.cells #[.slice none 0 0, .slice none 0 0, .slice (some ⟨w.heap.size, 0, none⟩) 1 1, .slice (some ⟨w.heap.size + 1, 0, none⟩) 1 1, .slice none 0 0, .slice none 0 0, .slice none 0 0] 28)
   simp only [World.size_alloc] at this; exact this
 ·exact ⟨by simp, by simp, by simp, by simp, by simp, by simp, by simp⟩
theorem aMk1 (w : World) : ∃ S : BkS, Ro (((((w.alloc (.cells #[.int .i64 0, .int .i64 100] 2)).alloc (.cells #[.int .u8 1, .int .u8 0] 5)).alloc (.cells #[.int .i32 0, .bool false, .int .u8 0, .int .i32 3600, .bool true, .int .u8 4] 57)).alloc (.cells #[.int .u8 85, .int .u8 84, .int .u8 67, .int .u8 0, .int .u8 65, .int .u8 66, .int .u8 67, .int .u8 0] 5 (8, 9))).alloc (.cells #[.slice (some ⟨w.heap.size, 0, none⟩) 2 2, .slice (some ⟨w.heap.size + 1, 0, none⟩) 2 2, .slice (some ⟨w.heap.size + 1 + 1, 0, none⟩) 2 2, .slice (some ⟨w.heap.size + 1 + 1 + 1, 0, none⟩) 8 8, .slice none 0 0, .slice none 0 0, .slice none 0 0] 28)) (w.heap.size + 1 + 1 + 1 + 1) #[.slice S.ti.A S.ti.n S.ti.c, .slice S.ix.A S.ix.n S.ix.c, .slice S.ty.A S.ty.n S.ty.c, .slice S.ch.A S.ch.n S.ch.c, .slice S.lp.A S.lp.n S.lp.c, .slice S.sd.A S.sd.n S.sd.c, .slice S.ut.A S.ut.n S.ut.c] 28 ∧ IsBk (((((w.alloc (.cells #[.int .i64 0, .int .i64 100] 2)).alloc (.cells #[.int .u8 1, .int .u8 0] 5)).alloc (.cells #[.int .i32 0, .bool false, .int .u8 0, .int .i32 3600, .bool true, .int .u8 4] 57)).alloc (.cells #[.int .u8 85, .int .u8 84, .int .u8 67, .int .u8 0, .int .u8 65, .int .u8 66, .int .u8 67, .int .u8 0] 5 (8, 9))).alloc (.cells #[.slice (some ⟨w.heap.size, 0, none⟩) 2 2, .slice (some ⟨w.heap.size + 1, 0, none⟩) 2 2, .slice (some ⟨w.heap.size + 1 + 1, 0, none⟩) 2 2, .slice (some ⟨w.heap.size + 1 + 1 + 1, 0, none⟩) 8 8, .slice none 0 0, .slice none 0 0, .slice none 0 0] 28)) S zB1 ∧ S.small := by
 have h1 := Rd.ints w 2 .i64 ([0, 100] : List Int) 2 rfl rfl
 have h2 := Rd.ints (w.alloc (.cells #[.int .i64 0, .int .i64 100] 2)) 5 .u8 ([1, 0] : List Int) 2 rfl rfl
 have h3 := (Ok.lit 3 ((w.alloc (.cells #[.int .i64 0, .int .i64 100] 2)).alloc (.cells #[.int .u8 1, .int .u8 0] 5)) 57 (tcs ([(0, false, 0), (3600, true, 4)] : List TT)) 2 rfl (by simp [maxLen])).rd
 have h4 := rd_litm (((w.alloc (.cells #[.int .i64 0, .int .i64 100] 2)).alloc (.cells #[.int .u8 1, .int .u8 0] 5)).alloc (.cells #[.int .i32 0, .bool false, .int .u8 0, .int .i32 3600, .bool true, .int .u8 4] 57)) (([85, 84, 67, 0, 65, 66, 67, 0] : List Int).map (Value.int .u8)) 5 (8, 9)
 refine ⟨⟨⟨(some ⟨w.heap.size, 0, none⟩), 2, 2⟩, ⟨(some ⟨w.heap.size + 1, 0, none⟩), 2, 2⟩, ⟨(some ⟨w.heap.size + 1 + 1, 0, none⟩), 2, 2⟩, ⟨(some ⟨w.heap.size + 1 + 1 + 1, 0, none⟩), 8, 8⟩, ⟨none, 0, 0⟩, ⟨none, 0, 0⟩, ⟨none, 0, 0⟩⟩, ?_, ?_, ?_⟩
 ·have := Ro.new ((((w.alloc (.cells #[.int .i64 0, .int .i64 100] 2)).alloc (.cells #[.int .u8 1, .int .u8 0] 5)).alloc (.cells #[.int .i32 0, .bool false, .int .u8 0, .int .i32 3600, .bool true, .int .u8 4] 57)).alloc (.cells #[.int .u8 85, .int .u8 84, .int .u8 67, .int .u8 0, .int .u8 65, .int .u8 66, .int .u8 67, .int .u8 0] 5 (8, 9))) #[.slice (some ⟨w.heap.size, 0, none⟩) 2 2, .slice (some ⟨w.heap.size + 1, 0, none⟩) 2 2, .slice (some ⟨w.heap.size + 1 + 1, 0, none⟩) 2 2, .slice (some ⟨w.heap.size + 1 + 1 + 1, 0, none⟩) 8 8, .slice none 0 0, .slice none 0 0, .slice none 0 0] 28
  simp only [World.size_alloc] at this; exact this
 ·refine ⟨lit_slok _ _ (by decide), lit_slok _ _ (by decide), lit_slok _ _ (by decide), lit_slok _ _ (by decide), nil_slok, nil_slok, nil_slok, ?_, ?_, ?_, ?_, Rk.none_ 2 _, Rd.none_ _, Rd.none_ _, zB1_ok⟩
  ·exact (((h1.alloc (.cells #[.int .u8 1, .int .u8 0] 5)).alloc (.cells #[.int .i32 0, .bool false, .int .u8 0, .int .i32 3600, .bool true, .int .u8 4] 57)).alloc (.cells #[.int .u8 85, .int .u8 84, .int .u8 67, .int .u8 0, .int .u8 65, .int .u8 66, .int .u8 67, .int .u8 0] 5 (8, 9))).alloc (.cells #[.slice (some ⟨w.heap.size, 0, none⟩) 2 2, .slice (some ⟨w.heap.size + 1, 0, none⟩) 2 2, .slice (some ⟨w.heap.size + 1 + 1, 0, none⟩) 2 2, .slice (some ⟨w.heap.size + 1 + 1 + 1, 0, none⟩) 8 8, .slice none 0 0, .slice none 0 0, .slice none 0 0] 28)
  ·have := ((h2.alloc (.cells #[.int .i32 0, .bool false, .int .u8 0, .int .i32 3600, .bool true, .int .u8 4] 57)).alloc (.cells #[.int .u8 85, .int .u8 84, .int .u8 67, .int .u8 0, .int .u8 65, .int .u8 66, .int .u8 67, .int .u8 0] 5 (8, 9))).alloc (.cells #[.slice (some ⟨w.heap.size, 0, none⟩) 2 2, .slice (some ⟨w.heap.size + 1, 0, none⟩) 2 2, .slice (some ⟨w.heap.size + 1 + 1, 0, none⟩) 2 2, .slice (some ⟨w.heap.size + 1 + 1 + 1, 0, none⟩) 8 8, .slice none 0 0, .slice none 0 0, .slice none 0 0] 28)
   simp only [World.size_alloc] at this; exact this
  ·have := (h3.alloc (.cells #[.int .u8 85, .int .u8 84, .int .u8 67, .int .u8 0, .int .u8 65, .int .u8 66, .int .u8 67, .int .u8 0] 5 (8, 9))).alloc (.cells #[.slice (some ⟨w.heap.size, 0, none⟩) 2 2, .slice (some ⟨w.heap.size + 1, 0, none⟩) 2 2, .slice (some ⟨w.heap.size + 1 + 1, 0, none⟩) 2 2, .slice (some ⟨w.heap.size + 1 + 1 + 1, 0, none⟩) 8 8, .slice none 0 0, .slice none 0 0, .slice none 0 0] 28)
   simp only [World.size_alloc] at this; exact this
  ·have := h4.alloc (.cells #[.slice (some ⟨w.heap.size, 0, none⟩) 2 2, .slice (some ⟨w.heap.size + 1, 0, none⟩) 2 2, .slice (some ⟨w.heap.size + 1 + 1, 0, none⟩) 2 2, .slice (some ⟨w.heap.size + 1 + 1 + 1, 0, none⟩) 8 8, .slice none 0 0, .slice none 0 0, .slice none 0 0] 28)
   simp only [World.size_alloc] at this; exact this
 ·exact ⟨by simp, by simp, by simp, by simp, by simp, by simp, by simp⟩
namespace l20_
theorem awake (w : World) (hT : Tb w) : Calls Tryz.prog 8 #[] w fun e w' => e = .returned (.bool true) ∧ Below w.heap.size w w' := by
 have m1 := mkT1
 have hb := hide (Below.refl w.heap.size w)
 replace hT := hide hT
 have HT := hT
 clear hT
 go_enter Tryz.func8, Tryz.ntmps8
 go_upto_region 2 with fail
 obtain ⟨S0, k1, i0, s0⟩ := aMk0 w
 replace k1 := hide k1
 replace i0 := hide i0
 replace s0 := hide s0
 have h1 := bl_alloc (bl_alloc (bl_new w (.cells #[.int .i32 0, .bool false, .int .u8 0] 57)) (.cells #[.int .u8 0] 5)) (.cells #[.slice none 0 0, .slice none 0 0, .slice (some ⟨w.heap.size, 0, none⟩) 1 1, .slice (some ⟨w.heap.size + 1, 0, none⟩) 1 1, .slice none 0 0, .slice none 0 0, .slice none 0 0] 28)
 replace hb := hide (bel_next hb.out h1)
 replace HT := hide (HT.out.below h1)
 clear h1
 generalize (((w.alloc (.cells #[.int .i32 0, .bool false, .int .u8 0] 57)).alloc (.cells #[.int .u8 0] 5)).alloc (.cells #[.slice none 0 0, .slice none 0 0, .slice (some ⟨w.heap.size, 0, none⟩) 1 1, .slice (some ⟨w.heap.size + 1, 0, none⟩) 1 1, .slice none 0 0, .slice none 0 0, .slice none 0 0] 28)) = u1 at *
 generalize w.heap.size + 1 + 1 = g1 at *
 have kc : (convert 23 23 (.slice (some ⟨u1.heap.size + 1 + 1 + 1, 0, none⟩) 8 8)).run Tryz.prog ((((u1.alloc (.cells #[.int .i64 0, .int .i64 100] 2)).alloc (.cells #[.int .u8 1, .int .u8 0] 5)).alloc (.cells #[.int .i32 0, .bool false, .int .u8 0, .int .i32 3600, .bool true, .int .u8 4] 57)).alloc (.cells #[.int .u8 85, .int .u8 84, .int .u8 67, .int .u8 0, .int .u8 65, .int .u8 66, .int .u8 67, .int .u8 0] 5)) = .ok (.slice (some ⟨u1.heap.size + 1 + 1 + 1, 0, none⟩) 8 8) ((((u1.alloc (.cells #[.int .i64 0, .int .i64 100] 2)).alloc (.cells #[.int .u8 1, .int .u8 0] 5)).alloc (.cells #[.int .i32 0, .bool false, .int .u8 0, .int .i32 3600, .bool true, .int .u8 4] 57)).alloc (.cells #[.int .u8 85, .int .u8 84, .int .u8 67, .int .u8 0, .int .u8 65, .int .u8 66, .int .u8 67, .int .u8 0] 5 (8, 9))) := by
  have := Lib.run_convert_bytes_const (P := Tryz.prog) (((u1.alloc (.cells #[.int .i64 0, .int .i64 100] 2)).alloc (.cells #[.int .u8 1, .int .u8 0] 5)).alloc (.cells #[.int .i32 0, .bool false, .int .u8 0, .int .i32 3600, .bool true, .int .u8 4] 57)) 23 5 #[.int .u8 85, .int .u8 84, .int .u8 67, .int .u8 0, .int .u8 65, .int .u8 66, .int .u8 67, .int .u8 0] 8 8 Tryz.underlying23 Tryz.underlying5
  simp only [World.size_alloc] at this
  exact this
 go_upto_region 3 with fail
 clear kc
 obtain ⟨S1, k2, i1, s1⟩ := aMk1 u1
 replace k2 := hide k2
 replace i1 := hide i1
 replace s1 := hide s1
 have h1 := bl_alloc (bl_alloc (bl_alloc (bl_alloc (bl_new u1 (.cells #[.int .i64 0, .int .i64 100] 2)) (.cells #[.int .u8 1, .int .u8 0] 5)) (.cells #[.int .i32 0, .bool false, .int .u8 0, .int .i32 3600, .bool true, .int .u8 4] 57)) (.cells #[.int .u8 85, .int .u8 84, .int .u8 67, .int .u8 0, .int .u8 65, .int .u8 66, .int .u8 67, .int .u8 0] 5 (8, 9))) (.cells #[.slice (some ⟨u1.heap.size, 0, none⟩) 2 2, .slice (some ⟨u1.heap.size + 1, 0, none⟩) 2 2, .slice (some ⟨u1.heap.size + 1 + 1, 0, none⟩) 2 2, .slice (some ⟨u1.heap.size + 1 + 1 + 1, 0, none⟩) 8 8, .slice none 0 0, .slice none 0 0, .slice none 0 0] 28)
 replace k1 := hide (k1.out.below h1)
 replace i0 := hide (i0.out.below h1)
 replace HT := hide (HT.out.below h1)
 replace hb := hide (bel_next hb.out h1)
 clear h1
 generalize (((((u1.alloc (.cells #[.int .i64 0, .int .i64 100] 2)).alloc (.cells #[.int .u8 1, .int .u8 0] 5)).alloc (.cells #[.int .i32 0, .bool false, .int .u8 0, .int .i32 3600, .bool true, .int .u8 4] 57)).alloc (.cells #[.int .u8 85, .int .u8 84, .int .u8 67, .int .u8 0, .int .u8 65, .int .u8 66, .int .u8 67, .int .u8 0] 5 (8, 9))).alloc (.cells #[.slice (some ⟨u1.heap.size, 0, none⟩) 2 2, .slice (some ⟨u1.heap.size + 1, 0, none⟩) 2 2, .slice (some ⟨u1.heap.size + 1 + 1, 0, none⟩) 2 2, .slice (some ⟨u1.heap.size + 1 + 1 + 1, 0, none⟩) 8 8, .slice none 0 0, .slice none 0 0, .slice none 0 0] 28)) = u2 at *
 generalize u1.heap.size + 1 + 1 + 1 + 1 = g2 at *
 have G3 := gr_file 2 S0 S1 ⟨#[85, 84, 67, 48]⟩
 have hS0 : Gr Tryz.prog 28 7 #[.slice S0.ti.A S0.ti.n S0.ti.c, .slice S0.ix.A S0.ix.n S0.ix.c, .slice S0.ty.A S0.ty.n S0.ty.c, .slice S0.ch.A S0.ch.n S0.ch.c, .slice S0.lp.A S0.lp.n S0.lp.c, .slice S0.sd.A S0.sd.n S0.sd.c, .slice S0.ut.A S0.ut.n S0.ut.c] := gr_blk S0
 have hS1 : Gr Tryz.prog 28 7 #[.slice S1.ti.A S1.ti.n S1.ti.c, .slice S1.ix.A S1.ix.n S1.ix.c, .slice S1.ty.A S1.ty.n S1.ty.c, .slice S1.ch.A S1.ch.n S1.ch.c, .slice S1.lp.A S1.lp.n S1.lp.c, .slice S1.sd.A S1.sd.n S1.sd.c, .slice S1.ut.A S1.ut.n S1.ut.c] := gr_blk S1
 go_upto_region 4 with (first | (refine load_row_g (by rfl) 28 _ rfl _ rfl _ _ _ k1.out Tryz.underlying28 rfl hS0.1 ?_) | (refine load_row_g (by rfl) 28 _ rfl _ rfl _ _ _ k2.out Tryz.underlying28 rfl hS1.1 ?_))
 have k3 := hide (show Ro (u2.alloc (.cells #[.int .i64 2, .slice S0.ti.A S0.ti.n S0.ti.c, .slice S0.ix.A S0.ix.n S0.ix.c, .slice S0.ty.A S0.ty.n S0.ty.c, .slice S0.ch.A S0.ch.n S0.ch.c, .slice S0.lp.A S0.lp.n S0.lp.c, .slice S0.sd.A S0.sd.n S0.sd.c, .slice S0.ut.A S0.ut.n S0.ut.c, .slice S1.ti.A S1.ti.n S1.ti.c, .slice S1.ix.A S1.ix.n S1.ix.c, .slice S1.ty.A S1.ty.n S1.ty.c, .slice S1.ch.A S1.ch.n S1.ch.c, .slice S1.lp.A S1.lp.n S1.lp.c, .slice S1.sd.A S1.sd.n S1.sd.c, .slice S1.ut.A S1.ut.n S1.ut.c, .string ⟨#[85, 84, 67, 48]⟩] 30)) u2.heap.size (flA 2 S0 S1 ⟨#[85, 84, 67, 48]⟩) 30 from Ro.new u2 (flA 2 S0 S1 ⟨#[85, 84, 67, 48]⟩) 30)
 have h1 := bl_new u2 (.cells #[.int .i64 2, .slice S0.ti.A S0.ti.n S0.ti.c, .slice S0.ix.A S0.ix.n S0.ix.c, .slice S0.ty.A S0.ty.n S0.ty.c, .slice S0.ch.A S0.ch.n S0.ch.c, .slice S0.lp.A S0.lp.n S0.lp.c, .slice S0.sd.A S0.sd.n S0.sd.c, .slice S0.ut.A S0.ut.n S0.ut.c, .slice S1.ti.A S1.ti.n S1.ti.c, .slice S1.ix.A S1.ix.n S1.ix.c, .slice S1.ty.A S1.ty.n S1.ty.c, .slice S1.ch.A S1.ch.n S1.ch.c, .slice S1.lp.A S1.lp.n S1.lp.c, .slice S1.sd.A S1.sd.n S1.sd.c, .slice S1.ut.A S1.ut.n S1.ut.c, .string ⟨#[85, 84, 67, 48]⟩] 30)
 replace k1 := hide (k1.out.below h1)
 replace i0 := hide (i0.out.below h1)
 replace k2 := hide (k2.out.below h1)
 replace i1 := hide (i1.out.below h1)
 replace HT := hide (HT.out.below h1)
 replace hb := hide (bel_next hb.out h1)
 clear h1
 generalize u2.alloc (.cells #[.int .i64 2, .slice S0.ti.A S0.ti.n S0.ti.c, .slice S0.ix.A S0.ix.n S0.ix.c, .slice S0.ty.A S0.ty.n S0.ty.c, .slice S0.ch.A S0.ch.n S0.ch.c, .slice S0.lp.A S0.lp.n S0.lp.c, .slice S0.sd.A S0.sd.n S0.sd.c, .slice S0.ut.A S0.ut.n S0.ut.c, .slice S1.ti.A S1.ti.n S1.ti.c, .slice S1.ix.A S1.ix.n S1.ix.c, .slice S1.ty.A S1.ty.n S1.ty.c, .slice S1.ch.A S1.ch.n S1.ch.c, .slice S1.lp.A S1.lp.n S1.lp.c, .slice S1.sd.A S1.sd.n S1.sd.c, .slice S1.ut.A S1.ut.n S1.ut.c, .string ⟨#[85, 84, 67, 48]⟩] 30) = u3 at *
 generalize u2.heap.size = g3 at *
 have F3 := hide (fun W hT (h : IsBk W S0 zS) (h' : IsBk W S1 zB1) => vd_.File 2 S0 S1 ⟨#[85, 84, 67, 48]⟩ zS zB1 W hT h h' s0.out s1.out (by decide))
 rw [zV3] at F3
 have F4 := hide (fun W hT (h : IsBk W S0 zS) (h' : IsBk W S1 zB1) => vd_.File 2 S0 S1 ⟨#[85, 84, 67, 49]⟩ zS zB1 W hT h h' s0.out s1.out (by decide))
 rw [zV4] at F4
 have F5 := hide (fun W hT (h : IsBk W S0 zS) (h' : IsBk W S1 zB1) => vd_.File 2 S0 S1 ⟨#[85, 84, 67]⟩ zS zB1 W hT h h' s0.out s1.out (by decide))
 rw [zV5] at F5
 have F6 := hide (fun W hT (h : IsBk W S0 zS) (h' : IsBk W S1 zB1) => vd_.File 2 S0 S1 ⟨#[85, 84, 67, 48, 65, 66, 67, 44, 74, 49, 44, 74, 49, 47, 50, 53]⟩ zS zB1 W hT h h' s0.out s1.out (by decide))
 rw [zV6] at F6
 have FT5 := hide (fun W hT (h' : IsBk W S1 zB1) => vd_.Footer 2 S0 S1 ⟨#[85, 84, 67]⟩ zB1 false W hT h' s1.out (by decide) (fun _ => (vB_iff _ _ _).1 zB1_v))
 rw [zF_syn] at FT5
 obtain ⟨c3, hc3⟩ : ∃ c, c = flA 2 S0 S1 ⟨#[85, 84, 67, 48]⟩ := ⟨_, rfl⟩
 obtain ⟨c4, hc4⟩ : ∃ c, c = flA 2 S0 S1 ⟨#[85, 84, 67, 49]⟩ := ⟨_, rfl⟩
 obtain ⟨c5, hc5⟩ : ∃ c, c = flA 2 S0 S1 ⟨#[85, 84, 67]⟩ := ⟨_, rfl⟩
 obtain ⟨c6, hc6⟩ : ∃ c, c = flA 2 S0 S1 ⟨#[85, 84, 67, 48, 65, 66, 67, 44, 74, 49, 44, 74, 49, 47, 50, 53]⟩ := ⟨_, rfl⟩
 have G4 := gr_file 2 S0 S1 ⟨#[85, 84, 67, 49]⟩
 have G5 := gr_file 2 S0 S1 ⟨#[85, 84, 67]⟩
 have G6 := gr_file 2 S0 S1 ⟨#[85, 84, 67, 48, 65, 66, 67, 44, 74, 49, 44, 74, 49, 47, 50, 53]⟩
 have e4 := hide (show c3.setIfInBounds 15 (.string ⟨#[85, 84, 67, 49]⟩) = c4 by rw [hc3, hc4]; rfl)
 have e5 := hide (show c3.setIfInBounds 15 (.string ⟨#[85, 84, 67]⟩) = c5 by rw [hc3, hc5]; rfl)
 have e6 := hide (show c3.setIfInBounds 15 (.string ⟨#[85, 84, 67, 48, 65, 66, 67, 44, 74, 49, 44, 74, 49, 47, 50, 53]⟩) = c6 by rw [hc3, hc6]; rfl)
 have q15 := hide (show c3[15]? = some (.string ⟨#[85, 84, 67, 48]⟩) by rw [hc3]; rfl)
 rw [← hc3] at F3 G3 k3
 rw [← hc4] at F4 G4
 rw [← hc5] at F5 FT5 G5
 rw [← hc6] at F6 G6
 clear hc3 hc4 hc5 hc6
 go_upto_region 5 with (first | (refine wpList_store_row rfl 30 _ _ rfl _ _ rfl rfl _ _ (heap_alloc_last _ _) G3.1 (by rw [G3.2.1]; rfl) G3.2.2 ?_; rw [World.setRow_alloc_new]) | (refine load_row_g (by rfl) 30 _ rfl _ rfl _ _ _ k3.out Tryz.underlying30 rfl G3.1 ?_))
 have ka := hide (Ro.new u3 c3 30)
 obtain ⟨y15, z15⟩ := ro_cf ka.out 15 _ q15.out
 have h1 := bl_new u3 (.cells (c3.setIfInBounds 15 (.string ⟨#[85, 84, 67, 49]⟩)) 30)
 have k4 := Ro.new u3 (c3.setIfInBounds 15 (.string ⟨#[85, 84, 67, 49]⟩)) 30
 clear ka
 go_upto_region 6 with fail
 clear y15 z15
 rw [e4.out] at k4 h1
 replace k4 := hide k4
 rw [e4.out]
 replace k1 := hide (k1.out.below h1)
 replace i0 := hide (i0.out.below h1)
 replace k2 := hide (k2.out.below h1)
 replace i1 := hide (i1.out.below h1)
 replace k3 := hide (k3.out.below h1)
 replace HT := hide (HT.out.below h1)
 replace hb := hide (bel_next hb.out h1)
 clear h1
 generalize u3.alloc (.cells c4 30) = u4 at *
 generalize u3.heap.size = g4 at *
 go_upto_region 7 with (first | (refine wpList_store_row rfl 30 _ _ rfl _ _ rfl rfl _ _ (heap_alloc_last _ _) G3.1 (by rw [G3.2.1]; rfl) G3.2.2 ?_; rw [World.setRow_alloc_new]) | (refine load_row_g (by rfl) 30 _ rfl _ rfl _ _ _ k3.out Tryz.underlying30 rfl G3.1 ?_))
 have ka := hide (Ro.new u4 c3 30)
 obtain ⟨y15, z15⟩ := ro_cf ka.out 15 _ q15.out
 have h1 := bl_new u4 (.cells (c3.setIfInBounds 15 (.string ⟨#[85, 84, 67]⟩)) 30)
 have k5 := Ro.new u4 (c3.setIfInBounds 15 (.string ⟨#[85, 84, 67]⟩)) 30
 clear ka
 go_upto_region 8 with fail
 clear y15 z15
 rw [e5.out] at k5 h1
 replace k5 := hide k5
 rw [e5.out]
 replace k1 := hide (k1.out.below h1)
 replace i0 := hide (i0.out.below h1)
 replace k2 := hide (k2.out.below h1)
 replace i1 := hide (i1.out.below h1)
 replace k3 := hide (k3.out.below h1)
 replace k4 := hide (k4.out.below h1)
 replace HT := hide (HT.out.below h1)
 replace hb := hide (bel_next hb.out h1)
 clear h1
 generalize u4.alloc (.cells c5 30) = u5 at *
 generalize u4.heap.size = g5 at *
 go_upto_region 9 with (first | (refine wpList_store_row rfl 30 _ _ rfl _ _ rfl rfl _ _ (heap_alloc_last _ _) G3.1 (by rw [G3.2.1]; rfl) G3.2.2 ?_; rw [World.setRow_alloc_new]) | (refine load_row_g (by rfl) 30 _ rfl _ rfl _ _ _ k3.out Tryz.underlying30 rfl G3.1 ?_))
 have ka := hide (Ro.new u5 c3 30)
 obtain ⟨y15, z15⟩ := ro_cf ka.out 15 _ q15.out
 have h1 := bl_new u5 (.cells (c3.setIfInBounds 15 (.string ⟨#[85, 84, 67, 48, 65, 66, 67, 44, 74, 49, 44, 74, 49, 47, 50, 53]⟩)) 30)
 have k6 := Ro.new u5 (c3.setIfInBounds 15 (.string ⟨#[85, 84, 67, 48, 65, 66, 67, 44, 74, 49, 44, 74, 49, 47, 50, 53]⟩)) 30
 clear ka
 go_upto_region 10 with fail
 clear y15 z15
 rw [e6.out] at k6 h1
 replace k6 := hide k6
 rw [e6.out]
 replace k1 := hide (k1.out.below h1)
 replace i0 := hide (i0.out.below h1)
 replace k2 := hide (k2.out.below h1)
 replace i1 := hide (i1.out.below h1)
 replace k3 := hide (k3.out.below h1)
 replace k4 := hide (k4.out.below h1)
 replace k5 := hide (k5.out.below h1)
 replace HT := hide (HT.out.below h1)
 replace hb := hide (bel_next hb.out h1)
 clear h1
 generalize u5.alloc (.cells c6 30) = u6 at *
 generalize u5.heap.size = g6 at *
 go_wp2_with (refine load_row_g (by rfl) 30 _ rfl _ rfl _ _ _ k5.out Tryz.underlying30 rfl G5.1 ?_)
 refine (FT5.out _ HT.out i1.out).mono ?_
 rintro e u7 ⟨rfl, h1⟩
 replace k1 := hide (k1.out.below h1)
 replace i0 := hide (i0.out.below h1)
 replace k2 := hide (k2.out.below h1)
 replace i1 := hide (i1.out.below h1)
 replace k3 := hide (k3.out.below h1)
 replace k4 := hide (k4.out.below h1)
 replace k5 := hide (k5.out.below h1)
 replace k6 := hide (k6.out.below h1)
 replace HT := hide (HT.out.below h1)
 replace hb := hide (bel_next hb.out h1)
 clear h1
 clear FT5
 obtain ⟨S9, hS9⟩ : ∃ S9 : BkS, S9 = ⟨⟨some ⟨u7.heap.size + 1, 0, none⟩, 2, 2⟩, S1.ix, S1.ty, S1.ch, S1.lp, S1.sd, S1.ut⟩ := ⟨_, rfl⟩
 go_upto_region 12 with (first | (refine wpList_store_row rfl 28 _ _ rfl _ _ rfl rfl _ _ (heap_alloc_last _ _) hS1.1 (by rw [hS1.2.1]; rfl) hS1.2.2 ?_; rw [World.setRow_alloc_new]) | (refine load_row_g (by rfl) 28 _ rfl _ rfl _ _ _ k2.out Tryz.underlying28 rfl hS1.1 ?_))
 have ka := hide ((Ro.new u7 #[.slice S1.ti.A S1.ti.n S1.ti.c, .slice S1.ix.A S1.ix.n S1.ix.c, .slice S1.ty.A S1.ty.n S1.ty.c, .slice S1.ch.A S1.ch.n S1.ch.c, .slice S1.lp.A S1.lp.n S1.lp.c, .slice S1.sd.A S1.sd.n S1.sd.c, .slice S1.ut.A S1.ut.n S1.ut.c] 28).alloc (.cells #[.int .i64 100, .int .i64 100] 2))
 obtain ⟨y0, z0⟩ := ro_cf ka.out 0 _ rfl
 have h1 := bl_alloc (bl_new u7 (.cells #[.slice (some ⟨u7.heap.size + 1, 0, none⟩) 2 2, .slice S1.ix.A S1.ix.n S1.ix.c, .slice S1.ty.A S1.ty.n S1.ty.c, .slice S1.ch.A S1.ch.n S1.ch.c, .slice S1.lp.A S1.lp.n S1.lp.c, .slice S1.sd.A S1.sd.n S1.sd.c, .slice S1.ut.A S1.ut.n S1.ut.c] 28)) (.cells #[.int .i64 100, .int .i64 100] 2)
 have k9 := (Ro.new u7 #[.slice (some ⟨u7.heap.size + 1, 0, none⟩) 2 2, .slice S1.ix.A S1.ix.n S1.ix.c, .slice S1.ty.A S1.ty.n S1.ty.c, .slice S1.ch.A S1.ch.n S1.ch.c, .slice S1.lp.A S1.lp.n S1.lp.c, .slice S1.sd.A S1.sd.n S1.sd.c, .slice S1.ut.A S1.ut.n S1.ut.c] 28).alloc (.cells #[.int .i64 100, .int .i64 100] 2)
 have rt2 := Rd.ints (u7.alloc (.cells #[.slice (some ⟨u7.heap.size + 1, 0, none⟩) 2 2, .slice S1.ix.A S1.ix.n S1.ix.c, .slice S1.ty.A S1.ty.n S1.ty.c, .slice S1.ch.A S1.ch.n S1.ch.c, .slice S1.lp.A S1.lp.n S1.lp.c, .slice S1.sd.A S1.sd.n S1.sd.c, .slice S1.ut.A S1.ut.n S1.ut.c] 28)) 2 .i64 ([100, 100] : List Int) 2 rfl (show _ = u7.heap.size + 1 from World.size_alloc _ _)
 clear ka
 go_upto_region 13 with fail
 clear y0 z0
 have i9 := hide (show IsBk ((u7.alloc (.cells #[.slice (some ⟨u7.heap.size + 1, 0, none⟩) 2 2, .slice S1.ix.A S1.ix.n S1.ix.c, .slice S1.ty.A S1.ty.n S1.ty.c, .slice S1.ch.A S1.ch.n S1.ch.c, .slice S1.lp.A S1.lp.n S1.lp.c, .slice S1.sd.A S1.sd.n S1.sd.c, .slice S1.ut.A S1.ut.n S1.ut.c] 28)).alloc (.cells #[.int .i64 100, .int .i64 100] 2)) S9 zT from by
  rw [hS9]
  have j1 := i1.out.below h1
  exact ⟨lit_slok _ _ (by decide), j1.oix, j1.oty, j1.och, j1.olp, j1.osd, j1.out_, rt2, j1.ix, j1.ty, j1.ch, j1.lp, j1.sd, j1.ut, zT_ok⟩)
 have s9 := hide (show S9.small from by
  rw [hS9]
  have j := s1.out
  exact ⟨by simp, j.ix, j.ty, j.ch, j.lp, j.sd, j.ut⟩)
 replace k9 := hide (show Ro ((u7.alloc (.cells #[.slice (some ⟨u7.heap.size + 1, 0, none⟩) 2 2, .slice S1.ix.A S1.ix.n S1.ix.c, .slice S1.ty.A S1.ty.n S1.ty.c, .slice S1.ch.A S1.ch.n S1.ch.c, .slice S1.lp.A S1.lp.n S1.lp.c, .slice S1.sd.A S1.sd.n S1.sd.c, .slice S1.ut.A S1.ut.n S1.ut.c] 28)).alloc (.cells #[.int .i64 100, .int .i64 100] 2)) u7.heap.size #[.slice S9.ti.A S9.ti.n S9.ti.c, .slice S9.ix.A S9.ix.n S9.ix.c, .slice S9.ty.A S9.ty.n S9.ty.c, .slice S9.ch.A S9.ch.n S9.ch.c, .slice S9.lp.A S9.lp.n S9.lp.c, .slice S9.sd.A S9.sd.n S9.sd.c, .slice S9.ut.A S9.ut.n S9.ut.c] 28 from by rw [hS9]; exact k9)
 clear rt2 hS9
 replace k1 := hide (k1.out.below h1)
 replace i0 := hide (i0.out.below h1)
 replace k2 := hide (k2.out.below h1)
 replace i1 := hide (i1.out.below h1)
 replace k3 := hide (k3.out.below h1)
 replace k4 := hide (k4.out.below h1)
 replace k5 := hide (k5.out.below h1)
 replace k6 := hide (k6.out.below h1)
 replace HT := hide (HT.out.below h1)
 replace hb := hide (bel_next hb.out h1)
 clear h1
 generalize (u7.alloc (.cells #[.slice (some ⟨u7.heap.size + 1, 0, none⟩) 2 2, .slice S1.ix.A S1.ix.n S1.ix.c, .slice S1.ty.A S1.ty.n S1.ty.c, .slice S1.ch.A S1.ch.n S1.ch.c, .slice S1.lp.A S1.lp.n S1.lp.c, .slice S1.sd.A S1.sd.n S1.sd.c, .slice S1.ut.A S1.ut.n S1.ut.c] 28)).alloc (.cells #[.int .i64 100, .int .i64 100] 2) = u8 at *
 generalize u7.heap.size = g9 at *
 have hS9 : Gr Tryz.prog 28 7 #[.slice S9.ti.A S9.ti.n S9.ti.c, .slice S9.ix.A S9.ix.n S9.ix.c, .slice S9.ty.A S9.ty.n S9.ty.c, .slice S9.ch.A S9.ch.n S9.ch.c, .slice S9.lp.A S9.lp.n S9.lp.c, .slice S9.sd.A S9.sd.n S9.sd.c, .slice S9.ut.A S9.ut.n S9.ut.c] := gr_blk S9
 have B1 := hide (fun W h => vd_.Block S0 zS 1 false 4 4 W rfl (.inl rfl) (by decide) (by decide) rfl h s0.out)
 rw [zS_v] at B1
 have B2 := hide (fun W => vd_.Block ⟨⟨none, 0, 0⟩, ⟨none, 0, 0⟩, ⟨none, 0, 0⟩, ⟨none, 0, 0⟩, ⟨none, 0, 0⟩, ⟨none, 0, 0⟩, ⟨none, 0, 0⟩⟩ Bk.zero 1 false 4 4 W rfl (.inl rfl) (by decide) (by decide) rfl (is_nil W) nil_small)
 rw [z0_v] at B2
 have B3 := hide (fun W h => vd_.Block S1 zB1 2 false 8 8 W rfl (.inr rfl) (by decide) (by decide) rfl h s1.out)
 rw [zB1_v] at B3
 have B4 := hide (fun W h => vd_.Block S9 zT 2 false 8 8 W rfl (.inr rfl) (by decide) (by decide) rfl h s9.out)
 rw [zT_v] at B4
 have F7 := hide (fun W hT => vd_.File 0 ⟨⟨none, 0, 0⟩, ⟨none, 0, 0⟩, ⟨none, 0, 0⟩, ⟨none, 0, 0⟩, ⟨none, 0, 0⟩, ⟨none, 0, 0⟩, ⟨none, 0, 0⟩⟩ ⟨⟨none, 0, 0⟩, ⟨none, 0, 0⟩, ⟨none, 0, 0⟩, ⟨none, 0, 0⟩, ⟨none, 0, 0⟩, ⟨none, 0, 0⟩, ⟨none, 0, 0⟩⟩ ⟨#[]⟩ Bk.zero Bk.zero W hT (is_nil W) (is_nil W) nil_small nil_small (by decide))
 rw [zV7] at F7
 have F8 := hide (fun W hT h => vd_.File 1 S0 ⟨⟨none, 0, 0⟩, ⟨none, 0, 0⟩, ⟨none, 0, 0⟩, ⟨none, 0, 0⟩, ⟨none, 0, 0⟩, ⟨none, 0, 0⟩, ⟨none, 0, 0⟩⟩ ⟨#[]⟩ zS Bk.zero W hT h (is_nil W) s0.out nil_small (by decide))
 rw [zV8] at F8
 have F9 := hide (fun W hT h => vd_.File 1 S0 ⟨⟨none, 0, 0⟩, ⟨none, 0, 0⟩, ⟨none, 0, 0⟩, ⟨none, 0, 0⟩, ⟨none, 0, 0⟩, ⟨none, 0, 0⟩, ⟨none, 0, 0⟩⟩ ⟨#[85, 84, 67, 48]⟩ zS Bk.zero W hT h (is_nil W) s0.out nil_small (by decide))
 rw [zV9] at F9
 dsimp only [bkV] at B1 B2 B3 B4
 dsimp only [flA] at F7 F8 F9
 go_wp2_with (first | (refine load_row_g (by rfl) 28 _ rfl _ rfl _ _ _ k1.out Tryz.underlying28 rfl hS0.1 ?_) | (refine load_row_g (by rfl) 28 _ rfl _ rfl _ _ _ k2.out Tryz.underlying28 rfl hS1.1 ?_) | (refine load_row_g (by rfl) 28 _ rfl _ rfl _ _ _ k9.out Tryz.underlying28 rfl hS9.1 ?_) | (refine load_row_g (by rfl) 30 _ rfl _ rfl _ _ _ k3.out Tryz.underlying30 rfl G3.1 ?_) | (refine load_row_g (by rfl) 30 _ rfl _ rfl _ _ _ k4.out Tryz.underlying30 rfl G4.1 ?_) | (refine load_row_g (by rfl) 30 _ rfl _ rfl _ _ _ k5.out Tryz.underlying30 rfl G5.1 ?_) | (refine load_row_g (by rfl) 30 _ rfl _ rfl _ _ _ k6.out Tryz.underlying30 rfl G6.1 ?_))
 refine (B1.out _ i0.out).mono ?_
 rintro e v0 ⟨rfl, h1⟩
 replace k1 := hide (k1.out.below h1)
 replace i0 := hide (i0.out.below h1)
 replace k2 := hide (k2.out.below h1)
 replace i1 := hide (i1.out.below h1)
 replace k3 := hide (k3.out.below h1)
 replace k4 := hide (k4.out.below h1)
 replace k5 := hide (k5.out.below h1)
 replace k6 := hide (k6.out.below h1)
 replace k9 := hide (k9.out.below h1)
 replace i9 := hide (i9.out.below h1)
 replace HT := hide (HT.out.below h1)
 replace hb := hide (bel_next hb.out h1)
 clear h1
 clear B1
 go_wp2_with (first | (refine load_row_g (by rfl) 28 _ rfl _ rfl _ _ _ k1.out Tryz.underlying28 rfl hS0.1 ?_) | (refine load_row_g (by rfl) 28 _ rfl _ rfl _ _ _ k2.out Tryz.underlying28 rfl hS1.1 ?_) | (refine load_row_g (by rfl) 28 _ rfl _ rfl _ _ _ k9.out Tryz.underlying28 rfl hS9.1 ?_) | (refine load_row_g (by rfl) 30 _ rfl _ rfl _ _ _ k3.out Tryz.underlying30 rfl G3.1 ?_) | (refine load_row_g (by rfl) 30 _ rfl _ rfl _ _ _ k4.out Tryz.underlying30 rfl G4.1 ?_) | (refine load_row_g (by rfl) 30 _ rfl _ rfl _ _ _ k5.out Tryz.underlying30 rfl G5.1 ?_) | (refine load_row_g (by rfl) 30 _ rfl _ rfl _ _ _ k6.out Tryz.underlying30 rfl G6.1 ?_))
 refine (B2.out _ ).mono ?_
 rintro e v1 ⟨rfl, h1⟩
 replace k1 := hide (k1.out.below h1)
 replace i0 := hide (i0.out.below h1)
 replace k2 := hide (k2.out.below h1)
 replace i1 := hide (i1.out.below h1)
 replace k3 := hide (k3.out.below h1)
 replace k4 := hide (k4.out.below h1)
 replace k5 := hide (k5.out.below h1)
 replace k6 := hide (k6.out.below h1)
 replace k9 := hide (k9.out.below h1)
 replace i9 := hide (i9.out.below h1)
 replace HT := hide (HT.out.below h1)
 replace hb := hide (bel_next hb.out h1)
 clear h1
 clear B2
 go_wp2_with (first | (refine load_row_g (by rfl) 28 _ rfl _ rfl _ _ _ k1.out Tryz.underlying28 rfl hS0.1 ?_) | (refine load_row_g (by rfl) 28 _ rfl _ rfl _ _ _ k2.out Tryz.underlying28 rfl hS1.1 ?_) | (refine load_row_g (by rfl) 28 _ rfl _ rfl _ _ _ k9.out Tryz.underlying28 rfl hS9.1 ?_) | (refine load_row_g (by rfl) 30 _ rfl _ rfl _ _ _ k3.out Tryz.underlying30 rfl G3.1 ?_) | (refine load_row_g (by rfl) 30 _ rfl _ rfl _ _ _ k4.out Tryz.underlying30 rfl G4.1 ?_) | (refine load_row_g (by rfl) 30 _ rfl _ rfl _ _ _ k5.out Tryz.underlying30 rfl G5.1 ?_) | (refine load_row_g (by rfl) 30 _ rfl _ rfl _ _ _ k6.out Tryz.underlying30 rfl G6.1 ?_))
 refine (B3.out _ i1.out).mono ?_
 rintro e v2 ⟨rfl, h1⟩
 replace k1 := hide (k1.out.below h1)
 replace i0 := hide (i0.out.below h1)
 replace k2 := hide (k2.out.below h1)
 replace i1 := hide (i1.out.below h1)
 replace k3 := hide (k3.out.below h1)
 replace k4 := hide (k4.out.below h1)
 replace k5 := hide (k5.out.below h1)
 replace k6 := hide (k6.out.below h1)
 replace k9 := hide (k9.out.below h1)
 replace i9 := hide (i9.out.below h1)
 replace HT := hide (HT.out.below h1)
 replace hb := hide (bel_next hb.out h1)
 clear h1
 clear B3
 go_wp2_with (first | (refine load_row_g (by rfl) 28 _ rfl _ rfl _ _ _ k1.out Tryz.underlying28 rfl hS0.1 ?_) | (refine load_row_g (by rfl) 28 _ rfl _ rfl _ _ _ k2.out Tryz.underlying28 rfl hS1.1 ?_) | (refine load_row_g (by rfl) 28 _ rfl _ rfl _ _ _ k9.out Tryz.underlying28 rfl hS9.1 ?_) | (refine load_row_g (by rfl) 30 _ rfl _ rfl _ _ _ k3.out Tryz.underlying30 rfl G3.1 ?_) | (refine load_row_g (by rfl) 30 _ rfl _ rfl _ _ _ k4.out Tryz.underlying30 rfl G4.1 ?_) | (refine load_row_g (by rfl) 30 _ rfl _ rfl _ _ _ k5.out Tryz.underlying30 rfl G5.1 ?_) | (refine load_row_g (by rfl) 30 _ rfl _ rfl _ _ _ k6.out Tryz.underlying30 rfl G6.1 ?_))
 refine (B4.out _ i9.out).mono ?_
 rintro e v3 ⟨rfl, h1⟩
 replace k1 := hide (k1.out.below h1)
 replace i0 := hide (i0.out.below h1)
 replace k2 := hide (k2.out.below h1)
 replace i1 := hide (i1.out.below h1)
 replace k3 := hide (k3.out.below h1)
 replace k4 := hide (k4.out.below h1)
 replace k5 := hide (k5.out.below h1)
 replace k6 := hide (k6.out.below h1)
 replace k9 := hide (k9.out.below h1)
 replace i9 := hide (i9.out.below h1)
 replace HT := hide (HT.out.below h1)
 replace hb := hide (bel_next hb.out h1)
 clear h1
 clear B4
 go_wp2_with (first | (refine load_row_g (by rfl) 28 _ rfl _ rfl _ _ _ k1.out Tryz.underlying28 rfl hS0.1 ?_) | (refine load_row_g (by rfl) 28 _ rfl _ rfl _ _ _ k2.out Tryz.underlying28 rfl hS1.1 ?_) | (refine load_row_g (by rfl) 28 _ rfl _ rfl _ _ _ k9.out Tryz.underlying28 rfl hS9.1 ?_) | (refine load_row_g (by rfl) 30 _ rfl _ rfl _ _ _ k3.out Tryz.underlying30 rfl G3.1 ?_) | (refine load_row_g (by rfl) 30 _ rfl _ rfl _ _ _ k4.out Tryz.underlying30 rfl G4.1 ?_) | (refine load_row_g (by rfl) 30 _ rfl _ rfl _ _ _ k5.out Tryz.underlying30 rfl G5.1 ?_) | (refine load_row_g (by rfl) 30 _ rfl _ rfl _ _ _ k6.out Tryz.underlying30 rfl G6.1 ?_))
 refine (F3.out _ HT.out i0.out i1.out).mono ?_
 rintro e v4 ⟨rfl, h1⟩
 replace k1 := hide (k1.out.below h1)
 replace i0 := hide (i0.out.below h1)
 replace k2 := hide (k2.out.below h1)
 replace i1 := hide (i1.out.below h1)
 replace k3 := hide (k3.out.below h1)
 replace k4 := hide (k4.out.below h1)
 replace k5 := hide (k5.out.below h1)
 replace k6 := hide (k6.out.below h1)
 replace k9 := hide (k9.out.below h1)
 replace i9 := hide (i9.out.below h1)
 replace HT := hide (HT.out.below h1)
 replace hb := hide (bel_next hb.out h1)
 clear h1
 clear F3
 go_wp2_with (first | (refine load_row_g (by rfl) 28 _ rfl _ rfl _ _ _ k1.out Tryz.underlying28 rfl hS0.1 ?_) | (refine load_row_g (by rfl) 28 _ rfl _ rfl _ _ _ k2.out Tryz.underlying28 rfl hS1.1 ?_) | (refine load_row_g (by rfl) 28 _ rfl _ rfl _ _ _ k9.out Tryz.underlying28 rfl hS9.1 ?_) | (refine load_row_g (by rfl) 30 _ rfl _ rfl _ _ _ k3.out Tryz.underlying30 rfl G3.1 ?_) | (refine load_row_g (by rfl) 30 _ rfl _ rfl _ _ _ k4.out Tryz.underlying30 rfl G4.1 ?_) | (refine load_row_g (by rfl) 30 _ rfl _ rfl _ _ _ k5.out Tryz.underlying30 rfl G5.1 ?_) | (refine load_row_g (by rfl) 30 _ rfl _ rfl _ _ _ k6.out Tryz.underlying30 rfl G6.1 ?_))
 refine (F4.out _ HT.out i0.out i1.out).mono ?_
 rintro e v5 ⟨rfl, h1⟩
 replace k1 := hide (k1.out.below h1)
 replace i0 := hide (i0.out.below h1)
 replace k2 := hide (k2.out.below h1)
 replace i1 := hide (i1.out.below h1)
 replace k3 := hide (k3.out.below h1)
 replace k4 := hide (k4.out.below h1)
 replace k5 := hide (k5.out.below h1)
 replace k6 := hide (k6.out.below h1)
 replace k9 := hide (k9.out.below h1)
 replace i9 := hide (i9.out.below h1)
 replace HT := hide (HT.out.below h1)
 replace hb := hide (bel_next hb.out h1)
 clear h1
 clear F4
 go_wp2_with (first | (refine load_row_g (by rfl) 28 _ rfl _ rfl _ _ _ k1.out Tryz.underlying28 rfl hS0.1 ?_) | (refine load_row_g (by rfl) 28 _ rfl _ rfl _ _ _ k2.out Tryz.underlying28 rfl hS1.1 ?_) | (refine load_row_g (by rfl) 28 _ rfl _ rfl _ _ _ k9.out Tryz.underlying28 rfl hS9.1 ?_) | (refine load_row_g (by rfl) 30 _ rfl _ rfl _ _ _ k3.out Tryz.underlying30 rfl G3.1 ?_) | (refine load_row_g (by rfl) 30 _ rfl _ rfl _ _ _ k4.out Tryz.underlying30 rfl G4.1 ?_) | (refine load_row_g (by rfl) 30 _ rfl _ rfl _ _ _ k5.out Tryz.underlying30 rfl G5.1 ?_) | (refine load_row_g (by rfl) 30 _ rfl _ rfl _ _ _ k6.out Tryz.underlying30 rfl G6.1 ?_))
 refine (F5.out _ HT.out i0.out i1.out).mono ?_
 rintro e v6 ⟨rfl, h1⟩
 replace k1 := hide (k1.out.below h1)
 replace i0 := hide (i0.out.below h1)
 replace k2 := hide (k2.out.below h1)
 replace i1 := hide (i1.out.below h1)
 replace k3 := hide (k3.out.below h1)
 replace k4 := hide (k4.out.below h1)
 replace k5 := hide (k5.out.below h1)
 replace k6 := hide (k6.out.below h1)
 replace k9 := hide (k9.out.below h1)
 replace i9 := hide (i9.out.below h1)
 replace HT := hide (HT.out.below h1)
 replace hb := hide (bel_next hb.out h1)
 clear h1
 clear F5
 go_wp2_with (first | (refine load_row_g (by rfl) 28 _ rfl _ rfl _ _ _ k1.out Tryz.underlying28 rfl hS0.1 ?_) | (refine load_row_g (by rfl) 28 _ rfl _ rfl _ _ _ k2.out Tryz.underlying28 rfl hS1.1 ?_) | (refine load_row_g (by rfl) 28 _ rfl _ rfl _ _ _ k9.out Tryz.underlying28 rfl hS9.1 ?_) | (refine load_row_g (by rfl) 30 _ rfl _ rfl _ _ _ k3.out Tryz.underlying30 rfl G3.1 ?_) | (refine load_row_g (by rfl) 30 _ rfl _ rfl _ _ _ k4.out Tryz.underlying30 rfl G4.1 ?_) | (refine load_row_g (by rfl) 30 _ rfl _ rfl _ _ _ k5.out Tryz.underlying30 rfl G5.1 ?_) | (refine load_row_g (by rfl) 30 _ rfl _ rfl _ _ _ k6.out Tryz.underlying30 rfl G6.1 ?_))
 refine (F6.out _ HT.out i0.out i1.out).mono ?_
 rintro e v7 ⟨rfl, h1⟩
 replace k1 := hide (k1.out.below h1)
 replace i0 := hide (i0.out.below h1)
 replace k2 := hide (k2.out.below h1)
 replace i1 := hide (i1.out.below h1)
 replace k3 := hide (k3.out.below h1)
 replace k4 := hide (k4.out.below h1)
 replace k5 := hide (k5.out.below h1)
 replace k6 := hide (k6.out.below h1)
 replace k9 := hide (k9.out.below h1)
 replace i9 := hide (i9.out.below h1)
 replace HT := hide (HT.out.below h1)
 replace hb := hide (bel_next hb.out h1)
 clear h1
 clear F6
 go_wp2_with (first | (refine load_row_g (by rfl) 28 _ rfl _ rfl _ _ _ k1.out Tryz.underlying28 rfl hS0.1 ?_) | (refine load_row_g (by rfl) 28 _ rfl _ rfl _ _ _ k2.out Tryz.underlying28 rfl hS1.1 ?_) | (refine load_row_g (by rfl) 28 _ rfl _ rfl _ _ _ k9.out Tryz.underlying28 rfl hS9.1 ?_) | (refine load_row_g (by rfl) 30 _ rfl _ rfl _ _ _ k3.out Tryz.underlying30 rfl G3.1 ?_) | (refine load_row_g (by rfl) 30 _ rfl _ rfl _ _ _ k4.out Tryz.underlying30 rfl G4.1 ?_) | (refine load_row_g (by rfl) 30 _ rfl _ rfl _ _ _ k5.out Tryz.underlying30 rfl G5.1 ?_) | (refine load_row_g (by rfl) 30 _ rfl _ rfl _ _ _ k6.out Tryz.underlying30 rfl G6.1 ?_))
 refine (F7.out _ HT.out).mono ?_
 rintro e v8 ⟨rfl, h1⟩
 replace k1 := hide (k1.out.below h1)
 replace i0 := hide (i0.out.below h1)
 replace k2 := hide (k2.out.below h1)
 replace i1 := hide (i1.out.below h1)
 replace k3 := hide (k3.out.below h1)
 replace k4 := hide (k4.out.below h1)
 replace k5 := hide (k5.out.below h1)
 replace k6 := hide (k6.out.below h1)
 replace k9 := hide (k9.out.below h1)
 replace i9 := hide (i9.out.below h1)
 replace HT := hide (HT.out.below h1)
 replace hb := hide (bel_next hb.out h1)
 clear h1
 clear F7
 go_wp2_with (first | (refine load_row_g (by rfl) 28 _ rfl _ rfl _ _ _ k1.out Tryz.underlying28 rfl hS0.1 ?_) | (refine load_row_g (by rfl) 28 _ rfl _ rfl _ _ _ k2.out Tryz.underlying28 rfl hS1.1 ?_) | (refine load_row_g (by rfl) 28 _ rfl _ rfl _ _ _ k9.out Tryz.underlying28 rfl hS9.1 ?_) | (refine load_row_g (by rfl) 30 _ rfl _ rfl _ _ _ k3.out Tryz.underlying30 rfl G3.1 ?_) | (refine load_row_g (by rfl) 30 _ rfl _ rfl _ _ _ k4.out Tryz.underlying30 rfl G4.1 ?_) | (refine load_row_g (by rfl) 30 _ rfl _ rfl _ _ _ k5.out Tryz.underlying30 rfl G5.1 ?_) | (refine load_row_g (by rfl) 30 _ rfl _ rfl _ _ _ k6.out Tryz.underlying30 rfl G6.1 ?_))
 refine (F8.out _ HT.out i0.out).mono ?_
 rintro e v9 ⟨rfl, h1⟩
 replace k1 := hide (k1.out.below h1)
 replace i0 := hide (i0.out.below h1)
 replace k2 := hide (k2.out.below h1)
 replace i1 := hide (i1.out.below h1)
 replace k3 := hide (k3.out.below h1)
 replace k4 := hide (k4.out.below h1)
 replace k5 := hide (k5.out.below h1)
 replace k6 := hide (k6.out.below h1)
 replace k9 := hide (k9.out.below h1)
 replace i9 := hide (i9.out.below h1)
 replace HT := hide (HT.out.below h1)
 replace hb := hide (bel_next hb.out h1)
 clear h1
 clear F8
 go_wp2_with (first | (refine load_row_g (by rfl) 28 _ rfl _ rfl _ _ _ k1.out Tryz.underlying28 rfl hS0.1 ?_) | (refine load_row_g (by rfl) 28 _ rfl _ rfl _ _ _ k2.out Tryz.underlying28 rfl hS1.1 ?_) | (refine load_row_g (by rfl) 28 _ rfl _ rfl _ _ _ k9.out Tryz.underlying28 rfl hS9.1 ?_) | (refine load_row_g (by rfl) 30 _ rfl _ rfl _ _ _ k3.out Tryz.underlying30 rfl G3.1 ?_) | (refine load_row_g (by rfl) 30 _ rfl _ rfl _ _ _ k4.out Tryz.underlying30 rfl G4.1 ?_) | (refine load_row_g (by rfl) 30 _ rfl _ rfl _ _ _ k5.out Tryz.underlying30 rfl G5.1 ?_) | (refine load_row_g (by rfl) 30 _ rfl _ rfl _ _ _ k6.out Tryz.underlying30 rfl G6.1 ?_))
 refine (F9.out _ HT.out i0.out).mono ?_
 rintro e v10 ⟨rfl, h1⟩
 replace k1 := hide (k1.out.below h1)
 replace i0 := hide (i0.out.below h1)
 replace k2 := hide (k2.out.below h1)
 replace i1 := hide (i1.out.below h1)
 replace k3 := hide (k3.out.below h1)
 replace k4 := hide (k4.out.below h1)
 replace k5 := hide (k5.out.below h1)
 replace k6 := hide (k6.out.below h1)
 replace k9 := hide (k9.out.below h1)
 replace i9 := hide (i9.out.below h1)
 replace HT := hide (HT.out.below h1)
 replace hb := hide (bel_next hb.out h1)
 clear h1
 clear F9
 go_wp2
 go_ret
 exact ⟨rfl, hb.out⟩
end l20_
end Go.Proofs.YtbehflfpdkedgaaGreatDoor

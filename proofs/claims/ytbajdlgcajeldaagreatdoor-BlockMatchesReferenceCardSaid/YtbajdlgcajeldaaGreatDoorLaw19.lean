/-
  THE WALKS OF THE LAWS OF LAYER 19 (zoneinfolaw19): awake. Condition: the table's fact.
-/
import Derived.Test.YtbajdlgcajeldaaGreatDoorBlD
import Derived.Test.YtbajdlgcajeldaaGreatDoorRow4
import Derived.Deep.RegionHeld3
import Derived.Deep.DeepCutAuto
namespace Go.Proofs.YtbajdlgcajeldaaGreatDoor
open Go.ChangeShapes Go.WideShapes Go.ChangeAt Go.RowKit
set_option linter.unusedVariables false
set_option linter.unusedSimpArgs false
set_option maxRecDepth 100000
theorem mkT1 (w : World) : (Instr.makeSlice 30 (.int .i64 1) (.int .i64 1)).run Tryz.prog w = .ok (.slice (some ⟨w.heap.size, 0, none⟩) 1 1) (w.alloc (.cells #[.int .i32 0, .bool false, .int .u8 0] 49)) := by
  obtain ⟨i, hi, hz, hsz, hbb⟩ := info_parts (show (Tryz.prog.info? 49).map (fun i => (i.zero, i.size, i.bytes)) = some (some (.agg #[.int .i32 0, .bool false, .int .u8 0]), 3, 8) by kernel_rfl)
  have hr := run_make (P := Tryz.prog) w 30 49 i _ Tryz.underlying30 hi hz .i64 .i64 1 1 (by omega) (by omega) (by rw [hbb]; decide) (by decide)
  rw [hsz] at hr
  rw [show madeCells (Value.agg #[.int .i32 0, .bool false, .int .u8 0]).cells (Int.toNat 1 * 3) = #[.int .i32 0, .bool false, .int .u8 0] from by simp [madeCells, Array.range, Value.cells]; rfl] at hr
  exact hr
theorem mk7 (w : World) : (Instr.makeSlice 22 (.int .i64 7) (.int .i64 7)).run Tryz.prog w = .ok (.slice (some ⟨w.heap.size, 0, none⟩) 7 7) (w.alloc (.cells #[.int .u8 0, .int .u8 0, .int .u8 0, .int .u8 0, .int .u8 0, .int .u8 0, .int .u8 0] 5)) := by
  obtain ⟨i, hi, hz, hsz, hbb⟩ := info_parts (show (Tryz.prog.info? 5).map (fun i => (i.zero, i.size, i.bytes)) = some (some (.int .u8 0), 1, 1) by kernel_rfl)
  have hr := run_make (P := Tryz.prog) w 22 5 i _ Tryz.underlying22 hi hz .i64 .i64 7 7 (by omega) (by omega) (by rw [hbb]; decide) (by decide)
  rw [hsz] at hr
  rw [show madeCells (Value.int .u8 0).cells (Int.toNat 7 * 1) = #[.int .u8 0, .int .u8 0, .int .u8 0, .int .u8 0, .int .u8 0, .int .u8 0, .int .u8 0] from by simp [madeCells, Array.range, Value.cells]; rfl] at hr
  exact hr
def aB0 : Bk := ⟨[], [], [(0, false, 0)], [0], [], [], []⟩
def aB1 : Bk := ⟨[-1], [1], [(0, false, 0), (60, true, 1)], [0, 0], [], [false, true], []⟩
def aF : List Int := [255, 255, 255, 255, 1, 0, 0, 0, 0, 0, 0, 0, 0, 0, 60, 1, 1, 0, 0, 0, 1]
theorem aB0_ok : aB0.ok := ⟨by simp [aB0], bytes_of_mem (by decide), by simp [aB0, ttOk], bytes_of_mem (by decide), by simp [aB0]⟩
theorem aB1_ok : aB1.ok := ⟨by simp [aB1], bytes_of_mem (by decide), by simp [aB1, ttOk], bytes_of_mem (by decide), by simp [aB1]⟩
theorem aB0_enc : encB 8 aB0 = [0, 0, 0, 0, 0, 0, 0] := by rfl
theorem aB1_enc : encB 4 aB1 = [255, 255, 255, 255, 1, 0, 0, 0, 0, 0, 0, 0, 0, 0, 60, 1, 1, 0, 0, 0, 1] := by rfl
theorem aB0_fit : aB0.fit 8 := ⟨rfl, rfl, rfl⟩
theorem aB1_fit : aB1.fit 4 := ⟨rfl, by decide, rfl⟩
theorem aF_b : Bytes [255, 255, 255, 255, 1, 0, 0, 0, 0, 0, 0, 0, 0, 0, 60, 1, 1, 0, 0, 0, 1] := bytes_of_mem (by decide)
theorem aF_b1 : Bytes [255, 255, 255, 255, 1, 0, 0, 0, 0, 0, 0, 0, 0, 0, 60, 1, 1, 0, 0, 0] := bytes_of_mem (by decide)
theorem aF_b2 : Bytes [255, 255, 255, 255, 1, 0, 0, 0, 0, 0, 0, 0, 0, 0, 60, 1, 1, 0, 0, 0, 2] := bytes_of_mem (by decide)
theorem aL : LyC 0 2 0 1 2 2 4 := ⟨by unfold C32; decide, by unfold C32; decide, by unfold C32; decide, by unfold C32; decide, by unfold C32; decide, by unfold C32; decide, .inl rfl⟩
theorem aD1 : DecAt 4 0 2 0 1 2 2 [255, 255, 255, 255, 1, 0, 0, 0, 0, 0, 0, 0, 0, 0, 60, 1, 1, 0, 0, 0, 1] 0 0 0 7 aB1 21 0 0 := ⟨fun h => absurd rfl h, fun _ => ⟨rfl, 0, rfl, Nat.zero_le _, by rfl⟩⟩
theorem aD2 : DecAt 4 0 2 0 1 2 2 [255, 255, 255, 255, 1, 0, 0, 0, 0, 0, 0, 0, 0, 0, 60, 1, 1, 0, 0, 0] 0 0 0 7 Bk.zero 0 1 20 := ⟨fun h => absurd rfl h, fun _ => ⟨rfl, 0, rfl, Nat.zero_le _, by rfl⟩⟩
theorem aD3 : DecAt 4 0 2 0 1 2 2 [255, 255, 255, 255, 1, 0, 0, 0, 0, 0, 0, 0, 0, 0, 60, 1, 1, 0, 0, 0, 2] 0 0 0 7 Bk.zero 21 10 7 := ⟨fun h => absurd rfl h, fun _ => ⟨rfl, 0, rfl, Nat.zero_le _, by rfl⟩⟩
theorem lit_slok (g n : Nat) (h : n ≤ 9223372036854775807) : (Sl.mk (some ⟨g, 0, none⟩) n n).ok := ⟨fun h => (by cases h), Nat.le_refl _, h⟩
theorem nil_slok : (Sl.mk none 0 0).ok := ⟨fun _ => ⟨rfl, rfl⟩, Nat.le_refl _, by decide⟩
theorem aMk0 (w : World) : ∃ S : BkS, Ro (((w.alloc (.cells #[.int .i32 0, .bool false, .int .u8 0] 49)).alloc (.cells #[.int .u8 0] 5)).alloc (.cells #[.slice none 0 0, .slice none 0 0, .slice (some ⟨w.heap.size, 0, none⟩) 1 1, .slice (some ⟨w.heap.size + 1, 0, none⟩) 1 1, .slice none 0 0, .slice none 0 0, .slice none 0 0] 34)) (w.heap.size + 1 + 1) #[.slice S.ti.A S.ti.n S.ti.c, .slice S.ix.A S.ix.n S.ix.c, .slice S.ty.A S.ty.n S.ty.c, .slice S.ch.A S.ch.n S.ch.c, .slice S.lp.A S.lp.n S.lp.c, .slice S.sd.A S.sd.n S.sd.c, .slice S.ut.A S.ut.n S.ut.c] 34 ∧ IsBk (((w.alloc (.cells #[.int .i32 0, .bool false, .int .u8 0] 49)).alloc (.cells #[.int .u8 0] 5)).alloc (.cells #[.slice none 0 0, .slice none 0 0, .slice (some ⟨w.heap.size, 0, none⟩) 1 1, .slice (some ⟨w.heap.size + 1, 0, none⟩) 1 1, .slice none 0 0, .slice none 0 0, .slice none 0 0] 34)) S aB0 := by
  refine ⟨⟨⟨none, 0, 0⟩, ⟨none, 0, 0⟩, ⟨(some ⟨w.heap.size, 0, none⟩), 1, 1⟩, ⟨(some ⟨w.heap.size + 1, 0, none⟩), 1, 1⟩, ⟨none, 0, 0⟩, ⟨none, 0, 0⟩, ⟨none, 0, 0⟩⟩, ?_, ?_⟩
  · have := Ro.new ((w.alloc (.cells #[.int .i32 0, .bool false, .int .u8 0] 49)).alloc (.cells #[.int .u8 0] 5)) #[.slice none 0 0, .slice none 0 0, .slice (some ⟨w.heap.size, 0, none⟩) 1 1, .slice (some ⟨w.heap.size + 1, 0, none⟩) 1 1, .slice none 0 0, .slice none 0 0, .slice none 0 0] 34
    simp only [World.size_alloc] at this; exact this
  · refine ⟨nil_slok, nil_slok, lit_slok _ _ (by decide), lit_slok _ _ (by decide), nil_slok, nil_slok, nil_slok, Rd.none_ _, Rd.none_ _, ?_, ?_, Rk.none_ 2 _, Rd.none_ _, Rd.none_ _, aB0_ok⟩
    · exact (Rk.alloc ((Ok.lit 3 w 49 (tcs ([(0, false, 0)] : List TT)) 1 rfl (by simp [maxLen])).rd) _).alloc _
    · have := (Rd.ints (w.alloc (.cells #[.int .i32 0, .bool false, .int .u8 0] 49)) 5 .u8 ([0] : List Int) 1 rfl rfl).alloc (.cells #[.slice none 0 0, .slice none 0 0, .slice (some ⟨w.heap.size, 0, none⟩) 1 1, .slice (some ⟨w.heap.size + 1, 0, none⟩) 1 1, .slice none 0 0, .slice none 0 0, .slice none 0 0] 34)
      simp only [World.size_alloc] at this; exact this
theorem aMk1 (w : World) : ∃ S : BkS, Ro ((((((w.alloc (.cells #[.int .i64 (-1)] 2)).alloc (.cells #[.int .u8 1] 5)).alloc (.cells #[.int .i32 0, .bool false, .int .u8 0, .int .i32 60, .bool true, .int .u8 1] 49)).alloc (.cells #[.int .u8 0, .int .u8 0] 5)).alloc (.cells #[.bool false, .bool true] 4)).alloc (.cells #[.slice (some ⟨w.heap.size, 0, none⟩) 1 1, .slice (some ⟨w.heap.size + 1, 0, none⟩) 1 1, .slice (some ⟨w.heap.size + 1 + 1, 0, none⟩) 2 2, .slice (some ⟨w.heap.size + 1 + 1 + 1, 0, none⟩) 2 2, .slice none 0 0, .slice (some ⟨w.heap.size + 1 + 1 + 1 + 1, 0, none⟩) 2 2, .slice none 0 0] 34)) (w.heap.size + 1 + 1 + 1 + 1 + 1) #[.slice S.ti.A S.ti.n S.ti.c, .slice S.ix.A S.ix.n S.ix.c, .slice S.ty.A S.ty.n S.ty.c, .slice S.ch.A S.ch.n S.ch.c, .slice S.lp.A S.lp.n S.lp.c, .slice S.sd.A S.sd.n S.sd.c, .slice S.ut.A S.ut.n S.ut.c] 34 ∧ IsBk ((((((w.alloc (.cells #[.int .i64 (-1)] 2)).alloc (.cells #[.int .u8 1] 5)).alloc (.cells #[.int .i32 0, .bool false, .int .u8 0, .int .i32 60, .bool true, .int .u8 1] 49)).alloc (.cells #[.int .u8 0, .int .u8 0] 5)).alloc (.cells #[.bool false, .bool true] 4)).alloc (.cells #[.slice (some ⟨w.heap.size, 0, none⟩) 1 1, .slice (some ⟨w.heap.size + 1, 0, none⟩) 1 1, .slice (some ⟨w.heap.size + 1 + 1, 0, none⟩) 2 2, .slice (some ⟨w.heap.size + 1 + 1 + 1, 0, none⟩) 2 2, .slice none 0 0, .slice (some ⟨w.heap.size + 1 + 1 + 1 + 1, 0, none⟩) 2 2, .slice none 0 0] 34)) S aB1 := by
  have h1 := Rd.ints w 2 .i64 ([-1] : List Int) 1 rfl rfl
  have h2 := Rd.ints (w.alloc (.cells #[.int .i64 (-1)] 2)) 5 .u8 ([1] : List Int) 1 rfl rfl
  have h3 := (Ok.lit 3 ((w.alloc (.cells #[.int .i64 (-1)] 2)).alloc (.cells #[.int .u8 1] 5)) 49 (tcs ([(0, false, 0), (60, true, 1)] : List TT)) 2 rfl (by simp [maxLen])).rd
  have h4 := Rd.ints (((w.alloc (.cells #[.int .i64 (-1)] 2)).alloc (.cells #[.int .u8 1] 5)).alloc (.cells #[.int .i32 0, .bool false, .int .u8 0, .int .i32 60, .bool true, .int .u8 1] 49)) 5 .u8 ([0, 0] : List Int) 2 rfl rfl
  have h5 := (Ow.lit ((((w.alloc (.cells #[.int .i64 (-1)] 2)).alloc (.cells #[.int .u8 1] 5)).alloc (.cells #[.int .i32 0, .bool false, .int .u8 0, .int .i32 60, .bool true, .int .u8 1] 49)).alloc (.cells #[.int .u8 0, .int .u8 0] 5)) 4 (bls [false, true]) (by simp [maxLen, bls])).rd
  refine ⟨⟨⟨(some ⟨w.heap.size, 0, none⟩), 1, 1⟩, ⟨(some ⟨w.heap.size + 1, 0, none⟩), 1, 1⟩, ⟨(some ⟨w.heap.size + 1 + 1, 0, none⟩), 2, 2⟩, ⟨(some ⟨w.heap.size + 1 + 1 + 1, 0, none⟩), 2, 2⟩, ⟨none, 0, 0⟩, ⟨(some ⟨w.heap.size + 1 + 1 + 1 + 1, 0, none⟩), 2, 2⟩, ⟨none, 0, 0⟩⟩, ?_, ?_⟩
  · have := Ro.new (((((w.alloc (.cells #[.int .i64 (-1)] 2)).alloc (.cells #[.int .u8 1] 5)).alloc (.cells #[.int .i32 0, .bool false, .int .u8 0, .int .i32 60, .bool true, .int .u8 1] 49)).alloc (.cells #[.int .u8 0, .int .u8 0] 5)).alloc (.cells #[.bool false, .bool true] 4)) #[.slice (some ⟨w.heap.size, 0, none⟩) 1 1, .slice (some ⟨w.heap.size + 1, 0, none⟩) 1 1, .slice (some ⟨w.heap.size + 1 + 1, 0, none⟩) 2 2, .slice (some ⟨w.heap.size + 1 + 1 + 1, 0, none⟩) 2 2, .slice none 0 0, .slice (some ⟨w.heap.size + 1 + 1 + 1 + 1, 0, none⟩) 2 2, .slice none 0 0] 34
    simp only [World.size_alloc] at this; exact this
  · refine ⟨lit_slok _ _ (by decide), lit_slok _ _ (by decide), lit_slok _ _ (by decide), lit_slok _ _ (by decide), nil_slok, lit_slok _ _ (by decide), nil_slok, ?_, ?_, ?_, ?_, Rk.none_ 2 _, ?_, Rd.none_ _, aB1_ok⟩
    · exact ((((h1.alloc (.cells #[.int .u8 1] 5)).alloc (.cells #[.int .i32 0, .bool false, .int .u8 0, .int .i32 60, .bool true, .int .u8 1] 49)).alloc (.cells #[.int .u8 0, .int .u8 0] 5)).alloc (.cells #[.bool false, .bool true] 4)).alloc (.cells #[.slice (some ⟨w.heap.size, 0, none⟩) 1 1, .slice (some ⟨w.heap.size + 1, 0, none⟩) 1 1, .slice (some ⟨w.heap.size + 1 + 1, 0, none⟩) 2 2, .slice (some ⟨w.heap.size + 1 + 1 + 1, 0, none⟩) 2 2, .slice none 0 0, .slice (some ⟨w.heap.size + 1 + 1 + 1 + 1, 0, none⟩) 2 2, .slice none 0 0] 34)
    · have := (((h2.alloc (.cells #[.int .i32 0, .bool false, .int .u8 0, .int .i32 60, .bool true, .int .u8 1] 49)).alloc (.cells #[.int .u8 0, .int .u8 0] 5)).alloc (.cells #[.bool false, .bool true] 4)).alloc (.cells #[.slice (some ⟨w.heap.size, 0, none⟩) 1 1, .slice (some ⟨w.heap.size + 1, 0, none⟩) 1 1, .slice (some ⟨w.heap.size + 1 + 1, 0, none⟩) 2 2, .slice (some ⟨w.heap.size + 1 + 1 + 1, 0, none⟩) 2 2, .slice none 0 0, .slice (some ⟨w.heap.size + 1 + 1 + 1 + 1, 0, none⟩) 2 2, .slice none 0 0] 34)
      simp only [World.size_alloc] at this; exact this
    · have := ((h3.alloc (.cells #[.int .u8 0, .int .u8 0] 5)).alloc (.cells #[.bool false, .bool true] 4)).alloc (.cells #[.slice (some ⟨w.heap.size, 0, none⟩) 1 1, .slice (some ⟨w.heap.size + 1, 0, none⟩) 1 1, .slice (some ⟨w.heap.size + 1 + 1, 0, none⟩) 2 2, .slice (some ⟨w.heap.size + 1 + 1 + 1, 0, none⟩) 2 2, .slice none 0 0, .slice (some ⟨w.heap.size + 1 + 1 + 1 + 1, 0, none⟩) 2 2, .slice none 0 0] 34)
      simp only [World.size_alloc] at this; exact this
    · have := (h4.alloc (.cells #[.bool false, .bool true] 4)).alloc (.cells #[.slice (some ⟨w.heap.size, 0, none⟩) 1 1, .slice (some ⟨w.heap.size + 1, 0, none⟩) 1 1, .slice (some ⟨w.heap.size + 1 + 1, 0, none⟩) 2 2, .slice (some ⟨w.heap.size + 1 + 1 + 1, 0, none⟩) 2 2, .slice none 0 0, .slice (some ⟨w.heap.size + 1 + 1 + 1 + 1, 0, none⟩) 2 2, .slice none 0 0] 34)
      simp only [World.size_alloc] at this; exact this
    · have := h5.alloc (.cells #[.slice (some ⟨w.heap.size, 0, none⟩) 1 1, .slice (some ⟨w.heap.size + 1, 0, none⟩) 1 1, .slice (some ⟨w.heap.size + 1 + 1, 0, none⟩) 2 2, .slice (some ⟨w.heap.size + 1 + 1 + 1, 0, none⟩) 2 2, .slice none 0 0, .slice (some ⟨w.heap.size + 1 + 1 + 1 + 1, 0, none⟩) 2 2, .slice none 0 0] 34)
      simp only [World.size_alloc] at this; exact this
namespace l19_
set_option maxHeartbeats 16000000 in
theorem awake (w : World) (hT : Tq w) : Calls Tryz.prog 4 #[] w fun e w' => e = .returned (.bool true) ∧ Below w.heap.size w w' := by
  have m1 := mkT1
  have m7 := mk7
  have E0 := hide (fun S w hT (h : IsBk w S aB0) => bl_.Encode S aB0 8 7 8 w hT rfl (.inr rfl) h (by unfold Bk.le; decide) aB0_fit (by rw [aB0_enc]; rfl))
  rw [aB0_enc] at E0
  have E1 := hide (fun S w hT (h : IsBk w S aB1) => bl_.Encode S aB1 4 21 4 w hT rfl (.inl rfl) h (by unfold Bk.le; decide) aB1_fit (by rw [aB1_enc]; rfl))
  rw [aB1_enc] at E1
  have H1 := hide (fun S w hT (h : IsBk w S aB1) => bl_.Header S aB1 2 w hT h (by unfold Bk.le; decide))
  rw [show hdB 2 aB1 = .agg #[.int .i64 2, .int .u32 0, .int .u32 2, .int .u32 0, .int .u32 1, .int .u32 2, .int .u32 2] from rfl] at H1
  have D1 := hide (fun A c w hT hA hc hcm hr => bl_.DecodeQ A 21 c [255, 255, 255, 255, 1, 0, 0, 0, 0, 0, 0, 0, 0, 0, 60, 1, 1, 0, 0, 0, 1] 2 0 2 0 1 2 2 4 4 7 0 0 0 aB1 21 0 0 w hT rfl (.inl rfl) aL hA hc hcm hr aF_b (by decide) aD1)
  have D2 := hide (fun A c w hT hA hc hcm hr => bl_.DecodeQ A 20 c [255, 255, 255, 255, 1, 0, 0, 0, 0, 0, 0, 0, 0, 0, 60, 1, 1, 0, 0, 0] 2 0 2 0 1 2 2 4 4 7 0 0 0 Bk.zero 0 1 20 w hT rfl (.inl rfl) aL hA hc hcm hr aF_b1 (by decide) aD2)
  have D3 := hide (fun A c w hT hA hc hcm hr => bl_.DecodeQ A 21 c [255, 255, 255, 255, 1, 0, 0, 0, 0, 0, 0, 0, 0, 0, 60, 1, 1, 0, 0, 0, 2] 2 0 2 0 1 2 2 4 4 7 0 0 0 Bk.zero 21 10 7 w hT rfl (.inl rfl) aL hA hc hcm hr aF_b2 (by decide) aD3)
  dsimp only [bkV, cu, hdV] at D1 D2 D3
  have hb := hide (Below.refl w.heap.size w)
  replace hT := hide hT
  have HT := hT
  clear hT
  go_enter Tryz.func4, Tryz.ntmps4
  go_upto_region 2 with fail
  obtain ⟨S0, k1, i0⟩ := aMk0 w
  replace k1 := hide k1
  replace i0 := hide i0
  replace hb := hide (bl_alloc (bl_alloc (bl_alloc hb.out (.cells #[.int .i32 0, .bool false, .int .u8 0] 49)) (.cells #[.int .u8 0] 5)) (.cells #[.slice none 0 0, .slice none 0 0, .slice (some ⟨w.heap.size, 0, none⟩) 1 1, .slice (some ⟨w.heap.size + 1, 0, none⟩) 1 1, .slice none 0 0, .slice none 0 0, .slice none 0 0] 34))
  replace HT := hide (HT.out.below hb.out)
  generalize (((w.alloc (.cells #[.int .i32 0, .bool false, .int .u8 0] 49)).alloc (.cells #[.int .u8 0] 5)).alloc (.cells #[.slice none 0 0, .slice none 0 0, .slice (some ⟨w.heap.size, 0, none⟩) 1 1, .slice (some ⟨w.heap.size + 1, 0, none⟩) 1 1, .slice none 0 0, .slice none 0 0, .slice none 0 0] 34)) = u1 at *
  generalize w.heap.size + 1 + 1 = g1 at *
  go_wp2_with (first | (refine load_row_g (by rfl) 34 _ rfl _ rfl _ _ _ k1.out Tryz.underlying34 rfl (by kernel_rfl) ?_))
  refine (E0.out _ _ HT.out i0.out).mono ?_
  rintro e w2 ⟨A2, c2, rfl, o2, h1⟩
  replace k1 := hide (k1.out.below h1)
  replace i0 := hide (i0.out.below h1)
  replace HT := hide (HT.out.below h1)
  replace hb := hide (bel_next hb.out h1)
  clear h1
  have r2 := hide o2.rd
  clear o2 E0
  go_upto_region 4 with fail
  obtain ⟨S1, k3, i1⟩ := aMk1 w2
  replace k3 := hide k3
  replace i1 := hide i1
  have h1 := (bl_alloc (bl_alloc (bl_alloc (bl_alloc (bl_alloc (bl_new w2 (.cells #[.int .i64 (-1)] 2)) (.cells #[.int .u8 1] 5)) (.cells #[.int .i32 0, .bool false, .int .u8 0, .int .i32 60, .bool true, .int .u8 1] 49)) (.cells #[.int .u8 0, .int .u8 0] 5)) (.cells #[.bool false, .bool true] 4)) (.cells #[.slice (some ⟨w2.heap.size, 0, none⟩) 1 1, .slice (some ⟨w2.heap.size + 1, 0, none⟩) 1 1, .slice (some ⟨w2.heap.size + 1 + 1, 0, none⟩) 2 2, .slice (some ⟨w2.heap.size + 1 + 1 + 1, 0, none⟩) 2 2, .slice none 0 0, .slice (some ⟨w2.heap.size + 1 + 1 + 1 + 1, 0, none⟩) 2 2, .slice none 0 0] 34))
  replace k1 := hide (k1.out.below h1)
  replace i0 := hide (i0.out.below h1)
  replace r2 := hide (r2.out.below h1)
  replace HT := hide (HT.out.below h1)
  replace hb := hide (bel_next hb.out h1)
  clear h1
  generalize ((((((w2.alloc (.cells #[.int .i64 (-1)] 2)).alloc (.cells #[.int .u8 1] 5)).alloc (.cells #[.int .i32 0, .bool false, .int .u8 0, .int .i32 60, .bool true, .int .u8 1] 49)).alloc (.cells #[.int .u8 0, .int .u8 0] 5)).alloc (.cells #[.bool false, .bool true] 4)).alloc (.cells #[.slice (some ⟨w2.heap.size, 0, none⟩) 1 1, .slice (some ⟨w2.heap.size + 1, 0, none⟩) 1 1, .slice (some ⟨w2.heap.size + 1 + 1, 0, none⟩) 2 2, .slice (some ⟨w2.heap.size + 1 + 1 + 1, 0, none⟩) 2 2, .slice none 0 0, .slice (some ⟨w2.heap.size + 1 + 1 + 1 + 1, 0, none⟩) 2 2, .slice none 0 0] 34)) = u3 at *
  generalize w2.heap.size + 1 + 1 + 1 + 1 + 1 = g3 at *
  go_wp2_with (first | (refine load_row_g (by rfl) 34 _ rfl _ rfl _ _ _ k3.out Tryz.underlying34 rfl (by kernel_rfl) ?_))
  refine (E1.out _ _ HT.out i1.out).mono ?_
  rintro e w4 ⟨A4, c4, rfl, o4, h1⟩
  replace k1 := hide (k1.out.below h1)
  replace i0 := hide (i0.out.below h1)
  replace r2 := hide (r2.out.below h1)
  replace k3 := hide (k3.out.below h1)
  replace i1 := hide (i1.out.below h1)
  replace HT := hide (HT.out.below h1)
  replace hb := hide (bel_next hb.out h1)
  clear h1
  have oc4 := o4.cap
  have om4 : c4 ≤ 9223372036854775807 := by have := o4.capMax; simp [maxLen] at this; omega
  have nil4 := hide o4.nilcap
  have r4 := hide o4.rd
  clear o4 E1
  go_wp2_with (first | (refine load_row_g (by rfl) 34 _ rfl _ rfl _ _ _ k3.out Tryz.underlying34 rfl (by kernel_rfl) ?_))
  refine (H1.out _ _ HT.out i1.out).mono ?_
  rintro e w5 ⟨rfl, h1⟩
  replace k1 := hide (k1.out.below h1)
  replace i0 := hide (i0.out.below h1)
  replace r2 := hide (r2.out.below h1)
  replace k3 := hide (k3.out.below h1)
  replace i1 := hide (i1.out.below h1)
  replace r4 := hide (r4.out.below h1)
  replace HT := hide (HT.out.below h1)
  replace hb := hide (bel_next hb.out h1)
  clear h1
  clear H1
  go_upto_region 8 with fail
  have k5 := hide (Ro.new w5 #[.int .i64 2, .int .u32 0, .int .u32 2, .int .u32 0, .int .u32 1, .int .u32 2, .int .u32 2] 28)
  have h1 := bl_new w5 (.cells #[.int .i64 2, .int .u32 0, .int .u32 2, .int .u32 0, .int .u32 1, .int .u32 2, .int .u32 2] 28)
  replace k1 := hide (k1.out.below h1)
  replace i0 := hide (i0.out.below h1)
  replace r2 := hide (r2.out.below h1)
  replace k3 := hide (k3.out.below h1)
  replace i1 := hide (i1.out.below h1)
  replace r4 := hide (r4.out.below h1)
  replace HT := hide (HT.out.below h1)
  replace hb := hide (bel_next hb.out h1)
  clear h1
  generalize (w5.alloc (.cells #[.int .i64 2, .int .u32 0, .int .u32 2, .int .u32 0, .int .u32 1, .int .u32 2, .int .u32 2] 28)) = u5 at *
  generalize w5.heap.size = g5 at *
  go_cut [6, 7] (fun s6 s7 wz => ∃ (gB gC : Nat) (S6 : BkS), s6 = .pointer (some ⟨gB, 0, none⟩) ∧ s7 = .pointer (some ⟨gC, 0, none⟩) ∧ u5.heap.size ≤ gB ∧ u5.heap.size ≤ gC ∧ gB ≠ gC ∧ Hid (Ro wz gB #[.slice S6.ti.A S6.ti.n S6.ti.c, .slice S6.ix.A S6.ix.n S6.ix.c, .slice S6.ty.A S6.ty.n S6.ty.c, .slice S6.ch.A S6.ch.n S6.ch.c, .slice S6.lp.A S6.lp.n S6.lp.c, .slice S6.sd.A S6.sd.n S6.sd.c, .slice S6.ut.A S6.ut.n S6.ut.c] 34) ∧ Hid (Ro wz gC #[.slice A4 21 c4, .int .i64 21, .int .i64 0, .int .i64 0] 25) ∧ Hid (OwBk wz u5.heap.size S6 aB1) ∧ Hid (NeS S6 gB) ∧ Hid (NeS S6 gC) ∧ Hid (Below u5.heap.size u5 wz))
  case first =>
    have lbx0 := (show g5 < u5.heap.size from k5.out.lt)
    refine wp_region_held_drew (S := fun w' => Hid (Ro w' (g5) (#[.int .i64 2, .int .u32 0, .int .u32 2, .int .u32 0, .int .u32 1, .int .u32 2, .int .u32 2]) 28) ∧ Hid (Below u5.heap.size u5 w')) (by kernel_rfl) (⟨hide k5.out.drew, hide (bl_drew (bl_refl _))⟩) (fun hHeld => ?_)
    generalize u5.drew = u0 at *
    refine wpAnyH_takeD (i := 0) (d := (some 34)) (v := ?_) rfl rfl (by kernel_rfl) (by kernel_rfl) (by kernel_rfl) (fun _ _ _ h => h) (Or.inl ⟨by rfl, ?_⟩) (by assumption) ?_
    rotate_left
    · ((intro w hSw; go_simp) <;> with_reducible rfl)
    try simp only [Act.put, List.setIfInBounds_toArray, List.set_cons_zero, List.set_cons_succ]
    refine wpAnyH_takeD (i := 2) (d := (some 36)) rfl rfl (by kernel_rfl) (by kernel_rfl) (by kernel_rfl) (fun _ _ _ h => h) (yieldsIf_load_row (by rfl) 28 _ rfl (g5) rfl 28 #[.int .i64 2, .int .u32 0, .int .u32 2, .int .u32 0, .int .u32 1, .int .u32 2, .int .u32 2] _ (fun w hw => hw.1.out) Tryz.underlying28 rfl (by kernel_rfl)) (by assumption) ?_
    try simp only [Act.put, List.setIfInBounds_toArray, List.set_cons_zero, List.set_cons_succ]
    refine wpAnyH_share (fun F hI hE T D hTD => ?_)
    have st211 := hide (show ∀ (wv : World) (S6 : BkS) (gB : Nat) (gC : Nat), (Hid (Ro wv (g5) (#[.int .i64 2, .int .u32 0, .int .u32 2, .int .u32 0, .int .u32 1, .int .u32 2, .int .u32 2]) 28) ∧ Hid (Below u5.heap.size u5 wv)) → u5.heap.size ≤ gB → Hid (Ro wv gB #[.slice none 0 0, .slice none 0 0, .slice none 0 0, .slice none 0 0, .slice none 0 0, .slice none 0 0, .slice none 0 0] 34) → u5.heap.size ≤ gC → Hid (Ro wv gC #[.slice none 0 0, .int .i64 0, .int .i64 0, .int .i64 0] 25) → gB ≠ gC → Hid (OwBk wv u5.heap.size S6 aB1) → Hid (NeS S6 gB) → Hid (NeS S6 gC) → F 2 #[true, true, true, true, true, true, true, true, true, false, false] { tmps := (((((((((T.setIfInBounds 34 (.slice A4 21 c4)).setIfInBounds 35 (.agg #[.slice A4 21 c4, .int .i64 0, .int .i64 0, .int .i64 0])).setIfInBounds 36 (.agg #[.int .i64 2, .int .u32 0, .int .u32 2, .int .u32 0, .int .u32 1, .int .u32 2, .int .u32 2])).setIfInBounds 37 (.tuple #[.agg #[.slice S6.ti.A S6.ti.n S6.ti.c, .slice S6.ix.A S6.ix.n S6.ix.c, .slice S6.ty.A S6.ty.n S6.ty.c, .slice S6.ch.A S6.ch.n S6.ch.c, .slice S6.lp.A S6.lp.n S6.lp.c, .slice S6.sd.A S6.sd.n S6.sd.c, .slice S6.ut.A S6.ut.n S6.ut.c], .agg #[.slice A4 21 c4, .int .i64 21, .int .i64 0, .int .i64 0]])).setIfInBounds 33 (.tuple #[.agg #[.slice S6.ti.A S6.ti.n S6.ti.c, .slice S6.ix.A S6.ix.n S6.ix.c, .slice S6.ty.A S6.ty.n S6.ty.c, .slice S6.ch.A S6.ch.n S6.ch.c, .slice S6.lp.A S6.lp.n S6.lp.c, .slice S6.sd.A S6.sd.n S6.sd.c, .slice S6.ut.A S6.ut.n S6.ut.c], .agg #[.slice A4 21 c4, .int .i64 21, .int .i64 0, .int .i64 0]])).setIfInBounds 38 (.agg #[.slice S6.ti.A S6.ti.n S6.ti.c, .slice S6.ix.A S6.ix.n S6.ix.c, .slice S6.ty.A S6.ty.n S6.ty.c, .slice S6.ch.A S6.ch.n S6.ch.c, .slice S6.lp.A S6.lp.n S6.lp.c, .slice S6.sd.A S6.sd.n S6.sd.c, .slice S6.ut.A S6.ut.n S6.ut.c])).setIfInBounds 39 (.agg #[.slice A4 21 c4, .int .i64 21, .int .i64 0, .int .i64 0])).setIfInBounds 6 (.pointer (some ⟨gB, 0, none⟩))).setIfInBounds 7 (.pointer (some ⟨gC, 0, none⟩))), defers := D } wv from by
      intro wv S6 gB gC hHeld lB zB lC zC ne oS nB nC
      refine hI.out _ _ _ _ ?_
      obtain ⟨rfl, rfl⟩ := Act.mk.inj hTD.out
      try simp only [Act.put, List.setIfInBounds_toArray, List.set_cons_zero, List.set_cons_succ]
      refine wpAnyH_ready (rs := [9]) (by kernel_rfl) (by simp) ?_
      refine AllReadyH.cons rfl (fun K hK => ?_) (AllReadyH.nil)
      obtain ⟨y0, w0⟩ := ro_cf zB.out 0 _ rfl; obtain ⟨y1, w1⟩ := ro_cf zB.out 1 _ rfl; obtain ⟨y2, w2⟩ := ro_cf zB.out 2 _ rfl; obtain ⟨y3, w3⟩ := ro_cf zB.out 3 _ rfl; obtain ⟨y4, w4⟩ := ro_cf zB.out 4 _ rfl; obtain ⟨y5, w5⟩ := ro_cf zB.out 5 _ rfl; obtain ⟨y6, w6⟩ := ro_cf zB.out 6 _ rfl
      have su := hHeld.2.out.size
      have lb0 := hHeld.1.out.lt
      go_simp
      refine hK.out _ _ (⟨hide (ro_away7 (g' := gB) (x0 := .slice S6.ti.A S6.ti.n S6.ti.c) (x1 := .slice S6.ix.A S6.ix.n S6.ix.c) (x2 := .slice S6.ty.A S6.ty.n S6.ty.c) (x3 := .slice S6.ch.A S6.ch.n S6.ch.c) (x4 := .slice S6.lp.A S6.lp.n S6.lp.c) (x5 := .slice S6.sd.A S6.sd.n S6.sd.c) (x6 := .slice S6.ut.A S6.ut.n S6.ut.c) hHeld.1.out (by have := lbx0; omega)), hide (bl_setx7 (g := gB) (x0 := .slice S6.ti.A S6.ti.n S6.ti.c) (x1 := .slice S6.ix.A S6.ix.n S6.ix.c) (x2 := .slice S6.ty.A S6.ty.n S6.ty.c) (x3 := .slice S6.ch.A S6.ch.n S6.ch.c) (x4 := .slice S6.lp.A S6.lp.n S6.lp.c) (x5 := .slice S6.sd.A S6.sd.n S6.sd.c) (x6 := .slice S6.ut.A S6.ut.n S6.ut.c) hHeld.2.out lB)⟩) (fun hHeld => ?_)
      clear hK K y0 w0 y1 w1 y2 w2 y3 w3 y4 w4 y5 w5 y6 w6
      replace zB := hide (ro_set7' (x0 := .slice S6.ti.A S6.ti.n S6.ti.c) (x1 := .slice S6.ix.A S6.ix.n S6.ix.c) (x2 := .slice S6.ty.A S6.ty.n S6.ty.c) (x3 := .slice S6.ch.A S6.ch.n S6.ch.c) (x4 := .slice S6.lp.A S6.lp.n S6.lp.c) (x5 := .slice S6.sd.A S6.sd.n S6.sd.c) (x6 := .slice S6.ut.A S6.ut.n S6.ut.c) zB.out)
      replace zC := hide (ro_away7 (g' := gB) (x0 := .slice S6.ti.A S6.ti.n S6.ti.c) (x1 := .slice S6.ix.A S6.ix.n S6.ix.c) (x2 := .slice S6.ty.A S6.ty.n S6.ty.c) (x3 := .slice S6.ch.A S6.ch.n S6.ch.c) (x4 := .slice S6.lp.A S6.lp.n S6.lp.c) (x5 := .slice S6.sd.A S6.sd.n S6.sd.c) (x6 := .slice S6.ut.A S6.ut.n S6.ut.c) zC.out (by omega))
      replace oS := hide (oS.out.away7 nB.out (.slice S6.ti.A S6.ti.n S6.ti.c) (.slice S6.ix.A S6.ix.n S6.ix.c) (.slice S6.ty.A S6.ty.n S6.ty.c) (.slice S6.ch.A S6.ch.n S6.ch.c) (.slice S6.lp.A S6.lp.n S6.lp.c) (.slice S6.sd.A S6.sd.n S6.sd.c) (.slice S6.ut.A S6.ut.n S6.ut.c))
      generalize (((((((wv.setCell ⟨gB, 0, none⟩ (.slice S6.ti.A S6.ti.n S6.ti.c)).setCell ⟨gB, 1, none⟩ (.slice S6.ix.A S6.ix.n S6.ix.c)).setCell ⟨gB, 2, none⟩ (.slice S6.ty.A S6.ty.n S6.ty.c)).setCell ⟨gB, 3, none⟩ (.slice S6.ch.A S6.ch.n S6.ch.c)).setCell ⟨gB, 4, none⟩ (.slice S6.lp.A S6.lp.n S6.lp.c)).setCell ⟨gB, 5, none⟩ (.slice S6.sd.A S6.sd.n S6.sd.c)).setCell ⟨gB, 6, none⟩ (.slice S6.ut.A S6.ut.n S6.ut.c)) = wv1 at *
      try simp only [Act.put, List.setIfInBounds_toArray, List.set_cons_zero, List.set_cons_succ]
      refine wpAnyH_ready (rs := [10]) (by kernel_rfl) (by simp) ?_
      refine AllReadyH.cons rfl (fun K hK => ?_) (AllReadyH.nil)
      obtain ⟨y0, w0⟩ := ro_cf zC.out 0 _ rfl; obtain ⟨y1, w1⟩ := ro_cf zC.out 1 _ rfl; obtain ⟨y2, w2⟩ := ro_cf zC.out 2 _ rfl; obtain ⟨y3, w3⟩ := ro_cf zC.out 3 _ rfl
      have su := hHeld.2.out.size
      have lb0 := hHeld.1.out.lt
      go_simp
      refine hK.out _ _ (⟨hide (ro_away4 (g' := gC) (x0 := .slice A4 21 c4) (x1 := .int .i64 21) (x2 := .int .i64 0) (x3 := .int .i64 0) hHeld.1.out (by have := lbx0; omega)), hide (bl_setx4 (g := gC) (x0 := .slice A4 21 c4) (x1 := .int .i64 21) (x2 := .int .i64 0) (x3 := .int .i64 0) hHeld.2.out lC)⟩) (fun hHeld => ?_)
      clear hK K y0 w0 y1 w1 y2 w2 y3 w3
      replace zC := hide (ro_set4' (x0 := .slice A4 21 c4) (x1 := .int .i64 21) (x2 := .int .i64 0) (x3 := .int .i64 0) zC.out)
      replace zB := hide (ro_away4 (g' := gC) (x0 := .slice A4 21 c4) (x1 := .int .i64 21) (x2 := .int .i64 0) (x3 := .int .i64 0) zB.out (by omega))
      replace oS := hide (oS.out.away4 nC.out (.slice A4 21 c4) (.int .i64 21) (.int .i64 0) (.int .i64 0))
      generalize ((((wv1.setCell ⟨gC, 0, none⟩ (.slice A4 21 c4)).setCell ⟨gC, 1, none⟩ (.int .i64 21)).setCell ⟨gC, 2, none⟩ (.int .i64 0)).setCell ⟨gC, 3, none⟩ (.int .i64 0)) = wv2 at *
      try simp only [Act.put, List.setIfInBounds_toArray, List.set_cons_zero, List.set_cons_succ]
      refine wpAnyH_done (by kernel_rfl) ?_ _
      go_wp2_with fail
      go_meet
      exact ⟨gB, gC, S6, rfl, rfl, lB, lC, ne, zB, zC, oS, nB, nC, hHeld.2⟩)
    have st210 := hide (show ∀ (wv : World) (S6 : BkS) (gB : Nat), (Hid (Ro wv (g5) (#[.int .i64 2, .int .u32 0, .int .u32 2, .int .u32 0, .int .u32 1, .int .u32 2, .int .u32 2]) 28) ∧ Hid (Below u5.heap.size u5 wv)) → u5.heap.size ≤ gB → Hid (Ro wv gB #[.slice none 0 0, .slice none 0 0, .slice none 0 0, .slice none 0 0, .slice none 0 0, .slice none 0 0, .slice none 0 0] 34) → Hid (OwBk wv u5.heap.size S6 aB1) → Hid (NeS S6 gB) → F 3 #[true, true, true, true, true, true, true, true, false, false, false] { tmps := ((((((((T.setIfInBounds 34 (.slice A4 21 c4)).setIfInBounds 35 (.agg #[.slice A4 21 c4, .int .i64 0, .int .i64 0, .int .i64 0])).setIfInBounds 36 (.agg #[.int .i64 2, .int .u32 0, .int .u32 2, .int .u32 0, .int .u32 1, .int .u32 2, .int .u32 2])).setIfInBounds 37 (.tuple #[.agg #[.slice S6.ti.A S6.ti.n S6.ti.c, .slice S6.ix.A S6.ix.n S6.ix.c, .slice S6.ty.A S6.ty.n S6.ty.c, .slice S6.ch.A S6.ch.n S6.ch.c, .slice S6.lp.A S6.lp.n S6.lp.c, .slice S6.sd.A S6.sd.n S6.sd.c, .slice S6.ut.A S6.ut.n S6.ut.c], .agg #[.slice A4 21 c4, .int .i64 21, .int .i64 0, .int .i64 0]])).setIfInBounds 33 (.tuple #[.agg #[.slice S6.ti.A S6.ti.n S6.ti.c, .slice S6.ix.A S6.ix.n S6.ix.c, .slice S6.ty.A S6.ty.n S6.ty.c, .slice S6.ch.A S6.ch.n S6.ch.c, .slice S6.lp.A S6.lp.n S6.lp.c, .slice S6.sd.A S6.sd.n S6.sd.c, .slice S6.ut.A S6.ut.n S6.ut.c], .agg #[.slice A4 21 c4, .int .i64 21, .int .i64 0, .int .i64 0]])).setIfInBounds 38 (.agg #[.slice S6.ti.A S6.ti.n S6.ti.c, .slice S6.ix.A S6.ix.n S6.ix.c, .slice S6.ty.A S6.ty.n S6.ty.c, .slice S6.ch.A S6.ch.n S6.ch.c, .slice S6.lp.A S6.lp.n S6.lp.c, .slice S6.sd.A S6.sd.n S6.sd.c, .slice S6.ut.A S6.ut.n S6.ut.c])).setIfInBounds 39 (.agg #[.slice A4 21 c4, .int .i64 21, .int .i64 0, .int .i64 0])).setIfInBounds 6 (.pointer (some ⟨gB, 0, none⟩))), defers := D } wv from by
      intro wv S6 gB hHeld lB zB oS nB
      refine hI.out _ _ _ _ ?_
      obtain ⟨rfl, rfl⟩ := Act.mk.inj hTD.out
      try simp only [Act.put, List.setIfInBounds_toArray, List.set_cons_zero, List.set_cons_succ]
      refine wpAnyH_ready (rs := [8]) (by kernel_rfl) (by simp) ?_
      refine AllReadyH.cons rfl (fun K hK => ?_) (AllReadyH.nil)
      · go_simp
        have lC := hHeld.2.out.size
        have zC := hide (Ro.new wv #[.slice none 0 0, .int .i64 0, .int .i64 0, .int .i64 0] 25)
        have ne := (show gB ≠ wv.heap.size from fun h => by have := zB.out.lt; omega)
        replace zB := hide (zB.out.alloc (.cells #[.slice none 0 0, .int .i64 0, .int .i64 0, .int .i64 0] 25))
        have nC := hide (oS.out.ne (g := wv.heap.size) (.inr (Nat.le_refl _)))
        replace oS := hide (oS.out.below (bl_new _ (.cells #[.slice none 0 0, .int .i64 0, .int .i64 0, .int .i64 0] 25)))
        refine hK.out _ _ (⟨hide (hHeld.1.out.alloc _), hide (bl_alloc hHeld.2.out _)⟩) (fun hHeld => ?_)
        clear hK K
        try simp only [Act.put, List.setIfInBounds_toArray, List.set_cons_zero, List.set_cons_succ]
        refine hE.out _ _ _ _ ?_
        have hh := st211.out _ S6 gB wv.heap.size hHeld lB zB lC zC ne oS nB nC
        try simp only [Act.put, List.setIfInBounds_toArray, List.set_cons_zero, List.set_cons_succ] at hh
        exact hh)
    have st201 := hide (show ∀ (wv : World) (S6 : BkS) (gC : Nat), (Hid (Ro wv (g5) (#[.int .i64 2, .int .u32 0, .int .u32 2, .int .u32 0, .int .u32 1, .int .u32 2, .int .u32 2]) 28) ∧ Hid (Below u5.heap.size u5 wv)) → u5.heap.size ≤ gC → Hid (Ro wv gC #[.slice none 0 0, .int .i64 0, .int .i64 0, .int .i64 0] 25) → Hid (OwBk wv u5.heap.size S6 aB1) → Hid (NeS S6 gC) → F 3 #[true, true, true, true, true, true, true, false, true, false, false] { tmps := ((((((((T.setIfInBounds 34 (.slice A4 21 c4)).setIfInBounds 35 (.agg #[.slice A4 21 c4, .int .i64 0, .int .i64 0, .int .i64 0])).setIfInBounds 36 (.agg #[.int .i64 2, .int .u32 0, .int .u32 2, .int .u32 0, .int .u32 1, .int .u32 2, .int .u32 2])).setIfInBounds 37 (.tuple #[.agg #[.slice S6.ti.A S6.ti.n S6.ti.c, .slice S6.ix.A S6.ix.n S6.ix.c, .slice S6.ty.A S6.ty.n S6.ty.c, .slice S6.ch.A S6.ch.n S6.ch.c, .slice S6.lp.A S6.lp.n S6.lp.c, .slice S6.sd.A S6.sd.n S6.sd.c, .slice S6.ut.A S6.ut.n S6.ut.c], .agg #[.slice A4 21 c4, .int .i64 21, .int .i64 0, .int .i64 0]])).setIfInBounds 33 (.tuple #[.agg #[.slice S6.ti.A S6.ti.n S6.ti.c, .slice S6.ix.A S6.ix.n S6.ix.c, .slice S6.ty.A S6.ty.n S6.ty.c, .slice S6.ch.A S6.ch.n S6.ch.c, .slice S6.lp.A S6.lp.n S6.lp.c, .slice S6.sd.A S6.sd.n S6.sd.c, .slice S6.ut.A S6.ut.n S6.ut.c], .agg #[.slice A4 21 c4, .int .i64 21, .int .i64 0, .int .i64 0]])).setIfInBounds 38 (.agg #[.slice S6.ti.A S6.ti.n S6.ti.c, .slice S6.ix.A S6.ix.n S6.ix.c, .slice S6.ty.A S6.ty.n S6.ty.c, .slice S6.ch.A S6.ch.n S6.ch.c, .slice S6.lp.A S6.lp.n S6.lp.c, .slice S6.sd.A S6.sd.n S6.sd.c, .slice S6.ut.A S6.ut.n S6.ut.c])).setIfInBounds 39 (.agg #[.slice A4 21 c4, .int .i64 21, .int .i64 0, .int .i64 0])).setIfInBounds 7 (.pointer (some ⟨gC, 0, none⟩))), defers := D } wv from by
      intro wv S6 gC hHeld lC zC oS nC
      refine hI.out _ _ _ _ ?_
      obtain ⟨rfl, rfl⟩ := Act.mk.inj hTD.out
      try simp only [Act.put, List.setIfInBounds_toArray, List.set_cons_zero, List.set_cons_succ]
      refine wpAnyH_ready (rs := [7]) (by kernel_rfl) (by simp) ?_
      refine AllReadyH.cons rfl (fun K hK => ?_) (AllReadyH.nil)
      · go_simp
        have lB := hHeld.2.out.size
        have zB := hide (Ro.new wv #[.slice none 0 0, .slice none 0 0, .slice none 0 0, .slice none 0 0, .slice none 0 0, .slice none 0 0, .slice none 0 0] 34)
        have ne := (show wv.heap.size ≠ gC from fun h => by have := zC.out.lt; omega)
        replace zC := hide (zC.out.alloc (.cells #[.slice none 0 0, .slice none 0 0, .slice none 0 0, .slice none 0 0, .slice none 0 0, .slice none 0 0, .slice none 0 0] 34))
        have nB := hide (oS.out.ne (g := wv.heap.size) (.inr (Nat.le_refl _)))
        replace oS := hide (oS.out.below (bl_new _ (.cells #[.slice none 0 0, .slice none 0 0, .slice none 0 0, .slice none 0 0, .slice none 0 0, .slice none 0 0, .slice none 0 0] 34)))
        refine hK.out _ _ (⟨hide (hHeld.1.out.alloc _), hide (bl_alloc hHeld.2.out _)⟩) (fun hHeld => ?_)
        clear hK K
        try simp only [Act.put, List.setIfInBounds_toArray, List.set_cons_zero, List.set_cons_succ]
        refine hE.out _ _ _ _ ?_
        have hh := st211.out _ S6 wv.heap.size gC hHeld lB zB lC zC ne oS nB nC
        try simp only [Act.put, List.setIfInBounds_toArray, List.set_cons_zero, List.set_cons_succ] at hh
        exact hh)
    have st200 := hide (show ∀ (wv : World) (S6 : BkS), (Hid (Ro wv (g5) (#[.int .i64 2, .int .u32 0, .int .u32 2, .int .u32 0, .int .u32 1, .int .u32 2, .int .u32 2]) 28) ∧ Hid (Below u5.heap.size u5 wv)) → Hid (OwBk wv u5.heap.size S6 aB1) → F 4 #[true, true, true, true, true, true, true, false, false, false, false] { tmps := (((((((T.setIfInBounds 34 (.slice A4 21 c4)).setIfInBounds 35 (.agg #[.slice A4 21 c4, .int .i64 0, .int .i64 0, .int .i64 0])).setIfInBounds 36 (.agg #[.int .i64 2, .int .u32 0, .int .u32 2, .int .u32 0, .int .u32 1, .int .u32 2, .int .u32 2])).setIfInBounds 37 (.tuple #[.agg #[.slice S6.ti.A S6.ti.n S6.ti.c, .slice S6.ix.A S6.ix.n S6.ix.c, .slice S6.ty.A S6.ty.n S6.ty.c, .slice S6.ch.A S6.ch.n S6.ch.c, .slice S6.lp.A S6.lp.n S6.lp.c, .slice S6.sd.A S6.sd.n S6.sd.c, .slice S6.ut.A S6.ut.n S6.ut.c], .agg #[.slice A4 21 c4, .int .i64 21, .int .i64 0, .int .i64 0]])).setIfInBounds 33 (.tuple #[.agg #[.slice S6.ti.A S6.ti.n S6.ti.c, .slice S6.ix.A S6.ix.n S6.ix.c, .slice S6.ty.A S6.ty.n S6.ty.c, .slice S6.ch.A S6.ch.n S6.ch.c, .slice S6.lp.A S6.lp.n S6.lp.c, .slice S6.sd.A S6.sd.n S6.sd.c, .slice S6.ut.A S6.ut.n S6.ut.c], .agg #[.slice A4 21 c4, .int .i64 21, .int .i64 0, .int .i64 0]])).setIfInBounds 38 (.agg #[.slice S6.ti.A S6.ti.n S6.ti.c, .slice S6.ix.A S6.ix.n S6.ix.c, .slice S6.ty.A S6.ty.n S6.ty.c, .slice S6.ch.A S6.ch.n S6.ch.c, .slice S6.lp.A S6.lp.n S6.lp.c, .slice S6.sd.A S6.sd.n S6.sd.c, .slice S6.ut.A S6.ut.n S6.ut.c])).setIfInBounds 39 (.agg #[.slice A4 21 c4, .int .i64 21, .int .i64 0, .int .i64 0])), defers := D } wv from by
      intro wv S6 hHeld oS
      refine hI.out _ _ _ _ ?_
      obtain ⟨rfl, rfl⟩ := Act.mk.inj hTD.out
      try simp only [Act.put, List.setIfInBounds_toArray, List.set_cons_zero, List.set_cons_succ]
      refine wpAnyH_ready (rs := [7, 8]) (by kernel_rfl) (by simp) ?_
      refine AllReadyH.cons rfl (fun K hK => ?_) (AllReadyH.cons rfl (fun K hK => ?_) (AllReadyH.nil))
      · go_simp
        have lB := hHeld.2.out.size
        have zB := hide (Ro.new wv #[.slice none 0 0, .slice none 0 0, .slice none 0 0, .slice none 0 0, .slice none 0 0, .slice none 0 0, .slice none 0 0] 34)
        have nB := hide (oS.out.ne (g := wv.heap.size) (.inr (Nat.le_refl _)))
        replace oS := hide (oS.out.below (bl_new _ (.cells #[.slice none 0 0, .slice none 0 0, .slice none 0 0, .slice none 0 0, .slice none 0 0, .slice none 0 0, .slice none 0 0] 34)))
        refine hK.out _ _ (⟨hide (hHeld.1.out.alloc _), hide (bl_alloc hHeld.2.out _)⟩) (fun hHeld => ?_)
        clear hK K
        try simp only [Act.put, List.setIfInBounds_toArray, List.set_cons_zero, List.set_cons_succ]
        refine hE.out _ _ _ _ ?_
        have hh := st210.out _ S6 wv.heap.size hHeld lB zB oS nB
        try simp only [Act.put, List.setIfInBounds_toArray, List.set_cons_zero, List.set_cons_succ] at hh
        exact hh
      · go_simp
        have lC := hHeld.2.out.size
        have zC := hide (Ro.new wv #[.slice none 0 0, .int .i64 0, .int .i64 0, .int .i64 0] 25)
        have nC := hide (oS.out.ne (g := wv.heap.size) (.inr (Nat.le_refl _)))
        replace oS := hide (oS.out.below (bl_new _ (.cells #[.slice none 0 0, .int .i64 0, .int .i64 0, .int .i64 0] 25)))
        refine hK.out _ _ (⟨hide (hHeld.1.out.alloc _), hide (bl_alloc hHeld.2.out _)⟩) (fun hHeld => ?_)
        clear hK K
        try simp only [Act.put, List.setIfInBounds_toArray, List.set_cons_zero, List.set_cons_succ]
        refine hE.out _ _ _ _ ?_
        have hh := st201.out _ S6 wv.heap.size hHeld lC zC oS nC
        try simp only [Act.put, List.setIfInBounds_toArray, List.set_cons_zero, List.set_cons_succ] at hh
        exact hh)
    have st111 := hide (show ∀ (wv : World) (gB : Nat) (gC : Nat), (Hid (Ro wv (g5) (#[.int .i64 2, .int .u32 0, .int .u32 2, .int .u32 0, .int .u32 1, .int .u32 2, .int .u32 2]) 28) ∧ Hid (Below u5.heap.size u5 wv)) → u5.heap.size ≤ gB → Hid (Ro wv gB #[.slice none 0 0, .slice none 0 0, .slice none 0 0, .slice none 0 0, .slice none 0 0, .slice none 0 0, .slice none 0 0] 34) → u5.heap.size ≤ gC → Hid (Ro wv gC #[.slice none 0 0, .int .i64 0, .int .i64 0, .int .i64 0] 25) → gB ≠ gC → F 6 #[true, true, true, false, false, false, false, true, true, false, false] { tmps := (((((T.setIfInBounds 34 (.slice A4 21 c4)).setIfInBounds 35 (.agg #[.slice A4 21 c4, .int .i64 0, .int .i64 0, .int .i64 0])).setIfInBounds 36 (.agg #[.int .i64 2, .int .u32 0, .int .u32 2, .int .u32 0, .int .u32 1, .int .u32 2, .int .u32 2])).setIfInBounds 6 (.pointer (some ⟨gB, 0, none⟩))).setIfInBounds 7 (.pointer (some ⟨gC, 0, none⟩))), defers := D } wv from by
      intro wv gB gC hHeld lB zB lC zC ne
      refine hI.out _ _ _ _ ?_
      obtain ⟨rfl, rfl⟩ := Act.mk.inj hTD.out
      try simp only [Act.put, List.setIfInBounds_toArray, List.set_cons_zero, List.set_cons_succ]
      refine wpAnyH_ready (rs := [3]) (by kernel_rfl) (by simp) ?_
      refine AllReadyH.cons rfl (fun K hK => ?_) (AllReadyH.nil)
      · go_simp
        refine (D1.out _ _ _ (HT.out.below hHeld.2.out) nil4.out (by omega) om4 (r4.out.below hHeld.2.out)).mono ?_
        rintro e vv ⟨S6, rfl, oS_, h1'⟩
        have nB := hide (oS_.ne (.inl zB.out.lt))
        have nC := hide (oS_.ne (.inl zC.out.lt))
        have oS := hide (oS_.mono hHeld.2.out.size)
        replace zB := hide (zB.out.below h1')
        replace zC := hide (zC.out.below h1')
        refine hK.out _ _ (⟨hide (hHeld.1.out.below h1'), hide (bel_next hHeld.2.out h1')⟩) (fun hHeld => ?_)
        clear hK K h1'
        try simp only [Act.put, List.setIfInBounds_toArray, List.set_cons_zero, List.set_cons_succ]
        refine wpAnyH_takeD (i := 4) (d := (some 33)) (v := ?_) rfl rfl (by kernel_rfl) (by kernel_rfl) (by kernel_rfl) (fun _ _ _ h => h) (Or.inl ⟨by rfl, ?_⟩) (by assumption) ?_
        rotate_left
        · ((intro w hSw; go_simp) <;> with_reducible rfl)
        try simp only [Act.put, List.setIfInBounds_toArray, List.set_cons_zero, List.set_cons_succ]
        refine wpAnyH_takeD (i := 5) (d := (some 38)) (v := ?_) rfl rfl (by kernel_rfl) (by kernel_rfl) (by kernel_rfl) (fun _ _ _ h => h) (Or.inl ⟨by rfl, ?_⟩) (by assumption) ?_
        rotate_left
        · ((intro w hSw; go_simp) <;> with_reducible rfl)
        try simp only [Act.put, List.setIfInBounds_toArray, List.set_cons_zero, List.set_cons_succ]
        refine wpAnyH_takeD (i := 6) (d := (some 39)) (v := ?_) rfl rfl (by kernel_rfl) (by kernel_rfl) (by kernel_rfl) (fun _ _ _ h => h) (Or.inl ⟨by rfl, ?_⟩) (by assumption) ?_
        rotate_left
        · ((intro w hSw; go_simp) <;> with_reducible rfl)
        try simp only [Act.put, List.setIfInBounds_toArray, List.set_cons_zero, List.set_cons_succ]
        refine hE.out _ _ _ _ ?_
        have hh := st211.out _ S6 gB gC hHeld lB zB lC zC ne oS nB nC
        try simp only [Act.put, List.setIfInBounds_toArray, List.set_cons_zero, List.set_cons_succ] at hh
        exact hh)
    have st110 := hide (show ∀ (wv : World) (gB : Nat), (Hid (Ro wv (g5) (#[.int .i64 2, .int .u32 0, .int .u32 2, .int .u32 0, .int .u32 1, .int .u32 2, .int .u32 2]) 28) ∧ Hid (Below u5.heap.size u5 wv)) → u5.heap.size ≤ gB → Hid (Ro wv gB #[.slice none 0 0, .slice none 0 0, .slice none 0 0, .slice none 0 0, .slice none 0 0, .slice none 0 0, .slice none 0 0] 34) → F 7 #[true, true, true, false, false, false, false, true, false, false, false] { tmps := ((((T.setIfInBounds 34 (.slice A4 21 c4)).setIfInBounds 35 (.agg #[.slice A4 21 c4, .int .i64 0, .int .i64 0, .int .i64 0])).setIfInBounds 36 (.agg #[.int .i64 2, .int .u32 0, .int .u32 2, .int .u32 0, .int .u32 1, .int .u32 2, .int .u32 2])).setIfInBounds 6 (.pointer (some ⟨gB, 0, none⟩))), defers := D } wv from by
      intro wv gB hHeld lB zB
      refine hI.out _ _ _ _ ?_
      obtain ⟨rfl, rfl⟩ := Act.mk.inj hTD.out
      try simp only [Act.put, List.setIfInBounds_toArray, List.set_cons_zero, List.set_cons_succ]
      refine wpAnyH_ready (rs := [3, 8]) (by kernel_rfl) (by simp) ?_
      refine AllReadyH.cons rfl (fun K hK => ?_) (AllReadyH.cons rfl (fun K hK => ?_) (AllReadyH.nil))
      · go_simp
        refine (D1.out _ _ _ (HT.out.below hHeld.2.out) nil4.out (by omega) om4 (r4.out.below hHeld.2.out)).mono ?_
        rintro e vv ⟨S6, rfl, oS_, h1'⟩
        have nB := hide (oS_.ne (.inl zB.out.lt))
        have oS := hide (oS_.mono hHeld.2.out.size)
        replace zB := hide (zB.out.below h1')
        refine hK.out _ _ (⟨hide (hHeld.1.out.below h1'), hide (bel_next hHeld.2.out h1')⟩) (fun hHeld => ?_)
        clear hK K h1'
        try simp only [Act.put, List.setIfInBounds_toArray, List.set_cons_zero, List.set_cons_succ]
        refine wpAnyH_takeD (i := 4) (d := (some 33)) (v := ?_) rfl rfl (by kernel_rfl) (by kernel_rfl) (by kernel_rfl) (fun _ _ _ h => h) (Or.inl ⟨by rfl, ?_⟩) (by assumption) ?_
        rotate_left
        · ((intro w hSw; go_simp) <;> with_reducible rfl)
        try simp only [Act.put, List.setIfInBounds_toArray, List.set_cons_zero, List.set_cons_succ]
        refine wpAnyH_takeD (i := 5) (d := (some 38)) (v := ?_) rfl rfl (by kernel_rfl) (by kernel_rfl) (by kernel_rfl) (fun _ _ _ h => h) (Or.inl ⟨by rfl, ?_⟩) (by assumption) ?_
        rotate_left
        · ((intro w hSw; go_simp) <;> with_reducible rfl)
        try simp only [Act.put, List.setIfInBounds_toArray, List.set_cons_zero, List.set_cons_succ]
        refine wpAnyH_takeD (i := 6) (d := (some 39)) (v := ?_) rfl rfl (by kernel_rfl) (by kernel_rfl) (by kernel_rfl) (fun _ _ _ h => h) (Or.inl ⟨by rfl, ?_⟩) (by assumption) ?_
        rotate_left
        · ((intro w hSw; go_simp) <;> with_reducible rfl)
        try simp only [Act.put, List.setIfInBounds_toArray, List.set_cons_zero, List.set_cons_succ]
        refine hE.out _ _ _ _ ?_
        have hh := st210.out _ S6 gB hHeld lB zB oS nB
        try simp only [Act.put, List.setIfInBounds_toArray, List.set_cons_zero, List.set_cons_succ] at hh
        exact hh
      · go_simp
        have lC := hHeld.2.out.size
        have zC := hide (Ro.new wv #[.slice none 0 0, .int .i64 0, .int .i64 0, .int .i64 0] 25)
        have ne := (show gB ≠ wv.heap.size from fun h => by have := zB.out.lt; omega)
        replace zB := hide (zB.out.alloc (.cells #[.slice none 0 0, .int .i64 0, .int .i64 0, .int .i64 0] 25))
        refine hK.out _ _ (⟨hide (hHeld.1.out.alloc _), hide (bl_alloc hHeld.2.out _)⟩) (fun hHeld => ?_)
        clear hK K
        try simp only [Act.put, List.setIfInBounds_toArray, List.set_cons_zero, List.set_cons_succ]
        refine hE.out _ _ _ _ ?_
        have hh := st111.out _ gB wv.heap.size hHeld lB zB lC zC ne
        try simp only [Act.put, List.setIfInBounds_toArray, List.set_cons_zero, List.set_cons_succ] at hh
        exact hh)
    have st101 := hide (show ∀ (wv : World) (gC : Nat), (Hid (Ro wv (g5) (#[.int .i64 2, .int .u32 0, .int .u32 2, .int .u32 0, .int .u32 1, .int .u32 2, .int .u32 2]) 28) ∧ Hid (Below u5.heap.size u5 wv)) → u5.heap.size ≤ gC → Hid (Ro wv gC #[.slice none 0 0, .int .i64 0, .int .i64 0, .int .i64 0] 25) → F 7 #[true, true, true, false, false, false, false, false, true, false, false] { tmps := ((((T.setIfInBounds 34 (.slice A4 21 c4)).setIfInBounds 35 (.agg #[.slice A4 21 c4, .int .i64 0, .int .i64 0, .int .i64 0])).setIfInBounds 36 (.agg #[.int .i64 2, .int .u32 0, .int .u32 2, .int .u32 0, .int .u32 1, .int .u32 2, .int .u32 2])).setIfInBounds 7 (.pointer (some ⟨gC, 0, none⟩))), defers := D } wv from by
      intro wv gC hHeld lC zC
      refine hI.out _ _ _ _ ?_
      obtain ⟨rfl, rfl⟩ := Act.mk.inj hTD.out
      try simp only [Act.put, List.setIfInBounds_toArray, List.set_cons_zero, List.set_cons_succ]
      refine wpAnyH_ready (rs := [3, 7]) (by kernel_rfl) (by simp) ?_
      refine AllReadyH.cons rfl (fun K hK => ?_) (AllReadyH.cons rfl (fun K hK => ?_) (AllReadyH.nil))
      · go_simp
        refine (D1.out _ _ _ (HT.out.below hHeld.2.out) nil4.out (by omega) om4 (r4.out.below hHeld.2.out)).mono ?_
        rintro e vv ⟨S6, rfl, oS_, h1'⟩
        have nC := hide (oS_.ne (.inl zC.out.lt))
        have oS := hide (oS_.mono hHeld.2.out.size)
        replace zC := hide (zC.out.below h1')
        refine hK.out _ _ (⟨hide (hHeld.1.out.below h1'), hide (bel_next hHeld.2.out h1')⟩) (fun hHeld => ?_)
        clear hK K h1'
        try simp only [Act.put, List.setIfInBounds_toArray, List.set_cons_zero, List.set_cons_succ]
        refine wpAnyH_takeD (i := 4) (d := (some 33)) (v := ?_) rfl rfl (by kernel_rfl) (by kernel_rfl) (by kernel_rfl) (fun _ _ _ h => h) (Or.inl ⟨by rfl, ?_⟩) (by assumption) ?_
        rotate_left
        · ((intro w hSw; go_simp) <;> with_reducible rfl)
        try simp only [Act.put, List.setIfInBounds_toArray, List.set_cons_zero, List.set_cons_succ]
        refine wpAnyH_takeD (i := 5) (d := (some 38)) (v := ?_) rfl rfl (by kernel_rfl) (by kernel_rfl) (by kernel_rfl) (fun _ _ _ h => h) (Or.inl ⟨by rfl, ?_⟩) (by assumption) ?_
        rotate_left
        · ((intro w hSw; go_simp) <;> with_reducible rfl)
        try simp only [Act.put, List.setIfInBounds_toArray, List.set_cons_zero, List.set_cons_succ]
        refine wpAnyH_takeD (i := 6) (d := (some 39)) (v := ?_) rfl rfl (by kernel_rfl) (by kernel_rfl) (by kernel_rfl) (fun _ _ _ h => h) (Or.inl ⟨by rfl, ?_⟩) (by assumption) ?_
        rotate_left
        · ((intro w hSw; go_simp) <;> with_reducible rfl)
        try simp only [Act.put, List.setIfInBounds_toArray, List.set_cons_zero, List.set_cons_succ]
        refine hE.out _ _ _ _ ?_
        have hh := st201.out _ S6 gC hHeld lC zC oS nC
        try simp only [Act.put, List.setIfInBounds_toArray, List.set_cons_zero, List.set_cons_succ] at hh
        exact hh
      · go_simp
        have lB := hHeld.2.out.size
        have zB := hide (Ro.new wv #[.slice none 0 0, .slice none 0 0, .slice none 0 0, .slice none 0 0, .slice none 0 0, .slice none 0 0, .slice none 0 0] 34)
        have ne := (show wv.heap.size ≠ gC from fun h => by have := zC.out.lt; omega)
        replace zC := hide (zC.out.alloc (.cells #[.slice none 0 0, .slice none 0 0, .slice none 0 0, .slice none 0 0, .slice none 0 0, .slice none 0 0, .slice none 0 0] 34))
        refine hK.out _ _ (⟨hide (hHeld.1.out.alloc _), hide (bl_alloc hHeld.2.out _)⟩) (fun hHeld => ?_)
        clear hK K
        try simp only [Act.put, List.setIfInBounds_toArray, List.set_cons_zero, List.set_cons_succ]
        refine hE.out _ _ _ _ ?_
        have hh := st111.out _ wv.heap.size gC hHeld lB zB lC zC ne
        try simp only [Act.put, List.setIfInBounds_toArray, List.set_cons_zero, List.set_cons_succ] at hh
        exact hh)
    have st100 := hide (show ∀ (wv : World), (Hid (Ro wv (g5) (#[.int .i64 2, .int .u32 0, .int .u32 2, .int .u32 0, .int .u32 1, .int .u32 2, .int .u32 2]) 28) ∧ Hid (Below u5.heap.size u5 wv)) → F 8 #[true, true, true, false, false, false, false, false, false, false, false] { tmps := (((T.setIfInBounds 34 (.slice A4 21 c4)).setIfInBounds 35 (.agg #[.slice A4 21 c4, .int .i64 0, .int .i64 0, .int .i64 0])).setIfInBounds 36 (.agg #[.int .i64 2, .int .u32 0, .int .u32 2, .int .u32 0, .int .u32 1, .int .u32 2, .int .u32 2])), defers := D } wv from by
      intro wv  hHeld 
      refine hI.out _ _ _ _ ?_
      obtain ⟨rfl, rfl⟩ := Act.mk.inj hTD.out
      try simp only [Act.put, List.setIfInBounds_toArray, List.set_cons_zero, List.set_cons_succ]
      refine wpAnyH_ready (rs := [3, 7, 8]) (by kernel_rfl) (by simp) ?_
      refine AllReadyH.cons rfl (fun K hK => ?_) (AllReadyH.cons rfl (fun K hK => ?_) (AllReadyH.cons rfl (fun K hK => ?_) (AllReadyH.nil)))
      · go_simp
        refine (D1.out _ _ _ (HT.out.below hHeld.2.out) nil4.out (by omega) om4 (r4.out.below hHeld.2.out)).mono ?_
        rintro e vv ⟨S6, rfl, oS_, h1'⟩
        have oS := hide (oS_.mono hHeld.2.out.size)
        refine hK.out _ _ (⟨hide (hHeld.1.out.below h1'), hide (bel_next hHeld.2.out h1')⟩) (fun hHeld => ?_)
        clear hK K h1'
        try simp only [Act.put, List.setIfInBounds_toArray, List.set_cons_zero, List.set_cons_succ]
        refine wpAnyH_takeD (i := 4) (d := (some 33)) (v := ?_) rfl rfl (by kernel_rfl) (by kernel_rfl) (by kernel_rfl) (fun _ _ _ h => h) (Or.inl ⟨by rfl, ?_⟩) (by assumption) ?_
        rotate_left
        · ((intro w hSw; go_simp) <;> with_reducible rfl)
        try simp only [Act.put, List.setIfInBounds_toArray, List.set_cons_zero, List.set_cons_succ]
        refine wpAnyH_takeD (i := 5) (d := (some 38)) (v := ?_) rfl rfl (by kernel_rfl) (by kernel_rfl) (by kernel_rfl) (fun _ _ _ h => h) (Or.inl ⟨by rfl, ?_⟩) (by assumption) ?_
        rotate_left
        · ((intro w hSw; go_simp) <;> with_reducible rfl)
        try simp only [Act.put, List.setIfInBounds_toArray, List.set_cons_zero, List.set_cons_succ]
        refine wpAnyH_takeD (i := 6) (d := (some 39)) (v := ?_) rfl rfl (by kernel_rfl) (by kernel_rfl) (by kernel_rfl) (fun _ _ _ h => h) (Or.inl ⟨by rfl, ?_⟩) (by assumption) ?_
        rotate_left
        · ((intro w hSw; go_simp) <;> with_reducible rfl)
        try simp only [Act.put, List.setIfInBounds_toArray, List.set_cons_zero, List.set_cons_succ]
        refine hE.out _ _ _ _ ?_
        have hh := st200.out _ S6 hHeld oS
        try simp only [Act.put, List.setIfInBounds_toArray, List.set_cons_zero, List.set_cons_succ] at hh
        exact hh
      · go_simp
        have lB := hHeld.2.out.size
        have zB := hide (Ro.new wv #[.slice none 0 0, .slice none 0 0, .slice none 0 0, .slice none 0 0, .slice none 0 0, .slice none 0 0, .slice none 0 0] 34)
        refine hK.out _ _ (⟨hide (hHeld.1.out.alloc _), hide (bl_alloc hHeld.2.out _)⟩) (fun hHeld => ?_)
        clear hK K
        try simp only [Act.put, List.setIfInBounds_toArray, List.set_cons_zero, List.set_cons_succ]
        refine hE.out _ _ _ _ ?_
        have hh := st110.out _ wv.heap.size hHeld lB zB
        try simp only [Act.put, List.setIfInBounds_toArray, List.set_cons_zero, List.set_cons_succ] at hh
        exact hh
      · go_simp
        have lC := hHeld.2.out.size
        have zC := hide (Ro.new wv #[.slice none 0 0, .int .i64 0, .int .i64 0, .int .i64 0] 25)
        refine hK.out _ _ (⟨hide (hHeld.1.out.alloc _), hide (bl_alloc hHeld.2.out _)⟩) (fun hHeld => ?_)
        clear hK K
        try simp only [Act.put, List.setIfInBounds_toArray, List.set_cons_zero, List.set_cons_succ]
        refine hE.out _ _ _ _ ?_
        have hh := st101.out _ wv.heap.size hHeld lC zC
        try simp only [Act.put, List.setIfInBounds_toArray, List.set_cons_zero, List.set_cons_succ] at hh
        exact hh)
    have st011 := hide (show ∀ (wv : World) (gB : Nat) (gC : Nat), (Hid (Ro wv (g5) (#[.int .i64 2, .int .u32 0, .int .u32 2, .int .u32 0, .int .u32 1, .int .u32 2, .int .u32 2]) 28) ∧ Hid (Below u5.heap.size u5 wv)) → u5.heap.size ≤ gB → Hid (Ro wv gB #[.slice none 0 0, .slice none 0 0, .slice none 0 0, .slice none 0 0, .slice none 0 0, .slice none 0 0, .slice none 0 0] 34) → u5.heap.size ≤ gC → Hid (Ro wv gC #[.slice none 0 0, .int .i64 0, .int .i64 0, .int .i64 0] 25) → gB ≠ gC → F 7 #[true, false, true, false, false, false, false, true, true, false, false] { tmps := ((((T.setIfInBounds 34 (.slice A4 21 c4)).setIfInBounds 36 (.agg #[.int .i64 2, .int .u32 0, .int .u32 2, .int .u32 0, .int .u32 1, .int .u32 2, .int .u32 2])).setIfInBounds 6 (.pointer (some ⟨gB, 0, none⟩))).setIfInBounds 7 (.pointer (some ⟨gC, 0, none⟩))), defers := D } wv from by
      intro wv gB gC hHeld lB zB lC zC ne
      refine hI.out _ _ _ _ ?_
      obtain ⟨rfl, rfl⟩ := Act.mk.inj hTD.out
      try simp only [Act.put, List.setIfInBounds_toArray, List.set_cons_zero, List.set_cons_succ]
      refine wpAnyH_ready (rs := [1]) (by kernel_rfl) (by simp) ?_
      refine AllReadyH.cons rfl (fun K hK => ?_) (AllReadyH.nil)
      · go_simp
        refine (cu_.New _ _ _ _).mono ?_
        rintro e vv ⟨rfl, h1'⟩
        replace zB := hide (zB.out.below h1')
        replace zC := hide (zC.out.below h1')
        refine hK.out _ _ (⟨hide (hHeld.1.out.below h1'), hide (bel_next hHeld.2.out h1')⟩) (fun hHeld => ?_)
        clear hK K h1'
        try simp only [Act.put, List.setIfInBounds_toArray, List.set_cons_zero, List.set_cons_succ]
        refine hE.out _ _ _ _ ?_
        have hh := st111.out _ gB gC hHeld lB zB lC zC ne
        try simp only [Act.put, List.setIfInBounds_toArray, List.set_cons_zero, List.set_cons_succ] at hh
        exact hh)
    have st010 := hide (show ∀ (wv : World) (gB : Nat), (Hid (Ro wv (g5) (#[.int .i64 2, .int .u32 0, .int .u32 2, .int .u32 0, .int .u32 1, .int .u32 2, .int .u32 2]) 28) ∧ Hid (Below u5.heap.size u5 wv)) → u5.heap.size ≤ gB → Hid (Ro wv gB #[.slice none 0 0, .slice none 0 0, .slice none 0 0, .slice none 0 0, .slice none 0 0, .slice none 0 0, .slice none 0 0] 34) → F 8 #[true, false, true, false, false, false, false, true, false, false, false] { tmps := (((T.setIfInBounds 34 (.slice A4 21 c4)).setIfInBounds 36 (.agg #[.int .i64 2, .int .u32 0, .int .u32 2, .int .u32 0, .int .u32 1, .int .u32 2, .int .u32 2])).setIfInBounds 6 (.pointer (some ⟨gB, 0, none⟩))), defers := D } wv from by
      intro wv gB hHeld lB zB
      refine hI.out _ _ _ _ ?_
      obtain ⟨rfl, rfl⟩ := Act.mk.inj hTD.out
      try simp only [Act.put, List.setIfInBounds_toArray, List.set_cons_zero, List.set_cons_succ]
      refine wpAnyH_ready (rs := [1, 8]) (by kernel_rfl) (by simp) ?_
      refine AllReadyH.cons rfl (fun K hK => ?_) (AllReadyH.cons rfl (fun K hK => ?_) (AllReadyH.nil))
      · go_simp
        refine (cu_.New _ _ _ _).mono ?_
        rintro e vv ⟨rfl, h1'⟩
        replace zB := hide (zB.out.below h1')
        refine hK.out _ _ (⟨hide (hHeld.1.out.below h1'), hide (bel_next hHeld.2.out h1')⟩) (fun hHeld => ?_)
        clear hK K h1'
        try simp only [Act.put, List.setIfInBounds_toArray, List.set_cons_zero, List.set_cons_succ]
        refine hE.out _ _ _ _ ?_
        have hh := st110.out _ gB hHeld lB zB
        try simp only [Act.put, List.setIfInBounds_toArray, List.set_cons_zero, List.set_cons_succ] at hh
        exact hh
      · go_simp
        have lC := hHeld.2.out.size
        have zC := hide (Ro.new wv #[.slice none 0 0, .int .i64 0, .int .i64 0, .int .i64 0] 25)
        have ne := (show gB ≠ wv.heap.size from fun h => by have := zB.out.lt; omega)
        replace zB := hide (zB.out.alloc (.cells #[.slice none 0 0, .int .i64 0, .int .i64 0, .int .i64 0] 25))
        refine hK.out _ _ (⟨hide (hHeld.1.out.alloc _), hide (bl_alloc hHeld.2.out _)⟩) (fun hHeld => ?_)
        clear hK K
        try simp only [Act.put, List.setIfInBounds_toArray, List.set_cons_zero, List.set_cons_succ]
        refine hE.out _ _ _ _ ?_
        have hh := st011.out _ gB wv.heap.size hHeld lB zB lC zC ne
        try simp only [Act.put, List.setIfInBounds_toArray, List.set_cons_zero, List.set_cons_succ] at hh
        exact hh)
    have st001 := hide (show ∀ (wv : World) (gC : Nat), (Hid (Ro wv (g5) (#[.int .i64 2, .int .u32 0, .int .u32 2, .int .u32 0, .int .u32 1, .int .u32 2, .int .u32 2]) 28) ∧ Hid (Below u5.heap.size u5 wv)) → u5.heap.size ≤ gC → Hid (Ro wv gC #[.slice none 0 0, .int .i64 0, .int .i64 0, .int .i64 0] 25) → F 8 #[true, false, true, false, false, false, false, false, true, false, false] { tmps := (((T.setIfInBounds 34 (.slice A4 21 c4)).setIfInBounds 36 (.agg #[.int .i64 2, .int .u32 0, .int .u32 2, .int .u32 0, .int .u32 1, .int .u32 2, .int .u32 2])).setIfInBounds 7 (.pointer (some ⟨gC, 0, none⟩))), defers := D } wv from by
      intro wv gC hHeld lC zC
      refine hI.out _ _ _ _ ?_
      obtain ⟨rfl, rfl⟩ := Act.mk.inj hTD.out
      try simp only [Act.put, List.setIfInBounds_toArray, List.set_cons_zero, List.set_cons_succ]
      refine wpAnyH_ready (rs := [1, 7]) (by kernel_rfl) (by simp) ?_
      refine AllReadyH.cons rfl (fun K hK => ?_) (AllReadyH.cons rfl (fun K hK => ?_) (AllReadyH.nil))
      · go_simp
        refine (cu_.New _ _ _ _).mono ?_
        rintro e vv ⟨rfl, h1'⟩
        replace zC := hide (zC.out.below h1')
        refine hK.out _ _ (⟨hide (hHeld.1.out.below h1'), hide (bel_next hHeld.2.out h1')⟩) (fun hHeld => ?_)
        clear hK K h1'
        try simp only [Act.put, List.setIfInBounds_toArray, List.set_cons_zero, List.set_cons_succ]
        refine hE.out _ _ _ _ ?_
        have hh := st101.out _ gC hHeld lC zC
        try simp only [Act.put, List.setIfInBounds_toArray, List.set_cons_zero, List.set_cons_succ] at hh
        exact hh
      · go_simp
        have lB := hHeld.2.out.size
        have zB := hide (Ro.new wv #[.slice none 0 0, .slice none 0 0, .slice none 0 0, .slice none 0 0, .slice none 0 0, .slice none 0 0, .slice none 0 0] 34)
        have ne := (show wv.heap.size ≠ gC from fun h => by have := zC.out.lt; omega)
        replace zC := hide (zC.out.alloc (.cells #[.slice none 0 0, .slice none 0 0, .slice none 0 0, .slice none 0 0, .slice none 0 0, .slice none 0 0, .slice none 0 0] 34))
        refine hK.out _ _ (⟨hide (hHeld.1.out.alloc _), hide (bl_alloc hHeld.2.out _)⟩) (fun hHeld => ?_)
        clear hK K
        try simp only [Act.put, List.setIfInBounds_toArray, List.set_cons_zero, List.set_cons_succ]
        refine hE.out _ _ _ _ ?_
        have hh := st011.out _ wv.heap.size gC hHeld lB zB lC zC ne
        try simp only [Act.put, List.setIfInBounds_toArray, List.set_cons_zero, List.set_cons_succ] at hh
        exact hh)
    have st000 := hide (show ∀ (wv : World), (Hid (Ro wv (g5) (#[.int .i64 2, .int .u32 0, .int .u32 2, .int .u32 0, .int .u32 1, .int .u32 2, .int .u32 2]) 28) ∧ Hid (Below u5.heap.size u5 wv)) → F 9 #[true, false, true, false, false, false, false, false, false, false, false] { tmps := ((T.setIfInBounds 34 (.slice A4 21 c4)).setIfInBounds 36 (.agg #[.int .i64 2, .int .u32 0, .int .u32 2, .int .u32 0, .int .u32 1, .int .u32 2, .int .u32 2])), defers := D } wv from by
      intro wv  hHeld 
      refine hI.out _ _ _ _ ?_
      obtain ⟨rfl, rfl⟩ := Act.mk.inj hTD.out
      try simp only [Act.put, List.setIfInBounds_toArray, List.set_cons_zero, List.set_cons_succ]
      refine wpAnyH_ready (rs := [1, 7, 8]) (by kernel_rfl) (by simp) ?_
      refine AllReadyH.cons rfl (fun K hK => ?_) (AllReadyH.cons rfl (fun K hK => ?_) (AllReadyH.cons rfl (fun K hK => ?_) (AllReadyH.nil)))
      · go_simp
        refine (cu_.New _ _ _ _).mono ?_
        rintro e vv ⟨rfl, h1'⟩
        refine hK.out _ _ (⟨hide (hHeld.1.out.below h1'), hide (bel_next hHeld.2.out h1')⟩) (fun hHeld => ?_)
        clear hK K h1'
        try simp only [Act.put, List.setIfInBounds_toArray, List.set_cons_zero, List.set_cons_succ]
        refine hE.out _ _ _ _ ?_
        have hh := st100.out _  hHeld
        try simp only [Act.put, List.setIfInBounds_toArray, List.set_cons_zero, List.set_cons_succ] at hh
        exact hh
      · go_simp
        have lB := hHeld.2.out.size
        have zB := hide (Ro.new wv #[.slice none 0 0, .slice none 0 0, .slice none 0 0, .slice none 0 0, .slice none 0 0, .slice none 0 0, .slice none 0 0] 34)
        refine hK.out _ _ (⟨hide (hHeld.1.out.alloc _), hide (bl_alloc hHeld.2.out _)⟩) (fun hHeld => ?_)
        clear hK K
        try simp only [Act.put, List.setIfInBounds_toArray, List.set_cons_zero, List.set_cons_succ]
        refine hE.out _ _ _ _ ?_
        have hh := st010.out _ wv.heap.size hHeld lB zB
        try simp only [Act.put, List.setIfInBounds_toArray, List.set_cons_zero, List.set_cons_succ] at hh
        exact hh
      · go_simp
        have lC := hHeld.2.out.size
        have zC := hide (Ro.new wv #[.slice none 0 0, .int .i64 0, .int .i64 0, .int .i64 0] 25)
        refine hK.out _ _ (⟨hide (hHeld.1.out.alloc _), hide (bl_alloc hHeld.2.out _)⟩) (fun hHeld => ?_)
        clear hK K
        try simp only [Act.put, List.setIfInBounds_toArray, List.set_cons_zero, List.set_cons_succ]
        refine hE.out _ _ _ _ ?_
        have hh := st001.out _ wv.heap.size hHeld lC zC
        try simp only [Act.put, List.setIfInBounds_toArray, List.set_cons_zero, List.set_cons_succ] at hh
        exact hh)
    have hh := st000.out _ hHeld
    obtain ⟨rfl, rfl⟩ := Act.mk.inj hTD.out
    try simp only [Act.put, List.setIfInBounds_toArray, List.set_cons_zero, List.set_cons_succ] at hh
    exact hh
  case rest =>
    rename World => wx6
    obtain ⟨gB6, gC6, S6, rfl, rfl, lB6, lC6, ne6, k6, k7, oS, -, -, h1⟩ := hcut
    replace h1 := h1.out
    replace k1 := hide (k1.out.below h1)
    replace i0 := hide (i0.out.below h1)
    replace r2 := hide (r2.out.below h1)
    replace k3 := hide (k3.out.below h1)
    replace i1 := hide (i1.out.below h1)
    replace r4 := hide (r4.out.below h1)
    replace k5 := hide (k5.out.below h1)
    replace HT := hide (HT.out.below h1)
    replace hb := hide (bel_next hb.out h1)
    clear h1
    have i6 := hide oS.out.is
    clear oS
    have s20 : (20 : Int) ≤ (c4 : Int) := by omega
    have r4b := hide (r4.out.take (k := 20) (by decide))
    have nil20 := hide (show A4 = none → 20 = 0 ∧ c4 = 0 from fun h => absurd (nil4.out h).1 (by decide))
    go_upto_region 9 with fail
    go_cut [8, 9] (fun s8 s9 wz => ∃ (gB gC : Nat) (S8 : BkS), s8 = .pointer (some ⟨gB, 0, none⟩) ∧ s9 = .pointer (some ⟨gC, 0, none⟩) ∧ wx6.heap.size ≤ gB ∧ wx6.heap.size ≤ gC ∧ gB ≠ gC ∧ Hid (Ro wz gB #[.slice S8.ti.A S8.ti.n S8.ti.c, .slice S8.ix.A S8.ix.n S8.ix.c, .slice S8.ty.A S8.ty.n S8.ty.c, .slice S8.ch.A S8.ch.n S8.ch.c, .slice S8.lp.A S8.lp.n S8.lp.c, .slice S8.sd.A S8.sd.n S8.sd.c, .slice S8.ut.A S8.ut.n S8.ut.c] 34) ∧ Hid (Ro wz gC #[.slice A4 20 c4, .int .i64 0, .int .i64 1, .int .i64 20] 25) ∧ Hid (OwBk wz wx6.heap.size S8 Bk.zero) ∧ Hid (NeS S8 gB) ∧ Hid (NeS S8 gC) ∧ Hid (Below wx6.heap.size wx6 wz))
    case first =>
      have lbx0 := (show g5 < wx6.heap.size from k5.out.lt)
      refine wp_region_held_drew (S := fun w' => Hid (Ro w' (g5) (#[.int .i64 2, .int .u32 0, .int .u32 2, .int .u32 0, .int .u32 1, .int .u32 2, .int .u32 2]) 28) ∧ Hid (Below wx6.heap.size wx6 w')) (by kernel_rfl) (⟨hide k5.out.drew, hide (bl_drew (bl_refl _))⟩) (fun hHeld => ?_)
      generalize wx6.drew = u0 at *
      refine wpAnyH_takeD (i := 0) (d := (some 41)) (v := ?_) rfl rfl (by kernel_rfl) (by kernel_rfl) (by kernel_rfl) (fun _ _ _ h => h) (Or.inl ⟨by rfl, ?_⟩) (by assumption) ?_
      rotate_left
      · ((intro w hSw; go_simp) <;> with_reducible rfl)
      try simp only [Act.put, List.setIfInBounds_toArray, List.set_cons_zero, List.set_cons_succ]
      refine wpAnyH_takeD (i := 1) (d := (some 42)) (v := ?_) rfl rfl (by kernel_rfl) (by kernel_rfl) (by kernel_rfl) (fun _ _ _ h => h) (Or.inl ⟨by rfl, ?_⟩) (by assumption) ?_
      rotate_left
      · ((intro w hSw; go_simp) <;> with_reducible rfl)
      try simp only [Act.put, List.setIfInBounds_toArray, List.set_cons_zero, List.set_cons_succ]
      refine wpAnyH_takeD (i := 3) (d := (some 44)) rfl rfl (by kernel_rfl) (by kernel_rfl) (by kernel_rfl) (fun _ _ _ h => h) (yieldsIf_load_row (by rfl) 28 _ rfl (g5) rfl 28 #[.int .i64 2, .int .u32 0, .int .u32 2, .int .u32 0, .int .u32 1, .int .u32 2, .int .u32 2] _ (fun w hw => hw.1.out) Tryz.underlying28 rfl (by kernel_rfl)) (by assumption) ?_
      try simp only [Act.put, List.setIfInBounds_toArray, List.set_cons_zero, List.set_cons_succ]
      refine wpAnyH_share (fun F hI hE T D hTD => ?_)
      have st211 := hide (show ∀ (wv : World) (S8 : BkS) (gB : Nat) (gC : Nat), (Hid (Ro wv (g5) (#[.int .i64 2, .int .u32 0, .int .u32 2, .int .u32 0, .int .u32 1, .int .u32 2, .int .u32 2]) 28) ∧ Hid (Below wx6.heap.size wx6 wv)) → wx6.heap.size ≤ gB → Hid (Ro wv gB #[.slice none 0 0, .slice none 0 0, .slice none 0 0, .slice none 0 0, .slice none 0 0, .slice none 0 0, .slice none 0 0] 34) → wx6.heap.size ≤ gC → Hid (Ro wv gC #[.slice none 0 0, .int .i64 0, .int .i64 0, .int .i64 0] 25) → gB ≠ gC → Hid (OwBk wv wx6.heap.size S8 Bk.zero) → Hid (NeS S8 gB) → Hid (NeS S8 gC) → F 2 #[true, true, true, true, true, true, true, true, true, true, false, false] { tmps := ((((((((((T.setIfInBounds 41 (.slice A4 21 c4)).setIfInBounds 42 (.slice A4 20 c4)).setIfInBounds 43 (.agg #[.slice A4 20 c4, .int .i64 0, .int .i64 0, .int .i64 0])).setIfInBounds 44 (.agg #[.int .i64 2, .int .u32 0, .int .u32 2, .int .u32 0, .int .u32 1, .int .u32 2, .int .u32 2])).setIfInBounds 45 (.tuple #[.agg #[.slice S8.ti.A S8.ti.n S8.ti.c, .slice S8.ix.A S8.ix.n S8.ix.c, .slice S8.ty.A S8.ty.n S8.ty.c, .slice S8.ch.A S8.ch.n S8.ch.c, .slice S8.lp.A S8.lp.n S8.lp.c, .slice S8.sd.A S8.sd.n S8.sd.c, .slice S8.ut.A S8.ut.n S8.ut.c], .agg #[.slice A4 20 c4, .int .i64 0, .int .i64 1, .int .i64 20]])).setIfInBounds 40 (.tuple #[.agg #[.slice S8.ti.A S8.ti.n S8.ti.c, .slice S8.ix.A S8.ix.n S8.ix.c, .slice S8.ty.A S8.ty.n S8.ty.c, .slice S8.ch.A S8.ch.n S8.ch.c, .slice S8.lp.A S8.lp.n S8.lp.c, .slice S8.sd.A S8.sd.n S8.sd.c, .slice S8.ut.A S8.ut.n S8.ut.c], .agg #[.slice A4 20 c4, .int .i64 0, .int .i64 1, .int .i64 20]])).setIfInBounds 46 (.agg #[.slice S8.ti.A S8.ti.n S8.ti.c, .slice S8.ix.A S8.ix.n S8.ix.c, .slice S8.ty.A S8.ty.n S8.ty.c, .slice S8.ch.A S8.ch.n S8.ch.c, .slice S8.lp.A S8.lp.n S8.lp.c, .slice S8.sd.A S8.sd.n S8.sd.c, .slice S8.ut.A S8.ut.n S8.ut.c])).setIfInBounds 47 (.agg #[.slice A4 20 c4, .int .i64 0, .int .i64 1, .int .i64 20])).setIfInBounds 8 (.pointer (some ⟨gB, 0, none⟩))).setIfInBounds 9 (.pointer (some ⟨gC, 0, none⟩))), defers := D } wv from by
        intro wv S8 gB gC hHeld lB zB lC zC ne oS nB nC
        refine hI.out _ _ _ _ ?_
        obtain ⟨rfl, rfl⟩ := Act.mk.inj hTD.out
        try simp only [Act.put, List.setIfInBounds_toArray, List.set_cons_zero, List.set_cons_succ]
        refine wpAnyH_ready (rs := [10]) (by kernel_rfl) (by simp) ?_
        refine AllReadyH.cons rfl (fun K hK => ?_) (AllReadyH.nil)
        obtain ⟨y0, w0⟩ := ro_cf zB.out 0 _ rfl; obtain ⟨y1, w1⟩ := ro_cf zB.out 1 _ rfl; obtain ⟨y2, w2⟩ := ro_cf zB.out 2 _ rfl; obtain ⟨y3, w3⟩ := ro_cf zB.out 3 _ rfl; obtain ⟨y4, w4⟩ := ro_cf zB.out 4 _ rfl; obtain ⟨y5, w5⟩ := ro_cf zB.out 5 _ rfl; obtain ⟨y6, w6⟩ := ro_cf zB.out 6 _ rfl
        have su := hHeld.2.out.size
        have lb0 := hHeld.1.out.lt
        go_simp
        refine hK.out _ _ (⟨hide (ro_away7 (g' := gB) (x0 := .slice S8.ti.A S8.ti.n S8.ti.c) (x1 := .slice S8.ix.A S8.ix.n S8.ix.c) (x2 := .slice S8.ty.A S8.ty.n S8.ty.c) (x3 := .slice S8.ch.A S8.ch.n S8.ch.c) (x4 := .slice S8.lp.A S8.lp.n S8.lp.c) (x5 := .slice S8.sd.A S8.sd.n S8.sd.c) (x6 := .slice S8.ut.A S8.ut.n S8.ut.c) hHeld.1.out (by have := lbx0; omega)), hide (bl_setx7 (g := gB) (x0 := .slice S8.ti.A S8.ti.n S8.ti.c) (x1 := .slice S8.ix.A S8.ix.n S8.ix.c) (x2 := .slice S8.ty.A S8.ty.n S8.ty.c) (x3 := .slice S8.ch.A S8.ch.n S8.ch.c) (x4 := .slice S8.lp.A S8.lp.n S8.lp.c) (x5 := .slice S8.sd.A S8.sd.n S8.sd.c) (x6 := .slice S8.ut.A S8.ut.n S8.ut.c) hHeld.2.out lB)⟩) (fun hHeld => ?_)
        clear hK K y0 w0 y1 w1 y2 w2 y3 w3 y4 w4 y5 w5 y6 w6
        replace zB := hide (ro_set7' (x0 := .slice S8.ti.A S8.ti.n S8.ti.c) (x1 := .slice S8.ix.A S8.ix.n S8.ix.c) (x2 := .slice S8.ty.A S8.ty.n S8.ty.c) (x3 := .slice S8.ch.A S8.ch.n S8.ch.c) (x4 := .slice S8.lp.A S8.lp.n S8.lp.c) (x5 := .slice S8.sd.A S8.sd.n S8.sd.c) (x6 := .slice S8.ut.A S8.ut.n S8.ut.c) zB.out)
        replace zC := hide (ro_away7 (g' := gB) (x0 := .slice S8.ti.A S8.ti.n S8.ti.c) (x1 := .slice S8.ix.A S8.ix.n S8.ix.c) (x2 := .slice S8.ty.A S8.ty.n S8.ty.c) (x3 := .slice S8.ch.A S8.ch.n S8.ch.c) (x4 := .slice S8.lp.A S8.lp.n S8.lp.c) (x5 := .slice S8.sd.A S8.sd.n S8.sd.c) (x6 := .slice S8.ut.A S8.ut.n S8.ut.c) zC.out (by omega))
        replace oS := hide (oS.out.away7 nB.out (.slice S8.ti.A S8.ti.n S8.ti.c) (.slice S8.ix.A S8.ix.n S8.ix.c) (.slice S8.ty.A S8.ty.n S8.ty.c) (.slice S8.ch.A S8.ch.n S8.ch.c) (.slice S8.lp.A S8.lp.n S8.lp.c) (.slice S8.sd.A S8.sd.n S8.sd.c) (.slice S8.ut.A S8.ut.n S8.ut.c))
        generalize (((((((wv.setCell ⟨gB, 0, none⟩ (.slice S8.ti.A S8.ti.n S8.ti.c)).setCell ⟨gB, 1, none⟩ (.slice S8.ix.A S8.ix.n S8.ix.c)).setCell ⟨gB, 2, none⟩ (.slice S8.ty.A S8.ty.n S8.ty.c)).setCell ⟨gB, 3, none⟩ (.slice S8.ch.A S8.ch.n S8.ch.c)).setCell ⟨gB, 4, none⟩ (.slice S8.lp.A S8.lp.n S8.lp.c)).setCell ⟨gB, 5, none⟩ (.slice S8.sd.A S8.sd.n S8.sd.c)).setCell ⟨gB, 6, none⟩ (.slice S8.ut.A S8.ut.n S8.ut.c)) = wv1 at *
        try simp only [Act.put, List.setIfInBounds_toArray, List.set_cons_zero, List.set_cons_succ]
        refine wpAnyH_ready (rs := [11]) (by kernel_rfl) (by simp) ?_
        refine AllReadyH.cons rfl (fun K hK => ?_) (AllReadyH.nil)
        obtain ⟨y0, w0⟩ := ro_cf zC.out 0 _ rfl; obtain ⟨y1, w1⟩ := ro_cf zC.out 1 _ rfl; obtain ⟨y2, w2⟩ := ro_cf zC.out 2 _ rfl; obtain ⟨y3, w3⟩ := ro_cf zC.out 3 _ rfl
        have su := hHeld.2.out.size
        have lb0 := hHeld.1.out.lt
        go_simp
        refine hK.out _ _ (⟨hide (ro_away4 (g' := gC) (x0 := .slice A4 20 c4) (x1 := .int .i64 0) (x2 := .int .i64 1) (x3 := .int .i64 20) hHeld.1.out (by have := lbx0; omega)), hide (bl_setx4 (g := gC) (x0 := .slice A4 20 c4) (x1 := .int .i64 0) (x2 := .int .i64 1) (x3 := .int .i64 20) hHeld.2.out lC)⟩) (fun hHeld => ?_)
        clear hK K y0 w0 y1 w1 y2 w2 y3 w3
        replace zC := hide (ro_set4' (x0 := .slice A4 20 c4) (x1 := .int .i64 0) (x2 := .int .i64 1) (x3 := .int .i64 20) zC.out)
        replace zB := hide (ro_away4 (g' := gC) (x0 := .slice A4 20 c4) (x1 := .int .i64 0) (x2 := .int .i64 1) (x3 := .int .i64 20) zB.out (by omega))
        replace oS := hide (oS.out.away4 nC.out (.slice A4 20 c4) (.int .i64 0) (.int .i64 1) (.int .i64 20))
        generalize ((((wv1.setCell ⟨gC, 0, none⟩ (.slice A4 20 c4)).setCell ⟨gC, 1, none⟩ (.int .i64 0)).setCell ⟨gC, 2, none⟩ (.int .i64 1)).setCell ⟨gC, 3, none⟩ (.int .i64 20)) = wv2 at *
        try simp only [Act.put, List.setIfInBounds_toArray, List.set_cons_zero, List.set_cons_succ]
        refine wpAnyH_done (by kernel_rfl) ?_ _
        go_wp2_with fail
        go_meet
        exact ⟨gB, gC, S8, rfl, rfl, lB, lC, ne, zB, zC, oS, nB, nC, hHeld.2⟩)
      have st210 := hide (show ∀ (wv : World) (S8 : BkS) (gB : Nat), (Hid (Ro wv (g5) (#[.int .i64 2, .int .u32 0, .int .u32 2, .int .u32 0, .int .u32 1, .int .u32 2, .int .u32 2]) 28) ∧ Hid (Below wx6.heap.size wx6 wv)) → wx6.heap.size ≤ gB → Hid (Ro wv gB #[.slice none 0 0, .slice none 0 0, .slice none 0 0, .slice none 0 0, .slice none 0 0, .slice none 0 0, .slice none 0 0] 34) → Hid (OwBk wv wx6.heap.size S8 Bk.zero) → Hid (NeS S8 gB) → F 3 #[true, true, true, true, true, true, true, true, true, false, false, false] { tmps := (((((((((T.setIfInBounds 41 (.slice A4 21 c4)).setIfInBounds 42 (.slice A4 20 c4)).setIfInBounds 43 (.agg #[.slice A4 20 c4, .int .i64 0, .int .i64 0, .int .i64 0])).setIfInBounds 44 (.agg #[.int .i64 2, .int .u32 0, .int .u32 2, .int .u32 0, .int .u32 1, .int .u32 2, .int .u32 2])).setIfInBounds 45 (.tuple #[.agg #[.slice S8.ti.A S8.ti.n S8.ti.c, .slice S8.ix.A S8.ix.n S8.ix.c, .slice S8.ty.A S8.ty.n S8.ty.c, .slice S8.ch.A S8.ch.n S8.ch.c, .slice S8.lp.A S8.lp.n S8.lp.c, .slice S8.sd.A S8.sd.n S8.sd.c, .slice S8.ut.A S8.ut.n S8.ut.c], .agg #[.slice A4 20 c4, .int .i64 0, .int .i64 1, .int .i64 20]])).setIfInBounds 40 (.tuple #[.agg #[.slice S8.ti.A S8.ti.n S8.ti.c, .slice S8.ix.A S8.ix.n S8.ix.c, .slice S8.ty.A S8.ty.n S8.ty.c, .slice S8.ch.A S8.ch.n S8.ch.c, .slice S8.lp.A S8.lp.n S8.lp.c, .slice S8.sd.A S8.sd.n S8.sd.c, .slice S8.ut.A S8.ut.n S8.ut.c], .agg #[.slice A4 20 c4, .int .i64 0, .int .i64 1, .int .i64 20]])).setIfInBounds 46 (.agg #[.slice S8.ti.A S8.ti.n S8.ti.c, .slice S8.ix.A S8.ix.n S8.ix.c, .slice S8.ty.A S8.ty.n S8.ty.c, .slice S8.ch.A S8.ch.n S8.ch.c, .slice S8.lp.A S8.lp.n S8.lp.c, .slice S8.sd.A S8.sd.n S8.sd.c, .slice S8.ut.A S8.ut.n S8.ut.c])).setIfInBounds 47 (.agg #[.slice A4 20 c4, .int .i64 0, .int .i64 1, .int .i64 20])).setIfInBounds 8 (.pointer (some ⟨gB, 0, none⟩))), defers := D } wv from by
        intro wv S8 gB hHeld lB zB oS nB
        refine hI.out _ _ _ _ ?_
        obtain ⟨rfl, rfl⟩ := Act.mk.inj hTD.out
        try simp only [Act.put, List.setIfInBounds_toArray, List.set_cons_zero, List.set_cons_succ]
        refine wpAnyH_ready (rs := [9]) (by kernel_rfl) (by simp) ?_
        refine AllReadyH.cons rfl (fun K hK => ?_) (AllReadyH.nil)
        · go_simp
          have lC := hHeld.2.out.size
          have zC := hide (Ro.new wv #[.slice none 0 0, .int .i64 0, .int .i64 0, .int .i64 0] 25)
          have ne := (show gB ≠ wv.heap.size from fun h => by have := zB.out.lt; omega)
          replace zB := hide (zB.out.alloc (.cells #[.slice none 0 0, .int .i64 0, .int .i64 0, .int .i64 0] 25))
          have nC := hide (oS.out.ne (g := wv.heap.size) (.inr (Nat.le_refl _)))
          replace oS := hide (oS.out.below (bl_new _ (.cells #[.slice none 0 0, .int .i64 0, .int .i64 0, .int .i64 0] 25)))
          refine hK.out _ _ (⟨hide (hHeld.1.out.alloc _), hide (bl_alloc hHeld.2.out _)⟩) (fun hHeld => ?_)
          clear hK K
          try simp only [Act.put, List.setIfInBounds_toArray, List.set_cons_zero, List.set_cons_succ]
          refine hE.out _ _ _ _ ?_
          have hh := st211.out _ S8 gB wv.heap.size hHeld lB zB lC zC ne oS nB nC
          try simp only [Act.put, List.setIfInBounds_toArray, List.set_cons_zero, List.set_cons_succ] at hh
          exact hh)
      have st201 := hide (show ∀ (wv : World) (S8 : BkS) (gC : Nat), (Hid (Ro wv (g5) (#[.int .i64 2, .int .u32 0, .int .u32 2, .int .u32 0, .int .u32 1, .int .u32 2, .int .u32 2]) 28) ∧ Hid (Below wx6.heap.size wx6 wv)) → wx6.heap.size ≤ gC → Hid (Ro wv gC #[.slice none 0 0, .int .i64 0, .int .i64 0, .int .i64 0] 25) → Hid (OwBk wv wx6.heap.size S8 Bk.zero) → Hid (NeS S8 gC) → F 3 #[true, true, true, true, true, true, true, true, false, true, false, false] { tmps := (((((((((T.setIfInBounds 41 (.slice A4 21 c4)).setIfInBounds 42 (.slice A4 20 c4)).setIfInBounds 43 (.agg #[.slice A4 20 c4, .int .i64 0, .int .i64 0, .int .i64 0])).setIfInBounds 44 (.agg #[.int .i64 2, .int .u32 0, .int .u32 2, .int .u32 0, .int .u32 1, .int .u32 2, .int .u32 2])).setIfInBounds 45 (.tuple #[.agg #[.slice S8.ti.A S8.ti.n S8.ti.c, .slice S8.ix.A S8.ix.n S8.ix.c, .slice S8.ty.A S8.ty.n S8.ty.c, .slice S8.ch.A S8.ch.n S8.ch.c, .slice S8.lp.A S8.lp.n S8.lp.c, .slice S8.sd.A S8.sd.n S8.sd.c, .slice S8.ut.A S8.ut.n S8.ut.c], .agg #[.slice A4 20 c4, .int .i64 0, .int .i64 1, .int .i64 20]])).setIfInBounds 40 (.tuple #[.agg #[.slice S8.ti.A S8.ti.n S8.ti.c, .slice S8.ix.A S8.ix.n S8.ix.c, .slice S8.ty.A S8.ty.n S8.ty.c, .slice S8.ch.A S8.ch.n S8.ch.c, .slice S8.lp.A S8.lp.n S8.lp.c, .slice S8.sd.A S8.sd.n S8.sd.c, .slice S8.ut.A S8.ut.n S8.ut.c], .agg #[.slice A4 20 c4, .int .i64 0, .int .i64 1, .int .i64 20]])).setIfInBounds 46 (.agg #[.slice S8.ti.A S8.ti.n S8.ti.c, .slice S8.ix.A S8.ix.n S8.ix.c, .slice S8.ty.A S8.ty.n S8.ty.c, .slice S8.ch.A S8.ch.n S8.ch.c, .slice S8.lp.A S8.lp.n S8.lp.c, .slice S8.sd.A S8.sd.n S8.sd.c, .slice S8.ut.A S8.ut.n S8.ut.c])).setIfInBounds 47 (.agg #[.slice A4 20 c4, .int .i64 0, .int .i64 1, .int .i64 20])).setIfInBounds 9 (.pointer (some ⟨gC, 0, none⟩))), defers := D } wv from by
        intro wv S8 gC hHeld lC zC oS nC
        refine hI.out _ _ _ _ ?_
        obtain ⟨rfl, rfl⟩ := Act.mk.inj hTD.out
        try simp only [Act.put, List.setIfInBounds_toArray, List.set_cons_zero, List.set_cons_succ]
        refine wpAnyH_ready (rs := [8]) (by kernel_rfl) (by simp) ?_
        refine AllReadyH.cons rfl (fun K hK => ?_) (AllReadyH.nil)
        · go_simp
          have lB := hHeld.2.out.size
          have zB := hide (Ro.new wv #[.slice none 0 0, .slice none 0 0, .slice none 0 0, .slice none 0 0, .slice none 0 0, .slice none 0 0, .slice none 0 0] 34)
          have ne := (show wv.heap.size ≠ gC from fun h => by have := zC.out.lt; omega)
          replace zC := hide (zC.out.alloc (.cells #[.slice none 0 0, .slice none 0 0, .slice none 0 0, .slice none 0 0, .slice none 0 0, .slice none 0 0, .slice none 0 0] 34))
          have nB := hide (oS.out.ne (g := wv.heap.size) (.inr (Nat.le_refl _)))
          replace oS := hide (oS.out.below (bl_new _ (.cells #[.slice none 0 0, .slice none 0 0, .slice none 0 0, .slice none 0 0, .slice none 0 0, .slice none 0 0, .slice none 0 0] 34)))
          refine hK.out _ _ (⟨hide (hHeld.1.out.alloc _), hide (bl_alloc hHeld.2.out _)⟩) (fun hHeld => ?_)
          clear hK K
          try simp only [Act.put, List.setIfInBounds_toArray, List.set_cons_zero, List.set_cons_succ]
          refine hE.out _ _ _ _ ?_
          have hh := st211.out _ S8 wv.heap.size gC hHeld lB zB lC zC ne oS nB nC
          try simp only [Act.put, List.setIfInBounds_toArray, List.set_cons_zero, List.set_cons_succ] at hh
          exact hh)
      have st200 := hide (show ∀ (wv : World) (S8 : BkS), (Hid (Ro wv (g5) (#[.int .i64 2, .int .u32 0, .int .u32 2, .int .u32 0, .int .u32 1, .int .u32 2, .int .u32 2]) 28) ∧ Hid (Below wx6.heap.size wx6 wv)) → Hid (OwBk wv wx6.heap.size S8 Bk.zero) → F 4 #[true, true, true, true, true, true, true, true, false, false, false, false] { tmps := ((((((((T.setIfInBounds 41 (.slice A4 21 c4)).setIfInBounds 42 (.slice A4 20 c4)).setIfInBounds 43 (.agg #[.slice A4 20 c4, .int .i64 0, .int .i64 0, .int .i64 0])).setIfInBounds 44 (.agg #[.int .i64 2, .int .u32 0, .int .u32 2, .int .u32 0, .int .u32 1, .int .u32 2, .int .u32 2])).setIfInBounds 45 (.tuple #[.agg #[.slice S8.ti.A S8.ti.n S8.ti.c, .slice S8.ix.A S8.ix.n S8.ix.c, .slice S8.ty.A S8.ty.n S8.ty.c, .slice S8.ch.A S8.ch.n S8.ch.c, .slice S8.lp.A S8.lp.n S8.lp.c, .slice S8.sd.A S8.sd.n S8.sd.c, .slice S8.ut.A S8.ut.n S8.ut.c], .agg #[.slice A4 20 c4, .int .i64 0, .int .i64 1, .int .i64 20]])).setIfInBounds 40 (.tuple #[.agg #[.slice S8.ti.A S8.ti.n S8.ti.c, .slice S8.ix.A S8.ix.n S8.ix.c, .slice S8.ty.A S8.ty.n S8.ty.c, .slice S8.ch.A S8.ch.n S8.ch.c, .slice S8.lp.A S8.lp.n S8.lp.c, .slice S8.sd.A S8.sd.n S8.sd.c, .slice S8.ut.A S8.ut.n S8.ut.c], .agg #[.slice A4 20 c4, .int .i64 0, .int .i64 1, .int .i64 20]])).setIfInBounds 46 (.agg #[.slice S8.ti.A S8.ti.n S8.ti.c, .slice S8.ix.A S8.ix.n S8.ix.c, .slice S8.ty.A S8.ty.n S8.ty.c, .slice S8.ch.A S8.ch.n S8.ch.c, .slice S8.lp.A S8.lp.n S8.lp.c, .slice S8.sd.A S8.sd.n S8.sd.c, .slice S8.ut.A S8.ut.n S8.ut.c])).setIfInBounds 47 (.agg #[.slice A4 20 c4, .int .i64 0, .int .i64 1, .int .i64 20])), defers := D } wv from by
        intro wv S8 hHeld oS
        refine hI.out _ _ _ _ ?_
        obtain ⟨rfl, rfl⟩ := Act.mk.inj hTD.out
        try simp only [Act.put, List.setIfInBounds_toArray, List.set_cons_zero, List.set_cons_succ]
        refine wpAnyH_ready (rs := [8, 9]) (by kernel_rfl) (by simp) ?_
        refine AllReadyH.cons rfl (fun K hK => ?_) (AllReadyH.cons rfl (fun K hK => ?_) (AllReadyH.nil))
        · go_simp
          have lB := hHeld.2.out.size
          have zB := hide (Ro.new wv #[.slice none 0 0, .slice none 0 0, .slice none 0 0, .slice none 0 0, .slice none 0 0, .slice none 0 0, .slice none 0 0] 34)
          have nB := hide (oS.out.ne (g := wv.heap.size) (.inr (Nat.le_refl _)))
          replace oS := hide (oS.out.below (bl_new _ (.cells #[.slice none 0 0, .slice none 0 0, .slice none 0 0, .slice none 0 0, .slice none 0 0, .slice none 0 0, .slice none 0 0] 34)))
          refine hK.out _ _ (⟨hide (hHeld.1.out.alloc _), hide (bl_alloc hHeld.2.out _)⟩) (fun hHeld => ?_)
          clear hK K
          try simp only [Act.put, List.setIfInBounds_toArray, List.set_cons_zero, List.set_cons_succ]
          refine hE.out _ _ _ _ ?_
          have hh := st210.out _ S8 wv.heap.size hHeld lB zB oS nB
          try simp only [Act.put, List.setIfInBounds_toArray, List.set_cons_zero, List.set_cons_succ] at hh
          exact hh
        · go_simp
          have lC := hHeld.2.out.size
          have zC := hide (Ro.new wv #[.slice none 0 0, .int .i64 0, .int .i64 0, .int .i64 0] 25)
          have nC := hide (oS.out.ne (g := wv.heap.size) (.inr (Nat.le_refl _)))
          replace oS := hide (oS.out.below (bl_new _ (.cells #[.slice none 0 0, .int .i64 0, .int .i64 0, .int .i64 0] 25)))
          refine hK.out _ _ (⟨hide (hHeld.1.out.alloc _), hide (bl_alloc hHeld.2.out _)⟩) (fun hHeld => ?_)
          clear hK K
          try simp only [Act.put, List.setIfInBounds_toArray, List.set_cons_zero, List.set_cons_succ]
          refine hE.out _ _ _ _ ?_
          have hh := st201.out _ S8 wv.heap.size hHeld lC zC oS nC
          try simp only [Act.put, List.setIfInBounds_toArray, List.set_cons_zero, List.set_cons_succ] at hh
          exact hh)
      have st111 := hide (show ∀ (wv : World) (gB : Nat) (gC : Nat), (Hid (Ro wv (g5) (#[.int .i64 2, .int .u32 0, .int .u32 2, .int .u32 0, .int .u32 1, .int .u32 2, .int .u32 2]) 28) ∧ Hid (Below wx6.heap.size wx6 wv)) → wx6.heap.size ≤ gB → Hid (Ro wv gB #[.slice none 0 0, .slice none 0 0, .slice none 0 0, .slice none 0 0, .slice none 0 0, .slice none 0 0, .slice none 0 0] 34) → wx6.heap.size ≤ gC → Hid (Ro wv gC #[.slice none 0 0, .int .i64 0, .int .i64 0, .int .i64 0] 25) → gB ≠ gC → F 6 #[true, true, true, true, false, false, false, false, true, true, false, false] { tmps := ((((((T.setIfInBounds 41 (.slice A4 21 c4)).setIfInBounds 42 (.slice A4 20 c4)).setIfInBounds 43 (.agg #[.slice A4 20 c4, .int .i64 0, .int .i64 0, .int .i64 0])).setIfInBounds 44 (.agg #[.int .i64 2, .int .u32 0, .int .u32 2, .int .u32 0, .int .u32 1, .int .u32 2, .int .u32 2])).setIfInBounds 8 (.pointer (some ⟨gB, 0, none⟩))).setIfInBounds 9 (.pointer (some ⟨gC, 0, none⟩))), defers := D } wv from by
        intro wv gB gC hHeld lB zB lC zC ne
        refine hI.out _ _ _ _ ?_
        obtain ⟨rfl, rfl⟩ := Act.mk.inj hTD.out
        try simp only [Act.put, List.setIfInBounds_toArray, List.set_cons_zero, List.set_cons_succ]
        refine wpAnyH_ready (rs := [4]) (by kernel_rfl) (by simp) ?_
        refine AllReadyH.cons rfl (fun K hK => ?_) (AllReadyH.nil)
        · go_simp
          refine (D2.out _ _ _ (HT.out.below hHeld.2.out) nil20.out (by omega) om4 (r4b.out.below hHeld.2.out)).mono ?_
          rintro e vv ⟨S8, rfl, oS_, h1'⟩
          have nB := hide (oS_.ne (.inl zB.out.lt))
          have nC := hide (oS_.ne (.inl zC.out.lt))
          have oS := hide (oS_.mono hHeld.2.out.size)
          replace zB := hide (zB.out.below h1')
          replace zC := hide (zC.out.below h1')
          refine hK.out _ _ (⟨hide (hHeld.1.out.below h1'), hide (bel_next hHeld.2.out h1')⟩) (fun hHeld => ?_)
          clear hK K h1'
          try simp only [Act.put, List.setIfInBounds_toArray, List.set_cons_zero, List.set_cons_succ]
          refine wpAnyH_takeD (i := 5) (d := (some 40)) (v := ?_) rfl rfl (by kernel_rfl) (by kernel_rfl) (by kernel_rfl) (fun _ _ _ h => h) (Or.inl ⟨by rfl, ?_⟩) (by assumption) ?_
          rotate_left
          · ((intro w hSw; go_simp) <;> with_reducible rfl)
          try simp only [Act.put, List.setIfInBounds_toArray, List.set_cons_zero, List.set_cons_succ]
          refine wpAnyH_takeD (i := 6) (d := (some 46)) (v := ?_) rfl rfl (by kernel_rfl) (by kernel_rfl) (by kernel_rfl) (fun _ _ _ h => h) (Or.inl ⟨by rfl, ?_⟩) (by assumption) ?_
          rotate_left
          · ((intro w hSw; go_simp) <;> with_reducible rfl)
          try simp only [Act.put, List.setIfInBounds_toArray, List.set_cons_zero, List.set_cons_succ]
          refine wpAnyH_takeD (i := 7) (d := (some 47)) (v := ?_) rfl rfl (by kernel_rfl) (by kernel_rfl) (by kernel_rfl) (fun _ _ _ h => h) (Or.inl ⟨by rfl, ?_⟩) (by assumption) ?_
          rotate_left
          · ((intro w hSw; go_simp) <;> with_reducible rfl)
          try simp only [Act.put, List.setIfInBounds_toArray, List.set_cons_zero, List.set_cons_succ]
          refine hE.out _ _ _ _ ?_
          have hh := st211.out _ S8 gB gC hHeld lB zB lC zC ne oS nB nC
          try simp only [Act.put, List.setIfInBounds_toArray, List.set_cons_zero, List.set_cons_succ] at hh
          exact hh)
      have st110 := hide (show ∀ (wv : World) (gB : Nat), (Hid (Ro wv (g5) (#[.int .i64 2, .int .u32 0, .int .u32 2, .int .u32 0, .int .u32 1, .int .u32 2, .int .u32 2]) 28) ∧ Hid (Below wx6.heap.size wx6 wv)) → wx6.heap.size ≤ gB → Hid (Ro wv gB #[.slice none 0 0, .slice none 0 0, .slice none 0 0, .slice none 0 0, .slice none 0 0, .slice none 0 0, .slice none 0 0] 34) → F 7 #[true, true, true, true, false, false, false, false, true, false, false, false] { tmps := (((((T.setIfInBounds 41 (.slice A4 21 c4)).setIfInBounds 42 (.slice A4 20 c4)).setIfInBounds 43 (.agg #[.slice A4 20 c4, .int .i64 0, .int .i64 0, .int .i64 0])).setIfInBounds 44 (.agg #[.int .i64 2, .int .u32 0, .int .u32 2, .int .u32 0, .int .u32 1, .int .u32 2, .int .u32 2])).setIfInBounds 8 (.pointer (some ⟨gB, 0, none⟩))), defers := D } wv from by
        intro wv gB hHeld lB zB
        refine hI.out _ _ _ _ ?_
        obtain ⟨rfl, rfl⟩ := Act.mk.inj hTD.out
        try simp only [Act.put, List.setIfInBounds_toArray, List.set_cons_zero, List.set_cons_succ]
        refine wpAnyH_ready (rs := [4, 9]) (by kernel_rfl) (by simp) ?_
        refine AllReadyH.cons rfl (fun K hK => ?_) (AllReadyH.cons rfl (fun K hK => ?_) (AllReadyH.nil))
        · go_simp
          refine (D2.out _ _ _ (HT.out.below hHeld.2.out) nil20.out (by omega) om4 (r4b.out.below hHeld.2.out)).mono ?_
          rintro e vv ⟨S8, rfl, oS_, h1'⟩
          have nB := hide (oS_.ne (.inl zB.out.lt))
          have oS := hide (oS_.mono hHeld.2.out.size)
          replace zB := hide (zB.out.below h1')
          refine hK.out _ _ (⟨hide (hHeld.1.out.below h1'), hide (bel_next hHeld.2.out h1')⟩) (fun hHeld => ?_)
          clear hK K h1'
          try simp only [Act.put, List.setIfInBounds_toArray, List.set_cons_zero, List.set_cons_succ]
          refine wpAnyH_takeD (i := 5) (d := (some 40)) (v := ?_) rfl rfl (by kernel_rfl) (by kernel_rfl) (by kernel_rfl) (fun _ _ _ h => h) (Or.inl ⟨by rfl, ?_⟩) (by assumption) ?_
          rotate_left
          · ((intro w hSw; go_simp) <;> with_reducible rfl)
          try simp only [Act.put, List.setIfInBounds_toArray, List.set_cons_zero, List.set_cons_succ]
          refine wpAnyH_takeD (i := 6) (d := (some 46)) (v := ?_) rfl rfl (by kernel_rfl) (by kernel_rfl) (by kernel_rfl) (fun _ _ _ h => h) (Or.inl ⟨by rfl, ?_⟩) (by assumption) ?_
          rotate_left
          · ((intro w hSw; go_simp) <;> with_reducible rfl)
          try simp only [Act.put, List.setIfInBounds_toArray, List.set_cons_zero, List.set_cons_succ]
          refine wpAnyH_takeD (i := 7) (d := (some 47)) (v := ?_) rfl rfl (by kernel_rfl) (by kernel_rfl) (by kernel_rfl) (fun _ _ _ h => h) (Or.inl ⟨by rfl, ?_⟩) (by assumption) ?_
          rotate_left
          · ((intro w hSw; go_simp) <;> with_reducible rfl)
          try simp only [Act.put, List.setIfInBounds_toArray, List.set_cons_zero, List.set_cons_succ]
          refine hE.out _ _ _ _ ?_
          have hh := st210.out _ S8 gB hHeld lB zB oS nB
          try simp only [Act.put, List.setIfInBounds_toArray, List.set_cons_zero, List.set_cons_succ] at hh
          exact hh
        · go_simp
          have lC := hHeld.2.out.size
          have zC := hide (Ro.new wv #[.slice none 0 0, .int .i64 0, .int .i64 0, .int .i64 0] 25)
          have ne := (show gB ≠ wv.heap.size from fun h => by have := zB.out.lt; omega)
          replace zB := hide (zB.out.alloc (.cells #[.slice none 0 0, .int .i64 0, .int .i64 0, .int .i64 0] 25))
          refine hK.out _ _ (⟨hide (hHeld.1.out.alloc _), hide (bl_alloc hHeld.2.out _)⟩) (fun hHeld => ?_)
          clear hK K
          try simp only [Act.put, List.setIfInBounds_toArray, List.set_cons_zero, List.set_cons_succ]
          refine hE.out _ _ _ _ ?_
          have hh := st111.out _ gB wv.heap.size hHeld lB zB lC zC ne
          try simp only [Act.put, List.setIfInBounds_toArray, List.set_cons_zero, List.set_cons_succ] at hh
          exact hh)
      have st101 := hide (show ∀ (wv : World) (gC : Nat), (Hid (Ro wv (g5) (#[.int .i64 2, .int .u32 0, .int .u32 2, .int .u32 0, .int .u32 1, .int .u32 2, .int .u32 2]) 28) ∧ Hid (Below wx6.heap.size wx6 wv)) → wx6.heap.size ≤ gC → Hid (Ro wv gC #[.slice none 0 0, .int .i64 0, .int .i64 0, .int .i64 0] 25) → F 7 #[true, true, true, true, false, false, false, false, false, true, false, false] { tmps := (((((T.setIfInBounds 41 (.slice A4 21 c4)).setIfInBounds 42 (.slice A4 20 c4)).setIfInBounds 43 (.agg #[.slice A4 20 c4, .int .i64 0, .int .i64 0, .int .i64 0])).setIfInBounds 44 (.agg #[.int .i64 2, .int .u32 0, .int .u32 2, .int .u32 0, .int .u32 1, .int .u32 2, .int .u32 2])).setIfInBounds 9 (.pointer (some ⟨gC, 0, none⟩))), defers := D } wv from by
        intro wv gC hHeld lC zC
        refine hI.out _ _ _ _ ?_
        obtain ⟨rfl, rfl⟩ := Act.mk.inj hTD.out
        try simp only [Act.put, List.setIfInBounds_toArray, List.set_cons_zero, List.set_cons_succ]
        refine wpAnyH_ready (rs := [4, 8]) (by kernel_rfl) (by simp) ?_
        refine AllReadyH.cons rfl (fun K hK => ?_) (AllReadyH.cons rfl (fun K hK => ?_) (AllReadyH.nil))
        · go_simp
          refine (D2.out _ _ _ (HT.out.below hHeld.2.out) nil20.out (by omega) om4 (r4b.out.below hHeld.2.out)).mono ?_
          rintro e vv ⟨S8, rfl, oS_, h1'⟩
          have nC := hide (oS_.ne (.inl zC.out.lt))
          have oS := hide (oS_.mono hHeld.2.out.size)
          replace zC := hide (zC.out.below h1')
          refine hK.out _ _ (⟨hide (hHeld.1.out.below h1'), hide (bel_next hHeld.2.out h1')⟩) (fun hHeld => ?_)
          clear hK K h1'
          try simp only [Act.put, List.setIfInBounds_toArray, List.set_cons_zero, List.set_cons_succ]
          refine wpAnyH_takeD (i := 5) (d := (some 40)) (v := ?_) rfl rfl (by kernel_rfl) (by kernel_rfl) (by kernel_rfl) (fun _ _ _ h => h) (Or.inl ⟨by rfl, ?_⟩) (by assumption) ?_
          rotate_left
          · ((intro w hSw; go_simp) <;> with_reducible rfl)
          try simp only [Act.put, List.setIfInBounds_toArray, List.set_cons_zero, List.set_cons_succ]
          refine wpAnyH_takeD (i := 6) (d := (some 46)) (v := ?_) rfl rfl (by kernel_rfl) (by kernel_rfl) (by kernel_rfl) (fun _ _ _ h => h) (Or.inl ⟨by rfl, ?_⟩) (by assumption) ?_
          rotate_left
          · ((intro w hSw; go_simp) <;> with_reducible rfl)
          try simp only [Act.put, List.setIfInBounds_toArray, List.set_cons_zero, List.set_cons_succ]
          refine wpAnyH_takeD (i := 7) (d := (some 47)) (v := ?_) rfl rfl (by kernel_rfl) (by kernel_rfl) (by kernel_rfl) (fun _ _ _ h => h) (Or.inl ⟨by rfl, ?_⟩) (by assumption) ?_
          rotate_left
          · ((intro w hSw; go_simp) <;> with_reducible rfl)
          try simp only [Act.put, List.setIfInBounds_toArray, List.set_cons_zero, List.set_cons_succ]
          refine hE.out _ _ _ _ ?_
          have hh := st201.out _ S8 gC hHeld lC zC oS nC
          try simp only [Act.put, List.setIfInBounds_toArray, List.set_cons_zero, List.set_cons_succ] at hh
          exact hh
        · go_simp
          have lB := hHeld.2.out.size
          have zB := hide (Ro.new wv #[.slice none 0 0, .slice none 0 0, .slice none 0 0, .slice none 0 0, .slice none 0 0, .slice none 0 0, .slice none 0 0] 34)
          have ne := (show wv.heap.size ≠ gC from fun h => by have := zC.out.lt; omega)
          replace zC := hide (zC.out.alloc (.cells #[.slice none 0 0, .slice none 0 0, .slice none 0 0, .slice none 0 0, .slice none 0 0, .slice none 0 0, .slice none 0 0] 34))
          refine hK.out _ _ (⟨hide (hHeld.1.out.alloc _), hide (bl_alloc hHeld.2.out _)⟩) (fun hHeld => ?_)
          clear hK K
          try simp only [Act.put, List.setIfInBounds_toArray, List.set_cons_zero, List.set_cons_succ]
          refine hE.out _ _ _ _ ?_
          have hh := st111.out _ wv.heap.size gC hHeld lB zB lC zC ne
          try simp only [Act.put, List.setIfInBounds_toArray, List.set_cons_zero, List.set_cons_succ] at hh
          exact hh)
      have st100 := hide (show ∀ (wv : World), (Hid (Ro wv (g5) (#[.int .i64 2, .int .u32 0, .int .u32 2, .int .u32 0, .int .u32 1, .int .u32 2, .int .u32 2]) 28) ∧ Hid (Below wx6.heap.size wx6 wv)) → F 8 #[true, true, true, true, false, false, false, false, false, false, false, false] { tmps := ((((T.setIfInBounds 41 (.slice A4 21 c4)).setIfInBounds 42 (.slice A4 20 c4)).setIfInBounds 43 (.agg #[.slice A4 20 c4, .int .i64 0, .int .i64 0, .int .i64 0])).setIfInBounds 44 (.agg #[.int .i64 2, .int .u32 0, .int .u32 2, .int .u32 0, .int .u32 1, .int .u32 2, .int .u32 2])), defers := D } wv from by
        intro wv  hHeld 
        refine hI.out _ _ _ _ ?_
        obtain ⟨rfl, rfl⟩ := Act.mk.inj hTD.out
        try simp only [Act.put, List.setIfInBounds_toArray, List.set_cons_zero, List.set_cons_succ]
        refine wpAnyH_ready (rs := [4, 8, 9]) (by kernel_rfl) (by simp) ?_
        refine AllReadyH.cons rfl (fun K hK => ?_) (AllReadyH.cons rfl (fun K hK => ?_) (AllReadyH.cons rfl (fun K hK => ?_) (AllReadyH.nil)))
        · go_simp
          refine (D2.out _ _ _ (HT.out.below hHeld.2.out) nil20.out (by omega) om4 (r4b.out.below hHeld.2.out)).mono ?_
          rintro e vv ⟨S8, rfl, oS_, h1'⟩
          have oS := hide (oS_.mono hHeld.2.out.size)
          refine hK.out _ _ (⟨hide (hHeld.1.out.below h1'), hide (bel_next hHeld.2.out h1')⟩) (fun hHeld => ?_)
          clear hK K h1'
          try simp only [Act.put, List.setIfInBounds_toArray, List.set_cons_zero, List.set_cons_succ]
          refine wpAnyH_takeD (i := 5) (d := (some 40)) (v := ?_) rfl rfl (by kernel_rfl) (by kernel_rfl) (by kernel_rfl) (fun _ _ _ h => h) (Or.inl ⟨by rfl, ?_⟩) (by assumption) ?_
          rotate_left
          · ((intro w hSw; go_simp) <;> with_reducible rfl)
          try simp only [Act.put, List.setIfInBounds_toArray, List.set_cons_zero, List.set_cons_succ]
          refine wpAnyH_takeD (i := 6) (d := (some 46)) (v := ?_) rfl rfl (by kernel_rfl) (by kernel_rfl) (by kernel_rfl) (fun _ _ _ h => h) (Or.inl ⟨by rfl, ?_⟩) (by assumption) ?_
          rotate_left
          · ((intro w hSw; go_simp) <;> with_reducible rfl)
          try simp only [Act.put, List.setIfInBounds_toArray, List.set_cons_zero, List.set_cons_succ]
          refine wpAnyH_takeD (i := 7) (d := (some 47)) (v := ?_) rfl rfl (by kernel_rfl) (by kernel_rfl) (by kernel_rfl) (fun _ _ _ h => h) (Or.inl ⟨by rfl, ?_⟩) (by assumption) ?_
          rotate_left
          · ((intro w hSw; go_simp) <;> with_reducible rfl)
          try simp only [Act.put, List.setIfInBounds_toArray, List.set_cons_zero, List.set_cons_succ]
          refine hE.out _ _ _ _ ?_
          have hh := st200.out _ S8 hHeld oS
          try simp only [Act.put, List.setIfInBounds_toArray, List.set_cons_zero, List.set_cons_succ] at hh
          exact hh
        · go_simp
          have lB := hHeld.2.out.size
          have zB := hide (Ro.new wv #[.slice none 0 0, .slice none 0 0, .slice none 0 0, .slice none 0 0, .slice none 0 0, .slice none 0 0, .slice none 0 0] 34)
          refine hK.out _ _ (⟨hide (hHeld.1.out.alloc _), hide (bl_alloc hHeld.2.out _)⟩) (fun hHeld => ?_)
          clear hK K
          try simp only [Act.put, List.setIfInBounds_toArray, List.set_cons_zero, List.set_cons_succ]
          refine hE.out _ _ _ _ ?_
          have hh := st110.out _ wv.heap.size hHeld lB zB
          try simp only [Act.put, List.setIfInBounds_toArray, List.set_cons_zero, List.set_cons_succ] at hh
          exact hh
        · go_simp
          have lC := hHeld.2.out.size
          have zC := hide (Ro.new wv #[.slice none 0 0, .int .i64 0, .int .i64 0, .int .i64 0] 25)
          refine hK.out _ _ (⟨hide (hHeld.1.out.alloc _), hide (bl_alloc hHeld.2.out _)⟩) (fun hHeld => ?_)
          clear hK K
          try simp only [Act.put, List.setIfInBounds_toArray, List.set_cons_zero, List.set_cons_succ]
          refine hE.out _ _ _ _ ?_
          have hh := st101.out _ wv.heap.size hHeld lC zC
          try simp only [Act.put, List.setIfInBounds_toArray, List.set_cons_zero, List.set_cons_succ] at hh
          exact hh)
      have st011 := hide (show ∀ (wv : World) (gB : Nat) (gC : Nat), (Hid (Ro wv (g5) (#[.int .i64 2, .int .u32 0, .int .u32 2, .int .u32 0, .int .u32 1, .int .u32 2, .int .u32 2]) 28) ∧ Hid (Below wx6.heap.size wx6 wv)) → wx6.heap.size ≤ gB → Hid (Ro wv gB #[.slice none 0 0, .slice none 0 0, .slice none 0 0, .slice none 0 0, .slice none 0 0, .slice none 0 0, .slice none 0 0] 34) → wx6.heap.size ≤ gC → Hid (Ro wv gC #[.slice none 0 0, .int .i64 0, .int .i64 0, .int .i64 0] 25) → gB ≠ gC → F 7 #[true, true, false, true, false, false, false, false, true, true, false, false] { tmps := (((((T.setIfInBounds 41 (.slice A4 21 c4)).setIfInBounds 42 (.slice A4 20 c4)).setIfInBounds 44 (.agg #[.int .i64 2, .int .u32 0, .int .u32 2, .int .u32 0, .int .u32 1, .int .u32 2, .int .u32 2])).setIfInBounds 8 (.pointer (some ⟨gB, 0, none⟩))).setIfInBounds 9 (.pointer (some ⟨gC, 0, none⟩))), defers := D } wv from by
        intro wv gB gC hHeld lB zB lC zC ne
        refine hI.out _ _ _ _ ?_
        obtain ⟨rfl, rfl⟩ := Act.mk.inj hTD.out
        try simp only [Act.put, List.setIfInBounds_toArray, List.set_cons_zero, List.set_cons_succ]
        refine wpAnyH_ready (rs := [2]) (by kernel_rfl) (by simp) ?_
        refine AllReadyH.cons rfl (fun K hK => ?_) (AllReadyH.nil)
        · go_simp
          refine (cu_.New _ _ _ _).mono ?_
          rintro e vv ⟨rfl, h1'⟩
          replace zB := hide (zB.out.below h1')
          replace zC := hide (zC.out.below h1')
          refine hK.out _ _ (⟨hide (hHeld.1.out.below h1'), hide (bel_next hHeld.2.out h1')⟩) (fun hHeld => ?_)
          clear hK K h1'
          try simp only [Act.put, List.setIfInBounds_toArray, List.set_cons_zero, List.set_cons_succ]
          refine hE.out _ _ _ _ ?_
          have hh := st111.out _ gB gC hHeld lB zB lC zC ne
          try simp only [Act.put, List.setIfInBounds_toArray, List.set_cons_zero, List.set_cons_succ] at hh
          exact hh)
      have st010 := hide (show ∀ (wv : World) (gB : Nat), (Hid (Ro wv (g5) (#[.int .i64 2, .int .u32 0, .int .u32 2, .int .u32 0, .int .u32 1, .int .u32 2, .int .u32 2]) 28) ∧ Hid (Below wx6.heap.size wx6 wv)) → wx6.heap.size ≤ gB → Hid (Ro wv gB #[.slice none 0 0, .slice none 0 0, .slice none 0 0, .slice none 0 0, .slice none 0 0, .slice none 0 0, .slice none 0 0] 34) → F 8 #[true, true, false, true, false, false, false, false, true, false, false, false] { tmps := ((((T.setIfInBounds 41 (.slice A4 21 c4)).setIfInBounds 42 (.slice A4 20 c4)).setIfInBounds 44 (.agg #[.int .i64 2, .int .u32 0, .int .u32 2, .int .u32 0, .int .u32 1, .int .u32 2, .int .u32 2])).setIfInBounds 8 (.pointer (some ⟨gB, 0, none⟩))), defers := D } wv from by
        intro wv gB hHeld lB zB
        refine hI.out _ _ _ _ ?_
        obtain ⟨rfl, rfl⟩ := Act.mk.inj hTD.out
        try simp only [Act.put, List.setIfInBounds_toArray, List.set_cons_zero, List.set_cons_succ]
        refine wpAnyH_ready (rs := [2, 9]) (by kernel_rfl) (by simp) ?_
        refine AllReadyH.cons rfl (fun K hK => ?_) (AllReadyH.cons rfl (fun K hK => ?_) (AllReadyH.nil))
        · go_simp
          refine (cu_.New _ _ _ _).mono ?_
          rintro e vv ⟨rfl, h1'⟩
          replace zB := hide (zB.out.below h1')
          refine hK.out _ _ (⟨hide (hHeld.1.out.below h1'), hide (bel_next hHeld.2.out h1')⟩) (fun hHeld => ?_)
          clear hK K h1'
          try simp only [Act.put, List.setIfInBounds_toArray, List.set_cons_zero, List.set_cons_succ]
          refine hE.out _ _ _ _ ?_
          have hh := st110.out _ gB hHeld lB zB
          try simp only [Act.put, List.setIfInBounds_toArray, List.set_cons_zero, List.set_cons_succ] at hh
          exact hh
        · go_simp
          have lC := hHeld.2.out.size
          have zC := hide (Ro.new wv #[.slice none 0 0, .int .i64 0, .int .i64 0, .int .i64 0] 25)
          have ne := (show gB ≠ wv.heap.size from fun h => by have := zB.out.lt; omega)
          replace zB := hide (zB.out.alloc (.cells #[.slice none 0 0, .int .i64 0, .int .i64 0, .int .i64 0] 25))
          refine hK.out _ _ (⟨hide (hHeld.1.out.alloc _), hide (bl_alloc hHeld.2.out _)⟩) (fun hHeld => ?_)
          clear hK K
          try simp only [Act.put, List.setIfInBounds_toArray, List.set_cons_zero, List.set_cons_succ]
          refine hE.out _ _ _ _ ?_
          have hh := st011.out _ gB wv.heap.size hHeld lB zB lC zC ne
          try simp only [Act.put, List.setIfInBounds_toArray, List.set_cons_zero, List.set_cons_succ] at hh
          exact hh)
      have st001 := hide (show ∀ (wv : World) (gC : Nat), (Hid (Ro wv (g5) (#[.int .i64 2, .int .u32 0, .int .u32 2, .int .u32 0, .int .u32 1, .int .u32 2, .int .u32 2]) 28) ∧ Hid (Below wx6.heap.size wx6 wv)) → wx6.heap.size ≤ gC → Hid (Ro wv gC #[.slice none 0 0, .int .i64 0, .int .i64 0, .int .i64 0] 25) → F 8 #[true, true, false, true, false, false, false, false, false, true, false, false] { tmps := ((((T.setIfInBounds 41 (.slice A4 21 c4)).setIfInBounds 42 (.slice A4 20 c4)).setIfInBounds 44 (.agg #[.int .i64 2, .int .u32 0, .int .u32 2, .int .u32 0, .int .u32 1, .int .u32 2, .int .u32 2])).setIfInBounds 9 (.pointer (some ⟨gC, 0, none⟩))), defers := D } wv from by
        intro wv gC hHeld lC zC
        refine hI.out _ _ _ _ ?_
        obtain ⟨rfl, rfl⟩ := Act.mk.inj hTD.out
        try simp only [Act.put, List.setIfInBounds_toArray, List.set_cons_zero, List.set_cons_succ]
        refine wpAnyH_ready (rs := [2, 8]) (by kernel_rfl) (by simp) ?_
        refine AllReadyH.cons rfl (fun K hK => ?_) (AllReadyH.cons rfl (fun K hK => ?_) (AllReadyH.nil))
        · go_simp
          refine (cu_.New _ _ _ _).mono ?_
          rintro e vv ⟨rfl, h1'⟩
          replace zC := hide (zC.out.below h1')
          refine hK.out _ _ (⟨hide (hHeld.1.out.below h1'), hide (bel_next hHeld.2.out h1')⟩) (fun hHeld => ?_)
          clear hK K h1'
          try simp only [Act.put, List.setIfInBounds_toArray, List.set_cons_zero, List.set_cons_succ]
          refine hE.out _ _ _ _ ?_
          have hh := st101.out _ gC hHeld lC zC
          try simp only [Act.put, List.setIfInBounds_toArray, List.set_cons_zero, List.set_cons_succ] at hh
          exact hh
        · go_simp
          have lB := hHeld.2.out.size
          have zB := hide (Ro.new wv #[.slice none 0 0, .slice none 0 0, .slice none 0 0, .slice none 0 0, .slice none 0 0, .slice none 0 0, .slice none 0 0] 34)
          have ne := (show wv.heap.size ≠ gC from fun h => by have := zC.out.lt; omega)
          replace zC := hide (zC.out.alloc (.cells #[.slice none 0 0, .slice none 0 0, .slice none 0 0, .slice none 0 0, .slice none 0 0, .slice none 0 0, .slice none 0 0] 34))
          refine hK.out _ _ (⟨hide (hHeld.1.out.alloc _), hide (bl_alloc hHeld.2.out _)⟩) (fun hHeld => ?_)
          clear hK K
          try simp only [Act.put, List.setIfInBounds_toArray, List.set_cons_zero, List.set_cons_succ]
          refine hE.out _ _ _ _ ?_
          have hh := st011.out _ wv.heap.size gC hHeld lB zB lC zC ne
          try simp only [Act.put, List.setIfInBounds_toArray, List.set_cons_zero, List.set_cons_succ] at hh
          exact hh)
      have st000 := hide (show ∀ (wv : World), (Hid (Ro wv (g5) (#[.int .i64 2, .int .u32 0, .int .u32 2, .int .u32 0, .int .u32 1, .int .u32 2, .int .u32 2]) 28) ∧ Hid (Below wx6.heap.size wx6 wv)) → F 9 #[true, true, false, true, false, false, false, false, false, false, false, false] { tmps := (((T.setIfInBounds 41 (.slice A4 21 c4)).setIfInBounds 42 (.slice A4 20 c4)).setIfInBounds 44 (.agg #[.int .i64 2, .int .u32 0, .int .u32 2, .int .u32 0, .int .u32 1, .int .u32 2, .int .u32 2])), defers := D } wv from by
        intro wv  hHeld 
        refine hI.out _ _ _ _ ?_
        obtain ⟨rfl, rfl⟩ := Act.mk.inj hTD.out
        try simp only [Act.put, List.setIfInBounds_toArray, List.set_cons_zero, List.set_cons_succ]
        refine wpAnyH_ready (rs := [2, 8, 9]) (by kernel_rfl) (by simp) ?_
        refine AllReadyH.cons rfl (fun K hK => ?_) (AllReadyH.cons rfl (fun K hK => ?_) (AllReadyH.cons rfl (fun K hK => ?_) (AllReadyH.nil)))
        · go_simp
          refine (cu_.New _ _ _ _).mono ?_
          rintro e vv ⟨rfl, h1'⟩
          refine hK.out _ _ (⟨hide (hHeld.1.out.below h1'), hide (bel_next hHeld.2.out h1')⟩) (fun hHeld => ?_)
          clear hK K h1'
          try simp only [Act.put, List.setIfInBounds_toArray, List.set_cons_zero, List.set_cons_succ]
          refine hE.out _ _ _ _ ?_
          have hh := st100.out _  hHeld
          try simp only [Act.put, List.setIfInBounds_toArray, List.set_cons_zero, List.set_cons_succ] at hh
          exact hh
        · go_simp
          have lB := hHeld.2.out.size
          have zB := hide (Ro.new wv #[.slice none 0 0, .slice none 0 0, .slice none 0 0, .slice none 0 0, .slice none 0 0, .slice none 0 0, .slice none 0 0] 34)
          refine hK.out _ _ (⟨hide (hHeld.1.out.alloc _), hide (bl_alloc hHeld.2.out _)⟩) (fun hHeld => ?_)
          clear hK K
          try simp only [Act.put, List.setIfInBounds_toArray, List.set_cons_zero, List.set_cons_succ]
          refine hE.out _ _ _ _ ?_
          have hh := st010.out _ wv.heap.size hHeld lB zB
          try simp only [Act.put, List.setIfInBounds_toArray, List.set_cons_zero, List.set_cons_succ] at hh
          exact hh
        · go_simp
          have lC := hHeld.2.out.size
          have zC := hide (Ro.new wv #[.slice none 0 0, .int .i64 0, .int .i64 0, .int .i64 0] 25)
          refine hK.out _ _ (⟨hide (hHeld.1.out.alloc _), hide (bl_alloc hHeld.2.out _)⟩) (fun hHeld => ?_)
          clear hK K
          try simp only [Act.put, List.setIfInBounds_toArray, List.set_cons_zero, List.set_cons_succ]
          refine hE.out _ _ _ _ ?_
          have hh := st001.out _ wv.heap.size hHeld lC zC
          try simp only [Act.put, List.setIfInBounds_toArray, List.set_cons_zero, List.set_cons_succ] at hh
          exact hh)
      have hh := st000.out _ hHeld
      obtain ⟨rfl, rfl⟩ := Act.mk.inj hTD.out
      try simp only [Act.put, List.setIfInBounds_toArray, List.set_cons_zero, List.set_cons_succ] at hh
      exact hh
    case rest =>
      rename World => wx8
      obtain ⟨gB8, gC8, S8, rfl, rfl, lB8, lC8, ne8, k8, k9, oS, -, -, h1⟩ := hcut
      replace h1 := h1.out
      replace k1 := hide (k1.out.below h1)
      replace i0 := hide (i0.out.below h1)
      replace r2 := hide (r2.out.below h1)
      replace k3 := hide (k3.out.below h1)
      replace i1 := hide (i1.out.below h1)
      replace r4 := hide (r4.out.below h1)
      replace k5 := hide (k5.out.below h1)
      replace k6 := hide (k6.out.below h1)
      replace k7 := hide (k7.out.below h1)
      replace i6 := hide (i6.out.below h1)
      replace HT := hide (HT.out.below h1)
      replace hb := hide (bel_next hb.out h1)
      clear h1
      have i8 := hide oS.out.is
      clear oS
      clear k8 i8
      go_upto_region 11 with (at_builtin; refine ap0 elU8 r4.out (.tmp 48) (.tmp 49) rfl rfl rfl rfl nil4.out (oneCells .u8 [255, 255, 255, 255, 1, 0, 0, 0, 0, 0, 0, 0, 0, 0, 60, 1, 1, 0, 0, 0, 1]) (by decide) (by decide) ?_; intro A10 c10 w10 o10 h10)
      obtain ⟨ga, rfl, hga, hga2⟩ := o10.form (by decide)
      have oc10 := o10.cap
      have om10 : c10 ≤ 9223372036854775807 := by have := o10.capMax; simp [maxLen] at this; omega
      have cc := o10.cell 20 (by decide)
      have cf := o10.frozen 20
      have s10 : (20 : Int) < (c10 : Int) := by omega
      have r10 := (o10.set 20 (.int .u8 2)).rd
      have h1 := bl_set (o := 20) h10 hga (.int .u8 2)
      replace o10 := hide o10
      replace r10 := hide r10
      replace h1 := hide h1
      go_upto_region 12 with fail
      clear cc cf o10 h10
      replace h1 := h1.out
      replace k1 := hide (k1.out.below h1)
      replace i0 := hide (i0.out.below h1)
      replace r2 := hide (r2.out.below h1)
      replace k3 := hide (k3.out.below h1)
      replace i1 := hide (i1.out.below h1)
      replace r4 := hide (r4.out.below h1)
      replace k5 := hide (k5.out.below h1)
      replace k6 := hide (k6.out.below h1)
      replace k7 := hide (k7.out.below h1)
      replace i6 := hide (i6.out.below h1)
      replace k9 := hide (k9.out.below h1)
      replace HT := hide (HT.out.below h1)
      replace hb := hide (bel_next hb.out h1)
      clear h1
      replace r10 : Hid (Rd (w10.setCell ⟨ga, 20, none⟩ (.int .u8 2)) (some ⟨ga, 0, none⟩) 21 (([255, 255, 255, 255, 1, 0, 0, 0, 0, 0, 0, 0, 0, 0, 60, 1, 1, 0, 0, 0, 2] : List Int).map (Value.int .u8))) := r10
      generalize w10.setCell ⟨ga, 20, none⟩ (.int .u8 2) = w11 at *
      go_cut [11, 12] (fun s11 s12 wz => ∃ (gB gC : Nat) (S11 : BkS), s11 = .pointer (some ⟨gB, 0, none⟩) ∧ s12 = .pointer (some ⟨gC, 0, none⟩) ∧ w11.heap.size ≤ gB ∧ w11.heap.size ≤ gC ∧ gB ≠ gC ∧ Hid (Ro wz gB #[.slice S11.ti.A S11.ti.n S11.ti.c, .slice S11.ix.A S11.ix.n S11.ix.c, .slice S11.ty.A S11.ty.n S11.ty.c, .slice S11.ch.A S11.ch.n S11.ch.c, .slice S11.lp.A S11.lp.n S11.lp.c, .slice S11.sd.A S11.sd.n S11.sd.c, .slice S11.ut.A S11.ut.n S11.ut.c] 34) ∧ Hid (Ro wz gC #[.slice (some ⟨ga, 0, none⟩) 21 c10, .int .i64 21, .int .i64 10, .int .i64 7] 25) ∧ Hid (OwBk wz w11.heap.size S11 Bk.zero) ∧ Hid (NeS S11 gB) ∧ Hid (NeS S11 gC) ∧ Hid (Below w11.heap.size w11 wz))
      case first =>
        have lbx0 := (show g5 < w11.heap.size from k5.out.lt)
        refine wp_region_held_drew (S := fun w' => Hid (Ro w' (g5) (#[.int .i64 2, .int .u32 0, .int .u32 2, .int .u32 0, .int .u32 1, .int .u32 2, .int .u32 2]) 28) ∧ Hid (Below w11.heap.size w11 w')) (by kernel_rfl) (⟨hide k5.out.drew, hide (bl_drew (bl_refl _))⟩) (fun hHeld => ?_)
        generalize w11.drew = u0 at *
        refine wpAnyH_takeD (i := 0) (d := (some 54)) (v := ?_) rfl rfl (by kernel_rfl) (by kernel_rfl) (by kernel_rfl) (fun _ _ _ h => h) (Or.inl ⟨by rfl, ?_⟩) (by assumption) ?_
        rotate_left
        · ((intro w hSw; go_simp) <;> with_reducible rfl)
        try simp only [Act.put, List.setIfInBounds_toArray, List.set_cons_zero, List.set_cons_succ]
        refine wpAnyH_takeD (i := 2) (d := (some 56)) rfl rfl (by kernel_rfl) (by kernel_rfl) (by kernel_rfl) (fun _ _ _ h => h) (yieldsIf_load_row (by rfl) 28 _ rfl (g5) rfl 28 #[.int .i64 2, .int .u32 0, .int .u32 2, .int .u32 0, .int .u32 1, .int .u32 2, .int .u32 2] _ (fun w hw => hw.1.out) Tryz.underlying28 rfl (by kernel_rfl)) (by assumption) ?_
        try simp only [Act.put, List.setIfInBounds_toArray, List.set_cons_zero, List.set_cons_succ]
        refine wpAnyH_share (fun F hI hE T D hTD => ?_)
        have st211 := hide (show ∀ (wv : World) (S11 : BkS) (gB : Nat) (gC : Nat), (Hid (Ro wv (g5) (#[.int .i64 2, .int .u32 0, .int .u32 2, .int .u32 0, .int .u32 1, .int .u32 2, .int .u32 2]) 28) ∧ Hid (Below w11.heap.size w11 wv)) → w11.heap.size ≤ gB → Hid (Ro wv gB #[.slice none 0 0, .slice none 0 0, .slice none 0 0, .slice none 0 0, .slice none 0 0, .slice none 0 0, .slice none 0 0] 34) → w11.heap.size ≤ gC → Hid (Ro wv gC #[.slice none 0 0, .int .i64 0, .int .i64 0, .int .i64 0] 25) → gB ≠ gC → Hid (OwBk wv w11.heap.size S11 Bk.zero) → Hid (NeS S11 gB) → Hid (NeS S11 gC) → F 2 #[true, true, true, true, true, true, true, true, true, false, false] { tmps := (((((((((T.setIfInBounds 54 (.slice (some ⟨ga, 0, none⟩) 21 c10)).setIfInBounds 55 (.agg #[.slice (some ⟨ga, 0, none⟩) 21 c10, .int .i64 0, .int .i64 0, .int .i64 0])).setIfInBounds 56 (.agg #[.int .i64 2, .int .u32 0, .int .u32 2, .int .u32 0, .int .u32 1, .int .u32 2, .int .u32 2])).setIfInBounds 57 (.tuple #[.agg #[.slice S11.ti.A S11.ti.n S11.ti.c, .slice S11.ix.A S11.ix.n S11.ix.c, .slice S11.ty.A S11.ty.n S11.ty.c, .slice S11.ch.A S11.ch.n S11.ch.c, .slice S11.lp.A S11.lp.n S11.lp.c, .slice S11.sd.A S11.sd.n S11.sd.c, .slice S11.ut.A S11.ut.n S11.ut.c], .agg #[.slice (some ⟨ga, 0, none⟩) 21 c10, .int .i64 21, .int .i64 10, .int .i64 7]])).setIfInBounds 53 (.tuple #[.agg #[.slice S11.ti.A S11.ti.n S11.ti.c, .slice S11.ix.A S11.ix.n S11.ix.c, .slice S11.ty.A S11.ty.n S11.ty.c, .slice S11.ch.A S11.ch.n S11.ch.c, .slice S11.lp.A S11.lp.n S11.lp.c, .slice S11.sd.A S11.sd.n S11.sd.c, .slice S11.ut.A S11.ut.n S11.ut.c], .agg #[.slice (some ⟨ga, 0, none⟩) 21 c10, .int .i64 21, .int .i64 10, .int .i64 7]])).setIfInBounds 58 (.agg #[.slice S11.ti.A S11.ti.n S11.ti.c, .slice S11.ix.A S11.ix.n S11.ix.c, .slice S11.ty.A S11.ty.n S11.ty.c, .slice S11.ch.A S11.ch.n S11.ch.c, .slice S11.lp.A S11.lp.n S11.lp.c, .slice S11.sd.A S11.sd.n S11.sd.c, .slice S11.ut.A S11.ut.n S11.ut.c])).setIfInBounds 59 (.agg #[.slice (some ⟨ga, 0, none⟩) 21 c10, .int .i64 21, .int .i64 10, .int .i64 7])).setIfInBounds 11 (.pointer (some ⟨gB, 0, none⟩))).setIfInBounds 12 (.pointer (some ⟨gC, 0, none⟩))), defers := D } wv from by
          intro wv S11 gB gC hHeld lB zB lC zC ne oS nB nC
          refine hI.out _ _ _ _ ?_
          obtain ⟨rfl, rfl⟩ := Act.mk.inj hTD.out
          try simp only [Act.put, List.setIfInBounds_toArray, List.set_cons_zero, List.set_cons_succ]
          refine wpAnyH_ready (rs := [9]) (by kernel_rfl) (by simp) ?_
          refine AllReadyH.cons rfl (fun K hK => ?_) (AllReadyH.nil)
          obtain ⟨y0, w0⟩ := ro_cf zB.out 0 _ rfl; obtain ⟨y1, w1⟩ := ro_cf zB.out 1 _ rfl; obtain ⟨y2, w2⟩ := ro_cf zB.out 2 _ rfl; obtain ⟨y3, w3⟩ := ro_cf zB.out 3 _ rfl; obtain ⟨y4, w4⟩ := ro_cf zB.out 4 _ rfl; obtain ⟨y5, w5⟩ := ro_cf zB.out 5 _ rfl; obtain ⟨y6, w6⟩ := ro_cf zB.out 6 _ rfl
          have su := hHeld.2.out.size
          have lb0 := hHeld.1.out.lt
          go_simp
          refine hK.out _ _ (⟨hide (ro_away7 (g' := gB) (x0 := .slice S11.ti.A S11.ti.n S11.ti.c) (x1 := .slice S11.ix.A S11.ix.n S11.ix.c) (x2 := .slice S11.ty.A S11.ty.n S11.ty.c) (x3 := .slice S11.ch.A S11.ch.n S11.ch.c) (x4 := .slice S11.lp.A S11.lp.n S11.lp.c) (x5 := .slice S11.sd.A S11.sd.n S11.sd.c) (x6 := .slice S11.ut.A S11.ut.n S11.ut.c) hHeld.1.out (by have := lbx0; omega)), hide (bl_setx7 (g := gB) (x0 := .slice S11.ti.A S11.ti.n S11.ti.c) (x1 := .slice S11.ix.A S11.ix.n S11.ix.c) (x2 := .slice S11.ty.A S11.ty.n S11.ty.c) (x3 := .slice S11.ch.A S11.ch.n S11.ch.c) (x4 := .slice S11.lp.A S11.lp.n S11.lp.c) (x5 := .slice S11.sd.A S11.sd.n S11.sd.c) (x6 := .slice S11.ut.A S11.ut.n S11.ut.c) hHeld.2.out lB)⟩) (fun hHeld => ?_)
          clear hK K y0 w0 y1 w1 y2 w2 y3 w3 y4 w4 y5 w5 y6 w6
          replace zB := hide (ro_set7' (x0 := .slice S11.ti.A S11.ti.n S11.ti.c) (x1 := .slice S11.ix.A S11.ix.n S11.ix.c) (x2 := .slice S11.ty.A S11.ty.n S11.ty.c) (x3 := .slice S11.ch.A S11.ch.n S11.ch.c) (x4 := .slice S11.lp.A S11.lp.n S11.lp.c) (x5 := .slice S11.sd.A S11.sd.n S11.sd.c) (x6 := .slice S11.ut.A S11.ut.n S11.ut.c) zB.out)
          replace zC := hide (ro_away7 (g' := gB) (x0 := .slice S11.ti.A S11.ti.n S11.ti.c) (x1 := .slice S11.ix.A S11.ix.n S11.ix.c) (x2 := .slice S11.ty.A S11.ty.n S11.ty.c) (x3 := .slice S11.ch.A S11.ch.n S11.ch.c) (x4 := .slice S11.lp.A S11.lp.n S11.lp.c) (x5 := .slice S11.sd.A S11.sd.n S11.sd.c) (x6 := .slice S11.ut.A S11.ut.n S11.ut.c) zC.out (by omega))
          replace oS := hide (oS.out.away7 nB.out (.slice S11.ti.A S11.ti.n S11.ti.c) (.slice S11.ix.A S11.ix.n S11.ix.c) (.slice S11.ty.A S11.ty.n S11.ty.c) (.slice S11.ch.A S11.ch.n S11.ch.c) (.slice S11.lp.A S11.lp.n S11.lp.c) (.slice S11.sd.A S11.sd.n S11.sd.c) (.slice S11.ut.A S11.ut.n S11.ut.c))
          generalize (((((((wv.setCell ⟨gB, 0, none⟩ (.slice S11.ti.A S11.ti.n S11.ti.c)).setCell ⟨gB, 1, none⟩ (.slice S11.ix.A S11.ix.n S11.ix.c)).setCell ⟨gB, 2, none⟩ (.slice S11.ty.A S11.ty.n S11.ty.c)).setCell ⟨gB, 3, none⟩ (.slice S11.ch.A S11.ch.n S11.ch.c)).setCell ⟨gB, 4, none⟩ (.slice S11.lp.A S11.lp.n S11.lp.c)).setCell ⟨gB, 5, none⟩ (.slice S11.sd.A S11.sd.n S11.sd.c)).setCell ⟨gB, 6, none⟩ (.slice S11.ut.A S11.ut.n S11.ut.c)) = wv1 at *
          try simp only [Act.put, List.setIfInBounds_toArray, List.set_cons_zero, List.set_cons_succ]
          refine wpAnyH_ready (rs := [10]) (by kernel_rfl) (by simp) ?_
          refine AllReadyH.cons rfl (fun K hK => ?_) (AllReadyH.nil)
          obtain ⟨y0, w0⟩ := ro_cf zC.out 0 _ rfl; obtain ⟨y1, w1⟩ := ro_cf zC.out 1 _ rfl; obtain ⟨y2, w2⟩ := ro_cf zC.out 2 _ rfl; obtain ⟨y3, w3⟩ := ro_cf zC.out 3 _ rfl
          have su := hHeld.2.out.size
          have lb0 := hHeld.1.out.lt
          go_simp
          refine hK.out _ _ (⟨hide (ro_away4 (g' := gC) (x0 := .slice (some ⟨ga, 0, none⟩) 21 c10) (x1 := .int .i64 21) (x2 := .int .i64 10) (x3 := .int .i64 7) hHeld.1.out (by have := lbx0; omega)), hide (bl_setx4 (g := gC) (x0 := .slice (some ⟨ga, 0, none⟩) 21 c10) (x1 := .int .i64 21) (x2 := .int .i64 10) (x3 := .int .i64 7) hHeld.2.out lC)⟩) (fun hHeld => ?_)
          clear hK K y0 w0 y1 w1 y2 w2 y3 w3
          replace zC := hide (ro_set4' (x0 := .slice (some ⟨ga, 0, none⟩) 21 c10) (x1 := .int .i64 21) (x2 := .int .i64 10) (x3 := .int .i64 7) zC.out)
          replace zB := hide (ro_away4 (g' := gC) (x0 := .slice (some ⟨ga, 0, none⟩) 21 c10) (x1 := .int .i64 21) (x2 := .int .i64 10) (x3 := .int .i64 7) zB.out (by omega))
          replace oS := hide (oS.out.away4 nC.out (.slice (some ⟨ga, 0, none⟩) 21 c10) (.int .i64 21) (.int .i64 10) (.int .i64 7))
          generalize ((((wv1.setCell ⟨gC, 0, none⟩ (.slice (some ⟨ga, 0, none⟩) 21 c10)).setCell ⟨gC, 1, none⟩ (.int .i64 21)).setCell ⟨gC, 2, none⟩ (.int .i64 10)).setCell ⟨gC, 3, none⟩ (.int .i64 7)) = wv2 at *
          try simp only [Act.put, List.setIfInBounds_toArray, List.set_cons_zero, List.set_cons_succ]
          refine wpAnyH_done (by kernel_rfl) ?_ _
          go_wp2_with fail
          go_meet
          exact ⟨gB, gC, S11, rfl, rfl, lB, lC, ne, zB, zC, oS, nB, nC, hHeld.2⟩)
        have st210 := hide (show ∀ (wv : World) (S11 : BkS) (gB : Nat), (Hid (Ro wv (g5) (#[.int .i64 2, .int .u32 0, .int .u32 2, .int .u32 0, .int .u32 1, .int .u32 2, .int .u32 2]) 28) ∧ Hid (Below w11.heap.size w11 wv)) → w11.heap.size ≤ gB → Hid (Ro wv gB #[.slice none 0 0, .slice none 0 0, .slice none 0 0, .slice none 0 0, .slice none 0 0, .slice none 0 0, .slice none 0 0] 34) → Hid (OwBk wv w11.heap.size S11 Bk.zero) → Hid (NeS S11 gB) → F 3 #[true, true, true, true, true, true, true, true, false, false, false] { tmps := ((((((((T.setIfInBounds 54 (.slice (some ⟨ga, 0, none⟩) 21 c10)).setIfInBounds 55 (.agg #[.slice (some ⟨ga, 0, none⟩) 21 c10, .int .i64 0, .int .i64 0, .int .i64 0])).setIfInBounds 56 (.agg #[.int .i64 2, .int .u32 0, .int .u32 2, .int .u32 0, .int .u32 1, .int .u32 2, .int .u32 2])).setIfInBounds 57 (.tuple #[.agg #[.slice S11.ti.A S11.ti.n S11.ti.c, .slice S11.ix.A S11.ix.n S11.ix.c, .slice S11.ty.A S11.ty.n S11.ty.c, .slice S11.ch.A S11.ch.n S11.ch.c, .slice S11.lp.A S11.lp.n S11.lp.c, .slice S11.sd.A S11.sd.n S11.sd.c, .slice S11.ut.A S11.ut.n S11.ut.c], .agg #[.slice (some ⟨ga, 0, none⟩) 21 c10, .int .i64 21, .int .i64 10, .int .i64 7]])).setIfInBounds 53 (.tuple #[.agg #[.slice S11.ti.A S11.ti.n S11.ti.c, .slice S11.ix.A S11.ix.n S11.ix.c, .slice S11.ty.A S11.ty.n S11.ty.c, .slice S11.ch.A S11.ch.n S11.ch.c, .slice S11.lp.A S11.lp.n S11.lp.c, .slice S11.sd.A S11.sd.n S11.sd.c, .slice S11.ut.A S11.ut.n S11.ut.c], .agg #[.slice (some ⟨ga, 0, none⟩) 21 c10, .int .i64 21, .int .i64 10, .int .i64 7]])).setIfInBounds 58 (.agg #[.slice S11.ti.A S11.ti.n S11.ti.c, .slice S11.ix.A S11.ix.n S11.ix.c, .slice S11.ty.A S11.ty.n S11.ty.c, .slice S11.ch.A S11.ch.n S11.ch.c, .slice S11.lp.A S11.lp.n S11.lp.c, .slice S11.sd.A S11.sd.n S11.sd.c, .slice S11.ut.A S11.ut.n S11.ut.c])).setIfInBounds 59 (.agg #[.slice (some ⟨ga, 0, none⟩) 21 c10, .int .i64 21, .int .i64 10, .int .i64 7])).setIfInBounds 11 (.pointer (some ⟨gB, 0, none⟩))), defers := D } wv from by
          intro wv S11 gB hHeld lB zB oS nB
          refine hI.out _ _ _ _ ?_
          obtain ⟨rfl, rfl⟩ := Act.mk.inj hTD.out
          try simp only [Act.put, List.setIfInBounds_toArray, List.set_cons_zero, List.set_cons_succ]
          refine wpAnyH_ready (rs := [8]) (by kernel_rfl) (by simp) ?_
          refine AllReadyH.cons rfl (fun K hK => ?_) (AllReadyH.nil)
          · go_simp
            have lC := hHeld.2.out.size
            have zC := hide (Ro.new wv #[.slice none 0 0, .int .i64 0, .int .i64 0, .int .i64 0] 25)
            have ne := (show gB ≠ wv.heap.size from fun h => by have := zB.out.lt; omega)
            replace zB := hide (zB.out.alloc (.cells #[.slice none 0 0, .int .i64 0, .int .i64 0, .int .i64 0] 25))
            have nC := hide (oS.out.ne (g := wv.heap.size) (.inr (Nat.le_refl _)))
            replace oS := hide (oS.out.below (bl_new _ (.cells #[.slice none 0 0, .int .i64 0, .int .i64 0, .int .i64 0] 25)))
            refine hK.out _ _ (⟨hide (hHeld.1.out.alloc _), hide (bl_alloc hHeld.2.out _)⟩) (fun hHeld => ?_)
            clear hK K
            try simp only [Act.put, List.setIfInBounds_toArray, List.set_cons_zero, List.set_cons_succ]
            refine hE.out _ _ _ _ ?_
            have hh := st211.out _ S11 gB wv.heap.size hHeld lB zB lC zC ne oS nB nC
            try simp only [Act.put, List.setIfInBounds_toArray, List.set_cons_zero, List.set_cons_succ] at hh
            exact hh)
        have st201 := hide (show ∀ (wv : World) (S11 : BkS) (gC : Nat), (Hid (Ro wv (g5) (#[.int .i64 2, .int .u32 0, .int .u32 2, .int .u32 0, .int .u32 1, .int .u32 2, .int .u32 2]) 28) ∧ Hid (Below w11.heap.size w11 wv)) → w11.heap.size ≤ gC → Hid (Ro wv gC #[.slice none 0 0, .int .i64 0, .int .i64 0, .int .i64 0] 25) → Hid (OwBk wv w11.heap.size S11 Bk.zero) → Hid (NeS S11 gC) → F 3 #[true, true, true, true, true, true, true, false, true, false, false] { tmps := ((((((((T.setIfInBounds 54 (.slice (some ⟨ga, 0, none⟩) 21 c10)).setIfInBounds 55 (.agg #[.slice (some ⟨ga, 0, none⟩) 21 c10, .int .i64 0, .int .i64 0, .int .i64 0])).setIfInBounds 56 (.agg #[.int .i64 2, .int .u32 0, .int .u32 2, .int .u32 0, .int .u32 1, .int .u32 2, .int .u32 2])).setIfInBounds 57 (.tuple #[.agg #[.slice S11.ti.A S11.ti.n S11.ti.c, .slice S11.ix.A S11.ix.n S11.ix.c, .slice S11.ty.A S11.ty.n S11.ty.c, .slice S11.ch.A S11.ch.n S11.ch.c, .slice S11.lp.A S11.lp.n S11.lp.c, .slice S11.sd.A S11.sd.n S11.sd.c, .slice S11.ut.A S11.ut.n S11.ut.c], .agg #[.slice (some ⟨ga, 0, none⟩) 21 c10, .int .i64 21, .int .i64 10, .int .i64 7]])).setIfInBounds 53 (.tuple #[.agg #[.slice S11.ti.A S11.ti.n S11.ti.c, .slice S11.ix.A S11.ix.n S11.ix.c, .slice S11.ty.A S11.ty.n S11.ty.c, .slice S11.ch.A S11.ch.n S11.ch.c, .slice S11.lp.A S11.lp.n S11.lp.c, .slice S11.sd.A S11.sd.n S11.sd.c, .slice S11.ut.A S11.ut.n S11.ut.c], .agg #[.slice (some ⟨ga, 0, none⟩) 21 c10, .int .i64 21, .int .i64 10, .int .i64 7]])).setIfInBounds 58 (.agg #[.slice S11.ti.A S11.ti.n S11.ti.c, .slice S11.ix.A S11.ix.n S11.ix.c, .slice S11.ty.A S11.ty.n S11.ty.c, .slice S11.ch.A S11.ch.n S11.ch.c, .slice S11.lp.A S11.lp.n S11.lp.c, .slice S11.sd.A S11.sd.n S11.sd.c, .slice S11.ut.A S11.ut.n S11.ut.c])).setIfInBounds 59 (.agg #[.slice (some ⟨ga, 0, none⟩) 21 c10, .int .i64 21, .int .i64 10, .int .i64 7])).setIfInBounds 12 (.pointer (some ⟨gC, 0, none⟩))), defers := D } wv from by
          intro wv S11 gC hHeld lC zC oS nC
          refine hI.out _ _ _ _ ?_
          obtain ⟨rfl, rfl⟩ := Act.mk.inj hTD.out
          try simp only [Act.put, List.setIfInBounds_toArray, List.set_cons_zero, List.set_cons_succ]
          refine wpAnyH_ready (rs := [7]) (by kernel_rfl) (by simp) ?_
          refine AllReadyH.cons rfl (fun K hK => ?_) (AllReadyH.nil)
          · go_simp
            have lB := hHeld.2.out.size
            have zB := hide (Ro.new wv #[.slice none 0 0, .slice none 0 0, .slice none 0 0, .slice none 0 0, .slice none 0 0, .slice none 0 0, .slice none 0 0] 34)
            have ne := (show wv.heap.size ≠ gC from fun h => by have := zC.out.lt; omega)
            replace zC := hide (zC.out.alloc (.cells #[.slice none 0 0, .slice none 0 0, .slice none 0 0, .slice none 0 0, .slice none 0 0, .slice none 0 0, .slice none 0 0] 34))
            have nB := hide (oS.out.ne (g := wv.heap.size) (.inr (Nat.le_refl _)))
            replace oS := hide (oS.out.below (bl_new _ (.cells #[.slice none 0 0, .slice none 0 0, .slice none 0 0, .slice none 0 0, .slice none 0 0, .slice none 0 0, .slice none 0 0] 34)))
            refine hK.out _ _ (⟨hide (hHeld.1.out.alloc _), hide (bl_alloc hHeld.2.out _)⟩) (fun hHeld => ?_)
            clear hK K
            try simp only [Act.put, List.setIfInBounds_toArray, List.set_cons_zero, List.set_cons_succ]
            refine hE.out _ _ _ _ ?_
            have hh := st211.out _ S11 wv.heap.size gC hHeld lB zB lC zC ne oS nB nC
            try simp only [Act.put, List.setIfInBounds_toArray, List.set_cons_zero, List.set_cons_succ] at hh
            exact hh)
        have st200 := hide (show ∀ (wv : World) (S11 : BkS), (Hid (Ro wv (g5) (#[.int .i64 2, .int .u32 0, .int .u32 2, .int .u32 0, .int .u32 1, .int .u32 2, .int .u32 2]) 28) ∧ Hid (Below w11.heap.size w11 wv)) → Hid (OwBk wv w11.heap.size S11 Bk.zero) → F 4 #[true, true, true, true, true, true, true, false, false, false, false] { tmps := (((((((T.setIfInBounds 54 (.slice (some ⟨ga, 0, none⟩) 21 c10)).setIfInBounds 55 (.agg #[.slice (some ⟨ga, 0, none⟩) 21 c10, .int .i64 0, .int .i64 0, .int .i64 0])).setIfInBounds 56 (.agg #[.int .i64 2, .int .u32 0, .int .u32 2, .int .u32 0, .int .u32 1, .int .u32 2, .int .u32 2])).setIfInBounds 57 (.tuple #[.agg #[.slice S11.ti.A S11.ti.n S11.ti.c, .slice S11.ix.A S11.ix.n S11.ix.c, .slice S11.ty.A S11.ty.n S11.ty.c, .slice S11.ch.A S11.ch.n S11.ch.c, .slice S11.lp.A S11.lp.n S11.lp.c, .slice S11.sd.A S11.sd.n S11.sd.c, .slice S11.ut.A S11.ut.n S11.ut.c], .agg #[.slice (some ⟨ga, 0, none⟩) 21 c10, .int .i64 21, .int .i64 10, .int .i64 7]])).setIfInBounds 53 (.tuple #[.agg #[.slice S11.ti.A S11.ti.n S11.ti.c, .slice S11.ix.A S11.ix.n S11.ix.c, .slice S11.ty.A S11.ty.n S11.ty.c, .slice S11.ch.A S11.ch.n S11.ch.c, .slice S11.lp.A S11.lp.n S11.lp.c, .slice S11.sd.A S11.sd.n S11.sd.c, .slice S11.ut.A S11.ut.n S11.ut.c], .agg #[.slice (some ⟨ga, 0, none⟩) 21 c10, .int .i64 21, .int .i64 10, .int .i64 7]])).setIfInBounds 58 (.agg #[.slice S11.ti.A S11.ti.n S11.ti.c, .slice S11.ix.A S11.ix.n S11.ix.c, .slice S11.ty.A S11.ty.n S11.ty.c, .slice S11.ch.A S11.ch.n S11.ch.c, .slice S11.lp.A S11.lp.n S11.lp.c, .slice S11.sd.A S11.sd.n S11.sd.c, .slice S11.ut.A S11.ut.n S11.ut.c])).setIfInBounds 59 (.agg #[.slice (some ⟨ga, 0, none⟩) 21 c10, .int .i64 21, .int .i64 10, .int .i64 7])), defers := D } wv from by
          intro wv S11 hHeld oS
          refine hI.out _ _ _ _ ?_
          obtain ⟨rfl, rfl⟩ := Act.mk.inj hTD.out
          try simp only [Act.put, List.setIfInBounds_toArray, List.set_cons_zero, List.set_cons_succ]
          refine wpAnyH_ready (rs := [7, 8]) (by kernel_rfl) (by simp) ?_
          refine AllReadyH.cons rfl (fun K hK => ?_) (AllReadyH.cons rfl (fun K hK => ?_) (AllReadyH.nil))
          · go_simp
            have lB := hHeld.2.out.size
            have zB := hide (Ro.new wv #[.slice none 0 0, .slice none 0 0, .slice none 0 0, .slice none 0 0, .slice none 0 0, .slice none 0 0, .slice none 0 0] 34)
            have nB := hide (oS.out.ne (g := wv.heap.size) (.inr (Nat.le_refl _)))
            replace oS := hide (oS.out.below (bl_new _ (.cells #[.slice none 0 0, .slice none 0 0, .slice none 0 0, .slice none 0 0, .slice none 0 0, .slice none 0 0, .slice none 0 0] 34)))
            refine hK.out _ _ (⟨hide (hHeld.1.out.alloc _), hide (bl_alloc hHeld.2.out _)⟩) (fun hHeld => ?_)
            clear hK K
            try simp only [Act.put, List.setIfInBounds_toArray, List.set_cons_zero, List.set_cons_succ]
            refine hE.out _ _ _ _ ?_
            have hh := st210.out _ S11 wv.heap.size hHeld lB zB oS nB
            try simp only [Act.put, List.setIfInBounds_toArray, List.set_cons_zero, List.set_cons_succ] at hh
            exact hh
          · go_simp
            have lC := hHeld.2.out.size
            have zC := hide (Ro.new wv #[.slice none 0 0, .int .i64 0, .int .i64 0, .int .i64 0] 25)
            have nC := hide (oS.out.ne (g := wv.heap.size) (.inr (Nat.le_refl _)))
            replace oS := hide (oS.out.below (bl_new _ (.cells #[.slice none 0 0, .int .i64 0, .int .i64 0, .int .i64 0] 25)))
            refine hK.out _ _ (⟨hide (hHeld.1.out.alloc _), hide (bl_alloc hHeld.2.out _)⟩) (fun hHeld => ?_)
            clear hK K
            try simp only [Act.put, List.setIfInBounds_toArray, List.set_cons_zero, List.set_cons_succ]
            refine hE.out _ _ _ _ ?_
            have hh := st201.out _ S11 wv.heap.size hHeld lC zC oS nC
            try simp only [Act.put, List.setIfInBounds_toArray, List.set_cons_zero, List.set_cons_succ] at hh
            exact hh)
        have st111 := hide (show ∀ (wv : World) (gB : Nat) (gC : Nat), (Hid (Ro wv (g5) (#[.int .i64 2, .int .u32 0, .int .u32 2, .int .u32 0, .int .u32 1, .int .u32 2, .int .u32 2]) 28) ∧ Hid (Below w11.heap.size w11 wv)) → w11.heap.size ≤ gB → Hid (Ro wv gB #[.slice none 0 0, .slice none 0 0, .slice none 0 0, .slice none 0 0, .slice none 0 0, .slice none 0 0, .slice none 0 0] 34) → w11.heap.size ≤ gC → Hid (Ro wv gC #[.slice none 0 0, .int .i64 0, .int .i64 0, .int .i64 0] 25) → gB ≠ gC → F 6 #[true, true, true, false, false, false, false, true, true, false, false] { tmps := (((((T.setIfInBounds 54 (.slice (some ⟨ga, 0, none⟩) 21 c10)).setIfInBounds 55 (.agg #[.slice (some ⟨ga, 0, none⟩) 21 c10, .int .i64 0, .int .i64 0, .int .i64 0])).setIfInBounds 56 (.agg #[.int .i64 2, .int .u32 0, .int .u32 2, .int .u32 0, .int .u32 1, .int .u32 2, .int .u32 2])).setIfInBounds 11 (.pointer (some ⟨gB, 0, none⟩))).setIfInBounds 12 (.pointer (some ⟨gC, 0, none⟩))), defers := D } wv from by
          intro wv gB gC hHeld lB zB lC zC ne
          refine hI.out _ _ _ _ ?_
          obtain ⟨rfl, rfl⟩ := Act.mk.inj hTD.out
          try simp only [Act.put, List.setIfInBounds_toArray, List.set_cons_zero, List.set_cons_succ]
          refine wpAnyH_ready (rs := [3]) (by kernel_rfl) (by simp) ?_
          refine AllReadyH.cons rfl (fun K hK => ?_) (AllReadyH.nil)
          · go_simp
            refine (D3.out _ _ _ (HT.out.below hHeld.2.out) (fun h => by cases h) (by omega) om10 (r10.out.below hHeld.2.out)).mono ?_
            rintro e vv ⟨S11, rfl, oS_, h1'⟩
            have nB := hide (oS_.ne (.inl zB.out.lt))
            have nC := hide (oS_.ne (.inl zC.out.lt))
            have oS := hide (oS_.mono hHeld.2.out.size)
            replace zB := hide (zB.out.below h1')
            replace zC := hide (zC.out.below h1')
            refine hK.out _ _ (⟨hide (hHeld.1.out.below h1'), hide (bel_next hHeld.2.out h1')⟩) (fun hHeld => ?_)
            clear hK K h1'
            try simp only [Act.put, List.setIfInBounds_toArray, List.set_cons_zero, List.set_cons_succ]
            refine wpAnyH_takeD (i := 4) (d := (some 53)) (v := ?_) rfl rfl (by kernel_rfl) (by kernel_rfl) (by kernel_rfl) (fun _ _ _ h => h) (Or.inl ⟨by rfl, ?_⟩) (by assumption) ?_
            rotate_left
            · ((intro w hSw; go_simp) <;> with_reducible rfl)
            try simp only [Act.put, List.setIfInBounds_toArray, List.set_cons_zero, List.set_cons_succ]
            refine wpAnyH_takeD (i := 5) (d := (some 58)) (v := ?_) rfl rfl (by kernel_rfl) (by kernel_rfl) (by kernel_rfl) (fun _ _ _ h => h) (Or.inl ⟨by rfl, ?_⟩) (by assumption) ?_
            rotate_left
            · ((intro w hSw; go_simp) <;> with_reducible rfl)
            try simp only [Act.put, List.setIfInBounds_toArray, List.set_cons_zero, List.set_cons_succ]
            refine wpAnyH_takeD (i := 6) (d := (some 59)) (v := ?_) rfl rfl (by kernel_rfl) (by kernel_rfl) (by kernel_rfl) (fun _ _ _ h => h) (Or.inl ⟨by rfl, ?_⟩) (by assumption) ?_
            rotate_left
            · ((intro w hSw; go_simp) <;> with_reducible rfl)
            try simp only [Act.put, List.setIfInBounds_toArray, List.set_cons_zero, List.set_cons_succ]
            refine hE.out _ _ _ _ ?_
            have hh := st211.out _ S11 gB gC hHeld lB zB lC zC ne oS nB nC
            try simp only [Act.put, List.setIfInBounds_toArray, List.set_cons_zero, List.set_cons_succ] at hh
            exact hh)
        have st110 := hide (show ∀ (wv : World) (gB : Nat), (Hid (Ro wv (g5) (#[.int .i64 2, .int .u32 0, .int .u32 2, .int .u32 0, .int .u32 1, .int .u32 2, .int .u32 2]) 28) ∧ Hid (Below w11.heap.size w11 wv)) → w11.heap.size ≤ gB → Hid (Ro wv gB #[.slice none 0 0, .slice none 0 0, .slice none 0 0, .slice none 0 0, .slice none 0 0, .slice none 0 0, .slice none 0 0] 34) → F 7 #[true, true, true, false, false, false, false, true, false, false, false] { tmps := ((((T.setIfInBounds 54 (.slice (some ⟨ga, 0, none⟩) 21 c10)).setIfInBounds 55 (.agg #[.slice (some ⟨ga, 0, none⟩) 21 c10, .int .i64 0, .int .i64 0, .int .i64 0])).setIfInBounds 56 (.agg #[.int .i64 2, .int .u32 0, .int .u32 2, .int .u32 0, .int .u32 1, .int .u32 2, .int .u32 2])).setIfInBounds 11 (.pointer (some ⟨gB, 0, none⟩))), defers := D } wv from by
          intro wv gB hHeld lB zB
          refine hI.out _ _ _ _ ?_
          obtain ⟨rfl, rfl⟩ := Act.mk.inj hTD.out
          try simp only [Act.put, List.setIfInBounds_toArray, List.set_cons_zero, List.set_cons_succ]
          refine wpAnyH_ready (rs := [3, 8]) (by kernel_rfl) (by simp) ?_
          refine AllReadyH.cons rfl (fun K hK => ?_) (AllReadyH.cons rfl (fun K hK => ?_) (AllReadyH.nil))
          · go_simp
            refine (D3.out _ _ _ (HT.out.below hHeld.2.out) (fun h => by cases h) (by omega) om10 (r10.out.below hHeld.2.out)).mono ?_
            rintro e vv ⟨S11, rfl, oS_, h1'⟩
            have nB := hide (oS_.ne (.inl zB.out.lt))
            have oS := hide (oS_.mono hHeld.2.out.size)
            replace zB := hide (zB.out.below h1')
            refine hK.out _ _ (⟨hide (hHeld.1.out.below h1'), hide (bel_next hHeld.2.out h1')⟩) (fun hHeld => ?_)
            clear hK K h1'
            try simp only [Act.put, List.setIfInBounds_toArray, List.set_cons_zero, List.set_cons_succ]
            refine wpAnyH_takeD (i := 4) (d := (some 53)) (v := ?_) rfl rfl (by kernel_rfl) (by kernel_rfl) (by kernel_rfl) (fun _ _ _ h => h) (Or.inl ⟨by rfl, ?_⟩) (by assumption) ?_
            rotate_left
            · ((intro w hSw; go_simp) <;> with_reducible rfl)
            try simp only [Act.put, List.setIfInBounds_toArray, List.set_cons_zero, List.set_cons_succ]
            refine wpAnyH_takeD (i := 5) (d := (some 58)) (v := ?_) rfl rfl (by kernel_rfl) (by kernel_rfl) (by kernel_rfl) (fun _ _ _ h => h) (Or.inl ⟨by rfl, ?_⟩) (by assumption) ?_
            rotate_left
            · ((intro w hSw; go_simp) <;> with_reducible rfl)
            try simp only [Act.put, List.setIfInBounds_toArray, List.set_cons_zero, List.set_cons_succ]
            refine wpAnyH_takeD (i := 6) (d := (some 59)) (v := ?_) rfl rfl (by kernel_rfl) (by kernel_rfl) (by kernel_rfl) (fun _ _ _ h => h) (Or.inl ⟨by rfl, ?_⟩) (by assumption) ?_
            rotate_left
            · ((intro w hSw; go_simp) <;> with_reducible rfl)
            try simp only [Act.put, List.setIfInBounds_toArray, List.set_cons_zero, List.set_cons_succ]
            refine hE.out _ _ _ _ ?_
            have hh := st210.out _ S11 gB hHeld lB zB oS nB
            try simp only [Act.put, List.setIfInBounds_toArray, List.set_cons_zero, List.set_cons_succ] at hh
            exact hh
          · go_simp
            have lC := hHeld.2.out.size
            have zC := hide (Ro.new wv #[.slice none 0 0, .int .i64 0, .int .i64 0, .int .i64 0] 25)
            have ne := (show gB ≠ wv.heap.size from fun h => by have := zB.out.lt; omega)
            replace zB := hide (zB.out.alloc (.cells #[.slice none 0 0, .int .i64 0, .int .i64 0, .int .i64 0] 25))
            refine hK.out _ _ (⟨hide (hHeld.1.out.alloc _), hide (bl_alloc hHeld.2.out _)⟩) (fun hHeld => ?_)
            clear hK K
            try simp only [Act.put, List.setIfInBounds_toArray, List.set_cons_zero, List.set_cons_succ]
            refine hE.out _ _ _ _ ?_
            have hh := st111.out _ gB wv.heap.size hHeld lB zB lC zC ne
            try simp only [Act.put, List.setIfInBounds_toArray, List.set_cons_zero, List.set_cons_succ] at hh
            exact hh)
        have st101 := hide (show ∀ (wv : World) (gC : Nat), (Hid (Ro wv (g5) (#[.int .i64 2, .int .u32 0, .int .u32 2, .int .u32 0, .int .u32 1, .int .u32 2, .int .u32 2]) 28) ∧ Hid (Below w11.heap.size w11 wv)) → w11.heap.size ≤ gC → Hid (Ro wv gC #[.slice none 0 0, .int .i64 0, .int .i64 0, .int .i64 0] 25) → F 7 #[true, true, true, false, false, false, false, false, true, false, false] { tmps := ((((T.setIfInBounds 54 (.slice (some ⟨ga, 0, none⟩) 21 c10)).setIfInBounds 55 (.agg #[.slice (some ⟨ga, 0, none⟩) 21 c10, .int .i64 0, .int .i64 0, .int .i64 0])).setIfInBounds 56 (.agg #[.int .i64 2, .int .u32 0, .int .u32 2, .int .u32 0, .int .u32 1, .int .u32 2, .int .u32 2])).setIfInBounds 12 (.pointer (some ⟨gC, 0, none⟩))), defers := D } wv from by
          intro wv gC hHeld lC zC
          refine hI.out _ _ _ _ ?_
          obtain ⟨rfl, rfl⟩ := Act.mk.inj hTD.out
          try simp only [Act.put, List.setIfInBounds_toArray, List.set_cons_zero, List.set_cons_succ]
          refine wpAnyH_ready (rs := [3, 7]) (by kernel_rfl) (by simp) ?_
          refine AllReadyH.cons rfl (fun K hK => ?_) (AllReadyH.cons rfl (fun K hK => ?_) (AllReadyH.nil))
          · go_simp
            refine (D3.out _ _ _ (HT.out.below hHeld.2.out) (fun h => by cases h) (by omega) om10 (r10.out.below hHeld.2.out)).mono ?_
            rintro e vv ⟨S11, rfl, oS_, h1'⟩
            have nC := hide (oS_.ne (.inl zC.out.lt))
            have oS := hide (oS_.mono hHeld.2.out.size)
            replace zC := hide (zC.out.below h1')
            refine hK.out _ _ (⟨hide (hHeld.1.out.below h1'), hide (bel_next hHeld.2.out h1')⟩) (fun hHeld => ?_)
            clear hK K h1'
            try simp only [Act.put, List.setIfInBounds_toArray, List.set_cons_zero, List.set_cons_succ]
            refine wpAnyH_takeD (i := 4) (d := (some 53)) (v := ?_) rfl rfl (by kernel_rfl) (by kernel_rfl) (by kernel_rfl) (fun _ _ _ h => h) (Or.inl ⟨by rfl, ?_⟩) (by assumption) ?_
            rotate_left
            · ((intro w hSw; go_simp) <;> with_reducible rfl)
            try simp only [Act.put, List.setIfInBounds_toArray, List.set_cons_zero, List.set_cons_succ]
            refine wpAnyH_takeD (i := 5) (d := (some 58)) (v := ?_) rfl rfl (by kernel_rfl) (by kernel_rfl) (by kernel_rfl) (fun _ _ _ h => h) (Or.inl ⟨by rfl, ?_⟩) (by assumption) ?_
            rotate_left
            · ((intro w hSw; go_simp) <;> with_reducible rfl)
            try simp only [Act.put, List.setIfInBounds_toArray, List.set_cons_zero, List.set_cons_succ]
            refine wpAnyH_takeD (i := 6) (d := (some 59)) (v := ?_) rfl rfl (by kernel_rfl) (by kernel_rfl) (by kernel_rfl) (fun _ _ _ h => h) (Or.inl ⟨by rfl, ?_⟩) (by assumption) ?_
            rotate_left
            · ((intro w hSw; go_simp) <;> with_reducible rfl)
            try simp only [Act.put, List.setIfInBounds_toArray, List.set_cons_zero, List.set_cons_succ]
            refine hE.out _ _ _ _ ?_
            have hh := st201.out _ S11 gC hHeld lC zC oS nC
            try simp only [Act.put, List.setIfInBounds_toArray, List.set_cons_zero, List.set_cons_succ] at hh
            exact hh
          · go_simp
            have lB := hHeld.2.out.size
            have zB := hide (Ro.new wv #[.slice none 0 0, .slice none 0 0, .slice none 0 0, .slice none 0 0, .slice none 0 0, .slice none 0 0, .slice none 0 0] 34)
            have ne := (show wv.heap.size ≠ gC from fun h => by have := zC.out.lt; omega)
            replace zC := hide (zC.out.alloc (.cells #[.slice none 0 0, .slice none 0 0, .slice none 0 0, .slice none 0 0, .slice none 0 0, .slice none 0 0, .slice none 0 0] 34))
            refine hK.out _ _ (⟨hide (hHeld.1.out.alloc _), hide (bl_alloc hHeld.2.out _)⟩) (fun hHeld => ?_)
            clear hK K
            try simp only [Act.put, List.setIfInBounds_toArray, List.set_cons_zero, List.set_cons_succ]
            refine hE.out _ _ _ _ ?_
            have hh := st111.out _ wv.heap.size gC hHeld lB zB lC zC ne
            try simp only [Act.put, List.setIfInBounds_toArray, List.set_cons_zero, List.set_cons_succ] at hh
            exact hh)
        have st100 := hide (show ∀ (wv : World), (Hid (Ro wv (g5) (#[.int .i64 2, .int .u32 0, .int .u32 2, .int .u32 0, .int .u32 1, .int .u32 2, .int .u32 2]) 28) ∧ Hid (Below w11.heap.size w11 wv)) → F 8 #[true, true, true, false, false, false, false, false, false, false, false] { tmps := (((T.setIfInBounds 54 (.slice (some ⟨ga, 0, none⟩) 21 c10)).setIfInBounds 55 (.agg #[.slice (some ⟨ga, 0, none⟩) 21 c10, .int .i64 0, .int .i64 0, .int .i64 0])).setIfInBounds 56 (.agg #[.int .i64 2, .int .u32 0, .int .u32 2, .int .u32 0, .int .u32 1, .int .u32 2, .int .u32 2])), defers := D } wv from by
          intro wv  hHeld 
          refine hI.out _ _ _ _ ?_
          obtain ⟨rfl, rfl⟩ := Act.mk.inj hTD.out
          try simp only [Act.put, List.setIfInBounds_toArray, List.set_cons_zero, List.set_cons_succ]
          refine wpAnyH_ready (rs := [3, 7, 8]) (by kernel_rfl) (by simp) ?_
          refine AllReadyH.cons rfl (fun K hK => ?_) (AllReadyH.cons rfl (fun K hK => ?_) (AllReadyH.cons rfl (fun K hK => ?_) (AllReadyH.nil)))
          · go_simp
            refine (D3.out _ _ _ (HT.out.below hHeld.2.out) (fun h => by cases h) (by omega) om10 (r10.out.below hHeld.2.out)).mono ?_
            rintro e vv ⟨S11, rfl, oS_, h1'⟩
            have oS := hide (oS_.mono hHeld.2.out.size)
            refine hK.out _ _ (⟨hide (hHeld.1.out.below h1'), hide (bel_next hHeld.2.out h1')⟩) (fun hHeld => ?_)
            clear hK K h1'
            try simp only [Act.put, List.setIfInBounds_toArray, List.set_cons_zero, List.set_cons_succ]
            refine wpAnyH_takeD (i := 4) (d := (some 53)) (v := ?_) rfl rfl (by kernel_rfl) (by kernel_rfl) (by kernel_rfl) (fun _ _ _ h => h) (Or.inl ⟨by rfl, ?_⟩) (by assumption) ?_
            rotate_left
            · ((intro w hSw; go_simp) <;> with_reducible rfl)
            try simp only [Act.put, List.setIfInBounds_toArray, List.set_cons_zero, List.set_cons_succ]
            refine wpAnyH_takeD (i := 5) (d := (some 58)) (v := ?_) rfl rfl (by kernel_rfl) (by kernel_rfl) (by kernel_rfl) (fun _ _ _ h => h) (Or.inl ⟨by rfl, ?_⟩) (by assumption) ?_
            rotate_left
            · ((intro w hSw; go_simp) <;> with_reducible rfl)
            try simp only [Act.put, List.setIfInBounds_toArray, List.set_cons_zero, List.set_cons_succ]
            refine wpAnyH_takeD (i := 6) (d := (some 59)) (v := ?_) rfl rfl (by kernel_rfl) (by kernel_rfl) (by kernel_rfl) (fun _ _ _ h => h) (Or.inl ⟨by rfl, ?_⟩) (by assumption) ?_
            rotate_left
            · ((intro w hSw; go_simp) <;> with_reducible rfl)
            try simp only [Act.put, List.setIfInBounds_toArray, List.set_cons_zero, List.set_cons_succ]
            refine hE.out _ _ _ _ ?_
            have hh := st200.out _ S11 hHeld oS
            try simp only [Act.put, List.setIfInBounds_toArray, List.set_cons_zero, List.set_cons_succ] at hh
            exact hh
          · go_simp
            have lB := hHeld.2.out.size
            have zB := hide (Ro.new wv #[.slice none 0 0, .slice none 0 0, .slice none 0 0, .slice none 0 0, .slice none 0 0, .slice none 0 0, .slice none 0 0] 34)
            refine hK.out _ _ (⟨hide (hHeld.1.out.alloc _), hide (bl_alloc hHeld.2.out _)⟩) (fun hHeld => ?_)
            clear hK K
            try simp only [Act.put, List.setIfInBounds_toArray, List.set_cons_zero, List.set_cons_succ]
            refine hE.out _ _ _ _ ?_
            have hh := st110.out _ wv.heap.size hHeld lB zB
            try simp only [Act.put, List.setIfInBounds_toArray, List.set_cons_zero, List.set_cons_succ] at hh
            exact hh
          · go_simp
            have lC := hHeld.2.out.size
            have zC := hide (Ro.new wv #[.slice none 0 0, .int .i64 0, .int .i64 0, .int .i64 0] 25)
            refine hK.out _ _ (⟨hide (hHeld.1.out.alloc _), hide (bl_alloc hHeld.2.out _)⟩) (fun hHeld => ?_)
            clear hK K
            try simp only [Act.put, List.setIfInBounds_toArray, List.set_cons_zero, List.set_cons_succ]
            refine hE.out _ _ _ _ ?_
            have hh := st101.out _ wv.heap.size hHeld lC zC
            try simp only [Act.put, List.setIfInBounds_toArray, List.set_cons_zero, List.set_cons_succ] at hh
            exact hh)
        have st011 := hide (show ∀ (wv : World) (gB : Nat) (gC : Nat), (Hid (Ro wv (g5) (#[.int .i64 2, .int .u32 0, .int .u32 2, .int .u32 0, .int .u32 1, .int .u32 2, .int .u32 2]) 28) ∧ Hid (Below w11.heap.size w11 wv)) → w11.heap.size ≤ gB → Hid (Ro wv gB #[.slice none 0 0, .slice none 0 0, .slice none 0 0, .slice none 0 0, .slice none 0 0, .slice none 0 0, .slice none 0 0] 34) → w11.heap.size ≤ gC → Hid (Ro wv gC #[.slice none 0 0, .int .i64 0, .int .i64 0, .int .i64 0] 25) → gB ≠ gC → F 7 #[true, false, true, false, false, false, false, true, true, false, false] { tmps := ((((T.setIfInBounds 54 (.slice (some ⟨ga, 0, none⟩) 21 c10)).setIfInBounds 56 (.agg #[.int .i64 2, .int .u32 0, .int .u32 2, .int .u32 0, .int .u32 1, .int .u32 2, .int .u32 2])).setIfInBounds 11 (.pointer (some ⟨gB, 0, none⟩))).setIfInBounds 12 (.pointer (some ⟨gC, 0, none⟩))), defers := D } wv from by
          intro wv gB gC hHeld lB zB lC zC ne
          refine hI.out _ _ _ _ ?_
          obtain ⟨rfl, rfl⟩ := Act.mk.inj hTD.out
          try simp only [Act.put, List.setIfInBounds_toArray, List.set_cons_zero, List.set_cons_succ]
          refine wpAnyH_ready (rs := [1]) (by kernel_rfl) (by simp) ?_
          refine AllReadyH.cons rfl (fun K hK => ?_) (AllReadyH.nil)
          · go_simp
            refine (cu_.New _ _ _ _).mono ?_
            rintro e vv ⟨rfl, h1'⟩
            replace zB := hide (zB.out.below h1')
            replace zC := hide (zC.out.below h1')
            refine hK.out _ _ (⟨hide (hHeld.1.out.below h1'), hide (bel_next hHeld.2.out h1')⟩) (fun hHeld => ?_)
            clear hK K h1'
            try simp only [Act.put, List.setIfInBounds_toArray, List.set_cons_zero, List.set_cons_succ]
            refine hE.out _ _ _ _ ?_
            have hh := st111.out _ gB gC hHeld lB zB lC zC ne
            try simp only [Act.put, List.setIfInBounds_toArray, List.set_cons_zero, List.set_cons_succ] at hh
            exact hh)
        have st010 := hide (show ∀ (wv : World) (gB : Nat), (Hid (Ro wv (g5) (#[.int .i64 2, .int .u32 0, .int .u32 2, .int .u32 0, .int .u32 1, .int .u32 2, .int .u32 2]) 28) ∧ Hid (Below w11.heap.size w11 wv)) → w11.heap.size ≤ gB → Hid (Ro wv gB #[.slice none 0 0, .slice none 0 0, .slice none 0 0, .slice none 0 0, .slice none 0 0, .slice none 0 0, .slice none 0 0] 34) → F 8 #[true, false, true, false, false, false, false, true, false, false, false] { tmps := (((T.setIfInBounds 54 (.slice (some ⟨ga, 0, none⟩) 21 c10)).setIfInBounds 56 (.agg #[.int .i64 2, .int .u32 0, .int .u32 2, .int .u32 0, .int .u32 1, .int .u32 2, .int .u32 2])).setIfInBounds 11 (.pointer (some ⟨gB, 0, none⟩))), defers := D } wv from by
          intro wv gB hHeld lB zB
          refine hI.out _ _ _ _ ?_
          obtain ⟨rfl, rfl⟩ := Act.mk.inj hTD.out
          try simp only [Act.put, List.setIfInBounds_toArray, List.set_cons_zero, List.set_cons_succ]
          refine wpAnyH_ready (rs := [1, 8]) (by kernel_rfl) (by simp) ?_
          refine AllReadyH.cons rfl (fun K hK => ?_) (AllReadyH.cons rfl (fun K hK => ?_) (AllReadyH.nil))
          · go_simp
            refine (cu_.New _ _ _ _).mono ?_
            rintro e vv ⟨rfl, h1'⟩
            replace zB := hide (zB.out.below h1')
            refine hK.out _ _ (⟨hide (hHeld.1.out.below h1'), hide (bel_next hHeld.2.out h1')⟩) (fun hHeld => ?_)
            clear hK K h1'
            try simp only [Act.put, List.setIfInBounds_toArray, List.set_cons_zero, List.set_cons_succ]
            refine hE.out _ _ _ _ ?_
            have hh := st110.out _ gB hHeld lB zB
            try simp only [Act.put, List.setIfInBounds_toArray, List.set_cons_zero, List.set_cons_succ] at hh
            exact hh
          · go_simp
            have lC := hHeld.2.out.size
            have zC := hide (Ro.new wv #[.slice none 0 0, .int .i64 0, .int .i64 0, .int .i64 0] 25)
            have ne := (show gB ≠ wv.heap.size from fun h => by have := zB.out.lt; omega)
            replace zB := hide (zB.out.alloc (.cells #[.slice none 0 0, .int .i64 0, .int .i64 0, .int .i64 0] 25))
            refine hK.out _ _ (⟨hide (hHeld.1.out.alloc _), hide (bl_alloc hHeld.2.out _)⟩) (fun hHeld => ?_)
            clear hK K
            try simp only [Act.put, List.setIfInBounds_toArray, List.set_cons_zero, List.set_cons_succ]
            refine hE.out _ _ _ _ ?_
            have hh := st011.out _ gB wv.heap.size hHeld lB zB lC zC ne
            try simp only [Act.put, List.setIfInBounds_toArray, List.set_cons_zero, List.set_cons_succ] at hh
            exact hh)
        have st001 := hide (show ∀ (wv : World) (gC : Nat), (Hid (Ro wv (g5) (#[.int .i64 2, .int .u32 0, .int .u32 2, .int .u32 0, .int .u32 1, .int .u32 2, .int .u32 2]) 28) ∧ Hid (Below w11.heap.size w11 wv)) → w11.heap.size ≤ gC → Hid (Ro wv gC #[.slice none 0 0, .int .i64 0, .int .i64 0, .int .i64 0] 25) → F 8 #[true, false, true, false, false, false, false, false, true, false, false] { tmps := (((T.setIfInBounds 54 (.slice (some ⟨ga, 0, none⟩) 21 c10)).setIfInBounds 56 (.agg #[.int .i64 2, .int .u32 0, .int .u32 2, .int .u32 0, .int .u32 1, .int .u32 2, .int .u32 2])).setIfInBounds 12 (.pointer (some ⟨gC, 0, none⟩))), defers := D } wv from by
          intro wv gC hHeld lC zC
          refine hI.out _ _ _ _ ?_
          obtain ⟨rfl, rfl⟩ := Act.mk.inj hTD.out
          try simp only [Act.put, List.setIfInBounds_toArray, List.set_cons_zero, List.set_cons_succ]
          refine wpAnyH_ready (rs := [1, 7]) (by kernel_rfl) (by simp) ?_
          refine AllReadyH.cons rfl (fun K hK => ?_) (AllReadyH.cons rfl (fun K hK => ?_) (AllReadyH.nil))
          · go_simp
            refine (cu_.New _ _ _ _).mono ?_
            rintro e vv ⟨rfl, h1'⟩
            replace zC := hide (zC.out.below h1')
            refine hK.out _ _ (⟨hide (hHeld.1.out.below h1'), hide (bel_next hHeld.2.out h1')⟩) (fun hHeld => ?_)
            clear hK K h1'
            try simp only [Act.put, List.setIfInBounds_toArray, List.set_cons_zero, List.set_cons_succ]
            refine hE.out _ _ _ _ ?_
            have hh := st101.out _ gC hHeld lC zC
            try simp only [Act.put, List.setIfInBounds_toArray, List.set_cons_zero, List.set_cons_succ] at hh
            exact hh
          · go_simp
            have lB := hHeld.2.out.size
            have zB := hide (Ro.new wv #[.slice none 0 0, .slice none 0 0, .slice none 0 0, .slice none 0 0, .slice none 0 0, .slice none 0 0, .slice none 0 0] 34)
            have ne := (show wv.heap.size ≠ gC from fun h => by have := zC.out.lt; omega)
            replace zC := hide (zC.out.alloc (.cells #[.slice none 0 0, .slice none 0 0, .slice none 0 0, .slice none 0 0, .slice none 0 0, .slice none 0 0, .slice none 0 0] 34))
            refine hK.out _ _ (⟨hide (hHeld.1.out.alloc _), hide (bl_alloc hHeld.2.out _)⟩) (fun hHeld => ?_)
            clear hK K
            try simp only [Act.put, List.setIfInBounds_toArray, List.set_cons_zero, List.set_cons_succ]
            refine hE.out _ _ _ _ ?_
            have hh := st011.out _ wv.heap.size gC hHeld lB zB lC zC ne
            try simp only [Act.put, List.setIfInBounds_toArray, List.set_cons_zero, List.set_cons_succ] at hh
            exact hh)
        have st000 := hide (show ∀ (wv : World), (Hid (Ro wv (g5) (#[.int .i64 2, .int .u32 0, .int .u32 2, .int .u32 0, .int .u32 1, .int .u32 2, .int .u32 2]) 28) ∧ Hid (Below w11.heap.size w11 wv)) → F 9 #[true, false, true, false, false, false, false, false, false, false, false] { tmps := ((T.setIfInBounds 54 (.slice (some ⟨ga, 0, none⟩) 21 c10)).setIfInBounds 56 (.agg #[.int .i64 2, .int .u32 0, .int .u32 2, .int .u32 0, .int .u32 1, .int .u32 2, .int .u32 2])), defers := D } wv from by
          intro wv  hHeld 
          refine hI.out _ _ _ _ ?_
          obtain ⟨rfl, rfl⟩ := Act.mk.inj hTD.out
          try simp only [Act.put, List.setIfInBounds_toArray, List.set_cons_zero, List.set_cons_succ]
          refine wpAnyH_ready (rs := [1, 7, 8]) (by kernel_rfl) (by simp) ?_
          refine AllReadyH.cons rfl (fun K hK => ?_) (AllReadyH.cons rfl (fun K hK => ?_) (AllReadyH.cons rfl (fun K hK => ?_) (AllReadyH.nil)))
          · go_simp
            refine (cu_.New _ _ _ _).mono ?_
            rintro e vv ⟨rfl, h1'⟩
            refine hK.out _ _ (⟨hide (hHeld.1.out.below h1'), hide (bel_next hHeld.2.out h1')⟩) (fun hHeld => ?_)
            clear hK K h1'
            try simp only [Act.put, List.setIfInBounds_toArray, List.set_cons_zero, List.set_cons_succ]
            refine hE.out _ _ _ _ ?_
            have hh := st100.out _  hHeld
            try simp only [Act.put, List.setIfInBounds_toArray, List.set_cons_zero, List.set_cons_succ] at hh
            exact hh
          · go_simp
            have lB := hHeld.2.out.size
            have zB := hide (Ro.new wv #[.slice none 0 0, .slice none 0 0, .slice none 0 0, .slice none 0 0, .slice none 0 0, .slice none 0 0, .slice none 0 0] 34)
            refine hK.out _ _ (⟨hide (hHeld.1.out.alloc _), hide (bl_alloc hHeld.2.out _)⟩) (fun hHeld => ?_)
            clear hK K
            try simp only [Act.put, List.setIfInBounds_toArray, List.set_cons_zero, List.set_cons_succ]
            refine hE.out _ _ _ _ ?_
            have hh := st010.out _ wv.heap.size hHeld lB zB
            try simp only [Act.put, List.setIfInBounds_toArray, List.set_cons_zero, List.set_cons_succ] at hh
            exact hh
          · go_simp
            have lC := hHeld.2.out.size
            have zC := hide (Ro.new wv #[.slice none 0 0, .int .i64 0, .int .i64 0, .int .i64 0] 25)
            refine hK.out _ _ (⟨hide (hHeld.1.out.alloc _), hide (bl_alloc hHeld.2.out _)⟩) (fun hHeld => ?_)
            clear hK K
            try simp only [Act.put, List.setIfInBounds_toArray, List.set_cons_zero, List.set_cons_succ]
            refine hE.out _ _ _ _ ?_
            have hh := st001.out _ wv.heap.size hHeld lC zC
            try simp only [Act.put, List.setIfInBounds_toArray, List.set_cons_zero, List.set_cons_succ] at hh
            exact hh)
        have hh := st000.out _ hHeld
        obtain ⟨rfl, rfl⟩ := Act.mk.inj hTD.out
        try simp only [Act.put, List.setIfInBounds_toArray, List.set_cons_zero, List.set_cons_succ] at hh
        exact hh
      case rest =>
        rename World => wx11
        obtain ⟨gB11, gC11, S11, rfl, rfl, lB11, lC11, ne11, k11, k12, oS, -, -, h1⟩ := hcut
        replace h1 := h1.out
        replace k1 := hide (k1.out.below h1)
        replace i0 := hide (i0.out.below h1)
        replace r2 := hide (r2.out.below h1)
        replace k3 := hide (k3.out.below h1)
        replace i1 := hide (i1.out.below h1)
        replace r4 := hide (r4.out.below h1)
        replace k5 := hide (k5.out.below h1)
        replace k6 := hide (k6.out.below h1)
        replace k7 := hide (k7.out.below h1)
        replace i6 := hide (i6.out.below h1)
        replace k9 := hide (k9.out.below h1)
        replace r10 := hide (r10.out.below h1)
        replace HT := hide (HT.out.below h1)
        replace hb := hide (bel_next hb.out h1)
        clear h1
        have i11 := hide oS.out.is
        clear oS
        clear k11 i11 r10
        go_wp2_with fail
        have r7 := Rd.ints wx11 5 .u8 ([0, 0, 0, 0, 0, 0, 0] : List Int) 7 rfl rfl
        have h1 := bl_new wx11 (.cells #[.int .u8 0, .int .u8 0, .int .u8 0, .int .u8 0, .int .u8 0, .int .u8 0, .int .u8 0] 5)
        replace k1 := hide (k1.out.below h1)
        replace i0 := hide (i0.out.below h1)
        replace r2 := hide (r2.out.below h1)
        replace k3 := hide (k3.out.below h1)
        replace i1 := hide (i1.out.below h1)
        replace r4 := hide (r4.out.below h1)
        replace k5 := hide (k5.out.below h1)
        replace k6 := hide (k6.out.below h1)
        replace k7 := hide (k7.out.below h1)
        replace i6 := hide (i6.out.below h1)
        replace k9 := hide (k9.out.below h1)
        replace k12 := hide (k12.out.below h1)
        replace HT := hide (HT.out.below h1)
        replace hb := hide (bel_next hb.out h1)
        clear h1
        refine (r1_.Same _ _ _ _ _ _ _ _ (by decide) r2.out r7).mono ?_
        rintro e wa ⟨rfl, h1⟩
        replace k1 := hide (k1.out.below h1)
        replace i0 := hide (i0.out.below h1)
        replace r2 := hide (r2.out.below h1)
        replace k3 := hide (k3.out.below h1)
        replace i1 := hide (i1.out.below h1)
        replace r4 := hide (r4.out.below h1)
        replace k5 := hide (k5.out.below h1)
        replace k6 := hide (k6.out.below h1)
        replace k7 := hide (k7.out.below h1)
        replace i6 := hide (i6.out.below h1)
        replace k9 := hide (k9.out.below h1)
        replace k12 := hide (k12.out.below h1)
        replace HT := hide (HT.out.below h1)
        replace hb := hide (bel_next hb.out h1)
        clear h1
        clear r7
        obtain ⟨af0, ef0, f0⟩ := r4.out.int (i := 0) (by decide)
        subst ef0
        obtain ⟨af4, ef4, f4⟩ := r4.out.int (i := 4) (by decide)
        cases ef4
        obtain ⟨af20, ef20, f20⟩ := r4.out.int (i := 20) (by decide)
        cases ef20
        simp at f0 f4 f20
        simp [go_sem] at f0 f4 f20
        obtain ⟨k5c0, _⟩ := ro_cf k5.out 0 _ rfl
        obtain ⟨k5c1, _⟩ := ro_cf k5.out 1 _ rfl
        obtain ⟨k5c2, _⟩ := ro_cf k5.out 2 _ rfl
        obtain ⟨k5c3, _⟩ := ro_cf k5.out 3 _ rfl
        obtain ⟨k5c4, _⟩ := ro_cf k5.out 4 _ rfl
        obtain ⟨k5c5, _⟩ := ro_cf k5.out 5 _ rfl
        obtain ⟨k5c6, _⟩ := ro_cf k5.out 6 _ rfl
        obtain ⟨k3c0, _⟩ := ro_cf k3.out 0 _ rfl
        obtain ⟨k3c1, _⟩ := ro_cf k3.out 1 _ rfl
        obtain ⟨k3c2, _⟩ := ro_cf k3.out 2 _ rfl
        obtain ⟨k3c3, _⟩ := ro_cf k3.out 3 _ rfl
        obtain ⟨k3c4, _⟩ := ro_cf k3.out 4 _ rfl
        obtain ⟨k3c5, _⟩ := ro_cf k3.out 5 _ rfl
        obtain ⟨k3c6, _⟩ := ro_cf k3.out 6 _ rfl
        obtain ⟨k6c0, _⟩ := ro_cf k6.out 0 _ rfl
        obtain ⟨k6c1, _⟩ := ro_cf k6.out 1 _ rfl
        obtain ⟨k6c2, _⟩ := ro_cf k6.out 2 _ rfl
        obtain ⟨k6c3, _⟩ := ro_cf k6.out 3 _ rfl
        obtain ⟨k6c4, _⟩ := ro_cf k6.out 4 _ rfl
        obtain ⟨k6c5, _⟩ := ro_cf k6.out 5 _ rfl
        obtain ⟨k6c6, _⟩ := ro_cf k6.out 6 _ rfl
        go_wp2_with fail
        refine (r19_.Equal _ _ _ _ _ i1.out i6.out).mono ?_
        rintro e wb ⟨rfl, h1⟩
        clear k5c0 k5c1 k5c2 k5c3 k5c4 k5c5 k5c6
        clear k3c0 k3c1 k3c2 k3c3 k3c4 k3c5 k3c6
        clear k6c0 k6c1 k6c2 k6c3 k6c4 k6c5 k6c6
        replace k1 := hide (k1.out.below h1)
        replace i0 := hide (i0.out.below h1)
        replace r2 := hide (r2.out.below h1)
        replace k3 := hide (k3.out.below h1)
        replace i1 := hide (i1.out.below h1)
        replace r4 := hide (r4.out.below h1)
        replace k5 := hide (k5.out.below h1)
        replace k6 := hide (k6.out.below h1)
        replace k7 := hide (k7.out.below h1)
        replace i6 := hide (i6.out.below h1)
        replace k9 := hide (k9.out.below h1)
        replace k12 := hide (k12.out.below h1)
        replace HT := hide (HT.out.below h1)
        replace hb := hide (bel_next hb.out h1)
        clear h1
        rw [beqB_self]
        clear f0 f4 f20
        obtain ⟨k7c1, _⟩ := ro_cf k7.out 1 _ rfl
        obtain ⟨k7c2, _⟩ := ro_cf k7.out 2 _ rfl
        obtain ⟨k9c2, _⟩ := ro_cf k9.out 2 _ rfl
        obtain ⟨k9c3, _⟩ := ro_cf k9.out 3 _ rfl
        obtain ⟨k12c2, _⟩ := ro_cf k12.out 2 _ rfl
        obtain ⟨k12c3, _⟩ := ro_cf k12.out 3 _ rfl
        obtain ⟨k3c0, _⟩ := ro_cf k3.out 0 _ rfl
        obtain ⟨k3c1, _⟩ := ro_cf k3.out 1 _ rfl
        obtain ⟨k3c2, _⟩ := ro_cf k3.out 2 _ rfl
        obtain ⟨k3c3, _⟩ := ro_cf k3.out 3 _ rfl
        obtain ⟨k3c4, _⟩ := ro_cf k3.out 4 _ rfl
        obtain ⟨k3c5, _⟩ := ro_cf k3.out 5 _ rfl
        obtain ⟨k3c6, _⟩ := ro_cf k3.out 6 _ rfl
        obtain ⟨k6c0, _⟩ := ro_cf k6.out 0 _ rfl
        obtain ⟨k6c1, _⟩ := ro_cf k6.out 1 _ rfl
        obtain ⟨k6c2, _⟩ := ro_cf k6.out 2 _ rfl
        obtain ⟨k6c3, _⟩ := ro_cf k6.out 3 _ rfl
        obtain ⟨k6c4, _⟩ := ro_cf k6.out 4 _ rfl
        obtain ⟨k6c5, _⟩ := ro_cf k6.out 5 _ rfl
        obtain ⟨k6c6, _⟩ := ro_cf k6.out 6 _ rfl
        go_wp2_with fail
        refine (bl_.Equal _ _ _ _ _ HT.out i1.out i6.out).mono ?_
        rintro e wc ⟨rfl, h1⟩
        clear k7c1 k7c2 k9c2 k9c3 k12c2 k12c3
        clear k3c0 k3c1 k3c2 k3c3 k3c4 k3c5 k3c6
        clear k6c0 k6c1 k6c2 k6c3 k6c4 k6c5 k6c6
        replace k1 := hide (k1.out.below h1)
        replace i0 := hide (i0.out.below h1)
        replace r2 := hide (r2.out.below h1)
        replace k3 := hide (k3.out.below h1)
        replace i1 := hide (i1.out.below h1)
        replace r4 := hide (r4.out.below h1)
        replace k5 := hide (k5.out.below h1)
        replace k6 := hide (k6.out.below h1)
        replace k7 := hide (k7.out.below h1)
        replace i6 := hide (i6.out.below h1)
        replace k9 := hide (k9.out.below h1)
        replace k12 := hide (k12.out.below h1)
        replace HT := hide (HT.out.below h1)
        replace hb := hide (bel_next hb.out h1)
        clear h1
        rw [beqB_self]
        obtain ⟨k3c0, _⟩ := ro_cf k3.out 0 _ rfl
        obtain ⟨k3c1, _⟩ := ro_cf k3.out 1 _ rfl
        obtain ⟨k3c2, _⟩ := ro_cf k3.out 2 _ rfl
        obtain ⟨k3c3, _⟩ := ro_cf k3.out 3 _ rfl
        obtain ⟨k3c4, _⟩ := ro_cf k3.out 4 _ rfl
        obtain ⟨k3c5, _⟩ := ro_cf k3.out 5 _ rfl
        obtain ⟨k3c6, _⟩ := ro_cf k3.out 6 _ rfl
        obtain ⟨k1c0, _⟩ := ro_cf k1.out 0 _ rfl
        obtain ⟨k1c1, _⟩ := ro_cf k1.out 1 _ rfl
        obtain ⟨k1c2, _⟩ := ro_cf k1.out 2 _ rfl
        obtain ⟨k1c3, _⟩ := ro_cf k1.out 3 _ rfl
        obtain ⟨k1c4, _⟩ := ro_cf k1.out 4 _ rfl
        obtain ⟨k1c5, _⟩ := ro_cf k1.out 5 _ rfl
        obtain ⟨k1c6, _⟩ := ro_cf k1.out 6 _ rfl
        go_wp2_with fail
        refine (bl_.Equal _ _ _ _ _ HT.out i1.out i0.out).mono ?_
        rintro e wd ⟨rfl, h1⟩
        clear k3c0 k3c1 k3c2 k3c3 k3c4 k3c5 k3c6
        clear k1c0 k1c1 k1c2 k1c3 k1c4 k1c5 k1c6
        replace k1 := hide (k1.out.below h1)
        replace i0 := hide (i0.out.below h1)
        replace r2 := hide (r2.out.below h1)
        replace k3 := hide (k3.out.below h1)
        replace i1 := hide (i1.out.below h1)
        replace r4 := hide (r4.out.below h1)
        replace k5 := hide (k5.out.below h1)
        replace k6 := hide (k6.out.below h1)
        replace k7 := hide (k7.out.below h1)
        replace i6 := hide (i6.out.below h1)
        replace k9 := hide (k9.out.below h1)
        replace k12 := hide (k12.out.below h1)
        replace HT := hide (HT.out.below h1)
        replace hb := hide (bel_next hb.out h1)
        clear h1
        rw [show beqB aB1 aB0 = false from by decide]
        go_wp2
        go_ret
        exact ⟨rfl, hb.out⟩
end l19_
end Go.Proofs.YtbajdlgcajeldaaGreatDoor

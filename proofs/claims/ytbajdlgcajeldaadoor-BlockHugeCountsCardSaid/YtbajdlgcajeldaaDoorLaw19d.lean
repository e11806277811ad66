/-
  THE WALKS OF THE LAWS OF LAYER 19 (zoneinfolaw19): BlockHugeCounts. Condition: the table's fact.
-/
import Derived.Test.YtbajdlgcajeldaaDoorLaw19
import Derived.Test.YtbajdlgcajeldaaDoorLaw19w
namespace Go.Proofs.YtbajdlgcajeldaaDoor
open Go.ChangeShapes Go.WideShapes Go.ChangeAt Go.RowKit
set_option linter.unusedVariables false
set_option linter.unusedSimpArgs false
set_option maxRecDepth 100000
namespace l19_
set_option maxHeartbeats 16000000 in
theorem huge (A1 : Option Addr) (n1 c1 : Nat) (z1 : List Int) (v a b c d x y : Int) (wd : Bool) (q : Int) (w : World) (hT : Tq w) (h1 : IsRw .u8 w A1 n1 c1 z1) (hv : (Lit.int .i64 v).wf = true) (ha : (Lit.int .u32 a).wf = true) (hb_ : (Lit.int .u32 b).wf = true) (hc : (Lit.int .u32 c).wf = true) (hd : (Lit.int .u32 d).wf = true) (hx : (Lit.int .u32 x).wf = true) (hy : (Lit.int .u32 y).wf = true) (hq : (Lit.int .u8 q).wf = true) :
    Calls Tryd.prog 5 #[.slice A1 n1 c1, .agg #[.int .i64 v, .int .u32 a, .int .u32 b, .int .u32 c, .int .u32 d, .int .u32 x, .int .u32 y], .bool wd, .int .u8 q] w fun e w' => e = .returned (.bool true) ∧ Below w.heap.size w w' := by
  have r1 := hide h1.rd
  have B1 := hide (show Bytes (z1.take n1) from bytes_of_mem fun q hq => wf_u8 (h1.wf q hq))
  have nil1 := hide h1.nil
  obtain ⟨oc1, om1⟩ := h1.cap
  obtain ⟨a, rfl⟩ : ∃ m : Nat, a = (m : Int) := ⟨a.toNat, by have := (c32_ ha).1; omega⟩
  obtain ⟨b, rfl⟩ : ∃ m : Nat, b = (m : Int) := ⟨b.toNat, by have := (c32_ hb_).1; omega⟩
  obtain ⟨c, rfl⟩ : ∃ m : Nat, c = (m : Int) := ⟨c.toNat, by have := (c32_ hc).1; omega⟩
  obtain ⟨d, rfl⟩ : ∃ m : Nat, d = (m : Int) := ⟨d.toNat, by have := (c32_ hd).1; omega⟩
  obtain ⟨x, rfl⟩ : ∃ m : Nat, x = (m : Int) := ⟨x.toNat, by have := (c32_ hx).1; omega⟩
  obtain ⟨y, rfl⟩ : ∃ m : Nat, y = (m : Int) := ⟨y.toNat, by have := (c32_ hy).1; omega⟩
  have C0 : C32 (a : Int) ∧ C32 (b : Int) ∧ C32 (c : Int) ∧ C32 (d : Int) ∧ C32 (x : Int) ∧ C32 (y : Int) := ⟨c32_ ha, c32_ hb_, c32_ hc, c32_ hd, c32_ hx, c32_ hy⟩
  clear hv ha hb_ hc hd hx hy h1
  obtain ⟨q0, q1⟩ := wf_u8 hq
  clear hq
  have hb := hide (bl_new w (.cells #[.int .i64 v, .int .u32 (a : Int), .int .u32 (b : Int), .int .u32 (c : Int), .int .u32 (d : Int), .int .u32 (x : Int), .int .u32 (y : Int)] 35))
  have k5 := hide (Ro.new w #[.int .i64 v, .int .u32 (a : Int), .int .u32 (b : Int), .int .u32 (c : Int), .int .u32 (d : Int), .int .u32 (x : Int), .int .u32 (y : Int)] 35)
  have HT := hide (hT.below hb.out)
  have HT0 := hide hT
  have r0 := r1
  replace r1 := hide (r1.out.below hb.out)
  clear hT
  go_enter Tryd.func5, Tryd.ntmps5
  go_upto_region 1 with fail
  generalize w.alloc (.cells #[.int .i64 v, .int .u32 (a : Int), .int .u32 (b : Int), .int .u32 (c : Int), .int .u32 (d : Int), .int .u32 (x : Int), .int .u32 (y : Int)] 35) = u1 at *
  go_wp2_with fail
  refine (awake _ HT.out).mono ?_
  rintro e w1 ⟨rfl, h1⟩
  replace k5 := hide (k5.out.below h1)
  replace r1 := hide (r1.out.below h1)
  replace HT := hide (HT.out.below h1)
  replace hb := hide (bel_next hb.out h1)
  clear h1
  by_cases hn : 1000 < n1
  · go_wp2_with fail
    refine (awake _ HT.out).mono ?_
    rintro e w2 ⟨rfl, h1⟩
    replace k5 := hide (k5.out.below h1)
    replace r1 := hide (r1.out.below h1)
    replace HT := hide (HT.out.below h1)
    replace hb := hide (bel_next hb.out h1)
    clear h1
    go_wp2
    go_ret
    exact ⟨rfl, hb.out⟩
  · have hn2 : (n1 : Int) ≤ 1000 := by omega
    go_upto_region 3 with fail
    go_cut [20] (fun s20 wz => s20 = .int .u8 (q % 6) ∧ wz = w1)
    case first =>
      go_wp2_with fail
      go_meet
      exact ⟨rfl, rfl⟩
    case rest =>
      obtain ⟨rfl, rfl⟩ := hcut
      go_step
      go_cut [] (fun wz => ∃ a' b' c' d' x' y' : Nat, LyC a' b' c' d' x' y' 4 ∧ 4294967295 ≤ a' + b' + c' + d' + x' + y' ∧ Hid (Ro wz w.heap.size #[.int .i64 v, .int .u32 (a' : Int), .int .u32 (b' : Int), .int .u32 (c' : Int), .int .u32 (d' : Int), .int .u32 (x' : Int), .int .u32 (y' : Int)] 35) ∧ Hid (Below w.heap.size w wz))
      case first =>
        have h6 : q % 6 = 0 ∨ q % 6 = 1 ∨ q % 6 = 2 ∨ q % 6 = 3 ∨ q % 6 = 4 ∨ q % 6 = 5 := by omega
        clear q0 q1
        generalize q % 6 = t at *
        obtain ⟨C1, C2, C3, C4, C5, C6⟩ := C0
        rcases h6 with rfl | rfl | rfl | rfl | rfl | rfl
        · obtain ⟨y0, w0⟩ := ro_cf k5.out 4 _ rfl
          go_wp2_with fail
          go_meet
          exact ⟨a, b, c, (4294967295 : Nat), x, y, ⟨C1, C2, C3, (by unfold C32; omega), C5, C6, .inl rfl⟩, by omega, hide (by have := ro_set k5.out 4 (.int .u32 4294967295); simpa using this), hide (bl_set hb.out (Nat.le_refl _) _)⟩
        · obtain ⟨y0, w0⟩ := ro_cf k5.out 5 _ rfl
          go_wp2_with fail
          go_meet
          exact ⟨a, b, c, d, (4294967295 : Nat), y, ⟨C1, C2, C3, C4, (by unfold C32; omega), C6, .inl rfl⟩, by omega, hide (by have := ro_set k5.out 5 (.int .u32 4294967295); simpa using this), hide (bl_set hb.out (Nat.le_refl _) _)⟩
        · obtain ⟨y0, w0⟩ := ro_cf k5.out 6 _ rfl
          go_wp2_with fail
          go_meet
          exact ⟨a, b, c, d, x, (4294967295 : Nat), ⟨C1, C2, C3, C4, C5, (by unfold C32; omega), .inl rfl⟩, by omega, hide (by have := ro_set k5.out 6 (.int .u32 4294967295); simpa using this), hide (bl_set hb.out (Nat.le_refl _) _)⟩
        · obtain ⟨y0, w0⟩ := ro_cf k5.out 3 _ rfl
          go_wp2_with fail
          go_meet
          exact ⟨a, b, (4294967295 : Nat), d, x, y, ⟨C1, C2, (by unfold C32; omega), C4, C5, C6, .inl rfl⟩, by omega, hide (by have := ro_set k5.out 3 (.int .u32 4294967295); simpa using this), hide (bl_set hb.out (Nat.le_refl _) _)⟩
        · obtain ⟨y0, w0⟩ := ro_cf k5.out 2 _ rfl
          go_wp2_with fail
          go_meet
          exact ⟨a, (4294967295 : Nat), c, d, x, y, ⟨C1, (by unfold C32; omega), C3, C4, C5, C6, .inl rfl⟩, by omega, hide (by have := ro_set k5.out 2 (.int .u32 4294967295); simpa using this), hide (bl_set hb.out (Nat.le_refl _) _)⟩
        · obtain ⟨y0, w0⟩ := ro_cf k5.out 1 _ rfl
          go_wp2_with fail
          go_meet
          exact ⟨(4294967295 : Nat), b, c, d, x, y, ⟨(by unfold C32; omega), C2, C3, C4, C5, C6, .inl rfl⟩, by omega, hide (by have := ro_set k5.out 1 (.int .u32 4294967295); simpa using this), hide (bl_set hb.out (Nat.le_refl _) _)⟩
      case rest =>
        obtain ⟨a', b', c', d', x', y', hL, hM, k5, hb⟩ := hcut
        rename World => wx
        have HT := hide (HT0.out.below hb.out)
        have r1 := hide (r0.out.below hb.out)
        clear C0
        obtain ⟨k, hk, hK⟩ : ∃ k : Nat, (k = 4 ∨ k = 8) ∧ (if wd = true then (8 : Int) else 4) = (k : Int) := by cases wd; exact ⟨4, .inl rfl, rfl⟩; exact ⟨8, .inr rfl, rfl⟩
        have Zs := hide (fun w => (r14_.SizeB wd w).mono (R' := fun e w' => e = .returned (.int .i64 (k : Int)) ∧ Below w.heap.size w w') (by rintro e w' ⟨rfl, h⟩; exact ⟨by rw [hK], h⟩))
        have hL2 : LyC a' b' c' d' x' y' (k : Int) := ⟨hL.a, hL.b, hL.c, hL.d, hL.x, hL.y, by omega⟩
        have hln : (z1.take n1).length = n1 := by have := r0.out.len; simpa using this
        have hq : DecAt k a' b' c' d' x' y' (z1.take n1) 0 0 0 0 Bk.zero 0 1 (n1 : Int) := ⟨fun h => absurd rfl h, fun _ => ⟨rfl, 0, rfl, Nat.zero_le _, by unfold decB; rw [if_pos (by rw [hln]; unfold tot; rcases hk with rfl | rfl <;> omega), hln]; rfl⟩⟩
        have D := hide (fun w hT hr => bl_.DecodeQ A1 n1 c1 (z1.take n1) v a' b' c' d' x' y' k k 0 0 0 0 Bk.zero 0 1 n1 w hT rfl hk hL2 nil1.out oc1 om1 hr B1.out (by omega) hq)
        dsimp only [bkV, cu, hdV] at D
        clear hL hL2 hM hk hK hq hln
        replace hn2 := hide hn2
        clear hn hn2
        go_upto_region 16 with fail
        go_cut [9, 10] (fun s9 s10 wz => ∃ (gB gC : Nat) (S9 : BkS), s9 = .pointer (some ⟨gB, 0, none⟩) ∧ s10 = .pointer (some ⟨gC, 0, none⟩) ∧ wx.heap.size ≤ gB ∧ wx.heap.size ≤ gC ∧ gB ≠ gC ∧ Hid (Ro wz gB #[.slice S9.ti.A S9.ti.n S9.ti.c, .slice S9.ix.A S9.ix.n S9.ix.c, .slice S9.ty.A S9.ty.n S9.ty.c, .slice S9.ch.A S9.ch.n S9.ch.c, .slice S9.lp.A S9.lp.n S9.lp.c, .slice S9.sd.A S9.sd.n S9.sd.c, .slice S9.ut.A S9.ut.n S9.ut.c] 28) ∧ Hid (Ro wz gC #[.slice A1 n1 c1, .int .i64 0, .int .i64 1, .int .i64 (n1 : Int)] 39) ∧ Hid (OwBk wz wx.heap.size S9 Bk.zero) ∧ Hid (NeS S9 gB) ∧ Hid (NeS S9 gC) ∧ Hid (Below wx.heap.size wx wz))
        case first =>
          have lbx0 := (show w.heap.size < wx.heap.size from k5.out.lt)
          refine wp_region_held_drew (S := fun w' => Hid (Ro w' (w.heap.size) (#[.int .i64 v, .int .u32 (a' : Int), .int .u32 (b' : Int), .int .u32 (c' : Int), .int .u32 (d' : Int), .int .u32 (x' : Int), .int .u32 (y' : Int)]) 35) ∧ Hid (Below wx.heap.size wx w')) (by kernel_rfl) (⟨hide k5.out.drew, hide (bl_drew (bl_refl _))⟩) (fun hHeld => ?_)
          generalize wx.drew = u0 at *
          refine wpAnyH_takeD (i := 0) (d := (some 40)) (v := ?_) rfl rfl (by kernel_rfl) (by kernel_rfl) (by kernel_rfl) (fun _ _ _ h => h) (Or.inl ⟨by rfl, ?_⟩) (by assumption) ?_
          rotate_left
          · ((intro w hSw; go_simp) <;> with_reducible rfl)
          try simp only [Act.put, List.setIfInBounds_toArray, List.set_cons_zero, List.set_cons_succ]
          refine wpAnyH_takeD (i := 2) (d := (some 42)) rfl rfl (by kernel_rfl) (by kernel_rfl) (by kernel_rfl) (fun _ _ _ h => h) (yieldsIf_load_row (by rfl) 35 _ rfl (w.heap.size) rfl 35 #[.int .i64 v, .int .u32 (a' : Int), .int .u32 (b' : Int), .int .u32 (c' : Int), .int .u32 (d' : Int), .int .u32 (x' : Int), .int .u32 (y' : Int)] _ (fun w hw => hw.1.out) Tryd.underlying35 rfl (by kernel_rfl)) (by assumption) ?_
          try simp only [Act.put, List.setIfInBounds_toArray, List.set_cons_zero, List.set_cons_succ]
          refine wpAnyH_takeD (i := 3) (d := (some 43)) (v := ?_) rfl rfl (by kernel_rfl) (by kernel_rfl) (by kernel_rfl) (fun _ _ _ h => h) (Or.inl ⟨by rfl, ?_⟩) (by assumption) ?_
          rotate_left
          · ((intro w hSw; go_simp) <;> with_reducible rfl)
          try simp only [Act.put, List.setIfInBounds_toArray, List.set_cons_zero, List.set_cons_succ]
          refine wpAnyH_share (fun F hI hE T D hTD => ?_)
          have st311 := hide (show ∀ (wv : World) (S9 : BkS) (gB : Nat) (gC : Nat), (Hid (Ro wv (w.heap.size) (#[.int .i64 v, .int .u32 (a' : Int), .int .u32 (b' : Int), .int .u32 (c' : Int), .int .u32 (d' : Int), .int .u32 (x' : Int), .int .u32 (y' : Int)]) 35) ∧ Hid (Below wx.heap.size wx wv)) → wx.heap.size ≤ gB → Hid (Ro wv gB #[.slice none 0 0, .slice none 0 0, .slice none 0 0, .slice none 0 0, .slice none 0 0, .slice none 0 0, .slice none 0 0] 28) → wx.heap.size ≤ gC → Hid (Ro wv gC #[.slice none 0 0, .int .i64 0, .int .i64 0, .int .i64 0] 39) → gB ≠ gC → Hid (OwBk wv wx.heap.size S9 Bk.zero) → Hid (NeS S9 gB) → Hid (NeS S9 gC) → F 2 #[true, true, true, true, true, true, true, true, true, true, true, false, false] { tmps := (((((((((((T.setIfInBounds 40 (.slice A1 n1 c1)).setIfInBounds 41 (.agg #[.slice A1 n1 c1, .int .i64 0, .int .i64 0, .int .i64 0])).setIfInBounds 42 (.agg #[.int .i64 v, .int .u32 (a' : Int), .int .u32 (b' : Int), .int .u32 (c' : Int), .int .u32 (d' : Int), .int .u32 (x' : Int), .int .u32 (y' : Int)])).setIfInBounds 43 (.bool wd)).setIfInBounds 44 (.int .i64 (k : Int))).setIfInBounds 45 (.tuple #[.agg #[.slice S9.ti.A S9.ti.n S9.ti.c, .slice S9.ix.A S9.ix.n S9.ix.c, .slice S9.ty.A S9.ty.n S9.ty.c, .slice S9.ch.A S9.ch.n S9.ch.c, .slice S9.lp.A S9.lp.n S9.lp.c, .slice S9.sd.A S9.sd.n S9.sd.c, .slice S9.ut.A S9.ut.n S9.ut.c], .agg #[.slice A1 n1 c1, .int .i64 0, .int .i64 1, .int .i64 (n1 : Int)]])).setIfInBounds 39 (.tuple #[.agg #[.slice S9.ti.A S9.ti.n S9.ti.c, .slice S9.ix.A S9.ix.n S9.ix.c, .slice S9.ty.A S9.ty.n S9.ty.c, .slice S9.ch.A S9.ch.n S9.ch.c, .slice S9.lp.A S9.lp.n S9.lp.c, .slice S9.sd.A S9.sd.n S9.sd.c, .slice S9.ut.A S9.ut.n S9.ut.c], .agg #[.slice A1 n1 c1, .int .i64 0, .int .i64 1, .int .i64 (n1 : Int)]])).setIfInBounds 46 (.agg #[.slice S9.ti.A S9.ti.n S9.ti.c, .slice S9.ix.A S9.ix.n S9.ix.c, .slice S9.ty.A S9.ty.n S9.ty.c, .slice S9.ch.A S9.ch.n S9.ch.c, .slice S9.lp.A S9.lp.n S9.lp.c, .slice S9.sd.A S9.sd.n S9.sd.c, .slice S9.ut.A S9.ut.n S9.ut.c])).setIfInBounds 47 (.agg #[.slice A1 n1 c1, .int .i64 0, .int .i64 1, .int .i64 (n1 : Int)])).setIfInBounds 9 (.pointer (some ⟨gB, 0, none⟩))).setIfInBounds 10 (.pointer (some ⟨gC, 0, none⟩))), defers := D } wv from by
            intro wv S9 gB gC hHeld lB zB lC zC ne oS nB nC
            refine hI.out _ _ _ _ ?_
            obtain ⟨rfl, rfl⟩ := Act.mk.inj hTD.out
            try simp only [Act.put, List.setIfInBounds_toArray, List.set_cons_zero, List.set_cons_succ]
            refine wpAnyH_ready (rs := [11]) (by kernel_rfl) (by simp) ?_
            refine AllReadyH.cons rfl (fun K hK => ?_) (AllReadyH.nil)
            obtain ⟨y0, w0⟩ := ro_cf zB.out 0 _ rfl; obtain ⟨y1, w1⟩ := ro_cf zB.out 1 _ rfl; obtain ⟨y2, w2⟩ := ro_cf zB.out 2 _ rfl; obtain ⟨y3, w3⟩ := ro_cf zB.out 3 _ rfl; obtain ⟨y4, w4⟩ := ro_cf zB.out 4 _ rfl; obtain ⟨y5, w5⟩ := ro_cf zB.out 5 _ rfl; obtain ⟨y6, w6⟩ := ro_cf zB.out 6 _ rfl
            have su := hHeld.2.out.size
            have lb0 := hHeld.1.out.lt
            go_simp
            refine hK.out _ _ (⟨hide (ro_away7 (g' := gB) (x0 := .slice S9.ti.A S9.ti.n S9.ti.c) (x1 := .slice S9.ix.A S9.ix.n S9.ix.c) (x2 := .slice S9.ty.A S9.ty.n S9.ty.c) (x3 := .slice S9.ch.A S9.ch.n S9.ch.c) (x4 := .slice S9.lp.A S9.lp.n S9.lp.c) (x5 := .slice S9.sd.A S9.sd.n S9.sd.c) (x6 := .slice S9.ut.A S9.ut.n S9.ut.c) hHeld.1.out (by have := lbx0; omega)), hide (bl_setx7 (g := gB) (x0 := .slice S9.ti.A S9.ti.n S9.ti.c) (x1 := .slice S9.ix.A S9.ix.n S9.ix.c) (x2 := .slice S9.ty.A S9.ty.n S9.ty.c) (x3 := .slice S9.ch.A S9.ch.n S9.ch.c) (x4 := .slice S9.lp.A S9.lp.n S9.lp.c) (x5 := .slice S9.sd.A S9.sd.n S9.sd.c) (x6 := .slice S9.ut.A S9.ut.n S9.ut.c) hHeld.2.out lB)⟩) (fun hHeld => ?_)
            clear hK K y0 w0 y1 w1 y2 w2 y3 w3 y4 w4 y5 w5 y6 w6
            replace zB := hide (ro_set7' (x0 := .slice S9.ti.A S9.ti.n S9.ti.c) (x1 := .slice S9.ix.A S9.ix.n S9.ix.c) (x2 := .slice S9.ty.A S9.ty.n S9.ty.c) (x3 := .slice S9.ch.A S9.ch.n S9.ch.c) (x4 := .slice S9.lp.A S9.lp.n S9.lp.c) (x5 := .slice S9.sd.A S9.sd.n S9.sd.c) (x6 := .slice S9.ut.A S9.ut.n S9.ut.c) zB.out)
            replace zC := hide (ro_away7 (g' := gB) (x0 := .slice S9.ti.A S9.ti.n S9.ti.c) (x1 := .slice S9.ix.A S9.ix.n S9.ix.c) (x2 := .slice S9.ty.A S9.ty.n S9.ty.c) (x3 := .slice S9.ch.A S9.ch.n S9.ch.c) (x4 := .slice S9.lp.A S9.lp.n S9.lp.c) (x5 := .slice S9.sd.A S9.sd.n S9.sd.c) (x6 := .slice S9.ut.A S9.ut.n S9.ut.c) zC.out (by omega))
            replace oS := hide (oS.out.away7 nB.out (.slice S9.ti.A S9.ti.n S9.ti.c) (.slice S9.ix.A S9.ix.n S9.ix.c) (.slice S9.ty.A S9.ty.n S9.ty.c) (.slice S9.ch.A S9.ch.n S9.ch.c) (.slice S9.lp.A S9.lp.n S9.lp.c) (.slice S9.sd.A S9.sd.n S9.sd.c) (.slice S9.ut.A S9.ut.n S9.ut.c))
            generalize (((((((wv.setCell ⟨gB, 0, none⟩ (.slice S9.ti.A S9.ti.n S9.ti.c)).setCell ⟨gB, 1, none⟩ (.slice S9.ix.A S9.ix.n S9.ix.c)).setCell ⟨gB, 2, none⟩ (.slice S9.ty.A S9.ty.n S9.ty.c)).setCell ⟨gB, 3, none⟩ (.slice S9.ch.A S9.ch.n S9.ch.c)).setCell ⟨gB, 4, none⟩ (.slice S9.lp.A S9.lp.n S9.lp.c)).setCell ⟨gB, 5, none⟩ (.slice S9.sd.A S9.sd.n S9.sd.c)).setCell ⟨gB, 6, none⟩ (.slice S9.ut.A S9.ut.n S9.ut.c)) = wv1 at *
            try simp only [Act.put, List.setIfInBounds_toArray, List.set_cons_zero, List.set_cons_succ]
            refine wpAnyH_ready (rs := [12]) (by kernel_rfl) (by simp) ?_
            refine AllReadyH.cons rfl (fun K hK => ?_) (AllReadyH.nil)
            obtain ⟨y0, w0⟩ := ro_cf zC.out 0 _ rfl; obtain ⟨y1, w1⟩ := ro_cf zC.out 1 _ rfl; obtain ⟨y2, w2⟩ := ro_cf zC.out 2 _ rfl; obtain ⟨y3, w3⟩ := ro_cf zC.out 3 _ rfl
            have su := hHeld.2.out.size
            have lb0 := hHeld.1.out.lt
            go_simp
            refine hK.out _ _ (⟨hide (ro_away4 (g' := gC) (x0 := .slice A1 n1 c1) (x1 := .int .i64 0) (x2 := .int .i64 1) (x3 := .int .i64 (n1 : Int)) hHeld.1.out (by have := lbx0; omega)), hide (bl_setx4 (g := gC) (x0 := .slice A1 n1 c1) (x1 := .int .i64 0) (x2 := .int .i64 1) (x3 := .int .i64 (n1 : Int)) hHeld.2.out lC)⟩) (fun hHeld => ?_)
            clear hK K y0 w0 y1 w1 y2 w2 y3 w3
            replace zC := hide (ro_set4' (x0 := .slice A1 n1 c1) (x1 := .int .i64 0) (x2 := .int .i64 1) (x3 := .int .i64 (n1 : Int)) zC.out)
            replace zB := hide (ro_away4 (g' := gC) (x0 := .slice A1 n1 c1) (x1 := .int .i64 0) (x2 := .int .i64 1) (x3 := .int .i64 (n1 : Int)) zB.out (by omega))
            replace oS := hide (oS.out.away4 nC.out (.slice A1 n1 c1) (.int .i64 0) (.int .i64 1) (.int .i64 (n1 : Int)))
            generalize ((((wv1.setCell ⟨gC, 0, none⟩ (.slice A1 n1 c1)).setCell ⟨gC, 1, none⟩ (.int .i64 0)).setCell ⟨gC, 2, none⟩ (.int .i64 1)).setCell ⟨gC, 3, none⟩ (.int .i64 (n1 : Int))) = wv2 at *
            try simp only [Act.put, List.setIfInBounds_toArray, List.set_cons_zero, List.set_cons_succ]
            refine wpAnyH_done (by kernel_rfl) ?_ _
            go_wp2_with fail
            go_meet
            exact ⟨gB, gC, S9, rfl, rfl, lB, lC, ne, zB, zC, oS, nB, nC, hHeld.2⟩)
          have st310 := hide (show ∀ (wv : World) (S9 : BkS) (gB : Nat), (Hid (Ro wv (w.heap.size) (#[.int .i64 v, .int .u32 (a' : Int), .int .u32 (b' : Int), .int .u32 (c' : Int), .int .u32 (d' : Int), .int .u32 (x' : Int), .int .u32 (y' : Int)]) 35) ∧ Hid (Below wx.heap.size wx wv)) → wx.heap.size ≤ gB → Hid (Ro wv gB #[.slice none 0 0, .slice none 0 0, .slice none 0 0, .slice none 0 0, .slice none 0 0, .slice none 0 0, .slice none 0 0] 28) → Hid (OwBk wv wx.heap.size S9 Bk.zero) → Hid (NeS S9 gB) → F 3 #[true, true, true, true, true, true, true, true, true, true, false, false, false] { tmps := ((((((((((T.setIfInBounds 40 (.slice A1 n1 c1)).setIfInBounds 41 (.agg #[.slice A1 n1 c1, .int .i64 0, .int .i64 0, .int .i64 0])).setIfInBounds 42 (.agg #[.int .i64 v, .int .u32 (a' : Int), .int .u32 (b' : Int), .int .u32 (c' : Int), .int .u32 (d' : Int), .int .u32 (x' : Int), .int .u32 (y' : Int)])).setIfInBounds 43 (.bool wd)).setIfInBounds 44 (.int .i64 (k : Int))).setIfInBounds 45 (.tuple #[.agg #[.slice S9.ti.A S9.ti.n S9.ti.c, .slice S9.ix.A S9.ix.n S9.ix.c, .slice S9.ty.A S9.ty.n S9.ty.c, .slice S9.ch.A S9.ch.n S9.ch.c, .slice S9.lp.A S9.lp.n S9.lp.c, .slice S9.sd.A S9.sd.n S9.sd.c, .slice S9.ut.A S9.ut.n S9.ut.c], .agg #[.slice A1 n1 c1, .int .i64 0, .int .i64 1, .int .i64 (n1 : Int)]])).setIfInBounds 39 (.tuple #[.agg #[.slice S9.ti.A S9.ti.n S9.ti.c, .slice S9.ix.A S9.ix.n S9.ix.c, .slice S9.ty.A S9.ty.n S9.ty.c, .slice S9.ch.A S9.ch.n S9.ch.c, .slice S9.lp.A S9.lp.n S9.lp.c, .slice S9.sd.A S9.sd.n S9.sd.c, .slice S9.ut.A S9.ut.n S9.ut.c], .agg #[.slice A1 n1 c1, .int .i64 0, .int .i64 1, .int .i64 (n1 : Int)]])).setIfInBounds 46 (.agg #[.slice S9.ti.A S9.ti.n S9.ti.c, .slice S9.ix.A S9.ix.n S9.ix.c, .slice S9.ty.A S9.ty.n S9.ty.c, .slice S9.ch.A S9.ch.n S9.ch.c, .slice S9.lp.A S9.lp.n S9.lp.c, .slice S9.sd.A S9.sd.n S9.sd.c, .slice S9.ut.A S9.ut.n S9.ut.c])).setIfInBounds 47 (.agg #[.slice A1 n1 c1, .int .i64 0, .int .i64 1, .int .i64 (n1 : Int)])).setIfInBounds 9 (.pointer (some ⟨gB, 0, none⟩))), defers := D } wv from by
            intro wv S9 gB hHeld lB zB oS nB
            refine hI.out _ _ _ _ ?_
            obtain ⟨rfl, rfl⟩ := Act.mk.inj hTD.out
            try simp only [Act.put, List.setIfInBounds_toArray, List.set_cons_zero, List.set_cons_succ]
            refine wpAnyH_ready (rs := [10]) (by kernel_rfl) (by simp) ?_
            refine AllReadyH.cons rfl (fun K hK => ?_) (AllReadyH.nil)
            · go_simp
              have lC := hHeld.2.out.size
              have zC := hide (Ro.new wv #[.slice none 0 0, .int .i64 0, .int .i64 0, .int .i64 0] 39)
              have ne := (show gB ≠ wv.heap.size from fun h => by have := zB.out.lt; omega)
              replace zB := hide (zB.out.alloc (.cells #[.slice none 0 0, .int .i64 0, .int .i64 0, .int .i64 0] 39))
              have nC := hide (oS.out.ne (g := wv.heap.size) (.inr (Nat.le_refl _)))
              replace oS := hide (oS.out.below (bl_new _ (.cells #[.slice none 0 0, .int .i64 0, .int .i64 0, .int .i64 0] 39)))
              refine hK.out _ _ (⟨hide (hHeld.1.out.alloc _), hide (bl_alloc hHeld.2.out _)⟩) (fun hHeld => ?_)
              clear hK K
              try simp only [Act.put, List.setIfInBounds_toArray, List.set_cons_zero, List.set_cons_succ]
              refine hE.out _ _ _ _ ?_
              have hh := st311.out _ S9 gB wv.heap.size hHeld lB zB lC zC ne oS nB nC
              try simp only [Act.put, List.setIfInBounds_toArray, List.set_cons_zero, List.set_cons_succ] at hh
              exact hh)
          have st301 := hide (show ∀ (wv : World) (S9 : BkS) (gC : Nat), (Hid (Ro wv (w.heap.size) (#[.int .i64 v, .int .u32 (a' : Int), .int .u32 (b' : Int), .int .u32 (c' : Int), .int .u32 (d' : Int), .int .u32 (x' : Int), .int .u32 (y' : Int)]) 35) ∧ Hid (Below wx.heap.size wx wv)) → wx.heap.size ≤ gC → Hid (Ro wv gC #[.slice none 0 0, .int .i64 0, .int .i64 0, .int .i64 0] 39) → Hid (OwBk wv wx.heap.size S9 Bk.zero) → Hid (NeS S9 gC) → F 3 #[true, true, true, true, true, true, true, true, true, false, true, false, false] { tmps := ((((((((((T.setIfInBounds 40 (.slice A1 n1 c1)).setIfInBounds 41 (.agg #[.slice A1 n1 c1, .int .i64 0, .int .i64 0, .int .i64 0])).setIfInBounds 42 (.agg #[.int .i64 v, .int .u32 (a' : Int), .int .u32 (b' : Int), .int .u32 (c' : Int), .int .u32 (d' : Int), .int .u32 (x' : Int), .int .u32 (y' : Int)])).setIfInBounds 43 (.bool wd)).setIfInBounds 44 (.int .i64 (k : Int))).setIfInBounds 45 (.tuple #[.agg #[.slice S9.ti.A S9.ti.n S9.ti.c, .slice S9.ix.A S9.ix.n S9.ix.c, .slice S9.ty.A S9.ty.n S9.ty.c, .slice S9.ch.A S9.ch.n S9.ch.c, .slice S9.lp.A S9.lp.n S9.lp.c, .slice S9.sd.A S9.sd.n S9.sd.c, .slice S9.ut.A S9.ut.n S9.ut.c], .agg #[.slice A1 n1 c1, .int .i64 0, .int .i64 1, .int .i64 (n1 : Int)]])).setIfInBounds 39 (.tuple #[.agg #[.slice S9.ti.A S9.ti.n S9.ti.c, .slice S9.ix.A S9.ix.n S9.ix.c, .slice S9.ty.A S9.ty.n S9.ty.c, .slice S9.ch.A S9.ch.n S9.ch.c, .slice S9.lp.A S9.lp.n S9.lp.c, .slice S9.sd.A S9.sd.n S9.sd.c, .slice S9.ut.A S9.ut.n S9.ut.c], .agg #[.slice A1 n1 c1, .int .i64 0, .int .i64 1, .int .i64 (n1 : Int)]])).setIfInBounds 46 (.agg #[.slice S9.ti.A S9.ti.n S9.ti.c, .slice S9.ix.A S9.ix.n S9.ix.c, .slice S9.ty.A S9.ty.n S9.ty.c, .slice S9.ch.A S9.ch.n S9.ch.c, .slice S9.lp.A S9.lp.n S9.lp.c, .slice S9.sd.A S9.sd.n S9.sd.c, .slice S9.ut.A S9.ut.n S9.ut.c])).setIfInBounds 47 (.agg #[.slice A1 n1 c1, .int .i64 0, .int .i64 1, .int .i64 (n1 : Int)])).setIfInBounds 10 (.pointer (some ⟨gC, 0, none⟩))), defers := D } wv from by
            intro wv S9 gC hHeld lC zC oS nC
            refine hI.out _ _ _ _ ?_
            obtain ⟨rfl, rfl⟩ := Act.mk.inj hTD.out
            try simp only [Act.put, List.setIfInBounds_toArray, List.set_cons_zero, List.set_cons_succ]
            refine wpAnyH_ready (rs := [9]) (by kernel_rfl) (by simp) ?_
            refine AllReadyH.cons rfl (fun K hK => ?_) (AllReadyH.nil)
            · go_simp
              have lB := hHeld.2.out.size
              have zB := hide (Ro.new wv #[.slice none 0 0, .slice none 0 0, .slice none 0 0, .slice none 0 0, .slice none 0 0, .slice none 0 0, .slice none 0 0] 28)
              have ne := (show wv.heap.size ≠ gC from fun h => by have := zC.out.lt; omega)
              replace zC := hide (zC.out.alloc (.cells #[.slice none 0 0, .slice none 0 0, .slice none 0 0, .slice none 0 0, .slice none 0 0, .slice none 0 0, .slice none 0 0] 28))
              have nB := hide (oS.out.ne (g := wv.heap.size) (.inr (Nat.le_refl _)))
              replace oS := hide (oS.out.below (bl_new _ (.cells #[.slice none 0 0, .slice none 0 0, .slice none 0 0, .slice none 0 0, .slice none 0 0, .slice none 0 0, .slice none 0 0] 28)))
              refine hK.out _ _ (⟨hide (hHeld.1.out.alloc _), hide (bl_alloc hHeld.2.out _)⟩) (fun hHeld => ?_)
              clear hK K
              try simp only [Act.put, List.setIfInBounds_toArray, List.set_cons_zero, List.set_cons_succ]
              refine hE.out _ _ _ _ ?_
              have hh := st311.out _ S9 wv.heap.size gC hHeld lB zB lC zC ne oS nB nC
              try simp only [Act.put, List.setIfInBounds_toArray, List.set_cons_zero, List.set_cons_succ] at hh
              exact hh)
          have st300 := hide (show ∀ (wv : World) (S9 : BkS), (Hid (Ro wv (w.heap.size) (#[.int .i64 v, .int .u32 (a' : Int), .int .u32 (b' : Int), .int .u32 (c' : Int), .int .u32 (d' : Int), .int .u32 (x' : Int), .int .u32 (y' : Int)]) 35) ∧ Hid (Below wx.heap.size wx wv)) → Hid (OwBk wv wx.heap.size S9 Bk.zero) → F 4 #[true, true, true, true, true, true, true, true, true, false, false, false, false] { tmps := (((((((((T.setIfInBounds 40 (.slice A1 n1 c1)).setIfInBounds 41 (.agg #[.slice A1 n1 c1, .int .i64 0, .int .i64 0, .int .i64 0])).setIfInBounds 42 (.agg #[.int .i64 v, .int .u32 (a' : Int), .int .u32 (b' : Int), .int .u32 (c' : Int), .int .u32 (d' : Int), .int .u32 (x' : Int), .int .u32 (y' : Int)])).setIfInBounds 43 (.bool wd)).setIfInBounds 44 (.int .i64 (k : Int))).setIfInBounds 45 (.tuple #[.agg #[.slice S9.ti.A S9.ti.n S9.ti.c, .slice S9.ix.A S9.ix.n S9.ix.c, .slice S9.ty.A S9.ty.n S9.ty.c, .slice S9.ch.A S9.ch.n S9.ch.c, .slice S9.lp.A S9.lp.n S9.lp.c, .slice S9.sd.A S9.sd.n S9.sd.c, .slice S9.ut.A S9.ut.n S9.ut.c], .agg #[.slice A1 n1 c1, .int .i64 0, .int .i64 1, .int .i64 (n1 : Int)]])).setIfInBounds 39 (.tuple #[.agg #[.slice S9.ti.A S9.ti.n S9.ti.c, .slice S9.ix.A S9.ix.n S9.ix.c, .slice S9.ty.A S9.ty.n S9.ty.c, .slice S9.ch.A S9.ch.n S9.ch.c, .slice S9.lp.A S9.lp.n S9.lp.c, .slice S9.sd.A S9.sd.n S9.sd.c, .slice S9.ut.A S9.ut.n S9.ut.c], .agg #[.slice A1 n1 c1, .int .i64 0, .int .i64 1, .int .i64 (n1 : Int)]])).setIfInBounds 46 (.agg #[.slice S9.ti.A S9.ti.n S9.ti.c, .slice S9.ix.A S9.ix.n S9.ix.c, .slice S9.ty.A S9.ty.n S9.ty.c, .slice S9.ch.A S9.ch.n S9.ch.c, .slice S9.lp.A S9.lp.n S9.lp.c, .slice S9.sd.A S9.sd.n S9.sd.c, .slice S9.ut.A S9.ut.n S9.ut.c])).setIfInBounds 47 (.agg #[.slice A1 n1 c1, .int .i64 0, .int .i64 1, .int .i64 (n1 : Int)])), defers := D } wv from by
            intro wv S9 hHeld oS
            refine hI.out _ _ _ _ ?_
            obtain ⟨rfl, rfl⟩ := Act.mk.inj hTD.out
            try simp only [Act.put, List.setIfInBounds_toArray, List.set_cons_zero, List.set_cons_succ]
            refine wpAnyH_ready (rs := [9, 10]) (by kernel_rfl) (by simp) ?_
            refine AllReadyH.cons rfl (fun K hK => ?_) (AllReadyH.cons rfl (fun K hK => ?_) (AllReadyH.nil))
            · go_simp
              have lB := hHeld.2.out.size
              have zB := hide (Ro.new wv #[.slice none 0 0, .slice none 0 0, .slice none 0 0, .slice none 0 0, .slice none 0 0, .slice none 0 0, .slice none 0 0] 28)
              have nB := hide (oS.out.ne (g := wv.heap.size) (.inr (Nat.le_refl _)))
              replace oS := hide (oS.out.below (bl_new _ (.cells #[.slice none 0 0, .slice none 0 0, .slice none 0 0, .slice none 0 0, .slice none 0 0, .slice none 0 0, .slice none 0 0] 28)))
              refine hK.out _ _ (⟨hide (hHeld.1.out.alloc _), hide (bl_alloc hHeld.2.out _)⟩) (fun hHeld => ?_)
              clear hK K
              try simp only [Act.put, List.setIfInBounds_toArray, List.set_cons_zero, List.set_cons_succ]
              refine hE.out _ _ _ _ ?_
              have hh := st310.out _ S9 wv.heap.size hHeld lB zB oS nB
              try simp only [Act.put, List.setIfInBounds_toArray, List.set_cons_zero, List.set_cons_succ] at hh
              exact hh
            · go_simp
              have lC := hHeld.2.out.size
              have zC := hide (Ro.new wv #[.slice none 0 0, .int .i64 0, .int .i64 0, .int .i64 0] 39)
              have nC := hide (oS.out.ne (g := wv.heap.size) (.inr (Nat.le_refl _)))
              replace oS := hide (oS.out.below (bl_new _ (.cells #[.slice none 0 0, .int .i64 0, .int .i64 0, .int .i64 0] 39)))
              refine hK.out _ _ (⟨hide (hHeld.1.out.alloc _), hide (bl_alloc hHeld.2.out _)⟩) (fun hHeld => ?_)
              clear hK K
              try simp only [Act.put, List.setIfInBounds_toArray, List.set_cons_zero, List.set_cons_succ]
              refine hE.out _ _ _ _ ?_
              have hh := st301.out _ S9 wv.heap.size hHeld lC zC oS nC
              try simp only [Act.put, List.setIfInBounds_toArray, List.set_cons_zero, List.set_cons_succ] at hh
              exact hh)
          have st211 := hide (show ∀ (wv : World) (gB : Nat) (gC : Nat), (Hid (Ro wv (w.heap.size) (#[.int .i64 v, .int .u32 (a' : Int), .int .u32 (b' : Int), .int .u32 (c' : Int), .int .u32 (d' : Int), .int .u32 (x' : Int), .int .u32 (y' : Int)]) 35) ∧ Hid (Below wx.heap.size wx wv)) → wx.heap.size ≤ gB → Hid (Ro wv gB #[.slice none 0 0, .slice none 0 0, .slice none 0 0, .slice none 0 0, .slice none 0 0, .slice none 0 0, .slice none 0 0] 28) → wx.heap.size ≤ gC → Hid (Ro wv gC #[.slice none 0 0, .int .i64 0, .int .i64 0, .int .i64 0] 39) → gB ≠ gC → F 6 #[true, true, true, true, true, false, false, false, false, true, true, false, false] { tmps := (((((((T.setIfInBounds 40 (.slice A1 n1 c1)).setIfInBounds 41 (.agg #[.slice A1 n1 c1, .int .i64 0, .int .i64 0, .int .i64 0])).setIfInBounds 42 (.agg #[.int .i64 v, .int .u32 (a' : Int), .int .u32 (b' : Int), .int .u32 (c' : Int), .int .u32 (d' : Int), .int .u32 (x' : Int), .int .u32 (y' : Int)])).setIfInBounds 43 (.bool wd)).setIfInBounds 44 (.int .i64 (k : Int))).setIfInBounds 9 (.pointer (some ⟨gB, 0, none⟩))).setIfInBounds 10 (.pointer (some ⟨gC, 0, none⟩))), defers := D } wv from by
            intro wv gB gC hHeld lB zB lC zC ne
            refine hI.out _ _ _ _ ?_
            obtain ⟨rfl, rfl⟩ := Act.mk.inj hTD.out
            try simp only [Act.put, List.setIfInBounds_toArray, List.set_cons_zero, List.set_cons_succ]
            refine wpAnyH_ready (rs := [5]) (by kernel_rfl) (by simp) ?_
            refine AllReadyH.cons rfl (fun K hK => ?_) (AllReadyH.nil)
            · go_simp
              refine (D.out _ (HT.out.below hHeld.2.out) (r1.out.below hHeld.2.out)).mono ?_
              rintro e vv ⟨S9, rfl, oS_, h1'⟩
              have nB := hide (oS_.ne (.inl zB.out.lt))
              have nC := hide (oS_.ne (.inl zC.out.lt))
              have oS := hide (oS_.mono hHeld.2.out.size)
              replace zB := hide (zB.out.below h1')
              replace zC := hide (zC.out.below h1')
              refine hK.out _ _ (⟨hide (hHeld.1.out.below h1'), hide (bel_next hHeld.2.out h1')⟩) (fun hHeld => ?_)
              clear hK K h1'
              try simp only [Act.put, List.setIfInBounds_toArray, List.set_cons_zero, List.set_cons_succ]
              refine wpAnyH_takeD (i := 6) (d := (some 39)) (v := ?_) rfl rfl (by kernel_rfl) (by kernel_rfl) (by kernel_rfl) (fun _ _ _ h => h) (Or.inl ⟨by rfl, ?_⟩) (by assumption) ?_
              rotate_left
              · ((intro w hSw; go_simp) <;> with_reducible rfl)
              try simp only [Act.put, List.setIfInBounds_toArray, List.set_cons_zero, List.set_cons_succ]
              refine wpAnyH_takeD (i := 7) (d := (some 46)) (v := ?_) rfl rfl (by kernel_rfl) (by kernel_rfl) (by kernel_rfl) (fun _ _ _ h => h) (Or.inl ⟨by rfl, ?_⟩) (by assumption) ?_
              rotate_left
              · ((intro w hSw; go_simp) <;> with_reducible rfl)
              try simp only [Act.put, List.setIfInBounds_toArray, List.set_cons_zero, List.set_cons_succ]
              refine wpAnyH_takeD (i := 8) (d := (some 47)) (v := ?_) rfl rfl (by kernel_rfl) (by kernel_rfl) (by kernel_rfl) (fun _ _ _ h => h) (Or.inl ⟨by rfl, ?_⟩) (by assumption) ?_
              rotate_left
              · ((intro w hSw; go_simp) <;> with_reducible rfl)
              try simp only [Act.put, List.setIfInBounds_toArray, List.set_cons_zero, List.set_cons_succ]
              refine hE.out _ _ _ _ ?_
              have hh := st311.out _ S9 gB gC hHeld lB zB lC zC ne oS nB nC
              try simp only [Act.put, List.setIfInBounds_toArray, List.set_cons_zero, List.set_cons_succ] at hh
              exact hh)
          have st210 := hide (show ∀ (wv : World) (gB : Nat), (Hid (Ro wv (w.heap.size) (#[.int .i64 v, .int .u32 (a' : Int), .int .u32 (b' : Int), .int .u32 (c' : Int), .int .u32 (d' : Int), .int .u32 (x' : Int), .int .u32 (y' : Int)]) 35) ∧ Hid (Below wx.heap.size wx wv)) → wx.heap.size ≤ gB → Hid (Ro wv gB #[.slice none 0 0, .slice none 0 0, .slice none 0 0, .slice none 0 0, .slice none 0 0, .slice none 0 0, .slice none 0 0] 28) → F 7 #[true, true, true, true, true, false, false, false, false, true, false, false, false] { tmps := ((((((T.setIfInBounds 40 (.slice A1 n1 c1)).setIfInBounds 41 (.agg #[.slice A1 n1 c1, .int .i64 0, .int .i64 0, .int .i64 0])).setIfInBounds 42 (.agg #[.int .i64 v, .int .u32 (a' : Int), .int .u32 (b' : Int), .int .u32 (c' : Int), .int .u32 (d' : Int), .int .u32 (x' : Int), .int .u32 (y' : Int)])).setIfInBounds 43 (.bool wd)).setIfInBounds 44 (.int .i64 (k : Int))).setIfInBounds 9 (.pointer (some ⟨gB, 0, none⟩))), defers := D } wv from by
            intro wv gB hHeld lB zB
            refine hI.out _ _ _ _ ?_
            obtain ⟨rfl, rfl⟩ := Act.mk.inj hTD.out
            try simp only [Act.put, List.setIfInBounds_toArray, List.set_cons_zero, List.set_cons_succ]
            refine wpAnyH_ready (rs := [5, 10]) (by kernel_rfl) (by simp) ?_
            refine AllReadyH.cons rfl (fun K hK => ?_) (AllReadyH.cons rfl (fun K hK => ?_) (AllReadyH.nil))
            · go_simp
              refine (D.out _ (HT.out.below hHeld.2.out) (r1.out.below hHeld.2.out)).mono ?_
              rintro e vv ⟨S9, rfl, oS_, h1'⟩
              have nB := hide (oS_.ne (.inl zB.out.lt))
              have oS := hide (oS_.mono hHeld.2.out.size)
              replace zB := hide (zB.out.below h1')
              refine hK.out _ _ (⟨hide (hHeld.1.out.below h1'), hide (bel_next hHeld.2.out h1')⟩) (fun hHeld => ?_)
              clear hK K h1'
              try simp only [Act.put, List.setIfInBounds_toArray, List.set_cons_zero, List.set_cons_succ]
              refine wpAnyH_takeD (i := 6) (d := (some 39)) (v := ?_) rfl rfl (by kernel_rfl) (by kernel_rfl) (by kernel_rfl) (fun _ _ _ h => h) (Or.inl ⟨by rfl, ?_⟩) (by assumption) ?_
              rotate_left
              · ((intro w hSw; go_simp) <;> with_reducible rfl)
              try simp only [Act.put, List.setIfInBounds_toArray, List.set_cons_zero, List.set_cons_succ]
              refine wpAnyH_takeD (i := 7) (d := (some 46)) (v := ?_) rfl rfl (by kernel_rfl) (by kernel_rfl) (by kernel_rfl) (fun _ _ _ h => h) (Or.inl ⟨by rfl, ?_⟩) (by assumption) ?_
              rotate_left
              · ((intro w hSw; go_simp) <;> with_reducible rfl)
              try simp only [Act.put, List.setIfInBounds_toArray, List.set_cons_zero, List.set_cons_succ]
              refine wpAnyH_takeD (i := 8) (d := (some 47)) (v := ?_) rfl rfl (by kernel_rfl) (by kernel_rfl) (by kernel_rfl) (fun _ _ _ h => h) (Or.inl ⟨by rfl, ?_⟩) (by assumption) ?_
              rotate_left
              · ((intro w hSw; go_simp) <;> with_reducible rfl)
              try simp only [Act.put, List.setIfInBounds_toArray, List.set_cons_zero, List.set_cons_succ]
              refine hE.out _ _ _ _ ?_
              have hh := st310.out _ S9 gB hHeld lB zB oS nB
              try simp only [Act.put, List.setIfInBounds_toArray, List.set_cons_zero, List.set_cons_succ] at hh
              exact hh
            · go_simp
              have lC := hHeld.2.out.size
              have zC := hide (Ro.new wv #[.slice none 0 0, .int .i64 0, .int .i64 0, .int .i64 0] 39)
              have ne := (show gB ≠ wv.heap.size from fun h => by have := zB.out.lt; omega)
              replace zB := hide (zB.out.alloc (.cells #[.slice none 0 0, .int .i64 0, .int .i64 0, .int .i64 0] 39))
              refine hK.out _ _ (⟨hide (hHeld.1.out.alloc _), hide (bl_alloc hHeld.2.out _)⟩) (fun hHeld => ?_)
              clear hK K
              try simp only [Act.put, List.setIfInBounds_toArray, List.set_cons_zero, List.set_cons_succ]
              refine hE.out _ _ _ _ ?_
              have hh := st211.out _ gB wv.heap.size hHeld lB zB lC zC ne
              try simp only [Act.put, List.setIfInBounds_toArray, List.set_cons_zero, List.set_cons_succ] at hh
              exact hh)
          have st201 := hide (show ∀ (wv : World) (gC : Nat), (Hid (Ro wv (w.heap.size) (#[.int .i64 v, .int .u32 (a' : Int), .int .u32 (b' : Int), .int .u32 (c' : Int), .int .u32 (d' : Int), .int .u32 (x' : Int), .int .u32 (y' : Int)]) 35) ∧ Hid (Below wx.heap.size wx wv)) → wx.heap.size ≤ gC → Hid (Ro wv gC #[.slice none 0 0, .int .i64 0, .int .i64 0, .int .i64 0] 39) → F 7 #[true, true, true, true, true, false, false, false, false, false, true, false, false] { tmps := ((((((T.setIfInBounds 40 (.slice A1 n1 c1)).setIfInBounds 41 (.agg #[.slice A1 n1 c1, .int .i64 0, .int .i64 0, .int .i64 0])).setIfInBounds 42 (.agg #[.int .i64 v, .int .u32 (a' : Int), .int .u32 (b' : Int), .int .u32 (c' : Int), .int .u32 (d' : Int), .int .u32 (x' : Int), .int .u32 (y' : Int)])).setIfInBounds 43 (.bool wd)).setIfInBounds 44 (.int .i64 (k : Int))).setIfInBounds 10 (.pointer (some ⟨gC, 0, none⟩))), defers := D } wv from by
            intro wv gC hHeld lC zC
            refine hI.out _ _ _ _ ?_
            obtain ⟨rfl, rfl⟩ := Act.mk.inj hTD.out
            try simp only [Act.put, List.setIfInBounds_toArray, List.set_cons_zero, List.set_cons_succ]
            refine wpAnyH_ready (rs := [5, 9]) (by kernel_rfl) (by simp) ?_
            refine AllReadyH.cons rfl (fun K hK => ?_) (AllReadyH.cons rfl (fun K hK => ?_) (AllReadyH.nil))
            · go_simp
              refine (D.out _ (HT.out.below hHeld.2.out) (r1.out.below hHeld.2.out)).mono ?_
              rintro e vv ⟨S9, rfl, oS_, h1'⟩
              have nC := hide (oS_.ne (.inl zC.out.lt))
              have oS := hide (oS_.mono hHeld.2.out.size)
              replace zC := hide (zC.out.below h1')
              refine hK.out _ _ (⟨hide (hHeld.1.out.below h1'), hide (bel_next hHeld.2.out h1')⟩) (fun hHeld => ?_)
              clear hK K h1'
              try simp only [Act.put, List.setIfInBounds_toArray, List.set_cons_zero, List.set_cons_succ]
              refine wpAnyH_takeD (i := 6) (d := (some 39)) (v := ?_) rfl rfl (by kernel_rfl) (by kernel_rfl) (by kernel_rfl) (fun _ _ _ h => h) (Or.inl ⟨by rfl, ?_⟩) (by assumption) ?_
              rotate_left
              · ((intro w hSw; go_simp) <;> with_reducible rfl)
              try simp only [Act.put, List.setIfInBounds_toArray, List.set_cons_zero, List.set_cons_succ]
              refine wpAnyH_takeD (i := 7) (d := (some 46)) (v := ?_) rfl rfl (by kernel_rfl) (by kernel_rfl) (by kernel_rfl) (fun _ _ _ h => h) (Or.inl ⟨by rfl, ?_⟩) (by assumption) ?_
              rotate_left
              · ((intro w hSw; go_simp) <;> with_reducible rfl)
              try simp only [Act.put, List.setIfInBounds_toArray, List.set_cons_zero, List.set_cons_succ]
              refine wpAnyH_takeD (i := 8) (d := (some 47)) (v := ?_) rfl rfl (by kernel_rfl) (by kernel_rfl) (by kernel_rfl) (fun _ _ _ h => h) (Or.inl ⟨by rfl, ?_⟩) (by assumption) ?_
              rotate_left
              · ((intro w hSw; go_simp) <;> with_reducible rfl)
              try simp only [Act.put, List.setIfInBounds_toArray, List.set_cons_zero, List.set_cons_succ]
              refine hE.out _ _ _ _ ?_
              have hh := st301.out _ S9 gC hHeld lC zC oS nC
              try simp only [Act.put, List.setIfInBounds_toArray, List.set_cons_zero, List.set_cons_succ] at hh
              exact hh
            · go_simp
              have lB := hHeld.2.out.size
              have zB := hide (Ro.new wv #[.slice none 0 0, .slice none 0 0, .slice none 0 0, .slice none 0 0, .slice none 0 0, .slice none 0 0, .slice none 0 0] 28)
              have ne := (show wv.heap.size ≠ gC from fun h => by have := zC.out.lt; omega)
              replace zC := hide (zC.out.alloc (.cells #[.slice none 0 0, .slice none 0 0, .slice none 0 0, .slice none 0 0, .slice none 0 0, .slice none 0 0, .slice none 0 0] 28))
              refine hK.out _ _ (⟨hide (hHeld.1.out.alloc _), hide (bl_alloc hHeld.2.out _)⟩) (fun hHeld => ?_)
              clear hK K
              try simp only [Act.put, List.setIfInBounds_toArray, List.set_cons_zero, List.set_cons_succ]
              refine hE.out _ _ _ _ ?_
              have hh := st211.out _ wv.heap.size gC hHeld lB zB lC zC ne
              try simp only [Act.put, List.setIfInBounds_toArray, List.set_cons_zero, List.set_cons_succ] at hh
              exact hh)
          have st200 := hide (show ∀ (wv : World), (Hid (Ro wv (w.heap.size) (#[.int .i64 v, .int .u32 (a' : Int), .int .u32 (b' : Int), .int .u32 (c' : Int), .int .u32 (d' : Int), .int .u32 (x' : Int), .int .u32 (y' : Int)]) 35) ∧ Hid (Below wx.heap.size wx wv)) → F 8 #[true, true, true, true, true, false, false, false, false, false, false, false, false] { tmps := (((((T.setIfInBounds 40 (.slice A1 n1 c1)).setIfInBounds 41 (.agg #[.slice A1 n1 c1, .int .i64 0, .int .i64 0, .int .i64 0])).setIfInBounds 42 (.agg #[.int .i64 v, .int .u32 (a' : Int), .int .u32 (b' : Int), .int .u32 (c' : Int), .int .u32 (d' : Int), .int .u32 (x' : Int), .int .u32 (y' : Int)])).setIfInBounds 43 (.bool wd)).setIfInBounds 44 (.int .i64 (k : Int))), defers := D } wv from by
            intro wv  hHeld 
            refine hI.out _ _ _ _ ?_
            obtain ⟨rfl, rfl⟩ := Act.mk.inj hTD.out
            try simp only [Act.put, List.setIfInBounds_toArray, List.set_cons_zero, List.set_cons_succ]
            refine wpAnyH_ready (rs := [5, 9, 10]) (by kernel_rfl) (by simp) ?_
            refine AllReadyH.cons rfl (fun K hK => ?_) (AllReadyH.cons rfl (fun K hK => ?_) (AllReadyH.cons rfl (fun K hK => ?_) (AllReadyH.nil)))
            · go_simp
              refine (D.out _ (HT.out.below hHeld.2.out) (r1.out.below hHeld.2.out)).mono ?_
              rintro e vv ⟨S9, rfl, oS_, h1'⟩
              have oS := hide (oS_.mono hHeld.2.out.size)
              refine hK.out _ _ (⟨hide (hHeld.1.out.below h1'), hide (bel_next hHeld.2.out h1')⟩) (fun hHeld => ?_)
              clear hK K h1'
              try simp only [Act.put, List.setIfInBounds_toArray, List.set_cons_zero, List.set_cons_succ]
              refine wpAnyH_takeD (i := 6) (d := (some 39)) (v := ?_) rfl rfl (by kernel_rfl) (by kernel_rfl) (by kernel_rfl) (fun _ _ _ h => h) (Or.inl ⟨by rfl, ?_⟩) (by assumption) ?_
              rotate_left
              · ((intro w hSw; go_simp) <;> with_reducible rfl)
              try simp only [Act.put, List.setIfInBounds_toArray, List.set_cons_zero, List.set_cons_succ]
              refine wpAnyH_takeD (i := 7) (d := (some 46)) (v := ?_) rfl rfl (by kernel_rfl) (by kernel_rfl) (by kernel_rfl) (fun _ _ _ h => h) (Or.inl ⟨by rfl, ?_⟩) (by assumption) ?_
              rotate_left
              · ((intro w hSw; go_simp) <;> with_reducible rfl)
              try simp only [Act.put, List.setIfInBounds_toArray, List.set_cons_zero, List.set_cons_succ]
              refine wpAnyH_takeD (i := 8) (d := (some 47)) (v := ?_) rfl rfl (by kernel_rfl) (by kernel_rfl) (by kernel_rfl) (fun _ _ _ h => h) (Or.inl ⟨by rfl, ?_⟩) (by assumption) ?_
              rotate_left
              · ((intro w hSw; go_simp) <;> with_reducible rfl)
              try simp only [Act.put, List.setIfInBounds_toArray, List.set_cons_zero, List.set_cons_succ]
              refine hE.out _ _ _ _ ?_
              have hh := st300.out _ S9 hHeld oS
              try simp only [Act.put, List.setIfInBounds_toArray, List.set_cons_zero, List.set_cons_succ] at hh
              exact hh
            · go_simp
              have lB := hHeld.2.out.size
              have zB := hide (Ro.new wv #[.slice none 0 0, .slice none 0 0, .slice none 0 0, .slice none 0 0, .slice none 0 0, .slice none 0 0, .slice none 0 0] 28)
              refine hK.out _ _ (⟨hide (hHeld.1.out.alloc _), hide (bl_alloc hHeld.2.out _)⟩) (fun hHeld => ?_)
              clear hK K
              try simp only [Act.put, List.setIfInBounds_toArray, List.set_cons_zero, List.set_cons_succ]
              refine hE.out _ _ _ _ ?_
              have hh := st210.out _ wv.heap.size hHeld lB zB
              try simp only [Act.put, List.setIfInBounds_toArray, List.set_cons_zero, List.set_cons_succ] at hh
              exact hh
            · go_simp
              have lC := hHeld.2.out.size
              have zC := hide (Ro.new wv #[.slice none 0 0, .int .i64 0, .int .i64 0, .int .i64 0] 39)
              refine hK.out _ _ (⟨hide (hHeld.1.out.alloc _), hide (bl_alloc hHeld.2.out _)⟩) (fun hHeld => ?_)
              clear hK K
              try simp only [Act.put, List.setIfInBounds_toArray, List.set_cons_zero, List.set_cons_succ]
              refine hE.out _ _ _ _ ?_
              have hh := st201.out _ wv.heap.size hHeld lC zC
              try simp only [Act.put, List.setIfInBounds_toArray, List.set_cons_zero, List.set_cons_succ] at hh
              exact hh)
          have st111 := hide (show ∀ (wv : World) (gB : Nat) (gC : Nat), (Hid (Ro wv (w.heap.size) (#[.int .i64 v, .int .u32 (a' : Int), .int .u32 (b' : Int), .int .u32 (c' : Int), .int .u32 (d' : Int), .int .u32 (x' : Int), .int .u32 (y' : Int)]) 35) ∧ Hid (Below wx.heap.size wx wv)) → wx.heap.size ≤ gB → Hid (Ro wv gB #[.slice none 0 0, .slice none 0 0, .slice none 0 0, .slice none 0 0, .slice none 0 0, .slice none 0 0, .slice none 0 0] 28) → wx.heap.size ≤ gC → Hid (Ro wv gC #[.slice none 0 0, .int .i64 0, .int .i64 0, .int .i64 0] 39) → gB ≠ gC → F 7 #[true, true, true, true, false, false, false, false, false, true, true, false, false] { tmps := ((((((T.setIfInBounds 40 (.slice A1 n1 c1)).setIfInBounds 41 (.agg #[.slice A1 n1 c1, .int .i64 0, .int .i64 0, .int .i64 0])).setIfInBounds 42 (.agg #[.int .i64 v, .int .u32 (a' : Int), .int .u32 (b' : Int), .int .u32 (c' : Int), .int .u32 (d' : Int), .int .u32 (x' : Int), .int .u32 (y' : Int)])).setIfInBounds 43 (.bool wd)).setIfInBounds 9 (.pointer (some ⟨gB, 0, none⟩))).setIfInBounds 10 (.pointer (some ⟨gC, 0, none⟩))), defers := D } wv from by
            intro wv gB gC hHeld lB zB lC zC ne
            refine hI.out _ _ _ _ ?_
            obtain ⟨rfl, rfl⟩ := Act.mk.inj hTD.out
            try simp only [Act.put, List.setIfInBounds_toArray, List.set_cons_zero, List.set_cons_succ]
            refine wpAnyH_ready (rs := [4]) (by kernel_rfl) (by simp) ?_
            refine AllReadyH.cons rfl (fun K hK => ?_) (AllReadyH.nil)
            · go_simp
              refine (Zs.out _).mono ?_
              rintro e vv ⟨rfl, h1'⟩
              replace zB := hide (zB.out.below h1')
              replace zC := hide (zC.out.below h1')
              refine hK.out _ _ (⟨hide (hHeld.1.out.below h1'), hide (bel_next hHeld.2.out h1')⟩) (fun hHeld => ?_)
              clear hK K h1'
              try simp only [Act.put, List.setIfInBounds_toArray, List.set_cons_zero, List.set_cons_succ]
              refine hE.out _ _ _ _ ?_
              have hh := st211.out _ gB gC hHeld lB zB lC zC ne
              try simp only [Act.put, List.setIfInBounds_toArray, List.set_cons_zero, List.set_cons_succ] at hh
              exact hh)
          have st110 := hide (show ∀ (wv : World) (gB : Nat), (Hid (Ro wv (w.heap.size) (#[.int .i64 v, .int .u32 (a' : Int), .int .u32 (b' : Int), .int .u32 (c' : Int), .int .u32 (d' : Int), .int .u32 (x' : Int), .int .u32 (y' : Int)]) 35) ∧ Hid (Below wx.heap.size wx wv)) → wx.heap.size ≤ gB → Hid (Ro wv gB #[.slice none 0 0, .slice none 0 0, .slice none 0 0, .slice none 0 0, .slice none 0 0, .slice none 0 0, .slice none 0 0] 28) → F 8 #[true, true, true, true, false, false, false, false, false, true, false, false, false] { tmps := (((((T.setIfInBounds 40 (.slice A1 n1 c1)).setIfInBounds 41 (.agg #[.slice A1 n1 c1, .int .i64 0, .int .i64 0, .int .i64 0])).setIfInBounds 42 (.agg #[.int .i64 v, .int .u32 (a' : Int), .int .u32 (b' : Int), .int .u32 (c' : Int), .int .u32 (d' : Int), .int .u32 (x' : Int), .int .u32 (y' : Int)])).setIfInBounds 43 (.bool wd)).setIfInBounds 9 (.pointer (some ⟨gB, 0, none⟩))), defers := D } wv from by
            intro wv gB hHeld lB zB
            refine hI.out _ _ _ _ ?_
            obtain ⟨rfl, rfl⟩ := Act.mk.inj hTD.out
            try simp only [Act.put, List.setIfInBounds_toArray, List.set_cons_zero, List.set_cons_succ]
            refine wpAnyH_ready (rs := [4, 10]) (by kernel_rfl) (by simp) ?_
            refine AllReadyH.cons rfl (fun K hK => ?_) (AllReadyH.cons rfl (fun K hK => ?_) (AllReadyH.nil))
            · go_simp
              refine (Zs.out _).mono ?_
              rintro e vv ⟨rfl, h1'⟩
              replace zB := hide (zB.out.below h1')
              refine hK.out _ _ (⟨hide (hHeld.1.out.below h1'), hide (bel_next hHeld.2.out h1')⟩) (fun hHeld => ?_)
              clear hK K h1'
              try simp only [Act.put, List.setIfInBounds_toArray, List.set_cons_zero, List.set_cons_succ]
              refine hE.out _ _ _ _ ?_
              have hh := st210.out _ gB hHeld lB zB
              try simp only [Act.put, List.setIfInBounds_toArray, List.set_cons_zero, List.set_cons_succ] at hh
              exact hh
            · go_simp
              have lC := hHeld.2.out.size
              have zC := hide (Ro.new wv #[.slice none 0 0, .int .i64 0, .int .i64 0, .int .i64 0] 39)
              have ne := (show gB ≠ wv.heap.size from fun h => by have := zB.out.lt; omega)
              replace zB := hide (zB.out.alloc (.cells #[.slice none 0 0, .int .i64 0, .int .i64 0, .int .i64 0] 39))
              refine hK.out _ _ (⟨hide (hHeld.1.out.alloc _), hide (bl_alloc hHeld.2.out _)⟩) (fun hHeld => ?_)
              clear hK K
              try simp only [Act.put, List.setIfInBounds_toArray, List.set_cons_zero, List.set_cons_succ]
              refine hE.out _ _ _ _ ?_
              have hh := st111.out _ gB wv.heap.size hHeld lB zB lC zC ne
              try simp only [Act.put, List.setIfInBounds_toArray, List.set_cons_zero, List.set_cons_succ] at hh
              exact hh)
          have st101 := hide (show ∀ (wv : World) (gC : Nat), (Hid (Ro wv (w.heap.size) (#[.int .i64 v, .int .u32 (a' : Int), .int .u32 (b' : Int), .int .u32 (c' : Int), .int .u32 (d' : Int), .int .u32 (x' : Int), .int .u32 (y' : Int)]) 35) ∧ Hid (Below wx.heap.size wx wv)) → wx.heap.size ≤ gC → Hid (Ro wv gC #[.slice none 0 0, .int .i64 0, .int .i64 0, .int .i64 0] 39) → F 8 #[true, true, true, true, false, false, false, false, false, false, true, false, false] { tmps := (((((T.setIfInBounds 40 (.slice A1 n1 c1)).setIfInBounds 41 (.agg #[.slice A1 n1 c1, .int .i64 0, .int .i64 0, .int .i64 0])).setIfInBounds 42 (.agg #[.int .i64 v, .int .u32 (a' : Int), .int .u32 (b' : Int), .int .u32 (c' : Int), .int .u32 (d' : Int), .int .u32 (x' : Int), .int .u32 (y' : Int)])).setIfInBounds 43 (.bool wd)).setIfInBounds 10 (.pointer (some ⟨gC, 0, none⟩))), defers := D } wv from by
            intro wv gC hHeld lC zC
            refine hI.out _ _ _ _ ?_
            obtain ⟨rfl, rfl⟩ := Act.mk.inj hTD.out
            try simp only [Act.put, List.setIfInBounds_toArray, List.set_cons_zero, List.set_cons_succ]
            refine wpAnyH_ready (rs := [4, 9]) (by kernel_rfl) (by simp) ?_
            refine AllReadyH.cons rfl (fun K hK => ?_) (AllReadyH.cons rfl (fun K hK => ?_) (AllReadyH.nil))
            · go_simp
              refine (Zs.out _).mono ?_
              rintro e vv ⟨rfl, h1'⟩
              replace zC := hide (zC.out.below h1')
              refine hK.out _ _ (⟨hide (hHeld.1.out.below h1'), hide (bel_next hHeld.2.out h1')⟩) (fun hHeld => ?_)
              clear hK K h1'
              try simp only [Act.put, List.setIfInBounds_toArray, List.set_cons_zero, List.set_cons_succ]
              refine hE.out _ _ _ _ ?_
              have hh := st201.out _ gC hHeld lC zC
              try simp only [Act.put, List.setIfInBounds_toArray, List.set_cons_zero, List.set_cons_succ] at hh
              exact hh
            · go_simp
              have lB := hHeld.2.out.size
              have zB := hide (Ro.new wv #[.slice none 0 0, .slice none 0 0, .slice none 0 0, .slice none 0 0, .slice none 0 0, .slice none 0 0, .slice none 0 0] 28)
              have ne := (show wv.heap.size ≠ gC from fun h => by have := zC.out.lt; omega)
              replace zC := hide (zC.out.alloc (.cells #[.slice none 0 0, .slice none 0 0, .slice none 0 0, .slice none 0 0, .slice none 0 0, .slice none 0 0, .slice none 0 0] 28))
              refine hK.out _ _ (⟨hide (hHeld.1.out.alloc _), hide (bl_alloc hHeld.2.out _)⟩) (fun hHeld => ?_)
              clear hK K
              try simp only [Act.put, List.setIfInBounds_toArray, List.set_cons_zero, List.set_cons_succ]
              refine hE.out _ _ _ _ ?_
              have hh := st111.out _ wv.heap.size gC hHeld lB zB lC zC ne
              try simp only [Act.put, List.setIfInBounds_toArray, List.set_cons_zero, List.set_cons_succ] at hh
              exact hh)
          have st100 := hide (show ∀ (wv : World), (Hid (Ro wv (w.heap.size) (#[.int .i64 v, .int .u32 (a' : Int), .int .u32 (b' : Int), .int .u32 (c' : Int), .int .u32 (d' : Int), .int .u32 (x' : Int), .int .u32 (y' : Int)]) 35) ∧ Hid (Below wx.heap.size wx wv)) → F 9 #[true, true, true, true, false, false, false, false, false, false, false, false, false] { tmps := ((((T.setIfInBounds 40 (.slice A1 n1 c1)).setIfInBounds 41 (.agg #[.slice A1 n1 c1, .int .i64 0, .int .i64 0, .int .i64 0])).setIfInBounds 42 (.agg #[.int .i64 v, .int .u32 (a' : Int), .int .u32 (b' : Int), .int .u32 (c' : Int), .int .u32 (d' : Int), .int .u32 (x' : Int), .int .u32 (y' : Int)])).setIfInBounds 43 (.bool wd)), defers := D } wv from by
            intro wv  hHeld 
            refine hI.out _ _ _ _ ?_
            obtain ⟨rfl, rfl⟩ := Act.mk.inj hTD.out
            try simp only [Act.put, List.setIfInBounds_toArray, List.set_cons_zero, List.set_cons_succ]
            refine wpAnyH_ready (rs := [4, 9, 10]) (by kernel_rfl) (by simp) ?_
            refine AllReadyH.cons rfl (fun K hK => ?_) (AllReadyH.cons rfl (fun K hK => ?_) (AllReadyH.cons rfl (fun K hK => ?_) (AllReadyH.nil)))
            · go_simp
              refine (Zs.out _).mono ?_
              rintro e vv ⟨rfl, h1'⟩
              refine hK.out _ _ (⟨hide (hHeld.1.out.below h1'), hide (bel_next hHeld.2.out h1')⟩) (fun hHeld => ?_)
              clear hK K h1'
              try simp only [Act.put, List.setIfInBounds_toArray, List.set_cons_zero, List.set_cons_succ]
              refine hE.out _ _ _ _ ?_
              have hh := st200.out _  hHeld
              try simp only [Act.put, List.setIfInBounds_toArray, List.set_cons_zero, List.set_cons_succ] at hh
              exact hh
            · go_simp
              have lB := hHeld.2.out.size
              have zB := hide (Ro.new wv #[.slice none 0 0, .slice none 0 0, .slice none 0 0, .slice none 0 0, .slice none 0 0, .slice none 0 0, .slice none 0 0] 28)
              refine hK.out _ _ (⟨hide (hHeld.1.out.alloc _), hide (bl_alloc hHeld.2.out _)⟩) (fun hHeld => ?_)
              clear hK K
              try simp only [Act.put, List.setIfInBounds_toArray, List.set_cons_zero, List.set_cons_succ]
              refine hE.out _ _ _ _ ?_
              have hh := st110.out _ wv.heap.size hHeld lB zB
              try simp only [Act.put, List.setIfInBounds_toArray, List.set_cons_zero, List.set_cons_succ] at hh
              exact hh
            · go_simp
              have lC := hHeld.2.out.size
              have zC := hide (Ro.new wv #[.slice none 0 0, .int .i64 0, .int .i64 0, .int .i64 0] 39)
              refine hK.out _ _ (⟨hide (hHeld.1.out.alloc _), hide (bl_alloc hHeld.2.out _)⟩) (fun hHeld => ?_)
              clear hK K
              try simp only [Act.put, List.setIfInBounds_toArray, List.set_cons_zero, List.set_cons_succ]
              refine hE.out _ _ _ _ ?_
              have hh := st101.out _ wv.heap.size hHeld lC zC
              try simp only [Act.put, List.setIfInBounds_toArray, List.set_cons_zero, List.set_cons_succ] at hh
              exact hh)
          have st011 := hide (show ∀ (wv : World) (gB : Nat) (gC : Nat), (Hid (Ro wv (w.heap.size) (#[.int .i64 v, .int .u32 (a' : Int), .int .u32 (b' : Int), .int .u32 (c' : Int), .int .u32 (d' : Int), .int .u32 (x' : Int), .int .u32 (y' : Int)]) 35) ∧ Hid (Below wx.heap.size wx wv)) → wx.heap.size ≤ gB → Hid (Ro wv gB #[.slice none 0 0, .slice none 0 0, .slice none 0 0, .slice none 0 0, .slice none 0 0, .slice none 0 0, .slice none 0 0] 28) → wx.heap.size ≤ gC → Hid (Ro wv gC #[.slice none 0 0, .int .i64 0, .int .i64 0, .int .i64 0] 39) → gB ≠ gC → F 8 #[true, false, true, true, false, false, false, false, false, true, true, false, false] { tmps := (((((T.setIfInBounds 40 (.slice A1 n1 c1)).setIfInBounds 42 (.agg #[.int .i64 v, .int .u32 (a' : Int), .int .u32 (b' : Int), .int .u32 (c' : Int), .int .u32 (d' : Int), .int .u32 (x' : Int), .int .u32 (y' : Int)])).setIfInBounds 43 (.bool wd)).setIfInBounds 9 (.pointer (some ⟨gB, 0, none⟩))).setIfInBounds 10 (.pointer (some ⟨gC, 0, none⟩))), defers := D } wv from by
            intro wv gB gC hHeld lB zB lC zC ne
            refine hI.out _ _ _ _ ?_
            obtain ⟨rfl, rfl⟩ := Act.mk.inj hTD.out
            try simp only [Act.put, List.setIfInBounds_toArray, List.set_cons_zero, List.set_cons_succ]
            refine wpAnyH_ready (rs := [1]) (by kernel_rfl) (by simp) ?_
            refine AllReadyH.cons rfl (fun K hK => ?_) (AllReadyH.nil)
            · go_simp
              refine (cu_.New _ _ _ _).mono ?_
              rintro e vv ⟨rfl, h1'⟩
              replace zB := hide (zB.out.below h1')
              replace zC := hide (zC.out.below h1')
              refine hK.out _ _ (⟨hide (hHeld.1.out.below h1'), hide (bel_next hHeld.2.out h1')⟩) (fun hHeld => ?_)
              clear hK K h1'
              try simp only [Act.put, List.setIfInBounds_toArray, List.set_cons_zero, List.set_cons_succ]
              refine hE.out _ _ _ _ ?_
              have hh := st111.out _ gB gC hHeld lB zB lC zC ne
              try simp only [Act.put, List.setIfInBounds_toArray, List.set_cons_zero, List.set_cons_succ] at hh
              exact hh)
          have st010 := hide (show ∀ (wv : World) (gB : Nat), (Hid (Ro wv (w.heap.size) (#[.int .i64 v, .int .u32 (a' : Int), .int .u32 (b' : Int), .int .u32 (c' : Int), .int .u32 (d' : Int), .int .u32 (x' : Int), .int .u32 (y' : Int)]) 35) ∧ Hid (Below wx.heap.size wx wv)) → wx.heap.size ≤ gB → Hid (Ro wv gB #[.slice none 0 0, .slice none 0 0, .slice none 0 0, .slice none 0 0, .slice none 0 0, .slice none 0 0, .slice none 0 0] 28) → F 9 #[true, false, true, true, false, false, false, false, false, true, false, false, false] { tmps := ((((T.setIfInBounds 40 (.slice A1 n1 c1)).setIfInBounds 42 (.agg #[.int .i64 v, .int .u32 (a' : Int), .int .u32 (b' : Int), .int .u32 (c' : Int), .int .u32 (d' : Int), .int .u32 (x' : Int), .int .u32 (y' : Int)])).setIfInBounds 43 (.bool wd)).setIfInBounds 9 (.pointer (some ⟨gB, 0, none⟩))), defers := D } wv from by
            intro wv gB hHeld lB zB
            refine hI.out _ _ _ _ ?_
            obtain ⟨rfl, rfl⟩ := Act.mk.inj hTD.out
            try simp only [Act.put, List.setIfInBounds_toArray, List.set_cons_zero, List.set_cons_succ]
            refine wpAnyH_ready (rs := [1, 10]) (by kernel_rfl) (by simp) ?_
            refine AllReadyH.cons rfl (fun K hK => ?_) (AllReadyH.cons rfl (fun K hK => ?_) (AllReadyH.nil))
            · go_simp
              refine (cu_.New _ _ _ _).mono ?_
              rintro e vv ⟨rfl, h1'⟩
              replace zB := hide (zB.out.below h1')
              refine hK.out _ _ (⟨hide (hHeld.1.out.below h1'), hide (bel_next hHeld.2.out h1')⟩) (fun hHeld => ?_)
              clear hK K h1'
              try simp only [Act.put, List.setIfInBounds_toArray, List.set_cons_zero, List.set_cons_succ]
              refine hE.out _ _ _ _ ?_
              have hh := st110.out _ gB hHeld lB zB
              try simp only [Act.put, List.setIfInBounds_toArray, List.set_cons_zero, List.set_cons_succ] at hh
              exact hh
            · go_simp
              have lC := hHeld.2.out.size
              have zC := hide (Ro.new wv #[.slice none 0 0, .int .i64 0, .int .i64 0, .int .i64 0] 39)
              have ne := (show gB ≠ wv.heap.size from fun h => by have := zB.out.lt; omega)
              replace zB := hide (zB.out.alloc (.cells #[.slice none 0 0, .int .i64 0, .int .i64 0, .int .i64 0] 39))
              refine hK.out _ _ (⟨hide (hHeld.1.out.alloc _), hide (bl_alloc hHeld.2.out _)⟩) (fun hHeld => ?_)
              clear hK K
              try simp only [Act.put, List.setIfInBounds_toArray, List.set_cons_zero, List.set_cons_succ]
              refine hE.out _ _ _ _ ?_
              have hh := st011.out _ gB wv.heap.size hHeld lB zB lC zC ne
              try simp only [Act.put, List.setIfInBounds_toArray, List.set_cons_zero, List.set_cons_succ] at hh
              exact hh)
          have st001 := hide (show ∀ (wv : World) (gC : Nat), (Hid (Ro wv (w.heap.size) (#[.int .i64 v, .int .u32 (a' : Int), .int .u32 (b' : Int), .int .u32 (c' : Int), .int .u32 (d' : Int), .int .u32 (x' : Int), .int .u32 (y' : Int)]) 35) ∧ Hid (Below wx.heap.size wx wv)) → wx.heap.size ≤ gC → Hid (Ro wv gC #[.slice none 0 0, .int .i64 0, .int .i64 0, .int .i64 0] 39) → F 9 #[true, false, true, true, false, false, false, false, false, false, true, false, false] { tmps := ((((T.setIfInBounds 40 (.slice A1 n1 c1)).setIfInBounds 42 (.agg #[.int .i64 v, .int .u32 (a' : Int), .int .u32 (b' : Int), .int .u32 (c' : Int), .int .u32 (d' : Int), .int .u32 (x' : Int), .int .u32 (y' : Int)])).setIfInBounds 43 (.bool wd)).setIfInBounds 10 (.pointer (some ⟨gC, 0, none⟩))), defers := D } wv from by
            intro wv gC hHeld lC zC
            refine hI.out _ _ _ _ ?_
            obtain ⟨rfl, rfl⟩ := Act.mk.inj hTD.out
            try simp only [Act.put, List.setIfInBounds_toArray, List.set_cons_zero, List.set_cons_succ]
            refine wpAnyH_ready (rs := [1, 9]) (by kernel_rfl) (by simp) ?_
            refine AllReadyH.cons rfl (fun K hK => ?_) (AllReadyH.cons rfl (fun K hK => ?_) (AllReadyH.nil))
            · go_simp
              refine (cu_.New _ _ _ _).mono ?_
              rintro e vv ⟨rfl, h1'⟩
              replace zC := hide (zC.out.below h1')
              refine hK.out _ _ (⟨hide (hHeld.1.out.below h1'), hide (bel_next hHeld.2.out h1')⟩) (fun hHeld => ?_)
              clear hK K h1'
              try simp only [Act.put, List.setIfInBounds_toArray, List.set_cons_zero, List.set_cons_succ]
              refine hE.out _ _ _ _ ?_
              have hh := st101.out _ gC hHeld lC zC
              try simp only [Act.put, List.setIfInBounds_toArray, List.set_cons_zero, List.set_cons_succ] at hh
              exact hh
            · go_simp
              have lB := hHeld.2.out.size
              have zB := hide (Ro.new wv #[.slice none 0 0, .slice none 0 0, .slice none 0 0, .slice none 0 0, .slice none 0 0, .slice none 0 0, .slice none 0 0] 28)
              have ne := (show wv.heap.size ≠ gC from fun h => by have := zC.out.lt; omega)
              replace zC := hide (zC.out.alloc (.cells #[.slice none 0 0, .slice none 0 0, .slice none 0 0, .slice none 0 0, .slice none 0 0, .slice none 0 0, .slice none 0 0] 28))
              refine hK.out _ _ (⟨hide (hHeld.1.out.alloc _), hide (bl_alloc hHeld.2.out _)⟩) (fun hHeld => ?_)
              clear hK K
              try simp only [Act.put, List.setIfInBounds_toArray, List.set_cons_zero, List.set_cons_succ]
              refine hE.out _ _ _ _ ?_
              have hh := st011.out _ wv.heap.size gC hHeld lB zB lC zC ne
              try simp only [Act.put, List.setIfInBounds_toArray, List.set_cons_zero, List.set_cons_succ] at hh
              exact hh)
          have st000 := hide (show ∀ (wv : World), (Hid (Ro wv (w.heap.size) (#[.int .i64 v, .int .u32 (a' : Int), .int .u32 (b' : Int), .int .u32 (c' : Int), .int .u32 (d' : Int), .int .u32 (x' : Int), .int .u32 (y' : Int)]) 35) ∧ Hid (Below wx.heap.size wx wv)) → F 10 #[true, false, true, true, false, false, false, false, false, false, false, false, false] { tmps := (((T.setIfInBounds 40 (.slice A1 n1 c1)).setIfInBounds 42 (.agg #[.int .i64 v, .int .u32 (a' : Int), .int .u32 (b' : Int), .int .u32 (c' : Int), .int .u32 (d' : Int), .int .u32 (x' : Int), .int .u32 (y' : Int)])).setIfInBounds 43 (.bool wd)), defers := D } wv from by
            intro wv  hHeld 
            refine hI.out _ _ _ _ ?_
            obtain ⟨rfl, rfl⟩ := Act.mk.inj hTD.out
            try simp only [Act.put, List.setIfInBounds_toArray, List.set_cons_zero, List.set_cons_succ]
            refine wpAnyH_ready (rs := [1, 9, 10]) (by kernel_rfl) (by simp) ?_
            refine AllReadyH.cons rfl (fun K hK => ?_) (AllReadyH.cons rfl (fun K hK => ?_) (AllReadyH.cons rfl (fun K hK => ?_) (AllReadyH.nil)))
            · go_simp
              refine (cu_.New _ _ _ _).mono ?_
              rintro e vv ⟨rfl, h1'⟩
              refine hK.out _ _ (⟨hide (hHeld.1.out.below h1'), hide (bel_next hHeld.2.out h1')⟩) (fun hHeld => ?_)
              clear hK K h1'
              try simp only [Act.put, List.setIfInBounds_toArray, List.set_cons_zero, List.set_cons_succ]
              refine hE.out _ _ _ _ ?_
              have hh := st100.out _  hHeld
              try simp only [Act.put, List.setIfInBounds_toArray, List.set_cons_zero, List.set_cons_succ] at hh
              exact hh
            · go_simp
              have lB := hHeld.2.out.size
              have zB := hide (Ro.new wv #[.slice none 0 0, .slice none 0 0, .slice none 0 0, .slice none 0 0, .slice none 0 0, .slice none 0 0, .slice none 0 0] 28)
              refine hK.out _ _ (⟨hide (hHeld.1.out.alloc _), hide (bl_alloc hHeld.2.out _)⟩) (fun hHeld => ?_)
              clear hK K
              try simp only [Act.put, List.setIfInBounds_toArray, List.set_cons_zero, List.set_cons_succ]
              refine hE.out _ _ _ _ ?_
              have hh := st010.out _ wv.heap.size hHeld lB zB
              try simp only [Act.put, List.setIfInBounds_toArray, List.set_cons_zero, List.set_cons_succ] at hh
              exact hh
            · go_simp
              have lC := hHeld.2.out.size
              have zC := hide (Ro.new wv #[.slice none 0 0, .int .i64 0, .int .i64 0, .int .i64 0] 39)
              refine hK.out _ _ (⟨hide (hHeld.1.out.alloc _), hide (bl_alloc hHeld.2.out _)⟩) (fun hHeld => ?_)
              clear hK K
              try simp only [Act.put, List.setIfInBounds_toArray, List.set_cons_zero, List.set_cons_succ]
              refine hE.out _ _ _ _ ?_
              have hh := st001.out _ wv.heap.size hHeld lC zC
              try simp only [Act.put, List.setIfInBounds_toArray, List.set_cons_zero, List.set_cons_succ] at hh
              exact hh)
          have hh := st000.out _ hHeld
          obtain ⟨rfl, rfl⟩ := Act.mk.inj hTD.out
          try simp only [Act.put, List.setIfInBounds_toArray, List.set_cons_zero, List.set_cons_succ] at hh
          exact hh
        case rest =>
          obtain ⟨gB, gC, S9, rfl, rfl, lB, lC, ne, k9, k10, oS, -, -, h1⟩ := hcut
          replace hb := hide (bel_next hb.out h1.out)
          have i9 := hide oS.out.is
          clear oS h1 HT r1 k5
          obtain ⟨k9c0, _⟩ := ro_cf k9.out 0 _ rfl
          obtain ⟨k9c1, _⟩ := ro_cf k9.out 1 _ rfl
          obtain ⟨k9c2, _⟩ := ro_cf k9.out 2 _ rfl
          obtain ⟨k9c3, _⟩ := ro_cf k9.out 3 _ rfl
          obtain ⟨k9c4, _⟩ := ro_cf k9.out 4 _ rfl
          obtain ⟨k9c5, _⟩ := ro_cf k9.out 5 _ rfl
          obtain ⟨k9c6, _⟩ := ro_cf k9.out 6 _ rfl
          obtain ⟨k10c1, _⟩ := ro_cf k10.out 1 _ rfl
          obtain ⟨k10c2, _⟩ := ro_cf k10.out 2 _ rfl
          obtain ⟨k10c3, _⟩ := ro_cf k10.out 3 _ rfl
          go_wp2_with fail
          refine (r19_.Equal _ BkS.zero _ _ _ i9.out (isBk_zero _)).mono ?_
          rintro e wb ⟨rfl, h1⟩
          clear k9c0 k9c1 k9c2 k9c3 k9c4 k9c5 k9c6 k10c1 k10c2 k10c3 k9 k10 i9
          replace hb := hide (bel_next hb.out h1)
          rw [beqB_self]
          go_wp2
          go_ret
          exact ⟨rfl, hb.out⟩
end l19_
end Go.Proofs.YtbajdlgcajeldaaDoor

/-
  THE WALKS OF THE LAWS OF LAYER 19 (zoneinfolaw19): BlockIsCanonical. Condition: the table's fact.
-/
import Derived.Test.YtbajdlgcajeldaaDoorLaw19
import Derived.Test.YtbajdlgcajeldaaDoorLaw19w
import Derived.Deep.RegionLaw
namespace Go.Proofs.YtbajdlgcajeldaaDoor
open Go.ChangeShapes Go.WideShapes Go.ChangeAt Go.RowKit
set_option linter.unusedVariables false
set_option linter.unusedSimpArgs false
set_option maxRecDepth 100000
namespace l19_
set_option maxHeartbeats 16000000 in
theorem canonical (A1 : Option Addr) (n1 c1 : Nat) (z1 : List Int) (v a b c d x y : Int) (wd : Bool) (q : Int) (w : World) (hT : Tq w) (h1 : IsRw .u8 w A1 n1 c1 z1) (hv : (Lit.int .i64 v).wf = true) (ha : (Lit.int .u32 a).wf = true) (hb_ : (Lit.int .u32 b).wf = true) (hc : (Lit.int .u32 c).wf = true) (hd : (Lit.int .u32 d).wf = true) (hx : (Lit.int .u32 x).wf = true) (hy : (Lit.int .u32 y).wf = true) (hq_ : (Lit.int .u8 q).wf = true) :
    Calls Tryd.prog 4 #[.slice A1 n1 c1, .agg #[.int .i64 v, .int .u32 a, .int .u32 b, .int .u32 c, .int .u32 d, .int .u32 x, .int .u32 y], .bool wd, .int .u8 q] w fun e w' => e = .returned (.bool true) ∧ Below w.heap.size w w' := by
  obtain ⟨q0, q1⟩ := wf_u8 hq_
  clear hq_
  have r1 := hide h1.rd
  have B1 := hide (show Bytes (z1.take n1) from bytes_of_mem fun q hq => wf_u8 (h1.wf q hq))
  have nil1 := hide h1.nil
  obtain ⟨oc1, om1⟩ := h1.cap
  obtain ⟨a, rfl⟩ : ∃ m : Nat, a = (m : Int) := ⟨a.toNat, by have := (c32_ ha).1; omega⟩
  obtain ⟨b, rfl⟩ : ∃ m : Nat, b = (m : Int) := ⟨b.toNat, by have := (c32_ hb_).1; omega⟩
  obtain ⟨c, rfl⟩ : ∃ m : Nat, c = (m : Int) := ⟨c.toNat, by have := (c32_ hc).1; omega⟩
  obtain ⟨d, rfl⟩ : ∃ m : Nat, d = (m : Int) := ⟨d.toNat, by have := (c32_ hd).1; omega⟩
  obtain ⟨x, rfl⟩ : ∃ m : Nat, x = (m : Int) := ⟨x.toNat, by have := (c32_ hx).1; omega⟩
  obtain ⟨y, rfl⟩ : ∃ m : Nat, y = (m : Int) := ⟨y.toNat, by have := (c32_ hy).1; omega⟩
  have C0 : C32 (a : Int) ∧ C32 (b : Int) ∧ C32 (c : Int) ∧ C32 (d : Int) ∧ C32 (x : Int) ∧ C32 (y : Int) := ⟨c32_ ha, c32_ hb_, c32_ hc, c32_ hd, c32_ hx, c32_ hy⟩
  clear hv ha hb_ hc hd hx hy h1
  obtain ⟨k, hk, hK⟩ : ∃ k : Nat, (k = 4 ∨ k = 8) ∧ (if wd = true then (8 : Int) else 4) = (k : Int) := by cases wd; exact ⟨4, .inl rfl, rfl⟩; exact ⟨8, .inr rfl, rfl⟩
  have Zs := hide (fun w => (r14_.SizeB wd w).mono (R' := fun e w' => e = .returned (.int .i64 (k : Int)) ∧ Below w.heap.size w w') (by rintro e w' ⟨rfl, h⟩; exact ⟨by rw [hK], h⟩))
  clear hK
  have hL : LyC a b c d x y (k : Int) := ⟨C0.1, C0.2.1, C0.2.2.1, C0.2.2.2.1, C0.2.2.2.2.1, C0.2.2.2.2.2, by omega⟩
  clear C0
  have hln : (z1.take n1).length = n1 := by have := r1.out.len; simpa using this
  have hb := hide (bl_new w (.cells #[.int .i64 v, .int .u32 (a : Int), .int .u32 (b : Int), .int .u32 (c : Int), .int .u32 (d : Int), .int .u32 (x : Int), .int .u32 (y : Int)] 35))
  have k5 := hide (Ro.new w #[.int .i64 v, .int .u32 (a : Int), .int .u32 (b : Int), .int .u32 (c : Int), .int .u32 (d : Int), .int .u32 (x : Int), .int .u32 (y : Int)] 35)
  have HT := hide (hT.below hb.out)
  have HT0 := hide hT
  have r0 := r1
  replace r1 := hide (r1.out.below hb.out)
  clear hT
  go_enter Tryd.func4, Tryd.ntmps4
  go_upto_region 1 with fail
  generalize w.alloc (.cells #[.int .i64 v, .int .u32 (a : Int), .int .u32 (b : Int), .int .u32 (c : Int), .int .u32 (d : Int), .int .u32 (x : Int), .int .u32 (y : Int)] 35) = u1 at *
  go_wp2_with fail
  refine (awake _ HT.out).mono ?_
  rintro e w1 ⟨rfl, h1⟩
  replace k5 := hide (k5.out.below h1)
  replace r1 := hide (r1.out.below h1)
  replace HT := hide (HT.out.below h1)
  replace hb := hide (bel_next hb.out h1)
  clear h1
  by_cases hn : 1000 < n1
  · go_wp2_with fail
    refine (awake _ HT.out).mono ?_
    rintro e w2 ⟨rfl, h1⟩
    replace k5 := hide (k5.out.below h1)
    replace r1 := hide (r1.out.below h1)
    replace HT := hide (HT.out.below h1)
    replace hb := hide (bel_next hb.out h1)
    clear h1
    go_wp2
    go_ret
    exact ⟨rfl, hb.out⟩
  · have hn2 : (n1 : Int) ≤ 1000 := by omega
    go_wp2_with fail
    refine (Zs.out _).mono ?_
    rintro e w3 ⟨rfl, h1⟩
    replace k5 := hide (k5.out.below h1)
    replace r1 := hide (r1.out.below h1)
    replace HT := hide (HT.out.below h1)
    replace hb := hide (bel_next hb.out h1)
    clear h1
    clear Zs
    obtain ⟨N, hN⟩ : ∃ N, N = tot k a b c d x y := ⟨_, rfl⟩
    obtain ⟨Q, P, E, T, hq, hout⟩ : ∃ Q P E T, DecAt k a b c d x y (z1.take n1) 0 0 0 5 Q P E T ∧ ((n1 < N ∧ Q = Bk.zero ∧ P = 0 ∧ E = 1 ∧ T = (n1 : Int)) ∨ (N ≤ n1 ∧ Q = Bk.zero ∧ P = (N : Int) ∧ E = 10 ∧ T = 5) ∨ (N ≤ n1 ∧ flB k a b c d x y (z1.take n1) 0 = true ∧ Q = decBk k a b c d x y (z1.take n1) 0 ∧ P = (N : Int) ∧ E = 0 ∧ T = 0)) := by
      rcases Nat.lt_or_ge n1 N with hlt | hge
      · exact ⟨Bk.zero, 0, 1, n1, ⟨fun h => absurd rfl h, fun _ => ⟨rfl, 0, rfl, Nat.zero_le _, by unfold decB; rw [if_pos (by rw [hln]; omega), hln]; rfl⟩⟩, .inl ⟨hlt, rfl, rfl, rfl, rfl⟩⟩
      · rcases hf : flB k a b c d x y (z1.take n1) 0 with _ | _
        · exact ⟨Bk.zero, N, 10, 5, ⟨fun h => absurd rfl h, fun _ => ⟨rfl, 0, rfl, Nat.zero_le _, by unfold decB; rw [if_neg (by rw [hln]; omega), if_neg (by rw [hf]; decide), ← hN, Nat.zero_add]⟩⟩, .inr (.inl ⟨hge, rfl, rfl, rfl, rfl⟩)⟩
        · exact ⟨_, N, 0, 0, ⟨fun h => absurd rfl h, fun _ => ⟨rfl, 0, rfl, Nat.zero_le _, by unfold decB; rw [if_neg (by rw [hln]; omega), if_pos hf, ← hN, Nat.zero_add]⟩⟩, .inr (.inr ⟨hge, rfl, rfl, rfl, rfl, rfl⟩)⟩
    have D := hide (fun w hT hr => bl_.DecodeQ A1 n1 c1 (z1.take n1) v a b c d x y k k 5 0 0 0 Q P E T w hT rfl hk hL nil1.out oc1 om1 hr B1.out (by omega) hq)
    dsimp only [bkV, cu, hdV] at D
    replace hL := hide hL
    replace hk := hide hk
    replace hN := hide hN
    replace hln := hide hln
    replace hout := hide hout
    have HN := hide hn2
    clear hn hq
    go_upto_region 4 with fail
    go_cut [10, 11] (fun s10 s11 wz => ∃ (gB gC : Nat) (S : BkS), s10 = .pointer (some ⟨gB, 0, none⟩) ∧ s11 = .pointer (some ⟨gC, 0, none⟩) ∧ w3.heap.size ≤ gB ∧ w3.heap.size ≤ gC ∧ gB ≠ gC ∧ Hid (Ro wz gB #[.slice S.ti.A S.ti.n S.ti.c, .slice S.ix.A S.ix.n S.ix.c, .slice S.ty.A S.ty.n S.ty.c, .slice S.ch.A S.ch.n S.ch.c, .slice S.lp.A S.lp.n S.lp.c, .slice S.sd.A S.sd.n S.sd.c, .slice S.ut.A S.ut.n S.ut.c] 28) ∧ Hid (Ro wz gC #[.slice A1 n1 c1, .int .i64 P, .int .i64 E, .int .i64 T] 39) ∧ Hid (OwBk wz w3.heap.size S Q) ∧ Hid (NeS S gB) ∧ Hid (NeS S gC) ∧ Hid (Below w3.heap.size w3 wz))
    case first =>
      have lbx0 := (show w.heap.size < w3.heap.size from k5.out.lt)
      refine wp_region_held_drew (S := fun w' => Hid (Ro w' (w.heap.size) (#[.int .i64 v, .int .u32 (a : Int), .int .u32 (b : Int), .int .u32 (c : Int), .int .u32 (d : Int), .int .u32 (x : Int), .int .u32 (y : Int)]) 35) ∧ Hid (Below w3.heap.size w3 w')) (by kernel_rfl) (⟨hide k5.out.drew, hide (bl_drew (bl_refl _))⟩) (fun hHeld => ?_)
      generalize w3.drew = u0 at *
      refine wpAnyH_takeD (i := 0) (d := (some 26)) (v := ?_) rfl rfl (by kernel_rfl) (by kernel_rfl) (by kernel_rfl) (fun _ _ _ h => h) (Or.inl ⟨by rfl, ?_⟩) (by assumption) ?_
      rotate_left
      · ((intro w hSw; go_simp) <;> with_reducible rfl)
      try simp only [Act.put, List.setIfInBounds_toArray, List.set_cons_zero, List.set_cons_succ]
      refine wpAnyH_takeD (i := 2) (d := (some 28)) rfl rfl (by kernel_rfl) (by kernel_rfl) (by kernel_rfl) (fun _ _ _ h => h) (yieldsIf_load_row (by rfl) 35 _ rfl (w.heap.size) rfl 35 #[.int .i64 v, .int .u32 (a : Int), .int .u32 (b : Int), .int .u32 (c : Int), .int .u32 (d : Int), .int .u32 (x : Int), .int .u32 (y : Int)] _ (fun w hw => hw.1.out) Tryd.underlying35 rfl (by kernel_rfl)) (by assumption) ?_
      try simp only [Act.put, List.setIfInBounds_toArray, List.set_cons_zero, List.set_cons_succ]
      refine wpAnyH_takeD (i := 3) (d := (some 29)) (v := ?_) rfl rfl (by kernel_rfl) (by kernel_rfl) (by kernel_rfl) (fun _ _ _ h => h) (Or.inl ⟨by rfl, ?_⟩) (by assumption) ?_
      rotate_left
      · ((intro w hSw; go_simp) <;> with_reducible rfl)
      try simp only [Act.put, List.setIfInBounds_toArray, List.set_cons_zero, List.set_cons_succ]
      refine wpAnyH_share (fun FF hI hE TM DF hTD => ?_)
      have st211 := hide (show ∀ (wv : World) (S : BkS) (gB : Nat) (gC : Nat), (Hid (Ro wv (w.heap.size) (#[.int .i64 v, .int .u32 (a : Int), .int .u32 (b : Int), .int .u32 (c : Int), .int .u32 (d : Int), .int .u32 (x : Int), .int .u32 (y : Int)]) 35) ∧ Hid (Below w3.heap.size w3 wv)) → w3.heap.size ≤ gB → Hid (Ro wv gB #[.slice none 0 0, .slice none 0 0, .slice none 0 0, .slice none 0 0, .slice none 0 0, .slice none 0 0, .slice none 0 0] 28) → w3.heap.size ≤ gC → Hid (Ro wv gC #[.slice none 0 0, .int .i64 0, .int .i64 0, .int .i64 0] 39) → gB ≠ gC → Hid (OwBk wv w3.heap.size S Q) → Hid (NeS S gB) → Hid (NeS S gC) → FF 2 #[true, true, true, true, true, true, true, true, true, true, false, false] { tmps := ((((((((((TM.setIfInBounds 26 (.slice A1 n1 c1)).setIfInBounds 27 (.agg #[.slice A1 n1 c1, .int .i64 0, .int .i64 0, .int .i64 0])).setIfInBounds 28 (.agg #[.int .i64 v, .int .u32 (a : Int), .int .u32 (b : Int), .int .u32 (c : Int), .int .u32 (d : Int), .int .u32 (x : Int), .int .u32 (y : Int)])).setIfInBounds 29 (.int .i64 (k : Int))).setIfInBounds 30 (.tuple #[.agg #[.slice S.ti.A S.ti.n S.ti.c, .slice S.ix.A S.ix.n S.ix.c, .slice S.ty.A S.ty.n S.ty.c, .slice S.ch.A S.ch.n S.ch.c, .slice S.lp.A S.lp.n S.lp.c, .slice S.sd.A S.sd.n S.sd.c, .slice S.ut.A S.ut.n S.ut.c], .agg #[.slice A1 n1 c1, .int .i64 P, .int .i64 E, .int .i64 T]])).setIfInBounds 25 (.tuple #[.agg #[.slice S.ti.A S.ti.n S.ti.c, .slice S.ix.A S.ix.n S.ix.c, .slice S.ty.A S.ty.n S.ty.c, .slice S.ch.A S.ch.n S.ch.c, .slice S.lp.A S.lp.n S.lp.c, .slice S.sd.A S.sd.n S.sd.c, .slice S.ut.A S.ut.n S.ut.c], .agg #[.slice A1 n1 c1, .int .i64 P, .int .i64 E, .int .i64 T]])).setIfInBounds 31 (.agg #[.slice S.ti.A S.ti.n S.ti.c, .slice S.ix.A S.ix.n S.ix.c, .slice S.ty.A S.ty.n S.ty.c, .slice S.ch.A S.ch.n S.ch.c, .slice S.lp.A S.lp.n S.lp.c, .slice S.sd.A S.sd.n S.sd.c, .slice S.ut.A S.ut.n S.ut.c])).setIfInBounds 32 (.agg #[.slice A1 n1 c1, .int .i64 P, .int .i64 E, .int .i64 T])).setIfInBounds 10 (.pointer (some ⟨gB, 0, none⟩))).setIfInBounds 11 (.pointer (some ⟨gC, 0, none⟩))), defers := DF } wv from by
        intro wv S gB gC hHeld lB zB lC zC ne oS nB nC
        refine hI.out _ _ _ _ ?_
        obtain ⟨rfl, rfl⟩ := Act.mk.inj hTD.out
        try simp only [Act.put, List.setIfInBounds_toArray, List.set_cons_zero, List.set_cons_succ]
        refine wpAnyH_ready (rs := [10]) (by kernel_rfl) (by simp) ?_
        refine AllReadyH.cons rfl (fun K hK => ?_) (AllReadyH.nil)
        obtain ⟨y0, w0⟩ := ro_cf zB.out 0 _ rfl; obtain ⟨y1, w1⟩ := ro_cf zB.out 1 _ rfl; obtain ⟨y2, w2⟩ := ro_cf zB.out 2 _ rfl; obtain ⟨y3, w3⟩ := ro_cf zB.out 3 _ rfl; obtain ⟨y4, w4⟩ := ro_cf zB.out 4 _ rfl; obtain ⟨y5, w5⟩ := ro_cf zB.out 5 _ rfl; obtain ⟨y6, w6⟩ := ro_cf zB.out 6 _ rfl
        have su := hHeld.2.out.size
        have lb0 := hHeld.1.out.lt
        go_simp
        refine hK.out _ _ (⟨hide (ro_away7 (g' := gB) (x0 := .slice S.ti.A S.ti.n S.ti.c) (x1 := .slice S.ix.A S.ix.n S.ix.c) (x2 := .slice S.ty.A S.ty.n S.ty.c) (x3 := .slice S.ch.A S.ch.n S.ch.c) (x4 := .slice S.lp.A S.lp.n S.lp.c) (x5 := .slice S.sd.A S.sd.n S.sd.c) (x6 := .slice S.ut.A S.ut.n S.ut.c) hHeld.1.out (by have := lbx0; omega)), hide (bl_setx7 (g := gB) (x0 := .slice S.ti.A S.ti.n S.ti.c) (x1 := .slice S.ix.A S.ix.n S.ix.c) (x2 := .slice S.ty.A S.ty.n S.ty.c) (x3 := .slice S.ch.A S.ch.n S.ch.c) (x4 := .slice S.lp.A S.lp.n S.lp.c) (x5 := .slice S.sd.A S.sd.n S.sd.c) (x6 := .slice S.ut.A S.ut.n S.ut.c) hHeld.2.out lB)⟩) (fun hHeld => ?_)
        clear hK K y0 w0 y1 w1 y2 w2 y3 w3 y4 w4 y5 w5 y6 w6
        replace zB := hide (ro_set7' (x0 := .slice S.ti.A S.ti.n S.ti.c) (x1 := .slice S.ix.A S.ix.n S.ix.c) (x2 := .slice S.ty.A S.ty.n S.ty.c) (x3 := .slice S.ch.A S.ch.n S.ch.c) (x4 := .slice S.lp.A S.lp.n S.lp.c) (x5 := .slice S.sd.A S.sd.n S.sd.c) (x6 := .slice S.ut.A S.ut.n S.ut.c) zB.out)
        replace zC := hide (ro_away7 (g' := gB) (x0 := .slice S.ti.A S.ti.n S.ti.c) (x1 := .slice S.ix.A S.ix.n S.ix.c) (x2 := .slice S.ty.A S.ty.n S.ty.c) (x3 := .slice S.ch.A S.ch.n S.ch.c) (x4 := .slice S.lp.A S.lp.n S.lp.c) (x5 := .slice S.sd.A S.sd.n S.sd.c) (x6 := .slice S.ut.A S.ut.n S.ut.c) zC.out (by omega))
        replace oS := hide (oS.out.away7 nB.out (.slice S.ti.A S.ti.n S.ti.c) (.slice S.ix.A S.ix.n S.ix.c) (.slice S.ty.A S.ty.n S.ty.c) (.slice S.ch.A S.ch.n S.ch.c) (.slice S.lp.A S.lp.n S.lp.c) (.slice S.sd.A S.sd.n S.sd.c) (.slice S.ut.A S.ut.n S.ut.c))
        generalize (((((((wv.setCell ⟨gB, 0, none⟩ (.slice S.ti.A S.ti.n S.ti.c)).setCell ⟨gB, 1, none⟩ (.slice S.ix.A S.ix.n S.ix.c)).setCell ⟨gB, 2, none⟩ (.slice S.ty.A S.ty.n S.ty.c)).setCell ⟨gB, 3, none⟩ (.slice S.ch.A S.ch.n S.ch.c)).setCell ⟨gB, 4, none⟩ (.slice S.lp.A S.lp.n S.lp.c)).setCell ⟨gB, 5, none⟩ (.slice S.sd.A S.sd.n S.sd.c)).setCell ⟨gB, 6, none⟩ (.slice S.ut.A S.ut.n S.ut.c)) = wv1 at *
        try simp only [Act.put, List.setIfInBounds_toArray, List.set_cons_zero, List.set_cons_succ]
        refine wpAnyH_ready (rs := [11]) (by kernel_rfl) (by simp) ?_
        refine AllReadyH.cons rfl (fun K hK => ?_) (AllReadyH.nil)
        obtain ⟨y0, w0⟩ := ro_cf zC.out 0 _ rfl; obtain ⟨y1, w1⟩ := ro_cf zC.out 1 _ rfl; obtain ⟨y2, w2⟩ := ro_cf zC.out 2 _ rfl; obtain ⟨y3, w3⟩ := ro_cf zC.out 3 _ rfl
        have su := hHeld.2.out.size
        have lb0 := hHeld.1.out.lt
        go_simp
        refine hK.out _ _ (⟨hide (ro_away4 (g' := gC) (x0 := .slice A1 n1 c1) (x1 := .int .i64 P) (x2 := .int .i64 E) (x3 := .int .i64 T) hHeld.1.out (by have := lbx0; omega)), hide (bl_setx4 (g := gC) (x0 := .slice A1 n1 c1) (x1 := .int .i64 P) (x2 := .int .i64 E) (x3 := .int .i64 T) hHeld.2.out lC)⟩) (fun hHeld => ?_)
        clear hK K y0 w0 y1 w1 y2 w2 y3 w3
        replace zC := hide (ro_set4' (x0 := .slice A1 n1 c1) (x1 := .int .i64 P) (x2 := .int .i64 E) (x3 := .int .i64 T) zC.out)
        replace zB := hide (ro_away4 (g' := gC) (x0 := .slice A1 n1 c1) (x1 := .int .i64 P) (x2 := .int .i64 E) (x3 := .int .i64 T) zB.out (by omega))
        replace oS := hide (oS.out.away4 nC.out (.slice A1 n1 c1) (.int .i64 P) (.int .i64 E) (.int .i64 T))
        generalize ((((wv1.setCell ⟨gC, 0, none⟩ (.slice A1 n1 c1)).setCell ⟨gC, 1, none⟩ (.int .i64 P)).setCell ⟨gC, 2, none⟩ (.int .i64 E)).setCell ⟨gC, 3, none⟩ (.int .i64 T)) = wv2 at *
        try simp only [Act.put, List.setIfInBounds_toArray, List.set_cons_zero, List.set_cons_succ]
        refine wpAnyH_done (by kernel_rfl) ?_ _
        go_wp2_with fail
        go_meet
        exact ⟨gB, gC, S, rfl, rfl, lB, lC, ne, zB, zC, oS, nB, nC, hHeld.2⟩)
      have st210 := hide (show ∀ (wv : World) (S : BkS) (gB : Nat), (Hid (Ro wv (w.heap.size) (#[.int .i64 v, .int .u32 (a : Int), .int .u32 (b : Int), .int .u32 (c : Int), .int .u32 (d : Int), .int .u32 (x : Int), .int .u32 (y : Int)]) 35) ∧ Hid (Below w3.heap.size w3 wv)) → w3.heap.size ≤ gB → Hid (Ro wv gB #[.slice none 0 0, .slice none 0 0, .slice none 0 0, .slice none 0 0, .slice none 0 0, .slice none 0 0, .slice none 0 0] 28) → Hid (OwBk wv w3.heap.size S Q) → Hid (NeS S gB) → FF 3 #[true, true, true, true, true, true, true, true, true, false, false, false] { tmps := (((((((((TM.setIfInBounds 26 (.slice A1 n1 c1)).setIfInBounds 27 (.agg #[.slice A1 n1 c1, .int .i64 0, .int .i64 0, .int .i64 0])).setIfInBounds 28 (.agg #[.int .i64 v, .int .u32 (a : Int), .int .u32 (b : Int), .int .u32 (c : Int), .int .u32 (d : Int), .int .u32 (x : Int), .int .u32 (y : Int)])).setIfInBounds 29 (.int .i64 (k : Int))).setIfInBounds 30 (.tuple #[.agg #[.slice S.ti.A S.ti.n S.ti.c, .slice S.ix.A S.ix.n S.ix.c, .slice S.ty.A S.ty.n S.ty.c, .slice S.ch.A S.ch.n S.ch.c, .slice S.lp.A S.lp.n S.lp.c, .slice S.sd.A S.sd.n S.sd.c, .slice S.ut.A S.ut.n S.ut.c], .agg #[.slice A1 n1 c1, .int .i64 P, .int .i64 E, .int .i64 T]])).setIfInBounds 25 (.tuple #[.agg #[.slice S.ti.A S.ti.n S.ti.c, .slice S.ix.A S.ix.n S.ix.c, .slice S.ty.A S.ty.n S.ty.c, .slice S.ch.A S.ch.n S.ch.c, .slice S.lp.A S.lp.n S.lp.c, .slice S.sd.A S.sd.n S.sd.c, .slice S.ut.A S.ut.n S.ut.c], .agg #[.slice A1 n1 c1, .int .i64 P, .int .i64 E, .int .i64 T]])).setIfInBounds 31 (.agg #[.slice S.ti.A S.ti.n S.ti.c, .slice S.ix.A S.ix.n S.ix.c, .slice S.ty.A S.ty.n S.ty.c, .slice S.ch.A S.ch.n S.ch.c, .slice S.lp.A S.lp.n S.lp.c, .slice S.sd.A S.sd.n S.sd.c, .slice S.ut.A S.ut.n S.ut.c])).setIfInBounds 32 (.agg #[.slice A1 n1 c1, .int .i64 P, .int .i64 E, .int .i64 T])).setIfInBounds 10 (.pointer (some ⟨gB, 0, none⟩))), defers := DF } wv from by
        intro wv S gB hHeld lB zB oS nB
        refine hI.out _ _ _ _ ?_
        obtain ⟨rfl, rfl⟩ := Act.mk.inj hTD.out
        try simp only [Act.put, List.setIfInBounds_toArray, List.set_cons_zero, List.set_cons_succ]
        refine wpAnyH_ready (rs := [9]) (by kernel_rfl) (by simp) ?_
        refine AllReadyH.cons rfl (fun K hK => ?_) (AllReadyH.nil)
        · go_simp
          have lC := hHeld.2.out.size
          have zC := hide (Ro.new wv #[.slice none 0 0, .int .i64 0, .int .i64 0, .int .i64 0] 39)
          have ne := (show gB ≠ wv.heap.size from fun h => by have := zB.out.lt; omega)
          replace zB := hide (zB.out.alloc (.cells #[.slice none 0 0, .int .i64 0, .int .i64 0, .int .i64 0] 39))
          have nC := hide (oS.out.ne (g := wv.heap.size) (.inr (Nat.le_refl _)))
          replace oS := hide (oS.out.below (bl_new _ (.cells #[.slice none 0 0, .int .i64 0, .int .i64 0, .int .i64 0] 39)))
          refine hK.out _ _ (⟨hide (hHeld.1.out.alloc _), hide (bl_alloc hHeld.2.out _)⟩) (fun hHeld => ?_)
          clear hK K
          try simp only [Act.put, List.setIfInBounds_toArray, List.set_cons_zero, List.set_cons_succ]
          refine hE.out _ _ _ _ ?_
          have hh := st211.out _ S gB wv.heap.size hHeld lB zB lC zC ne oS nB nC
          try simp only [Act.put, List.setIfInBounds_toArray, List.set_cons_zero, List.set_cons_succ] at hh
          exact hh)
      have st201 := hide (show ∀ (wv : World) (S : BkS) (gC : Nat), (Hid (Ro wv (w.heap.size) (#[.int .i64 v, .int .u32 (a : Int), .int .u32 (b : Int), .int .u32 (c : Int), .int .u32 (d : Int), .int .u32 (x : Int), .int .u32 (y : Int)]) 35) ∧ Hid (Below w3.heap.size w3 wv)) → w3.heap.size ≤ gC → Hid (Ro wv gC #[.slice none 0 0, .int .i64 0, .int .i64 0, .int .i64 0] 39) → Hid (OwBk wv w3.heap.size S Q) → Hid (NeS S gC) → FF 3 #[true, true, true, true, true, true, true, true, false, true, false, false] { tmps := (((((((((TM.setIfInBounds 26 (.slice A1 n1 c1)).setIfInBounds 27 (.agg #[.slice A1 n1 c1, .int .i64 0, .int .i64 0, .int .i64 0])).setIfInBounds 28 (.agg #[.int .i64 v, .int .u32 (a : Int), .int .u32 (b : Int), .int .u32 (c : Int), .int .u32 (d : Int), .int .u32 (x : Int), .int .u32 (y : Int)])).setIfInBounds 29 (.int .i64 (k : Int))).setIfInBounds 30 (.tuple #[.agg #[.slice S.ti.A S.ti.n S.ti.c, .slice S.ix.A S.ix.n S.ix.c, .slice S.ty.A S.ty.n S.ty.c, .slice S.ch.A S.ch.n S.ch.c, .slice S.lp.A S.lp.n S.lp.c, .slice S.sd.A S.sd.n S.sd.c, .slice S.ut.A S.ut.n S.ut.c], .agg #[.slice A1 n1 c1, .int .i64 P, .int .i64 E, .int .i64 T]])).setIfInBounds 25 (.tuple #[.agg #[.slice S.ti.A S.ti.n S.ti.c, .slice S.ix.A S.ix.n S.ix.c, .slice S.ty.A S.ty.n S.ty.c, .slice S.ch.A S.ch.n S.ch.c, .slice S.lp.A S.lp.n S.lp.c, .slice S.sd.A S.sd.n S.sd.c, .slice S.ut.A S.ut.n S.ut.c], .agg #[.slice A1 n1 c1, .int .i64 P, .int .i64 E, .int .i64 T]])).setIfInBounds 31 (.agg #[.slice S.ti.A S.ti.n S.ti.c, .slice S.ix.A S.ix.n S.ix.c, .slice S.ty.A S.ty.n S.ty.c, .slice S.ch.A S.ch.n S.ch.c, .slice S.lp.A S.lp.n S.lp.c, .slice S.sd.A S.sd.n S.sd.c, .slice S.ut.A S.ut.n S.ut.c])).setIfInBounds 32 (.agg #[.slice A1 n1 c1, .int .i64 P, .int .i64 E, .int .i64 T])).setIfInBounds 11 (.pointer (some ⟨gC, 0, none⟩))), defers := DF } wv from by
        intro wv S gC hHeld lC zC oS nC
        refine hI.out _ _ _ _ ?_
        obtain ⟨rfl, rfl⟩ := Act.mk.inj hTD.out
        try simp only [Act.put, List.setIfInBounds_toArray, List.set_cons_zero, List.set_cons_succ]
        refine wpAnyH_ready (rs := [8]) (by kernel_rfl) (by simp) ?_
        refine AllReadyH.cons rfl (fun K hK => ?_) (AllReadyH.nil)
        · go_simp
          have lB := hHeld.2.out.size
          have zB := hide (Ro.new wv #[.slice none 0 0, .slice none 0 0, .slice none 0 0, .slice none 0 0, .slice none 0 0, .slice none 0 0, .slice none 0 0] 28)
          have ne := (show wv.heap.size ≠ gC from fun h => by have := zC.out.lt; omega)
          replace zC := hide (zC.out.alloc (.cells #[.slice none 0 0, .slice none 0 0, .slice none 0 0, .slice none 0 0, .slice none 0 0, .slice none 0 0, .slice none 0 0] 28))
          have nB := hide (oS.out.ne (g := wv.heap.size) (.inr (Nat.le_refl _)))
          replace oS := hide (oS.out.below (bl_new _ (.cells #[.slice none 0 0, .slice none 0 0, .slice none 0 0, .slice none 0 0, .slice none 0 0, .slice none 0 0, .slice none 0 0] 28)))
          refine hK.out _ _ (⟨hide (hHeld.1.out.alloc _), hide (bl_alloc hHeld.2.out _)⟩) (fun hHeld => ?_)
          clear hK K
          try simp only [Act.put, List.setIfInBounds_toArray, List.set_cons_zero, List.set_cons_succ]
          refine hE.out _ _ _ _ ?_
          have hh := st211.out _ S wv.heap.size gC hHeld lB zB lC zC ne oS nB nC
          try simp only [Act.put, List.setIfInBounds_toArray, List.set_cons_zero, List.set_cons_succ] at hh
          exact hh)
      have st200 := hide (show ∀ (wv : World) (S : BkS), (Hid (Ro wv (w.heap.size) (#[.int .i64 v, .int .u32 (a : Int), .int .u32 (b : Int), .int .u32 (c : Int), .int .u32 (d : Int), .int .u32 (x : Int), .int .u32 (y : Int)]) 35) ∧ Hid (Below w3.heap.size w3 wv)) → Hid (OwBk wv w3.heap.size S Q) → FF 4 #[true, true, true, true, true, true, true, true, false, false, false, false] { tmps := ((((((((TM.setIfInBounds 26 (.slice A1 n1 c1)).setIfInBounds 27 (.agg #[.slice A1 n1 c1, .int .i64 0, .int .i64 0, .int .i64 0])).setIfInBounds 28 (.agg #[.int .i64 v, .int .u32 (a : Int), .int .u32 (b : Int), .int .u32 (c : Int), .int .u32 (d : Int), .int .u32 (x : Int), .int .u32 (y : Int)])).setIfInBounds 29 (.int .i64 (k : Int))).setIfInBounds 30 (.tuple #[.agg #[.slice S.ti.A S.ti.n S.ti.c, .slice S.ix.A S.ix.n S.ix.c, .slice S.ty.A S.ty.n S.ty.c, .slice S.ch.A S.ch.n S.ch.c, .slice S.lp.A S.lp.n S.lp.c, .slice S.sd.A S.sd.n S.sd.c, .slice S.ut.A S.ut.n S.ut.c], .agg #[.slice A1 n1 c1, .int .i64 P, .int .i64 E, .int .i64 T]])).setIfInBounds 25 (.tuple #[.agg #[.slice S.ti.A S.ti.n S.ti.c, .slice S.ix.A S.ix.n S.ix.c, .slice S.ty.A S.ty.n S.ty.c, .slice S.ch.A S.ch.n S.ch.c, .slice S.lp.A S.lp.n S.lp.c, .slice S.sd.A S.sd.n S.sd.c, .slice S.ut.A S.ut.n S.ut.c], .agg #[.slice A1 n1 c1, .int .i64 P, .int .i64 E, .int .i64 T]])).setIfInBounds 31 (.agg #[.slice S.ti.A S.ti.n S.ti.c, .slice S.ix.A S.ix.n S.ix.c, .slice S.ty.A S.ty.n S.ty.c, .slice S.ch.A S.ch.n S.ch.c, .slice S.lp.A S.lp.n S.lp.c, .slice S.sd.A S.sd.n S.sd.c, .slice S.ut.A S.ut.n S.ut.c])).setIfInBounds 32 (.agg #[.slice A1 n1 c1, .int .i64 P, .int .i64 E, .int .i64 T])), defers := DF } wv from by
        intro wv S hHeld oS
        refine hI.out _ _ _ _ ?_
        obtain ⟨rfl, rfl⟩ := Act.mk.inj hTD.out
        try simp only [Act.put, List.setIfInBounds_toArray, List.set_cons_zero, List.set_cons_succ]
        refine wpAnyH_ready (rs := [8, 9]) (by kernel_rfl) (by simp) ?_
        refine AllReadyH.cons rfl (fun K hK => ?_) (AllReadyH.cons rfl (fun K hK => ?_) (AllReadyH.nil))
        · go_simp
          have lB := hHeld.2.out.size
          have zB := hide (Ro.new wv #[.slice none 0 0, .slice none 0 0, .slice none 0 0, .slice none 0 0, .slice none 0 0, .slice none 0 0, .slice none 0 0] 28)
          have nB := hide (oS.out.ne (g := wv.heap.size) (.inr (Nat.le_refl _)))
          replace oS := hide (oS.out.below (bl_new _ (.cells #[.slice none 0 0, .slice none 0 0, .slice none 0 0, .slice none 0 0, .slice none 0 0, .slice none 0 0, .slice none 0 0] 28)))
          refine hK.out _ _ (⟨hide (hHeld.1.out.alloc _), hide (bl_alloc hHeld.2.out _)⟩) (fun hHeld => ?_)
          clear hK K
          try simp only [Act.put, List.setIfInBounds_toArray, List.set_cons_zero, List.set_cons_succ]
          refine hE.out _ _ _ _ ?_
          have hh := st210.out _ S wv.heap.size hHeld lB zB oS nB
          try simp only [Act.put, List.setIfInBounds_toArray, List.set_cons_zero, List.set_cons_succ] at hh
          exact hh
        · go_simp
          have lC := hHeld.2.out.size
          have zC := hide (Ro.new wv #[.slice none 0 0, .int .i64 0, .int .i64 0, .int .i64 0] 39)
          have nC := hide (oS.out.ne (g := wv.heap.size) (.inr (Nat.le_refl _)))
          replace oS := hide (oS.out.below (bl_new _ (.cells #[.slice none 0 0, .int .i64 0, .int .i64 0, .int .i64 0] 39)))
          refine hK.out _ _ (⟨hide (hHeld.1.out.alloc _), hide (bl_alloc hHeld.2.out _)⟩) (fun hHeld => ?_)
          clear hK K
          try simp only [Act.put, List.setIfInBounds_toArray, List.set_cons_zero, List.set_cons_succ]
          refine hE.out _ _ _ _ ?_
          have hh := st201.out _ S wv.heap.size hHeld lC zC oS nC
          try simp only [Act.put, List.setIfInBounds_toArray, List.set_cons_zero, List.set_cons_succ] at hh
          exact hh)
      have st111 := hide (show ∀ (wv : World) (gB : Nat) (gC : Nat), (Hid (Ro wv (w.heap.size) (#[.int .i64 v, .int .u32 (a : Int), .int .u32 (b : Int), .int .u32 (c : Int), .int .u32 (d : Int), .int .u32 (x : Int), .int .u32 (y : Int)]) 35) ∧ Hid (Below w3.heap.size w3 wv)) → w3.heap.size ≤ gB → Hid (Ro wv gB #[.slice none 0 0, .slice none 0 0, .slice none 0 0, .slice none 0 0, .slice none 0 0, .slice none 0 0, .slice none 0 0] 28) → w3.heap.size ≤ gC → Hid (Ro wv gC #[.slice none 0 0, .int .i64 0, .int .i64 0, .int .i64 0] 39) → gB ≠ gC → FF 6 #[true, true, true, true, false, false, false, false, true, true, false, false] { tmps := ((((((TM.setIfInBounds 26 (.slice A1 n1 c1)).setIfInBounds 27 (.agg #[.slice A1 n1 c1, .int .i64 0, .int .i64 0, .int .i64 0])).setIfInBounds 28 (.agg #[.int .i64 v, .int .u32 (a : Int), .int .u32 (b : Int), .int .u32 (c : Int), .int .u32 (d : Int), .int .u32 (x : Int), .int .u32 (y : Int)])).setIfInBounds 29 (.int .i64 (k : Int))).setIfInBounds 10 (.pointer (some ⟨gB, 0, none⟩))).setIfInBounds 11 (.pointer (some ⟨gC, 0, none⟩))), defers := DF } wv from by
        intro wv gB gC hHeld lB zB lC zC ne
        refine hI.out _ _ _ _ ?_
        obtain ⟨rfl, rfl⟩ := Act.mk.inj hTD.out
        try simp only [Act.put, List.setIfInBounds_toArray, List.set_cons_zero, List.set_cons_succ]
        refine wpAnyH_ready (rs := [4]) (by kernel_rfl) (by simp) ?_
        refine AllReadyH.cons rfl (fun K hK => ?_) (AllReadyH.nil)
        · go_simp
          refine (D.out _ (HT.out.below hHeld.2.out) (r1.out.below hHeld.2.out)).mono ?_
          rintro e vv ⟨S, rfl, oS_, h1'⟩
          have nB := hide (oS_.ne (.inl zB.out.lt))
          have nC := hide (oS_.ne (.inl zC.out.lt))
          have oS := hide (oS_.mono hHeld.2.out.size)
          replace zB := hide (zB.out.below h1')
          replace zC := hide (zC.out.below h1')
          refine hK.out _ _ (⟨hide (hHeld.1.out.below h1'), hide (bel_next hHeld.2.out h1')⟩) (fun hHeld => ?_)
          clear hK K h1'
          try simp only [Act.put, List.setIfInBounds_toArray, List.set_cons_zero, List.set_cons_succ]
          refine wpAnyH_takeD (i := 5) (d := (some 25)) (v := ?_) rfl rfl (by kernel_rfl) (by kernel_rfl) (by kernel_rfl) (fun _ _ _ h => h) (Or.inl ⟨by rfl, ?_⟩) (by assumption) ?_
          rotate_left
          · ((intro w hSw; go_simp) <;> with_reducible rfl)
          try simp only [Act.put, List.setIfInBounds_toArray, List.set_cons_zero, List.set_cons_succ]
          refine wpAnyH_takeD (i := 6) (d := (some 31)) (v := ?_) rfl rfl (by kernel_rfl) (by kernel_rfl) (by kernel_rfl) (fun _ _ _ h => h) (Or.inl ⟨by rfl, ?_⟩) (by assumption) ?_
          rotate_left
          · ((intro w hSw; go_simp) <;> with_reducible rfl)
          try simp only [Act.put, List.setIfInBounds_toArray, List.set_cons_zero, List.set_cons_succ]
          refine wpAnyH_takeD (i := 7) (d := (some 32)) (v := ?_) rfl rfl (by kernel_rfl) (by kernel_rfl) (by kernel_rfl) (fun _ _ _ h => h) (Or.inl ⟨by rfl, ?_⟩) (by assumption) ?_
          rotate_left
          · ((intro w hSw; go_simp) <;> with_reducible rfl)
          try simp only [Act.put, List.setIfInBounds_toArray, List.set_cons_zero, List.set_cons_succ]
          refine hE.out _ _ _ _ ?_
          have hh := st211.out _ S gB gC hHeld lB zB lC zC ne oS nB nC
          try simp only [Act.put, List.setIfInBounds_toArray, List.set_cons_zero, List.set_cons_succ] at hh
          exact hh)
      have st110 := hide (show ∀ (wv : World) (gB : Nat), (Hid (Ro wv (w.heap.size) (#[.int .i64 v, .int .u32 (a : Int), .int .u32 (b : Int), .int .u32 (c : Int), .int .u32 (d : Int), .int .u32 (x : Int), .int .u32 (y : Int)]) 35) ∧ Hid (Below w3.heap.size w3 wv)) → w3.heap.size ≤ gB → Hid (Ro wv gB #[.slice none 0 0, .slice none 0 0, .slice none 0 0, .slice none 0 0, .slice none 0 0, .slice none 0 0, .slice none 0 0] 28) → FF 7 #[true, true, true, true, false, false, false, false, true, false, false, false] { tmps := (((((TM.setIfInBounds 26 (.slice A1 n1 c1)).setIfInBounds 27 (.agg #[.slice A1 n1 c1, .int .i64 0, .int .i64 0, .int .i64 0])).setIfInBounds 28 (.agg #[.int .i64 v, .int .u32 (a : Int), .int .u32 (b : Int), .int .u32 (c : Int), .int .u32 (d : Int), .int .u32 (x : Int), .int .u32 (y : Int)])).setIfInBounds 29 (.int .i64 (k : Int))).setIfInBounds 10 (.pointer (some ⟨gB, 0, none⟩))), defers := DF } wv from by
        intro wv gB hHeld lB zB
        refine hI.out _ _ _ _ ?_
        obtain ⟨rfl, rfl⟩ := Act.mk.inj hTD.out
        try simp only [Act.put, List.setIfInBounds_toArray, List.set_cons_zero, List.set_cons_succ]
        refine wpAnyH_ready (rs := [4, 9]) (by kernel_rfl) (by simp) ?_
        refine AllReadyH.cons rfl (fun K hK => ?_) (AllReadyH.cons rfl (fun K hK => ?_) (AllReadyH.nil))
        · go_simp
          refine (D.out _ (HT.out.below hHeld.2.out) (r1.out.below hHeld.2.out)).mono ?_
          rintro e vv ⟨S, rfl, oS_, h1'⟩
          have nB := hide (oS_.ne (.inl zB.out.lt))
          have oS := hide (oS_.mono hHeld.2.out.size)
          replace zB := hide (zB.out.below h1')
          refine hK.out _ _ (⟨hide (hHeld.1.out.below h1'), hide (bel_next hHeld.2.out h1')⟩) (fun hHeld => ?_)
          clear hK K h1'
          try simp only [Act.put, List.setIfInBounds_toArray, List.set_cons_zero, List.set_cons_succ]
          refine wpAnyH_takeD (i := 5) (d := (some 25)) (v := ?_) rfl rfl (by kernel_rfl) (by kernel_rfl) (by kernel_rfl) (fun _ _ _ h => h) (Or.inl ⟨by rfl, ?_⟩) (by assumption) ?_
          rotate_left
          · ((intro w hSw; go_simp) <;> with_reducible rfl)
          try simp only [Act.put, List.setIfInBounds_toArray, List.set_cons_zero, List.set_cons_succ]
          refine wpAnyH_takeD (i := 6) (d := (some 31)) (v := ?_) rfl rfl (by kernel_rfl) (by kernel_rfl) (by kernel_rfl) (fun _ _ _ h => h) (Or.inl ⟨by rfl, ?_⟩) (by assumption) ?_
          rotate_left
          · ((intro w hSw; go_simp) <;> with_reducible rfl)
          try simp only [Act.put, List.setIfInBounds_toArray, List.set_cons_zero, List.set_cons_succ]
          refine wpAnyH_takeD (i := 7) (d := (some 32)) (v := ?_) rfl rfl (by kernel_rfl) (by kernel_rfl) (by kernel_rfl) (fun _ _ _ h => h) (Or.inl ⟨by rfl, ?_⟩) (by assumption) ?_
          rotate_left
          · ((intro w hSw; go_simp) <;> with_reducible rfl)
          try simp only [Act.put, List.setIfInBounds_toArray, List.set_cons_zero, List.set_cons_succ]
          refine hE.out _ _ _ _ ?_
          have hh := st210.out _ S gB hHeld lB zB oS nB
          try simp only [Act.put, List.setIfInBounds_toArray, List.set_cons_zero, List.set_cons_succ] at hh
          exact hh
        · go_simp
          have lC := hHeld.2.out.size
          have zC := hide (Ro.new wv #[.slice none 0 0, .int .i64 0, .int .i64 0, .int .i64 0] 39)
          have ne := (show gB ≠ wv.heap.size from fun h => by have := zB.out.lt; omega)
          replace zB := hide (zB.out.alloc (.cells #[.slice none 0 0, .int .i64 0, .int .i64 0, .int .i64 0] 39))
          refine hK.out _ _ (⟨hide (hHeld.1.out.alloc _), hide (bl_alloc hHeld.2.out _)⟩) (fun hHeld => ?_)
          clear hK K
          try simp only [Act.put, List.setIfInBounds_toArray, List.set_cons_zero, List.set_cons_succ]
          refine hE.out _ _ _ _ ?_
          have hh := st111.out _ gB wv.heap.size hHeld lB zB lC zC ne
          try simp only [Act.put, List.setIfInBounds_toArray, List.set_cons_zero, List.set_cons_succ] at hh
          exact hh)
      have st101 := hide (show ∀ (wv : World) (gC : Nat), (Hid (Ro wv (w.heap.size) (#[.int .i64 v, .int .u32 (a : Int), .int .u32 (b : Int), .int .u32 (c : Int), .int .u32 (d : Int), .int .u32 (x : Int), .int .u32 (y : Int)]) 35) ∧ Hid (Below w3.heap.size w3 wv)) → w3.heap.size ≤ gC → Hid (Ro wv gC #[.slice none 0 0, .int .i64 0, .int .i64 0, .int .i64 0] 39) → FF 7 #[true, true, true, true, false, false, false, false, false, true, false, false] { tmps := (((((TM.setIfInBounds 26 (.slice A1 n1 c1)).setIfInBounds 27 (.agg #[.slice A1 n1 c1, .int .i64 0, .int .i64 0, .int .i64 0])).setIfInBounds 28 (.agg #[.int .i64 v, .int .u32 (a : Int), .int .u32 (b : Int), .int .u32 (c : Int), .int .u32 (d : Int), .int .u32 (x : Int), .int .u32 (y : Int)])).setIfInBounds 29 (.int .i64 (k : Int))).setIfInBounds 11 (.pointer (some ⟨gC, 0, none⟩))), defers := DF } wv from by
        intro wv gC hHeld lC zC
        refine hI.out _ _ _ _ ?_
        obtain ⟨rfl, rfl⟩ := Act.mk.inj hTD.out
        try simp only [Act.put, List.setIfInBounds_toArray, List.set_cons_zero, List.set_cons_succ]
        refine wpAnyH_ready (rs := [4, 8]) (by kernel_rfl) (by simp) ?_
        refine AllReadyH.cons rfl (fun K hK => ?_) (AllReadyH.cons rfl (fun K hK => ?_) (AllReadyH.nil))
        · go_simp
          refine (D.out _ (HT.out.below hHeld.2.out) (r1.out.below hHeld.2.out)).mono ?_
          rintro e vv ⟨S, rfl, oS_, h1'⟩
          have nC := hide (oS_.ne (.inl zC.out.lt))
          have oS := hide (oS_.mono hHeld.2.out.size)
          replace zC := hide (zC.out.below h1')
          refine hK.out _ _ (⟨hide (hHeld.1.out.below h1'), hide (bel_next hHeld.2.out h1')⟩) (fun hHeld => ?_)
          clear hK K h1'
          try simp only [Act.put, List.setIfInBounds_toArray, List.set_cons_zero, List.set_cons_succ]
          refine wpAnyH_takeD (i := 5) (d := (some 25)) (v := ?_) rfl rfl (by kernel_rfl) (by kernel_rfl) (by kernel_rfl) (fun _ _ _ h => h) (Or.inl ⟨by rfl, ?_⟩) (by assumption) ?_
          rotate_left
          · ((intro w hSw; go_simp) <;> with_reducible rfl)
          try simp only [Act.put, List.setIfInBounds_toArray, List.set_cons_zero, List.set_cons_succ]
          refine wpAnyH_takeD (i := 6) (d := (some 31)) (v := ?_) rfl rfl (by kernel_rfl) (by kernel_rfl) (by kernel_rfl) (fun _ _ _ h => h) (Or.inl ⟨by rfl, ?_⟩) (by assumption) ?_
          rotate_left
          · ((intro w hSw; go_simp) <;> with_reducible rfl)
          try simp only [Act.put, List.setIfInBounds_toArray, List.set_cons_zero, List.set_cons_succ]
          refine wpAnyH_takeD (i := 7) (d := (some 32)) (v := ?_) rfl rfl (by kernel_rfl) (by kernel_rfl) (by kernel_rfl) (fun _ _ _ h => h) (Or.inl ⟨by rfl, ?_⟩) (by assumption) ?_
          rotate_left
          · ((intro w hSw; go_simp) <;> with_reducible rfl)
          try simp only [Act.put, List.setIfInBounds_toArray, List.set_cons_zero, List.set_cons_succ]
          refine hE.out _ _ _ _ ?_
          have hh := st201.out _ S gC hHeld lC zC oS nC
          try simp only [Act.put, List.setIfInBounds_toArray, List.set_cons_zero, List.set_cons_succ] at hh
          exact hh
        · go_simp
          have lB := hHeld.2.out.size
          have zB := hide (Ro.new wv #[.slice none 0 0, .slice none 0 0, .slice none 0 0, .slice none 0 0, .slice none 0 0, .slice none 0 0, .slice none 0 0] 28)
          have ne := (show wv.heap.size ≠ gC from fun h => by have := zC.out.lt; omega)
          replace zC := hide (zC.out.alloc (.cells #[.slice none 0 0, .slice none 0 0, .slice none 0 0, .slice none 0 0, .slice none 0 0, .slice none 0 0, .slice none 0 0] 28))
          refine hK.out _ _ (⟨hide (hHeld.1.out.alloc _), hide (bl_alloc hHeld.2.out _)⟩) (fun hHeld => ?_)
          clear hK K
          try simp only [Act.put, List.setIfInBounds_toArray, List.set_cons_zero, List.set_cons_succ]
          refine hE.out _ _ _ _ ?_
          have hh := st111.out _ wv.heap.size gC hHeld lB zB lC zC ne
          try simp only [Act.put, List.setIfInBounds_toArray, List.set_cons_zero, List.set_cons_succ] at hh
          exact hh)
      have st100 := hide (show ∀ (wv : World), (Hid (Ro wv (w.heap.size) (#[.int .i64 v, .int .u32 (a : Int), .int .u32 (b : Int), .int .u32 (c : Int), .int .u32 (d : Int), .int .u32 (x : Int), .int .u32 (y : Int)]) 35) ∧ Hid (Below w3.heap.size w3 wv)) → FF 8 #[true, true, true, true, false, false, false, false, false, false, false, false] { tmps := ((((TM.setIfInBounds 26 (.slice A1 n1 c1)).setIfInBounds 27 (.agg #[.slice A1 n1 c1, .int .i64 0, .int .i64 0, .int .i64 0])).setIfInBounds 28 (.agg #[.int .i64 v, .int .u32 (a : Int), .int .u32 (b : Int), .int .u32 (c : Int), .int .u32 (d : Int), .int .u32 (x : Int), .int .u32 (y : Int)])).setIfInBounds 29 (.int .i64 (k : Int))), defers := DF } wv from by
        intro wv  hHeld 
        refine hI.out _ _ _ _ ?_
        obtain ⟨rfl, rfl⟩ := Act.mk.inj hTD.out
        try simp only [Act.put, List.setIfInBounds_toArray, List.set_cons_zero, List.set_cons_succ]
        refine wpAnyH_ready (rs := [4, 8, 9]) (by kernel_rfl) (by simp) ?_
        refine AllReadyH.cons rfl (fun K hK => ?_) (AllReadyH.cons rfl (fun K hK => ?_) (AllReadyH.cons rfl (fun K hK => ?_) (AllReadyH.nil)))
        · go_simp
          refine (D.out _ (HT.out.below hHeld.2.out) (r1.out.below hHeld.2.out)).mono ?_
          rintro e vv ⟨S, rfl, oS_, h1'⟩
          have oS := hide (oS_.mono hHeld.2.out.size)
          refine hK.out _ _ (⟨hide (hHeld.1.out.below h1'), hide (bel_next hHeld.2.out h1')⟩) (fun hHeld => ?_)
          clear hK K h1'
          try simp only [Act.put, List.setIfInBounds_toArray, List.set_cons_zero, List.set_cons_succ]
          refine wpAnyH_takeD (i := 5) (d := (some 25)) (v := ?_) rfl rfl (by kernel_rfl) (by kernel_rfl) (by kernel_rfl) (fun _ _ _ h => h) (Or.inl ⟨by rfl, ?_⟩) (by assumption) ?_
          rotate_left
          · ((intro w hSw; go_simp) <;> with_reducible rfl)
          try simp only [Act.put, List.setIfInBounds_toArray, List.set_cons_zero, List.set_cons_succ]
          refine wpAnyH_takeD (i := 6) (d := (some 31)) (v := ?_) rfl rfl (by kernel_rfl) (by kernel_rfl) (by kernel_rfl) (fun _ _ _ h => h) (Or.inl ⟨by rfl, ?_⟩) (by assumption) ?_
          rotate_left
          · ((intro w hSw; go_simp) <;> with_reducible rfl)
          try simp only [Act.put, List.setIfInBounds_toArray, List.set_cons_zero, List.set_cons_succ]
          refine wpAnyH_takeD (i := 7) (d := (some 32)) (v := ?_) rfl rfl (by kernel_rfl) (by kernel_rfl) (by kernel_rfl) (fun _ _ _ h => h) (Or.inl ⟨by rfl, ?_⟩) (by assumption) ?_
          rotate_left
          · ((intro w hSw; go_simp) <;> with_reducible rfl)
          try simp only [Act.put, List.setIfInBounds_toArray, List.set_cons_zero, List.set_cons_succ]
          refine hE.out _ _ _ _ ?_
          have hh := st200.out _ S hHeld oS
          try simp only [Act.put, List.setIfInBounds_toArray, List.set_cons_zero, List.set_cons_succ] at hh
          exact hh
        · go_simp
          have lB := hHeld.2.out.size
          have zB := hide (Ro.new wv #[.slice none 0 0, .slice none 0 0, .slice none 0 0, .slice none 0 0, .slice none 0 0, .slice none 0 0, .slice none 0 0] 28)
          refine hK.out _ _ (⟨hide (hHeld.1.out.alloc _), hide (bl_alloc hHeld.2.out _)⟩) (fun hHeld => ?_)
          clear hK K
          try simp only [Act.put, List.setIfInBounds_toArray, List.set_cons_zero, List.set_cons_succ]
          refine hE.out _ _ _ _ ?_
          have hh := st110.out _ wv.heap.size hHeld lB zB
          try simp only [Act.put, List.setIfInBounds_toArray, List.set_cons_zero, List.set_cons_succ] at hh
          exact hh
        · go_simp
          have lC := hHeld.2.out.size
          have zC := hide (Ro.new wv #[.slice none 0 0, .int .i64 0, .int .i64 0, .int .i64 0] 39)
          refine hK.out _ _ (⟨hide (hHeld.1.out.alloc _), hide (bl_alloc hHeld.2.out _)⟩) (fun hHeld => ?_)
          clear hK K
          try simp only [Act.put, List.setIfInBounds_toArray, List.set_cons_zero, List.set_cons_succ]
          refine hE.out _ _ _ _ ?_
          have hh := st101.out _ wv.heap.size hHeld lC zC
          try simp only [Act.put, List.setIfInBounds_toArray, List.set_cons_zero, List.set_cons_succ] at hh
          exact hh)
      have st011 := hide (show ∀ (wv : World) (gB : Nat) (gC : Nat), (Hid (Ro wv (w.heap.size) (#[.int .i64 v, .int .u32 (a : Int), .int .u32 (b : Int), .int .u32 (c : Int), .int .u32 (d : Int), .int .u32 (x : Int), .int .u32 (y : Int)]) 35) ∧ Hid (Below w3.heap.size w3 wv)) → w3.heap.size ≤ gB → Hid (Ro wv gB #[.slice none 0 0, .slice none 0 0, .slice none 0 0, .slice none 0 0, .slice none 0 0, .slice none 0 0, .slice none 0 0] 28) → w3.heap.size ≤ gC → Hid (Ro wv gC #[.slice none 0 0, .int .i64 0, .int .i64 0, .int .i64 0] 39) → gB ≠ gC → FF 7 #[true, false, true, true, false, false, false, false, true, true, false, false] { tmps := (((((TM.setIfInBounds 26 (.slice A1 n1 c1)).setIfInBounds 28 (.agg #[.int .i64 v, .int .u32 (a : Int), .int .u32 (b : Int), .int .u32 (c : Int), .int .u32 (d : Int), .int .u32 (x : Int), .int .u32 (y : Int)])).setIfInBounds 29 (.int .i64 (k : Int))).setIfInBounds 10 (.pointer (some ⟨gB, 0, none⟩))).setIfInBounds 11 (.pointer (some ⟨gC, 0, none⟩))), defers := DF } wv from by
        intro wv gB gC hHeld lB zB lC zC ne
        refine hI.out _ _ _ _ ?_
        obtain ⟨rfl, rfl⟩ := Act.mk.inj hTD.out
        try simp only [Act.put, List.setIfInBounds_toArray, List.set_cons_zero, List.set_cons_succ]
        refine wpAnyH_ready (rs := [1]) (by kernel_rfl) (by simp) ?_
        refine AllReadyH.cons rfl (fun K hK => ?_) (AllReadyH.nil)
        · go_simp
          refine (cu_.New _ _ _ _).mono ?_
          rintro e vv ⟨rfl, h1'⟩
          replace zB := hide (zB.out.below h1')
          replace zC := hide (zC.out.below h1')
          refine hK.out _ _ (⟨hide (hHeld.1.out.below h1'), hide (bel_next hHeld.2.out h1')⟩) (fun hHeld => ?_)
          clear hK K h1'
          try simp only [Act.put, List.setIfInBounds_toArray, List.set_cons_zero, List.set_cons_succ]
          refine hE.out _ _ _ _ ?_
          have hh := st111.out _ gB gC hHeld lB zB lC zC ne
          try simp only [Act.put, List.setIfInBounds_toArray, List.set_cons_zero, List.set_cons_succ] at hh
          exact hh)
      have st010 := hide (show ∀ (wv : World) (gB : Nat), (Hid (Ro wv (w.heap.size) (#[.int .i64 v, .int .u32 (a : Int), .int .u32 (b : Int), .int .u32 (c : Int), .int .u32 (d : Int), .int .u32 (x : Int), .int .u32 (y : Int)]) 35) ∧ Hid (Below w3.heap.size w3 wv)) → w3.heap.size ≤ gB → Hid (Ro wv gB #[.slice none 0 0, .slice none 0 0, .slice none 0 0, .slice none 0 0, .slice none 0 0, .slice none 0 0, .slice none 0 0] 28) → FF 8 #[true, false, true, true, false, false, false, false, true, false, false, false] { tmps := ((((TM.setIfInBounds 26 (.slice A1 n1 c1)).setIfInBounds 28 (.agg #[.int .i64 v, .int .u32 (a : Int), .int .u32 (b : Int), .int .u32 (c : Int), .int .u32 (d : Int), .int .u32 (x : Int), .int .u32 (y : Int)])).setIfInBounds 29 (.int .i64 (k : Int))).setIfInBounds 10 (.pointer (some ⟨gB, 0, none⟩))), defers := DF } wv from by
        intro wv gB hHeld lB zB
        refine hI.out _ _ _ _ ?_
        obtain ⟨rfl, rfl⟩ := Act.mk.inj hTD.out
        try simp only [Act.put, List.setIfInBounds_toArray, List.set_cons_zero, List.set_cons_succ]
        refine wpAnyH_ready (rs := [1, 9]) (by kernel_rfl) (by simp) ?_
        refine AllReadyH.cons rfl (fun K hK => ?_) (AllReadyH.cons rfl (fun K hK => ?_) (AllReadyH.nil))
        · go_simp
          refine (cu_.New _ _ _ _).mono ?_
          rintro e vv ⟨rfl, h1'⟩
          replace zB := hide (zB.out.below h1')
          refine hK.out _ _ (⟨hide (hHeld.1.out.below h1'), hide (bel_next hHeld.2.out h1')⟩) (fun hHeld => ?_)
          clear hK K h1'
          try simp only [Act.put, List.setIfInBounds_toArray, List.set_cons_zero, List.set_cons_succ]
          refine hE.out _ _ _ _ ?_
          have hh := st110.out _ gB hHeld lB zB
          try simp only [Act.put, List.setIfInBounds_toArray, List.set_cons_zero, List.set_cons_succ] at hh
          exact hh
        · go_simp
          have lC := hHeld.2.out.size
          have zC := hide (Ro.new wv #[.slice none 0 0, .int .i64 0, .int .i64 0, .int .i64 0] 39)
          have ne := (show gB ≠ wv.heap.size from fun h => by have := zB.out.lt; omega)
          replace zB := hide (zB.out.alloc (.cells #[.slice none 0 0, .int .i64 0, .int .i64 0, .int .i64 0] 39))
          refine hK.out _ _ (⟨hide (hHeld.1.out.alloc _), hide (bl_alloc hHeld.2.out _)⟩) (fun hHeld => ?_)
          clear hK K
          try simp only [Act.put, List.setIfInBounds_toArray, List.set_cons_zero, List.set_cons_succ]
          refine hE.out _ _ _ _ ?_
          have hh := st011.out _ gB wv.heap.size hHeld lB zB lC zC ne
          try simp only [Act.put, List.setIfInBounds_toArray, List.set_cons_zero, List.set_cons_succ] at hh
          exact hh)
      have st001 := hide (show ∀ (wv : World) (gC : Nat), (Hid (Ro wv (w.heap.size) (#[.int .i64 v, .int .u32 (a : Int), .int .u32 (b : Int), .int .u32 (c : Int), .int .u32 (d : Int), .int .u32 (x : Int), .int .u32 (y : Int)]) 35) ∧ Hid (Below w3.heap.size w3 wv)) → w3.heap.size ≤ gC → Hid (Ro wv gC #[.slice none 0 0, .int .i64 0, .int .i64 0, .int .i64 0] 39) → FF 8 #[true, false, true, true, false, false, false, false, false, true, false, false] { tmps := ((((TM.setIfInBounds 26 (.slice A1 n1 c1)).setIfInBounds 28 (.agg #[.int .i64 v, .int .u32 (a : Int), .int .u32 (b : Int), .int .u32 (c : Int), .int .u32 (d : Int), .int .u32 (x : Int), .int .u32 (y : Int)])).setIfInBounds 29 (.int .i64 (k : Int))).setIfInBounds 11 (.pointer (some ⟨gC, 0, none⟩))), defers := DF } wv from by
        intro wv gC hHeld lC zC
        refine hI.out _ _ _ _ ?_
        obtain ⟨rfl, rfl⟩ := Act.mk.inj hTD.out
        try simp only [Act.put, List.setIfInBounds_toArray, List.set_cons_zero, List.set_cons_succ]
        refine wpAnyH_ready (rs := [1, 8]) (by kernel_rfl) (by simp) ?_
        refine AllReadyH.cons rfl (fun K hK => ?_) (AllReadyH.cons rfl (fun K hK => ?_) (AllReadyH.nil))
        · go_simp
          refine (cu_.New _ _ _ _).mono ?_
          rintro e vv ⟨rfl, h1'⟩
          replace zC := hide (zC.out.below h1')
          refine hK.out _ _ (⟨hide (hHeld.1.out.below h1'), hide (bel_next hHeld.2.out h1')⟩) (fun hHeld => ?_)
          clear hK K h1'
          try simp only [Act.put, List.setIfInBounds_toArray, List.set_cons_zero, List.set_cons_succ]
          refine hE.out _ _ _ _ ?_
          have hh := st101.out _ gC hHeld lC zC
          try simp only [Act.put, List.setIfInBounds_toArray, List.set_cons_zero, List.set_cons_succ] at hh
          exact hh
        · go_simp
          have lB := hHeld.2.out.size
          have zB := hide (Ro.new wv #[.slice none 0 0, .slice none 0 0, .slice none 0 0, .slice none 0 0, .slice none 0 0, .slice none 0 0, .slice none 0 0] 28)
          have ne := (show wv.heap.size ≠ gC from fun h => by have := zC.out.lt; omega)
          replace zC := hide (zC.out.alloc (.cells #[.slice none 0 0, .slice none 0 0, .slice none 0 0, .slice none 0 0, .slice none 0 0, .slice none 0 0, .slice none 0 0] 28))
          refine hK.out _ _ (⟨hide (hHeld.1.out.alloc _), hide (bl_alloc hHeld.2.out _)⟩) (fun hHeld => ?_)
          clear hK K
          try simp only [Act.put, List.setIfInBounds_toArray, List.set_cons_zero, List.set_cons_succ]
          refine hE.out _ _ _ _ ?_
          have hh := st011.out _ wv.heap.size gC hHeld lB zB lC zC ne
          try simp only [Act.put, List.setIfInBounds_toArray, List.set_cons_zero, List.set_cons_succ] at hh
          exact hh)
      have st000 := hide (show ∀ (wv : World), (Hid (Ro wv (w.heap.size) (#[.int .i64 v, .int .u32 (a : Int), .int .u32 (b : Int), .int .u32 (c : Int), .int .u32 (d : Int), .int .u32 (x : Int), .int .u32 (y : Int)]) 35) ∧ Hid (Below w3.heap.size w3 wv)) → FF 9 #[true, false, true, true, false, false, false, false, false, false, false, false] { tmps := (((TM.setIfInBounds 26 (.slice A1 n1 c1)).setIfInBounds 28 (.agg #[.int .i64 v, .int .u32 (a : Int), .int .u32 (b : Int), .int .u32 (c : Int), .int .u32 (d : Int), .int .u32 (x : Int), .int .u32 (y : Int)])).setIfInBounds 29 (.int .i64 (k : Int))), defers := DF } wv from by
        intro wv  hHeld 
        refine hI.out _ _ _ _ ?_
        obtain ⟨rfl, rfl⟩ := Act.mk.inj hTD.out
        try simp only [Act.put, List.setIfInBounds_toArray, List.set_cons_zero, List.set_cons_succ]
        refine wpAnyH_ready (rs := [1, 8, 9]) (by kernel_rfl) (by simp) ?_
        refine AllReadyH.cons rfl (fun K hK => ?_) (AllReadyH.cons rfl (fun K hK => ?_) (AllReadyH.cons rfl (fun K hK => ?_) (AllReadyH.nil)))
        · go_simp
          refine (cu_.New _ _ _ _).mono ?_
          rintro e vv ⟨rfl, h1'⟩
          refine hK.out _ _ (⟨hide (hHeld.1.out.below h1'), hide (bel_next hHeld.2.out h1')⟩) (fun hHeld => ?_)
          clear hK K h1'
          try simp only [Act.put, List.setIfInBounds_toArray, List.set_cons_zero, List.set_cons_succ]
          refine hE.out _ _ _ _ ?_
          have hh := st100.out _  hHeld
          try simp only [Act.put, List.setIfInBounds_toArray, List.set_cons_zero, List.set_cons_succ] at hh
          exact hh
        · go_simp
          have lB := hHeld.2.out.size
          have zB := hide (Ro.new wv #[.slice none 0 0, .slice none 0 0, .slice none 0 0, .slice none 0 0, .slice none 0 0, .slice none 0 0, .slice none 0 0] 28)
          refine hK.out _ _ (⟨hide (hHeld.1.out.alloc _), hide (bl_alloc hHeld.2.out _)⟩) (fun hHeld => ?_)
          clear hK K
          try simp only [Act.put, List.setIfInBounds_toArray, List.set_cons_zero, List.set_cons_succ]
          refine hE.out _ _ _ _ ?_
          have hh := st010.out _ wv.heap.size hHeld lB zB
          try simp only [Act.put, List.setIfInBounds_toArray, List.set_cons_zero, List.set_cons_succ] at hh
          exact hh
        · go_simp
          have lC := hHeld.2.out.size
          have zC := hide (Ro.new wv #[.slice none 0 0, .int .i64 0, .int .i64 0, .int .i64 0] 39)
          refine hK.out _ _ (⟨hide (hHeld.1.out.alloc _), hide (bl_alloc hHeld.2.out _)⟩) (fun hHeld => ?_)
          clear hK K
          try simp only [Act.put, List.setIfInBounds_toArray, List.set_cons_zero, List.set_cons_succ]
          refine hE.out _ _ _ _ ?_
          have hh := st001.out _ wv.heap.size hHeld lC zC
          try simp only [Act.put, List.setIfInBounds_toArray, List.set_cons_zero, List.set_cons_succ] at hh
          exact hh)
      have hh := st000.out _ hHeld
      obtain ⟨rfl, rfl⟩ := Act.mk.inj hTD.out
      try simp only [Act.put, List.setIfInBounds_toArray, List.set_cons_zero, List.set_cons_succ] at hh
      exact hh
    case rest =>
      obtain ⟨gB, gC, S, rfl, rfl, lB, lC, ne, k10, k11, oS, -, -, h1⟩ := hcut
      rename World => wx
      replace h1 := h1.out
      replace k5 := hide (k5.out.below h1)
      replace r1 := hide (r1.out.below h1)
      replace HT := hide (HT.out.below h1)
      replace hb := hide (bel_next hb.out h1)
      clear h1
      have i10 := hide oS.out.is
      clear oS D
      rcases hout.out with ⟨h, rfl, rfl, rfl, rfl⟩ | ⟨h, rfl, rfl, rfl, rfl⟩ | ⟨h, hf, rfl, rfl, rfl, rfl⟩
      · clear hout h
        obtain ⟨k11c1, _⟩ := ro_cf k11.out 1 _ rfl
        obtain ⟨k11c2, _⟩ := ro_cf k11.out 2 _ rfl
        obtain ⟨k11c3, _⟩ := ro_cf k11.out 3 _ rfl
        obtain ⟨k10c0, _⟩ := ro_cf k10.out 0 _ rfl
        obtain ⟨k10c1, _⟩ := ro_cf k10.out 1 _ rfl
        obtain ⟨k10c2, _⟩ := ro_cf k10.out 2 _ rfl
        obtain ⟨k10c3, _⟩ := ro_cf k10.out 3 _ rfl
        obtain ⟨k10c4, _⟩ := ro_cf k10.out 4 _ rfl
        obtain ⟨k10c5, _⟩ := ro_cf k10.out 5 _ rfl
        obtain ⟨k10c6, _⟩ := ro_cf k10.out 6 _ rfl
        go_wp2_with fail
        refine (r19_.Equal _ BkS.zero _ _ _ i10.out (isBk_zero _)).mono ?_
        rintro e wb ⟨rfl, h1⟩
        clear k11c1 k11c2 k11c3
        clear k10c0 k10c1 k10c2 k10c3 k10c4 k10c5 k10c6
        replace hb := hide (bel_next hb.out h1)
        replace k11 := hide (k11.out.below h1)
        clear h1 k10 i10 k5 r1 HT
        rw [beqB_self]
        obtain ⟨k11c1, _⟩ := ro_cf k11.out 1 _ rfl
        obtain ⟨k11c2, _⟩ := ro_cf k11.out 2 _ rfl
        obtain ⟨k11c3, _⟩ := ro_cf k11.out 3 _ rfl
        go_wp2
        go_ret
        exact ⟨rfl, hb.out⟩
      · clear hout h
        obtain ⟨k11c1, _⟩ := ro_cf k11.out 1 _ rfl
        obtain ⟨k11c2, _⟩ := ro_cf k11.out 2 _ rfl
        obtain ⟨k11c3, _⟩ := ro_cf k11.out 3 _ rfl
        obtain ⟨k10c0, _⟩ := ro_cf k10.out 0 _ rfl
        obtain ⟨k10c1, _⟩ := ro_cf k10.out 1 _ rfl
        obtain ⟨k10c2, _⟩ := ro_cf k10.out 2 _ rfl
        obtain ⟨k10c3, _⟩ := ro_cf k10.out 3 _ rfl
        obtain ⟨k10c4, _⟩ := ro_cf k10.out 4 _ rfl
        obtain ⟨k10c5, _⟩ := ro_cf k10.out 5 _ rfl
        obtain ⟨k10c6, _⟩ := ro_cf k10.out 6 _ rfl
        go_wp2_with fail
        refine (r19_.Equal _ BkS.zero _ _ _ i10.out (isBk_zero _)).mono ?_
        rintro e wb ⟨rfl, h1⟩
        clear k11c1 k11c2 k11c3
        clear k10c0 k10c1 k10c2 k10c3 k10c4 k10c5 k10c6
        replace hb := hide (bel_next hb.out h1)
        replace k11 := hide (k11.out.below h1)
        clear h1 k10 i10 k5 r1 HT
        rw [beqB_self]
        obtain ⟨k11c1, _⟩ := ro_cf k11.out 1 _ rfl
        obtain ⟨k11c2, _⟩ := ro_cf k11.out 2 _ rfl
        obtain ⟨k11c3, _⟩ := ro_cf k11.out 3 _ rfl
        go_wp2
        go_ret
        exact ⟨rfl, hb.out⟩
      · clear hout
        have hx0 := r1.out
        have hok := decBk_ok hk.out a b c d x y B1.out 0 (by rw [hln.out, ← hN.out]; omega)
        have hln7 := decBk_len k a b c d x y (z1.take n1) 0 (by rw [hln.out, ← hN.out]; omega)
        have henc := encB_dec hk.out a b c d x y B1.out 0 (by rw [hln.out, ← hN.out]; omega) hf
        rw [← hN.out] at henc
        have hsum : d ≤ N ∧ x ≤ N ∧ y ≤ N ∧ c ≤ N ∧ b ≤ N ∧ a ≤ N := by rw [hN.out]; unfold tot; rcases hk.out with rfl | rfl <;> omega
        have hff : fld (z1.take n1) 0 N = (z1.take n1).take N := by unfold fld; rw [List.drop_zero]
        rw [hff] at henc
        have hlN : ((z1.take n1).take N).length = N := by rw [List.length_take, hln.out]; omega
        clear hff hf
        generalize decBk k a b c d x y (z1.take n1) 0 = Q at *
        obtain ⟨l1, l2, l3, l4, l5, l6, l7⟩ := hln7
        have hle : Q.le 10000 := by have := HN.out; unfold Bk.le; omega
        have hle2 : Q.le 100000 := by have := HN.out; unfold Bk.le; omega
        have rN := hide (show Rd wx A1 N (((z1.take n1).take N).map (Value.int .u8)) from by rw [List.map_take]; exact r1.out.take (k := N) h)
        have E := hide (fun w hT (hi : IsBk w S Q) => bl_.Encode S Q k N k w hT rfl hk.out hi hle hok.2 (by rw [henc, hlN]))
        rw [henc] at E
        have H := hide (fun w hT (hi : IsBk w S Q) => bl_.Header S Q v w hT hi hle2)
        rw [show hdB v Q = .agg #[.int .i64 v, .int .u32 (a : Int), .int .u32 (b : Int), .int .u32 (c : Int), .int .u32 (d : Int), .int .u32 (x : Int), .int .u32 (y : Int)] from by unfold hdB hdV; rw [l1, l3, l4, l5, l6, l7]] at H
        have HS := hide (fun Ae ce w (h1 : Rd w Ae N (((z1.take n1).take N).map (Value.int .u8))) (h2 : Rd w A1 N (((z1.take n1).take N).map (Value.int .u8))) => r1_.Same Ae A1 N ce N c1 _ w (by have := HN.out; omega) h1 h2)
        have hbx := hide hb.out
        replace hok := hide hok
        replace hsum := hide hsum
        clear hx0 hle hle2 henc hlN l1 l2 l3 l4 l5 l6 l7
        have g1 : decide ((n1 : Int) < (N : Int)) = false := decide_eq_false (by omega)
        have g2 : decide (n1 < N) = false := decide_eq_false (by omega)
        have g3 : (N : Int) ≤ (n1 : Int) := by omega
        have g4 : (N : Int) ≤ (c1 : Int) := by omega
        have g5 : (0 : Int) ≤ (N : Int) := by omega
        obtain ⟨k11c2, _⟩ := ro_cf k11.out 2 _ rfl
        go_upto_region 7 with fail
        clear k11c2
        go_region_held3 (fun w' => w'.cell? ⟨gC, 1, none⟩ = some (.int .i64 (N : Int)) ∧ w'.cell? ⟨gB, 0, none⟩ = some (.slice S.ti.A S.ti.n S.ti.c) ∧ w'.cell? ⟨gB, 1, none⟩ = some (.slice S.ix.A S.ix.n S.ix.c) ∧ w'.cell? ⟨gB, 2, none⟩ = some (.slice S.ty.A S.ty.n S.ty.c) ∧ w'.cell? ⟨gB, 3, none⟩ = some (.slice S.ch.A S.ch.n S.ch.c) ∧ w'.cell? ⟨gB, 4, none⟩ = some (.slice S.lp.A S.lp.n S.lp.c) ∧ w'.cell? ⟨gB, 5, none⟩ = some (.slice S.sd.A S.sd.n S.sd.c) ∧ w'.cell? ⟨gB, 6, none⟩ = some (.slice S.ut.A S.ut.n S.ut.c) ∧ w'.cell? ⟨w.heap.size, 0, none⟩ = some (.int .i64 v) ∧ w'.cell? ⟨w.heap.size, 1, none⟩ = some (.int .u32 (a : Int)) ∧ w'.cell? ⟨w.heap.size, 2, none⟩ = some (.int .u32 (b : Int)) ∧ w'.cell? ⟨w.heap.size, 3, none⟩ = some (.int .u32 (c : Int)) ∧ w'.cell? ⟨w.heap.size, 4, none⟩ = some (.int .u32 (d : Int)) ∧ w'.cell? ⟨w.heap.size, 5, none⟩ = some (.int .u32 (x : Int)) ∧ w'.cell? ⟨w.heap.size, 6, none⟩ = some (.int .u32 (y : Int)) ∧ Hid (Below wx.heap.size wx w'))
          (first
            | exact ⟨(ro_cf k11.out 1 _ rfl).1, (ro_cf k10.out 0 _ rfl).1, (ro_cf k10.out 1 _ rfl).1, (ro_cf k10.out 2 _ rfl).1, (ro_cf k10.out 3 _ rfl).1, (ro_cf k10.out 4 _ rfl).1, (ro_cf k10.out 5 _ rfl).1, (ro_cf k10.out 6 _ rfl).1, (ro_cf k5.out 0 _ rfl).1, (ro_cf k5.out 1 _ rfl).1, (ro_cf k5.out 2 _ rfl).1, (ro_cf k5.out 3 _ rfl).1, (ro_cf k5.out 4 _ rfl).1, (ro_cf k5.out 5 _ rfl).1, (ro_cf k5.out 6 _ rfl).1, by first | exact hide (bl_refl _) | exact hide (bl_drew (bl_refl _))⟩
            | (go_split_ands; refine ⟨?_, ?_, ?_, ?_, ?_, ?_, ?_, ?_, ?_, ?_, ?_, ?_, ?_, ?_, ?_, ?_⟩ <;> first | exact cellE h1 (by assumption) | exact hide (bel_next (Hid.out (by assumption)) h1)))
          (first
            | (go_at_call 10; go_split_ands; refine (E.out _ (HT.out.below (Hid.out (by assumption))) (i10.out.below (Hid.out (by assumption)))).mono ?_; rintro e w6 ⟨Ae, ce, rfl, oe, h1⟩)
            | (go_at_call 17; go_split_ands; refine (HS.out Ae ce _ (by exact oe.rd) (by exact rN.out.below (Hid.out (by assumption)))).mono ?_; rintro e w8 ⟨rfl, h1⟩)
            | (go_at_call 11; go_split_ands; refine (H.out _ (HT.out.below (Hid.out (by assumption))) (i10.out.below (Hid.out (by assumption)))).mono ?_; rintro e w9 ⟨rfl, h1⟩))
        have hz : Hid (Below wx.heap.size wx w9) := by go_split_ands; assumption
        have h1 := hz.out
        clear hz oe E H HS g1 g2
        clear k10 i10
        replace k5 := hide (k5.out.below h1)
        replace k11 := hide (k11.out.below h1)
        replace r1 := hide (r1.out.below h1)
        replace rN := hide (rN.out.below h1)
        replace HT := hide (HT.out.below h1)
        replace hb := hide (bel_next hb.out h1)
        clear h1
        obtain ⟨k11c1, _⟩ := ro_cf k11.out 1 _ rfl
        by_cases hN0 : N = 0
        · subst hN0
          go_wp2
          go_ret
          exact ⟨rfl, hb.out⟩
        · have n0 : ((N : Int) == 0) = false := by simp; omega
          have n1_ : ((N : Int) != 0) = true := by simp; omega
          have n2_ : IntKind.i64.wrap q = q := by rw [IntKind.wrap_i64]; omega
          have n3_ : IntKind.i64.wrap (q % (N : Int)) = q % (N : Int) := by rw [IntKind.wrap_i64]; have := Int.emod_nonneg q (show (N : Int) ≠ 0 by omega); have := Int.emod_lt_of_pos q (show 0 < (N : Int) by omega); omega
          go_upto_region 12 with fail
          clear k11c1
          obtain ⟨j, hj⟩ : ∃ j : Nat, q % (N : Int) = (j : Int) := ⟨(q % (N : Int)).toNat, by have := Int.emod_nonneg q (show (N : Int) ≠ 0 by omega); omega⟩
          have jN : j < N := by have := Int.emod_lt_of_pos q (show 0 < (N : Int) by omega); omega
          rw [hj]
          clear hj n0 n1_ n2_ n3_ q0 q1 rN
          have rj := hide (show Rd w9 A1 j (((z1.take n1).take j).map (Value.int .u8)) from by rw [List.map_take]; exact r1.out.take (k := j) (by omega))
          have hlj : ((z1.take n1).take j).length = j := by rw [List.length_take, hln.out]; omega
          have hq2 : DecAt k a b c d x y ((z1.take n1).take j) 0 0 0 5 Bk.zero 0 1 (j : Int) := ⟨fun h => absurd rfl h, fun _ => ⟨rfl, 0, rfl, Nat.zero_le _, by unfold decB; rw [if_pos (by rw [hlj, ← hN.out]; omega), hlj]; rfl⟩⟩
          have D2 := hide (fun w hT hr => bl_.DecodeQ A1 j c1 ((z1.take n1).take j) v a b c d x y k k 5 0 0 0 Bk.zero 0 1 j w hT rfl hk.out hL.out (fun h => by obtain ⟨e1, e2⟩ := nil1.out h; exact ⟨by omega, e2⟩) (by omega) om1 hr (bytes_of_mem fun x hx => B1.out.mem x (List.mem_of_mem_take hx)) (by have := HN.out; omega) hq2)
          dsimp only [bkV, cu, hdV] at D2
          have g6 : (j : Int) ≤ (c1 : Int) := by omega
          have g7 : (0 : Int) ≤ (j : Int) := by omega
          clear hlj hq2 r1
          go_cut [13, 14] (fun s13 s14 wz => ∃ (gB gC : Nat) (S13 : BkS), s13 = .pointer (some ⟨gB, 0, none⟩) ∧ s14 = .pointer (some ⟨gC, 0, none⟩) ∧ w9.heap.size ≤ gB ∧ w9.heap.size ≤ gC ∧ gB ≠ gC ∧ Hid (Ro wz gB #[.slice S13.ti.A S13.ti.n S13.ti.c, .slice S13.ix.A S13.ix.n S13.ix.c, .slice S13.ty.A S13.ty.n S13.ty.c, .slice S13.ch.A S13.ch.n S13.ch.c, .slice S13.lp.A S13.lp.n S13.lp.c, .slice S13.sd.A S13.sd.n S13.sd.c, .slice S13.ut.A S13.ut.n S13.ut.c] 28) ∧ Hid (Ro wz gC #[.slice A1 j c1, .int .i64 0, .int .i64 1, .int .i64 (j : Int)] 39) ∧ Hid (OwBk wz w9.heap.size S13 Bk.zero) ∧ Hid (NeS S13 gB) ∧ Hid (NeS S13 gC) ∧ Hid (Below w9.heap.size w9 wz))
          case first =>
            have lbx0 := (show w.heap.size < w9.heap.size from k5.out.lt)
            refine wp_region_held_drew (S := fun w' => Hid (Ro w' (w.heap.size) (#[.int .i64 v, .int .u32 (a : Int), .int .u32 (b : Int), .int .u32 (c : Int), .int .u32 (d : Int), .int .u32 (x : Int), .int .u32 (y : Int)]) 35) ∧ Hid (Below w9.heap.size w9 w')) (by kernel_rfl) (⟨hide k5.out.drew, hide (bl_drew (bl_refl _))⟩) (fun hHeld => ?_)
            generalize w9.drew = u0 at *
            refine wpAnyH_takeD (i := 0) (d := (some 99)) (v := ?_) rfl rfl (by kernel_rfl) (by kernel_rfl) (by kernel_rfl) (fun _ _ _ h => h) (Or.inl ⟨by rfl, ?_⟩) (by assumption) ?_
            rotate_left
            · ((intro w hSw; go_simp) <;> with_reducible rfl)
            try simp only [Act.put, List.setIfInBounds_toArray, List.set_cons_zero, List.set_cons_succ]
            refine wpAnyH_takeD (i := 1) (d := (some 100)) (v := ?_) rfl rfl (by kernel_rfl) (by kernel_rfl) (by kernel_rfl) (fun _ _ _ h => h) (Or.inl ⟨by rfl, ?_⟩) (by assumption) ?_
            rotate_left
            · ((intro w hSw; go_simp) <;> with_reducible rfl)
            try simp only [Act.put, List.setIfInBounds_toArray, List.set_cons_zero, List.set_cons_succ]
            refine wpAnyH_takeD (i := 2) (d := (some 101)) (v := ?_) rfl rfl (by kernel_rfl) (by kernel_rfl) (by kernel_rfl) (fun _ _ _ h => h) (Or.inl ⟨by rfl, ?_⟩) (by assumption) ?_
            rotate_left
            · ((intro w hSw; go_simp) <;> with_reducible rfl)
            try simp only [Act.put, List.setIfInBounds_toArray, List.set_cons_zero, List.set_cons_succ]
            refine wpAnyH_takeD (i := 4) (d := (some 103)) rfl rfl (by kernel_rfl) (by kernel_rfl) (by kernel_rfl) (fun _ _ _ h => h) (yieldsIf_load_row (by rfl) 35 _ rfl (w.heap.size) rfl 35 #[.int .i64 v, .int .u32 (a : Int), .int .u32 (b : Int), .int .u32 (c : Int), .int .u32 (d : Int), .int .u32 (x : Int), .int .u32 (y : Int)] _ (fun w hw => hw.1.out) Tryd.underlying35 rfl (by kernel_rfl)) (by assumption) ?_
            try simp only [Act.put, List.setIfInBounds_toArray, List.set_cons_zero, List.set_cons_succ]
            refine wpAnyH_takeD (i := 5) (d := (some 104)) (v := ?_) rfl rfl (by kernel_rfl) (by kernel_rfl) (by kernel_rfl) (fun _ _ _ h => h) (Or.inl ⟨by rfl, ?_⟩) (by assumption) ?_
            rotate_left
            · ((intro w hSw; go_simp) <;> with_reducible rfl)
            try simp only [Act.put, List.setIfInBounds_toArray, List.set_cons_zero, List.set_cons_succ]
            refine wpAnyH_share (fun FF hI hE TM DF hTD => ?_)
            have st211 := hide (show ∀ (wv : World) (S13 : BkS) (gB : Nat) (gC : Nat), (Hid (Ro wv (w.heap.size) (#[.int .i64 v, .int .u32 (a : Int), .int .u32 (b : Int), .int .u32 (c : Int), .int .u32 (d : Int), .int .u32 (x : Int), .int .u32 (y : Int)]) 35) ∧ Hid (Below w9.heap.size w9 wv)) → w9.heap.size ≤ gB → Hid (Ro wv gB #[.slice none 0 0, .slice none 0 0, .slice none 0 0, .slice none 0 0, .slice none 0 0, .slice none 0 0, .slice none 0 0] 28) → w9.heap.size ≤ gC → Hid (Ro wv gC #[.slice none 0 0, .int .i64 0, .int .i64 0, .int .i64 0] 39) → gB ≠ gC → Hid (OwBk wv w9.heap.size S13 Bk.zero) → Hid (NeS S13 gB) → Hid (NeS S13 gC) → FF 2 #[true, true, true, true, true, true, true, true, true, true, true, true, false, false] { tmps := ((((((((((((TM.setIfInBounds 99 (.slice A1 n1 c1)).setIfInBounds 100 (.int .i64 (j : Int))).setIfInBounds 101 (.slice A1 j c1)).setIfInBounds 102 (.agg #[.slice A1 j c1, .int .i64 0, .int .i64 0, .int .i64 0])).setIfInBounds 103 (.agg #[.int .i64 v, .int .u32 (a : Int), .int .u32 (b : Int), .int .u32 (c : Int), .int .u32 (d : Int), .int .u32 (x : Int), .int .u32 (y : Int)])).setIfInBounds 104 (.int .i64 (k : Int))).setIfInBounds 105 (.tuple #[.agg #[.slice S13.ti.A S13.ti.n S13.ti.c, .slice S13.ix.A S13.ix.n S13.ix.c, .slice S13.ty.A S13.ty.n S13.ty.c, .slice S13.ch.A S13.ch.n S13.ch.c, .slice S13.lp.A S13.lp.n S13.lp.c, .slice S13.sd.A S13.sd.n S13.sd.c, .slice S13.ut.A S13.ut.n S13.ut.c], .agg #[.slice A1 j c1, .int .i64 0, .int .i64 1, .int .i64 (j : Int)]])).setIfInBounds 98 (.tuple #[.agg #[.slice S13.ti.A S13.ti.n S13.ti.c, .slice S13.ix.A S13.ix.n S13.ix.c, .slice S13.ty.A S13.ty.n S13.ty.c, .slice S13.ch.A S13.ch.n S13.ch.c, .slice S13.lp.A S13.lp.n S13.lp.c, .slice S13.sd.A S13.sd.n S13.sd.c, .slice S13.ut.A S13.ut.n S13.ut.c], .agg #[.slice A1 j c1, .int .i64 0, .int .i64 1, .int .i64 (j : Int)]])).setIfInBounds 106 (.agg #[.slice S13.ti.A S13.ti.n S13.ti.c, .slice S13.ix.A S13.ix.n S13.ix.c, .slice S13.ty.A S13.ty.n S13.ty.c, .slice S13.ch.A S13.ch.n S13.ch.c, .slice S13.lp.A S13.lp.n S13.lp.c, .slice S13.sd.A S13.sd.n S13.sd.c, .slice S13.ut.A S13.ut.n S13.ut.c])).setIfInBounds 107 (.agg #[.slice A1 j c1, .int .i64 0, .int .i64 1, .int .i64 (j : Int)])).setIfInBounds 13 (.pointer (some ⟨gB, 0, none⟩))).setIfInBounds 14 (.pointer (some ⟨gC, 0, none⟩))), defers := DF } wv from by
              intro wv S13 gB gC hHeld lB zB lC zC ne oS nB nC
              refine hI.out _ _ _ _ ?_
              obtain ⟨rfl, rfl⟩ := Act.mk.inj hTD.out
              try simp only [Act.put, List.setIfInBounds_toArray, List.set_cons_zero, List.set_cons_succ]
              refine wpAnyH_ready (rs := [12]) (by kernel_rfl) (by simp) ?_
              refine AllReadyH.cons rfl (fun K hK => ?_) (AllReadyH.nil)
              obtain ⟨y0, w0⟩ := ro_cf zB.out 0 _ rfl; obtain ⟨y1, w1⟩ := ro_cf zB.out 1 _ rfl; obtain ⟨y2, w2⟩ := ro_cf zB.out 2 _ rfl; obtain ⟨y3, w3⟩ := ro_cf zB.out 3 _ rfl; obtain ⟨y4, w4⟩ := ro_cf zB.out 4 _ rfl; obtain ⟨y5, w5⟩ := ro_cf zB.out 5 _ rfl; obtain ⟨y6, w6⟩ := ro_cf zB.out 6 _ rfl
              have su := hHeld.2.out.size
              have lb0 := hHeld.1.out.lt
              go_simp
              refine hK.out _ _ (⟨hide (ro_away7 (g' := gB) (x0 := .slice S13.ti.A S13.ti.n S13.ti.c) (x1 := .slice S13.ix.A S13.ix.n S13.ix.c) (x2 := .slice S13.ty.A S13.ty.n S13.ty.c) (x3 := .slice S13.ch.A S13.ch.n S13.ch.c) (x4 := .slice S13.lp.A S13.lp.n S13.lp.c) (x5 := .slice S13.sd.A S13.sd.n S13.sd.c) (x6 := .slice S13.ut.A S13.ut.n S13.ut.c) hHeld.1.out (by have := lbx0; omega)), hide (bl_setx7 (g := gB) (x0 := .slice S13.ti.A S13.ti.n S13.ti.c) (x1 := .slice S13.ix.A S13.ix.n S13.ix.c) (x2 := .slice S13.ty.A S13.ty.n S13.ty.c) (x3 := .slice S13.ch.A S13.ch.n S13.ch.c) (x4 := .slice S13.lp.A S13.lp.n S13.lp.c) (x5 := .slice S13.sd.A S13.sd.n S13.sd.c) (x6 := .slice S13.ut.A S13.ut.n S13.ut.c) hHeld.2.out lB)⟩) (fun hHeld => ?_)
              clear hK K y0 w0 y1 w1 y2 w2 y3 w3 y4 w4 y5 w5 y6 w6
              replace zB := hide (ro_set7' (x0 := .slice S13.ti.A S13.ti.n S13.ti.c) (x1 := .slice S13.ix.A S13.ix.n S13.ix.c) (x2 := .slice S13.ty.A S13.ty.n S13.ty.c) (x3 := .slice S13.ch.A S13.ch.n S13.ch.c) (x4 := .slice S13.lp.A S13.lp.n S13.lp.c) (x5 := .slice S13.sd.A S13.sd.n S13.sd.c) (x6 := .slice S13.ut.A S13.ut.n S13.ut.c) zB.out)
              replace zC := hide (ro_away7 (g' := gB) (x0 := .slice S13.ti.A S13.ti.n S13.ti.c) (x1 := .slice S13.ix.A S13.ix.n S13.ix.c) (x2 := .slice S13.ty.A S13.ty.n S13.ty.c) (x3 := .slice S13.ch.A S13.ch.n S13.ch.c) (x4 := .slice S13.lp.A S13.lp.n S13.lp.c) (x5 := .slice S13.sd.A S13.sd.n S13.sd.c) (x6 := .slice S13.ut.A S13.ut.n S13.ut.c) zC.out (by omega))
              replace oS := hide (oS.out.away7 nB.out (.slice S13.ti.A S13.ti.n S13.ti.c) (.slice S13.ix.A S13.ix.n S13.ix.c) (.slice S13.ty.A S13.ty.n S13.ty.c) (.slice S13.ch.A S13.ch.n S13.ch.c) (.slice S13.lp.A S13.lp.n S13.lp.c) (.slice S13.sd.A S13.sd.n S13.sd.c) (.slice S13.ut.A S13.ut.n S13.ut.c))
              generalize (((((((wv.setCell ⟨gB, 0, none⟩ (.slice S13.ti.A S13.ti.n S13.ti.c)).setCell ⟨gB, 1, none⟩ (.slice S13.ix.A S13.ix.n S13.ix.c)).setCell ⟨gB, 2, none⟩ (.slice S13.ty.A S13.ty.n S13.ty.c)).setCell ⟨gB, 3, none⟩ (.slice S13.ch.A S13.ch.n S13.ch.c)).setCell ⟨gB, 4, none⟩ (.slice S13.lp.A S13.lp.n S13.lp.c)).setCell ⟨gB, 5, none⟩ (.slice S13.sd.A S13.sd.n S13.sd.c)).setCell ⟨gB, 6, none⟩ (.slice S13.ut.A S13.ut.n S13.ut.c)) = wv1 at *
              try simp only [Act.put, List.setIfInBounds_toArray, List.set_cons_zero, List.set_cons_succ]
              refine wpAnyH_ready (rs := [13]) (by kernel_rfl) (by simp) ?_
              refine AllReadyH.cons rfl (fun K hK => ?_) (AllReadyH.nil)
              obtain ⟨y0, w0⟩ := ro_cf zC.out 0 _ rfl; obtain ⟨y1, w1⟩ := ro_cf zC.out 1 _ rfl; obtain ⟨y2, w2⟩ := ro_cf zC.out 2 _ rfl; obtain ⟨y3, w3⟩ := ro_cf zC.out 3 _ rfl
              have su := hHeld.2.out.size
              have lb0 := hHeld.1.out.lt
              go_simp
              refine hK.out _ _ (⟨hide (ro_away4 (g' := gC) (x0 := .slice A1 j c1) (x1 := .int .i64 0) (x2 := .int .i64 1) (x3 := .int .i64 (j : Int)) hHeld.1.out (by have := lbx0; omega)), hide (bl_setx4 (g := gC) (x0 := .slice A1 j c1) (x1 := .int .i64 0) (x2 := .int .i64 1) (x3 := .int .i64 (j : Int)) hHeld.2.out lC)⟩) (fun hHeld => ?_)
              clear hK K y0 w0 y1 w1 y2 w2 y3 w3
              replace zC := hide (ro_set4' (x0 := .slice A1 j c1) (x1 := .int .i64 0) (x2 := .int .i64 1) (x3 := .int .i64 (j : Int)) zC.out)
              replace zB := hide (ro_away4 (g' := gC) (x0 := .slice A1 j c1) (x1 := .int .i64 0) (x2 := .int .i64 1) (x3 := .int .i64 (j : Int)) zB.out (by omega))
              replace oS := hide (oS.out.away4 nC.out (.slice A1 j c1) (.int .i64 0) (.int .i64 1) (.int .i64 (j : Int)))
              generalize ((((wv1.setCell ⟨gC, 0, none⟩ (.slice A1 j c1)).setCell ⟨gC, 1, none⟩ (.int .i64 0)).setCell ⟨gC, 2, none⟩ (.int .i64 1)).setCell ⟨gC, 3, none⟩ (.int .i64 (j : Int))) = wv2 at *
              try simp only [Act.put, List.setIfInBounds_toArray, List.set_cons_zero, List.set_cons_succ]
              refine wpAnyH_done (by kernel_rfl) ?_ _
              go_wp2_with fail
              go_meet
              exact ⟨gB, gC, S13, rfl, rfl, lB, lC, ne, zB, zC, oS, nB, nC, hHeld.2⟩)
            have st210 := hide (show ∀ (wv : World) (S13 : BkS) (gB : Nat), (Hid (Ro wv (w.heap.size) (#[.int .i64 v, .int .u32 (a : Int), .int .u32 (b : Int), .int .u32 (c : Int), .int .u32 (d : Int), .int .u32 (x : Int), .int .u32 (y : Int)]) 35) ∧ Hid (Below w9.heap.size w9 wv)) → w9.heap.size ≤ gB → Hid (Ro wv gB #[.slice none 0 0, .slice none 0 0, .slice none 0 0, .slice none 0 0, .slice none 0 0, .slice none 0 0, .slice none 0 0] 28) → Hid (OwBk wv w9.heap.size S13 Bk.zero) → Hid (NeS S13 gB) → FF 3 #[true, true, true, true, true, true, true, true, true, true, true, false, false, false] { tmps := (((((((((((TM.setIfInBounds 99 (.slice A1 n1 c1)).setIfInBounds 100 (.int .i64 (j : Int))).setIfInBounds 101 (.slice A1 j c1)).setIfInBounds 102 (.agg #[.slice A1 j c1, .int .i64 0, .int .i64 0, .int .i64 0])).setIfInBounds 103 (.agg #[.int .i64 v, .int .u32 (a : Int), .int .u32 (b : Int), .int .u32 (c : Int), .int .u32 (d : Int), .int .u32 (x : Int), .int .u32 (y : Int)])).setIfInBounds 104 (.int .i64 (k : Int))).setIfInBounds 105 (.tuple #[.agg #[.slice S13.ti.A S13.ti.n S13.ti.c, .slice S13.ix.A S13.ix.n S13.ix.c, .slice S13.ty.A S13.ty.n S13.ty.c, .slice S13.ch.A S13.ch.n S13.ch.c, .slice S13.lp.A S13.lp.n S13.lp.c, .slice S13.sd.A S13.sd.n S13.sd.c, .slice S13.ut.A S13.ut.n S13.ut.c], .agg #[.slice A1 j c1, .int .i64 0, .int .i64 1, .int .i64 (j : Int)]])).setIfInBounds 98 (.tuple #[.agg #[.slice S13.ti.A S13.ti.n S13.ti.c, .slice S13.ix.A S13.ix.n S13.ix.c, .slice S13.ty.A S13.ty.n S13.ty.c, .slice S13.ch.A S13.ch.n S13.ch.c, .slice S13.lp.A S13.lp.n S13.lp.c, .slice S13.sd.A S13.sd.n S13.sd.c, .slice S13.ut.A S13.ut.n S13.ut.c], .agg #[.slice A1 j c1, .int .i64 0, .int .i64 1, .int .i64 (j : Int)]])).setIfInBounds 106 (.agg #[.slice S13.ti.A S13.ti.n S13.ti.c, .slice S13.ix.A S13.ix.n S13.ix.c, .slice S13.ty.A S13.ty.n S13.ty.c, .slice S13.ch.A S13.ch.n S13.ch.c, .slice S13.lp.A S13.lp.n S13.lp.c, .slice S13.sd.A S13.sd.n S13.sd.c, .slice S13.ut.A S13.ut.n S13.ut.c])).setIfInBounds 107 (.agg #[.slice A1 j c1, .int .i64 0, .int .i64 1, .int .i64 (j : Int)])).setIfInBounds 13 (.pointer (some ⟨gB, 0, none⟩))), defers := DF } wv from by
              intro wv S13 gB hHeld lB zB oS nB
              refine hI.out _ _ _ _ ?_
              obtain ⟨rfl, rfl⟩ := Act.mk.inj hTD.out
              try simp only [Act.put, List.setIfInBounds_toArray, List.set_cons_zero, List.set_cons_succ]
              refine wpAnyH_ready (rs := [11]) (by kernel_rfl) (by simp) ?_
              refine AllReadyH.cons rfl (fun K hK => ?_) (AllReadyH.nil)
              · go_simp
                have lC := hHeld.2.out.size
                have zC := hide (Ro.new wv #[.slice none 0 0, .int .i64 0, .int .i64 0, .int .i64 0] 39)
                have ne := (show gB ≠ wv.heap.size from fun h => by have := zB.out.lt; omega)
                replace zB := hide (zB.out.alloc (.cells #[.slice none 0 0, .int .i64 0, .int .i64 0, .int .i64 0] 39))
                have nC := hide (oS.out.ne (g := wv.heap.size) (.inr (Nat.le_refl _)))
                replace oS := hide (oS.out.below (bl_new _ (.cells #[.slice none 0 0, .int .i64 0, .int .i64 0, .int .i64 0] 39)))
                refine hK.out _ _ (⟨hide (hHeld.1.out.alloc _), hide (bl_alloc hHeld.2.out _)⟩) (fun hHeld => ?_)
                clear hK K
                try simp only [Act.put, List.setIfInBounds_toArray, List.set_cons_zero, List.set_cons_succ]
                refine hE.out _ _ _ _ ?_
                have hh := st211.out _ S13 gB wv.heap.size hHeld lB zB lC zC ne oS nB nC
                try simp only [Act.put, List.setIfInBounds_toArray, List.set_cons_zero, List.set_cons_succ] at hh
                exact hh)
            have st201 := hide (show ∀ (wv : World) (S13 : BkS) (gC : Nat), (Hid (Ro wv (w.heap.size) (#[.int .i64 v, .int .u32 (a : Int), .int .u32 (b : Int), .int .u32 (c : Int), .int .u32 (d : Int), .int .u32 (x : Int), .int .u32 (y : Int)]) 35) ∧ Hid (Below w9.heap.size w9 wv)) → w9.heap.size ≤ gC → Hid (Ro wv gC #[.slice none 0 0, .int .i64 0, .int .i64 0, .int .i64 0] 39) → Hid (OwBk wv w9.heap.size S13 Bk.zero) → Hid (NeS S13 gC) → FF 3 #[true, true, true, true, true, true, true, true, true, true, false, true, false, false] { tmps := (((((((((((TM.setIfInBounds 99 (.slice A1 n1 c1)).setIfInBounds 100 (.int .i64 (j : Int))).setIfInBounds 101 (.slice A1 j c1)).setIfInBounds 102 (.agg #[.slice A1 j c1, .int .i64 0, .int .i64 0, .int .i64 0])).setIfInBounds 103 (.agg #[.int .i64 v, .int .u32 (a : Int), .int .u32 (b : Int), .int .u32 (c : Int), .int .u32 (d : Int), .int .u32 (x : Int), .int .u32 (y : Int)])).setIfInBounds 104 (.int .i64 (k : Int))).setIfInBounds 105 (.tuple #[.agg #[.slice S13.ti.A S13.ti.n S13.ti.c, .slice S13.ix.A S13.ix.n S13.ix.c, .slice S13.ty.A S13.ty.n S13.ty.c, .slice S13.ch.A S13.ch.n S13.ch.c, .slice S13.lp.A S13.lp.n S13.lp.c, .slice S13.sd.A S13.sd.n S13.sd.c, .slice S13.ut.A S13.ut.n S13.ut.c], .agg #[.slice A1 j c1, .int .i64 0, .int .i64 1, .int .i64 (j : Int)]])).setIfInBounds 98 (.tuple #[.agg #[.slice S13.ti.A S13.ti.n S13.ti.c, .slice S13.ix.A S13.ix.n S13.ix.c, .slice S13.ty.A S13.ty.n S13.ty.c, .slice S13.ch.A S13.ch.n S13.ch.c, .slice S13.lp.A S13.lp.n S13.lp.c, .slice S13.sd.A S13.sd.n S13.sd.c, .slice S13.ut.A S13.ut.n S13.ut.c], .agg #[.slice A1 j c1, .int .i64 0, .int .i64 1, .int .i64 (j : Int)]])).setIfInBounds 106 (.agg #[.slice S13.ti.A S13.ti.n S13.ti.c, .slice S13.ix.A S13.ix.n S13.ix.c, .slice S13.ty.A S13.ty.n S13.ty.c, .slice S13.ch.A S13.ch.n S13.ch.c, .slice S13.lp.A S13.lp.n S13.lp.c, .slice S13.sd.A S13.sd.n S13.sd.c, .slice S13.ut.A S13.ut.n S13.ut.c])).setIfInBounds 107 (.agg #[.slice A1 j c1, .int .i64 0, .int .i64 1, .int .i64 (j : Int)])).setIfInBounds 14 (.pointer (some ⟨gC, 0, none⟩))), defers := DF } wv from by
              intro wv S13 gC hHeld lC zC oS nC
              refine hI.out _ _ _ _ ?_
              obtain ⟨rfl, rfl⟩ := Act.mk.inj hTD.out
              try simp only [Act.put, List.setIfInBounds_toArray, List.set_cons_zero, List.set_cons_succ]
              refine wpAnyH_ready (rs := [10]) (by kernel_rfl) (by simp) ?_
              refine AllReadyH.cons rfl (fun K hK => ?_) (AllReadyH.nil)
              · go_simp
                have lB := hHeld.2.out.size
                have zB := hide (Ro.new wv #[.slice none 0 0, .slice none 0 0, .slice none 0 0, .slice none 0 0, .slice none 0 0, .slice none 0 0, .slice none 0 0] 28)
                have ne := (show wv.heap.size ≠ gC from fun h => by have := zC.out.lt; omega)
                replace zC := hide (zC.out.alloc (.cells #[.slice none 0 0, .slice none 0 0, .slice none 0 0, .slice none 0 0, .slice none 0 0, .slice none 0 0, .slice none 0 0] 28))
                have nB := hide (oS.out.ne (g := wv.heap.size) (.inr (Nat.le_refl _)))
                replace oS := hide (oS.out.below (bl_new _ (.cells #[.slice none 0 0, .slice none 0 0, .slice none 0 0, .slice none 0 0, .slice none 0 0, .slice none 0 0, .slice none 0 0] 28)))
                refine hK.out _ _ (⟨hide (hHeld.1.out.alloc _), hide (bl_alloc hHeld.2.out _)⟩) (fun hHeld => ?_)
                clear hK K
                try simp only [Act.put, List.setIfInBounds_toArray, List.set_cons_zero, List.set_cons_succ]
                refine hE.out _ _ _ _ ?_
                have hh := st211.out _ S13 wv.heap.size gC hHeld lB zB lC zC ne oS nB nC
                try simp only [Act.put, List.setIfInBounds_toArray, List.set_cons_zero, List.set_cons_succ] at hh
                exact hh)
            have st200 := hide (show ∀ (wv : World) (S13 : BkS), (Hid (Ro wv (w.heap.size) (#[.int .i64 v, .int .u32 (a : Int), .int .u32 (b : Int), .int .u32 (c : Int), .int .u32 (d : Int), .int .u32 (x : Int), .int .u32 (y : Int)]) 35) ∧ Hid (Below w9.heap.size w9 wv)) → Hid (OwBk wv w9.heap.size S13 Bk.zero) → FF 4 #[true, true, true, true, true, true, true, true, true, true, false, false, false, false] { tmps := ((((((((((TM.setIfInBounds 99 (.slice A1 n1 c1)).setIfInBounds 100 (.int .i64 (j : Int))).setIfInBounds 101 (.slice A1 j c1)).setIfInBounds 102 (.agg #[.slice A1 j c1, .int .i64 0, .int .i64 0, .int .i64 0])).setIfInBounds 103 (.agg #[.int .i64 v, .int .u32 (a : Int), .int .u32 (b : Int), .int .u32 (c : Int), .int .u32 (d : Int), .int .u32 (x : Int), .int .u32 (y : Int)])).setIfInBounds 104 (.int .i64 (k : Int))).setIfInBounds 105 (.tuple #[.agg #[.slice S13.ti.A S13.ti.n S13.ti.c, .slice S13.ix.A S13.ix.n S13.ix.c, .slice S13.ty.A S13.ty.n S13.ty.c, .slice S13.ch.A S13.ch.n S13.ch.c, .slice S13.lp.A S13.lp.n S13.lp.c, .slice S13.sd.A S13.sd.n S13.sd.c, .slice S13.ut.A S13.ut.n S13.ut.c], .agg #[.slice A1 j c1, .int .i64 0, .int .i64 1, .int .i64 (j : Int)]])).setIfInBounds 98 (.tuple #[.agg #[.slice S13.ti.A S13.ti.n S13.ti.c, .slice S13.ix.A S13.ix.n S13.ix.c, .slice S13.ty.A S13.ty.n S13.ty.c, .slice S13.ch.A S13.ch.n S13.ch.c, .slice S13.lp.A S13.lp.n S13.lp.c, .slice S13.sd.A S13.sd.n S13.sd.c, .slice S13.ut.A S13.ut.n S13.ut.c], .agg #[.slice A1 j c1, .int .i64 0, .int .i64 1, .int .i64 (j : Int)]])).setIfInBounds 106 (.agg #[.slice S13.ti.A S13.ti.n S13.ti.c, .slice S13.ix.A S13.ix.n S13.ix.c, .slice S13.ty.A S13.ty.n S13.ty.c, .slice S13.ch.A S13.ch.n S13.ch.c, .slice S13.lp.A S13.lp.n S13.lp.c, .slice S13.sd.A S13.sd.n S13.sd.c, .slice S13.ut.A S13.ut.n S13.ut.c])).setIfInBounds 107 (.agg #[.slice A1 j c1, .int .i64 0, .int .i64 1, .int .i64 (j : Int)])), defers := DF } wv from by
              intro wv S13 hHeld oS
              refine hI.out _ _ _ _ ?_
              obtain ⟨rfl, rfl⟩ := Act.mk.inj hTD.out
              try simp only [Act.put, List.setIfInBounds_toArray, List.set_cons_zero, List.set_cons_succ]
              refine wpAnyH_ready (rs := [10, 11]) (by kernel_rfl) (by simp) ?_
              refine AllReadyH.cons rfl (fun K hK => ?_) (AllReadyH.cons rfl (fun K hK => ?_) (AllReadyH.nil))
              · go_simp
                have lB := hHeld.2.out.size
                have zB := hide (Ro.new wv #[.slice none 0 0, .slice none 0 0, .slice none 0 0, .slice none 0 0, .slice none 0 0, .slice none 0 0, .slice none 0 0] 28)
                have nB := hide (oS.out.ne (g := wv.heap.size) (.inr (Nat.le_refl _)))
                replace oS := hide (oS.out.below (bl_new _ (.cells #[.slice none 0 0, .slice none 0 0, .slice none 0 0, .slice none 0 0, .slice none 0 0, .slice none 0 0, .slice none 0 0] 28)))
                refine hK.out _ _ (⟨hide (hHeld.1.out.alloc _), hide (bl_alloc hHeld.2.out _)⟩) (fun hHeld => ?_)
                clear hK K
                try simp only [Act.put, List.setIfInBounds_toArray, List.set_cons_zero, List.set_cons_succ]
                refine hE.out _ _ _ _ ?_
                have hh := st210.out _ S13 wv.heap.size hHeld lB zB oS nB
                try simp only [Act.put, List.setIfInBounds_toArray, List.set_cons_zero, List.set_cons_succ] at hh
                exact hh
              · go_simp
                have lC := hHeld.2.out.size
                have zC := hide (Ro.new wv #[.slice none 0 0, .int .i64 0, .int .i64 0, .int .i64 0] 39)
                have nC := hide (oS.out.ne (g := wv.heap.size) (.inr (Nat.le_refl _)))
                replace oS := hide (oS.out.below (bl_new _ (.cells #[.slice none 0 0, .int .i64 0, .int .i64 0, .int .i64 0] 39)))
                refine hK.out _ _ (⟨hide (hHeld.1.out.alloc _), hide (bl_alloc hHeld.2.out _)⟩) (fun hHeld => ?_)
                clear hK K
                try simp only [Act.put, List.setIfInBounds_toArray, List.set_cons_zero, List.set_cons_succ]
                refine hE.out _ _ _ _ ?_
                have hh := st201.out _ S13 wv.heap.size hHeld lC zC oS nC
                try simp only [Act.put, List.setIfInBounds_toArray, List.set_cons_zero, List.set_cons_succ] at hh
                exact hh)
            have st111 := hide (show ∀ (wv : World) (gB : Nat) (gC : Nat), (Hid (Ro wv (w.heap.size) (#[.int .i64 v, .int .u32 (a : Int), .int .u32 (b : Int), .int .u32 (c : Int), .int .u32 (d : Int), .int .u32 (x : Int), .int .u32 (y : Int)]) 35) ∧ Hid (Below w9.heap.size w9 wv)) → w9.heap.size ≤ gB → Hid (Ro wv gB #[.slice none 0 0, .slice none 0 0, .slice none 0 0, .slice none 0 0, .slice none 0 0, .slice none 0 0, .slice none 0 0] 28) → w9.heap.size ≤ gC → Hid (Ro wv gC #[.slice none 0 0, .int .i64 0, .int .i64 0, .int .i64 0] 39) → gB ≠ gC → FF 6 #[true, true, true, true, true, true, false, false, false, false, true, true, false, false] { tmps := ((((((((TM.setIfInBounds 99 (.slice A1 n1 c1)).setIfInBounds 100 (.int .i64 (j : Int))).setIfInBounds 101 (.slice A1 j c1)).setIfInBounds 102 (.agg #[.slice A1 j c1, .int .i64 0, .int .i64 0, .int .i64 0])).setIfInBounds 103 (.agg #[.int .i64 v, .int .u32 (a : Int), .int .u32 (b : Int), .int .u32 (c : Int), .int .u32 (d : Int), .int .u32 (x : Int), .int .u32 (y : Int)])).setIfInBounds 104 (.int .i64 (k : Int))).setIfInBounds 13 (.pointer (some ⟨gB, 0, none⟩))).setIfInBounds 14 (.pointer (some ⟨gC, 0, none⟩))), defers := DF } wv from by
              intro wv gB gC hHeld lB zB lC zC ne
              refine hI.out _ _ _ _ ?_
              obtain ⟨rfl, rfl⟩ := Act.mk.inj hTD.out
              try simp only [Act.put, List.setIfInBounds_toArray, List.set_cons_zero, List.set_cons_succ]
              refine wpAnyH_ready (rs := [6]) (by kernel_rfl) (by simp) ?_
              refine AllReadyH.cons rfl (fun K hK => ?_) (AllReadyH.nil)
              · go_simp
                refine (D2.out _ (HT.out.below hHeld.2.out) (rj.out.below hHeld.2.out)).mono ?_
                rintro e vv ⟨S13, rfl, oS_, h1'⟩
                have nB := hide (oS_.ne (.inl zB.out.lt))
                have nC := hide (oS_.ne (.inl zC.out.lt))
                have oS := hide (oS_.mono hHeld.2.out.size)
                replace zB := hide (zB.out.below h1')
                replace zC := hide (zC.out.below h1')
                refine hK.out _ _ (⟨hide (hHeld.1.out.below h1'), hide (bel_next hHeld.2.out h1')⟩) (fun hHeld => ?_)
                clear hK K h1'
                try simp only [Act.put, List.setIfInBounds_toArray, List.set_cons_zero, List.set_cons_succ]
                refine wpAnyH_takeD (i := 7) (d := (some 98)) (v := ?_) rfl rfl (by kernel_rfl) (by kernel_rfl) (by kernel_rfl) (fun _ _ _ h => h) (Or.inl ⟨by rfl, ?_⟩) (by assumption) ?_
                rotate_left
                · ((intro w hSw; go_simp) <;> with_reducible rfl)
                try simp only [Act.put, List.setIfInBounds_toArray, List.set_cons_zero, List.set_cons_succ]
                refine wpAnyH_takeD (i := 8) (d := (some 106)) (v := ?_) rfl rfl (by kernel_rfl) (by kernel_rfl) (by kernel_rfl) (fun _ _ _ h => h) (Or.inl ⟨by rfl, ?_⟩) (by assumption) ?_
                rotate_left
                · ((intro w hSw; go_simp) <;> with_reducible rfl)
                try simp only [Act.put, List.setIfInBounds_toArray, List.set_cons_zero, List.set_cons_succ]
                refine wpAnyH_takeD (i := 9) (d := (some 107)) (v := ?_) rfl rfl (by kernel_rfl) (by kernel_rfl) (by kernel_rfl) (fun _ _ _ h => h) (Or.inl ⟨by rfl, ?_⟩) (by assumption) ?_
                rotate_left
                · ((intro w hSw; go_simp) <;> with_reducible rfl)
                try simp only [Act.put, List.setIfInBounds_toArray, List.set_cons_zero, List.set_cons_succ]
                refine hE.out _ _ _ _ ?_
                have hh := st211.out _ S13 gB gC hHeld lB zB lC zC ne oS nB nC
                try simp only [Act.put, List.setIfInBounds_toArray, List.set_cons_zero, List.set_cons_succ] at hh
                exact hh)
            have st110 := hide (show ∀ (wv : World) (gB : Nat), (Hid (Ro wv (w.heap.size) (#[.int .i64 v, .int .u32 (a : Int), .int .u32 (b : Int), .int .u32 (c : Int), .int .u32 (d : Int), .int .u32 (x : Int), .int .u32 (y : Int)]) 35) ∧ Hid (Below w9.heap.size w9 wv)) → w9.heap.size ≤ gB → Hid (Ro wv gB #[.slice none 0 0, .slice none 0 0, .slice none 0 0, .slice none 0 0, .slice none 0 0, .slice none 0 0, .slice none 0 0] 28) → FF 7 #[true, true, true, true, true, true, false, false, false, false, true, false, false, false] { tmps := (((((((TM.setIfInBounds 99 (.slice A1 n1 c1)).setIfInBounds 100 (.int .i64 (j : Int))).setIfInBounds 101 (.slice A1 j c1)).setIfInBounds 102 (.agg #[.slice A1 j c1, .int .i64 0, .int .i64 0, .int .i64 0])).setIfInBounds 103 (.agg #[.int .i64 v, .int .u32 (a : Int), .int .u32 (b : Int), .int .u32 (c : Int), .int .u32 (d : Int), .int .u32 (x : Int), .int .u32 (y : Int)])).setIfInBounds 104 (.int .i64 (k : Int))).setIfInBounds 13 (.pointer (some ⟨gB, 0, none⟩))), defers := DF } wv from by
              intro wv gB hHeld lB zB
              refine hI.out _ _ _ _ ?_
              obtain ⟨rfl, rfl⟩ := Act.mk.inj hTD.out
              try simp only [Act.put, List.setIfInBounds_toArray, List.set_cons_zero, List.set_cons_succ]
              refine wpAnyH_ready (rs := [6, 11]) (by kernel_rfl) (by simp) ?_
              refine AllReadyH.cons rfl (fun K hK => ?_) (AllReadyH.cons rfl (fun K hK => ?_) (AllReadyH.nil))
              · go_simp
                refine (D2.out _ (HT.out.below hHeld.2.out) (rj.out.below hHeld.2.out)).mono ?_
                rintro e vv ⟨S13, rfl, oS_, h1'⟩
                have nB := hide (oS_.ne (.inl zB.out.lt))
                have oS := hide (oS_.mono hHeld.2.out.size)
                replace zB := hide (zB.out.below h1')
                refine hK.out _ _ (⟨hide (hHeld.1.out.below h1'), hide (bel_next hHeld.2.out h1')⟩) (fun hHeld => ?_)
                clear hK K h1'
                try simp only [Act.put, List.setIfInBounds_toArray, List.set_cons_zero, List.set_cons_succ]
                refine wpAnyH_takeD (i := 7) (d := (some 98)) (v := ?_) rfl rfl (by kernel_rfl) (by kernel_rfl) (by kernel_rfl) (fun _ _ _ h => h) (Or.inl ⟨by rfl, ?_⟩) (by assumption) ?_
                rotate_left
                · ((intro w hSw; go_simp) <;> with_reducible rfl)
                try simp only [Act.put, List.setIfInBounds_toArray, List.set_cons_zero, List.set_cons_succ]
                refine wpAnyH_takeD (i := 8) (d := (some 106)) (v := ?_) rfl rfl (by kernel_rfl) (by kernel_rfl) (by kernel_rfl) (fun _ _ _ h => h) (Or.inl ⟨by rfl, ?_⟩) (by assumption) ?_
                rotate_left
                · ((intro w hSw; go_simp) <;> with_reducible rfl)
                try simp only [Act.put, List.setIfInBounds_toArray, List.set_cons_zero, List.set_cons_succ]
                refine wpAnyH_takeD (i := 9) (d := (some 107)) (v := ?_) rfl rfl (by kernel_rfl) (by kernel_rfl) (by kernel_rfl) (fun _ _ _ h => h) (Or.inl ⟨by rfl, ?_⟩) (by assumption) ?_
                rotate_left
                · ((intro w hSw; go_simp) <;> with_reducible rfl)
                try simp only [Act.put, List.setIfInBounds_toArray, List.set_cons_zero, List.set_cons_succ]
                refine hE.out _ _ _ _ ?_
                have hh := st210.out _ S13 gB hHeld lB zB oS nB
                try simp only [Act.put, List.setIfInBounds_toArray, List.set_cons_zero, List.set_cons_succ] at hh
                exact hh
              · go_simp
                have lC := hHeld.2.out.size
                have zC := hide (Ro.new wv #[.slice none 0 0, .int .i64 0, .int .i64 0, .int .i64 0] 39)
                have ne := (show gB ≠ wv.heap.size from fun h => by have := zB.out.lt; omega)
                replace zB := hide (zB.out.alloc (.cells #[.slice none 0 0, .int .i64 0, .int .i64 0, .int .i64 0] 39))
                refine hK.out _ _ (⟨hide (hHeld.1.out.alloc _), hide (bl_alloc hHeld.2.out _)⟩) (fun hHeld => ?_)
                clear hK K
                try simp only [Act.put, List.setIfInBounds_toArray, List.set_cons_zero, List.set_cons_succ]
                refine hE.out _ _ _ _ ?_
                have hh := st111.out _ gB wv.heap.size hHeld lB zB lC zC ne
                try simp only [Act.put, List.setIfInBounds_toArray, List.set_cons_zero, List.set_cons_succ] at hh
                exact hh)
            have st101 := hide (show ∀ (wv : World) (gC : Nat), (Hid (Ro wv (w.heap.size) (#[.int .i64 v, .int .u32 (a : Int), .int .u32 (b : Int), .int .u32 (c : Int), .int .u32 (d : Int), .int .u32 (x : Int), .int .u32 (y : Int)]) 35) ∧ Hid (Below w9.heap.size w9 wv)) → w9.heap.size ≤ gC → Hid (Ro wv gC #[.slice none 0 0, .int .i64 0, .int .i64 0, .int .i64 0] 39) → FF 7 #[true, true, true, true, true, true, false, false, false, false, false, true, false, false] { tmps := (((((((TM.setIfInBounds 99 (.slice A1 n1 c1)).setIfInBounds 100 (.int .i64 (j : Int))).setIfInBounds 101 (.slice A1 j c1)).setIfInBounds 102 (.agg #[.slice A1 j c1, .int .i64 0, .int .i64 0, .int .i64 0])).setIfInBounds 103 (.agg #[.int .i64 v, .int .u32 (a : Int), .int .u32 (b : Int), .int .u32 (c : Int), .int .u32 (d : Int), .int .u32 (x : Int), .int .u32 (y : Int)])).setIfInBounds 104 (.int .i64 (k : Int))).setIfInBounds 14 (.pointer (some ⟨gC, 0, none⟩))), defers := DF } wv from by
              intro wv gC hHeld lC zC
              refine hI.out _ _ _ _ ?_
              obtain ⟨rfl, rfl⟩ := Act.mk.inj hTD.out
              try simp only [Act.put, List.setIfInBounds_toArray, List.set_cons_zero, List.set_cons_succ]
              refine wpAnyH_ready (rs := [6, 10]) (by kernel_rfl) (by simp) ?_
              refine AllReadyH.cons rfl (fun K hK => ?_) (AllReadyH.cons rfl (fun K hK => ?_) (AllReadyH.nil))
              · go_simp
                refine (D2.out _ (HT.out.below hHeld.2.out) (rj.out.below hHeld.2.out)).mono ?_
                rintro e vv ⟨S13, rfl, oS_, h1'⟩
                have nC := hide (oS_.ne (.inl zC.out.lt))
                have oS := hide (oS_.mono hHeld.2.out.size)
                replace zC := hide (zC.out.below h1')
                refine hK.out _ _ (⟨hide (hHeld.1.out.below h1'), hide (bel_next hHeld.2.out h1')⟩) (fun hHeld => ?_)
                clear hK K h1'
                try simp only [Act.put, List.setIfInBounds_toArray, List.set_cons_zero, List.set_cons_succ]
                refine wpAnyH_takeD (i := 7) (d := (some 98)) (v := ?_) rfl rfl (by kernel_rfl) (by kernel_rfl) (by kernel_rfl) (fun _ _ _ h => h) (Or.inl ⟨by rfl, ?_⟩) (by assumption) ?_
                rotate_left
                · ((intro w hSw; go_simp) <;> with_reducible rfl)
                try simp only [Act.put, List.setIfInBounds_toArray, List.set_cons_zero, List.set_cons_succ]
                refine wpAnyH_takeD (i := 8) (d := (some 106)) (v := ?_) rfl rfl (by kernel_rfl) (by kernel_rfl) (by kernel_rfl) (fun _ _ _ h => h) (Or.inl ⟨by rfl, ?_⟩) (by assumption) ?_
                rotate_left
                · ((intro w hSw; go_simp) <;> with_reducible rfl)
                try simp only [Act.put, List.setIfInBounds_toArray, List.set_cons_zero, List.set_cons_succ]
                refine wpAnyH_takeD (i := 9) (d := (some 107)) (v := ?_) rfl rfl (by kernel_rfl) (by kernel_rfl) (by kernel_rfl) (fun _ _ _ h => h) (Or.inl ⟨by rfl, ?_⟩) (by assumption) ?_
                rotate_left
                · ((intro w hSw; go_simp) <;> with_reducible rfl)
                try simp only [Act.put, List.setIfInBounds_toArray, List.set_cons_zero, List.set_cons_succ]
                refine hE.out _ _ _ _ ?_
                have hh := st201.out _ S13 gC hHeld lC zC oS nC
                try simp only [Act.put, List.setIfInBounds_toArray, List.set_cons_zero, List.set_cons_succ] at hh
                exact hh
              · go_simp
                have lB := hHeld.2.out.size
                have zB := hide (Ro.new wv #[.slice none 0 0, .slice none 0 0, .slice none 0 0, .slice none 0 0, .slice none 0 0, .slice none 0 0, .slice none 0 0] 28)
                have ne := (show wv.heap.size ≠ gC from fun h => by have := zC.out.lt; omega)
                replace zC := hide (zC.out.alloc (.cells #[.slice none 0 0, .slice none 0 0, .slice none 0 0, .slice none 0 0, .slice none 0 0, .slice none 0 0, .slice none 0 0] 28))
                refine hK.out _ _ (⟨hide (hHeld.1.out.alloc _), hide (bl_alloc hHeld.2.out _)⟩) (fun hHeld => ?_)
                clear hK K
                try simp only [Act.put, List.setIfInBounds_toArray, List.set_cons_zero, List.set_cons_succ]
                refine hE.out _ _ _ _ ?_
                have hh := st111.out _ wv.heap.size gC hHeld lB zB lC zC ne
                try simp only [Act.put, List.setIfInBounds_toArray, List.set_cons_zero, List.set_cons_succ] at hh
                exact hh)
            have st100 := hide (show ∀ (wv : World), (Hid (Ro wv (w.heap.size) (#[.int .i64 v, .int .u32 (a : Int), .int .u32 (b : Int), .int .u32 (c : Int), .int .u32 (d : Int), .int .u32 (x : Int), .int .u32 (y : Int)]) 35) ∧ Hid (Below w9.heap.size w9 wv)) → FF 8 #[true, true, true, true, true, true, false, false, false, false, false, false, false, false] { tmps := ((((((TM.setIfInBounds 99 (.slice A1 n1 c1)).setIfInBounds 100 (.int .i64 (j : Int))).setIfInBounds 101 (.slice A1 j c1)).setIfInBounds 102 (.agg #[.slice A1 j c1, .int .i64 0, .int .i64 0, .int .i64 0])).setIfInBounds 103 (.agg #[.int .i64 v, .int .u32 (a : Int), .int .u32 (b : Int), .int .u32 (c : Int), .int .u32 (d : Int), .int .u32 (x : Int), .int .u32 (y : Int)])).setIfInBounds 104 (.int .i64 (k : Int))), defers := DF } wv from by
              intro wv  hHeld 
              refine hI.out _ _ _ _ ?_
              obtain ⟨rfl, rfl⟩ := Act.mk.inj hTD.out
              try simp only [Act.put, List.setIfInBounds_toArray, List.set_cons_zero, List.set_cons_succ]
              refine wpAnyH_ready (rs := [6, 10, 11]) (by kernel_rfl) (by simp) ?_
              refine AllReadyH.cons rfl (fun K hK => ?_) (AllReadyH.cons rfl (fun K hK => ?_) (AllReadyH.cons rfl (fun K hK => ?_) (AllReadyH.nil)))
              · go_simp
                refine (D2.out _ (HT.out.below hHeld.2.out) (rj.out.below hHeld.2.out)).mono ?_
                rintro e vv ⟨S13, rfl, oS_, h1'⟩
                have oS := hide (oS_.mono hHeld.2.out.size)
                refine hK.out _ _ (⟨hide (hHeld.1.out.below h1'), hide (bel_next hHeld.2.out h1')⟩) (fun hHeld => ?_)
                clear hK K h1'
                try simp only [Act.put, List.setIfInBounds_toArray, List.set_cons_zero, List.set_cons_succ]
                refine wpAnyH_takeD (i := 7) (d := (some 98)) (v := ?_) rfl rfl (by kernel_rfl) (by kernel_rfl) (by kernel_rfl) (fun _ _ _ h => h) (Or.inl ⟨by rfl, ?_⟩) (by assumption) ?_
                rotate_left
                · ((intro w hSw; go_simp) <;> with_reducible rfl)
                try simp only [Act.put, List.setIfInBounds_toArray, List.set_cons_zero, List.set_cons_succ]
                refine wpAnyH_takeD (i := 8) (d := (some 106)) (v := ?_) rfl rfl (by kernel_rfl) (by kernel_rfl) (by kernel_rfl) (fun _ _ _ h => h) (Or.inl ⟨by rfl, ?_⟩) (by assumption) ?_
                rotate_left
                · ((intro w hSw; go_simp) <;> with_reducible rfl)
                try simp only [Act.put, List.setIfInBounds_toArray, List.set_cons_zero, List.set_cons_succ]
                refine wpAnyH_takeD (i := 9) (d := (some 107)) (v := ?_) rfl rfl (by kernel_rfl) (by kernel_rfl) (by kernel_rfl) (fun _ _ _ h => h) (Or.inl ⟨by rfl, ?_⟩) (by assumption) ?_
                rotate_left
                · ((intro w hSw; go_simp) <;> with_reducible rfl)
                try simp only [Act.put, List.setIfInBounds_toArray, List.set_cons_zero, List.set_cons_succ]
                refine hE.out _ _ _ _ ?_
                have hh := st200.out _ S13 hHeld oS
                try simp only [Act.put, List.setIfInBounds_toArray, List.set_cons_zero, List.set_cons_succ] at hh
                exact hh
              · go_simp
                have lB := hHeld.2.out.size
                have zB := hide (Ro.new wv #[.slice none 0 0, .slice none 0 0, .slice none 0 0, .slice none 0 0, .slice none 0 0, .slice none 0 0, .slice none 0 0] 28)
                refine hK.out _ _ (⟨hide (hHeld.1.out.alloc _), hide (bl_alloc hHeld.2.out _)⟩) (fun hHeld => ?_)
                clear hK K
                try simp only [Act.put, List.setIfInBounds_toArray, List.set_cons_zero, List.set_cons_succ]
                refine hE.out _ _ _ _ ?_
                have hh := st110.out _ wv.heap.size hHeld lB zB
                try simp only [Act.put, List.setIfInBounds_toArray, List.set_cons_zero, List.set_cons_succ] at hh
                exact hh
              · go_simp
                have lC := hHeld.2.out.size
                have zC := hide (Ro.new wv #[.slice none 0 0, .int .i64 0, .int .i64 0, .int .i64 0] 39)
                refine hK.out _ _ (⟨hide (hHeld.1.out.alloc _), hide (bl_alloc hHeld.2.out _)⟩) (fun hHeld => ?_)
                clear hK K
                try simp only [Act.put, List.setIfInBounds_toArray, List.set_cons_zero, List.set_cons_succ]
                refine hE.out _ _ _ _ ?_
                have hh := st101.out _ wv.heap.size hHeld lC zC
                try simp only [Act.put, List.setIfInBounds_toArray, List.set_cons_zero, List.set_cons_succ] at hh
                exact hh)
            have st011 := hide (show ∀ (wv : World) (gB : Nat) (gC : Nat), (Hid (Ro wv (w.heap.size) (#[.int .i64 v, .int .u32 (a : Int), .int .u32 (b : Int), .int .u32 (c : Int), .int .u32 (d : Int), .int .u32 (x : Int), .int .u32 (y : Int)]) 35) ∧ Hid (Below w9.heap.size w9 wv)) → w9.heap.size ≤ gB → Hid (Ro wv gB #[.slice none 0 0, .slice none 0 0, .slice none 0 0, .slice none 0 0, .slice none 0 0, .slice none 0 0, .slice none 0 0] 28) → w9.heap.size ≤ gC → Hid (Ro wv gC #[.slice none 0 0, .int .i64 0, .int .i64 0, .int .i64 0] 39) → gB ≠ gC → FF 7 #[true, true, true, false, true, true, false, false, false, false, true, true, false, false] { tmps := (((((((TM.setIfInBounds 99 (.slice A1 n1 c1)).setIfInBounds 100 (.int .i64 (j : Int))).setIfInBounds 101 (.slice A1 j c1)).setIfInBounds 103 (.agg #[.int .i64 v, .int .u32 (a : Int), .int .u32 (b : Int), .int .u32 (c : Int), .int .u32 (d : Int), .int .u32 (x : Int), .int .u32 (y : Int)])).setIfInBounds 104 (.int .i64 (k : Int))).setIfInBounds 13 (.pointer (some ⟨gB, 0, none⟩))).setIfInBounds 14 (.pointer (some ⟨gC, 0, none⟩))), defers := DF } wv from by
              intro wv gB gC hHeld lB zB lC zC ne
              refine hI.out _ _ _ _ ?_
              obtain ⟨rfl, rfl⟩ := Act.mk.inj hTD.out
              try simp only [Act.put, List.setIfInBounds_toArray, List.set_cons_zero, List.set_cons_succ]
              refine wpAnyH_ready (rs := [3]) (by kernel_rfl) (by simp) ?_
              refine AllReadyH.cons rfl (fun K hK => ?_) (AllReadyH.nil)
              · go_simp
                refine (cu_.New _ _ _ _).mono ?_
                rintro e vv ⟨rfl, h1'⟩
                replace zB := hide (zB.out.below h1')
                replace zC := hide (zC.out.below h1')
                refine hK.out _ _ (⟨hide (hHeld.1.out.below h1'), hide (bel_next hHeld.2.out h1')⟩) (fun hHeld => ?_)
                clear hK K h1'
                try simp only [Act.put, List.setIfInBounds_toArray, List.set_cons_zero, List.set_cons_succ]
                refine hE.out _ _ _ _ ?_
                have hh := st111.out _ gB gC hHeld lB zB lC zC ne
                try simp only [Act.put, List.setIfInBounds_toArray, List.set_cons_zero, List.set_cons_succ] at hh
                exact hh)
            have st010 := hide (show ∀ (wv : World) (gB : Nat), (Hid (Ro wv (w.heap.size) (#[.int .i64 v, .int .u32 (a : Int), .int .u32 (b : Int), .int .u32 (c : Int), .int .u32 (d : Int), .int .u32 (x : Int), .int .u32 (y : Int)]) 35) ∧ Hid (Below w9.heap.size w9 wv)) → w9.heap.size ≤ gB → Hid (Ro wv gB #[.slice none 0 0, .slice none 0 0, .slice none 0 0, .slice none 0 0, .slice none 0 0, .slice none 0 0, .slice none 0 0] 28) → FF 8 #[true, true, true, false, true, true, false, false, false, false, true, false, false, false] { tmps := ((((((TM.setIfInBounds 99 (.slice A1 n1 c1)).setIfInBounds 100 (.int .i64 (j : Int))).setIfInBounds 101 (.slice A1 j c1)).setIfInBounds 103 (.agg #[.int .i64 v, .int .u32 (a : Int), .int .u32 (b : Int), .int .u32 (c : Int), .int .u32 (d : Int), .int .u32 (x : Int), .int .u32 (y : Int)])).setIfInBounds 104 (.int .i64 (k : Int))).setIfInBounds 13 (.pointer (some ⟨gB, 0, none⟩))), defers := DF } wv from by
              intro wv gB hHeld lB zB
              refine hI.out _ _ _ _ ?_
              obtain ⟨rfl, rfl⟩ := Act.mk.inj hTD.out
              try simp only [Act.put, List.setIfInBounds_toArray, List.set_cons_zero, List.set_cons_succ]
              refine wpAnyH_ready (rs := [3, 11]) (by kernel_rfl) (by simp) ?_
              refine AllReadyH.cons rfl (fun K hK => ?_) (AllReadyH.cons rfl (fun K hK => ?_) (AllReadyH.nil))
              · go_simp
                refine (cu_.New _ _ _ _).mono ?_
                rintro e vv ⟨rfl, h1'⟩
                replace zB := hide (zB.out.below h1')
                refine hK.out _ _ (⟨hide (hHeld.1.out.below h1'), hide (bel_next hHeld.2.out h1')⟩) (fun hHeld => ?_)
                clear hK K h1'
                try simp only [Act.put, List.setIfInBounds_toArray, List.set_cons_zero, List.set_cons_succ]
                refine hE.out _ _ _ _ ?_
                have hh := st110.out _ gB hHeld lB zB
                try simp only [Act.put, List.setIfInBounds_toArray, List.set_cons_zero, List.set_cons_succ] at hh
                exact hh
              · go_simp
                have lC := hHeld.2.out.size
                have zC := hide (Ro.new wv #[.slice none 0 0, .int .i64 0, .int .i64 0, .int .i64 0] 39)
                have ne := (show gB ≠ wv.heap.size from fun h => by have := zB.out.lt; omega)
                replace zB := hide (zB.out.alloc (.cells #[.slice none 0 0, .int .i64 0, .int .i64 0, .int .i64 0] 39))
                refine hK.out _ _ (⟨hide (hHeld.1.out.alloc _), hide (bl_alloc hHeld.2.out _)⟩) (fun hHeld => ?_)
                clear hK K
                try simp only [Act.put, List.setIfInBounds_toArray, List.set_cons_zero, List.set_cons_succ]
                refine hE.out _ _ _ _ ?_
                have hh := st011.out _ gB wv.heap.size hHeld lB zB lC zC ne
                try simp only [Act.put, List.setIfInBounds_toArray, List.set_cons_zero, List.set_cons_succ] at hh
                exact hh)
            have st001 := hide (show ∀ (wv : World) (gC : Nat), (Hid (Ro wv (w.heap.size) (#[.int .i64 v, .int .u32 (a : Int), .int .u32 (b : Int), .int .u32 (c : Int), .int .u32 (d : Int), .int .u32 (x : Int), .int .u32 (y : Int)]) 35) ∧ Hid (Below w9.heap.size w9 wv)) → w9.heap.size ≤ gC → Hid (Ro wv gC #[.slice none 0 0, .int .i64 0, .int .i64 0, .int .i64 0] 39) → FF 8 #[true, true, true, false, true, true, false, false, false, false, false, true, false, false] { tmps := ((((((TM.setIfInBounds 99 (.slice A1 n1 c1)).setIfInBounds 100 (.int .i64 (j : Int))).setIfInBounds 101 (.slice A1 j c1)).setIfInBounds 103 (.agg #[.int .i64 v, .int .u32 (a : Int), .int .u32 (b : Int), .int .u32 (c : Int), .int .u32 (d : Int), .int .u32 (x : Int), .int .u32 (y : Int)])).setIfInBounds 104 (.int .i64 (k : Int))).setIfInBounds 14 (.pointer (some ⟨gC, 0, none⟩))), defers := DF } wv from by
              intro wv gC hHeld lC zC
              refine hI.out _ _ _ _ ?_
              obtain ⟨rfl, rfl⟩ := Act.mk.inj hTD.out
              try simp only [Act.put, List.setIfInBounds_toArray, List.set_cons_zero, List.set_cons_succ]
              refine wpAnyH_ready (rs := [3, 10]) (by kernel_rfl) (by simp) ?_
              refine AllReadyH.cons rfl (fun K hK => ?_) (AllReadyH.cons rfl (fun K hK => ?_) (AllReadyH.nil))
              · go_simp
                refine (cu_.New _ _ _ _).mono ?_
                rintro e vv ⟨rfl, h1'⟩
                replace zC := hide (zC.out.below h1')
                refine hK.out _ _ (⟨hide (hHeld.1.out.below h1'), hide (bel_next hHeld.2.out h1')⟩) (fun hHeld => ?_)
                clear hK K h1'
                try simp only [Act.put, List.setIfInBounds_toArray, List.set_cons_zero, List.set_cons_succ]
                refine hE.out _ _ _ _ ?_
                have hh := st101.out _ gC hHeld lC zC
                try simp only [Act.put, List.setIfInBounds_toArray, List.set_cons_zero, List.set_cons_succ] at hh
                exact hh
              · go_simp
                have lB := hHeld.2.out.size
                have zB := hide (Ro.new wv #[.slice none 0 0, .slice none 0 0, .slice none 0 0, .slice none 0 0, .slice none 0 0, .slice none 0 0, .slice none 0 0] 28)
                have ne := (show wv.heap.size ≠ gC from fun h => by have := zC.out.lt; omega)
                replace zC := hide (zC.out.alloc (.cells #[.slice none 0 0, .slice none 0 0, .slice none 0 0, .slice none 0 0, .slice none 0 0, .slice none 0 0, .slice none 0 0] 28))
                refine hK.out _ _ (⟨hide (hHeld.1.out.alloc _), hide (bl_alloc hHeld.2.out _)⟩) (fun hHeld => ?_)
                clear hK K
                try simp only [Act.put, List.setIfInBounds_toArray, List.set_cons_zero, List.set_cons_succ]
                refine hE.out _ _ _ _ ?_
                have hh := st011.out _ wv.heap.size gC hHeld lB zB lC zC ne
                try simp only [Act.put, List.setIfInBounds_toArray, List.set_cons_zero, List.set_cons_succ] at hh
                exact hh)
            have st000 := hide (show ∀ (wv : World), (Hid (Ro wv (w.heap.size) (#[.int .i64 v, .int .u32 (a : Int), .int .u32 (b : Int), .int .u32 (c : Int), .int .u32 (d : Int), .int .u32 (x : Int), .int .u32 (y : Int)]) 35) ∧ Hid (Below w9.heap.size w9 wv)) → FF 9 #[true, true, true, false, true, true, false, false, false, false, false, false, false, false] { tmps := (((((TM.setIfInBounds 99 (.slice A1 n1 c1)).setIfInBounds 100 (.int .i64 (j : Int))).setIfInBounds 101 (.slice A1 j c1)).setIfInBounds 103 (.agg #[.int .i64 v, .int .u32 (a : Int), .int .u32 (b : Int), .int .u32 (c : Int), .int .u32 (d : Int), .int .u32 (x : Int), .int .u32 (y : Int)])).setIfInBounds 104 (.int .i64 (k : Int))), defers := DF } wv from by
              intro wv  hHeld 
              refine hI.out _ _ _ _ ?_
              obtain ⟨rfl, rfl⟩ := Act.mk.inj hTD.out
              try simp only [Act.put, List.setIfInBounds_toArray, List.set_cons_zero, List.set_cons_succ]
              refine wpAnyH_ready (rs := [3, 10, 11]) (by kernel_rfl) (by simp) ?_
              refine AllReadyH.cons rfl (fun K hK => ?_) (AllReadyH.cons rfl (fun K hK => ?_) (AllReadyH.cons rfl (fun K hK => ?_) (AllReadyH.nil)))
              · go_simp
                refine (cu_.New _ _ _ _).mono ?_
                rintro e vv ⟨rfl, h1'⟩
                refine hK.out _ _ (⟨hide (hHeld.1.out.below h1'), hide (bel_next hHeld.2.out h1')⟩) (fun hHeld => ?_)
                clear hK K h1'
                try simp only [Act.put, List.setIfInBounds_toArray, List.set_cons_zero, List.set_cons_succ]
                refine hE.out _ _ _ _ ?_
                have hh := st100.out _  hHeld
                try simp only [Act.put, List.setIfInBounds_toArray, List.set_cons_zero, List.set_cons_succ] at hh
                exact hh
              · go_simp
                have lB := hHeld.2.out.size
                have zB := hide (Ro.new wv #[.slice none 0 0, .slice none 0 0, .slice none 0 0, .slice none 0 0, .slice none 0 0, .slice none 0 0, .slice none 0 0] 28)
                refine hK.out _ _ (⟨hide (hHeld.1.out.alloc _), hide (bl_alloc hHeld.2.out _)⟩) (fun hHeld => ?_)
                clear hK K
                try simp only [Act.put, List.setIfInBounds_toArray, List.set_cons_zero, List.set_cons_succ]
                refine hE.out _ _ _ _ ?_
                have hh := st010.out _ wv.heap.size hHeld lB zB
                try simp only [Act.put, List.setIfInBounds_toArray, List.set_cons_zero, List.set_cons_succ] at hh
                exact hh
              · go_simp
                have lC := hHeld.2.out.size
                have zC := hide (Ro.new wv #[.slice none 0 0, .int .i64 0, .int .i64 0, .int .i64 0] 39)
                refine hK.out _ _ (⟨hide (hHeld.1.out.alloc _), hide (bl_alloc hHeld.2.out _)⟩) (fun hHeld => ?_)
                clear hK K
                try simp only [Act.put, List.setIfInBounds_toArray, List.set_cons_zero, List.set_cons_succ]
                refine hE.out _ _ _ _ ?_
                have hh := st001.out _ wv.heap.size hHeld lC zC
                try simp only [Act.put, List.setIfInBounds_toArray, List.set_cons_zero, List.set_cons_succ] at hh
                exact hh)
            have hh := st000.out _ hHeld
            obtain ⟨rfl, rfl⟩ := Act.mk.inj hTD.out
            try simp only [Act.put, List.setIfInBounds_toArray, List.set_cons_zero, List.set_cons_succ] at hh
            exact hh
          case rest =>
            obtain ⟨gB2, gC2, S13, rfl, rfl, lB2, lC2, ne2, k13, k14, oS, -, -, h1⟩ := hcut
            rename World => wy
            replace hb := hide (bel_next hb.out h1.out)
            clear oS k13 D2 rj h1
            obtain ⟨k14c2, _⟩ := ro_cf k14.out 2 _ rfl
            obtain ⟨k14c3, _⟩ := ro_cf k14.out 3 _ rfl
            go_wp2
            go_ret
            exact ⟨rfl, hb.out⟩
end l19_
end Go.Proofs.YtbajdlgcajeldaaDoor

/-
  THE WALKS OF THE LAWS OF LAYER 19 (zoneinfolaw19): BlockDoesNotAlias. Condition: the table's fact.
-/
import Derived.Test.YtbajdlgcajeldaaDoorLaw19
import Derived.Test.YtbajdlgcajeldaaDoorLaw19w
import Derived.Deep.RegionLaw
import Derived.Deep.RegionWith
namespace Go.Proofs.YtbajdlgcajeldaaDoor
open Go.ChangeShapes Go.WideShapes Go.ChangeAt Go.RowKit
set_option linter.unusedVariables false
set_option linter.unusedSimpArgs false
set_option maxRecDepth 100000
namespace l19_
set_option maxHeartbeats 16000000 in
theorem alias_ (A1 : Option Addr) (n1 c1 : Nat) (z1 : List Int) (v a b c d x y : Int) (wd : Bool) (w : World) (hT : Tq w) (h1 : IsRw .u8 w A1 n1 c1 z1) (hv : (Lit.int .i64 v).wf = true) (ha : (Lit.int .u32 a).wf = true) (hb_ : (Lit.int .u32 b).wf = true) (hc : (Lit.int .u32 c).wf = true) (hd : (Lit.int .u32 d).wf = true) (hx : (Lit.int .u32 x).wf = true) (hy : (Lit.int .u32 y).wf = true) :
    Calls Tryd.prog 6 #[.slice A1 n1 c1, .agg #[.int .i64 v, .int .u32 a, .int .u32 b, .int .u32 c, .int .u32 d, .int .u32 x, .int .u32 y], .bool wd] w fun e w' => e = .returned (.bool true) ∧ Below w.heap.size w w' := by
  have r1 := hide h1.rd
  have B1 := hide (show Bytes (z1.take n1) from bytes_of_mem fun q hq => wf_u8 (h1.wf q hq))
  have nil1 := hide h1.nil
  obtain ⟨oc1, om1⟩ := h1.cap
  obtain ⟨a, rfl⟩ : ∃ m : Nat, a = (m : Int) := ⟨a.toNat, by have := (c32_ ha).1; omega⟩
  obtain ⟨b, rfl⟩ : ∃ m : Nat, b = (m : Int) := ⟨b.toNat, by have := (c32_ hb_).1; omega⟩
  obtain ⟨c, rfl⟩ : ∃ m : Nat, c = (m : Int) := ⟨c.toNat, by have := (c32_ hc).1; omega⟩
  obtain ⟨d, rfl⟩ : ∃ m : Nat, d = (m : Int) := ⟨d.toNat, by have := (c32_ hd).1; omega⟩
  obtain ⟨x, rfl⟩ : ∃ m : Nat, x = (m : Int) := ⟨x.toNat, by have := (c32_ hx).1; omega⟩
  obtain ⟨y, rfl⟩ : ∃ m : Nat, y = (m : Int) := ⟨y.toNat, by have := (c32_ hy).1; omega⟩
  have C0 : C32 (a : Int) ∧ C32 (b : Int) ∧ C32 (c : Int) ∧ C32 (d : Int) ∧ C32 (x : Int) ∧ C32 (y : Int) := ⟨c32_ ha, c32_ hb_, c32_ hc, c32_ hd, c32_ hx, c32_ hy⟩
  clear hv ha hb_ hc hd hx hy h1
  obtain ⟨k, hk, hK⟩ : ∃ k : Nat, (k = 4 ∨ k = 8) ∧ (if wd = true then (8 : Int) else 4) = (k : Int) := by cases wd; exact ⟨4, .inl rfl, rfl⟩; exact ⟨8, .inr rfl, rfl⟩
  have Zs := hide (fun w => (r14_.SizeB wd w).mono (R' := fun e w' => e = .returned (.int .i64 (k : Int)) ∧ Below w.heap.size w w') (by rintro e w' ⟨rfl, h⟩; exact ⟨by rw [hK], h⟩))
  clear hK
  have hL : LyC a b c d x y (k : Int) := ⟨C0.1, C0.2.1, C0.2.2.1, C0.2.2.2.1, C0.2.2.2.2.1, C0.2.2.2.2.2, by omega⟩
  clear C0
  have hln : (z1.take n1).length = n1 := by have := r1.out.len; simpa using this
  have hb := hide (bl_new w (.cells #[.int .i64 v, .int .u32 (a : Int), .int .u32 (b : Int), .int .u32 (c : Int), .int .u32 (d : Int), .int .u32 (x : Int), .int .u32 (y : Int)] 35))
  have k5 := hide (Ro.new w #[.int .i64 v, .int .u32 (a : Int), .int .u32 (b : Int), .int .u32 (c : Int), .int .u32 (d : Int), .int .u32 (x : Int), .int .u32 (y : Int)] 35)
  have HT := hide (hT.below hb.out)
  have HT0 := hide hT
  have r0 := r1
  replace r1 := hide (r1.out.below hb.out)
  clear hT
  go_enter Tryd.func6, Tryd.ntmps6
  go_upto_region 1 with fail
  generalize w.alloc (.cells #[.int .i64 v, .int .u32 (a : Int), .int .u32 (b : Int), .int .u32 (c : Int), .int .u32 (d : Int), .int .u32 (x : Int), .int .u32 (y : Int)] 35) = u1 at *
  go_wp2_with fail
  refine (awake _ HT.out).mono ?_
  rintro e w1 ⟨rfl, h1⟩
  replace k5 := hide (k5.out.below h1)
  replace r1 := hide (r1.out.below h1)
  replace HT := hide (HT.out.below h1)
  replace hb := hide (bel_next hb.out h1)
  clear h1
  by_cases hn : 1000 < n1
  · go_wp2_with fail
    refine (awake _ HT.out).mono ?_
    rintro e w2 ⟨rfl, h1⟩
    replace k5 := hide (k5.out.below h1)
    replace r1 := hide (r1.out.below h1)
    replace HT := hide (HT.out.below h1)
    replace hb := hide (bel_next hb.out h1)
    clear h1
    go_wp2
    go_ret
    exact ⟨rfl, hb.out⟩
  · have hn2 : (n1 : Int) ≤ 1000 := by omega
    go_wp2_with fail
    refine (Zs.out _).mono ?_
    rintro e w3 ⟨rfl, h1⟩
    replace k5 := hide (k5.out.below h1)
    replace r1 := hide (r1.out.below h1)
    replace HT := hide (HT.out.below h1)
    replace hb := hide (bel_next hb.out h1)
    clear h1
    clear Zs
    go_upto_region 5 with (at_builtin; refine ap0 elU8 r1.out (.tmp 27) (.tmp 28) rfl rfl rfl rfl nil1.out (oneCells .u8 (z1.take n1)) (by simp [maxLen]; omega) (by omega) ?_; intro A8 c8 w4 o8 h1)
    have oc8 := o8.cap
    have om8 : c8 ≤ 9223372036854775807 := by have := o8.capMax; simp [maxLen] at this; omega
    have nil8 := hide o8.nilcap
    have r8 := hide o8.rd
    clear o8
    replace k5 := hide (k5.out.below h1)
    replace r1 := hide (r1.out.below h1)
    replace HT := hide (HT.out.below h1)
    replace hb := hide (bel_next hb.out h1)
    clear h1
    obtain ⟨Q, P, E, T, hdq⟩ : ∃ Q P E T, decB k a b c d x y (z1.take n1) 0 0 = (Q, P, E, T) := ⟨_, _, _, _, rfl⟩
    have hgood := decB_good hk a b c d x y B1.out 0 0
    rw [hdq, hln] at hgood
    obtain ⟨hft, hle⟩ := hgood
    dsimp only at hft hle
    have hq : DecAt k a b c d x y (z1.take n1) 0 0 0 0 Q P E T := ⟨fun h => absurd rfl h, fun _ => ⟨rfl, 0, rfl, Nat.zero_le _, hdq⟩⟩
    have D1 := hide (fun w hT hr => bl_.DecodeQ A8 n1 c8 (z1.take n1) v a b c d x y k k 0 0 0 0 Q P E T w hT rfl hk hL nil8.out oc8 om8 hr B1.out (by omega) hq)
    dsimp only [bkV, cu, hdV] at D1
    have D2 := hide (fun w hT hr => bl_.DecodeQ A1 n1 c1 (z1.take n1) v a b c d x y k k 0 0 0 0 Q P E T w hT rfl hk hL nil1.out oc1 om1 hr B1.out (by omega) hq)
    dsimp only [bkV, cu, hdV] at D2
    obtain ⟨N, hN⟩ : ∃ N, N = (encB k Q).length := ⟨_, rfl⟩
    have hNb : N ≤ 200000 := by rw [hN, encB_len k Q hft.len]; unfold totB tot; unfold Bk.le at hle; rcases hk with h | h <;> rw [h] <;> omega
    have E1 := hide (fun S w hT (i : IsBk w S Q) => bl_.Encode S Q k N k w hT rfl hk i (by unfold Bk.le at *; omega) hft hN)
    have EQ := hide (fun S S' w (i : IsBk w S Q) (i' : IsBk w S' Q) => r19_.Equal S S' Q Q w i i')
    rw [beqB_self] at EQ
    have SM := hide (fun w r r' => r1_.Same A8 A1 n1 c8 n1 c1 (z1.take n1) w (by omega) r r')
    have hbe : Q.ok → Bytes (encB k Q) := fun h => encB_bytes k h
    have hes : ∃ es, es = encB k Q := ⟨_, rfl⟩
    obtain ⟨es, hes⟩ := hes
    rw [← hes] at E1 hbe
    have r8s := r8
    have r1s := r1
    have hb4s := hb
    replace hL := hide hL
    replace hk := hide hk
    replace hle := hide hle
    have HN2 := hide hNb
    have HN := hide hn2
    clear hn hq hdq hft hN hln hes hNb
    go_cut [9, 10] (fun s9 s10 wz => ∃ (gB gC : Nat) (S : BkS), s9 = .pointer (some ⟨gB, 0, none⟩) ∧ s10 = .pointer (some ⟨gC, 0, none⟩) ∧ w4.heap.size ≤ gB ∧ w4.heap.size ≤ gC ∧ gB ≠ gC ∧ Hid (Ro wz gB #[.slice S.ti.A S.ti.n S.ti.c, .slice S.ix.A S.ix.n S.ix.c, .slice S.ty.A S.ty.n S.ty.c, .slice S.ch.A S.ch.n S.ch.c, .slice S.lp.A S.lp.n S.lp.c, .slice S.sd.A S.sd.n S.sd.c, .slice S.ut.A S.ut.n S.ut.c] 28) ∧ Hid (Ro wz gC #[.slice A8 n1 c8, .int .i64 P, .int .i64 E, .int .i64 T] 39) ∧ Hid (OwBk wz w4.heap.size S Q) ∧ Hid (NeS S gB) ∧ Hid (NeS S gC) ∧ Hid (Below w4.heap.size w4 wz))
    case first =>
      have lbx0 := (show w.heap.size < w4.heap.size from k5.out.lt)
      refine wp_region_held_drew (S := fun w' => Hid (Ro w' (w.heap.size) (#[.int .i64 v, .int .u32 (a : Int), .int .u32 (b : Int), .int .u32 (c : Int), .int .u32 (d : Int), .int .u32 (x : Int), .int .u32 (y : Int)]) 35) ∧ Hid (Below w4.heap.size w4 w')) (by kernel_rfl) (⟨hide k5.out.drew, hide (bl_drew (bl_refl _))⟩) (fun hHeld => ?_)
      generalize w4.drew = u0 at *
      refine wpAnyH_takeD (i := 0) (d := (some 31)) (v := ?_) rfl rfl (by kernel_rfl) (by kernel_rfl) (by kernel_rfl) (fun _ _ _ h => h) (Or.inl ⟨by rfl, ?_⟩) (by assumption) ?_
      rotate_left
      · ((intro w hSw; go_simp) <;> with_reducible rfl)
      try simp only [Act.put, List.setIfInBounds_toArray, List.set_cons_zero, List.set_cons_succ]
      refine wpAnyH_takeD (i := 2) (d := (some 33)) rfl rfl (by kernel_rfl) (by kernel_rfl) (by kernel_rfl) (fun _ _ _ h => h) (yieldsIf_load_row (by rfl) 35 _ rfl (w.heap.size) rfl 35 #[.int .i64 v, .int .u32 (a : Int), .int .u32 (b : Int), .int .u32 (c : Int), .int .u32 (d : Int), .int .u32 (x : Int), .int .u32 (y : Int)] _ (fun w hw => hw.1.out) Tryd.underlying35 rfl (by kernel_rfl)) (by assumption) ?_
      try simp only [Act.put, List.setIfInBounds_toArray, List.set_cons_zero, List.set_cons_succ]
      refine wpAnyH_takeD (i := 3) (d := (some 34)) (v := ?_) rfl rfl (by kernel_rfl) (by kernel_rfl) (by kernel_rfl) (fun _ _ _ h => h) (Or.inl ⟨by rfl, ?_⟩) (by assumption) ?_
      rotate_left
      · ((intro w hSw; go_simp) <;> with_reducible rfl)
      try simp only [Act.put, List.setIfInBounds_toArray, List.set_cons_zero, List.set_cons_succ]
      refine wpAnyH_share (fun FF hI hE TM DF hTD => ?_)
      have st211 := hide (show ∀ (wv : World) (S : BkS) (gB : Nat) (gC : Nat), (Hid (Ro wv (w.heap.size) (#[.int .i64 v, .int .u32 (a : Int), .int .u32 (b : Int), .int .u32 (c : Int), .int .u32 (d : Int), .int .u32 (x : Int), .int .u32 (y : Int)]) 35) ∧ Hid (Below w4.heap.size w4 wv)) → w4.heap.size ≤ gB → Hid (Ro wv gB #[.slice none 0 0, .slice none 0 0, .slice none 0 0, .slice none 0 0, .slice none 0 0, .slice none 0 0, .slice none 0 0] 28) → w4.heap.size ≤ gC → Hid (Ro wv gC #[.slice none 0 0, .int .i64 0, .int .i64 0, .int .i64 0] 39) → gB ≠ gC → Hid (OwBk wv w4.heap.size S Q) → Hid (NeS S gB) → Hid (NeS S gC) → FF 2 #[true, true, true, true, true, true, true, true, true, true, false, false] { tmps := ((((((((((TM.setIfInBounds 31 (.slice A8 n1 c8)).setIfInBounds 32 (.agg #[.slice A8 n1 c8, .int .i64 0, .int .i64 0, .int .i64 0])).setIfInBounds 33 (.agg #[.int .i64 v, .int .u32 (a : Int), .int .u32 (b : Int), .int .u32 (c : Int), .int .u32 (d : Int), .int .u32 (x : Int), .int .u32 (y : Int)])).setIfInBounds 34 (.int .i64 (k : Int))).setIfInBounds 35 (.tuple #[.agg #[.slice S.ti.A S.ti.n S.ti.c, .slice S.ix.A S.ix.n S.ix.c, .slice S.ty.A S.ty.n S.ty.c, .slice S.ch.A S.ch.n S.ch.c, .slice S.lp.A S.lp.n S.lp.c, .slice S.sd.A S.sd.n S.sd.c, .slice S.ut.A S.ut.n S.ut.c], .agg #[.slice A8 n1 c8, .int .i64 P, .int .i64 E, .int .i64 T]])).setIfInBounds 30 (.tuple #[.agg #[.slice S.ti.A S.ti.n S.ti.c, .slice S.ix.A S.ix.n S.ix.c, .slice S.ty.A S.ty.n S.ty.c, .slice S.ch.A S.ch.n S.ch.c, .slice S.lp.A S.lp.n S.lp.c, .slice S.sd.A S.sd.n S.sd.c, .slice S.ut.A S.ut.n S.ut.c], .agg #[.slice A8 n1 c8, .int .i64 P, .int .i64 E, .int .i64 T]])).setIfInBounds 36 (.agg #[.slice S.ti.A S.ti.n S.ti.c, .slice S.ix.A S.ix.n S.ix.c, .slice S.ty.A S.ty.n S.ty.c, .slice S.ch.A S.ch.n S.ch.c, .slice S.lp.A S.lp.n S.lp.c, .slice S.sd.A S.sd.n S.sd.c, .slice S.ut.A S.ut.n S.ut.c])).setIfInBounds 37 (.agg #[.slice A8 n1 c8, .int .i64 P, .int .i64 E, .int .i64 T])).setIfInBounds 9 (.pointer (some ⟨gB, 0, none⟩))).setIfInBounds 10 (.pointer (some ⟨gC, 0, none⟩))), defers := DF } wv from by
        intro wv S gB gC hHeld lB zB lC zC ne oS nB nC
        refine hI.out _ _ _ _ ?_
        obtain ⟨rfl, rfl⟩ := Act.mk.inj hTD.out
        try simp only [Act.put, List.setIfInBounds_toArray, List.set_cons_zero, List.set_cons_succ]
        refine wpAnyH_ready (rs := [10]) (by kernel_rfl) (by simp) ?_
        refine AllReadyH.cons rfl (fun K hK => ?_) (AllReadyH.nil)
        obtain ⟨y0, w0⟩ := ro_cf zB.out 0 _ rfl; obtain ⟨y1, w1⟩ := ro_cf zB.out 1 _ rfl; obtain ⟨y2, w2⟩ := ro_cf zB.out 2 _ rfl; obtain ⟨y3, w3⟩ := ro_cf zB.out 3 _ rfl; obtain ⟨y4, w4⟩ := ro_cf zB.out 4 _ rfl; obtain ⟨y5, w5⟩ := ro_cf zB.out 5 _ rfl; obtain ⟨y6, w6⟩ := ro_cf zB.out 6 _ rfl
        have su := hHeld.2.out.size
        have lb0 := hHeld.1.out.lt
        go_simp
        refine hK.out _ _ (⟨hide (ro_away7 (g' := gB) (x0 := .slice S.ti.A S.ti.n S.ti.c) (x1 := .slice S.ix.A S.ix.n S.ix.c) (x2 := .slice S.ty.A S.ty.n S.ty.c) (x3 := .slice S.ch.A S.ch.n S.ch.c) (x4 := .slice S.lp.A S.lp.n S.lp.c) (x5 := .slice S.sd.A S.sd.n S.sd.c) (x6 := .slice S.ut.A S.ut.n S.ut.c) hHeld.1.out (by have := lbx0; omega)), hide (bl_setx7 (g := gB) (x0 := .slice S.ti.A S.ti.n S.ti.c) (x1 := .slice S.ix.A S.ix.n S.ix.c) (x2 := .slice S.ty.A S.ty.n S.ty.c) (x3 := .slice S.ch.A S.ch.n S.ch.c) (x4 := .slice S.lp.A S.lp.n S.lp.c) (x5 := .slice S.sd.A S.sd.n S.sd.c) (x6 := .slice S.ut.A S.ut.n S.ut.c) hHeld.2.out lB)⟩) (fun hHeld => ?_)
        clear hK K y0 w0 y1 w1 y2 w2 y3 w3 y4 w4 y5 w5 y6 w6
        replace zB := hide (ro_set7' (x0 := .slice S.ti.A S.ti.n S.ti.c) (x1 := .slice S.ix.A S.ix.n S.ix.c) (x2 := .slice S.ty.A S.ty.n S.ty.c) (x3 := .slice S.ch.A S.ch.n S.ch.c) (x4 := .slice S.lp.A S.lp.n S.lp.c) (x5 := .slice S.sd.A S.sd.n S.sd.c) (x6 := .slice S.ut.A S.ut.n S.ut.c) zB.out)
        replace zC := hide (ro_away7 (g' := gB) (x0 := .slice S.ti.A S.ti.n S.ti.c) (x1 := .slice S.ix.A S.ix.n S.ix.c) (x2 := .slice S.ty.A S.ty.n S.ty.c) (x3 := .slice S.ch.A S.ch.n S.ch.c) (x4 := .slice S.lp.A S.lp.n S.lp.c) (x5 := .slice S.sd.A S.sd.n S.sd.c) (x6 := .slice S.ut.A S.ut.n S.ut.c) zC.out (by omega))
        replace oS := hide (oS.out.away7 nB.out (.slice S.ti.A S.ti.n S.ti.c) (.slice S.ix.A S.ix.n S.ix.c) (.slice S.ty.A S.ty.n S.ty.c) (.slice S.ch.A S.ch.n S.ch.c) (.slice S.lp.A S.lp.n S.lp.c) (.slice S.sd.A S.sd.n S.sd.c) (.slice S.ut.A S.ut.n S.ut.c))
        generalize (((((((wv.setCell ⟨gB, 0, none⟩ (.slice S.ti.A S.ti.n S.ti.c)).setCell ⟨gB, 1, none⟩ (.slice S.ix.A S.ix.n S.ix.c)).setCell ⟨gB, 2, none⟩ (.slice S.ty.A S.ty.n S.ty.c)).setCell ⟨gB, 3, none⟩ (.slice S.ch.A S.ch.n S.ch.c)).setCell ⟨gB, 4, none⟩ (.slice S.lp.A S.lp.n S.lp.c)).setCell ⟨gB, 5, none⟩ (.slice S.sd.A S.sd.n S.sd.c)).setCell ⟨gB, 6, none⟩ (.slice S.ut.A S.ut.n S.ut.c)) = wv1 at *
        try simp only [Act.put, List.setIfInBounds_toArray, List.set_cons_zero, List.set_cons_succ]
        refine wpAnyH_ready (rs := [11]) (by kernel_rfl) (by simp) ?_
        refine AllReadyH.cons rfl (fun K hK => ?_) (AllReadyH.nil)
        obtain ⟨y0, w0⟩ := ro_cf zC.out 0 _ rfl; obtain ⟨y1, w1⟩ := ro_cf zC.out 1 _ rfl; obtain ⟨y2, w2⟩ := ro_cf zC.out 2 _ rfl; obtain ⟨y3, w3⟩ := ro_cf zC.out 3 _ rfl
        have su := hHeld.2.out.size
        have lb0 := hHeld.1.out.lt
        go_simp
        refine hK.out _ _ (⟨hide (ro_away4 (g' := gC) (x0 := .slice A8 n1 c8) (x1 := .int .i64 P) (x2 := .int .i64 E) (x3 := .int .i64 T) hHeld.1.out (by have := lbx0; omega)), hide (bl_setx4 (g := gC) (x0 := .slice A8 n1 c8) (x1 := .int .i64 P) (x2 := .int .i64 E) (x3 := .int .i64 T) hHeld.2.out lC)⟩) (fun hHeld => ?_)
        clear hK K y0 w0 y1 w1 y2 w2 y3 w3
        replace zC := hide (ro_set4' (x0 := .slice A8 n1 c8) (x1 := .int .i64 P) (x2 := .int .i64 E) (x3 := .int .i64 T) zC.out)
        replace zB := hide (ro_away4 (g' := gC) (x0 := .slice A8 n1 c8) (x1 := .int .i64 P) (x2 := .int .i64 E) (x3 := .int .i64 T) zB.out (by omega))
        replace oS := hide (oS.out.away4 nC.out (.slice A8 n1 c8) (.int .i64 P) (.int .i64 E) (.int .i64 T))
        generalize ((((wv1.setCell ⟨gC, 0, none⟩ (.slice A8 n1 c8)).setCell ⟨gC, 1, none⟩ (.int .i64 P)).setCell ⟨gC, 2, none⟩ (.int .i64 E)).setCell ⟨gC, 3, none⟩ (.int .i64 T)) = wv2 at *
        try simp only [Act.put, List.setIfInBounds_toArray, List.set_cons_zero, List.set_cons_succ]
        refine wpAnyH_done (by kernel_rfl) ?_ _
        go_wp2_with fail
        go_meet
        exact ⟨gB, gC, S, rfl, rfl, lB, lC, ne, zB, zC, oS, nB, nC, hHeld.2⟩)
      have st210 := hide (show ∀ (wv : World) (S : BkS) (gB : Nat), (Hid (Ro wv (w.heap.size) (#[.int .i64 v, .int .u32 (a : Int), .int .u32 (b : Int), .int .u32 (c : Int), .int .u32 (d : Int), .int .u32 (x : Int), .int .u32 (y : Int)]) 35) ∧ Hid (Below w4.heap.size w4 wv)) → w4.heap.size ≤ gB → Hid (Ro wv gB #[.slice none 0 0, .slice none 0 0, .slice none 0 0, .slice none 0 0, .slice none 0 0, .slice none 0 0, .slice none 0 0] 28) → Hid (OwBk wv w4.heap.size S Q) → Hid (NeS S gB) → FF 3 #[true, true, true, true, true, true, true, true, true, false, false, false] { tmps := (((((((((TM.setIfInBounds 31 (.slice A8 n1 c8)).setIfInBounds 32 (.agg #[.slice A8 n1 c8, .int .i64 0, .int .i64 0, .int .i64 0])).setIfInBounds 33 (.agg #[.int .i64 v, .int .u32 (a : Int), .int .u32 (b : Int), .int .u32 (c : Int), .int .u32 (d : Int), .int .u32 (x : Int), .int .u32 (y : Int)])).setIfInBounds 34 (.int .i64 (k : Int))).setIfInBounds 35 (.tuple #[.agg #[.slice S.ti.A S.ti.n S.ti.c, .slice S.ix.A S.ix.n S.ix.c, .slice S.ty.A S.ty.n S.ty.c, .slice S.ch.A S.ch.n S.ch.c, .slice S.lp.A S.lp.n S.lp.c, .slice S.sd.A S.sd.n S.sd.c, .slice S.ut.A S.ut.n S.ut.c], .agg #[.slice A8 n1 c8, .int .i64 P, .int .i64 E, .int .i64 T]])).setIfInBounds 30 (.tuple #[.agg #[.slice S.ti.A S.ti.n S.ti.c, .slice S.ix.A S.ix.n S.ix.c, .slice S.ty.A S.ty.n S.ty.c, .slice S.ch.A S.ch.n S.ch.c, .slice S.lp.A S.lp.n S.lp.c, .slice S.sd.A S.sd.n S.sd.c, .slice S.ut.A S.ut.n S.ut.c], .agg #[.slice A8 n1 c8, .int .i64 P, .int .i64 E, .int .i64 T]])).setIfInBounds 36 (.agg #[.slice S.ti.A S.ti.n S.ti.c, .slice S.ix.A S.ix.n S.ix.c, .slice S.ty.A S.ty.n S.ty.c, .slice S.ch.A S.ch.n S.ch.c, .slice S.lp.A S.lp.n S.lp.c, .slice S.sd.A S.sd.n S.sd.c, .slice S.ut.A S.ut.n S.ut.c])).setIfInBounds 37 (.agg #[.slice A8 n1 c8, .int .i64 P, .int .i64 E, .int .i64 T])).setIfInBounds 9 (.pointer (some ⟨gB, 0, none⟩))), defers := DF } wv from by
        intro wv S gB hHeld lB zB oS nB
        refine hI.out _ _ _ _ ?_
        obtain ⟨rfl, rfl⟩ := Act.mk.inj hTD.out
        try simp only [Act.put, List.setIfInBounds_toArray, List.set_cons_zero, List.set_cons_succ]
        refine wpAnyH_ready (rs := [9]) (by kernel_rfl) (by simp) ?_
        refine AllReadyH.cons rfl (fun K hK => ?_) (AllReadyH.nil)
        · go_simp
          have lC := hHeld.2.out.size
          have zC := hide (Ro.new wv #[.slice none 0 0, .int .i64 0, .int .i64 0, .int .i64 0] 39)
          have ne := (show gB ≠ wv.heap.size from fun h => by have := zB.out.lt; omega)
          replace zB := hide (zB.out.alloc (.cells #[.slice none 0 0, .int .i64 0, .int .i64 0, .int .i64 0] 39))
          have nC := hide (oS.out.ne (g := wv.heap.size) (.inr (Nat.le_refl _)))
          replace oS := hide (oS.out.below (bl_new _ (.cells #[.slice none 0 0, .int .i64 0, .int .i64 0, .int .i64 0] 39)))
          refine hK.out _ _ (⟨hide (hHeld.1.out.alloc _), hide (bl_alloc hHeld.2.out _)⟩) (fun hHeld => ?_)
          clear hK K
          try simp only [Act.put, List.setIfInBounds_toArray, List.set_cons_zero, List.set_cons_succ]
          refine hE.out _ _ _ _ ?_
          have hh := st211.out _ S gB wv.heap.size hHeld lB zB lC zC ne oS nB nC
          try simp only [Act.put, List.setIfInBounds_toArray, List.set_cons_zero, List.set_cons_succ] at hh
          exact hh)
      have st201 := hide (show ∀ (wv : World) (S : BkS) (gC : Nat), (Hid (Ro wv (w.heap.size) (#[.int .i64 v, .int .u32 (a : Int), .int .u32 (b : Int), .int .u32 (c : Int), .int .u32 (d : Int), .int .u32 (x : Int), .int .u32 (y : Int)]) 35) ∧ Hid (Below w4.heap.size w4 wv)) → w4.heap.size ≤ gC → Hid (Ro wv gC #[.slice none 0 0, .int .i64 0, .int .i64 0, .int .i64 0] 39) → Hid (OwBk wv w4.heap.size S Q) → Hid (NeS S gC) → FF 3 #[true, true, true, true, true, true, true, true, false, true, false, false] { tmps := (((((((((TM.setIfInBounds 31 (.slice A8 n1 c8)).setIfInBounds 32 (.agg #[.slice A8 n1 c8, .int .i64 0, .int .i64 0, .int .i64 0])).setIfInBounds 33 (.agg #[.int .i64 v, .int .u32 (a : Int), .int .u32 (b : Int), .int .u32 (c : Int), .int .u32 (d : Int), .int .u32 (x : Int), .int .u32 (y : Int)])).setIfInBounds 34 (.int .i64 (k : Int))).setIfInBounds 35 (.tuple #[.agg #[.slice S.ti.A S.ti.n S.ti.c, .slice S.ix.A S.ix.n S.ix.c, .slice S.ty.A S.ty.n S.ty.c, .slice S.ch.A S.ch.n S.ch.c, .slice S.lp.A S.lp.n S.lp.c, .slice S.sd.A S.sd.n S.sd.c, .slice S.ut.A S.ut.n S.ut.c], .agg #[.slice A8 n1 c8, .int .i64 P, .int .i64 E, .int .i64 T]])).setIfInBounds 30 (.tuple #[.agg #[.slice S.ti.A S.ti.n S.ti.c, .slice S.ix.A S.ix.n S.ix.c, .slice S.ty.A S.ty.n S.ty.c, .slice S.ch.A S.ch.n S.ch.c, .slice S.lp.A S.lp.n S.lp.c, .slice S.sd.A S.sd.n S.sd.c, .slice S.ut.A S.ut.n S.ut.c], .agg #[.slice A8 n1 c8, .int .i64 P, .int .i64 E, .int .i64 T]])).setIfInBounds 36 (.agg #[.slice S.ti.A S.ti.n S.ti.c, .slice S.ix.A S.ix.n S.ix.c, .slice S.ty.A S.ty.n S.ty.c, .slice S.ch.A S.ch.n S.ch.c, .slice S.lp.A S.lp.n S.lp.c, .slice S.sd.A S.sd.n S.sd.c, .slice S.ut.A S.ut.n S.ut.c])).setIfInBounds 37 (.agg #[.slice A8 n1 c8, .int .i64 P, .int .i64 E, .int .i64 T])).setIfInBounds 10 (.pointer (some ⟨gC, 0, none⟩))), defers := DF } wv from by
        intro wv S gC hHeld lC zC oS nC
        refine hI.out _ _ _ _ ?_
        obtain ⟨rfl, rfl⟩ := Act.mk.inj hTD.out
        try simp only [Act.put, List.setIfInBounds_toArray, List.set_cons_zero, List.set_cons_succ]
        refine wpAnyH_ready (rs := [8]) (by kernel_rfl) (by simp) ?_
        refine AllReadyH.cons rfl (fun K hK => ?_) (AllReadyH.nil)
        · go_simp
          have lB := hHeld.2.out.size
          have zB := hide (Ro.new wv #[.slice none 0 0, .slice none 0 0, .slice none 0 0, .slice none 0 0, .slice none 0 0, .slice none 0 0, .slice none 0 0] 28)
          have ne := (show wv.heap.size ≠ gC from fun h => by have := zC.out.lt; omega)
          replace zC := hide (zC.out.alloc (.cells #[.slice none 0 0, .slice none 0 0, .slice none 0 0, .slice none 0 0, .slice none 0 0, .slice none 0 0, .slice none 0 0] 28))
          have nB := hide (oS.out.ne (g := wv.heap.size) (.inr (Nat.le_refl _)))
          replace oS := hide (oS.out.below (bl_new _ (.cells #[.slice none 0 0, .slice none 0 0, .slice none 0 0, .slice none 0 0, .slice none 0 0, .slice none 0 0, .slice none 0 0] 28)))
          refine hK.out _ _ (⟨hide (hHeld.1.out.alloc _), hide (bl_alloc hHeld.2.out _)⟩) (fun hHeld => ?_)
          clear hK K
          try simp only [Act.put, List.setIfInBounds_toArray, List.set_cons_zero, List.set_cons_succ]
          refine hE.out _ _ _ _ ?_
          have hh := st211.out _ S wv.heap.size gC hHeld lB zB lC zC ne oS nB nC
          try simp only [Act.put, List.setIfInBounds_toArray, List.set_cons_zero, List.set_cons_succ] at hh
          exact hh)
      have st200 := hide (show ∀ (wv : World) (S : BkS), (Hid (Ro wv (w.heap.size) (#[.int .i64 v, .int .u32 (a : Int), .int .u32 (b : Int), .int .u32 (c : Int), .int .u32 (d : Int), .int .u32 (x : Int), .int .u32 (y : Int)]) 35) ∧ Hid (Below w4.heap.size w4 wv)) → Hid (OwBk wv w4.heap.size S Q) → FF 4 #[true, true, true, true, true, true, true, true, false, false, false, false] { tmps := ((((((((TM.setIfInBounds 31 (.slice A8 n1 c8)).setIfInBounds 32 (.agg #[.slice A8 n1 c8, .int .i64 0, .int .i64 0, .int .i64 0])).setIfInBounds 33 (.agg #[.int .i64 v, .int .u32 (a : Int), .int .u32 (b : Int), .int .u32 (c : Int), .int .u32 (d : Int), .int .u32 (x : Int), .int .u32 (y : Int)])).setIfInBounds 34 (.int .i64 (k : Int))).setIfInBounds 35 (.tuple #[.agg #[.slice S.ti.A S.ti.n S.ti.c, .slice S.ix.A S.ix.n S.ix.c, .slice S.ty.A S.ty.n S.ty.c, .slice S.ch.A S.ch.n S.ch.c, .slice S.lp.A S.lp.n S.lp.c, .slice S.sd.A S.sd.n S.sd.c, .slice S.ut.A S.ut.n S.ut.c], .agg #[.slice A8 n1 c8, .int .i64 P, .int .i64 E, .int .i64 T]])).setIfInBounds 30 (.tuple #[.agg #[.slice S.ti.A S.ti.n S.ti.c, .slice S.ix.A S.ix.n S.ix.c, .slice S.ty.A S.ty.n S.ty.c, .slice S.ch.A S.ch.n S.ch.c, .slice S.lp.A S.lp.n S.lp.c, .slice S.sd.A S.sd.n S.sd.c, .slice S.ut.A S.ut.n S.ut.c], .agg #[.slice A8 n1 c8, .int .i64 P, .int .i64 E, .int .i64 T]])).setIfInBounds 36 (.agg #[.slice S.ti.A S.ti.n S.ti.c, .slice S.ix.A S.ix.n S.ix.c, .slice S.ty.A S.ty.n S.ty.c, .slice S.ch.A S.ch.n S.ch.c, .slice S.lp.A S.lp.n S.lp.c, .slice S.sd.A S.sd.n S.sd.c, .slice S.ut.A S.ut.n S.ut.c])).setIfInBounds 37 (.agg #[.slice A8 n1 c8, .int .i64 P, .int .i64 E, .int .i64 T])), defers := DF } wv from by
        intro wv S hHeld oS
        refine hI.out _ _ _ _ ?_
        obtain ⟨rfl, rfl⟩ := Act.mk.inj hTD.out
        try simp only [Act.put, List.setIfInBounds_toArray, List.set_cons_zero, List.set_cons_succ]
        refine wpAnyH_ready (rs := [8, 9]) (by kernel_rfl) (by simp) ?_
        refine AllReadyH.cons rfl (fun K hK => ?_) (AllReadyH.cons rfl (fun K hK => ?_) (AllReadyH.nil))
        · go_simp
          have lB := hHeld.2.out.size
          have zB := hide (Ro.new wv #[.slice none 0 0, .slice none 0 0, .slice none 0 0, .slice none 0 0, .slice none 0 0, .slice none 0 0, .slice none 0 0] 28)
          have nB := hide (oS.out.ne (g := wv.heap.size) (.inr (Nat.le_refl _)))
          replace oS := hide (oS.out.below (bl_new _ (.cells #[.slice none 0 0, .slice none 0 0, .slice none 0 0, .slice none 0 0, .slice none 0 0, .slice none 0 0, .slice none 0 0] 28)))
          refine hK.out _ _ (⟨hide (hHeld.1.out.alloc _), hide (bl_alloc hHeld.2.out _)⟩) (fun hHeld => ?_)
          clear hK K
          try simp only [Act.put, List.setIfInBounds_toArray, List.set_cons_zero, List.set_cons_succ]
          refine hE.out _ _ _ _ ?_
          have hh := st210.out _ S wv.heap.size hHeld lB zB oS nB
          try simp only [Act.put, List.setIfInBounds_toArray, List.set_cons_zero, List.set_cons_succ] at hh
          exact hh
        · go_simp
          have lC := hHeld.2.out.size
          have zC := hide (Ro.new wv #[.slice none 0 0, .int .i64 0, .int .i64 0, .int .i64 0] 39)
          have nC := hide (oS.out.ne (g := wv.heap.size) (.inr (Nat.le_refl _)))
          replace oS := hide (oS.out.below (bl_new _ (.cells #[.slice none 0 0, .int .i64 0, .int .i64 0, .int .i64 0] 39)))
          refine hK.out _ _ (⟨hide (hHeld.1.out.alloc _), hide (bl_alloc hHeld.2.out _)⟩) (fun hHeld => ?_)
          clear hK K
          try simp only [Act.put, List.setIfInBounds_toArray, List.set_cons_zero, List.set_cons_succ]
          refine hE.out _ _ _ _ ?_
          have hh := st201.out _ S wv.heap.size hHeld lC zC oS nC
          try simp only [Act.put, List.setIfInBounds_toArray, List.set_cons_zero, List.set_cons_succ] at hh
          exact hh)
      have st111 := hide (show ∀ (wv : World) (gB : Nat) (gC : Nat), (Hid (Ro wv (w.heap.size) (#[.int .i64 v, .int .u32 (a : Int), .int .u32 (b : Int), .int .u32 (c : Int), .int .u32 (d : Int), .int .u32 (x : Int), .int .u32 (y : Int)]) 35) ∧ Hid (Below w4.heap.size w4 wv)) → w4.heap.size ≤ gB → Hid (Ro wv gB #[.slice none 0 0, .slice none 0 0, .slice none 0 0, .slice none 0 0, .slice none 0 0, .slice none 0 0, .slice none 0 0] 28) → w4.heap.size ≤ gC → Hid (Ro wv gC #[.slice none 0 0, .int .i64 0, .int .i64 0, .int .i64 0] 39) → gB ≠ gC → FF 6 #[true, true, true, true, false, false, false, false, true, true, false, false] { tmps := ((((((TM.setIfInBounds 31 (.slice A8 n1 c8)).setIfInBounds 32 (.agg #[.slice A8 n1 c8, .int .i64 0, .int .i64 0, .int .i64 0])).setIfInBounds 33 (.agg #[.int .i64 v, .int .u32 (a : Int), .int .u32 (b : Int), .int .u32 (c : Int), .int .u32 (d : Int), .int .u32 (x : Int), .int .u32 (y : Int)])).setIfInBounds 34 (.int .i64 (k : Int))).setIfInBounds 9 (.pointer (some ⟨gB, 0, none⟩))).setIfInBounds 10 (.pointer (some ⟨gC, 0, none⟩))), defers := DF } wv from by
        intro wv gB gC hHeld lB zB lC zC ne
        refine hI.out _ _ _ _ ?_
        obtain ⟨rfl, rfl⟩ := Act.mk.inj hTD.out
        try simp only [Act.put, List.setIfInBounds_toArray, List.set_cons_zero, List.set_cons_succ]
        refine wpAnyH_ready (rs := [4]) (by kernel_rfl) (by simp) ?_
        refine AllReadyH.cons rfl (fun K hK => ?_) (AllReadyH.nil)
        · go_simp
          refine (D1.out _ (HT.out.below hHeld.2.out) (r8.out.below hHeld.2.out)).mono ?_
          rintro e vv ⟨S, rfl, oS_, h1'⟩
          have nB := hide (oS_.ne (.inl zB.out.lt))
          have nC := hide (oS_.ne (.inl zC.out.lt))
          have oS := hide (oS_.mono hHeld.2.out.size)
          replace zB := hide (zB.out.below h1')
          replace zC := hide (zC.out.below h1')
          refine hK.out _ _ (⟨hide (hHeld.1.out.below h1'), hide (bel_next hHeld.2.out h1')⟩) (fun hHeld => ?_)
          clear hK K h1'
          try simp only [Act.put, List.setIfInBounds_toArray, List.set_cons_zero, List.set_cons_succ]
          refine wpAnyH_takeD (i := 5) (d := (some 30)) (v := ?_) rfl rfl (by kernel_rfl) (by kernel_rfl) (by kernel_rfl) (fun _ _ _ h => h) (Or.inl ⟨by rfl, ?_⟩) (by assumption) ?_
          rotate_left
          · ((intro w hSw; go_simp) <;> with_reducible rfl)
          try simp only [Act.put, List.setIfInBounds_toArray, List.set_cons_zero, List.set_cons_succ]
          refine wpAnyH_takeD (i := 6) (d := (some 36)) (v := ?_) rfl rfl (by kernel_rfl) (by kernel_rfl) (by kernel_rfl) (fun _ _ _ h => h) (Or.inl ⟨by rfl, ?_⟩) (by assumption) ?_
          rotate_left
          · ((intro w hSw; go_simp) <;> with_reducible rfl)
          try simp only [Act.put, List.setIfInBounds_toArray, List.set_cons_zero, List.set_cons_succ]
          refine wpAnyH_takeD (i := 7) (d := (some 37)) (v := ?_) rfl rfl (by kernel_rfl) (by kernel_rfl) (by kernel_rfl) (fun _ _ _ h => h) (Or.inl ⟨by rfl, ?_⟩) (by assumption) ?_
          rotate_left
          · ((intro w hSw; go_simp) <;> with_reducible rfl)
          try simp only [Act.put, List.setIfInBounds_toArray, List.set_cons_zero, List.set_cons_succ]
          refine hE.out _ _ _ _ ?_
          have hh := st211.out _ S gB gC hHeld lB zB lC zC ne oS nB nC
          try simp only [Act.put, List.setIfInBounds_toArray, List.set_cons_zero, List.set_cons_succ] at hh
          exact hh)
      have st110 := hide (show ∀ (wv : World) (gB : Nat), (Hid (Ro wv (w.heap.size) (#[.int .i64 v, .int .u32 (a : Int), .int .u32 (b : Int), .int .u32 (c : Int), .int .u32 (d : Int), .int .u32 (x : Int), .int .u32 (y : Int)]) 35) ∧ Hid (Below w4.heap.size w4 wv)) → w4.heap.size ≤ gB → Hid (Ro wv gB #[.slice none 0 0, .slice none 0 0, .slice none 0 0, .slice none 0 0, .slice none 0 0, .slice none 0 0, .slice none 0 0] 28) → FF 7 #[true, true, true, true, false, false, false, false, true, false, false, false] { tmps := (((((TM.setIfInBounds 31 (.slice A8 n1 c8)).setIfInBounds 32 (.agg #[.slice A8 n1 c8, .int .i64 0, .int .i64 0, .int .i64 0])).setIfInBounds 33 (.agg #[.int .i64 v, .int .u32 (a : Int), .int .u32 (b : Int), .int .u32 (c : Int), .int .u32 (d : Int), .int .u32 (x : Int), .int .u32 (y : Int)])).setIfInBounds 34 (.int .i64 (k : Int))).setIfInBounds 9 (.pointer (some ⟨gB, 0, none⟩))), defers := DF } wv from by
        intro wv gB hHeld lB zB
        refine hI.out _ _ _ _ ?_
        obtain ⟨rfl, rfl⟩ := Act.mk.inj hTD.out
        try simp only [Act.put, List.setIfInBounds_toArray, List.set_cons_zero, List.set_cons_succ]
        refine wpAnyH_ready (rs := [4, 9]) (by kernel_rfl) (by simp) ?_
        refine AllReadyH.cons rfl (fun K hK => ?_) (AllReadyH.cons rfl (fun K hK => ?_) (AllReadyH.nil))
        · go_simp
          refine (D1.out _ (HT.out.below hHeld.2.out) (r8.out.below hHeld.2.out)).mono ?_
          rintro e vv ⟨S, rfl, oS_, h1'⟩
          have nB := hide (oS_.ne (.inl zB.out.lt))
          have oS := hide (oS_.mono hHeld.2.out.size)
          replace zB := hide (zB.out.below h1')
          refine hK.out _ _ (⟨hide (hHeld.1.out.below h1'), hide (bel_next hHeld.2.out h1')⟩) (fun hHeld => ?_)
          clear hK K h1'
          try simp only [Act.put, List.setIfInBounds_toArray, List.set_cons_zero, List.set_cons_succ]
          refine wpAnyH_takeD (i := 5) (d := (some 30)) (v := ?_) rfl rfl (by kernel_rfl) (by kernel_rfl) (by kernel_rfl) (fun _ _ _ h => h) (Or.inl ⟨by rfl, ?_⟩) (by assumption) ?_
          rotate_left
          · ((intro w hSw; go_simp) <;> with_reducible rfl)
          try simp only [Act.put, List.setIfInBounds_toArray, List.set_cons_zero, List.set_cons_succ]
          refine wpAnyH_takeD (i := 6) (d := (some 36)) (v := ?_) rfl rfl (by kernel_rfl) (by kernel_rfl) (by kernel_rfl) (fun _ _ _ h => h) (Or.inl ⟨by rfl, ?_⟩) (by assumption) ?_
          rotate_left
          · ((intro w hSw; go_simp) <;> with_reducible rfl)
          try simp only [Act.put, List.setIfInBounds_toArray, List.set_cons_zero, List.set_cons_succ]
          refine wpAnyH_takeD (i := 7) (d := (some 37)) (v := ?_) rfl rfl (by kernel_rfl) (by kernel_rfl) (by kernel_rfl) (fun _ _ _ h => h) (Or.inl ⟨by rfl, ?_⟩) (by assumption) ?_
          rotate_left
          · ((intro w hSw; go_simp) <;> with_reducible rfl)
          try simp only [Act.put, List.setIfInBounds_toArray, List.set_cons_zero, List.set_cons_succ]
          refine hE.out _ _ _ _ ?_
          have hh := st210.out _ S gB hHeld lB zB oS nB
          try simp only [Act.put, List.setIfInBounds_toArray, List.set_cons_zero, List.set_cons_succ] at hh
          exact hh
        · go_simp
          have lC := hHeld.2.out.size
          have zC := hide (Ro.new wv #[.slice none 0 0, .int .i64 0, .int .i64 0, .int .i64 0] 39)
          have ne := (show gB ≠ wv.heap.size from fun h => by have := zB.out.lt; omega)
          replace zB := hide (zB.out.alloc (.cells #[.slice none 0 0, .int .i64 0, .int .i64 0, .int .i64 0] 39))
          refine hK.out _ _ (⟨hide (hHeld.1.out.alloc _), hide (bl_alloc hHeld.2.out _)⟩) (fun hHeld => ?_)
          clear hK K
          try simp only [Act.put, List.setIfInBounds_toArray, List.set_cons_zero, List.set_cons_succ]
          refine hE.out _ _ _ _ ?_
          have hh := st111.out _ gB wv.heap.size hHeld lB zB lC zC ne
          try simp only [Act.put, List.setIfInBounds_toArray, List.set_cons_zero, List.set_cons_succ] at hh
          exact hh)
      have st101 := hide (show ∀ (wv : World) (gC : Nat), (Hid (Ro wv (w.heap.size) (#[.int .i64 v, .int .u32 (a : Int), .int .u32 (b : Int), .int .u32 (c : Int), .int .u32 (d : Int), .int .u32 (x : Int), .int .u32 (y : Int)]) 35) ∧ Hid (Below w4.heap.size w4 wv)) → w4.heap.size ≤ gC → Hid (Ro wv gC #[.slice none 0 0, .int .i64 0, .int .i64 0, .int .i64 0] 39) → FF 7 #[true, true, true, true, false, false, false, false, false, true, false, false] { tmps := (((((TM.setIfInBounds 31 (.slice A8 n1 c8)).setIfInBounds 32 (.agg #[.slice A8 n1 c8, .int .i64 0, .int .i64 0, .int .i64 0])).setIfInBounds 33 (.agg #[.int .i64 v, .int .u32 (a : Int), .int .u32 (b : Int), .int .u32 (c : Int), .int .u32 (d : Int), .int .u32 (x : Int), .int .u32 (y : Int)])).setIfInBounds 34 (.int .i64 (k : Int))).setIfInBounds 10 (.pointer (some ⟨gC, 0, none⟩))), defers := DF } wv from by
        intro wv gC hHeld lC zC
        refine hI.out _ _ _ _ ?_
        obtain ⟨rfl, rfl⟩ := Act.mk.inj hTD.out
        try simp only [Act.put, List.setIfInBounds_toArray, List.set_cons_zero, List.set_cons_succ]
        refine wpAnyH_ready (rs := [4, 8]) (by kernel_rfl) (by simp) ?_
        refine AllReadyH.cons rfl (fun K hK => ?_) (AllReadyH.cons rfl (fun K hK => ?_) (AllReadyH.nil))
        · go_simp
          refine (D1.out _ (HT.out.below hHeld.2.out) (r8.out.below hHeld.2.out)).mono ?_
          rintro e vv ⟨S, rfl, oS_, h1'⟩
          have nC := hide (oS_.ne (.inl zC.out.lt))
          have oS := hide (oS_.mono hHeld.2.out.size)
          replace zC := hide (zC.out.below h1')
          refine hK.out _ _ (⟨hide (hHeld.1.out.below h1'), hide (bel_next hHeld.2.out h1')⟩) (fun hHeld => ?_)
          clear hK K h1'
          try simp only [Act.put, List.setIfInBounds_toArray, List.set_cons_zero, List.set_cons_succ]
          refine wpAnyH_takeD (i := 5) (d := (some 30)) (v := ?_) rfl rfl (by kernel_rfl) (by kernel_rfl) (by kernel_rfl) (fun _ _ _ h => h) (Or.inl ⟨by rfl, ?_⟩) (by assumption) ?_
          rotate_left
          · ((intro w hSw; go_simp) <;> with_reducible rfl)
          try simp only [Act.put, List.setIfInBounds_toArray, List.set_cons_zero, List.set_cons_succ]
          refine wpAnyH_takeD (i := 6) (d := (some 36)) (v := ?_) rfl rfl (by kernel_rfl) (by kernel_rfl) (by kernel_rfl) (fun _ _ _ h => h) (Or.inl ⟨by rfl, ?_⟩) (by assumption) ?_
          rotate_left
          · ((intro w hSw; go_simp) <;> with_reducible rfl)
          try simp only [Act.put, List.setIfInBounds_toArray, List.set_cons_zero, List.set_cons_succ]
          refine wpAnyH_takeD (i := 7) (d := (some 37)) (v := ?_) rfl rfl (by kernel_rfl) (by kernel_rfl) (by kernel_rfl) (fun _ _ _ h => h) (Or.inl ⟨by rfl, ?_⟩) (by assumption) ?_
          rotate_left
          · ((intro w hSw; go_simp) <;> with_reducible rfl)
          try simp only [Act.put, List.setIfInBounds_toArray, List.set_cons_zero, List.set_cons_succ]
          refine hE.out _ _ _ _ ?_
          have hh := st201.out _ S gC hHeld lC zC oS nC
          try simp only [Act.put, List.setIfInBounds_toArray, List.set_cons_zero, List.set_cons_succ] at hh
          exact hh
        · go_simp
          have lB := hHeld.2.out.size
          have zB := hide (Ro.new wv #[.slice none 0 0, .slice none 0 0, .slice none 0 0, .slice none 0 0, .slice none 0 0, .slice none 0 0, .slice none 0 0] 28)
          have ne := (show wv.heap.size ≠ gC from fun h => by have := zC.out.lt; omega)
          replace zC := hide (zC.out.alloc (.cells #[.slice none 0 0, .slice none 0 0, .slice none 0 0, .slice none 0 0, .slice none 0 0, .slice none 0 0, .slice none 0 0] 28))
          refine hK.out _ _ (⟨hide (hHeld.1.out.alloc _), hide (bl_alloc hHeld.2.out _)⟩) (fun hHeld => ?_)
          clear hK K
          try simp only [Act.put, List.setIfInBounds_toArray, List.set_cons_zero, List.set_cons_succ]
          refine hE.out _ _ _ _ ?_
          have hh := st111.out _ wv.heap.size gC hHeld lB zB lC zC ne
          try simp only [Act.put, List.setIfInBounds_toArray, List.set_cons_zero, List.set_cons_succ] at hh
          exact hh)
      have st100 := hide (show ∀ (wv : World), (Hid (Ro wv (w.heap.size) (#[.int .i64 v, .int .u32 (a : Int), .int .u32 (b : Int), .int .u32 (c : Int), .int .u32 (d : Int), .int .u32 (x : Int), .int .u32 (y : Int)]) 35) ∧ Hid (Below w4.heap.size w4 wv)) → FF 8 #[true, true, true, true, false, false, false, false, false, false, false, false] { tmps := ((((TM.setIfInBounds 31 (.slice A8 n1 c8)).setIfInBounds 32 (.agg #[.slice A8 n1 c8, .int .i64 0, .int .i64 0, .int .i64 0])).setIfInBounds 33 (.agg #[.int .i64 v, .int .u32 (a : Int), .int .u32 (b : Int), .int .u32 (c : Int), .int .u32 (d : Int), .int .u32 (x : Int), .int .u32 (y : Int)])).setIfInBounds 34 (.int .i64 (k : Int))), defers := DF } wv from by
        intro wv  hHeld 
        refine hI.out _ _ _ _ ?_
        obtain ⟨rfl, rfl⟩ := Act.mk.inj hTD.out
        try simp only [Act.put, List.setIfInBounds_toArray, List.set_cons_zero, List.set_cons_succ]
        refine wpAnyH_ready (rs := [4, 8, 9]) (by kernel_rfl) (by simp) ?_
        refine AllReadyH.cons rfl (fun K hK => ?_) (AllReadyH.cons rfl (fun K hK => ?_) (AllReadyH.cons rfl (fun K hK => ?_) (AllReadyH.nil)))
        · go_simp
          refine (D1.out _ (HT.out.below hHeld.2.out) (r8.out.below hHeld.2.out)).mono ?_
          rintro e vv ⟨S, rfl, oS_, h1'⟩
          have oS := hide (oS_.mono hHeld.2.out.size)
          refine hK.out _ _ (⟨hide (hHeld.1.out.below h1'), hide (bel_next hHeld.2.out h1')⟩) (fun hHeld => ?_)
          clear hK K h1'
          try simp only [Act.put, List.setIfInBounds_toArray, List.set_cons_zero, List.set_cons_succ]
          refine wpAnyH_takeD (i := 5) (d := (some 30)) (v := ?_) rfl rfl (by kernel_rfl) (by kernel_rfl) (by kernel_rfl) (fun _ _ _ h => h) (Or.inl ⟨by rfl, ?_⟩) (by assumption) ?_
          rotate_left
          · ((intro w hSw; go_simp) <;> with_reducible rfl)
          try simp only [Act.put, List.setIfInBounds_toArray, List.set_cons_zero, List.set_cons_succ]
          refine wpAnyH_takeD (i := 6) (d := (some 36)) (v := ?_) rfl rfl (by kernel_rfl) (by kernel_rfl) (by kernel_rfl) (fun _ _ _ h => h) (Or.inl ⟨by rfl, ?_⟩) (by assumption) ?_
          rotate_left
          · ((intro w hSw; go_simp) <;> with_reducible rfl)
          try simp only [Act.put, List.setIfInBounds_toArray, List.set_cons_zero, List.set_cons_succ]
          refine wpAnyH_takeD (i := 7) (d := (some 37)) (v := ?_) rfl rfl (by kernel_rfl) (by kernel_rfl) (by kernel_rfl) (fun _ _ _ h => h) (Or.inl ⟨by rfl, ?_⟩) (by assumption) ?_
          rotate_left
          · ((intro w hSw; go_simp) <;> with_reducible rfl)
          try simp only [Act.put, List.setIfInBounds_toArray, List.set_cons_zero, List.set_cons_succ]
          refine hE.out _ _ _ _ ?_
          have hh := st200.out _ S hHeld oS
          try simp only [Act.put, List.setIfInBounds_toArray, List.set_cons_zero, List.set_cons_succ] at hh
          exact hh
        · go_simp
          have lB := hHeld.2.out.size
          have zB := hide (Ro.new wv #[.slice none 0 0, .slice none 0 0, .slice none 0 0, .slice none 0 0, .slice none 0 0, .slice none 0 0, .slice none 0 0] 28)
          refine hK.out _ _ (⟨hide (hHeld.1.out.alloc _), hide (bl_alloc hHeld.2.out _)⟩) (fun hHeld => ?_)
          clear hK K
          try simp only [Act.put, List.setIfInBounds_toArray, List.set_cons_zero, List.set_cons_succ]
          refine hE.out _ _ _ _ ?_
          have hh := st110.out _ wv.heap.size hHeld lB zB
          try simp only [Act.put, List.setIfInBounds_toArray, List.set_cons_zero, List.set_cons_succ] at hh
          exact hh
        · go_simp
          have lC := hHeld.2.out.size
          have zC := hide (Ro.new wv #[.slice none 0 0, .int .i64 0, .int .i64 0, .int .i64 0] 39)
          refine hK.out _ _ (⟨hide (hHeld.1.out.alloc _), hide (bl_alloc hHeld.2.out _)⟩) (fun hHeld => ?_)
          clear hK K
          try simp only [Act.put, List.setIfInBounds_toArray, List.set_cons_zero, List.set_cons_succ]
          refine hE.out _ _ _ _ ?_
          have hh := st101.out _ wv.heap.size hHeld lC zC
          try simp only [Act.put, List.setIfInBounds_toArray, List.set_cons_zero, List.set_cons_succ] at hh
          exact hh)
      have st011 := hide (show ∀ (wv : World) (gB : Nat) (gC : Nat), (Hid (Ro wv (w.heap.size) (#[.int .i64 v, .int .u32 (a : Int), .int .u32 (b : Int), .int .u32 (c : Int), .int .u32 (d : Int), .int .u32 (x : Int), .int .u32 (y : Int)]) 35) ∧ Hid (Below w4.heap.size w4 wv)) → w4.heap.size ≤ gB → Hid (Ro wv gB #[.slice none 0 0, .slice none 0 0, .slice none 0 0, .slice none 0 0, .slice none 0 0, .slice none 0 0, .slice none 0 0] 28) → w4.heap.size ≤ gC → Hid (Ro wv gC #[.slice none 0 0, .int .i64 0, .int .i64 0, .int .i64 0] 39) → gB ≠ gC → FF 7 #[true, false, true, true, false, false, false, false, true, true, false, false] { tmps := (((((TM.setIfInBounds 31 (.slice A8 n1 c8)).setIfInBounds 33 (.agg #[.int .i64 v, .int .u32 (a : Int), .int .u32 (b : Int), .int .u32 (c : Int), .int .u32 (d : Int), .int .u32 (x : Int), .int .u32 (y : Int)])).setIfInBounds 34 (.int .i64 (k : Int))).setIfInBounds 9 (.pointer (some ⟨gB, 0, none⟩))).setIfInBounds 10 (.pointer (some ⟨gC, 0, none⟩))), defers := DF } wv from by
        intro wv gB gC hHeld lB zB lC zC ne
        refine hI.out _ _ _ _ ?_
        obtain ⟨rfl, rfl⟩ := Act.mk.inj hTD.out
        try simp only [Act.put, List.setIfInBounds_toArray, List.set_cons_zero, List.set_cons_succ]
        refine wpAnyH_ready (rs := [1]) (by kernel_rfl) (by simp) ?_
        refine AllReadyH.cons rfl (fun K hK => ?_) (AllReadyH.nil)
        · go_simp
          refine (cu_.New _ _ _ _).mono ?_
          rintro e vv ⟨rfl, h1'⟩
          replace zB := hide (zB.out.below h1')
          replace zC := hide (zC.out.below h1')
          refine hK.out _ _ (⟨hide (hHeld.1.out.below h1'), hide (bel_next hHeld.2.out h1')⟩) (fun hHeld => ?_)
          clear hK K h1'
          try simp only [Act.put, List.setIfInBounds_toArray, List.set_cons_zero, List.set_cons_succ]
          refine hE.out _ _ _ _ ?_
          have hh := st111.out _ gB gC hHeld lB zB lC zC ne
          try simp only [Act.put, List.setIfInBounds_toArray, List.set_cons_zero, List.set_cons_succ] at hh
          exact hh)
      have st010 := hide (show ∀ (wv : World) (gB : Nat), (Hid (Ro wv (w.heap.size) (#[.int .i64 v, .int .u32 (a : Int), .int .u32 (b : Int), .int .u32 (c : Int), .int .u32 (d : Int), .int .u32 (x : Int), .int .u32 (y : Int)]) 35) ∧ Hid (Below w4.heap.size w4 wv)) → w4.heap.size ≤ gB → Hid (Ro wv gB #[.slice none 0 0, .slice none 0 0, .slice none 0 0, .slice none 0 0, .slice none 0 0, .slice none 0 0, .slice none 0 0] 28) → FF 8 #[true, false, true, true, false, false, false, false, true, false, false, false] { tmps := ((((TM.setIfInBounds 31 (.slice A8 n1 c8)).setIfInBounds 33 (.agg #[.int .i64 v, .int .u32 (a : Int), .int .u32 (b : Int), .int .u32 (c : Int), .int .u32 (d : Int), .int .u32 (x : Int), .int .u32 (y : Int)])).setIfInBounds 34 (.int .i64 (k : Int))).setIfInBounds 9 (.pointer (some ⟨gB, 0, none⟩))), defers := DF } wv from by
        intro wv gB hHeld lB zB
        refine hI.out _ _ _ _ ?_
        obtain ⟨rfl, rfl⟩ := Act.mk.inj hTD.out
        try simp only [Act.put, List.setIfInBounds_toArray, List.set_cons_zero, List.set_cons_succ]
        refine wpAnyH_ready (rs := [1, 9]) (by kernel_rfl) (by simp) ?_
        refine AllReadyH.cons rfl (fun K hK => ?_) (AllReadyH.cons rfl (fun K hK => ?_) (AllReadyH.nil))
        · go_simp
          refine (cu_.New _ _ _ _).mono ?_
          rintro e vv ⟨rfl, h1'⟩
          replace zB := hide (zB.out.below h1')
          refine hK.out _ _ (⟨hide (hHeld.1.out.below h1'), hide (bel_next hHeld.2.out h1')⟩) (fun hHeld => ?_)
          clear hK K h1'
          try simp only [Act.put, List.setIfInBounds_toArray, List.set_cons_zero, List.set_cons_succ]
          refine hE.out _ _ _ _ ?_
          have hh := st110.out _ gB hHeld lB zB
          try simp only [Act.put, List.setIfInBounds_toArray, List.set_cons_zero, List.set_cons_succ] at hh
          exact hh
        · go_simp
          have lC := hHeld.2.out.size
          have zC := hide (Ro.new wv #[.slice none 0 0, .int .i64 0, .int .i64 0, .int .i64 0] 39)
          have ne := (show gB ≠ wv.heap.size from fun h => by have := zB.out.lt; omega)
          replace zB := hide (zB.out.alloc (.cells #[.slice none 0 0, .int .i64 0, .int .i64 0, .int .i64 0] 39))
          refine hK.out _ _ (⟨hide (hHeld.1.out.alloc _), hide (bl_alloc hHeld.2.out _)⟩) (fun hHeld => ?_)
          clear hK K
          try simp only [Act.put, List.setIfInBounds_toArray, List.set_cons_zero, List.set_cons_succ]
          refine hE.out _ _ _ _ ?_
          have hh := st011.out _ gB wv.heap.size hHeld lB zB lC zC ne
          try simp only [Act.put, List.setIfInBounds_toArray, List.set_cons_zero, List.set_cons_succ] at hh
          exact hh)
      have st001 := hide (show ∀ (wv : World) (gC : Nat), (Hid (Ro wv (w.heap.size) (#[.int .i64 v, .int .u32 (a : Int), .int .u32 (b : Int), .int .u32 (c : Int), .int .u32 (d : Int), .int .u32 (x : Int), .int .u32 (y : Int)]) 35) ∧ Hid (Below w4.heap.size w4 wv)) → w4.heap.size ≤ gC → Hid (Ro wv gC #[.slice none 0 0, .int .i64 0, .int .i64 0, .int .i64 0] 39) → FF 8 #[true, false, true, true, false, false, false, false, false, true, false, false] { tmps := ((((TM.setIfInBounds 31 (.slice A8 n1 c8)).setIfInBounds 33 (.agg #[.int .i64 v, .int .u32 (a : Int), .int .u32 (b : Int), .int .u32 (c : Int), .int .u32 (d : Int), .int .u32 (x : Int), .int .u32 (y : Int)])).setIfInBounds 34 (.int .i64 (k : Int))).setIfInBounds 10 (.pointer (some ⟨gC, 0, none⟩))), defers := DF } wv from by
        intro wv gC hHeld lC zC
        refine hI.out _ _ _ _ ?_
        obtain ⟨rfl, rfl⟩ := Act.mk.inj hTD.out
        try simp only [Act.put, List.setIfInBounds_toArray, List.set_cons_zero, List.set_cons_succ]
        refine wpAnyH_ready (rs := [1, 8]) (by kernel_rfl) (by simp) ?_
        refine AllReadyH.cons rfl (fun K hK => ?_) (AllReadyH.cons rfl (fun K hK => ?_) (AllReadyH.nil))
        · go_simp
          refine (cu_.New _ _ _ _).mono ?_
          rintro e vv ⟨rfl, h1'⟩
          replace zC := hide (zC.out.below h1')
          refine hK.out _ _ (⟨hide (hHeld.1.out.below h1'), hide (bel_next hHeld.2.out h1')⟩) (fun hHeld => ?_)
          clear hK K h1'
          try simp only [Act.put, List.setIfInBounds_toArray, List.set_cons_zero, List.set_cons_succ]
          refine hE.out _ _ _ _ ?_
          have hh := st101.out _ gC hHeld lC zC
          try simp only [Act.put, List.setIfInBounds_toArray, List.set_cons_zero, List.set_cons_succ] at hh
          exact hh
        · go_simp
          have lB := hHeld.2.out.size
          have zB := hide (Ro.new wv #[.slice none 0 0, .slice none 0 0, .slice none 0 0, .slice none 0 0, .slice none 0 0, .slice none 0 0, .slice none 0 0] 28)
          have ne := (show wv.heap.size ≠ gC from fun h => by have := zC.out.lt; omega)
          replace zC := hide (zC.out.alloc (.cells #[.slice none 0 0, .slice none 0 0, .slice none 0 0, .slice none 0 0, .slice none 0 0, .slice none 0 0, .slice none 0 0] 28))
          refine hK.out _ _ (⟨hide (hHeld.1.out.alloc _), hide (bl_alloc hHeld.2.out _)⟩) (fun hHeld => ?_)
          clear hK K
          try simp only [Act.put, List.setIfInBounds_toArray, List.set_cons_zero, List.set_cons_succ]
          refine hE.out _ _ _ _ ?_
          have hh := st011.out _ wv.heap.size gC hHeld lB zB lC zC ne
          try simp only [Act.put, List.setIfInBounds_toArray, List.set_cons_zero, List.set_cons_succ] at hh
          exact hh)
      have st000 := hide (show ∀ (wv : World), (Hid (Ro wv (w.heap.size) (#[.int .i64 v, .int .u32 (a : Int), .int .u32 (b : Int), .int .u32 (c : Int), .int .u32 (d : Int), .int .u32 (x : Int), .int .u32 (y : Int)]) 35) ∧ Hid (Below w4.heap.size w4 wv)) → FF 9 #[true, false, true, true, false, false, false, false, false, false, false, false] { tmps := (((TM.setIfInBounds 31 (.slice A8 n1 c8)).setIfInBounds 33 (.agg #[.int .i64 v, .int .u32 (a : Int), .int .u32 (b : Int), .int .u32 (c : Int), .int .u32 (d : Int), .int .u32 (x : Int), .int .u32 (y : Int)])).setIfInBounds 34 (.int .i64 (k : Int))), defers := DF } wv from by
        intro wv  hHeld 
        refine hI.out _ _ _ _ ?_
        obtain ⟨rfl, rfl⟩ := Act.mk.inj hTD.out
        try simp only [Act.put, List.setIfInBounds_toArray, List.set_cons_zero, List.set_cons_succ]
        refine wpAnyH_ready (rs := [1, 8, 9]) (by kernel_rfl) (by simp) ?_
        refine AllReadyH.cons rfl (fun K hK => ?_) (AllReadyH.cons rfl (fun K hK => ?_) (AllReadyH.cons rfl (fun K hK => ?_) (AllReadyH.nil)))
        · go_simp
          refine (cu_.New _ _ _ _).mono ?_
          rintro e vv ⟨rfl, h1'⟩
          refine hK.out _ _ (⟨hide (hHeld.1.out.below h1'), hide (bel_next hHeld.2.out h1')⟩) (fun hHeld => ?_)
          clear hK K h1'
          try simp only [Act.put, List.setIfInBounds_toArray, List.set_cons_zero, List.set_cons_succ]
          refine hE.out _ _ _ _ ?_
          have hh := st100.out _  hHeld
          try simp only [Act.put, List.setIfInBounds_toArray, List.set_cons_zero, List.set_cons_succ] at hh
          exact hh
        · go_simp
          have lB := hHeld.2.out.size
          have zB := hide (Ro.new wv #[.slice none 0 0, .slice none 0 0, .slice none 0 0, .slice none 0 0, .slice none 0 0, .slice none 0 0, .slice none 0 0] 28)
          refine hK.out _ _ (⟨hide (hHeld.1.out.alloc _), hide (bl_alloc hHeld.2.out _)⟩) (fun hHeld => ?_)
          clear hK K
          try simp only [Act.put, List.setIfInBounds_toArray, List.set_cons_zero, List.set_cons_succ]
          refine hE.out _ _ _ _ ?_
          have hh := st010.out _ wv.heap.size hHeld lB zB
          try simp only [Act.put, List.setIfInBounds_toArray, List.set_cons_zero, List.set_cons_succ] at hh
          exact hh
        · go_simp
          have lC := hHeld.2.out.size
          have zC := hide (Ro.new wv #[.slice none 0 0, .int .i64 0, .int .i64 0, .int .i64 0] 39)
          refine hK.out _ _ (⟨hide (hHeld.1.out.alloc _), hide (bl_alloc hHeld.2.out _)⟩) (fun hHeld => ?_)
          clear hK K
          try simp only [Act.put, List.setIfInBounds_toArray, List.set_cons_zero, List.set_cons_succ]
          refine hE.out _ _ _ _ ?_
          have hh := st001.out _ wv.heap.size hHeld lC zC
          try simp only [Act.put, List.setIfInBounds_toArray, List.set_cons_zero, List.set_cons_succ] at hh
          exact hh)
      have hh := st000.out _ hHeld
      obtain ⟨rfl, rfl⟩ := Act.mk.inj hTD.out
      try simp only [Act.put, List.setIfInBounds_toArray, List.set_cons_zero, List.set_cons_succ] at hh
      exact hh
    case rest =>
      obtain ⟨gB, gC, S, rfl, rfl, lB, lC, ne, k9, -, oS, -, -, h1⟩ := hcut
      rename World => wx
      replace h1 := h1.out
      have hb4 := hide h1
      replace k5 := hide (k5.out.below h1)
      replace r1 := hide (r1.out.below h1)
      replace r8 := hide (r8.out.below h1)
      replace HT := hide (HT.out.below h1)
      replace hb := hide (bel_next hb.out h1)
      clear h1
      have i9 := hide oS.out.is
      have hbe2 := hbe i9.out.ok
      clear D1 hbe
      obtain ⟨k9c0, _⟩ := ro_cf k9.out 0 _ rfl
      obtain ⟨k9c1, _⟩ := ro_cf k9.out 1 _ rfl
      obtain ⟨k9c2, _⟩ := ro_cf k9.out 2 _ rfl
      obtain ⟨k9c3, _⟩ := ro_cf k9.out 3 _ rfl
      obtain ⟨k9c4, _⟩ := ro_cf k9.out 4 _ rfl
      obtain ⟨k9c5, _⟩ := ro_cf k9.out 5 _ rfl
      obtain ⟨k9c6, _⟩ := ro_cf k9.out 6 _ rfl
      go_wp2_with fail
      refine (E1.out S _ HT.out i9.out).mono ?_
      rintro e w6 ⟨A11, c11, rfl, o11, h1⟩
      clear k9c0 k9c1 k9c2 k9c3 k9c4 k9c5 k9c6
      clear E1
      have hbx := hide h1
      go_upto_region 7 with fail
      go_wp2
      go_loopw [12] (fun iv wr => ∃ (j : Nat) (Ls : List Int), j ≤ N ∧ iv = .int .i64 (j : Nat) ∧ Bytes Ls ∧ Hid (Ow wr wx.heap.size 5 A11 N c11 (Ls.map (Value.int .u8))) ∧ Hid (Below wx.heap.size wx wr)) (fun iv _ => N - (intOf iv).toNat)
      case atStart => exact ⟨0, es, by omega, rfl, hbe2, hide o11, hbx⟩
      case round =>
        clear o11 hbx h1
        obtain ⟨j, Ls, hj, rfl, hLs, oL, hbx⟩ := hrel
        have hNN := HN2.out
        by_cases hlt : j < N
        · obtain ⟨g11, rfl, hg11, -⟩ := oL.out.form (by omega)
          have cc := oL.out.cell j hlt
          have hl2 : j < Ls.length := by have := oL.out.len; simp at this; omega
          rw [map_at .u8 Ls j hl2] at cc
          have cf := oL.out.frozen j
          have hy := u8w (Ls[j]?.getD 0 + 1)
          have os := hide (oL.out.set j (.int .u8 (IntKind.u8.wrap (Ls[j]?.getD 0 + 1))))
          rw [← List.map_set] at os
          have hs := hide (bytes_set hLs j hy.1 hy.2)
          have hbs := hide (bl_set (o := j) hbx.out hg11 (.int .u8 (IntKind.u8.wrap (Ls[j]?.getD 0 + 1))))
          clear oL hbx hLs hy
          generalize Ls[j]?.getD 0 = x at *
          go_wp2
          go_roundw
          case rel => exact ⟨j + 1, _, by omega, by go_num, hs.out, os, hbs⟩
          case measure => simp [intOf]; omega
        · obtain rfl : j = N := by omega
          clear oL hLs HN2 hNN
          have h1 := hbx.out
          replace k5 := hide (k5.out.below h1)
          replace r1 := hide (r1.out.below h1)
          replace r8 := hide (r8.out.below h1)
          replace k9 := hide (k9.out.below h1)
          replace oS := hide (oS.out.below h1)
          replace i9 := hide (i9.out.below h1)
          replace HT := hide (HT.out.below h1)
          replace hb := hide (bel_next hb.out h1)
          clear h1
          have hb4' := hide (bel_next hb4.out hbx.out)
          clear hbx
          go_upto_region 11 with fail
          rename World => wl
          go_cut [13, 14] (fun s13 s14 wz => ∃ (gB gC : Nat) (S2 : BkS), s13 = .pointer (some ⟨gB, 0, none⟩) ∧ s14 = .pointer (some ⟨gC, 0, none⟩) ∧ wl.heap.size ≤ gB ∧ wl.heap.size ≤ gC ∧ gB ≠ gC ∧ Hid (Ro wz gB #[.slice S2.ti.A S2.ti.n S2.ti.c, .slice S2.ix.A S2.ix.n S2.ix.c, .slice S2.ty.A S2.ty.n S2.ty.c, .slice S2.ch.A S2.ch.n S2.ch.c, .slice S2.lp.A S2.lp.n S2.lp.c, .slice S2.sd.A S2.sd.n S2.sd.c, .slice S2.ut.A S2.ut.n S2.ut.c] 28) ∧ Hid (Ro wz gC #[.slice A1 n1 c1, .int .i64 P, .int .i64 E, .int .i64 T] 39) ∧ Hid (OwBk wz wl.heap.size S2 Q) ∧ Hid (NeS S2 gB) ∧ Hid (NeS S2 gC) ∧ Hid (Below wl.heap.size wl wz))
          case first =>
            have lbx0 := (show w.heap.size < wl.heap.size from k5.out.lt)
            refine wp_region_held_drew (S := fun w' => Hid (Ro w' (w.heap.size) (#[.int .i64 v, .int .u32 (a : Int), .int .u32 (b : Int), .int .u32 (c : Int), .int .u32 (d : Int), .int .u32 (x : Int), .int .u32 (y : Int)]) 35) ∧ Hid (Below wl.heap.size wl w')) (by kernel_rfl) (⟨hide k5.out.drew, hide (bl_drew (bl_refl _))⟩) (fun hHeld => ?_)
            generalize wl.drew = u0 at *
            refine wpAnyH_takeD (i := 0) (d := (some 56)) (v := ?_) rfl rfl (by kernel_rfl) (by kernel_rfl) (by kernel_rfl) (fun _ _ _ h => h) (Or.inl ⟨by rfl, ?_⟩) (by assumption) ?_
            rotate_left
            · ((intro w hSw; go_simp) <;> with_reducible rfl)
            try simp only [Act.put, List.setIfInBounds_toArray, List.set_cons_zero, List.set_cons_succ]
            refine wpAnyH_takeD (i := 2) (d := (some 58)) rfl rfl (by kernel_rfl) (by kernel_rfl) (by kernel_rfl) (fun _ _ _ h => h) (yieldsIf_load_row (by rfl) 35 _ rfl (w.heap.size) rfl 35 #[.int .i64 v, .int .u32 (a : Int), .int .u32 (b : Int), .int .u32 (c : Int), .int .u32 (d : Int), .int .u32 (x : Int), .int .u32 (y : Int)] _ (fun w hw => hw.1.out) Tryd.underlying35 rfl (by kernel_rfl)) (by assumption) ?_
            try simp only [Act.put, List.setIfInBounds_toArray, List.set_cons_zero, List.set_cons_succ]
            refine wpAnyH_takeD (i := 3) (d := (some 59)) (v := ?_) rfl rfl (by kernel_rfl) (by kernel_rfl) (by kernel_rfl) (fun _ _ _ h => h) (Or.inl ⟨by rfl, ?_⟩) (by assumption) ?_
            rotate_left
            · ((intro w hSw; go_simp) <;> with_reducible rfl)
            try simp only [Act.put, List.setIfInBounds_toArray, List.set_cons_zero, List.set_cons_succ]
            refine wpAnyH_share (fun FF hI hE TM DF hTD => ?_)
            have st211 := hide (show ∀ (wv : World) (S2 : BkS) (gB : Nat) (gC : Nat), (Hid (Ro wv (w.heap.size) (#[.int .i64 v, .int .u32 (a : Int), .int .u32 (b : Int), .int .u32 (c : Int), .int .u32 (d : Int), .int .u32 (x : Int), .int .u32 (y : Int)]) 35) ∧ Hid (Below wl.heap.size wl wv)) → wl.heap.size ≤ gB → Hid (Ro wv gB #[.slice none 0 0, .slice none 0 0, .slice none 0 0, .slice none 0 0, .slice none 0 0, .slice none 0 0, .slice none 0 0] 28) → wl.heap.size ≤ gC → Hid (Ro wv gC #[.slice none 0 0, .int .i64 0, .int .i64 0, .int .i64 0] 39) → gB ≠ gC → Hid (OwBk wv wl.heap.size S2 Q) → Hid (NeS S2 gB) → Hid (NeS S2 gC) → FF 2 #[true, true, true, true, true, true, true, true, true, true, false, false] { tmps := ((((((((((TM.setIfInBounds 56 (.slice A1 n1 c1)).setIfInBounds 57 (.agg #[.slice A1 n1 c1, .int .i64 0, .int .i64 0, .int .i64 0])).setIfInBounds 58 (.agg #[.int .i64 v, .int .u32 (a : Int), .int .u32 (b : Int), .int .u32 (c : Int), .int .u32 (d : Int), .int .u32 (x : Int), .int .u32 (y : Int)])).setIfInBounds 59 (.int .i64 (k : Int))).setIfInBounds 60 (.tuple #[.agg #[.slice S2.ti.A S2.ti.n S2.ti.c, .slice S2.ix.A S2.ix.n S2.ix.c, .slice S2.ty.A S2.ty.n S2.ty.c, .slice S2.ch.A S2.ch.n S2.ch.c, .slice S2.lp.A S2.lp.n S2.lp.c, .slice S2.sd.A S2.sd.n S2.sd.c, .slice S2.ut.A S2.ut.n S2.ut.c], .agg #[.slice A1 n1 c1, .int .i64 P, .int .i64 E, .int .i64 T]])).setIfInBounds 55 (.tuple #[.agg #[.slice S2.ti.A S2.ti.n S2.ti.c, .slice S2.ix.A S2.ix.n S2.ix.c, .slice S2.ty.A S2.ty.n S2.ty.c, .slice S2.ch.A S2.ch.n S2.ch.c, .slice S2.lp.A S2.lp.n S2.lp.c, .slice S2.sd.A S2.sd.n S2.sd.c, .slice S2.ut.A S2.ut.n S2.ut.c], .agg #[.slice A1 n1 c1, .int .i64 P, .int .i64 E, .int .i64 T]])).setIfInBounds 61 (.agg #[.slice S2.ti.A S2.ti.n S2.ti.c, .slice S2.ix.A S2.ix.n S2.ix.c, .slice S2.ty.A S2.ty.n S2.ty.c, .slice S2.ch.A S2.ch.n S2.ch.c, .slice S2.lp.A S2.lp.n S2.lp.c, .slice S2.sd.A S2.sd.n S2.sd.c, .slice S2.ut.A S2.ut.n S2.ut.c])).setIfInBounds 62 (.agg #[.slice A1 n1 c1, .int .i64 P, .int .i64 E, .int .i64 T])).setIfInBounds 13 (.pointer (some ⟨gB, 0, none⟩))).setIfInBounds 14 (.pointer (some ⟨gC, 0, none⟩))), defers := DF } wv from by
              intro wv S2 gB gC hHeld lB zB lC zC ne oS nB nC
              refine hI.out _ _ _ _ ?_
              obtain ⟨rfl, rfl⟩ := Act.mk.inj hTD.out
              try simp only [Act.put, List.setIfInBounds_toArray, List.set_cons_zero, List.set_cons_succ]
              refine wpAnyH_ready (rs := [10]) (by kernel_rfl) (by simp) ?_
              refine AllReadyH.cons rfl (fun K hK => ?_) (AllReadyH.nil)
              obtain ⟨y0, w0⟩ := ro_cf zB.out 0 _ rfl; obtain ⟨y1, w1⟩ := ro_cf zB.out 1 _ rfl; obtain ⟨y2, w2⟩ := ro_cf zB.out 2 _ rfl; obtain ⟨y3, w3⟩ := ro_cf zB.out 3 _ rfl; obtain ⟨y4, w4⟩ := ro_cf zB.out 4 _ rfl; obtain ⟨y5, w5⟩ := ro_cf zB.out 5 _ rfl; obtain ⟨y6, w6⟩ := ro_cf zB.out 6 _ rfl
              have su := hHeld.2.out.size
              have lb0 := hHeld.1.out.lt
              go_simp
              refine hK.out _ _ (⟨hide (ro_away7 (g' := gB) (x0 := .slice S2.ti.A S2.ti.n S2.ti.c) (x1 := .slice S2.ix.A S2.ix.n S2.ix.c) (x2 := .slice S2.ty.A S2.ty.n S2.ty.c) (x3 := .slice S2.ch.A S2.ch.n S2.ch.c) (x4 := .slice S2.lp.A S2.lp.n S2.lp.c) (x5 := .slice S2.sd.A S2.sd.n S2.sd.c) (x6 := .slice S2.ut.A S2.ut.n S2.ut.c) hHeld.1.out (by have := lbx0; omega)), hide (bl_setx7 (g := gB) (x0 := .slice S2.ti.A S2.ti.n S2.ti.c) (x1 := .slice S2.ix.A S2.ix.n S2.ix.c) (x2 := .slice S2.ty.A S2.ty.n S2.ty.c) (x3 := .slice S2.ch.A S2.ch.n S2.ch.c) (x4 := .slice S2.lp.A S2.lp.n S2.lp.c) (x5 := .slice S2.sd.A S2.sd.n S2.sd.c) (x6 := .slice S2.ut.A S2.ut.n S2.ut.c) hHeld.2.out lB)⟩) (fun hHeld => ?_)
              clear hK K y0 w0 y1 w1 y2 w2 y3 w3 y4 w4 y5 w5 y6 w6
              replace zB := hide (ro_set7' (x0 := .slice S2.ti.A S2.ti.n S2.ti.c) (x1 := .slice S2.ix.A S2.ix.n S2.ix.c) (x2 := .slice S2.ty.A S2.ty.n S2.ty.c) (x3 := .slice S2.ch.A S2.ch.n S2.ch.c) (x4 := .slice S2.lp.A S2.lp.n S2.lp.c) (x5 := .slice S2.sd.A S2.sd.n S2.sd.c) (x6 := .slice S2.ut.A S2.ut.n S2.ut.c) zB.out)
              replace zC := hide (ro_away7 (g' := gB) (x0 := .slice S2.ti.A S2.ti.n S2.ti.c) (x1 := .slice S2.ix.A S2.ix.n S2.ix.c) (x2 := .slice S2.ty.A S2.ty.n S2.ty.c) (x3 := .slice S2.ch.A S2.ch.n S2.ch.c) (x4 := .slice S2.lp.A S2.lp.n S2.lp.c) (x5 := .slice S2.sd.A S2.sd.n S2.sd.c) (x6 := .slice S2.ut.A S2.ut.n S2.ut.c) zC.out (by omega))
              replace oS := hide (oS.out.away7 nB.out (.slice S2.ti.A S2.ti.n S2.ti.c) (.slice S2.ix.A S2.ix.n S2.ix.c) (.slice S2.ty.A S2.ty.n S2.ty.c) (.slice S2.ch.A S2.ch.n S2.ch.c) (.slice S2.lp.A S2.lp.n S2.lp.c) (.slice S2.sd.A S2.sd.n S2.sd.c) (.slice S2.ut.A S2.ut.n S2.ut.c))
              generalize (((((((wv.setCell ⟨gB, 0, none⟩ (.slice S2.ti.A S2.ti.n S2.ti.c)).setCell ⟨gB, 1, none⟩ (.slice S2.ix.A S2.ix.n S2.ix.c)).setCell ⟨gB, 2, none⟩ (.slice S2.ty.A S2.ty.n S2.ty.c)).setCell ⟨gB, 3, none⟩ (.slice S2.ch.A S2.ch.n S2.ch.c)).setCell ⟨gB, 4, none⟩ (.slice S2.lp.A S2.lp.n S2.lp.c)).setCell ⟨gB, 5, none⟩ (.slice S2.sd.A S2.sd.n S2.sd.c)).setCell ⟨gB, 6, none⟩ (.slice S2.ut.A S2.ut.n S2.ut.c)) = wv1 at *
              try simp only [Act.put, List.setIfInBounds_toArray, List.set_cons_zero, List.set_cons_succ]
              refine wpAnyH_ready (rs := [11]) (by kernel_rfl) (by simp) ?_
              refine AllReadyH.cons rfl (fun K hK => ?_) (AllReadyH.nil)
              obtain ⟨y0, w0⟩ := ro_cf zC.out 0 _ rfl; obtain ⟨y1, w1⟩ := ro_cf zC.out 1 _ rfl; obtain ⟨y2, w2⟩ := ro_cf zC.out 2 _ rfl; obtain ⟨y3, w3⟩ := ro_cf zC.out 3 _ rfl
              have su := hHeld.2.out.size
              have lb0 := hHeld.1.out.lt
              go_simp
              refine hK.out _ _ (⟨hide (ro_away4 (g' := gC) (x0 := .slice A1 n1 c1) (x1 := .int .i64 P) (x2 := .int .i64 E) (x3 := .int .i64 T) hHeld.1.out (by have := lbx0; omega)), hide (bl_setx4 (g := gC) (x0 := .slice A1 n1 c1) (x1 := .int .i64 P) (x2 := .int .i64 E) (x3 := .int .i64 T) hHeld.2.out lC)⟩) (fun hHeld => ?_)
              clear hK K y0 w0 y1 w1 y2 w2 y3 w3
              replace zC := hide (ro_set4' (x0 := .slice A1 n1 c1) (x1 := .int .i64 P) (x2 := .int .i64 E) (x3 := .int .i64 T) zC.out)
              replace zB := hide (ro_away4 (g' := gC) (x0 := .slice A1 n1 c1) (x1 := .int .i64 P) (x2 := .int .i64 E) (x3 := .int .i64 T) zB.out (by omega))
              replace oS := hide (oS.out.away4 nC.out (.slice A1 n1 c1) (.int .i64 P) (.int .i64 E) (.int .i64 T))
              generalize ((((wv1.setCell ⟨gC, 0, none⟩ (.slice A1 n1 c1)).setCell ⟨gC, 1, none⟩ (.int .i64 P)).setCell ⟨gC, 2, none⟩ (.int .i64 E)).setCell ⟨gC, 3, none⟩ (.int .i64 T)) = wv2 at *
              try simp only [Act.put, List.setIfInBounds_toArray, List.set_cons_zero, List.set_cons_succ]
              refine wpAnyH_done (by kernel_rfl) ?_ _
              go_wp2_with fail
              go_meet
              exact ⟨gB, gC, S2, rfl, rfl, lB, lC, ne, zB, zC, oS, nB, nC, hHeld.2⟩)
            have st210 := hide (show ∀ (wv : World) (S2 : BkS) (gB : Nat), (Hid (Ro wv (w.heap.size) (#[.int .i64 v, .int .u32 (a : Int), .int .u32 (b : Int), .int .u32 (c : Int), .int .u32 (d : Int), .int .u32 (x : Int), .int .u32 (y : Int)]) 35) ∧ Hid (Below wl.heap.size wl wv)) → wl.heap.size ≤ gB → Hid (Ro wv gB #[.slice none 0 0, .slice none 0 0, .slice none 0 0, .slice none 0 0, .slice none 0 0, .slice none 0 0, .slice none 0 0] 28) → Hid (OwBk wv wl.heap.size S2 Q) → Hid (NeS S2 gB) → FF 3 #[true, true, true, true, true, true, true, true, true, false, false, false] { tmps := (((((((((TM.setIfInBounds 56 (.slice A1 n1 c1)).setIfInBounds 57 (.agg #[.slice A1 n1 c1, .int .i64 0, .int .i64 0, .int .i64 0])).setIfInBounds 58 (.agg #[.int .i64 v, .int .u32 (a : Int), .int .u32 (b : Int), .int .u32 (c : Int), .int .u32 (d : Int), .int .u32 (x : Int), .int .u32 (y : Int)])).setIfInBounds 59 (.int .i64 (k : Int))).setIfInBounds 60 (.tuple #[.agg #[.slice S2.ti.A S2.ti.n S2.ti.c, .slice S2.ix.A S2.ix.n S2.ix.c, .slice S2.ty.A S2.ty.n S2.ty.c, .slice S2.ch.A S2.ch.n S2.ch.c, .slice S2.lp.A S2.lp.n S2.lp.c, .slice S2.sd.A S2.sd.n S2.sd.c, .slice S2.ut.A S2.ut.n S2.ut.c], .agg #[.slice A1 n1 c1, .int .i64 P, .int .i64 E, .int .i64 T]])).setIfInBounds 55 (.tuple #[.agg #[.slice S2.ti.A S2.ti.n S2.ti.c, .slice S2.ix.A S2.ix.n S2.ix.c, .slice S2.ty.A S2.ty.n S2.ty.c, .slice S2.ch.A S2.ch.n S2.ch.c, .slice S2.lp.A S2.lp.n S2.lp.c, .slice S2.sd.A S2.sd.n S2.sd.c, .slice S2.ut.A S2.ut.n S2.ut.c], .agg #[.slice A1 n1 c1, .int .i64 P, .int .i64 E, .int .i64 T]])).setIfInBounds 61 (.agg #[.slice S2.ti.A S2.ti.n S2.ti.c, .slice S2.ix.A S2.ix.n S2.ix.c, .slice S2.ty.A S2.ty.n S2.ty.c, .slice S2.ch.A S2.ch.n S2.ch.c, .slice S2.lp.A S2.lp.n S2.lp.c, .slice S2.sd.A S2.sd.n S2.sd.c, .slice S2.ut.A S2.ut.n S2.ut.c])).setIfInBounds 62 (.agg #[.slice A1 n1 c1, .int .i64 P, .int .i64 E, .int .i64 T])).setIfInBounds 13 (.pointer (some ⟨gB, 0, none⟩))), defers := DF } wv from by
              intro wv S2 gB hHeld lB zB oS nB
              refine hI.out _ _ _ _ ?_
              obtain ⟨rfl, rfl⟩ := Act.mk.inj hTD.out
              try simp only [Act.put, List.setIfInBounds_toArray, List.set_cons_zero, List.set_cons_succ]
              refine wpAnyH_ready (rs := [9]) (by kernel_rfl) (by simp) ?_
              refine AllReadyH.cons rfl (fun K hK => ?_) (AllReadyH.nil)
              · go_simp
                have lC := hHeld.2.out.size
                have zC := hide (Ro.new wv #[.slice none 0 0, .int .i64 0, .int .i64 0, .int .i64 0] 39)
                have ne := (show gB ≠ wv.heap.size from fun h => by have := zB.out.lt; omega)
                replace zB := hide (zB.out.alloc (.cells #[.slice none 0 0, .int .i64 0, .int .i64 0, .int .i64 0] 39))
                have nC := hide (oS.out.ne (g := wv.heap.size) (.inr (Nat.le_refl _)))
                replace oS := hide (oS.out.below (bl_new _ (.cells #[.slice none 0 0, .int .i64 0, .int .i64 0, .int .i64 0] 39)))
                refine hK.out _ _ (⟨hide (hHeld.1.out.alloc _), hide (bl_alloc hHeld.2.out _)⟩) (fun hHeld => ?_)
                clear hK K
                try simp only [Act.put, List.setIfInBounds_toArray, List.set_cons_zero, List.set_cons_succ]
                refine hE.out _ _ _ _ ?_
                have hh := st211.out _ S2 gB wv.heap.size hHeld lB zB lC zC ne oS nB nC
                try simp only [Act.put, List.setIfInBounds_toArray, List.set_cons_zero, List.set_cons_succ] at hh
                exact hh)
            have st201 := hide (show ∀ (wv : World) (S2 : BkS) (gC : Nat), (Hid (Ro wv (w.heap.size) (#[.int .i64 v, .int .u32 (a : Int), .int .u32 (b : Int), .int .u32 (c : Int), .int .u32 (d : Int), .int .u32 (x : Int), .int .u32 (y : Int)]) 35) ∧ Hid (Below wl.heap.size wl wv)) → wl.heap.size ≤ gC → Hid (Ro wv gC #[.slice none 0 0, .int .i64 0, .int .i64 0, .int .i64 0] 39) → Hid (OwBk wv wl.heap.size S2 Q) → Hid (NeS S2 gC) → FF 3 #[true, true, true, true, true, true, true, true, false, true, false, false] { tmps := (((((((((TM.setIfInBounds 56 (.slice A1 n1 c1)).setIfInBounds 57 (.agg #[.slice A1 n1 c1, .int .i64 0, .int .i64 0, .int .i64 0])).setIfInBounds 58 (.agg #[.int .i64 v, .int .u32 (a : Int), .int .u32 (b : Int), .int .u32 (c : Int), .int .u32 (d : Int), .int .u32 (x : Int), .int .u32 (y : Int)])).setIfInBounds 59 (.int .i64 (k : Int))).setIfInBounds 60 (.tuple #[.agg #[.slice S2.ti.A S2.ti.n S2.ti.c, .slice S2.ix.A S2.ix.n S2.ix.c, .slice S2.ty.A S2.ty.n S2.ty.c, .slice S2.ch.A S2.ch.n S2.ch.c, .slice S2.lp.A S2.lp.n S2.lp.c, .slice S2.sd.A S2.sd.n S2.sd.c, .slice S2.ut.A S2.ut.n S2.ut.c], .agg #[.slice A1 n1 c1, .int .i64 P, .int .i64 E, .int .i64 T]])).setIfInBounds 55 (.tuple #[.agg #[.slice S2.ti.A S2.ti.n S2.ti.c, .slice S2.ix.A S2.ix.n S2.ix.c, .slice S2.ty.A S2.ty.n S2.ty.c, .slice S2.ch.A S2.ch.n S2.ch.c, .slice S2.lp.A S2.lp.n S2.lp.c, .slice S2.sd.A S2.sd.n S2.sd.c, .slice S2.ut.A S2.ut.n S2.ut.c], .agg #[.slice A1 n1 c1, .int .i64 P, .int .i64 E, .int .i64 T]])).setIfInBounds 61 (.agg #[.slice S2.ti.A S2.ti.n S2.ti.c, .slice S2.ix.A S2.ix.n S2.ix.c, .slice S2.ty.A S2.ty.n S2.ty.c, .slice S2.ch.A S2.ch.n S2.ch.c, .slice S2.lp.A S2.lp.n S2.lp.c, .slice S2.sd.A S2.sd.n S2.sd.c, .slice S2.ut.A S2.ut.n S2.ut.c])).setIfInBounds 62 (.agg #[.slice A1 n1 c1, .int .i64 P, .int .i64 E, .int .i64 T])).setIfInBounds 14 (.pointer (some ⟨gC, 0, none⟩))), defers := DF } wv from by
              intro wv S2 gC hHeld lC zC oS nC
              refine hI.out _ _ _ _ ?_
              obtain ⟨rfl, rfl⟩ := Act.mk.inj hTD.out
              try simp only [Act.put, List.setIfInBounds_toArray, List.set_cons_zero, List.set_cons_succ]
              refine wpAnyH_ready (rs := [8]) (by kernel_rfl) (by simp) ?_
              refine AllReadyH.cons rfl (fun K hK => ?_) (AllReadyH.nil)
              · go_simp
                have lB := hHeld.2.out.size
                have zB := hide (Ro.new wv #[.slice none 0 0, .slice none 0 0, .slice none 0 0, .slice none 0 0, .slice none 0 0, .slice none 0 0, .slice none 0 0] 28)
                have ne := (show wv.heap.size ≠ gC from fun h => by have := zC.out.lt; omega)
                replace zC := hide (zC.out.alloc (.cells #[.slice none 0 0, .slice none 0 0, .slice none 0 0, .slice none 0 0, .slice none 0 0, .slice none 0 0, .slice none 0 0] 28))
                have nB := hide (oS.out.ne (g := wv.heap.size) (.inr (Nat.le_refl _)))
                replace oS := hide (oS.out.below (bl_new _ (.cells #[.slice none 0 0, .slice none 0 0, .slice none 0 0, .slice none 0 0, .slice none 0 0, .slice none 0 0, .slice none 0 0] 28)))
                refine hK.out _ _ (⟨hide (hHeld.1.out.alloc _), hide (bl_alloc hHeld.2.out _)⟩) (fun hHeld => ?_)
                clear hK K
                try simp only [Act.put, List.setIfInBounds_toArray, List.set_cons_zero, List.set_cons_succ]
                refine hE.out _ _ _ _ ?_
                have hh := st211.out _ S2 wv.heap.size gC hHeld lB zB lC zC ne oS nB nC
                try simp only [Act.put, List.setIfInBounds_toArray, List.set_cons_zero, List.set_cons_succ] at hh
                exact hh)
            have st200 := hide (show ∀ (wv : World) (S2 : BkS), (Hid (Ro wv (w.heap.size) (#[.int .i64 v, .int .u32 (a : Int), .int .u32 (b : Int), .int .u32 (c : Int), .int .u32 (d : Int), .int .u32 (x : Int), .int .u32 (y : Int)]) 35) ∧ Hid (Below wl.heap.size wl wv)) → Hid (OwBk wv wl.heap.size S2 Q) → FF 4 #[true, true, true, true, true, true, true, true, false, false, false, false] { tmps := ((((((((TM.setIfInBounds 56 (.slice A1 n1 c1)).setIfInBounds 57 (.agg #[.slice A1 n1 c1, .int .i64 0, .int .i64 0, .int .i64 0])).setIfInBounds 58 (.agg #[.int .i64 v, .int .u32 (a : Int), .int .u32 (b : Int), .int .u32 (c : Int), .int .u32 (d : Int), .int .u32 (x : Int), .int .u32 (y : Int)])).setIfInBounds 59 (.int .i64 (k : Int))).setIfInBounds 60 (.tuple #[.agg #[.slice S2.ti.A S2.ti.n S2.ti.c, .slice S2.ix.A S2.ix.n S2.ix.c, .slice S2.ty.A S2.ty.n S2.ty.c, .slice S2.ch.A S2.ch.n S2.ch.c, .slice S2.lp.A S2.lp.n S2.lp.c, .slice S2.sd.A S2.sd.n S2.sd.c, .slice S2.ut.A S2.ut.n S2.ut.c], .agg #[.slice A1 n1 c1, .int .i64 P, .int .i64 E, .int .i64 T]])).setIfInBounds 55 (.tuple #[.agg #[.slice S2.ti.A S2.ti.n S2.ti.c, .slice S2.ix.A S2.ix.n S2.ix.c, .slice S2.ty.A S2.ty.n S2.ty.c, .slice S2.ch.A S2.ch.n S2.ch.c, .slice S2.lp.A S2.lp.n S2.lp.c, .slice S2.sd.A S2.sd.n S2.sd.c, .slice S2.ut.A S2.ut.n S2.ut.c], .agg #[.slice A1 n1 c1, .int .i64 P, .int .i64 E, .int .i64 T]])).setIfInBounds 61 (.agg #[.slice S2.ti.A S2.ti.n S2.ti.c, .slice S2.ix.A S2.ix.n S2.ix.c, .slice S2.ty.A S2.ty.n S2.ty.c, .slice S2.ch.A S2.ch.n S2.ch.c, .slice S2.lp.A S2.lp.n S2.lp.c, .slice S2.sd.A S2.sd.n S2.sd.c, .slice S2.ut.A S2.ut.n S2.ut.c])).setIfInBounds 62 (.agg #[.slice A1 n1 c1, .int .i64 P, .int .i64 E, .int .i64 T])), defers := DF } wv from by
              intro wv S2 hHeld oS
              refine hI.out _ _ _ _ ?_
              obtain ⟨rfl, rfl⟩ := Act.mk.inj hTD.out
              try simp only [Act.put, List.setIfInBounds_toArray, List.set_cons_zero, List.set_cons_succ]
              refine wpAnyH_ready (rs := [8, 9]) (by kernel_rfl) (by simp) ?_
              refine AllReadyH.cons rfl (fun K hK => ?_) (AllReadyH.cons rfl (fun K hK => ?_) (AllReadyH.nil))
              · go_simp
                have lB := hHeld.2.out.size
                have zB := hide (Ro.new wv #[.slice none 0 0, .slice none 0 0, .slice none 0 0, .slice none 0 0, .slice none 0 0, .slice none 0 0, .slice none 0 0] 28)
                have nB := hide (oS.out.ne (g := wv.heap.size) (.inr (Nat.le_refl _)))
                replace oS := hide (oS.out.below (bl_new _ (.cells #[.slice none 0 0, .slice none 0 0, .slice none 0 0, .slice none 0 0, .slice none 0 0, .slice none 0 0, .slice none 0 0] 28)))
                refine hK.out _ _ (⟨hide (hHeld.1.out.alloc _), hide (bl_alloc hHeld.2.out _)⟩) (fun hHeld => ?_)
                clear hK K
                try simp only [Act.put, List.setIfInBounds_toArray, List.set_cons_zero, List.set_cons_succ]
                refine hE.out _ _ _ _ ?_
                have hh := st210.out _ S2 wv.heap.size hHeld lB zB oS nB
                try simp only [Act.put, List.setIfInBounds_toArray, List.set_cons_zero, List.set_cons_succ] at hh
                exact hh
              · go_simp
                have lC := hHeld.2.out.size
                have zC := hide (Ro.new wv #[.slice none 0 0, .int .i64 0, .int .i64 0, .int .i64 0] 39)
                have nC := hide (oS.out.ne (g := wv.heap.size) (.inr (Nat.le_refl _)))
                replace oS := hide (oS.out.below (bl_new _ (.cells #[.slice none 0 0, .int .i64 0, .int .i64 0, .int .i64 0] 39)))
                refine hK.out _ _ (⟨hide (hHeld.1.out.alloc _), hide (bl_alloc hHeld.2.out _)⟩) (fun hHeld => ?_)
                clear hK K
                try simp only [Act.put, List.setIfInBounds_toArray, List.set_cons_zero, List.set_cons_succ]
                refine hE.out _ _ _ _ ?_
                have hh := st201.out _ S2 wv.heap.size hHeld lC zC oS nC
                try simp only [Act.put, List.setIfInBounds_toArray, List.set_cons_zero, List.set_cons_succ] at hh
                exact hh)
            have st111 := hide (show ∀ (wv : World) (gB : Nat) (gC : Nat), (Hid (Ro wv (w.heap.size) (#[.int .i64 v, .int .u32 (a : Int), .int .u32 (b : Int), .int .u32 (c : Int), .int .u32 (d : Int), .int .u32 (x : Int), .int .u32 (y : Int)]) 35) ∧ Hid (Below wl.heap.size wl wv)) → wl.heap.size ≤ gB → Hid (Ro wv gB #[.slice none 0 0, .slice none 0 0, .slice none 0 0, .slice none 0 0, .slice none 0 0, .slice none 0 0, .slice none 0 0] 28) → wl.heap.size ≤ gC → Hid (Ro wv gC #[.slice none 0 0, .int .i64 0, .int .i64 0, .int .i64 0] 39) → gB ≠ gC → FF 6 #[true, true, true, true, false, false, false, false, true, true, false, false] { tmps := ((((((TM.setIfInBounds 56 (.slice A1 n1 c1)).setIfInBounds 57 (.agg #[.slice A1 n1 c1, .int .i64 0, .int .i64 0, .int .i64 0])).setIfInBounds 58 (.agg #[.int .i64 v, .int .u32 (a : Int), .int .u32 (b : Int), .int .u32 (c : Int), .int .u32 (d : Int), .int .u32 (x : Int), .int .u32 (y : Int)])).setIfInBounds 59 (.int .i64 (k : Int))).setIfInBounds 13 (.pointer (some ⟨gB, 0, none⟩))).setIfInBounds 14 (.pointer (some ⟨gC, 0, none⟩))), defers := DF } wv from by
              intro wv gB gC hHeld lB zB lC zC ne
              refine hI.out _ _ _ _ ?_
              obtain ⟨rfl, rfl⟩ := Act.mk.inj hTD.out
              try simp only [Act.put, List.setIfInBounds_toArray, List.set_cons_zero, List.set_cons_succ]
              refine wpAnyH_ready (rs := [4]) (by kernel_rfl) (by simp) ?_
              refine AllReadyH.cons rfl (fun K hK => ?_) (AllReadyH.nil)
              · go_simp
                refine (D2.out _ (HT.out.below hHeld.2.out) (r1.out.below hHeld.2.out)).mono ?_
                rintro e vv ⟨S2, rfl, oS_, h1'⟩
                have nB := hide (oS_.ne (.inl zB.out.lt))
                have nC := hide (oS_.ne (.inl zC.out.lt))
                have oS := hide (oS_.mono hHeld.2.out.size)
                replace zB := hide (zB.out.below h1')
                replace zC := hide (zC.out.below h1')
                refine hK.out _ _ (⟨hide (hHeld.1.out.below h1'), hide (bel_next hHeld.2.out h1')⟩) (fun hHeld => ?_)
                clear hK K h1'
                try simp only [Act.put, List.setIfInBounds_toArray, List.set_cons_zero, List.set_cons_succ]
                refine wpAnyH_takeD (i := 5) (d := (some 55)) (v := ?_) rfl rfl (by kernel_rfl) (by kernel_rfl) (by kernel_rfl) (fun _ _ _ h => h) (Or.inl ⟨by rfl, ?_⟩) (by assumption) ?_
                rotate_left
                · ((intro w hSw; go_simp) <;> with_reducible rfl)
                try simp only [Act.put, List.setIfInBounds_toArray, List.set_cons_zero, List.set_cons_succ]
                refine wpAnyH_takeD (i := 6) (d := (some 61)) (v := ?_) rfl rfl (by kernel_rfl) (by kernel_rfl) (by kernel_rfl) (fun _ _ _ h => h) (Or.inl ⟨by rfl, ?_⟩) (by assumption) ?_
                rotate_left
                · ((intro w hSw; go_simp) <;> with_reducible rfl)
                try simp only [Act.put, List.setIfInBounds_toArray, List.set_cons_zero, List.set_cons_succ]
                refine wpAnyH_takeD (i := 7) (d := (some 62)) (v := ?_) rfl rfl (by kernel_rfl) (by kernel_rfl) (by kernel_rfl) (fun _ _ _ h => h) (Or.inl ⟨by rfl, ?_⟩) (by assumption) ?_
                rotate_left
                · ((intro w hSw; go_simp) <;> with_reducible rfl)
                try simp only [Act.put, List.setIfInBounds_toArray, List.set_cons_zero, List.set_cons_succ]
                refine hE.out _ _ _ _ ?_
                have hh := st211.out _ S2 gB gC hHeld lB zB lC zC ne oS nB nC
                try simp only [Act.put, List.setIfInBounds_toArray, List.set_cons_zero, List.set_cons_succ] at hh
                exact hh)
            have st110 := hide (show ∀ (wv : World) (gB : Nat), (Hid (Ro wv (w.heap.size) (#[.int .i64 v, .int .u32 (a : Int), .int .u32 (b : Int), .int .u32 (c : Int), .int .u32 (d : Int), .int .u32 (x : Int), .int .u32 (y : Int)]) 35) ∧ Hid (Below wl.heap.size wl wv)) → wl.heap.size ≤ gB → Hid (Ro wv gB #[.slice none 0 0, .slice none 0 0, .slice none 0 0, .slice none 0 0, .slice none 0 0, .slice none 0 0, .slice none 0 0] 28) → FF 7 #[true, true, true, true, false, false, false, false, true, false, false, false] { tmps := (((((TM.setIfInBounds 56 (.slice A1 n1 c1)).setIfInBounds 57 (.agg #[.slice A1 n1 c1, .int .i64 0, .int .i64 0, .int .i64 0])).setIfInBounds 58 (.agg #[.int .i64 v, .int .u32 (a : Int), .int .u32 (b : Int), .int .u32 (c : Int), .int .u32 (d : Int), .int .u32 (x : Int), .int .u32 (y : Int)])).setIfInBounds 59 (.int .i64 (k : Int))).setIfInBounds 13 (.pointer (some ⟨gB, 0, none⟩))), defers := DF } wv from by
              intro wv gB hHeld lB zB
              refine hI.out _ _ _ _ ?_
              obtain ⟨rfl, rfl⟩ := Act.mk.inj hTD.out
              try simp only [Act.put, List.setIfInBounds_toArray, List.set_cons_zero, List.set_cons_succ]
              refine wpAnyH_ready (rs := [4, 9]) (by kernel_rfl) (by simp) ?_
              refine AllReadyH.cons rfl (fun K hK => ?_) (AllReadyH.cons rfl (fun K hK => ?_) (AllReadyH.nil))
              · go_simp
                refine (D2.out _ (HT.out.below hHeld.2.out) (r1.out.below hHeld.2.out)).mono ?_
                rintro e vv ⟨S2, rfl, oS_, h1'⟩
                have nB := hide (oS_.ne (.inl zB.out.lt))
                have oS := hide (oS_.mono hHeld.2.out.size)
                replace zB := hide (zB.out.below h1')
                refine hK.out _ _ (⟨hide (hHeld.1.out.below h1'), hide (bel_next hHeld.2.out h1')⟩) (fun hHeld => ?_)
                clear hK K h1'
                try simp only [Act.put, List.setIfInBounds_toArray, List.set_cons_zero, List.set_cons_succ]
                refine wpAnyH_takeD (i := 5) (d := (some 55)) (v := ?_) rfl rfl (by kernel_rfl) (by kernel_rfl) (by kernel_rfl) (fun _ _ _ h => h) (Or.inl ⟨by rfl, ?_⟩) (by assumption) ?_
                rotate_left
                · ((intro w hSw; go_simp) <;> with_reducible rfl)
                try simp only [Act.put, List.setIfInBounds_toArray, List.set_cons_zero, List.set_cons_succ]
                refine wpAnyH_takeD (i := 6) (d := (some 61)) (v := ?_) rfl rfl (by kernel_rfl) (by kernel_rfl) (by kernel_rfl) (fun _ _ _ h => h) (Or.inl ⟨by rfl, ?_⟩) (by assumption) ?_
                rotate_left
                · ((intro w hSw; go_simp) <;> with_reducible rfl)
                try simp only [Act.put, List.setIfInBounds_toArray, List.set_cons_zero, List.set_cons_succ]
                refine wpAnyH_takeD (i := 7) (d := (some 62)) (v := ?_) rfl rfl (by kernel_rfl) (by kernel_rfl) (by kernel_rfl) (fun _ _ _ h => h) (Or.inl ⟨by rfl, ?_⟩) (by assumption) ?_
                rotate_left
                · ((intro w hSw; go_simp) <;> with_reducible rfl)
                try simp only [Act.put, List.setIfInBounds_toArray, List.set_cons_zero, List.set_cons_succ]
                refine hE.out _ _ _ _ ?_
                have hh := st210.out _ S2 gB hHeld lB zB oS nB
                try simp only [Act.put, List.setIfInBounds_toArray, List.set_cons_zero, List.set_cons_succ] at hh
                exact hh
              · go_simp
                have lC := hHeld.2.out.size
                have zC := hide (Ro.new wv #[.slice none 0 0, .int .i64 0, .int .i64 0, .int .i64 0] 39)
                have ne := (show gB ≠ wv.heap.size from fun h => by have := zB.out.lt; omega)
                replace zB := hide (zB.out.alloc (.cells #[.slice none 0 0, .int .i64 0, .int .i64 0, .int .i64 0] 39))
                refine hK.out _ _ (⟨hide (hHeld.1.out.alloc _), hide (bl_alloc hHeld.2.out _)⟩) (fun hHeld => ?_)
                clear hK K
                try simp only [Act.put, List.setIfInBounds_toArray, List.set_cons_zero, List.set_cons_succ]
                refine hE.out _ _ _ _ ?_
                have hh := st111.out _ gB wv.heap.size hHeld lB zB lC zC ne
                try simp only [Act.put, List.setIfInBounds_toArray, List.set_cons_zero, List.set_cons_succ] at hh
                exact hh)
            have st101 := hide (show ∀ (wv : World) (gC : Nat), (Hid (Ro wv (w.heap.size) (#[.int .i64 v, .int .u32 (a : Int), .int .u32 (b : Int), .int .u32 (c : Int), .int .u32 (d : Int), .int .u32 (x : Int), .int .u32 (y : Int)]) 35) ∧ Hid (Below wl.heap.size wl wv)) → wl.heap.size ≤ gC → Hid (Ro wv gC #[.slice none 0 0, .int .i64 0, .int .i64 0, .int .i64 0] 39) → FF 7 #[true, true, true, true, false, false, false, false, false, true, false, false] { tmps := (((((TM.setIfInBounds 56 (.slice A1 n1 c1)).setIfInBounds 57 (.agg #[.slice A1 n1 c1, .int .i64 0, .int .i64 0, .int .i64 0])).setIfInBounds 58 (.agg #[.int .i64 v, .int .u32 (a : Int), .int .u32 (b : Int), .int .u32 (c : Int), .int .u32 (d : Int), .int .u32 (x : Int), .int .u32 (y : Int)])).setIfInBounds 59 (.int .i64 (k : Int))).setIfInBounds 14 (.pointer (some ⟨gC, 0, none⟩))), defers := DF } wv from by
              intro wv gC hHeld lC zC
              refine hI.out _ _ _ _ ?_
              obtain ⟨rfl, rfl⟩ := Act.mk.inj hTD.out
              try simp only [Act.put, List.setIfInBounds_toArray, List.set_cons_zero, List.set_cons_succ]
              refine wpAnyH_ready (rs := [4, 8]) (by kernel_rfl) (by simp) ?_
              refine AllReadyH.cons rfl (fun K hK => ?_) (AllReadyH.cons rfl (fun K hK => ?_) (AllReadyH.nil))
              · go_simp
                refine (D2.out _ (HT.out.below hHeld.2.out) (r1.out.below hHeld.2.out)).mono ?_
                rintro e vv ⟨S2, rfl, oS_, h1'⟩
                have nC := hide (oS_.ne (.inl zC.out.lt))
                have oS := hide (oS_.mono hHeld.2.out.size)
                replace zC := hide (zC.out.below h1')
                refine hK.out _ _ (⟨hide (hHeld.1.out.below h1'), hide (bel_next hHeld.2.out h1')⟩) (fun hHeld => ?_)
                clear hK K h1'
                try simp only [Act.put, List.setIfInBounds_toArray, List.set_cons_zero, List.set_cons_succ]
                refine wpAnyH_takeD (i := 5) (d := (some 55)) (v := ?_) rfl rfl (by kernel_rfl) (by kernel_rfl) (by kernel_rfl) (fun _ _ _ h => h) (Or.inl ⟨by rfl, ?_⟩) (by assumption) ?_
                rotate_left
                · ((intro w hSw; go_simp) <;> with_reducible rfl)
                try simp only [Act.put, List.setIfInBounds_toArray, List.set_cons_zero, List.set_cons_succ]
                refine wpAnyH_takeD (i := 6) (d := (some 61)) (v := ?_) rfl rfl (by kernel_rfl) (by kernel_rfl) (by kernel_rfl) (fun _ _ _ h => h) (Or.inl ⟨by rfl, ?_⟩) (by assumption) ?_
                rotate_left
                · ((intro w hSw; go_simp) <;> with_reducible rfl)
                try simp only [Act.put, List.setIfInBounds_toArray, List.set_cons_zero, List.set_cons_succ]
                refine wpAnyH_takeD (i := 7) (d := (some 62)) (v := ?_) rfl rfl (by kernel_rfl) (by kernel_rfl) (by kernel_rfl) (fun _ _ _ h => h) (Or.inl ⟨by rfl, ?_⟩) (by assumption) ?_
                rotate_left
                · ((intro w hSw; go_simp) <;> with_reducible rfl)
                try simp only [Act.put, List.setIfInBounds_toArray, List.set_cons_zero, List.set_cons_succ]
                refine hE.out _ _ _ _ ?_
                have hh := st201.out _ S2 gC hHeld lC zC oS nC
                try simp only [Act.put, List.setIfInBounds_toArray, List.set_cons_zero, List.set_cons_succ] at hh
                exact hh
              · go_simp
                have lB := hHeld.2.out.size
                have zB := hide (Ro.new wv #[.slice none 0 0, .slice none 0 0, .slice none 0 0, .slice none 0 0, .slice none 0 0, .slice none 0 0, .slice none 0 0] 28)
                have ne := (show wv.heap.size ≠ gC from fun h => by have := zC.out.lt; omega)
                replace zC := hide (zC.out.alloc (.cells #[.slice none 0 0, .slice none 0 0, .slice none 0 0, .slice none 0 0, .slice none 0 0, .slice none 0 0, .slice none 0 0] 28))
                refine hK.out _ _ (⟨hide (hHeld.1.out.alloc _), hide (bl_alloc hHeld.2.out _)⟩) (fun hHeld => ?_)
                clear hK K
                try simp only [Act.put, List.setIfInBounds_toArray, List.set_cons_zero, List.set_cons_succ]
                refine hE.out _ _ _ _ ?_
                have hh := st111.out _ wv.heap.size gC hHeld lB zB lC zC ne
                try simp only [Act.put, List.setIfInBounds_toArray, List.set_cons_zero, List.set_cons_succ] at hh
                exact hh)
            have st100 := hide (show ∀ (wv : World), (Hid (Ro wv (w.heap.size) (#[.int .i64 v, .int .u32 (a : Int), .int .u32 (b : Int), .int .u32 (c : Int), .int .u32 (d : Int), .int .u32 (x : Int), .int .u32 (y : Int)]) 35) ∧ Hid (Below wl.heap.size wl wv)) → FF 8 #[true, true, true, true, false, false, false, false, false, false, false, false] { tmps := ((((TM.setIfInBounds 56 (.slice A1 n1 c1)).setIfInBounds 57 (.agg #[.slice A1 n1 c1, .int .i64 0, .int .i64 0, .int .i64 0])).setIfInBounds 58 (.agg #[.int .i64 v, .int .u32 (a : Int), .int .u32 (b : Int), .int .u32 (c : Int), .int .u32 (d : Int), .int .u32 (x : Int), .int .u32 (y : Int)])).setIfInBounds 59 (.int .i64 (k : Int))), defers := DF } wv from by
              intro wv  hHeld 
              refine hI.out _ _ _ _ ?_
              obtain ⟨rfl, rfl⟩ := Act.mk.inj hTD.out
              try simp only [Act.put, List.setIfInBounds_toArray, List.set_cons_zero, List.set_cons_succ]
              refine wpAnyH_ready (rs := [4, 8, 9]) (by kernel_rfl) (by simp) ?_
              refine AllReadyH.cons rfl (fun K hK => ?_) (AllReadyH.cons rfl (fun K hK => ?_) (AllReadyH.cons rfl (fun K hK => ?_) (AllReadyH.nil)))
              · go_simp
                refine (D2.out _ (HT.out.below hHeld.2.out) (r1.out.below hHeld.2.out)).mono ?_
                rintro e vv ⟨S2, rfl, oS_, h1'⟩
                have oS := hide (oS_.mono hHeld.2.out.size)
                refine hK.out _ _ (⟨hide (hHeld.1.out.below h1'), hide (bel_next hHeld.2.out h1')⟩) (fun hHeld => ?_)
                clear hK K h1'
                try simp only [Act.put, List.setIfInBounds_toArray, List.set_cons_zero, List.set_cons_succ]
                refine wpAnyH_takeD (i := 5) (d := (some 55)) (v := ?_) rfl rfl (by kernel_rfl) (by kernel_rfl) (by kernel_rfl) (fun _ _ _ h => h) (Or.inl ⟨by rfl, ?_⟩) (by assumption) ?_
                rotate_left
                · ((intro w hSw; go_simp) <;> with_reducible rfl)
                try simp only [Act.put, List.setIfInBounds_toArray, List.set_cons_zero, List.set_cons_succ]
                refine wpAnyH_takeD (i := 6) (d := (some 61)) (v := ?_) rfl rfl (by kernel_rfl) (by kernel_rfl) (by kernel_rfl) (fun _ _ _ h => h) (Or.inl ⟨by rfl, ?_⟩) (by assumption) ?_
                rotate_left
                · ((intro w hSw; go_simp) <;> with_reducible rfl)
                try simp only [Act.put, List.setIfInBounds_toArray, List.set_cons_zero, List.set_cons_succ]
                refine wpAnyH_takeD (i := 7) (d := (some 62)) (v := ?_) rfl rfl (by kernel_rfl) (by kernel_rfl) (by kernel_rfl) (fun _ _ _ h => h) (Or.inl ⟨by rfl, ?_⟩) (by assumption) ?_
                rotate_left
                · ((intro w hSw; go_simp) <;> with_reducible rfl)
                try simp only [Act.put, List.setIfInBounds_toArray, List.set_cons_zero, List.set_cons_succ]
                refine hE.out _ _ _ _ ?_
                have hh := st200.out _ S2 hHeld oS
                try simp only [Act.put, List.setIfInBounds_toArray, List.set_cons_zero, List.set_cons_succ] at hh
                exact hh
              · go_simp
                have lB := hHeld.2.out.size
                have zB := hide (Ro.new wv #[.slice none 0 0, .slice none 0 0, .slice none 0 0, .slice none 0 0, .slice none 0 0, .slice none 0 0, .slice none 0 0] 28)
                refine hK.out _ _ (⟨hide (hHeld.1.out.alloc _), hide (bl_alloc hHeld.2.out _)⟩) (fun hHeld => ?_)
                clear hK K
                try simp only [Act.put, List.setIfInBounds_toArray, List.set_cons_zero, List.set_cons_succ]
                refine hE.out _ _ _ _ ?_
                have hh := st110.out _ wv.heap.size hHeld lB zB
                try simp only [Act.put, List.setIfInBounds_toArray, List.set_cons_zero, List.set_cons_succ] at hh
                exact hh
              · go_simp
                have lC := hHeld.2.out.size
                have zC := hide (Ro.new wv #[.slice none 0 0, .int .i64 0, .int .i64 0, .int .i64 0] 39)
                refine hK.out _ _ (⟨hide (hHeld.1.out.alloc _), hide (bl_alloc hHeld.2.out _)⟩) (fun hHeld => ?_)
                clear hK K
                try simp only [Act.put, List.setIfInBounds_toArray, List.set_cons_zero, List.set_cons_succ]
                refine hE.out _ _ _ _ ?_
                have hh := st101.out _ wv.heap.size hHeld lC zC
                try simp only [Act.put, List.setIfInBounds_toArray, List.set_cons_zero, List.set_cons_succ] at hh
                exact hh)
            have st011 := hide (show ∀ (wv : World) (gB : Nat) (gC : Nat), (Hid (Ro wv (w.heap.size) (#[.int .i64 v, .int .u32 (a : Int), .int .u32 (b : Int), .int .u32 (c : Int), .int .u32 (d : Int), .int .u32 (x : Int), .int .u32 (y : Int)]) 35) ∧ Hid (Below wl.heap.size wl wv)) → wl.heap.size ≤ gB → Hid (Ro wv gB #[.slice none 0 0, .slice none 0 0, .slice none 0 0, .slice none 0 0, .slice none 0 0, .slice none 0 0, .slice none 0 0] 28) → wl.heap.size ≤ gC → Hid (Ro wv gC #[.slice none 0 0, .int .i64 0, .int .i64 0, .int .i64 0] 39) → gB ≠ gC → FF 7 #[true, false, true, true, false, false, false, false, true, true, false, false] { tmps := (((((TM.setIfInBounds 56 (.slice A1 n1 c1)).setIfInBounds 58 (.agg #[.int .i64 v, .int .u32 (a : Int), .int .u32 (b : Int), .int .u32 (c : Int), .int .u32 (d : Int), .int .u32 (x : Int), .int .u32 (y : Int)])).setIfInBounds 59 (.int .i64 (k : Int))).setIfInBounds 13 (.pointer (some ⟨gB, 0, none⟩))).setIfInBounds 14 (.pointer (some ⟨gC, 0, none⟩))), defers := DF } wv from by
              intro wv gB gC hHeld lB zB lC zC ne
              refine hI.out _ _ _ _ ?_
              obtain ⟨rfl, rfl⟩ := Act.mk.inj hTD.out
              try simp only [Act.put, List.setIfInBounds_toArray, List.set_cons_zero, List.set_cons_succ]
              refine wpAnyH_ready (rs := [1]) (by kernel_rfl) (by simp) ?_
              refine AllReadyH.cons rfl (fun K hK => ?_) (AllReadyH.nil)
              · go_simp
                refine (cu_.New _ _ _ _).mono ?_
                rintro e vv ⟨rfl, h1'⟩
                replace zB := hide (zB.out.below h1')
                replace zC := hide (zC.out.below h1')
                refine hK.out _ _ (⟨hide (hHeld.1.out.below h1'), hide (bel_next hHeld.2.out h1')⟩) (fun hHeld => ?_)
                clear hK K h1'
                try simp only [Act.put, List.setIfInBounds_toArray, List.set_cons_zero, List.set_cons_succ]
                refine hE.out _ _ _ _ ?_
                have hh := st111.out _ gB gC hHeld lB zB lC zC ne
                try simp only [Act.put, List.setIfInBounds_toArray, List.set_cons_zero, List.set_cons_succ] at hh
                exact hh)
            have st010 := hide (show ∀ (wv : World) (gB : Nat), (Hid (Ro wv (w.heap.size) (#[.int .i64 v, .int .u32 (a : Int), .int .u32 (b : Int), .int .u32 (c : Int), .int .u32 (d : Int), .int .u32 (x : Int), .int .u32 (y : Int)]) 35) ∧ Hid (Below wl.heap.size wl wv)) → wl.heap.size ≤ gB → Hid (Ro wv gB #[.slice none 0 0, .slice none 0 0, .slice none 0 0, .slice none 0 0, .slice none 0 0, .slice none 0 0, .slice none 0 0] 28) → FF 8 #[true, false, true, true, false, false, false, false, true, false, false, false] { tmps := ((((TM.setIfInBounds 56 (.slice A1 n1 c1)).setIfInBounds 58 (.agg #[.int .i64 v, .int .u32 (a : Int), .int .u32 (b : Int), .int .u32 (c : Int), .int .u32 (d : Int), .int .u32 (x : Int), .int .u32 (y : Int)])).setIfInBounds 59 (.int .i64 (k : Int))).setIfInBounds 13 (.pointer (some ⟨gB, 0, none⟩))), defers := DF } wv from by
              intro wv gB hHeld lB zB
              refine hI.out _ _ _ _ ?_
              obtain ⟨rfl, rfl⟩ := Act.mk.inj hTD.out
              try simp only [Act.put, List.setIfInBounds_toArray, List.set_cons_zero, List.set_cons_succ]
              refine wpAnyH_ready (rs := [1, 9]) (by kernel_rfl) (by simp) ?_
              refine AllReadyH.cons rfl (fun K hK => ?_) (AllReadyH.cons rfl (fun K hK => ?_) (AllReadyH.nil))
              · go_simp
                refine (cu_.New _ _ _ _).mono ?_
                rintro e vv ⟨rfl, h1'⟩
                replace zB := hide (zB.out.below h1')
                refine hK.out _ _ (⟨hide (hHeld.1.out.below h1'), hide (bel_next hHeld.2.out h1')⟩) (fun hHeld => ?_)
                clear hK K h1'
                try simp only [Act.put, List.setIfInBounds_toArray, List.set_cons_zero, List.set_cons_succ]
                refine hE.out _ _ _ _ ?_
                have hh := st110.out _ gB hHeld lB zB
                try simp only [Act.put, List.setIfInBounds_toArray, List.set_cons_zero, List.set_cons_succ] at hh
                exact hh
              · go_simp
                have lC := hHeld.2.out.size
                have zC := hide (Ro.new wv #[.slice none 0 0, .int .i64 0, .int .i64 0, .int .i64 0] 39)
                have ne := (show gB ≠ wv.heap.size from fun h => by have := zB.out.lt; omega)
                replace zB := hide (zB.out.alloc (.cells #[.slice none 0 0, .int .i64 0, .int .i64 0, .int .i64 0] 39))
                refine hK.out _ _ (⟨hide (hHeld.1.out.alloc _), hide (bl_alloc hHeld.2.out _)⟩) (fun hHeld => ?_)
                clear hK K
                try simp only [Act.put, List.setIfInBounds_toArray, List.set_cons_zero, List.set_cons_succ]
                refine hE.out _ _ _ _ ?_
                have hh := st011.out _ gB wv.heap.size hHeld lB zB lC zC ne
                try simp only [Act.put, List.setIfInBounds_toArray, List.set_cons_zero, List.set_cons_succ] at hh
                exact hh)
            have st001 := hide (show ∀ (wv : World) (gC : Nat), (Hid (Ro wv (w.heap.size) (#[.int .i64 v, .int .u32 (a : Int), .int .u32 (b : Int), .int .u32 (c : Int), .int .u32 (d : Int), .int .u32 (x : Int), .int .u32 (y : Int)]) 35) ∧ Hid (Below wl.heap.size wl wv)) → wl.heap.size ≤ gC → Hid (Ro wv gC #[.slice none 0 0, .int .i64 0, .int .i64 0, .int .i64 0] 39) → FF 8 #[true, false, true, true, false, false, false, false, false, true, false, false] { tmps := ((((TM.setIfInBounds 56 (.slice A1 n1 c1)).setIfInBounds 58 (.agg #[.int .i64 v, .int .u32 (a : Int), .int .u32 (b : Int), .int .u32 (c : Int), .int .u32 (d : Int), .int .u32 (x : Int), .int .u32 (y : Int)])).setIfInBounds 59 (.int .i64 (k : Int))).setIfInBounds 14 (.pointer (some ⟨gC, 0, none⟩))), defers := DF } wv from by
              intro wv gC hHeld lC zC
              refine hI.out _ _ _ _ ?_
              obtain ⟨rfl, rfl⟩ := Act.mk.inj hTD.out
              try simp only [Act.put, List.setIfInBounds_toArray, List.set_cons_zero, List.set_cons_succ]
              refine wpAnyH_ready (rs := [1, 8]) (by kernel_rfl) (by simp) ?_
              refine AllReadyH.cons rfl (fun K hK => ?_) (AllReadyH.cons rfl (fun K hK => ?_) (AllReadyH.nil))
              · go_simp
                refine (cu_.New _ _ _ _).mono ?_
                rintro e vv ⟨rfl, h1'⟩
                replace zC := hide (zC.out.below h1')
                refine hK.out _ _ (⟨hide (hHeld.1.out.below h1'), hide (bel_next hHeld.2.out h1')⟩) (fun hHeld => ?_)
                clear hK K h1'
                try simp only [Act.put, List.setIfInBounds_toArray, List.set_cons_zero, List.set_cons_succ]
                refine hE.out _ _ _ _ ?_
                have hh := st101.out _ gC hHeld lC zC
                try simp only [Act.put, List.setIfInBounds_toArray, List.set_cons_zero, List.set_cons_succ] at hh
                exact hh
              · go_simp
                have lB := hHeld.2.out.size
                have zB := hide (Ro.new wv #[.slice none 0 0, .slice none 0 0, .slice none 0 0, .slice none 0 0, .slice none 0 0, .slice none 0 0, .slice none 0 0] 28)
                have ne := (show wv.heap.size ≠ gC from fun h => by have := zC.out.lt; omega)
                replace zC := hide (zC.out.alloc (.cells #[.slice none 0 0, .slice none 0 0, .slice none 0 0, .slice none 0 0, .slice none 0 0, .slice none 0 0, .slice none 0 0] 28))
                refine hK.out _ _ (⟨hide (hHeld.1.out.alloc _), hide (bl_alloc hHeld.2.out _)⟩) (fun hHeld => ?_)
                clear hK K
                try simp only [Act.put, List.setIfInBounds_toArray, List.set_cons_zero, List.set_cons_succ]
                refine hE.out _ _ _ _ ?_
                have hh := st011.out _ wv.heap.size gC hHeld lB zB lC zC ne
                try simp only [Act.put, List.setIfInBounds_toArray, List.set_cons_zero, List.set_cons_succ] at hh
                exact hh)
            have st000 := hide (show ∀ (wv : World), (Hid (Ro wv (w.heap.size) (#[.int .i64 v, .int .u32 (a : Int), .int .u32 (b : Int), .int .u32 (c : Int), .int .u32 (d : Int), .int .u32 (x : Int), .int .u32 (y : Int)]) 35) ∧ Hid (Below wl.heap.size wl wv)) → FF 9 #[true, false, true, true, false, false, false, false, false, false, false, false] { tmps := (((TM.setIfInBounds 56 (.slice A1 n1 c1)).setIfInBounds 58 (.agg #[.int .i64 v, .int .u32 (a : Int), .int .u32 (b : Int), .int .u32 (c : Int), .int .u32 (d : Int), .int .u32 (x : Int), .int .u32 (y : Int)])).setIfInBounds 59 (.int .i64 (k : Int))), defers := DF } wv from by
              intro wv  hHeld 
              refine hI.out _ _ _ _ ?_
              obtain ⟨rfl, rfl⟩ := Act.mk.inj hTD.out
              try simp only [Act.put, List.setIfInBounds_toArray, List.set_cons_zero, List.set_cons_succ]
              refine wpAnyH_ready (rs := [1, 8, 9]) (by kernel_rfl) (by simp) ?_
              refine AllReadyH.cons rfl (fun K hK => ?_) (AllReadyH.cons rfl (fun K hK => ?_) (AllReadyH.cons rfl (fun K hK => ?_) (AllReadyH.nil)))
              · go_simp
                refine (cu_.New _ _ _ _).mono ?_
                rintro e vv ⟨rfl, h1'⟩
                refine hK.out _ _ (⟨hide (hHeld.1.out.below h1'), hide (bel_next hHeld.2.out h1')⟩) (fun hHeld => ?_)
                clear hK K h1'
                try simp only [Act.put, List.setIfInBounds_toArray, List.set_cons_zero, List.set_cons_succ]
                refine hE.out _ _ _ _ ?_
                have hh := st100.out _  hHeld
                try simp only [Act.put, List.setIfInBounds_toArray, List.set_cons_zero, List.set_cons_succ] at hh
                exact hh
              · go_simp
                have lB := hHeld.2.out.size
                have zB := hide (Ro.new wv #[.slice none 0 0, .slice none 0 0, .slice none 0 0, .slice none 0 0, .slice none 0 0, .slice none 0 0, .slice none 0 0] 28)
                refine hK.out _ _ (⟨hide (hHeld.1.out.alloc _), hide (bl_alloc hHeld.2.out _)⟩) (fun hHeld => ?_)
                clear hK K
                try simp only [Act.put, List.setIfInBounds_toArray, List.set_cons_zero, List.set_cons_succ]
                refine hE.out _ _ _ _ ?_
                have hh := st010.out _ wv.heap.size hHeld lB zB
                try simp only [Act.put, List.setIfInBounds_toArray, List.set_cons_zero, List.set_cons_succ] at hh
                exact hh
              · go_simp
                have lC := hHeld.2.out.size
                have zC := hide (Ro.new wv #[.slice none 0 0, .int .i64 0, .int .i64 0, .int .i64 0] 39)
                refine hK.out _ _ (⟨hide (hHeld.1.out.alloc _), hide (bl_alloc hHeld.2.out _)⟩) (fun hHeld => ?_)
                clear hK K
                try simp only [Act.put, List.setIfInBounds_toArray, List.set_cons_zero, List.set_cons_succ]
                refine hE.out _ _ _ _ ?_
                have hh := st001.out _ wv.heap.size hHeld lC zC
                try simp only [Act.put, List.setIfInBounds_toArray, List.set_cons_zero, List.set_cons_succ] at hh
                exact hh)
            have hh := st000.out _ hHeld
            obtain ⟨rfl, rfl⟩ := Act.mk.inj hTD.out
            try simp only [Act.put, List.setIfInBounds_toArray, List.set_cons_zero, List.set_cons_succ] at hh
            exact hh
          case rest =>
            obtain ⟨gB2, gC2, S2, rfl, rfl, lB2, lC2, ne2, k13, -, oS2, -, -, h1⟩ := hcut
            rename World => wm
            replace hb4' := hide (bel_next hb4'.out h1.out)
            replace h1 := h1.out
            clear D2 k5
            replace r1 := hide (r1.out.below h1)
            replace r8 := hide (r8.out.below h1)
            replace k9 := hide (k9.out.below h1)
            replace oS := hide (oS.out.below h1)
            replace i9 := hide (i9.out.below h1)
            replace HT := hide (HT.out.below h1)
            replace hb := hide (bel_next hb.out h1)
            clear h1
            have i13 := hide oS2.out.is
            clear oS2
            obtain ⟨k9c0, _⟩ := ro_cf k9.out 0 _ rfl
            obtain ⟨k9c1, _⟩ := ro_cf k9.out 1 _ rfl
            obtain ⟨k9c2, _⟩ := ro_cf k9.out 2 _ rfl
            obtain ⟨k9c3, _⟩ := ro_cf k9.out 3 _ rfl
            obtain ⟨k9c4, _⟩ := ro_cf k9.out 4 _ rfl
            obtain ⟨k9c5, _⟩ := ro_cf k9.out 5 _ rfl
            obtain ⟨k9c6, _⟩ := ro_cf k9.out 6 _ rfl
            obtain ⟨k13c0, _⟩ := ro_cf k13.out 0 _ rfl
            obtain ⟨k13c1, _⟩ := ro_cf k13.out 1 _ rfl
            obtain ⟨k13c2, _⟩ := ro_cf k13.out 2 _ rfl
            obtain ⟨k13c3, _⟩ := ro_cf k13.out 3 _ rfl
            obtain ⟨k13c4, _⟩ := ro_cf k13.out 4 _ rfl
            obtain ⟨k13c5, _⟩ := ro_cf k13.out 5 _ rfl
            obtain ⟨k13c6, _⟩ := ro_cf k13.out 6 _ rfl
            go_wp2_with fail
            refine (EQ.out S S2 _ i9.out i13.out).mono ?_
            rintro e w8 ⟨rfl, h1⟩
            clear k9c0 k9c1 k9c2 k9c3 k9c4 k9c5 k9c6
            clear k13c0 k13c1 k13c2 k13c3 k13c4 k13c5 k13c6
            replace hb4' := hide (bel_next hb4'.out h1)
            clear EQ i13 k13 i9
            replace r1 := hide (r1.out.below h1)
            replace r8 := hide (r8.out.below h1)
            replace k9 := hide (k9.out.below h1)
            replace oS := hide (oS.out.below h1)
            replace HT := hide (HT.out.below h1)
            replace hb := hide (bel_next hb.out h1)
            clear h1
            have hix := oS.out.ix
            have hch := oS.out.ch
            have hQ := oS.out.ok
            have hl9 := oS.out.is.lens
            have hix2 := hQ.ix
            have hch2 := hQ.ch
            clear oS hQ
            obtain ⟨⟨tA, tn, tc⟩, ⟨Ai, ni, ci⟩, ⟨yA, yn, yc⟩, ⟨Ah, nh, ch_⟩, ⟨pA, pn, pc⟩, ⟨sA, sn, sc⟩, ⟨uA, un, uc⟩⟩ := S
            dsimp only at k9 hix hch hl9
            have hni : ni ≤ 1000 ∧ nh ≤ 1000 := by have h := hle.out; have h2 := HN.out; unfold Bk.le at h; omega
            obtain ⟨hni, hnh⟩ := hni
            replace hix := hide hix
            replace hch := hide hch
            have hbw := hide hb.out
            clear hle HT hl9 hb4
            generalize Q.ix = qi at *
            generalize Q.ch = qh at *
            have hu4 := hb4'.out.size
            go_upto_region 14 with fail
            go_wp2
            go_loopw [15] (fun iv wr => ∃ (j : Nat) (Ls Lc : List Int), j ≤ ni ∧ iv = .int .i64 (j : Nat) ∧ Bytes Ls ∧ Bytes Lc ∧ Hid (Ow wr w4.heap.size 5 Ai ni ci (Ls.map (Value.int .u8))) ∧ Hid (Ow wr w4.heap.size 5 Ah nh ch_ (Lc.map (Value.int .u8))) ∧ Hid (Ro wr gB #[.slice tA tn tc, .slice Ai ni ci, .slice yA yn yc, .slice Ah nh ch_, .slice pA pn pc, .slice sA sn sc, .slice uA un uc] 28) ∧ Hid (Below w4.heap.size w4 wr)) (fun iv _ => ni - (intOf iv).toNat)
            case atStart => exact ⟨0, _, _, by omega, rfl, hix2, hch2, hix, hch, k9, hb4'⟩
            case round =>
              clear hix hch k9 hb4' hix2 hch2 hbw hu4
              obtain ⟨j, Ls, Lc, hj, rfl, hLs, hLc, oL, oC, k9, hbx⟩ := hrel
              obtain ⟨bc, _⟩ := ro_cf k9.out 1 _ rfl
              by_cases hlt : j < ni
              · obtain ⟨gi, rfl, hgi, -⟩ := oL.out.form (by omega)
                have cc := oL.out.cell j hlt
                have hl2 : j < Ls.length := by have := oL.out.len; simp at this; omega
                rw [map_at .u8 Ls j hl2] at cc
                have cf := oL.out.frozen j
                have hy := u8w (Ls[j]?.getD 0 + 1)
                have os := hide (oL.out.set j (.int .u8 (IntKind.u8.wrap (Ls[j]?.getD 0 + 1))))
                rw [← List.map_set] at os
                have hs := hide (bytes_set hLs j hy.1 hy.2)
                obtain ⟨l', hl', oth'⟩ := ow_poke oC.out hLc gi j hy.1 hy.2
                have hbs := hide (bl_set (o := j) hbx.out hgi (.int .u8 (IntKind.u8.wrap (Ls[j]?.getD 0 + 1))))
                have ks := hide (ro_set_ne k9.out (g' := gi) (by have := ow_ne_ro oL.out k9.out (by decide); intro h; exact this (by rw [h]; rfl)) j (.int .u8 (IntKind.u8.wrap (Ls[j]?.getD 0 + 1))))
                clear oL oC hbx hLs hLc hy k9
                replace hl' := hide hl'
                replace oth' := hide oth'
                generalize Ls[j]?.getD 0 = x at *
                go_wp2_with fail
                go_region
                go_wp2
                go_roundw
                case rel => exact ⟨j + 1, _, _, by omega, by go_num, hs.out, hl'.out, hide os.out.drew, hide oth'.out.drew, hide ks.out.drew, hide (bl_drew hbs.out)⟩
                case measure => simp [intOf]; omega
              · obtain rfl : ni = j := by omega
                go_upto_region 18 with fail
                clear bc
                go_wp2
                go_loopw [16] (fun iv wr => ∃ (j : Nat) (Ls Lc : List Int), j ≤ nh ∧ iv = .int .i64 (j : Nat) ∧ Bytes Ls ∧ Bytes Lc ∧ Hid (Ow wr w4.heap.size 5 Ai ni ci (Ls.map (Value.int .u8))) ∧ Hid (Ow wr w4.heap.size 5 Ah nh ch_ (Lc.map (Value.int .u8))) ∧ Hid (Ro wr gB #[.slice tA tn tc, .slice Ai ni ci, .slice yA yn yc, .slice Ah nh ch_, .slice pA pn pc, .slice sA sn sc, .slice uA un uc] 28) ∧ Hid (Below w4.heap.size w4 wr)) (fun iv _ => nh - (intOf iv).toNat)
                case atStart => exact ⟨0, _, _, by omega, rfl, hLs, hLc, oL, oC, k9, hbx⟩
                case round =>
                  clear hLs hLc oL oC k9 hbx hlt hj
                  obtain ⟨j, Ls, Lc, hj, rfl, hLs, hLc, oL, oC, k9, hbx⟩ := hrel
                  obtain ⟨bc, _⟩ := ro_cf k9.out 3 _ rfl
                  by_cases hlt : j < nh
                  · obtain ⟨gi, rfl, hgi, -⟩ := oC.out.form (by omega)
                    have cc := oC.out.cell j hlt
                    have hl2 : j < Lc.length := by have := oC.out.len; simp at this; omega
                    rw [map_at .u8 Lc j hl2] at cc
                    have cf := oC.out.frozen j
                    have hy := u8w (Lc[j]?.getD 0 + 1)
                    have os := hide (oC.out.set j (.int .u8 (IntKind.u8.wrap (Lc[j]?.getD 0 + 1))))
                    rw [← List.map_set] at os
                    have hs := hide (bytes_set hLc j hy.1 hy.2)
                    obtain ⟨l', hl', oth'⟩ := ow_poke oL.out hLs gi j hy.1 hy.2
                    have hbs := hide (bl_set (o := j) hbx.out hgi (.int .u8 (IntKind.u8.wrap (Lc[j]?.getD 0 + 1))))
                    have ks := hide (ro_set_ne k9.out (g' := gi) (by have := ow_ne_ro oC.out k9.out (by decide); intro h; exact this (by rw [h]; rfl)) j (.int .u8 (IntKind.u8.wrap (Lc[j]?.getD 0 + 1))))
                    clear oC oL hbx hLc hLs hy k9
                    replace hl' := hide hl'
                    replace oth' := hide oth'
                    generalize Lc[j]?.getD 0 = x at *
                    go_wp2_with fail
                    go_region
                    go_wp2
                    go_roundw
                    case rel => exact ⟨j + 1, _, _, by omega, by go_num, hl'.out, hs.out, hide oth'.out.drew, hide os.out.drew, hide ks.out.drew, hide (bl_drew hbs.out)⟩
                    case measure => simp [intOf]; omega
                  · obtain rfl : nh = j := by omega
                    go_wp2_with fail
                    refine (SM.out _ (r8s.out.below hbx.out) (r1s.out.below hbx.out)).mono ?_
                    rintro e w9 ⟨rfl, h1⟩
                    clear bc
                    go_wp2
                    go_ret
                    exact ⟨rfl, bel_next (bel_next hb4s.out hbx.out) h1⟩
end l19_
end Go.Proofs.YtbajdlgcajeldaaDoor

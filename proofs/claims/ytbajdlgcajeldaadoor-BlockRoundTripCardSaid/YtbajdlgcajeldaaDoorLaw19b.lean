/-
  THE WALKS OF THE LAWS OF LAYER 19 (zoneinfolaw19): BlockRoundTrip. Condition: the table's fact.
-/
import Derived.Test.YtbajdlgcajeldaaDoorLaw19
import Derived.Test.YtbajdlgcajeldaaDoorLaw19w
import Derived.Deep.RegionLaw
namespace Go.Proofs.YtbajdlgcajeldaaDoor
open Go.ChangeShapes Go.WideShapes Go.ChangeAt Go.RowKit
set_option linter.unusedVariables false
set_option linter.unusedSimpArgs false
set_option maxRecDepth 100000
namespace l19_
set_option maxHeartbeats 16000000 in
theorem roundTrip (S0 : BkS) (B : Bk) (wd : Bool) (A1 : Option Addr) (n1 c1 : Nat) (z1 : List Int) (w : World) (hT : Tq w) (hS : IsBk w S0 B) (h1 : IsRw .u8 w A1 n1 c1 z1) :
    Calls Tryd.prog 3 #[bkV S0, .bool wd, .slice A1 n1 c1] w fun e w' => e = .returned (.bool true) ∧ Below w.heap.size w w' := by
  show Calls Tryd.prog 3 #[.agg #[.slice S0.ti.A S0.ti.n S0.ti.c, .slice S0.ix.A S0.ix.n S0.ix.c, .slice S0.ty.A S0.ty.n S0.ty.c, .slice S0.ch.A S0.ch.n S0.ch.c, .slice S0.lp.A S0.lp.n S0.lp.c, .slice S0.sd.A S0.sd.n S0.sd.c, .slice S0.ut.A S0.ut.n S0.ut.c], .bool wd, .slice A1 n1 c1] w _
  have r1 := hide h1.rd
  have B1 := hide (show Bytes (z1.take n1) from bytes_of_mem fun q hq => wf_u8 (h1.wf q hq))
  have nil1 := hide h1.nil
  obtain ⟨oc1, om1⟩ := h1.cap
  obtain ⟨k, hk, hK⟩ : ∃ k : Nat, (k = 4 ∨ k = 8) ∧ (if wd = true then (8 : Int) else 4) = (k : Int) := by cases wd; exact ⟨4, .inl rfl, rfl⟩; exact ⟨8, .inr rfl, rfl⟩
  have Zs := hide (fun w => (r14_.SizeB wd w).mono (R' := fun e w' => e = .returned (.int .i64 (k : Int)) ∧ Below w.heap.size w w') (by rintro e w' ⟨rfl, h⟩; exact ⟨by rw [hK], h⟩))
  clear hK h1
  have hb := hide (bl_new w (.cells #[.slice S0.ti.A S0.ti.n S0.ti.c, .slice S0.ix.A S0.ix.n S0.ix.c, .slice S0.ty.A S0.ty.n S0.ty.c, .slice S0.ch.A S0.ch.n S0.ch.c, .slice S0.lp.A S0.lp.n S0.lp.c, .slice S0.sd.A S0.sd.n S0.sd.c, .slice S0.ut.A S0.ut.n S0.ut.c] 28))
  have k3 := hide (Ro.new w #[.slice S0.ti.A S0.ti.n S0.ti.c, .slice S0.ix.A S0.ix.n S0.ix.c, .slice S0.ty.A S0.ty.n S0.ty.c, .slice S0.ch.A S0.ch.n S0.ch.c, .slice S0.lp.A S0.lp.n S0.lp.c, .slice S0.sd.A S0.sd.n S0.sd.c, .slice S0.ut.A S0.ut.n S0.ut.c] 28)
  have HT := hide (hT.below hb.out)
  replace r1 := hide (r1.out.below hb.out)
  have i0 := hide (hS.below hb.out)
  clear hT hS
  go_enter Tryd.func3, Tryd.ntmps3
  go_upto_region 1 with fail
  generalize w.alloc (.cells #[.slice S0.ti.A S0.ti.n S0.ti.c, .slice S0.ix.A S0.ix.n S0.ix.c, .slice S0.ty.A S0.ty.n S0.ty.c, .slice S0.ch.A S0.ch.n S0.ch.c, .slice S0.lp.A S0.lp.n S0.lp.c, .slice S0.sd.A S0.sd.n S0.sd.c, .slice S0.ut.A S0.ut.n S0.ut.c] 28) = u1 at *
  go_wp2_with fail
  refine (Zs.out _).mono ?_
  rintro e w1 ⟨rfl, h1⟩
  replace k3 := hide (k3.out.below h1)
  replace r1 := hide (r1.out.below h1)
  replace i0 := hide (i0.out.below h1)
  replace HT := hide (HT.out.below h1)
  replace hb := hide (bel_next hb.out h1)
  clear h1
  clear Zs
  go_wp2_with fail
  refine (awake _ HT.out).mono ?_
  rintro e w2 ⟨rfl, h1⟩
  replace k3 := hide (k3.out.below h1)
  replace r1 := hide (r1.out.below h1)
  replace i0 := hide (i0.out.below h1)
  replace HT := hide (HT.out.below h1)
  replace hb := hide (bel_next hb.out h1)
  clear h1
  obtain ⟨k3c0, _⟩ := ro_cf k3.out 0 _ rfl
  obtain ⟨k3c1, _⟩ := ro_cf k3.out 1 _ rfl
  obtain ⟨k3c2, _⟩ := ro_cf k3.out 2 _ rfl
  obtain ⟨k3c3, _⟩ := ro_cf k3.out 3 _ rfl
  obtain ⟨k3c4, _⟩ := ro_cf k3.out 4 _ rfl
  obtain ⟨k3c5, _⟩ := ro_cf k3.out 5 _ rfl
  obtain ⟨k3c6, _⟩ := ro_cf k3.out 6 _ rfl
  go_wp2_with fail
  refine (r19_.Encodable S0 B k k _ rfl hk i0.out).mono ?_
  rintro e w3 ⟨rfl, h1⟩
  clear k3c0 k3c1 k3c2 k3c3 k3c4 k3c5 k3c6
  replace k3 := hide (k3.out.below h1)
  replace r1 := hide (r1.out.below h1)
  replace i0 := hide (i0.out.below h1)
  replace HT := hide (HT.out.below h1)
  replace hb := hide (bel_next hb.out h1)
  clear h1
  rcases hen : encOk k B with _ | _
  · go_wp2_with fail
    refine (awake _ HT.out).mono ?_
    rintro e w4 ⟨rfl, h1⟩
    replace k3 := hide (k3.out.below h1)
    replace r1 := hide (r1.out.below h1)
    replace i0 := hide (i0.out.below h1)
    replace HT := hide (HT.out.below h1)
    replace hb := hide (bel_next hb.out h1)
    clear h1
    go_wp2
    go_ret
    exact ⟨rfl, hb.out⟩
  · by_cases hn : 500 < n1
    · go_wp2_with fail
      refine (awake _ HT.out).mono ?_
      rintro e w4 ⟨rfl, h1⟩
      replace k3 := hide (k3.out.below h1)
      replace r1 := hide (r1.out.below h1)
      replace i0 := hide (i0.out.below h1)
      replace HT := hide (HT.out.below h1)
      replace hb := hide (bel_next hb.out h1)
      clear h1
      go_wp2
      go_ret
      exact ⟨rfl, hb.out⟩
    · have hn2 : (n1 : Int) ≤ 500 := by omega
      obtain ⟨hft, hfw⟩ := encOk_fit hen
      have hle := few_le hfw
      have hok := hide i0.out.ok
      have hfw2 : B.ti.length ≤ 200 ∧ B.ix.length ≤ 200 ∧ B.ty.length ≤ 200 ∧ B.ch.length ≤ 600 ∧ B.lp.length ≤ 200 ∧ B.sd.length ≤ 200 ∧ B.ut.length ≤ 200 := by simp only [fewB, Bool.and_eq_true, decide_eq_true_eq] at hfw; omega
      have hL : LyC B.ut.length B.sd.length B.lp.length B.ti.length B.ty.length B.ch.length (k : Int) := ⟨by unfold C32; omega, by unfold C32; omega, by unfold C32; omega, by unfold C32; omega, by unfold C32; omega, by unfold C32; omega, by omega⟩
      obtain ⟨N, hN⟩ : ∃ N, N = totB k B := ⟨_, rfl⟩
      have hel : (encB k B).length = N := by rw [hN]; exact encB_len k B hft.len
      have hNb : N ≤ 20000 := by rw [hN]; unfold totB tot; rcases hk with rfl | rfl <;> omega
      have E := hide (fun w hT (hi : IsBk w S0 B) => bl_.Encode S0 B k N k w hT rfl hk hi (by unfold Bk.le at *; omega) hft hel.symm)
      have H := hide (fun w hT (hi : IsBk w S0 B) => bl_.Header S0 B 1 w hT hi (by unfold Bk.le at *; omega))
      have Sm := hide (fun w => r14_.Sum 1 B.ut.length B.sd.length B.lp.length B.ti.length B.ty.length B.ch.length k w hL)
      have htv : totV (B.ut.length : Int) B.sd.length B.lp.length B.ti.length B.ty.length B.ch.length k = (N : Int) := by rw [hN]; unfold totV totB tot; rcases hk with rfl | rfl <;> omega
      rw [htv] at Sm
      dsimp only [hdB, hdV] at H Sm
      have hq : DecAt k B.ut.length B.sd.length B.lp.length B.ti.length B.ty.length B.ch.length (encB k B ++ z1.take n1) 0 0 0 0 B (N : Int) 0 0 := ⟨fun h => absurd rfl h, fun _ => ⟨rfl, 0, rfl, Nat.zero_le _, by have := decB_enc hk hok.out hft [] (z1.take n1) 0; rw [List.nil_append, List.length_nil, Nat.zero_add, ← hN] at this; exact this⟩⟩
      have heB : Bytes (encB k B) := encB_bytes k hok.out
      have hbb : Bytes (encB k B ++ z1.take n1) := bytes_of_mem fun x hx => by rcases List.mem_append.1 hx with h | h; exact heB.mem x h; exact B1.out.mem x h
      have D := hide (fun A c w hT hA hc hcm hr => bl_.DecodeQ A (N + n1) c (encB k B ++ z1.take n1) 1 B.ut.length B.sd.length B.lp.length B.ti.length B.ty.length B.ch.length k k 0 0 0 0 B N 0 0 w hT rfl hk hL hA hc hcm hr hbb (by omega) hq)
      dsimp only [bkV, cu, hdV] at D
      have O1 := hide (oneCells .u8 (encB k B))
      have O2 := hide (oneCells .u8 (z1.take n1))
      have wN : IntKind.u64.wrap (N : Int) = (N : Int) := by rw [IntKind.wrap_u64]; omega
      clear hL htv hq heB hbb hfw hfw2 hle hen hN hel
      replace hft := hide hft
      replace hk := hide hk
      generalize encB k B = es at *
      obtain ⟨k3c0, _⟩ := ro_cf k3.out 0 _ rfl
      obtain ⟨k3c1, _⟩ := ro_cf k3.out 1 _ rfl
      obtain ⟨k3c2, _⟩ := ro_cf k3.out 2 _ rfl
      obtain ⟨k3c3, _⟩ := ro_cf k3.out 3 _ rfl
      obtain ⟨k3c4, _⟩ := ro_cf k3.out 4 _ rfl
      obtain ⟨k3c5, _⟩ := ro_cf k3.out 5 _ rfl
      obtain ⟨k3c6, _⟩ := ro_cf k3.out 6 _ rfl
      go_wp2_with fail
      refine (E.out _ HT.out i0.out).mono ?_
      rintro e w5 ⟨A8, c8, rfl, o8, h1⟩
      clear k3c0 k3c1 k3c2 k3c3 k3c4 k3c5 k3c6
      replace k3 := hide (k3.out.below h1)
      replace r1 := hide (r1.out.below h1)
      replace i0 := hide (i0.out.below h1)
      replace HT := hide (HT.out.below h1)
      replace hb := hide (bel_next hb.out h1)
      clear h1
      have r8 := hide o8.rd
      have nil8 := hide o8.nilcap
      clear o8 E
      obtain ⟨k3c0, _⟩ := ro_cf k3.out 0 _ rfl
      obtain ⟨k3c1, _⟩ := ro_cf k3.out 1 _ rfl
      obtain ⟨k3c2, _⟩ := ro_cf k3.out 2 _ rfl
      obtain ⟨k3c3, _⟩ := ro_cf k3.out 3 _ rfl
      obtain ⟨k3c4, _⟩ := ro_cf k3.out 4 _ rfl
      obtain ⟨k3c5, _⟩ := ro_cf k3.out 5 _ rfl
      obtain ⟨k3c6, _⟩ := ro_cf k3.out 6 _ rfl
      go_wp2_with fail
      refine (H.out _ HT.out i0.out).mono ?_
      rintro e w6 ⟨rfl, h1⟩
      clear k3c0 k3c1 k3c2 k3c3 k3c4 k3c5 k3c6
      replace k3 := hide (k3.out.below h1)
      replace r1 := hide (r1.out.below h1)
      replace i0 := hide (i0.out.below h1)
      replace r8 := hide (r8.out.below h1)
      replace HT := hide (HT.out.below h1)
      replace hb := hide (bel_next hb.out h1)
      clear h1
      clear H
      go_upto_region 6 with fail
      have k9 := hide (Ro.new w6 #[.int .i64 1, .int .u32 (B.ut.length : Int), .int .u32 (B.sd.length : Int), .int .u32 (B.lp.length : Int), .int .u32 (B.ti.length : Int), .int .u32 (B.ty.length : Int), .int .u32 (B.ch.length : Int)] 35)
      have h1 := bl_new w6 (.cells #[.int .i64 1, .int .u32 (B.ut.length : Int), .int .u32 (B.sd.length : Int), .int .u32 (B.lp.length : Int), .int .u32 (B.ti.length : Int), .int .u32 (B.ty.length : Int), .int .u32 (B.ch.length : Int)] 35)
      replace k3 := hide (k3.out.below h1)
      replace r1 := hide (r1.out.below h1)
      replace i0 := hide (i0.out.below h1)
      replace r8 := hide (r8.out.below h1)
      replace HT := hide (HT.out.below h1)
      replace hb := hide (bel_next hb.out h1)
      clear h1
      generalize (w6.alloc (.cells #[.int .i64 1, .int .u32 (B.ut.length : Int), .int .u32 (B.sd.length : Int), .int .u32 (B.lp.length : Int), .int .u32 (B.ti.length : Int), .int .u32 (B.ty.length : Int), .int .u32 (B.ch.length : Int)] 35)) = u5 at *
      generalize w6.heap.size = g9 at *
      have ap_m0 : 0 + N ≤ maxLen := by simp [maxLen]; omega
      have ap_b0 : (0 + N) * 1 ≤ 140737488355328 := by omega
      have ap_m1 : N + n1 ≤ maxLen := by simp [maxLen]; omega
      have ap_b1 : (N + n1) * 1 ≤ 140737488355328 := by omega
      go_cut [10, 11] (fun s10 s11 wz => ∃ (gB gC : Nat) (S : BkS) (Ap1 : Option Addr) (cp1 : Nat), s10 = .pointer (some ⟨gB, 0, none⟩) ∧ s11 = .pointer (some ⟨gC, 0, none⟩) ∧ u5.heap.size ≤ gB ∧ u5.heap.size ≤ gC ∧ gB ≠ gC ∧ Hid (Ro wz gB #[.slice S.ti.A S.ti.n S.ti.c, .slice S.ix.A S.ix.n S.ix.c, .slice S.ty.A S.ty.n S.ty.c, .slice S.ch.A S.ch.n S.ch.c, .slice S.lp.A S.lp.n S.lp.c, .slice S.sd.A S.sd.n S.sd.c, .slice S.ut.A S.ut.n S.ut.c] 28) ∧ Hid (Ro wz gC #[.slice Ap1 (N + n1) cp1, .int .i64 (N : Int), .int .i64 0, .int .i64 0] 39) ∧ Hid (OwBk wz u5.heap.size S B) ∧ Hid (NeS S gB) ∧ Hid (NeS S gC) ∧ Hid (Below u5.heap.size u5 wz))
      case first =>
        have lbx0 := (show g9 < u5.heap.size from k9.out.lt)
        refine wp_region_held_drew (S := fun w' => Hid (Ro w' (g9) (#[.int .i64 1, .int .u32 (B.ut.length : Int), .int .u32 (B.sd.length : Int), .int .u32 (B.lp.length : Int), .int .u32 (B.ti.length : Int), .int .u32 (B.ty.length : Int), .int .u32 (B.ch.length : Int)]) 35) ∧ Hid (Below u5.heap.size u5 w')) (by kernel_rfl) (⟨hide k9.out.drew, hide (bl_drew (bl_refl _))⟩) (fun hHeld => ?_)
        generalize u5.drew = u0 at *
        refine wpAnyH_takeD (i := 1) (d := (some 35)) (v := ?_) rfl rfl (by kernel_rfl) (by kernel_rfl) (by kernel_rfl) (fun _ _ _ h => h) (Or.inl ⟨by rfl, ?_⟩) (by assumption) ?_
        rotate_left
        · ((intro w hSw; go_simp) <;> with_reducible rfl)
        try simp only [Act.put, List.setIfInBounds_toArray, List.set_cons_zero, List.set_cons_succ]
        refine wpAnyH_takeD (i := 3) (d := (some 37)) (v := ?_) rfl rfl (by kernel_rfl) (by kernel_rfl) (by kernel_rfl) (fun _ _ _ h => h) (Or.inl ⟨by rfl, ?_⟩) (by assumption) ?_
        rotate_left
        · ((intro w hSw; go_simp) <;> with_reducible rfl)
        try simp only [Act.put, List.setIfInBounds_toArray, List.set_cons_zero, List.set_cons_succ]
        refine wpAnyH_takeD (i := 6) (d := (some 40)) rfl rfl (by kernel_rfl) (by kernel_rfl) (by kernel_rfl) (fun _ _ _ h => h) (yieldsIf_load_row (by rfl) 35 _ rfl (g9) rfl 35 #[.int .i64 1, .int .u32 (B.ut.length : Int), .int .u32 (B.sd.length : Int), .int .u32 (B.lp.length : Int), .int .u32 (B.ti.length : Int), .int .u32 (B.ty.length : Int), .int .u32 (B.ch.length : Int)] _ (fun w hw => hw.1.out) Tryd.underlying35 rfl (by kernel_rfl)) (by assumption) ?_
        try simp only [Act.put, List.setIfInBounds_toArray, List.set_cons_zero, List.set_cons_succ]
        refine wpAnyH_takeD (i := 7) (d := (some 41)) (v := ?_) rfl rfl (by kernel_rfl) (by kernel_rfl) (by kernel_rfl) (fun _ _ _ h => h) (Or.inl ⟨by rfl, ?_⟩) (by assumption) ?_
        rotate_left
        · ((intro w hSw; go_simp) <;> with_reducible rfl)
        try simp only [Act.put, List.setIfInBounds_toArray, List.set_cons_zero, List.set_cons_succ]
        refine wpAnyH_share (fun FF hI hE TM DF hTD => ?_)
        have st511 := hide (show ∀ (wv : World) (gL : Nat) (Ap0 : Option Addr) (cp0 : Nat) (Ap1 : Option Addr) (cp1 : Nat) (S : BkS) (gB : Nat) (gC : Nat), (Hid (Ro wv (g9) (#[.int .i64 1, .int .u32 (B.ut.length : Int), .int .u32 (B.sd.length : Int), .int .u32 (B.lp.length : Int), .int .u32 (B.ti.length : Int), .int .u32 (B.ty.length : Int), .int .u32 (B.ch.length : Int)]) 35) ∧ Hid (Below u5.heap.size u5 wv)) → u5.heap.size ≤ gB → Hid (Ro wv gB #[.slice none 0 0, .slice none 0 0, .slice none 0 0, .slice none 0 0, .slice none 0 0, .slice none 0 0, .slice none 0 0] 28) → u5.heap.size ≤ gC → Hid (Ro wv gC #[.slice none 0 0, .int .i64 0, .int .i64 0, .int .i64 0] 39) → gB ≠ gC → Hid (OwBk wv u5.heap.size S B) → Hid (NeS S gB) → Hid (NeS S gC) → FF 2 #[true, true, true, true, true, true, true, true, true, true, true, true, true, true, false, false] { tmps := ((((((((((((((TM.setIfInBounds 34 (.slice (some ⟨gL, 0, none⟩) 0 0)).setIfInBounds 35 (.slice A8 N c8)).setIfInBounds 36 (.slice Ap0 N cp0)).setIfInBounds 37 (.slice A1 n1 c1)).setIfInBounds 38 (.slice Ap1 (N + n1) cp1)).setIfInBounds 39 (.agg #[.slice Ap1 (N + n1) cp1, .int .i64 0, .int .i64 0, .int .i64 0])).setIfInBounds 40 (.agg #[.int .i64 1, .int .u32 (B.ut.length : Int), .int .u32 (B.sd.length : Int), .int .u32 (B.lp.length : Int), .int .u32 (B.ti.length : Int), .int .u32 (B.ty.length : Int), .int .u32 (B.ch.length : Int)])).setIfInBounds 41 (.int .i64 (k : Int))).setIfInBounds 42 (.tuple #[.agg #[.slice S.ti.A S.ti.n S.ti.c, .slice S.ix.A S.ix.n S.ix.c, .slice S.ty.A S.ty.n S.ty.c, .slice S.ch.A S.ch.n S.ch.c, .slice S.lp.A S.lp.n S.lp.c, .slice S.sd.A S.sd.n S.sd.c, .slice S.ut.A S.ut.n S.ut.c], .agg #[.slice Ap1 (N + n1) cp1, .int .i64 (N : Int), .int .i64 0, .int .i64 0]])).setIfInBounds 33 (.tuple #[.agg #[.slice S.ti.A S.ti.n S.ti.c, .slice S.ix.A S.ix.n S.ix.c, .slice S.ty.A S.ty.n S.ty.c, .slice S.ch.A S.ch.n S.ch.c, .slice S.lp.A S.lp.n S.lp.c, .slice S.sd.A S.sd.n S.sd.c, .slice S.ut.A S.ut.n S.ut.c], .agg #[.slice Ap1 (N + n1) cp1, .int .i64 (N : Int), .int .i64 0, .int .i64 0]])).setIfInBounds 43 (.agg #[.slice S.ti.A S.ti.n S.ti.c, .slice S.ix.A S.ix.n S.ix.c, .slice S.ty.A S.ty.n S.ty.c, .slice S.ch.A S.ch.n S.ch.c, .slice S.lp.A S.lp.n S.lp.c, .slice S.sd.A S.sd.n S.sd.c, .slice S.ut.A S.ut.n S.ut.c])).setIfInBounds 44 (.agg #[.slice Ap1 (N + n1) cp1, .int .i64 (N : Int), .int .i64 0, .int .i64 0])).setIfInBounds 10 (.pointer (some ⟨gB, 0, none⟩))).setIfInBounds 11 (.pointer (some ⟨gC, 0, none⟩))), defers := DF } wv from by
          intro wv gL Ap0 cp0 Ap1 cp1 S gB gC hHeld lB zB lC zC ne oS nB nC
          refine hI.out _ _ _ _ ?_
          obtain ⟨rfl, rfl⟩ := Act.mk.inj hTD.out
          try simp only [Act.put, List.setIfInBounds_toArray, List.set_cons_zero, List.set_cons_succ]
          refine wpAnyH_ready (rs := [14]) (by kernel_rfl) (by simp) ?_
          refine AllReadyH.cons rfl (fun K hK => ?_) (AllReadyH.nil)
          obtain ⟨y0, w0⟩ := ro_cf zB.out 0 _ rfl; obtain ⟨y1, w1⟩ := ro_cf zB.out 1 _ rfl; obtain ⟨y2, w2⟩ := ro_cf zB.out 2 _ rfl; obtain ⟨y3, w3⟩ := ro_cf zB.out 3 _ rfl; obtain ⟨y4, w4⟩ := ro_cf zB.out 4 _ rfl; obtain ⟨y5, w5⟩ := ro_cf zB.out 5 _ rfl; obtain ⟨y6, w6⟩ := ro_cf zB.out 6 _ rfl
          have su := hHeld.2.out.size
          have lb0 := hHeld.1.out.lt
          go_simp
          refine hK.out _ _ (⟨hide (ro_away7 (g' := gB) (x0 := .slice S.ti.A S.ti.n S.ti.c) (x1 := .slice S.ix.A S.ix.n S.ix.c) (x2 := .slice S.ty.A S.ty.n S.ty.c) (x3 := .slice S.ch.A S.ch.n S.ch.c) (x4 := .slice S.lp.A S.lp.n S.lp.c) (x5 := .slice S.sd.A S.sd.n S.sd.c) (x6 := .slice S.ut.A S.ut.n S.ut.c) hHeld.1.out (by have := lbx0; omega)), hide (bl_setx7 (g := gB) (x0 := .slice S.ti.A S.ti.n S.ti.c) (x1 := .slice S.ix.A S.ix.n S.ix.c) (x2 := .slice S.ty.A S.ty.n S.ty.c) (x3 := .slice S.ch.A S.ch.n S.ch.c) (x4 := .slice S.lp.A S.lp.n S.lp.c) (x5 := .slice S.sd.A S.sd.n S.sd.c) (x6 := .slice S.ut.A S.ut.n S.ut.c) hHeld.2.out lB)⟩) (fun hHeld => ?_)
          clear hK K y0 w0 y1 w1 y2 w2 y3 w3 y4 w4 y5 w5 y6 w6
          replace zB := hide (ro_set7' (x0 := .slice S.ti.A S.ti.n S.ti.c) (x1 := .slice S.ix.A S.ix.n S.ix.c) (x2 := .slice S.ty.A S.ty.n S.ty.c) (x3 := .slice S.ch.A S.ch.n S.ch.c) (x4 := .slice S.lp.A S.lp.n S.lp.c) (x5 := .slice S.sd.A S.sd.n S.sd.c) (x6 := .slice S.ut.A S.ut.n S.ut.c) zB.out)
          replace zC := hide (ro_away7 (g' := gB) (x0 := .slice S.ti.A S.ti.n S.ti.c) (x1 := .slice S.ix.A S.ix.n S.ix.c) (x2 := .slice S.ty.A S.ty.n S.ty.c) (x3 := .slice S.ch.A S.ch.n S.ch.c) (x4 := .slice S.lp.A S.lp.n S.lp.c) (x5 := .slice S.sd.A S.sd.n S.sd.c) (x6 := .slice S.ut.A S.ut.n S.ut.c) zC.out (by omega))
          replace oS := hide (oS.out.away7 nB.out (.slice S.ti.A S.ti.n S.ti.c) (.slice S.ix.A S.ix.n S.ix.c) (.slice S.ty.A S.ty.n S.ty.c) (.slice S.ch.A S.ch.n S.ch.c) (.slice S.lp.A S.lp.n S.lp.c) (.slice S.sd.A S.sd.n S.sd.c) (.slice S.ut.A S.ut.n S.ut.c))
          generalize (((((((wv.setCell ⟨gB, 0, none⟩ (.slice S.ti.A S.ti.n S.ti.c)).setCell ⟨gB, 1, none⟩ (.slice S.ix.A S.ix.n S.ix.c)).setCell ⟨gB, 2, none⟩ (.slice S.ty.A S.ty.n S.ty.c)).setCell ⟨gB, 3, none⟩ (.slice S.ch.A S.ch.n S.ch.c)).setCell ⟨gB, 4, none⟩ (.slice S.lp.A S.lp.n S.lp.c)).setCell ⟨gB, 5, none⟩ (.slice S.sd.A S.sd.n S.sd.c)).setCell ⟨gB, 6, none⟩ (.slice S.ut.A S.ut.n S.ut.c)) = wv1 at *
          try simp only [Act.put, List.setIfInBounds_toArray, List.set_cons_zero, List.set_cons_succ]
          refine wpAnyH_ready (rs := [15]) (by kernel_rfl) (by simp) ?_
          refine AllReadyH.cons rfl (fun K hK => ?_) (AllReadyH.nil)
          obtain ⟨y0, w0⟩ := ro_cf zC.out 0 _ rfl; obtain ⟨y1, w1⟩ := ro_cf zC.out 1 _ rfl; obtain ⟨y2, w2⟩ := ro_cf zC.out 2 _ rfl; obtain ⟨y3, w3⟩ := ro_cf zC.out 3 _ rfl
          have su := hHeld.2.out.size
          have lb0 := hHeld.1.out.lt
          go_simp
          refine hK.out _ _ (⟨hide (ro_away4 (g' := gC) (x0 := .slice Ap1 (N + n1) cp1) (x1 := .int .i64 (N : Int)) (x2 := .int .i64 0) (x3 := .int .i64 0) hHeld.1.out (by have := lbx0; omega)), hide (bl_setx4 (g := gC) (x0 := .slice Ap1 (N + n1) cp1) (x1 := .int .i64 (N : Int)) (x2 := .int .i64 0) (x3 := .int .i64 0) hHeld.2.out lC)⟩) (fun hHeld => ?_)
          clear hK K y0 w0 y1 w1 y2 w2 y3 w3
          replace zC := hide (ro_set4' (x0 := .slice Ap1 (N + n1) cp1) (x1 := .int .i64 (N : Int)) (x2 := .int .i64 0) (x3 := .int .i64 0) zC.out)
          replace zB := hide (ro_away4 (g' := gC) (x0 := .slice Ap1 (N + n1) cp1) (x1 := .int .i64 (N : Int)) (x2 := .int .i64 0) (x3 := .int .i64 0) zB.out (by omega))
          replace oS := hide (oS.out.away4 nC.out (.slice Ap1 (N + n1) cp1) (.int .i64 (N : Int)) (.int .i64 0) (.int .i64 0))
          generalize ((((wv1.setCell ⟨gC, 0, none⟩ (.slice Ap1 (N + n1) cp1)).setCell ⟨gC, 1, none⟩ (.int .i64 (N : Int))).setCell ⟨gC, 2, none⟩ (.int .i64 0)).setCell ⟨gC, 3, none⟩ (.int .i64 0)) = wv2 at *
          try simp only [Act.put, List.setIfInBounds_toArray, List.set_cons_zero, List.set_cons_succ]
          refine wpAnyH_done (by kernel_rfl) ?_ _
          go_wp2_with fail
          go_meet
          exact ⟨gB, gC, S, Ap1, cp1, rfl, rfl, lB, lC, ne, zB, zC, oS, nB, nC, hHeld.2⟩)
        have st510 := hide (show ∀ (wv : World) (gL : Nat) (Ap0 : Option Addr) (cp0 : Nat) (Ap1 : Option Addr) (cp1 : Nat) (S : BkS) (gB : Nat), (Hid (Ro wv (g9) (#[.int .i64 1, .int .u32 (B.ut.length : Int), .int .u32 (B.sd.length : Int), .int .u32 (B.lp.length : Int), .int .u32 (B.ti.length : Int), .int .u32 (B.ty.length : Int), .int .u32 (B.ch.length : Int)]) 35) ∧ Hid (Below u5.heap.size u5 wv)) → u5.heap.size ≤ gB → Hid (Ro wv gB #[.slice none 0 0, .slice none 0 0, .slice none 0 0, .slice none 0 0, .slice none 0 0, .slice none 0 0, .slice none 0 0] 28) → Hid (OwBk wv u5.heap.size S B) → Hid (NeS S gB) → FF 3 #[true, true, true, true, true, true, true, true, true, true, true, true, true, false, false, false] { tmps := (((((((((((((TM.setIfInBounds 34 (.slice (some ⟨gL, 0, none⟩) 0 0)).setIfInBounds 35 (.slice A8 N c8)).setIfInBounds 36 (.slice Ap0 N cp0)).setIfInBounds 37 (.slice A1 n1 c1)).setIfInBounds 38 (.slice Ap1 (N + n1) cp1)).setIfInBounds 39 (.agg #[.slice Ap1 (N + n1) cp1, .int .i64 0, .int .i64 0, .int .i64 0])).setIfInBounds 40 (.agg #[.int .i64 1, .int .u32 (B.ut.length : Int), .int .u32 (B.sd.length : Int), .int .u32 (B.lp.length : Int), .int .u32 (B.ti.length : Int), .int .u32 (B.ty.length : Int), .int .u32 (B.ch.length : Int)])).setIfInBounds 41 (.int .i64 (k : Int))).setIfInBounds 42 (.tuple #[.agg #[.slice S.ti.A S.ti.n S.ti.c, .slice S.ix.A S.ix.n S.ix.c, .slice S.ty.A S.ty.n S.ty.c, .slice S.ch.A S.ch.n S.ch.c, .slice S.lp.A S.lp.n S.lp.c, .slice S.sd.A S.sd.n S.sd.c, .slice S.ut.A S.ut.n S.ut.c], .agg #[.slice Ap1 (N + n1) cp1, .int .i64 (N : Int), .int .i64 0, .int .i64 0]])).setIfInBounds 33 (.tuple #[.agg #[.slice S.ti.A S.ti.n S.ti.c, .slice S.ix.A S.ix.n S.ix.c, .slice S.ty.A S.ty.n S.ty.c, .slice S.ch.A S.ch.n S.ch.c, .slice S.lp.A S.lp.n S.lp.c, .slice S.sd.A S.sd.n S.sd.c, .slice S.ut.A S.ut.n S.ut.c], .agg #[.slice Ap1 (N + n1) cp1, .int .i64 (N : Int), .int .i64 0, .int .i64 0]])).setIfInBounds 43 (.agg #[.slice S.ti.A S.ti.n S.ti.c, .slice S.ix.A S.ix.n S.ix.c, .slice S.ty.A S.ty.n S.ty.c, .slice S.ch.A S.ch.n S.ch.c, .slice S.lp.A S.lp.n S.lp.c, .slice S.sd.A S.sd.n S.sd.c, .slice S.ut.A S.ut.n S.ut.c])).setIfInBounds 44 (.agg #[.slice Ap1 (N + n1) cp1, .int .i64 (N : Int), .int .i64 0, .int .i64 0])).setIfInBounds 10 (.pointer (some ⟨gB, 0, none⟩))), defers := DF } wv from by
          intro wv gL Ap0 cp0 Ap1 cp1 S gB hHeld lB zB oS nB
          refine hI.out _ _ _ _ ?_
          obtain ⟨rfl, rfl⟩ := Act.mk.inj hTD.out
          try simp only [Act.put, List.setIfInBounds_toArray, List.set_cons_zero, List.set_cons_succ]
          refine wpAnyH_ready (rs := [13]) (by kernel_rfl) (by simp) ?_
          refine AllReadyH.cons rfl (fun K hK => ?_) (AllReadyH.nil)
          · go_simp
            have lC := hHeld.2.out.size
            have zC := hide (Ro.new wv #[.slice none 0 0, .int .i64 0, .int .i64 0, .int .i64 0] 39)
            have ne := (show gB ≠ wv.heap.size from fun h => by have := zB.out.lt; omega)
            replace zB := hide (zB.out.alloc (.cells #[.slice none 0 0, .int .i64 0, .int .i64 0, .int .i64 0] 39))
            have nC := hide (oS.out.ne (g := wv.heap.size) (.inr (Nat.le_refl _)))
            replace oS := hide (oS.out.below (bl_new _ (.cells #[.slice none 0 0, .int .i64 0, .int .i64 0, .int .i64 0] 39)))
            refine hK.out _ _ (⟨hide (hHeld.1.out.alloc _), hide (bl_alloc hHeld.2.out _)⟩) (fun hHeld => ?_)
            clear hK K
            try simp only [Act.put, List.setIfInBounds_toArray, List.set_cons_zero, List.set_cons_succ]
            refine hE.out _ _ _ _ ?_
            have hh := st511.out _ gL Ap0 cp0 Ap1 cp1 S gB wv.heap.size hHeld lB zB lC zC ne oS nB nC
            try simp only [Act.put, List.setIfInBounds_toArray, List.set_cons_zero, List.set_cons_succ] at hh
            exact hh)
        have st501 := hide (show ∀ (wv : World) (gL : Nat) (Ap0 : Option Addr) (cp0 : Nat) (Ap1 : Option Addr) (cp1 : Nat) (S : BkS) (gC : Nat), (Hid (Ro wv (g9) (#[.int .i64 1, .int .u32 (B.ut.length : Int), .int .u32 (B.sd.length : Int), .int .u32 (B.lp.length : Int), .int .u32 (B.ti.length : Int), .int .u32 (B.ty.length : Int), .int .u32 (B.ch.length : Int)]) 35) ∧ Hid (Below u5.heap.size u5 wv)) → u5.heap.size ≤ gC → Hid (Ro wv gC #[.slice none 0 0, .int .i64 0, .int .i64 0, .int .i64 0] 39) → Hid (OwBk wv u5.heap.size S B) → Hid (NeS S gC) → FF 3 #[true, true, true, true, true, true, true, true, true, true, true, true, false, true, false, false] { tmps := (((((((((((((TM.setIfInBounds 34 (.slice (some ⟨gL, 0, none⟩) 0 0)).setIfInBounds 35 (.slice A8 N c8)).setIfInBounds 36 (.slice Ap0 N cp0)).setIfInBounds 37 (.slice A1 n1 c1)).setIfInBounds 38 (.slice Ap1 (N + n1) cp1)).setIfInBounds 39 (.agg #[.slice Ap1 (N + n1) cp1, .int .i64 0, .int .i64 0, .int .i64 0])).setIfInBounds 40 (.agg #[.int .i64 1, .int .u32 (B.ut.length : Int), .int .u32 (B.sd.length : Int), .int .u32 (B.lp.length : Int), .int .u32 (B.ti.length : Int), .int .u32 (B.ty.length : Int), .int .u32 (B.ch.length : Int)])).setIfInBounds 41 (.int .i64 (k : Int))).setIfInBounds 42 (.tuple #[.agg #[.slice S.ti.A S.ti.n S.ti.c, .slice S.ix.A S.ix.n S.ix.c, .slice S.ty.A S.ty.n S.ty.c, .slice S.ch.A S.ch.n S.ch.c, .slice S.lp.A S.lp.n S.lp.c, .slice S.sd.A S.sd.n S.sd.c, .slice S.ut.A S.ut.n S.ut.c], .agg #[.slice Ap1 (N + n1) cp1, .int .i64 (N : Int), .int .i64 0, .int .i64 0]])).setIfInBounds 33 (.tuple #[.agg #[.slice S.ti.A S.ti.n S.ti.c, .slice S.ix.A S.ix.n S.ix.c, .slice S.ty.A S.ty.n S.ty.c, .slice S.ch.A S.ch.n S.ch.c, .slice S.lp.A S.lp.n S.lp.c, .slice S.sd.A S.sd.n S.sd.c, .slice S.ut.A S.ut.n S.ut.c], .agg #[.slice Ap1 (N + n1) cp1, .int .i64 (N : Int), .int .i64 0, .int .i64 0]])).setIfInBounds 43 (.agg #[.slice S.ti.A S.ti.n S.ti.c, .slice S.ix.A S.ix.n S.ix.c, .slice S.ty.A S.ty.n S.ty.c, .slice S.ch.A S.ch.n S.ch.c, .slice S.lp.A S.lp.n S.lp.c, .slice S.sd.A S.sd.n S.sd.c, .slice S.ut.A S.ut.n S.ut.c])).setIfInBounds 44 (.agg #[.slice Ap1 (N + n1) cp1, .int .i64 (N : Int), .int .i64 0, .int .i64 0])).setIfInBounds 11 (.pointer (some ⟨gC, 0, none⟩))), defers := DF } wv from by
          intro wv gL Ap0 cp0 Ap1 cp1 S gC hHeld lC zC oS nC
          refine hI.out _ _ _ _ ?_
          obtain ⟨rfl, rfl⟩ := Act.mk.inj hTD.out
          try simp only [Act.put, List.setIfInBounds_toArray, List.set_cons_zero, List.set_cons_succ]
          refine wpAnyH_ready (rs := [12]) (by kernel_rfl) (by simp) ?_
          refine AllReadyH.cons rfl (fun K hK => ?_) (AllReadyH.nil)
          · go_simp
            have lB := hHeld.2.out.size
            have zB := hide (Ro.new wv #[.slice none 0 0, .slice none 0 0, .slice none 0 0, .slice none 0 0, .slice none 0 0, .slice none 0 0, .slice none 0 0] 28)
            have ne := (show wv.heap.size ≠ gC from fun h => by have := zC.out.lt; omega)
            replace zC := hide (zC.out.alloc (.cells #[.slice none 0 0, .slice none 0 0, .slice none 0 0, .slice none 0 0, .slice none 0 0, .slice none 0 0, .slice none 0 0] 28))
            have nB := hide (oS.out.ne (g := wv.heap.size) (.inr (Nat.le_refl _)))
            replace oS := hide (oS.out.below (bl_new _ (.cells #[.slice none 0 0, .slice none 0 0, .slice none 0 0, .slice none 0 0, .slice none 0 0, .slice none 0 0, .slice none 0 0] 28)))
            refine hK.out _ _ (⟨hide (hHeld.1.out.alloc _), hide (bl_alloc hHeld.2.out _)⟩) (fun hHeld => ?_)
            clear hK K
            try simp only [Act.put, List.setIfInBounds_toArray, List.set_cons_zero, List.set_cons_succ]
            refine hE.out _ _ _ _ ?_
            have hh := st511.out _ gL Ap0 cp0 Ap1 cp1 S wv.heap.size gC hHeld lB zB lC zC ne oS nB nC
            try simp only [Act.put, List.setIfInBounds_toArray, List.set_cons_zero, List.set_cons_succ] at hh
            exact hh)
        have st500 := hide (show ∀ (wv : World) (gL : Nat) (Ap0 : Option Addr) (cp0 : Nat) (Ap1 : Option Addr) (cp1 : Nat) (S : BkS), (Hid (Ro wv (g9) (#[.int .i64 1, .int .u32 (B.ut.length : Int), .int .u32 (B.sd.length : Int), .int .u32 (B.lp.length : Int), .int .u32 (B.ti.length : Int), .int .u32 (B.ty.length : Int), .int .u32 (B.ch.length : Int)]) 35) ∧ Hid (Below u5.heap.size u5 wv)) → Hid (OwBk wv u5.heap.size S B) → FF 4 #[true, true, true, true, true, true, true, true, true, true, true, true, false, false, false, false] { tmps := ((((((((((((TM.setIfInBounds 34 (.slice (some ⟨gL, 0, none⟩) 0 0)).setIfInBounds 35 (.slice A8 N c8)).setIfInBounds 36 (.slice Ap0 N cp0)).setIfInBounds 37 (.slice A1 n1 c1)).setIfInBounds 38 (.slice Ap1 (N + n1) cp1)).setIfInBounds 39 (.agg #[.slice Ap1 (N + n1) cp1, .int .i64 0, .int .i64 0, .int .i64 0])).setIfInBounds 40 (.agg #[.int .i64 1, .int .u32 (B.ut.length : Int), .int .u32 (B.sd.length : Int), .int .u32 (B.lp.length : Int), .int .u32 (B.ti.length : Int), .int .u32 (B.ty.length : Int), .int .u32 (B.ch.length : Int)])).setIfInBounds 41 (.int .i64 (k : Int))).setIfInBounds 42 (.tuple #[.agg #[.slice S.ti.A S.ti.n S.ti.c, .slice S.ix.A S.ix.n S.ix.c, .slice S.ty.A S.ty.n S.ty.c, .slice S.ch.A S.ch.n S.ch.c, .slice S.lp.A S.lp.n S.lp.c, .slice S.sd.A S.sd.n S.sd.c, .slice S.ut.A S.ut.n S.ut.c], .agg #[.slice Ap1 (N + n1) cp1, .int .i64 (N : Int), .int .i64 0, .int .i64 0]])).setIfInBounds 33 (.tuple #[.agg #[.slice S.ti.A S.ti.n S.ti.c, .slice S.ix.A S.ix.n S.ix.c, .slice S.ty.A S.ty.n S.ty.c, .slice S.ch.A S.ch.n S.ch.c, .slice S.lp.A S.lp.n S.lp.c, .slice S.sd.A S.sd.n S.sd.c, .slice S.ut.A S.ut.n S.ut.c], .agg #[.slice Ap1 (N + n1) cp1, .int .i64 (N : Int), .int .i64 0, .int .i64 0]])).setIfInBounds 43 (.agg #[.slice S.ti.A S.ti.n S.ti.c, .slice S.ix.A S.ix.n S.ix.c, .slice S.ty.A S.ty.n S.ty.c, .slice S.ch.A S.ch.n S.ch.c, .slice S.lp.A S.lp.n S.lp.c, .slice S.sd.A S.sd.n S.sd.c, .slice S.ut.A S.ut.n S.ut.c])).setIfInBounds 44 (.agg #[.slice Ap1 (N + n1) cp1, .int .i64 (N : Int), .int .i64 0, .int .i64 0])), defers := DF } wv from by
          intro wv gL Ap0 cp0 Ap1 cp1 S hHeld oS
          refine hI.out _ _ _ _ ?_
          obtain ⟨rfl, rfl⟩ := Act.mk.inj hTD.out
          try simp only [Act.put, List.setIfInBounds_toArray, List.set_cons_zero, List.set_cons_succ]
          refine wpAnyH_ready (rs := [12, 13]) (by kernel_rfl) (by simp) ?_
          refine AllReadyH.cons rfl (fun K hK => ?_) (AllReadyH.cons rfl (fun K hK => ?_) (AllReadyH.nil))
          · go_simp
            have lB := hHeld.2.out.size
            have zB := hide (Ro.new wv #[.slice none 0 0, .slice none 0 0, .slice none 0 0, .slice none 0 0, .slice none 0 0, .slice none 0 0, .slice none 0 0] 28)
            have nB := hide (oS.out.ne (g := wv.heap.size) (.inr (Nat.le_refl _)))
            replace oS := hide (oS.out.below (bl_new _ (.cells #[.slice none 0 0, .slice none 0 0, .slice none 0 0, .slice none 0 0, .slice none 0 0, .slice none 0 0, .slice none 0 0] 28)))
            refine hK.out _ _ (⟨hide (hHeld.1.out.alloc _), hide (bl_alloc hHeld.2.out _)⟩) (fun hHeld => ?_)
            clear hK K
            try simp only [Act.put, List.setIfInBounds_toArray, List.set_cons_zero, List.set_cons_succ]
            refine hE.out _ _ _ _ ?_
            have hh := st510.out _ gL Ap0 cp0 Ap1 cp1 S wv.heap.size hHeld lB zB oS nB
            try simp only [Act.put, List.setIfInBounds_toArray, List.set_cons_zero, List.set_cons_succ] at hh
            exact hh
          · go_simp
            have lC := hHeld.2.out.size
            have zC := hide (Ro.new wv #[.slice none 0 0, .int .i64 0, .int .i64 0, .int .i64 0] 39)
            have nC := hide (oS.out.ne (g := wv.heap.size) (.inr (Nat.le_refl _)))
            replace oS := hide (oS.out.below (bl_new _ (.cells #[.slice none 0 0, .int .i64 0, .int .i64 0, .int .i64 0] 39)))
            refine hK.out _ _ (⟨hide (hHeld.1.out.alloc _), hide (bl_alloc hHeld.2.out _)⟩) (fun hHeld => ?_)
            clear hK K
            try simp only [Act.put, List.setIfInBounds_toArray, List.set_cons_zero, List.set_cons_succ]
            refine hE.out _ _ _ _ ?_
            have hh := st501.out _ gL Ap0 cp0 Ap1 cp1 S wv.heap.size hHeld lC zC oS nC
            try simp only [Act.put, List.setIfInBounds_toArray, List.set_cons_zero, List.set_cons_succ] at hh
            exact hh)
        have st411 := hide (show ∀ (wv : World) (gL : Nat) (Ap0 : Option Addr) (cp0 : Nat) (Ap1 : Option Addr) (cp1 : Nat) (gB : Nat) (gC : Nat), (Hid (Ro wv (g9) (#[.int .i64 1, .int .u32 (B.ut.length : Int), .int .u32 (B.sd.length : Int), .int .u32 (B.lp.length : Int), .int .u32 (B.ti.length : Int), .int .u32 (B.ty.length : Int), .int .u32 (B.ch.length : Int)]) 35) ∧ Hid (Below u5.heap.size u5 wv)) → u5.heap.size ≤ gB → Hid (Ro wv gB #[.slice none 0 0, .slice none 0 0, .slice none 0 0, .slice none 0 0, .slice none 0 0, .slice none 0 0, .slice none 0 0] 28) → u5.heap.size ≤ gC → Hid (Ro wv gC #[.slice none 0 0, .int .i64 0, .int .i64 0, .int .i64 0] 39) → gB ≠ gC → Hid (Ow wv u5.heap.size 5 Ap1 (N + n1) cp1 ((es ++ (z1.take n1)).map (Value.int .u8))) → FF 6 #[true, true, true, true, true, true, true, true, false, false, false, false, true, true, false, false] { tmps := ((((((((((TM.setIfInBounds 34 (.slice (some ⟨gL, 0, none⟩) 0 0)).setIfInBounds 35 (.slice A8 N c8)).setIfInBounds 36 (.slice Ap0 N cp0)).setIfInBounds 37 (.slice A1 n1 c1)).setIfInBounds 38 (.slice Ap1 (N + n1) cp1)).setIfInBounds 39 (.agg #[.slice Ap1 (N + n1) cp1, .int .i64 0, .int .i64 0, .int .i64 0])).setIfInBounds 40 (.agg #[.int .i64 1, .int .u32 (B.ut.length : Int), .int .u32 (B.sd.length : Int), .int .u32 (B.lp.length : Int), .int .u32 (B.ti.length : Int), .int .u32 (B.ty.length : Int), .int .u32 (B.ch.length : Int)])).setIfInBounds 41 (.int .i64 (k : Int))).setIfInBounds 10 (.pointer (some ⟨gB, 0, none⟩))).setIfInBounds 11 (.pointer (some ⟨gC, 0, none⟩))), defers := DF } wv from by
          intro wv gL Ap0 cp0 Ap1 cp1 gB gC hHeld lB zB lC zC ne oA
          refine hI.out _ _ _ _ ?_
          obtain ⟨rfl, rfl⟩ := Act.mk.inj hTD.out
          try simp only [Act.put, List.setIfInBounds_toArray, List.set_cons_zero, List.set_cons_succ]
          refine wpAnyH_ready (rs := [8]) (by kernel_rfl) (by simp) ?_
          refine AllReadyH.cons rfl (fun K hK => ?_) (AllReadyH.nil)
          · go_simp
            refine (D.out _ _ _ (HT.out.below hHeld.2.out) oA.out.nilcap oA.out.cap (by have := oA.out.capMax; simpa [maxLen] using this) oA.out.rd).mono ?_
            rintro e vv ⟨S, rfl, oS_, h1'⟩
            have nB := hide (oS_.ne (.inl zB.out.lt))
            have nC := hide (oS_.ne (.inl zC.out.lt))
            have oS := hide (oS_.mono hHeld.2.out.size)
            replace zB := hide (zB.out.below h1')
            replace zC := hide (zC.out.below h1')
            refine hK.out _ _ (⟨hide (hHeld.1.out.below h1'), hide (bel_next hHeld.2.out h1')⟩) (fun hHeld => ?_)
            clear hK K h1'
            try simp only [Act.put, List.setIfInBounds_toArray, List.set_cons_zero, List.set_cons_succ]
            refine wpAnyH_takeD (i := 9) (d := (some 33)) (v := ?_) rfl rfl (by kernel_rfl) (by kernel_rfl) (by kernel_rfl) (fun _ _ _ h => h) (Or.inl ⟨by rfl, ?_⟩) (by assumption) ?_
            rotate_left
            · ((intro w hSw; go_simp) <;> with_reducible rfl)
            try simp only [Act.put, List.setIfInBounds_toArray, List.set_cons_zero, List.set_cons_succ]
            refine wpAnyH_takeD (i := 10) (d := (some 43)) (v := ?_) rfl rfl (by kernel_rfl) (by kernel_rfl) (by kernel_rfl) (fun _ _ _ h => h) (Or.inl ⟨by rfl, ?_⟩) (by assumption) ?_
            rotate_left
            · ((intro w hSw; go_simp) <;> with_reducible rfl)
            try simp only [Act.put, List.setIfInBounds_toArray, List.set_cons_zero, List.set_cons_succ]
            refine wpAnyH_takeD (i := 11) (d := (some 44)) (v := ?_) rfl rfl (by kernel_rfl) (by kernel_rfl) (by kernel_rfl) (fun _ _ _ h => h) (Or.inl ⟨by rfl, ?_⟩) (by assumption) ?_
            rotate_left
            · ((intro w hSw; go_simp) <;> with_reducible rfl)
            try simp only [Act.put, List.setIfInBounds_toArray, List.set_cons_zero, List.set_cons_succ]
            refine hE.out _ _ _ _ ?_
            have hh := st511.out _ gL Ap0 cp0 Ap1 cp1 S gB gC hHeld lB zB lC zC ne oS nB nC
            try simp only [Act.put, List.setIfInBounds_toArray, List.set_cons_zero, List.set_cons_succ] at hh
            exact hh)
        have st410 := hide (show ∀ (wv : World) (gL : Nat) (Ap0 : Option Addr) (cp0 : Nat) (Ap1 : Option Addr) (cp1 : Nat) (gB : Nat), (Hid (Ro wv (g9) (#[.int .i64 1, .int .u32 (B.ut.length : Int), .int .u32 (B.sd.length : Int), .int .u32 (B.lp.length : Int), .int .u32 (B.ti.length : Int), .int .u32 (B.ty.length : Int), .int .u32 (B.ch.length : Int)]) 35) ∧ Hid (Below u5.heap.size u5 wv)) → u5.heap.size ≤ gB → Hid (Ro wv gB #[.slice none 0 0, .slice none 0 0, .slice none 0 0, .slice none 0 0, .slice none 0 0, .slice none 0 0, .slice none 0 0] 28) → Hid (Ow wv u5.heap.size 5 Ap1 (N + n1) cp1 ((es ++ (z1.take n1)).map (Value.int .u8))) → FF 7 #[true, true, true, true, true, true, true, true, false, false, false, false, true, false, false, false] { tmps := (((((((((TM.setIfInBounds 34 (.slice (some ⟨gL, 0, none⟩) 0 0)).setIfInBounds 35 (.slice A8 N c8)).setIfInBounds 36 (.slice Ap0 N cp0)).setIfInBounds 37 (.slice A1 n1 c1)).setIfInBounds 38 (.slice Ap1 (N + n1) cp1)).setIfInBounds 39 (.agg #[.slice Ap1 (N + n1) cp1, .int .i64 0, .int .i64 0, .int .i64 0])).setIfInBounds 40 (.agg #[.int .i64 1, .int .u32 (B.ut.length : Int), .int .u32 (B.sd.length : Int), .int .u32 (B.lp.length : Int), .int .u32 (B.ti.length : Int), .int .u32 (B.ty.length : Int), .int .u32 (B.ch.length : Int)])).setIfInBounds 41 (.int .i64 (k : Int))).setIfInBounds 10 (.pointer (some ⟨gB, 0, none⟩))), defers := DF } wv from by
          intro wv gL Ap0 cp0 Ap1 cp1 gB hHeld lB zB oA
          refine hI.out _ _ _ _ ?_
          obtain ⟨rfl, rfl⟩ := Act.mk.inj hTD.out
          try simp only [Act.put, List.setIfInBounds_toArray, List.set_cons_zero, List.set_cons_succ]
          refine wpAnyH_ready (rs := [8, 13]) (by kernel_rfl) (by simp) ?_
          refine AllReadyH.cons rfl (fun K hK => ?_) (AllReadyH.cons rfl (fun K hK => ?_) (AllReadyH.nil))
          · go_simp
            refine (D.out _ _ _ (HT.out.below hHeld.2.out) oA.out.nilcap oA.out.cap (by have := oA.out.capMax; simpa [maxLen] using this) oA.out.rd).mono ?_
            rintro e vv ⟨S, rfl, oS_, h1'⟩
            have nB := hide (oS_.ne (.inl zB.out.lt))
            have oS := hide (oS_.mono hHeld.2.out.size)
            replace zB := hide (zB.out.below h1')
            refine hK.out _ _ (⟨hide (hHeld.1.out.below h1'), hide (bel_next hHeld.2.out h1')⟩) (fun hHeld => ?_)
            clear hK K h1'
            try simp only [Act.put, List.setIfInBounds_toArray, List.set_cons_zero, List.set_cons_succ]
            refine wpAnyH_takeD (i := 9) (d := (some 33)) (v := ?_) rfl rfl (by kernel_rfl) (by kernel_rfl) (by kernel_rfl) (fun _ _ _ h => h) (Or.inl ⟨by rfl, ?_⟩) (by assumption) ?_
            rotate_left
            · ((intro w hSw; go_simp) <;> with_reducible rfl)
            try simp only [Act.put, List.setIfInBounds_toArray, List.set_cons_zero, List.set_cons_succ]
            refine wpAnyH_takeD (i := 10) (d := (some 43)) (v := ?_) rfl rfl (by kernel_rfl) (by kernel_rfl) (by kernel_rfl) (fun _ _ _ h => h) (Or.inl ⟨by rfl, ?_⟩) (by assumption) ?_
            rotate_left
            · ((intro w hSw; go_simp) <;> with_reducible rfl)
            try simp only [Act.put, List.setIfInBounds_toArray, List.set_cons_zero, List.set_cons_succ]
            refine wpAnyH_takeD (i := 11) (d := (some 44)) (v := ?_) rfl rfl (by kernel_rfl) (by kernel_rfl) (by kernel_rfl) (fun _ _ _ h => h) (Or.inl ⟨by rfl, ?_⟩) (by assumption) ?_
            rotate_left
            · ((intro w hSw; go_simp) <;> with_reducible rfl)
            try simp only [Act.put, List.setIfInBounds_toArray, List.set_cons_zero, List.set_cons_succ]
            refine hE.out _ _ _ _ ?_
            have hh := st510.out _ gL Ap0 cp0 Ap1 cp1 S gB hHeld lB zB oS nB
            try simp only [Act.put, List.setIfInBounds_toArray, List.set_cons_zero, List.set_cons_succ] at hh
            exact hh
          · go_simp
            have lC := hHeld.2.out.size
            have zC := hide (Ro.new wv #[.slice none 0 0, .int .i64 0, .int .i64 0, .int .i64 0] 39)
            have ne := (show gB ≠ wv.heap.size from fun h => by have := zB.out.lt; omega)
            replace zB := hide (zB.out.alloc (.cells #[.slice none 0 0, .int .i64 0, .int .i64 0, .int .i64 0] 39))
            replace oA := hide (oA.out.alloc (.cells #[.slice none 0 0, .int .i64 0, .int .i64 0, .int .i64 0] 39))
            refine hK.out _ _ (⟨hide (hHeld.1.out.alloc _), hide (bl_alloc hHeld.2.out _)⟩) (fun hHeld => ?_)
            clear hK K
            try simp only [Act.put, List.setIfInBounds_toArray, List.set_cons_zero, List.set_cons_succ]
            refine hE.out _ _ _ _ ?_
            have hh := st411.out _ gL Ap0 cp0 Ap1 cp1 gB wv.heap.size hHeld lB zB lC zC ne oA
            try simp only [Act.put, List.setIfInBounds_toArray, List.set_cons_zero, List.set_cons_succ] at hh
            exact hh)
        have st401 := hide (show ∀ (wv : World) (gL : Nat) (Ap0 : Option Addr) (cp0 : Nat) (Ap1 : Option Addr) (cp1 : Nat) (gC : Nat), (Hid (Ro wv (g9) (#[.int .i64 1, .int .u32 (B.ut.length : Int), .int .u32 (B.sd.length : Int), .int .u32 (B.lp.length : Int), .int .u32 (B.ti.length : Int), .int .u32 (B.ty.length : Int), .int .u32 (B.ch.length : Int)]) 35) ∧ Hid (Below u5.heap.size u5 wv)) → u5.heap.size ≤ gC → Hid (Ro wv gC #[.slice none 0 0, .int .i64 0, .int .i64 0, .int .i64 0] 39) → Hid (Ow wv u5.heap.size 5 Ap1 (N + n1) cp1 ((es ++ (z1.take n1)).map (Value.int .u8))) → FF 7 #[true, true, true, true, true, true, true, true, false, false, false, false, false, true, false, false] { tmps := (((((((((TM.setIfInBounds 34 (.slice (some ⟨gL, 0, none⟩) 0 0)).setIfInBounds 35 (.slice A8 N c8)).setIfInBounds 36 (.slice Ap0 N cp0)).setIfInBounds 37 (.slice A1 n1 c1)).setIfInBounds 38 (.slice Ap1 (N + n1) cp1)).setIfInBounds 39 (.agg #[.slice Ap1 (N + n1) cp1, .int .i64 0, .int .i64 0, .int .i64 0])).setIfInBounds 40 (.agg #[.int .i64 1, .int .u32 (B.ut.length : Int), .int .u32 (B.sd.length : Int), .int .u32 (B.lp.length : Int), .int .u32 (B.ti.length : Int), .int .u32 (B.ty.length : Int), .int .u32 (B.ch.length : Int)])).setIfInBounds 41 (.int .i64 (k : Int))).setIfInBounds 11 (.pointer (some ⟨gC, 0, none⟩))), defers := DF } wv from by
          intro wv gL Ap0 cp0 Ap1 cp1 gC hHeld lC zC oA
          refine hI.out _ _ _ _ ?_
          obtain ⟨rfl, rfl⟩ := Act.mk.inj hTD.out
          try simp only [Act.put, List.setIfInBounds_toArray, List.set_cons_zero, List.set_cons_succ]
          refine wpAnyH_ready (rs := [8, 12]) (by kernel_rfl) (by simp) ?_
          refine AllReadyH.cons rfl (fun K hK => ?_) (AllReadyH.cons rfl (fun K hK => ?_) (AllReadyH.nil))
          · go_simp
            refine (D.out _ _ _ (HT.out.below hHeld.2.out) oA.out.nilcap oA.out.cap (by have := oA.out.capMax; simpa [maxLen] using this) oA.out.rd).mono ?_
            rintro e vv ⟨S, rfl, oS_, h1'⟩
            have nC := hide (oS_.ne (.inl zC.out.lt))
            have oS := hide (oS_.mono hHeld.2.out.size)
            replace zC := hide (zC.out.below h1')
            refine hK.out _ _ (⟨hide (hHeld.1.out.below h1'), hide (bel_next hHeld.2.out h1')⟩) (fun hHeld => ?_)
            clear hK K h1'
            try simp only [Act.put, List.setIfInBounds_toArray, List.set_cons_zero, List.set_cons_succ]
            refine wpAnyH_takeD (i := 9) (d := (some 33)) (v := ?_) rfl rfl (by kernel_rfl) (by kernel_rfl) (by kernel_rfl) (fun _ _ _ h => h) (Or.inl ⟨by rfl, ?_⟩) (by assumption) ?_
            rotate_left
            · ((intro w hSw; go_simp) <;> with_reducible rfl)
            try simp only [Act.put, List.setIfInBounds_toArray, List.set_cons_zero, List.set_cons_succ]
            refine wpAnyH_takeD (i := 10) (d := (some 43)) (v := ?_) rfl rfl (by kernel_rfl) (by kernel_rfl) (by kernel_rfl) (fun _ _ _ h => h) (Or.inl ⟨by rfl, ?_⟩) (by assumption) ?_
            rotate_left
            · ((intro w hSw; go_simp) <;> with_reducible rfl)
            try simp only [Act.put, List.setIfInBounds_toArray, List.set_cons_zero, List.set_cons_succ]
            refine wpAnyH_takeD (i := 11) (d := (some 44)) (v := ?_) rfl rfl (by kernel_rfl) (by kernel_rfl) (by kernel_rfl) (fun _ _ _ h => h) (Or.inl ⟨by rfl, ?_⟩) (by assumption) ?_
            rotate_left
            · ((intro w hSw; go_simp) <;> with_reducible rfl)
            try simp only [Act.put, List.setIfInBounds_toArray, List.set_cons_zero, List.set_cons_succ]
            refine hE.out _ _ _ _ ?_
            have hh := st501.out _ gL Ap0 cp0 Ap1 cp1 S gC hHeld lC zC oS nC
            try simp only [Act.put, List.setIfInBounds_toArray, List.set_cons_zero, List.set_cons_succ] at hh
            exact hh
          · go_simp
            have lB := hHeld.2.out.size
            have zB := hide (Ro.new wv #[.slice none 0 0, .slice none 0 0, .slice none 0 0, .slice none 0 0, .slice none 0 0, .slice none 0 0, .slice none 0 0] 28)
            have ne := (show wv.heap.size ≠ gC from fun h => by have := zC.out.lt; omega)
            replace zC := hide (zC.out.alloc (.cells #[.slice none 0 0, .slice none 0 0, .slice none 0 0, .slice none 0 0, .slice none 0 0, .slice none 0 0, .slice none 0 0] 28))
            replace oA := hide (oA.out.alloc (.cells #[.slice none 0 0, .slice none 0 0, .slice none 0 0, .slice none 0 0, .slice none 0 0, .slice none 0 0, .slice none 0 0] 28))
            refine hK.out _ _ (⟨hide (hHeld.1.out.alloc _), hide (bl_alloc hHeld.2.out _)⟩) (fun hHeld => ?_)
            clear hK K
            try simp only [Act.put, List.setIfInBounds_toArray, List.set_cons_zero, List.set_cons_succ]
            refine hE.out _ _ _ _ ?_
            have hh := st411.out _ gL Ap0 cp0 Ap1 cp1 wv.heap.size gC hHeld lB zB lC zC ne oA
            try simp only [Act.put, List.setIfInBounds_toArray, List.set_cons_zero, List.set_cons_succ] at hh
            exact hh)
        have st400 := hide (show ∀ (wv : World) (gL : Nat) (Ap0 : Option Addr) (cp0 : Nat) (Ap1 : Option Addr) (cp1 : Nat), (Hid (Ro wv (g9) (#[.int .i64 1, .int .u32 (B.ut.length : Int), .int .u32 (B.sd.length : Int), .int .u32 (B.lp.length : Int), .int .u32 (B.ti.length : Int), .int .u32 (B.ty.length : Int), .int .u32 (B.ch.length : Int)]) 35) ∧ Hid (Below u5.heap.size u5 wv)) → Hid (Ow wv u5.heap.size 5 Ap1 (N + n1) cp1 ((es ++ (z1.take n1)).map (Value.int .u8))) → FF 8 #[true, true, true, true, true, true, true, true, false, false, false, false, false, false, false, false] { tmps := ((((((((TM.setIfInBounds 34 (.slice (some ⟨gL, 0, none⟩) 0 0)).setIfInBounds 35 (.slice A8 N c8)).setIfInBounds 36 (.slice Ap0 N cp0)).setIfInBounds 37 (.slice A1 n1 c1)).setIfInBounds 38 (.slice Ap1 (N + n1) cp1)).setIfInBounds 39 (.agg #[.slice Ap1 (N + n1) cp1, .int .i64 0, .int .i64 0, .int .i64 0])).setIfInBounds 40 (.agg #[.int .i64 1, .int .u32 (B.ut.length : Int), .int .u32 (B.sd.length : Int), .int .u32 (B.lp.length : Int), .int .u32 (B.ti.length : Int), .int .u32 (B.ty.length : Int), .int .u32 (B.ch.length : Int)])).setIfInBounds 41 (.int .i64 (k : Int))), defers := DF } wv from by
          intro wv gL Ap0 cp0 Ap1 cp1 hHeld oA
          refine hI.out _ _ _ _ ?_
          obtain ⟨rfl, rfl⟩ := Act.mk.inj hTD.out
          try simp only [Act.put, List.setIfInBounds_toArray, List.set_cons_zero, List.set_cons_succ]
          refine wpAnyH_ready (rs := [8, 12, 13]) (by kernel_rfl) (by simp) ?_
          refine AllReadyH.cons rfl (fun K hK => ?_) (AllReadyH.cons rfl (fun K hK => ?_) (AllReadyH.cons rfl (fun K hK => ?_) (AllReadyH.nil)))
          · go_simp
            refine (D.out _ _ _ (HT.out.below hHeld.2.out) oA.out.nilcap oA.out.cap (by have := oA.out.capMax; simpa [maxLen] using this) oA.out.rd).mono ?_
            rintro e vv ⟨S, rfl, oS_, h1'⟩
            have oS := hide (oS_.mono hHeld.2.out.size)
            refine hK.out _ _ (⟨hide (hHeld.1.out.below h1'), hide (bel_next hHeld.2.out h1')⟩) (fun hHeld => ?_)
            clear hK K h1'
            try simp only [Act.put, List.setIfInBounds_toArray, List.set_cons_zero, List.set_cons_succ]
            refine wpAnyH_takeD (i := 9) (d := (some 33)) (v := ?_) rfl rfl (by kernel_rfl) (by kernel_rfl) (by kernel_rfl) (fun _ _ _ h => h) (Or.inl ⟨by rfl, ?_⟩) (by assumption) ?_
            rotate_left
            · ((intro w hSw; go_simp) <;> with_reducible rfl)
            try simp only [Act.put, List.setIfInBounds_toArray, List.set_cons_zero, List.set_cons_succ]
            refine wpAnyH_takeD (i := 10) (d := (some 43)) (v := ?_) rfl rfl (by kernel_rfl) (by kernel_rfl) (by kernel_rfl) (fun _ _ _ h => h) (Or.inl ⟨by rfl, ?_⟩) (by assumption) ?_
            rotate_left
            · ((intro w hSw; go_simp) <;> with_reducible rfl)
            try simp only [Act.put, List.setIfInBounds_toArray, List.set_cons_zero, List.set_cons_succ]
            refine wpAnyH_takeD (i := 11) (d := (some 44)) (v := ?_) rfl rfl (by kernel_rfl) (by kernel_rfl) (by kernel_rfl) (fun _ _ _ h => h) (Or.inl ⟨by rfl, ?_⟩) (by assumption) ?_
            rotate_left
            · ((intro w hSw; go_simp) <;> with_reducible rfl)
            try simp only [Act.put, List.setIfInBounds_toArray, List.set_cons_zero, List.set_cons_succ]
            refine hE.out _ _ _ _ ?_
            have hh := st500.out _ gL Ap0 cp0 Ap1 cp1 S hHeld oS
            try simp only [Act.put, List.setIfInBounds_toArray, List.set_cons_zero, List.set_cons_succ] at hh
            exact hh
          · go_simp
            have lB := hHeld.2.out.size
            have zB := hide (Ro.new wv #[.slice none 0 0, .slice none 0 0, .slice none 0 0, .slice none 0 0, .slice none 0 0, .slice none 0 0, .slice none 0 0] 28)
            replace oA := hide (oA.out.alloc (.cells #[.slice none 0 0, .slice none 0 0, .slice none 0 0, .slice none 0 0, .slice none 0 0, .slice none 0 0, .slice none 0 0] 28))
            refine hK.out _ _ (⟨hide (hHeld.1.out.alloc _), hide (bl_alloc hHeld.2.out _)⟩) (fun hHeld => ?_)
            clear hK K
            try simp only [Act.put, List.setIfInBounds_toArray, List.set_cons_zero, List.set_cons_succ]
            refine hE.out _ _ _ _ ?_
            have hh := st410.out _ gL Ap0 cp0 Ap1 cp1 wv.heap.size hHeld lB zB oA
            try simp only [Act.put, List.setIfInBounds_toArray, List.set_cons_zero, List.set_cons_succ] at hh
            exact hh
          · go_simp
            have lC := hHeld.2.out.size
            have zC := hide (Ro.new wv #[.slice none 0 0, .int .i64 0, .int .i64 0, .int .i64 0] 39)
            replace oA := hide (oA.out.alloc (.cells #[.slice none 0 0, .int .i64 0, .int .i64 0, .int .i64 0] 39))
            refine hK.out _ _ (⟨hide (hHeld.1.out.alloc _), hide (bl_alloc hHeld.2.out _)⟩) (fun hHeld => ?_)
            clear hK K
            try simp only [Act.put, List.setIfInBounds_toArray, List.set_cons_zero, List.set_cons_succ]
            refine hE.out _ _ _ _ ?_
            have hh := st401.out _ gL Ap0 cp0 Ap1 cp1 wv.heap.size hHeld lC zC oA
            try simp only [Act.put, List.setIfInBounds_toArray, List.set_cons_zero, List.set_cons_succ] at hh
            exact hh)
        have st311 := hide (show ∀ (wv : World) (gL : Nat) (Ap0 : Option Addr) (cp0 : Nat) (Ap1 : Option Addr) (cp1 : Nat) (gB : Nat) (gC : Nat), (Hid (Ro wv (g9) (#[.int .i64 1, .int .u32 (B.ut.length : Int), .int .u32 (B.sd.length : Int), .int .u32 (B.lp.length : Int), .int .u32 (B.ti.length : Int), .int .u32 (B.ty.length : Int), .int .u32 (B.ch.length : Int)]) 35) ∧ Hid (Below u5.heap.size u5 wv)) → u5.heap.size ≤ gB → Hid (Ro wv gB #[.slice none 0 0, .slice none 0 0, .slice none 0 0, .slice none 0 0, .slice none 0 0, .slice none 0 0, .slice none 0 0] 28) → u5.heap.size ≤ gC → Hid (Ro wv gC #[.slice none 0 0, .int .i64 0, .int .i64 0, .int .i64 0] 39) → gB ≠ gC → Hid (Ow wv u5.heap.size 5 Ap1 (N + n1) cp1 ((es ++ (z1.take n1)).map (Value.int .u8))) → FF 7 #[true, true, true, true, true, false, true, true, false, false, false, false, true, true, false, false] { tmps := (((((((((TM.setIfInBounds 34 (.slice (some ⟨gL, 0, none⟩) 0 0)).setIfInBounds 35 (.slice A8 N c8)).setIfInBounds 36 (.slice Ap0 N cp0)).setIfInBounds 37 (.slice A1 n1 c1)).setIfInBounds 38 (.slice Ap1 (N + n1) cp1)).setIfInBounds 40 (.agg #[.int .i64 1, .int .u32 (B.ut.length : Int), .int .u32 (B.sd.length : Int), .int .u32 (B.lp.length : Int), .int .u32 (B.ti.length : Int), .int .u32 (B.ty.length : Int), .int .u32 (B.ch.length : Int)])).setIfInBounds 41 (.int .i64 (k : Int))).setIfInBounds 10 (.pointer (some ⟨gB, 0, none⟩))).setIfInBounds 11 (.pointer (some ⟨gC, 0, none⟩))), defers := DF } wv from by
          intro wv gL Ap0 cp0 Ap1 cp1 gB gC hHeld lB zB lC zC ne oA
          refine hI.out _ _ _ _ ?_
          obtain ⟨rfl, rfl⟩ := Act.mk.inj hTD.out
          try simp only [Act.put, List.setIfInBounds_toArray, List.set_cons_zero, List.set_cons_succ]
          refine wpAnyH_ready (rs := [5]) (by kernel_rfl) (by simp) ?_
          refine AllReadyH.cons rfl (fun K hK => ?_) (AllReadyH.nil)
          · go_simp
            refine (cu_.New _ _ _ _).mono ?_
            rintro e vv ⟨rfl, h1'⟩
            replace oA := hide (oA.out.below h1')
            replace zB := hide (zB.out.below h1')
            replace zC := hide (zC.out.below h1')
            refine hK.out _ _ (⟨hide (hHeld.1.out.below h1'), hide (bel_next hHeld.2.out h1')⟩) (fun hHeld => ?_)
            clear hK K h1'
            try simp only [Act.put, List.setIfInBounds_toArray, List.set_cons_zero, List.set_cons_succ]
            refine hE.out _ _ _ _ ?_
            have hh := st411.out _ gL Ap0 cp0 Ap1 cp1 gB gC hHeld lB zB lC zC ne oA
            try simp only [Act.put, List.setIfInBounds_toArray, List.set_cons_zero, List.set_cons_succ] at hh
            exact hh)
        have st310 := hide (show ∀ (wv : World) (gL : Nat) (Ap0 : Option Addr) (cp0 : Nat) (Ap1 : Option Addr) (cp1 : Nat) (gB : Nat), (Hid (Ro wv (g9) (#[.int .i64 1, .int .u32 (B.ut.length : Int), .int .u32 (B.sd.length : Int), .int .u32 (B.lp.length : Int), .int .u32 (B.ti.length : Int), .int .u32 (B.ty.length : Int), .int .u32 (B.ch.length : Int)]) 35) ∧ Hid (Below u5.heap.size u5 wv)) → u5.heap.size ≤ gB → Hid (Ro wv gB #[.slice none 0 0, .slice none 0 0, .slice none 0 0, .slice none 0 0, .slice none 0 0, .slice none 0 0, .slice none 0 0] 28) → Hid (Ow wv u5.heap.size 5 Ap1 (N + n1) cp1 ((es ++ (z1.take n1)).map (Value.int .u8))) → FF 8 #[true, true, true, true, true, false, true, true, false, false, false, false, true, false, false, false] { tmps := ((((((((TM.setIfInBounds 34 (.slice (some ⟨gL, 0, none⟩) 0 0)).setIfInBounds 35 (.slice A8 N c8)).setIfInBounds 36 (.slice Ap0 N cp0)).setIfInBounds 37 (.slice A1 n1 c1)).setIfInBounds 38 (.slice Ap1 (N + n1) cp1)).setIfInBounds 40 (.agg #[.int .i64 1, .int .u32 (B.ut.length : Int), .int .u32 (B.sd.length : Int), .int .u32 (B.lp.length : Int), .int .u32 (B.ti.length : Int), .int .u32 (B.ty.length : Int), .int .u32 (B.ch.length : Int)])).setIfInBounds 41 (.int .i64 (k : Int))).setIfInBounds 10 (.pointer (some ⟨gB, 0, none⟩))), defers := DF } wv from by
          intro wv gL Ap0 cp0 Ap1 cp1 gB hHeld lB zB oA
          refine hI.out _ _ _ _ ?_
          obtain ⟨rfl, rfl⟩ := Act.mk.inj hTD.out
          try simp only [Act.put, List.setIfInBounds_toArray, List.set_cons_zero, List.set_cons_succ]
          refine wpAnyH_ready (rs := [5, 13]) (by kernel_rfl) (by simp) ?_
          refine AllReadyH.cons rfl (fun K hK => ?_) (AllReadyH.cons rfl (fun K hK => ?_) (AllReadyH.nil))
          · go_simp
            refine (cu_.New _ _ _ _).mono ?_
            rintro e vv ⟨rfl, h1'⟩
            replace oA := hide (oA.out.below h1')
            replace zB := hide (zB.out.below h1')
            refine hK.out _ _ (⟨hide (hHeld.1.out.below h1'), hide (bel_next hHeld.2.out h1')⟩) (fun hHeld => ?_)
            clear hK K h1'
            try simp only [Act.put, List.setIfInBounds_toArray, List.set_cons_zero, List.set_cons_succ]
            refine hE.out _ _ _ _ ?_
            have hh := st410.out _ gL Ap0 cp0 Ap1 cp1 gB hHeld lB zB oA
            try simp only [Act.put, List.setIfInBounds_toArray, List.set_cons_zero, List.set_cons_succ] at hh
            exact hh
          · go_simp
            have lC := hHeld.2.out.size
            have zC := hide (Ro.new wv #[.slice none 0 0, .int .i64 0, .int .i64 0, .int .i64 0] 39)
            have ne := (show gB ≠ wv.heap.size from fun h => by have := zB.out.lt; omega)
            replace zB := hide (zB.out.alloc (.cells #[.slice none 0 0, .int .i64 0, .int .i64 0, .int .i64 0] 39))
            replace oA := hide (oA.out.alloc (.cells #[.slice none 0 0, .int .i64 0, .int .i64 0, .int .i64 0] 39))
            refine hK.out _ _ (⟨hide (hHeld.1.out.alloc _), hide (bl_alloc hHeld.2.out _)⟩) (fun hHeld => ?_)
            clear hK K
            try simp only [Act.put, List.setIfInBounds_toArray, List.set_cons_zero, List.set_cons_succ]
            refine hE.out _ _ _ _ ?_
            have hh := st311.out _ gL Ap0 cp0 Ap1 cp1 gB wv.heap.size hHeld lB zB lC zC ne oA
            try simp only [Act.put, List.setIfInBounds_toArray, List.set_cons_zero, List.set_cons_succ] at hh
            exact hh)
        have st301 := hide (show ∀ (wv : World) (gL : Nat) (Ap0 : Option Addr) (cp0 : Nat) (Ap1 : Option Addr) (cp1 : Nat) (gC : Nat), (Hid (Ro wv (g9) (#[.int .i64 1, .int .u32 (B.ut.length : Int), .int .u32 (B.sd.length : Int), .int .u32 (B.lp.length : Int), .int .u32 (B.ti.length : Int), .int .u32 (B.ty.length : Int), .int .u32 (B.ch.length : Int)]) 35) ∧ Hid (Below u5.heap.size u5 wv)) → u5.heap.size ≤ gC → Hid (Ro wv gC #[.slice none 0 0, .int .i64 0, .int .i64 0, .int .i64 0] 39) → Hid (Ow wv u5.heap.size 5 Ap1 (N + n1) cp1 ((es ++ (z1.take n1)).map (Value.int .u8))) → FF 8 #[true, true, true, true, true, false, true, true, false, false, false, false, false, true, false, false] { tmps := ((((((((TM.setIfInBounds 34 (.slice (some ⟨gL, 0, none⟩) 0 0)).setIfInBounds 35 (.slice A8 N c8)).setIfInBounds 36 (.slice Ap0 N cp0)).setIfInBounds 37 (.slice A1 n1 c1)).setIfInBounds 38 (.slice Ap1 (N + n1) cp1)).setIfInBounds 40 (.agg #[.int .i64 1, .int .u32 (B.ut.length : Int), .int .u32 (B.sd.length : Int), .int .u32 (B.lp.length : Int), .int .u32 (B.ti.length : Int), .int .u32 (B.ty.length : Int), .int .u32 (B.ch.length : Int)])).setIfInBounds 41 (.int .i64 (k : Int))).setIfInBounds 11 (.pointer (some ⟨gC, 0, none⟩))), defers := DF } wv from by
          intro wv gL Ap0 cp0 Ap1 cp1 gC hHeld lC zC oA
          refine hI.out _ _ _ _ ?_
          obtain ⟨rfl, rfl⟩ := Act.mk.inj hTD.out
          try simp only [Act.put, List.setIfInBounds_toArray, List.set_cons_zero, List.set_cons_succ]
          refine wpAnyH_ready (rs := [5, 12]) (by kernel_rfl) (by simp) ?_
          refine AllReadyH.cons rfl (fun K hK => ?_) (AllReadyH.cons rfl (fun K hK => ?_) (AllReadyH.nil))
          · go_simp
            refine (cu_.New _ _ _ _).mono ?_
            rintro e vv ⟨rfl, h1'⟩
            replace oA := hide (oA.out.below h1')
            replace zC := hide (zC.out.below h1')
            refine hK.out _ _ (⟨hide (hHeld.1.out.below h1'), hide (bel_next hHeld.2.out h1')⟩) (fun hHeld => ?_)
            clear hK K h1'
            try simp only [Act.put, List.setIfInBounds_toArray, List.set_cons_zero, List.set_cons_succ]
            refine hE.out _ _ _ _ ?_
            have hh := st401.out _ gL Ap0 cp0 Ap1 cp1 gC hHeld lC zC oA
            try simp only [Act.put, List.setIfInBounds_toArray, List.set_cons_zero, List.set_cons_succ] at hh
            exact hh
          · go_simp
            have lB := hHeld.2.out.size
            have zB := hide (Ro.new wv #[.slice none 0 0, .slice none 0 0, .slice none 0 0, .slice none 0 0, .slice none 0 0, .slice none 0 0, .slice none 0 0] 28)
            have ne := (show wv.heap.size ≠ gC from fun h => by have := zC.out.lt; omega)
            replace zC := hide (zC.out.alloc (.cells #[.slice none 0 0, .slice none 0 0, .slice none 0 0, .slice none 0 0, .slice none 0 0, .slice none 0 0, .slice none 0 0] 28))
            replace oA := hide (oA.out.alloc (.cells #[.slice none 0 0, .slice none 0 0, .slice none 0 0, .slice none 0 0, .slice none 0 0, .slice none 0 0, .slice none 0 0] 28))
            refine hK.out _ _ (⟨hide (hHeld.1.out.alloc _), hide (bl_alloc hHeld.2.out _)⟩) (fun hHeld => ?_)
            clear hK K
            try simp only [Act.put, List.setIfInBounds_toArray, List.set_cons_zero, List.set_cons_succ]
            refine hE.out _ _ _ _ ?_
            have hh := st311.out _ gL Ap0 cp0 Ap1 cp1 wv.heap.size gC hHeld lB zB lC zC ne oA
            try simp only [Act.put, List.setIfInBounds_toArray, List.set_cons_zero, List.set_cons_succ] at hh
            exact hh)
        have st300 := hide (show ∀ (wv : World) (gL : Nat) (Ap0 : Option Addr) (cp0 : Nat) (Ap1 : Option Addr) (cp1 : Nat), (Hid (Ro wv (g9) (#[.int .i64 1, .int .u32 (B.ut.length : Int), .int .u32 (B.sd.length : Int), .int .u32 (B.lp.length : Int), .int .u32 (B.ti.length : Int), .int .u32 (B.ty.length : Int), .int .u32 (B.ch.length : Int)]) 35) ∧ Hid (Below u5.heap.size u5 wv)) → Hid (Ow wv u5.heap.size 5 Ap1 (N + n1) cp1 ((es ++ (z1.take n1)).map (Value.int .u8))) → FF 9 #[true, true, true, true, true, false, true, true, false, false, false, false, false, false, false, false] { tmps := (((((((TM.setIfInBounds 34 (.slice (some ⟨gL, 0, none⟩) 0 0)).setIfInBounds 35 (.slice A8 N c8)).setIfInBounds 36 (.slice Ap0 N cp0)).setIfInBounds 37 (.slice A1 n1 c1)).setIfInBounds 38 (.slice Ap1 (N + n1) cp1)).setIfInBounds 40 (.agg #[.int .i64 1, .int .u32 (B.ut.length : Int), .int .u32 (B.sd.length : Int), .int .u32 (B.lp.length : Int), .int .u32 (B.ti.length : Int), .int .u32 (B.ty.length : Int), .int .u32 (B.ch.length : Int)])).setIfInBounds 41 (.int .i64 (k : Int))), defers := DF } wv from by
          intro wv gL Ap0 cp0 Ap1 cp1 hHeld oA
          refine hI.out _ _ _ _ ?_
          obtain ⟨rfl, rfl⟩ := Act.mk.inj hTD.out
          try simp only [Act.put, List.setIfInBounds_toArray, List.set_cons_zero, List.set_cons_succ]
          refine wpAnyH_ready (rs := [5, 12, 13]) (by kernel_rfl) (by simp) ?_
          refine AllReadyH.cons rfl (fun K hK => ?_) (AllReadyH.cons rfl (fun K hK => ?_) (AllReadyH.cons rfl (fun K hK => ?_) (AllReadyH.nil)))
          · go_simp
            refine (cu_.New _ _ _ _).mono ?_
            rintro e vv ⟨rfl, h1'⟩
            replace oA := hide (oA.out.below h1')
            refine hK.out _ _ (⟨hide (hHeld.1.out.below h1'), hide (bel_next hHeld.2.out h1')⟩) (fun hHeld => ?_)
            clear hK K h1'
            try simp only [Act.put, List.setIfInBounds_toArray, List.set_cons_zero, List.set_cons_succ]
            refine hE.out _ _ _ _ ?_
            have hh := st400.out _ gL Ap0 cp0 Ap1 cp1 hHeld oA
            try simp only [Act.put, List.setIfInBounds_toArray, List.set_cons_zero, List.set_cons_succ] at hh
            exact hh
          · go_simp
            have lB := hHeld.2.out.size
            have zB := hide (Ro.new wv #[.slice none 0 0, .slice none 0 0, .slice none 0 0, .slice none 0 0, .slice none 0 0, .slice none 0 0, .slice none 0 0] 28)
            replace oA := hide (oA.out.alloc (.cells #[.slice none 0 0, .slice none 0 0, .slice none 0 0, .slice none 0 0, .slice none 0 0, .slice none 0 0, .slice none 0 0] 28))
            refine hK.out _ _ (⟨hide (hHeld.1.out.alloc _), hide (bl_alloc hHeld.2.out _)⟩) (fun hHeld => ?_)
            clear hK K
            try simp only [Act.put, List.setIfInBounds_toArray, List.set_cons_zero, List.set_cons_succ]
            refine hE.out _ _ _ _ ?_
            have hh := st310.out _ gL Ap0 cp0 Ap1 cp1 wv.heap.size hHeld lB zB oA
            try simp only [Act.put, List.setIfInBounds_toArray, List.set_cons_zero, List.set_cons_succ] at hh
            exact hh
          · go_simp
            have lC := hHeld.2.out.size
            have zC := hide (Ro.new wv #[.slice none 0 0, .int .i64 0, .int .i64 0, .int .i64 0] 39)
            replace oA := hide (oA.out.alloc (.cells #[.slice none 0 0, .int .i64 0, .int .i64 0, .int .i64 0] 39))
            refine hK.out _ _ (⟨hide (hHeld.1.out.alloc _), hide (bl_alloc hHeld.2.out _)⟩) (fun hHeld => ?_)
            clear hK K
            try simp only [Act.put, List.setIfInBounds_toArray, List.set_cons_zero, List.set_cons_succ]
            refine hE.out _ _ _ _ ?_
            have hh := st301.out _ gL Ap0 cp0 Ap1 cp1 wv.heap.size hHeld lC zC oA
            try simp only [Act.put, List.setIfInBounds_toArray, List.set_cons_zero, List.set_cons_succ] at hh
            exact hh)
        have st211 := hide (show ∀ (wv : World) (gL : Nat) (Ap0 : Option Addr) (cp0 : Nat) (gB : Nat) (gC : Nat), (Hid (Ro wv (g9) (#[.int .i64 1, .int .u32 (B.ut.length : Int), .int .u32 (B.sd.length : Int), .int .u32 (B.lp.length : Int), .int .u32 (B.ti.length : Int), .int .u32 (B.ty.length : Int), .int .u32 (B.ch.length : Int)]) 35) ∧ Hid (Below u5.heap.size u5 wv)) → u5.heap.size ≤ gB → Hid (Ro wv gB #[.slice none 0 0, .slice none 0 0, .slice none 0 0, .slice none 0 0, .slice none 0 0, .slice none 0 0, .slice none 0 0] 28) → u5.heap.size ≤ gC → Hid (Ro wv gC #[.slice none 0 0, .int .i64 0, .int .i64 0, .int .i64 0] 39) → gB ≠ gC → Hid (Ow wv u5.heap.size 5 Ap0 N cp0 (es.map (Value.int .u8))) → FF 8 #[true, true, true, true, false, false, true, true, false, false, false, false, true, true, false, false] { tmps := ((((((((TM.setIfInBounds 34 (.slice (some ⟨gL, 0, none⟩) 0 0)).setIfInBounds 35 (.slice A8 N c8)).setIfInBounds 36 (.slice Ap0 N cp0)).setIfInBounds 37 (.slice A1 n1 c1)).setIfInBounds 40 (.agg #[.int .i64 1, .int .u32 (B.ut.length : Int), .int .u32 (B.sd.length : Int), .int .u32 (B.lp.length : Int), .int .u32 (B.ti.length : Int), .int .u32 (B.ty.length : Int), .int .u32 (B.ch.length : Int)])).setIfInBounds 41 (.int .i64 (k : Int))).setIfInBounds 10 (.pointer (some ⟨gB, 0, none⟩))).setIfInBounds 11 (.pointer (some ⟨gC, 0, none⟩))), defers := DF } wv from by
          intro wv gL Ap0 cp0 gB gC hHeld lB zB lC zC ne oA
          refine hI.out _ _ _ _ ?_
          obtain ⟨rfl, rfl⟩ := Act.mk.inj hTD.out
          try simp only [Act.put, List.setIfInBounds_toArray, List.set_cons_zero, List.set_cons_succ]
          refine wpAnyH_ready (rs := [4]) (by kernel_rfl) (by simp) ?_
          refine AllReadyH.cons rfl (fun K hK => ?_) (AllReadyH.nil)
          · refine step_apA elU8 oA.out hHeld.2.out (Nat.le_refl _) (r1.out.below hHeld.2.out) (.tmp 36) (.tmp 37) rfl rfl rfl rfl nil1.out O2.out ap_m1 ap_b1 (fun Ap1 cp1 vv ho hb' hg => ?_)
            rw [← List.map_append] at ho
            replace zB := hide (ro_grown zB.out hg (ow_ne_ro oA.out zB.out (by decide)))
            replace zC := hide (ro_grown zC.out hg (ow_ne_ro oA.out zC.out (by decide)))
            have ol := fun g (h : g < u5.heap.size) => (show oB Ap0 ≠ some g from fun e => by have := (oA.out.blk e).1; omega)
            refine hK.out _ _ (⟨hide (ro_grown hHeld.1.out hg (ol _ lbx0)), hide hb'⟩) (fun hHeld => ?_)
            clear hK K hg ol
            replace oA := hide ho
            clear ho hb'
            try simp only [Act.put, List.setIfInBounds_toArray, List.set_cons_zero, List.set_cons_succ]
            refine hE.out _ _ _ _ ?_
            have hh := st311.out _ gL Ap0 cp0 Ap1 cp1 gB gC hHeld lB zB lC zC ne oA
            try simp only [Act.put, List.setIfInBounds_toArray, List.set_cons_zero, List.set_cons_succ] at hh
            exact hh)
        have st210 := hide (show ∀ (wv : World) (gL : Nat) (Ap0 : Option Addr) (cp0 : Nat) (gB : Nat), (Hid (Ro wv (g9) (#[.int .i64 1, .int .u32 (B.ut.length : Int), .int .u32 (B.sd.length : Int), .int .u32 (B.lp.length : Int), .int .u32 (B.ti.length : Int), .int .u32 (B.ty.length : Int), .int .u32 (B.ch.length : Int)]) 35) ∧ Hid (Below u5.heap.size u5 wv)) → u5.heap.size ≤ gB → Hid (Ro wv gB #[.slice none 0 0, .slice none 0 0, .slice none 0 0, .slice none 0 0, .slice none 0 0, .slice none 0 0, .slice none 0 0] 28) → Hid (Ow wv u5.heap.size 5 Ap0 N cp0 (es.map (Value.int .u8))) → FF 9 #[true, true, true, true, false, false, true, true, false, false, false, false, true, false, false, false] { tmps := (((((((TM.setIfInBounds 34 (.slice (some ⟨gL, 0, none⟩) 0 0)).setIfInBounds 35 (.slice A8 N c8)).setIfInBounds 36 (.slice Ap0 N cp0)).setIfInBounds 37 (.slice A1 n1 c1)).setIfInBounds 40 (.agg #[.int .i64 1, .int .u32 (B.ut.length : Int), .int .u32 (B.sd.length : Int), .int .u32 (B.lp.length : Int), .int .u32 (B.ti.length : Int), .int .u32 (B.ty.length : Int), .int .u32 (B.ch.length : Int)])).setIfInBounds 41 (.int .i64 (k : Int))).setIfInBounds 10 (.pointer (some ⟨gB, 0, none⟩))), defers := DF } wv from by
          intro wv gL Ap0 cp0 gB hHeld lB zB oA
          refine hI.out _ _ _ _ ?_
          obtain ⟨rfl, rfl⟩ := Act.mk.inj hTD.out
          try simp only [Act.put, List.setIfInBounds_toArray, List.set_cons_zero, List.set_cons_succ]
          refine wpAnyH_ready (rs := [4, 13]) (by kernel_rfl) (by simp) ?_
          refine AllReadyH.cons rfl (fun K hK => ?_) (AllReadyH.cons rfl (fun K hK => ?_) (AllReadyH.nil))
          · refine step_apA elU8 oA.out hHeld.2.out (Nat.le_refl _) (r1.out.below hHeld.2.out) (.tmp 36) (.tmp 37) rfl rfl rfl rfl nil1.out O2.out ap_m1 ap_b1 (fun Ap1 cp1 vv ho hb' hg => ?_)
            rw [← List.map_append] at ho
            replace zB := hide (ro_grown zB.out hg (ow_ne_ro oA.out zB.out (by decide)))
            have ol := fun g (h : g < u5.heap.size) => (show oB Ap0 ≠ some g from fun e => by have := (oA.out.blk e).1; omega)
            refine hK.out _ _ (⟨hide (ro_grown hHeld.1.out hg (ol _ lbx0)), hide hb'⟩) (fun hHeld => ?_)
            clear hK K hg ol
            replace oA := hide ho
            clear ho hb'
            try simp only [Act.put, List.setIfInBounds_toArray, List.set_cons_zero, List.set_cons_succ]
            refine hE.out _ _ _ _ ?_
            have hh := st310.out _ gL Ap0 cp0 Ap1 cp1 gB hHeld lB zB oA
            try simp only [Act.put, List.setIfInBounds_toArray, List.set_cons_zero, List.set_cons_succ] at hh
            exact hh
          · go_simp
            have lC := hHeld.2.out.size
            have zC := hide (Ro.new wv #[.slice none 0 0, .int .i64 0, .int .i64 0, .int .i64 0] 39)
            have ne := (show gB ≠ wv.heap.size from fun h => by have := zB.out.lt; omega)
            replace zB := hide (zB.out.alloc (.cells #[.slice none 0 0, .int .i64 0, .int .i64 0, .int .i64 0] 39))
            replace oA := hide (oA.out.alloc (.cells #[.slice none 0 0, .int .i64 0, .int .i64 0, .int .i64 0] 39))
            refine hK.out _ _ (⟨hide (hHeld.1.out.alloc _), hide (bl_alloc hHeld.2.out _)⟩) (fun hHeld => ?_)
            clear hK K
            try simp only [Act.put, List.setIfInBounds_toArray, List.set_cons_zero, List.set_cons_succ]
            refine hE.out _ _ _ _ ?_
            have hh := st211.out _ gL Ap0 cp0 gB wv.heap.size hHeld lB zB lC zC ne oA
            try simp only [Act.put, List.setIfInBounds_toArray, List.set_cons_zero, List.set_cons_succ] at hh
            exact hh)
        have st201 := hide (show ∀ (wv : World) (gL : Nat) (Ap0 : Option Addr) (cp0 : Nat) (gC : Nat), (Hid (Ro wv (g9) (#[.int .i64 1, .int .u32 (B.ut.length : Int), .int .u32 (B.sd.length : Int), .int .u32 (B.lp.length : Int), .int .u32 (B.ti.length : Int), .int .u32 (B.ty.length : Int), .int .u32 (B.ch.length : Int)]) 35) ∧ Hid (Below u5.heap.size u5 wv)) → u5.heap.size ≤ gC → Hid (Ro wv gC #[.slice none 0 0, .int .i64 0, .int .i64 0, .int .i64 0] 39) → Hid (Ow wv u5.heap.size 5 Ap0 N cp0 (es.map (Value.int .u8))) → FF 9 #[true, true, true, true, false, false, true, true, false, false, false, false, false, true, false, false] { tmps := (((((((TM.setIfInBounds 34 (.slice (some ⟨gL, 0, none⟩) 0 0)).setIfInBounds 35 (.slice A8 N c8)).setIfInBounds 36 (.slice Ap0 N cp0)).setIfInBounds 37 (.slice A1 n1 c1)).setIfInBounds 40 (.agg #[.int .i64 1, .int .u32 (B.ut.length : Int), .int .u32 (B.sd.length : Int), .int .u32 (B.lp.length : Int), .int .u32 (B.ti.length : Int), .int .u32 (B.ty.length : Int), .int .u32 (B.ch.length : Int)])).setIfInBounds 41 (.int .i64 (k : Int))).setIfInBounds 11 (.pointer (some ⟨gC, 0, none⟩))), defers := DF } wv from by
          intro wv gL Ap0 cp0 gC hHeld lC zC oA
          refine hI.out _ _ _ _ ?_
          obtain ⟨rfl, rfl⟩ := Act.mk.inj hTD.out
          try simp only [Act.put, List.setIfInBounds_toArray, List.set_cons_zero, List.set_cons_succ]
          refine wpAnyH_ready (rs := [4, 12]) (by kernel_rfl) (by simp) ?_
          refine AllReadyH.cons rfl (fun K hK => ?_) (AllReadyH.cons rfl (fun K hK => ?_) (AllReadyH.nil))
          · refine step_apA elU8 oA.out hHeld.2.out (Nat.le_refl _) (r1.out.below hHeld.2.out) (.tmp 36) (.tmp 37) rfl rfl rfl rfl nil1.out O2.out ap_m1 ap_b1 (fun Ap1 cp1 vv ho hb' hg => ?_)
            rw [← List.map_append] at ho
            replace zC := hide (ro_grown zC.out hg (ow_ne_ro oA.out zC.out (by decide)))
            have ol := fun g (h : g < u5.heap.size) => (show oB Ap0 ≠ some g from fun e => by have := (oA.out.blk e).1; omega)
            refine hK.out _ _ (⟨hide (ro_grown hHeld.1.out hg (ol _ lbx0)), hide hb'⟩) (fun hHeld => ?_)
            clear hK K hg ol
            replace oA := hide ho
            clear ho hb'
            try simp only [Act.put, List.setIfInBounds_toArray, List.set_cons_zero, List.set_cons_succ]
            refine hE.out _ _ _ _ ?_
            have hh := st301.out _ gL Ap0 cp0 Ap1 cp1 gC hHeld lC zC oA
            try simp only [Act.put, List.setIfInBounds_toArray, List.set_cons_zero, List.set_cons_succ] at hh
            exact hh
          · go_simp
            have lB := hHeld.2.out.size
            have zB := hide (Ro.new wv #[.slice none 0 0, .slice none 0 0, .slice none 0 0, .slice none 0 0, .slice none 0 0, .slice none 0 0, .slice none 0 0] 28)
            have ne := (show wv.heap.size ≠ gC from fun h => by have := zC.out.lt; omega)
            replace zC := hide (zC.out.alloc (.cells #[.slice none 0 0, .slice none 0 0, .slice none 0 0, .slice none 0 0, .slice none 0 0, .slice none 0 0, .slice none 0 0] 28))
            replace oA := hide (oA.out.alloc (.cells #[.slice none 0 0, .slice none 0 0, .slice none 0 0, .slice none 0 0, .slice none 0 0, .slice none 0 0, .slice none 0 0] 28))
            refine hK.out _ _ (⟨hide (hHeld.1.out.alloc _), hide (bl_alloc hHeld.2.out _)⟩) (fun hHeld => ?_)
            clear hK K
            try simp only [Act.put, List.setIfInBounds_toArray, List.set_cons_zero, List.set_cons_succ]
            refine hE.out _ _ _ _ ?_
            have hh := st211.out _ gL Ap0 cp0 wv.heap.size gC hHeld lB zB lC zC ne oA
            try simp only [Act.put, List.setIfInBounds_toArray, List.set_cons_zero, List.set_cons_succ] at hh
            exact hh)
        have st200 := hide (show ∀ (wv : World) (gL : Nat) (Ap0 : Option Addr) (cp0 : Nat), (Hid (Ro wv (g9) (#[.int .i64 1, .int .u32 (B.ut.length : Int), .int .u32 (B.sd.length : Int), .int .u32 (B.lp.length : Int), .int .u32 (B.ti.length : Int), .int .u32 (B.ty.length : Int), .int .u32 (B.ch.length : Int)]) 35) ∧ Hid (Below u5.heap.size u5 wv)) → Hid (Ow wv u5.heap.size 5 Ap0 N cp0 (es.map (Value.int .u8))) → FF 10 #[true, true, true, true, false, false, true, true, false, false, false, false, false, false, false, false] { tmps := ((((((TM.setIfInBounds 34 (.slice (some ⟨gL, 0, none⟩) 0 0)).setIfInBounds 35 (.slice A8 N c8)).setIfInBounds 36 (.slice Ap0 N cp0)).setIfInBounds 37 (.slice A1 n1 c1)).setIfInBounds 40 (.agg #[.int .i64 1, .int .u32 (B.ut.length : Int), .int .u32 (B.sd.length : Int), .int .u32 (B.lp.length : Int), .int .u32 (B.ti.length : Int), .int .u32 (B.ty.length : Int), .int .u32 (B.ch.length : Int)])).setIfInBounds 41 (.int .i64 (k : Int))), defers := DF } wv from by
          intro wv gL Ap0 cp0 hHeld oA
          refine hI.out _ _ _ _ ?_
          obtain ⟨rfl, rfl⟩ := Act.mk.inj hTD.out
          try simp only [Act.put, List.setIfInBounds_toArray, List.set_cons_zero, List.set_cons_succ]
          refine wpAnyH_ready (rs := [4, 12, 13]) (by kernel_rfl) (by simp) ?_
          refine AllReadyH.cons rfl (fun K hK => ?_) (AllReadyH.cons rfl (fun K hK => ?_) (AllReadyH.cons rfl (fun K hK => ?_) (AllReadyH.nil)))
          · refine step_apA elU8 oA.out hHeld.2.out (Nat.le_refl _) (r1.out.below hHeld.2.out) (.tmp 36) (.tmp 37) rfl rfl rfl rfl nil1.out O2.out ap_m1 ap_b1 (fun Ap1 cp1 vv ho hb' hg => ?_)
            rw [← List.map_append] at ho
            have ol := fun g (h : g < u5.heap.size) => (show oB Ap0 ≠ some g from fun e => by have := (oA.out.blk e).1; omega)
            refine hK.out _ _ (⟨hide (ro_grown hHeld.1.out hg (ol _ lbx0)), hide hb'⟩) (fun hHeld => ?_)
            clear hK K hg ol
            replace oA := hide ho
            clear ho hb'
            try simp only [Act.put, List.setIfInBounds_toArray, List.set_cons_zero, List.set_cons_succ]
            refine hE.out _ _ _ _ ?_
            have hh := st300.out _ gL Ap0 cp0 Ap1 cp1 hHeld oA
            try simp only [Act.put, List.setIfInBounds_toArray, List.set_cons_zero, List.set_cons_succ] at hh
            exact hh
          · go_simp
            have lB := hHeld.2.out.size
            have zB := hide (Ro.new wv #[.slice none 0 0, .slice none 0 0, .slice none 0 0, .slice none 0 0, .slice none 0 0, .slice none 0 0, .slice none 0 0] 28)
            replace oA := hide (oA.out.alloc (.cells #[.slice none 0 0, .slice none 0 0, .slice none 0 0, .slice none 0 0, .slice none 0 0, .slice none 0 0, .slice none 0 0] 28))
            refine hK.out _ _ (⟨hide (hHeld.1.out.alloc _), hide (bl_alloc hHeld.2.out _)⟩) (fun hHeld => ?_)
            clear hK K
            try simp only [Act.put, List.setIfInBounds_toArray, List.set_cons_zero, List.set_cons_succ]
            refine hE.out _ _ _ _ ?_
            have hh := st210.out _ gL Ap0 cp0 wv.heap.size hHeld lB zB oA
            try simp only [Act.put, List.setIfInBounds_toArray, List.set_cons_zero, List.set_cons_succ] at hh
            exact hh
          · go_simp
            have lC := hHeld.2.out.size
            have zC := hide (Ro.new wv #[.slice none 0 0, .int .i64 0, .int .i64 0, .int .i64 0] 39)
            replace oA := hide (oA.out.alloc (.cells #[.slice none 0 0, .int .i64 0, .int .i64 0, .int .i64 0] 39))
            refine hK.out _ _ (⟨hide (hHeld.1.out.alloc _), hide (bl_alloc hHeld.2.out _)⟩) (fun hHeld => ?_)
            clear hK K
            try simp only [Act.put, List.setIfInBounds_toArray, List.set_cons_zero, List.set_cons_succ]
            refine hE.out _ _ _ _ ?_
            have hh := st201.out _ gL Ap0 cp0 wv.heap.size hHeld lC zC oA
            try simp only [Act.put, List.setIfInBounds_toArray, List.set_cons_zero, List.set_cons_succ] at hh
            exact hh)
        have st111 := hide (show ∀ (wv : World) (gL : Nat) (gB : Nat) (gC : Nat), (Hid (Ro wv (g9) (#[.int .i64 1, .int .u32 (B.ut.length : Int), .int .u32 (B.sd.length : Int), .int .u32 (B.lp.length : Int), .int .u32 (B.ti.length : Int), .int .u32 (B.ty.length : Int), .int .u32 (B.ch.length : Int)]) 35) ∧ Hid (Below u5.heap.size u5 wv)) → u5.heap.size ≤ gB → Hid (Ro wv gB #[.slice none 0 0, .slice none 0 0, .slice none 0 0, .slice none 0 0, .slice none 0 0, .slice none 0 0, .slice none 0 0] 28) → u5.heap.size ≤ gC → Hid (Ro wv gC #[.slice none 0 0, .int .i64 0, .int .i64 0, .int .i64 0] 39) → gB ≠ gC → Hid (Ow wv u5.heap.size 5 (some ⟨gL, 0, none⟩) 0 0 ([].map (Value.int .u8))) → FF 9 #[true, true, false, true, false, false, true, true, false, false, false, false, true, true, false, false] { tmps := (((((((TM.setIfInBounds 34 (.slice (some ⟨gL, 0, none⟩) 0 0)).setIfInBounds 35 (.slice A8 N c8)).setIfInBounds 37 (.slice A1 n1 c1)).setIfInBounds 40 (.agg #[.int .i64 1, .int .u32 (B.ut.length : Int), .int .u32 (B.sd.length : Int), .int .u32 (B.lp.length : Int), .int .u32 (B.ti.length : Int), .int .u32 (B.ty.length : Int), .int .u32 (B.ch.length : Int)])).setIfInBounds 41 (.int .i64 (k : Int))).setIfInBounds 10 (.pointer (some ⟨gB, 0, none⟩))).setIfInBounds 11 (.pointer (some ⟨gC, 0, none⟩))), defers := DF } wv from by
          intro wv gL gB gC hHeld lB zB lC zC ne oA
          refine hI.out _ _ _ _ ?_
          obtain ⟨rfl, rfl⟩ := Act.mk.inj hTD.out
          try simp only [Act.put, List.setIfInBounds_toArray, List.set_cons_zero, List.set_cons_succ]
          refine wpAnyH_ready (rs := [2]) (by kernel_rfl) (by simp) ?_
          refine AllReadyH.cons rfl (fun K hK => ?_) (AllReadyH.nil)
          · refine step_apA elU8 oA.out hHeld.2.out (Nat.le_refl _) (r8.out.below hHeld.2.out) (.tmp 34) (.tmp 35) rfl rfl rfl rfl nil8.out O1.out ap_m0 ap_b0 (fun Ap0 cp0 vv ho hb' hg => ?_)
            rw [Nat.zero_add] at ho ⊢
            rw [show ([] : List Int).map (Value.int .u8) = [] from rfl, List.nil_append] at ho
            replace zB := hide (ro_grown zB.out hg (ow_ne_ro oA.out zB.out (by decide)))
            replace zC := hide (ro_grown zC.out hg (ow_ne_ro oA.out zC.out (by decide)))
            have ol := fun g (h : g < u5.heap.size) => (show oB (some ⟨gL, 0, none⟩) ≠ some g from fun e => by have := (oA.out.blk e).1; omega)
            refine hK.out _ _ (⟨hide (ro_grown hHeld.1.out hg (ol _ lbx0)), hide hb'⟩) (fun hHeld => ?_)
            clear hK K hg ol
            replace oA := hide ho
            clear ho hb'
            try simp only [Act.put, List.setIfInBounds_toArray, List.set_cons_zero, List.set_cons_succ]
            refine hE.out _ _ _ _ ?_
            have hh := st211.out _ gL Ap0 cp0 gB gC hHeld lB zB lC zC ne oA
            try simp only [Act.put, List.setIfInBounds_toArray, List.set_cons_zero, List.set_cons_succ] at hh
            exact hh)
        have st110 := hide (show ∀ (wv : World) (gL : Nat) (gB : Nat), (Hid (Ro wv (g9) (#[.int .i64 1, .int .u32 (B.ut.length : Int), .int .u32 (B.sd.length : Int), .int .u32 (B.lp.length : Int), .int .u32 (B.ti.length : Int), .int .u32 (B.ty.length : Int), .int .u32 (B.ch.length : Int)]) 35) ∧ Hid (Below u5.heap.size u5 wv)) → u5.heap.size ≤ gB → Hid (Ro wv gB #[.slice none 0 0, .slice none 0 0, .slice none 0 0, .slice none 0 0, .slice none 0 0, .slice none 0 0, .slice none 0 0] 28) → Hid (Ow wv u5.heap.size 5 (some ⟨gL, 0, none⟩) 0 0 ([].map (Value.int .u8))) → FF 10 #[true, true, false, true, false, false, true, true, false, false, false, false, true, false, false, false] { tmps := ((((((TM.setIfInBounds 34 (.slice (some ⟨gL, 0, none⟩) 0 0)).setIfInBounds 35 (.slice A8 N c8)).setIfInBounds 37 (.slice A1 n1 c1)).setIfInBounds 40 (.agg #[.int .i64 1, .int .u32 (B.ut.length : Int), .int .u32 (B.sd.length : Int), .int .u32 (B.lp.length : Int), .int .u32 (B.ti.length : Int), .int .u32 (B.ty.length : Int), .int .u32 (B.ch.length : Int)])).setIfInBounds 41 (.int .i64 (k : Int))).setIfInBounds 10 (.pointer (some ⟨gB, 0, none⟩))), defers := DF } wv from by
          intro wv gL gB hHeld lB zB oA
          refine hI.out _ _ _ _ ?_
          obtain ⟨rfl, rfl⟩ := Act.mk.inj hTD.out
          try simp only [Act.put, List.setIfInBounds_toArray, List.set_cons_zero, List.set_cons_succ]
          refine wpAnyH_ready (rs := [2, 13]) (by kernel_rfl) (by simp) ?_
          refine AllReadyH.cons rfl (fun K hK => ?_) (AllReadyH.cons rfl (fun K hK => ?_) (AllReadyH.nil))
          · refine step_apA elU8 oA.out hHeld.2.out (Nat.le_refl _) (r8.out.below hHeld.2.out) (.tmp 34) (.tmp 35) rfl rfl rfl rfl nil8.out O1.out ap_m0 ap_b0 (fun Ap0 cp0 vv ho hb' hg => ?_)
            rw [Nat.zero_add] at ho ⊢
            rw [show ([] : List Int).map (Value.int .u8) = [] from rfl, List.nil_append] at ho
            replace zB := hide (ro_grown zB.out hg (ow_ne_ro oA.out zB.out (by decide)))
            have ol := fun g (h : g < u5.heap.size) => (show oB (some ⟨gL, 0, none⟩) ≠ some g from fun e => by have := (oA.out.blk e).1; omega)
            refine hK.out _ _ (⟨hide (ro_grown hHeld.1.out hg (ol _ lbx0)), hide hb'⟩) (fun hHeld => ?_)
            clear hK K hg ol
            replace oA := hide ho
            clear ho hb'
            try simp only [Act.put, List.setIfInBounds_toArray, List.set_cons_zero, List.set_cons_succ]
            refine hE.out _ _ _ _ ?_
            have hh := st210.out _ gL Ap0 cp0 gB hHeld lB zB oA
            try simp only [Act.put, List.setIfInBounds_toArray, List.set_cons_zero, List.set_cons_succ] at hh
            exact hh
          · go_simp
            have lC := hHeld.2.out.size
            have zC := hide (Ro.new wv #[.slice none 0 0, .int .i64 0, .int .i64 0, .int .i64 0] 39)
            have ne := (show gB ≠ wv.heap.size from fun h => by have := zB.out.lt; omega)
            replace zB := hide (zB.out.alloc (.cells #[.slice none 0 0, .int .i64 0, .int .i64 0, .int .i64 0] 39))
            replace oA := hide (oA.out.alloc (.cells #[.slice none 0 0, .int .i64 0, .int .i64 0, .int .i64 0] 39))
            refine hK.out _ _ (⟨hide (hHeld.1.out.alloc _), hide (bl_alloc hHeld.2.out _)⟩) (fun hHeld => ?_)
            clear hK K
            try simp only [Act.put, List.setIfInBounds_toArray, List.set_cons_zero, List.set_cons_succ]
            refine hE.out _ _ _ _ ?_
            have hh := st111.out _ gL gB wv.heap.size hHeld lB zB lC zC ne oA
            try simp only [Act.put, List.setIfInBounds_toArray, List.set_cons_zero, List.set_cons_succ] at hh
            exact hh)
        have st101 := hide (show ∀ (wv : World) (gL : Nat) (gC : Nat), (Hid (Ro wv (g9) (#[.int .i64 1, .int .u32 (B.ut.length : Int), .int .u32 (B.sd.length : Int), .int .u32 (B.lp.length : Int), .int .u32 (B.ti.length : Int), .int .u32 (B.ty.length : Int), .int .u32 (B.ch.length : Int)]) 35) ∧ Hid (Below u5.heap.size u5 wv)) → u5.heap.size ≤ gC → Hid (Ro wv gC #[.slice none 0 0, .int .i64 0, .int .i64 0, .int .i64 0] 39) → Hid (Ow wv u5.heap.size 5 (some ⟨gL, 0, none⟩) 0 0 ([].map (Value.int .u8))) → FF 10 #[true, true, false, true, false, false, true, true, false, false, false, false, false, true, false, false] { tmps := ((((((TM.setIfInBounds 34 (.slice (some ⟨gL, 0, none⟩) 0 0)).setIfInBounds 35 (.slice A8 N c8)).setIfInBounds 37 (.slice A1 n1 c1)).setIfInBounds 40 (.agg #[.int .i64 1, .int .u32 (B.ut.length : Int), .int .u32 (B.sd.length : Int), .int .u32 (B.lp.length : Int), .int .u32 (B.ti.length : Int), .int .u32 (B.ty.length : Int), .int .u32 (B.ch.length : Int)])).setIfInBounds 41 (.int .i64 (k : Int))).setIfInBounds 11 (.pointer (some ⟨gC, 0, none⟩))), defers := DF } wv from by
          intro wv gL gC hHeld lC zC oA
          refine hI.out _ _ _ _ ?_
          obtain ⟨rfl, rfl⟩ := Act.mk.inj hTD.out
          try simp only [Act.put, List.setIfInBounds_toArray, List.set_cons_zero, List.set_cons_succ]
          refine wpAnyH_ready (rs := [2, 12]) (by kernel_rfl) (by simp) ?_
          refine AllReadyH.cons rfl (fun K hK => ?_) (AllReadyH.cons rfl (fun K hK => ?_) (AllReadyH.nil))
          · refine step_apA elU8 oA.out hHeld.2.out (Nat.le_refl _) (r8.out.below hHeld.2.out) (.tmp 34) (.tmp 35) rfl rfl rfl rfl nil8.out O1.out ap_m0 ap_b0 (fun Ap0 cp0 vv ho hb' hg => ?_)
            rw [Nat.zero_add] at ho ⊢
            rw [show ([] : List Int).map (Value.int .u8) = [] from rfl, List.nil_append] at ho
            replace zC := hide (ro_grown zC.out hg (ow_ne_ro oA.out zC.out (by decide)))
            have ol := fun g (h : g < u5.heap.size) => (show oB (some ⟨gL, 0, none⟩) ≠ some g from fun e => by have := (oA.out.blk e).1; omega)
            refine hK.out _ _ (⟨hide (ro_grown hHeld.1.out hg (ol _ lbx0)), hide hb'⟩) (fun hHeld => ?_)
            clear hK K hg ol
            replace oA := hide ho
            clear ho hb'
            try simp only [Act.put, List.setIfInBounds_toArray, List.set_cons_zero, List.set_cons_succ]
            refine hE.out _ _ _ _ ?_
            have hh := st201.out _ gL Ap0 cp0 gC hHeld lC zC oA
            try simp only [Act.put, List.setIfInBounds_toArray, List.set_cons_zero, List.set_cons_succ] at hh
            exact hh
          · go_simp
            have lB := hHeld.2.out.size
            have zB := hide (Ro.new wv #[.slice none 0 0, .slice none 0 0, .slice none 0 0, .slice none 0 0, .slice none 0 0, .slice none 0 0, .slice none 0 0] 28)
            have ne := (show wv.heap.size ≠ gC from fun h => by have := zC.out.lt; omega)
            replace zC := hide (zC.out.alloc (.cells #[.slice none 0 0, .slice none 0 0, .slice none 0 0, .slice none 0 0, .slice none 0 0, .slice none 0 0, .slice none 0 0] 28))
            replace oA := hide (oA.out.alloc (.cells #[.slice none 0 0, .slice none 0 0, .slice none 0 0, .slice none 0 0, .slice none 0 0, .slice none 0 0, .slice none 0 0] 28))
            refine hK.out _ _ (⟨hide (hHeld.1.out.alloc _), hide (bl_alloc hHeld.2.out _)⟩) (fun hHeld => ?_)
            clear hK K
            try simp only [Act.put, List.setIfInBounds_toArray, List.set_cons_zero, List.set_cons_succ]
            refine hE.out _ _ _ _ ?_
            have hh := st111.out _ gL wv.heap.size gC hHeld lB zB lC zC ne oA
            try simp only [Act.put, List.setIfInBounds_toArray, List.set_cons_zero, List.set_cons_succ] at hh
            exact hh)
        have st100 := hide (show ∀ (wv : World) (gL : Nat), (Hid (Ro wv (g9) (#[.int .i64 1, .int .u32 (B.ut.length : Int), .int .u32 (B.sd.length : Int), .int .u32 (B.lp.length : Int), .int .u32 (B.ti.length : Int), .int .u32 (B.ty.length : Int), .int .u32 (B.ch.length : Int)]) 35) ∧ Hid (Below u5.heap.size u5 wv)) → Hid (Ow wv u5.heap.size 5 (some ⟨gL, 0, none⟩) 0 0 ([].map (Value.int .u8))) → FF 11 #[true, true, false, true, false, false, true, true, false, false, false, false, false, false, false, false] { tmps := (((((TM.setIfInBounds 34 (.slice (some ⟨gL, 0, none⟩) 0 0)).setIfInBounds 35 (.slice A8 N c8)).setIfInBounds 37 (.slice A1 n1 c1)).setIfInBounds 40 (.agg #[.int .i64 1, .int .u32 (B.ut.length : Int), .int .u32 (B.sd.length : Int), .int .u32 (B.lp.length : Int), .int .u32 (B.ti.length : Int), .int .u32 (B.ty.length : Int), .int .u32 (B.ch.length : Int)])).setIfInBounds 41 (.int .i64 (k : Int))), defers := DF } wv from by
          intro wv gL hHeld oA
          refine hI.out _ _ _ _ ?_
          obtain ⟨rfl, rfl⟩ := Act.mk.inj hTD.out
          try simp only [Act.put, List.setIfInBounds_toArray, List.set_cons_zero, List.set_cons_succ]
          refine wpAnyH_ready (rs := [2, 12, 13]) (by kernel_rfl) (by simp) ?_
          refine AllReadyH.cons rfl (fun K hK => ?_) (AllReadyH.cons rfl (fun K hK => ?_) (AllReadyH.cons rfl (fun K hK => ?_) (AllReadyH.nil)))
          · refine step_apA elU8 oA.out hHeld.2.out (Nat.le_refl _) (r8.out.below hHeld.2.out) (.tmp 34) (.tmp 35) rfl rfl rfl rfl nil8.out O1.out ap_m0 ap_b0 (fun Ap0 cp0 vv ho hb' hg => ?_)
            rw [Nat.zero_add] at ho ⊢
            rw [show ([] : List Int).map (Value.int .u8) = [] from rfl, List.nil_append] at ho
            have ol := fun g (h : g < u5.heap.size) => (show oB (some ⟨gL, 0, none⟩) ≠ some g from fun e => by have := (oA.out.blk e).1; omega)
            refine hK.out _ _ (⟨hide (ro_grown hHeld.1.out hg (ol _ lbx0)), hide hb'⟩) (fun hHeld => ?_)
            clear hK K hg ol
            replace oA := hide ho
            clear ho hb'
            try simp only [Act.put, List.setIfInBounds_toArray, List.set_cons_zero, List.set_cons_succ]
            refine hE.out _ _ _ _ ?_
            have hh := st200.out _ gL Ap0 cp0 hHeld oA
            try simp only [Act.put, List.setIfInBounds_toArray, List.set_cons_zero, List.set_cons_succ] at hh
            exact hh
          · go_simp
            have lB := hHeld.2.out.size
            have zB := hide (Ro.new wv #[.slice none 0 0, .slice none 0 0, .slice none 0 0, .slice none 0 0, .slice none 0 0, .slice none 0 0, .slice none 0 0] 28)
            replace oA := hide (oA.out.alloc (.cells #[.slice none 0 0, .slice none 0 0, .slice none 0 0, .slice none 0 0, .slice none 0 0, .slice none 0 0, .slice none 0 0] 28))
            refine hK.out _ _ (⟨hide (hHeld.1.out.alloc _), hide (bl_alloc hHeld.2.out _)⟩) (fun hHeld => ?_)
            clear hK K
            try simp only [Act.put, List.setIfInBounds_toArray, List.set_cons_zero, List.set_cons_succ]
            refine hE.out _ _ _ _ ?_
            have hh := st110.out _ gL wv.heap.size hHeld lB zB oA
            try simp only [Act.put, List.setIfInBounds_toArray, List.set_cons_zero, List.set_cons_succ] at hh
            exact hh
          · go_simp
            have lC := hHeld.2.out.size
            have zC := hide (Ro.new wv #[.slice none 0 0, .int .i64 0, .int .i64 0, .int .i64 0] 39)
            replace oA := hide (oA.out.alloc (.cells #[.slice none 0 0, .int .i64 0, .int .i64 0, .int .i64 0] 39))
            refine hK.out _ _ (⟨hide (hHeld.1.out.alloc _), hide (bl_alloc hHeld.2.out _)⟩) (fun hHeld => ?_)
            clear hK K
            try simp only [Act.put, List.setIfInBounds_toArray, List.set_cons_zero, List.set_cons_succ]
            refine hE.out _ _ _ _ ?_
            have hh := st101.out _ gL wv.heap.size hHeld lC zC oA
            try simp only [Act.put, List.setIfInBounds_toArray, List.set_cons_zero, List.set_cons_succ] at hh
            exact hh)
        have st011 := hide (show ∀ (wv : World) (gB : Nat) (gC : Nat), (Hid (Ro wv (g9) (#[.int .i64 1, .int .u32 (B.ut.length : Int), .int .u32 (B.sd.length : Int), .int .u32 (B.lp.length : Int), .int .u32 (B.ti.length : Int), .int .u32 (B.ty.length : Int), .int .u32 (B.ch.length : Int)]) 35) ∧ Hid (Below u5.heap.size u5 wv)) → u5.heap.size ≤ gB → Hid (Ro wv gB #[.slice none 0 0, .slice none 0 0, .slice none 0 0, .slice none 0 0, .slice none 0 0, .slice none 0 0, .slice none 0 0] 28) → u5.heap.size ≤ gC → Hid (Ro wv gC #[.slice none 0 0, .int .i64 0, .int .i64 0, .int .i64 0] 39) → gB ≠ gC → FF 10 #[false, true, false, true, false, false, true, true, false, false, false, false, true, true, false, false] { tmps := ((((((TM.setIfInBounds 35 (.slice A8 N c8)).setIfInBounds 37 (.slice A1 n1 c1)).setIfInBounds 40 (.agg #[.int .i64 1, .int .u32 (B.ut.length : Int), .int .u32 (B.sd.length : Int), .int .u32 (B.lp.length : Int), .int .u32 (B.ti.length : Int), .int .u32 (B.ty.length : Int), .int .u32 (B.ch.length : Int)])).setIfInBounds 41 (.int .i64 (k : Int))).setIfInBounds 10 (.pointer (some ⟨gB, 0, none⟩))).setIfInBounds 11 (.pointer (some ⟨gC, 0, none⟩))), defers := DF } wv from by
          intro wv gB gC hHeld lB zB lC zC ne
          refine hI.out _ _ _ _ ?_
          obtain ⟨rfl, rfl⟩ := Act.mk.inj hTD.out
          try simp only [Act.put, List.setIfInBounds_toArray, List.set_cons_zero, List.set_cons_succ]
          refine wpAnyH_ready (rs := [0]) (by kernel_rfl) (by simp) ?_
          refine AllReadyH.cons rfl (fun K hK => ?_) (AllReadyH.nil)
          · go_simp
            have oA := hide (Ow.mono (b' := u5.heap.size) (Ow.lit wv 5 [] (by simp)) hHeld.2.out.size)
            replace zB := hide (zB.out.alloc (.cells #[] 5))
            replace zC := hide (zC.out.alloc (.cells #[] 5))
            refine hK.out _ _ (⟨hide (hHeld.1.out.alloc _), hide (bl_alloc hHeld.2.out _)⟩) (fun hHeld => ?_)
            clear hK K
            try simp only [Act.put, List.setIfInBounds_toArray, List.set_cons_zero, List.set_cons_succ]
            refine hE.out _ _ _ _ ?_
            have hh := st111.out _ wv.heap.size gB gC hHeld lB zB lC zC ne oA
            try simp only [Act.put, List.setIfInBounds_toArray, List.set_cons_zero, List.set_cons_succ] at hh
            exact hh)
        have st010 := hide (show ∀ (wv : World) (gB : Nat), (Hid (Ro wv (g9) (#[.int .i64 1, .int .u32 (B.ut.length : Int), .int .u32 (B.sd.length : Int), .int .u32 (B.lp.length : Int), .int .u32 (B.ti.length : Int), .int .u32 (B.ty.length : Int), .int .u32 (B.ch.length : Int)]) 35) ∧ Hid (Below u5.heap.size u5 wv)) → u5.heap.size ≤ gB → Hid (Ro wv gB #[.slice none 0 0, .slice none 0 0, .slice none 0 0, .slice none 0 0, .slice none 0 0, .slice none 0 0, .slice none 0 0] 28) → FF 11 #[false, true, false, true, false, false, true, true, false, false, false, false, true, false, false, false] { tmps := (((((TM.setIfInBounds 35 (.slice A8 N c8)).setIfInBounds 37 (.slice A1 n1 c1)).setIfInBounds 40 (.agg #[.int .i64 1, .int .u32 (B.ut.length : Int), .int .u32 (B.sd.length : Int), .int .u32 (B.lp.length : Int), .int .u32 (B.ti.length : Int), .int .u32 (B.ty.length : Int), .int .u32 (B.ch.length : Int)])).setIfInBounds 41 (.int .i64 (k : Int))).setIfInBounds 10 (.pointer (some ⟨gB, 0, none⟩))), defers := DF } wv from by
          intro wv gB hHeld lB zB
          refine hI.out _ _ _ _ ?_
          obtain ⟨rfl, rfl⟩ := Act.mk.inj hTD.out
          try simp only [Act.put, List.setIfInBounds_toArray, List.set_cons_zero, List.set_cons_succ]
          refine wpAnyH_ready (rs := [0, 13]) (by kernel_rfl) (by simp) ?_
          refine AllReadyH.cons rfl (fun K hK => ?_) (AllReadyH.cons rfl (fun K hK => ?_) (AllReadyH.nil))
          · go_simp
            have oA := hide (Ow.mono (b' := u5.heap.size) (Ow.lit wv 5 [] (by simp)) hHeld.2.out.size)
            replace zB := hide (zB.out.alloc (.cells #[] 5))
            refine hK.out _ _ (⟨hide (hHeld.1.out.alloc _), hide (bl_alloc hHeld.2.out _)⟩) (fun hHeld => ?_)
            clear hK K
            try simp only [Act.put, List.setIfInBounds_toArray, List.set_cons_zero, List.set_cons_succ]
            refine hE.out _ _ _ _ ?_
            have hh := st110.out _ wv.heap.size gB hHeld lB zB oA
            try simp only [Act.put, List.setIfInBounds_toArray, List.set_cons_zero, List.set_cons_succ] at hh
            exact hh
          · go_simp
            have lC := hHeld.2.out.size
            have zC := hide (Ro.new wv #[.slice none 0 0, .int .i64 0, .int .i64 0, .int .i64 0] 39)
            have ne := (show gB ≠ wv.heap.size from fun h => by have := zB.out.lt; omega)
            replace zB := hide (zB.out.alloc (.cells #[.slice none 0 0, .int .i64 0, .int .i64 0, .int .i64 0] 39))
            refine hK.out _ _ (⟨hide (hHeld.1.out.alloc _), hide (bl_alloc hHeld.2.out _)⟩) (fun hHeld => ?_)
            clear hK K
            try simp only [Act.put, List.setIfInBounds_toArray, List.set_cons_zero, List.set_cons_succ]
            refine hE.out _ _ _ _ ?_
            have hh := st011.out _ gB wv.heap.size hHeld lB zB lC zC ne
            try simp only [Act.put, List.setIfInBounds_toArray, List.set_cons_zero, List.set_cons_succ] at hh
            exact hh)
        have st001 := hide (show ∀ (wv : World) (gC : Nat), (Hid (Ro wv (g9) (#[.int .i64 1, .int .u32 (B.ut.length : Int), .int .u32 (B.sd.length : Int), .int .u32 (B.lp.length : Int), .int .u32 (B.ti.length : Int), .int .u32 (B.ty.length : Int), .int .u32 (B.ch.length : Int)]) 35) ∧ Hid (Below u5.heap.size u5 wv)) → u5.heap.size ≤ gC → Hid (Ro wv gC #[.slice none 0 0, .int .i64 0, .int .i64 0, .int .i64 0] 39) → FF 11 #[false, true, false, true, false, false, true, true, false, false, false, false, false, true, false, false] { tmps := (((((TM.setIfInBounds 35 (.slice A8 N c8)).setIfInBounds 37 (.slice A1 n1 c1)).setIfInBounds 40 (.agg #[.int .i64 1, .int .u32 (B.ut.length : Int), .int .u32 (B.sd.length : Int), .int .u32 (B.lp.length : Int), .int .u32 (B.ti.length : Int), .int .u32 (B.ty.length : Int), .int .u32 (B.ch.length : Int)])).setIfInBounds 41 (.int .i64 (k : Int))).setIfInBounds 11 (.pointer (some ⟨gC, 0, none⟩))), defers := DF } wv from by
          intro wv gC hHeld lC zC
          refine hI.out _ _ _ _ ?_
          obtain ⟨rfl, rfl⟩ := Act.mk.inj hTD.out
          try simp only [Act.put, List.setIfInBounds_toArray, List.set_cons_zero, List.set_cons_succ]
          refine wpAnyH_ready (rs := [0, 12]) (by kernel_rfl) (by simp) ?_
          refine AllReadyH.cons rfl (fun K hK => ?_) (AllReadyH.cons rfl (fun K hK => ?_) (AllReadyH.nil))
          · go_simp
            have oA := hide (Ow.mono (b' := u5.heap.size) (Ow.lit wv 5 [] (by simp)) hHeld.2.out.size)
            replace zC := hide (zC.out.alloc (.cells #[] 5))
            refine hK.out _ _ (⟨hide (hHeld.1.out.alloc _), hide (bl_alloc hHeld.2.out _)⟩) (fun hHeld => ?_)
            clear hK K
            try simp only [Act.put, List.setIfInBounds_toArray, List.set_cons_zero, List.set_cons_succ]
            refine hE.out _ _ _ _ ?_
            have hh := st101.out _ wv.heap.size gC hHeld lC zC oA
            try simp only [Act.put, List.setIfInBounds_toArray, List.set_cons_zero, List.set_cons_succ] at hh
            exact hh
          · go_simp
            have lB := hHeld.2.out.size
            have zB := hide (Ro.new wv #[.slice none 0 0, .slice none 0 0, .slice none 0 0, .slice none 0 0, .slice none 0 0, .slice none 0 0, .slice none 0 0] 28)
            have ne := (show wv.heap.size ≠ gC from fun h => by have := zC.out.lt; omega)
            replace zC := hide (zC.out.alloc (.cells #[.slice none 0 0, .slice none 0 0, .slice none 0 0, .slice none 0 0, .slice none 0 0, .slice none 0 0, .slice none 0 0] 28))
            refine hK.out _ _ (⟨hide (hHeld.1.out.alloc _), hide (bl_alloc hHeld.2.out _)⟩) (fun hHeld => ?_)
            clear hK K
            try simp only [Act.put, List.setIfInBounds_toArray, List.set_cons_zero, List.set_cons_succ]
            refine hE.out _ _ _ _ ?_
            have hh := st011.out _ wv.heap.size gC hHeld lB zB lC zC ne
            try simp only [Act.put, List.setIfInBounds_toArray, List.set_cons_zero, List.set_cons_succ] at hh
            exact hh)
        have st000 := hide (show ∀ (wv : World), (Hid (Ro wv (g9) (#[.int .i64 1, .int .u32 (B.ut.length : Int), .int .u32 (B.sd.length : Int), .int .u32 (B.lp.length : Int), .int .u32 (B.ti.length : Int), .int .u32 (B.ty.length : Int), .int .u32 (B.ch.length : Int)]) 35) ∧ Hid (Below u5.heap.size u5 wv)) → FF 12 #[false, true, false, true, false, false, true, true, false, false, false, false, false, false, false, false] { tmps := ((((TM.setIfInBounds 35 (.slice A8 N c8)).setIfInBounds 37 (.slice A1 n1 c1)).setIfInBounds 40 (.agg #[.int .i64 1, .int .u32 (B.ut.length : Int), .int .u32 (B.sd.length : Int), .int .u32 (B.lp.length : Int), .int .u32 (B.ti.length : Int), .int .u32 (B.ty.length : Int), .int .u32 (B.ch.length : Int)])).setIfInBounds 41 (.int .i64 (k : Int))), defers := DF } wv from by
          intro wv  hHeld 
          refine hI.out _ _ _ _ ?_
          obtain ⟨rfl, rfl⟩ := Act.mk.inj hTD.out
          try simp only [Act.put, List.setIfInBounds_toArray, List.set_cons_zero, List.set_cons_succ]
          refine wpAnyH_ready (rs := [0, 12, 13]) (by kernel_rfl) (by simp) ?_
          refine AllReadyH.cons rfl (fun K hK => ?_) (AllReadyH.cons rfl (fun K hK => ?_) (AllReadyH.cons rfl (fun K hK => ?_) (AllReadyH.nil)))
          · go_simp
            have oA := hide (Ow.mono (b' := u5.heap.size) (Ow.lit wv 5 [] (by simp)) hHeld.2.out.size)
            refine hK.out _ _ (⟨hide (hHeld.1.out.alloc _), hide (bl_alloc hHeld.2.out _)⟩) (fun hHeld => ?_)
            clear hK K
            try simp only [Act.put, List.setIfInBounds_toArray, List.set_cons_zero, List.set_cons_succ]
            refine hE.out _ _ _ _ ?_
            have hh := st100.out _ wv.heap.size hHeld oA
            try simp only [Act.put, List.setIfInBounds_toArray, List.set_cons_zero, List.set_cons_succ] at hh
            exact hh
          · go_simp
            have lB := hHeld.2.out.size
            have zB := hide (Ro.new wv #[.slice none 0 0, .slice none 0 0, .slice none 0 0, .slice none 0 0, .slice none 0 0, .slice none 0 0, .slice none 0 0] 28)
            refine hK.out _ _ (⟨hide (hHeld.1.out.alloc _), hide (bl_alloc hHeld.2.out _)⟩) (fun hHeld => ?_)
            clear hK K
            try simp only [Act.put, List.setIfInBounds_toArray, List.set_cons_zero, List.set_cons_succ]
            refine hE.out _ _ _ _ ?_
            have hh := st010.out _ wv.heap.size hHeld lB zB
            try simp only [Act.put, List.setIfInBounds_toArray, List.set_cons_zero, List.set_cons_succ] at hh
            exact hh
          · go_simp
            have lC := hHeld.2.out.size
            have zC := hide (Ro.new wv #[.slice none 0 0, .int .i64 0, .int .i64 0, .int .i64 0] 39)
            refine hK.out _ _ (⟨hide (hHeld.1.out.alloc _), hide (bl_alloc hHeld.2.out _)⟩) (fun hHeld => ?_)
            clear hK K
            try simp only [Act.put, List.setIfInBounds_toArray, List.set_cons_zero, List.set_cons_succ]
            refine hE.out _ _ _ _ ?_
            have hh := st001.out _ wv.heap.size hHeld lC zC
            try simp only [Act.put, List.setIfInBounds_toArray, List.set_cons_zero, List.set_cons_succ] at hh
            exact hh)
        have hh := st000.out _ hHeld
        obtain ⟨rfl, rfl⟩ := Act.mk.inj hTD.out
        try simp only [Act.put, List.setIfInBounds_toArray, List.set_cons_zero, List.set_cons_succ] at hh
        exact hh
      case rest =>
        obtain ⟨gB, gC, S, Ap1, cp1, rfl, rfl, lB, lC, ne, k10, k11, oS, -, -, h1⟩ := hcut
        rename World => wx
        replace h1 := h1.out
        clear r8 r1
        replace k3 := hide (k3.out.below h1)
        replace i0 := hide (i0.out.below h1)
        replace k9 := hide (k9.out.below h1)
        replace HT := hide (HT.out.below h1)
        replace hb := hide (bel_next hb.out h1)
        clear h1
        have i10 := hide oS.out.is
        clear oS D
        obtain ⟨k9c0, _⟩ := ro_cf k9.out 0 _ rfl
        obtain ⟨k9c1, _⟩ := ro_cf k9.out 1 _ rfl
        obtain ⟨k9c2, _⟩ := ro_cf k9.out 2 _ rfl
        obtain ⟨k9c3, _⟩ := ro_cf k9.out 3 _ rfl
        obtain ⟨k9c4, _⟩ := ro_cf k9.out 4 _ rfl
        obtain ⟨k9c5, _⟩ := ro_cf k9.out 5 _ rfl
        obtain ⟨k9c6, _⟩ := ro_cf k9.out 6 _ rfl
        go_wp2_with fail
        refine (Sm.out _).mono ?_
        rintro e w7 ⟨rfl, h1⟩
        clear k9c0 k9c1 k9c2 k9c3 k9c4 k9c5 k9c6
        replace k3 := hide (k3.out.below h1)
        replace i0 := hide (i0.out.below h1)
        replace k9 := hide (k9.out.below h1)
        replace k10 := hide (k10.out.below h1)
        replace k11 := hide (k11.out.below h1)
        replace i10 := hide (i10.out.below h1)
        replace HT := hide (HT.out.below h1)
        replace hb := hide (bel_next hb.out h1)
        clear h1
        clear Sm
        obtain ⟨k11c1, _⟩ := ro_cf k11.out 1 _ rfl
        obtain ⟨k11c2, _⟩ := ro_cf k11.out 2 _ rfl
        obtain ⟨k10c0, _⟩ := ro_cf k10.out 0 _ rfl
        obtain ⟨k10c1, _⟩ := ro_cf k10.out 1 _ rfl
        obtain ⟨k10c2, _⟩ := ro_cf k10.out 2 _ rfl
        obtain ⟨k10c3, _⟩ := ro_cf k10.out 3 _ rfl
        obtain ⟨k10c4, _⟩ := ro_cf k10.out 4 _ rfl
        obtain ⟨k10c5, _⟩ := ro_cf k10.out 5 _ rfl
        obtain ⟨k10c6, _⟩ := ro_cf k10.out 6 _ rfl
        obtain ⟨k3c0, _⟩ := ro_cf k3.out 0 _ rfl
        obtain ⟨k3c1, _⟩ := ro_cf k3.out 1 _ rfl
        obtain ⟨k3c2, _⟩ := ro_cf k3.out 2 _ rfl
        obtain ⟨k3c3, _⟩ := ro_cf k3.out 3 _ rfl
        obtain ⟨k3c4, _⟩ := ro_cf k3.out 4 _ rfl
        obtain ⟨k3c5, _⟩ := ro_cf k3.out 5 _ rfl
        obtain ⟨k3c6, _⟩ := ro_cf k3.out 6 _ rfl
        go_wp2_with fail
        refine (r19_.Equal S S0 B B _ i10.out i0.out).mono ?_
        rintro e w8 ⟨rfl, h1⟩
        clear k11c1 k11c2
        clear k10c0 k10c1 k10c2 k10c3 k10c4 k10c5 k10c6
        clear k3c0 k3c1 k3c2 k3c3 k3c4 k3c5 k3c6
        replace k3 := hide (k3.out.below h1)
        replace i0 := hide (i0.out.below h1)
        replace k9 := hide (k9.out.below h1)
        replace k10 := hide (k10.out.below h1)
        replace k11 := hide (k11.out.below h1)
        replace i10 := hide (i10.out.below h1)
        replace HT := hide (HT.out.below h1)
        replace hb := hide (bel_next hb.out h1)
        clear h1
        rw [beqB_self]
        obtain ⟨k10c0, _⟩ := ro_cf k10.out 0 _ rfl
        obtain ⟨k10c1, _⟩ := ro_cf k10.out 1 _ rfl
        obtain ⟨k10c2, _⟩ := ro_cf k10.out 2 _ rfl
        obtain ⟨k10c3, _⟩ := ro_cf k10.out 3 _ rfl
        obtain ⟨k10c4, _⟩ := ro_cf k10.out 4 _ rfl
        obtain ⟨k10c5, _⟩ := ro_cf k10.out 5 _ rfl
        obtain ⟨k10c6, _⟩ := ro_cf k10.out 6 _ rfl
        obtain ⟨k3c0, _⟩ := ro_cf k3.out 0 _ rfl
        obtain ⟨k3c1, _⟩ := ro_cf k3.out 1 _ rfl
        obtain ⟨k3c2, _⟩ := ro_cf k3.out 2 _ rfl
        obtain ⟨k3c3, _⟩ := ro_cf k3.out 3 _ rfl
        obtain ⟨k3c4, _⟩ := ro_cf k3.out 4 _ rfl
        obtain ⟨k3c5, _⟩ := ro_cf k3.out 5 _ rfl
        obtain ⟨k3c6, _⟩ := ro_cf k3.out 6 _ rfl
        go_wp2_with fail
        refine (bl_.Equal S S0 B B _ HT.out i10.out i0.out).mono ?_
        rintro e w9 ⟨rfl, h1⟩
        clear k10c0 k10c1 k10c2 k10c3 k10c4 k10c5 k10c6
        clear k3c0 k3c1 k3c2 k3c3 k3c4 k3c5 k3c6
        replace k3 := hide (k3.out.below h1)
        replace i0 := hide (i0.out.below h1)
        replace k9 := hide (k9.out.below h1)
        replace k10 := hide (k10.out.below h1)
        replace k11 := hide (k11.out.below h1)
        replace i10 := hide (i10.out.below h1)
        replace HT := hide (HT.out.below h1)
        replace hb := hide (bel_next hb.out h1)
        clear h1
        rw [beqB_self]
        go_wp2
        go_ret
        exact ⟨rfl, hb.out⟩
end l19_
end Go.Proofs.YtbajdlgcajeldaaDoor

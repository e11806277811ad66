/-
  THE WALKS OF THE LAWS OF LAYER 19 (zoneinfolaw19): BlockMatchesReference. Condition: the table's fact.
-/
import Derived.Test.YtbajdlgcajeldaaGreatDoorLaw19
import Derived.Test.YtbajdlgcajeldaaGreatDoorLaw19w
import Derived.Deep.RegionLaw
import Derived.Deep.RegionWith
namespace Go.Proofs.YtbajdlgcajeldaaGreatDoor
open Go.ChangeShapes Go.WideShapes Go.ChangeAt Go.RowKit
set_option linter.unusedVariables false
set_option linter.unusedSimpArgs false
set_option maxRecDepth 100000
namespace l19_
set_option maxHeartbeats 16000000 in
theorem mref (A1 : Option Addr) (n1 c1 : Nat) (z1 : List Int) (p e t : Int) (v a b c d x y : Int) (S0 : BkS) (B : Bk) (wd : Bool) (at_ : Int) (w : World) (hT : Tq w) (h1 : IsRw .u8 w A1 n1 c1 z1) (hp : (Lit.int .i64 p).wf = true) (he_ : (Lit.int .i64 e).wf = true) (ht : (Lit.int .i64 t).wf = true) (hv : (Lit.int .i64 v).wf = true) (ha : (Lit.int .u32 a).wf = true) (hb_ : (Lit.int .u32 b).wf = true) (hc : (Lit.int .u32 c).wf = true) (hd : (Lit.int .u32 d).wf = true) (hx : (Lit.int .u32 x).wf = true) (hy : (Lit.int .u32 y).wf = true) (hS : IsBk w S0 B) (hat : (Lit.int .i64 at_).wf = true) :
    Calls Tryz.prog 3 #[cu A1 n1 c1 p e t, .agg #[.int .i64 v, .int .u32 a, .int .u32 b, .int .u32 c, .int .u32 d, .int .u32 x, .int .u32 y], bkV S0, .bool wd, .int .i64 at_] w fun e w' => e = .returned (.bool true) ∧ Below w.heap.size w w' := by
  show Calls Tryz.prog 3 #[.agg #[.slice A1 n1 c1, .int .i64 p, .int .i64 e, .int .i64 t], .agg #[.int .i64 v, .int .u32 a, .int .u32 b, .int .u32 c, .int .u32 d, .int .u32 x, .int .u32 y], .agg #[.slice S0.ti.A S0.ti.n S0.ti.c, .slice S0.ix.A S0.ix.n S0.ix.c, .slice S0.ty.A S0.ty.n S0.ty.c, .slice S0.ch.A S0.ch.n S0.ch.c, .slice S0.lp.A S0.lp.n S0.lp.c, .slice S0.sd.A S0.sd.n S0.sd.c, .slice S0.ut.A S0.ut.n S0.ut.c], .bool wd, .int .i64 at_] w _
  have r1 := hide h1.rd
  have B1 := hide (show Bytes (z1.take n1) from bytes_of_mem fun q hq => wf_u8 (h1.wf q hq))
  have nil1 := hide h1.nil
  obtain ⟨oc1, om1⟩ := h1.cap
  obtain ⟨p0, p1⟩ := wf_i64 hp
  obtain ⟨t0, t1⟩ := wf_i64 ht
  obtain ⟨a0, a1⟩ := wf_i64 hat
  clear hp he_ ht hat
  obtain ⟨a, rfl⟩ : ∃ m : Nat, a = (m : Int) := ⟨a.toNat, by have := (c32_ ha).1; omega⟩
  obtain ⟨b, rfl⟩ : ∃ m : Nat, b = (m : Int) := ⟨b.toNat, by have := (c32_ hb_).1; omega⟩
  obtain ⟨c, rfl⟩ : ∃ m : Nat, c = (m : Int) := ⟨c.toNat, by have := (c32_ hc).1; omega⟩
  obtain ⟨d, rfl⟩ : ∃ m : Nat, d = (m : Int) := ⟨d.toNat, by have := (c32_ hd).1; omega⟩
  obtain ⟨x, rfl⟩ : ∃ m : Nat, x = (m : Int) := ⟨x.toNat, by have := (c32_ hx).1; omega⟩
  obtain ⟨y, rfl⟩ : ∃ m : Nat, y = (m : Int) := ⟨y.toNat, by have := (c32_ hy).1; omega⟩
  have C0 : C32 (a : Int) ∧ C32 (b : Int) ∧ C32 (c : Int) ∧ C32 (d : Int) ∧ C32 (x : Int) ∧ C32 (y : Int) := ⟨c32_ ha, c32_ hb_, c32_ hc, c32_ hd, c32_ hx, c32_ hy⟩
  clear hv ha hb_ hc hd hx hy h1
  obtain ⟨k, hk, hK⟩ : ∃ k : Nat, (k = 4 ∨ k = 8) ∧ (if wd = true then (8 : Int) else 4) = (k : Int) := by cases wd; exact ⟨4, .inl rfl, rfl⟩; exact ⟨8, .inr rfl, rfl⟩
  have Zs := hide (fun w => (r14_.SizeB wd w).mono (R' := fun e w' => e = .returned (.int .i64 (k : Int)) ∧ Below w.heap.size w w') (by rintro e w' ⟨rfl, h⟩; exact ⟨by rw [hK], h⟩))
  clear hK
  have hL : LyC a b c d x y (k : Int) := ⟨C0.1, C0.2.1, C0.2.2.1, C0.2.2.2.1, C0.2.2.2.2.1, C0.2.2.2.2.2, by omega⟩
  clear C0
  have hln : (z1.take n1).length = n1 := by have := r1.out.len; simpa using this
  have hb := hide (bl_alloc (bl_alloc (bl_new w (.cells #[.slice A1 n1 c1, .int .i64 p, .int .i64 e, .int .i64 t] 25)) (.cells #[.int .i64 v, .int .u32 (a : Int), .int .u32 (b : Int), .int .u32 (c : Int), .int .u32 (d : Int), .int .u32 (x : Int), .int .u32 (y : Int)] 28)) (.cells #[.slice S0.ti.A S0.ti.n S0.ti.c, .slice S0.ix.A S0.ix.n S0.ix.c, .slice S0.ty.A S0.ty.n S0.ty.c, .slice S0.ch.A S0.ch.n S0.ch.c, .slice S0.lp.A S0.lp.n S0.lp.c, .slice S0.sd.A S0.sd.n S0.sd.c, .slice S0.ut.A S0.ut.n S0.ut.c] 34))
  have kc := hide (((Ro.new w #[.slice A1 n1 c1, .int .i64 p, .int .i64 e, .int .i64 t] 25).alloc (.cells #[.int .i64 v, .int .u32 (a : Int), .int .u32 (b : Int), .int .u32 (c : Int), .int .u32 (d : Int), .int .u32 (x : Int), .int .u32 (y : Int)] 28)).alloc (.cells #[.slice S0.ti.A S0.ti.n S0.ti.c, .slice S0.ix.A S0.ix.n S0.ix.c, .slice S0.ty.A S0.ty.n S0.ty.c, .slice S0.ch.A S0.ch.n S0.ch.c, .slice S0.lp.A S0.lp.n S0.lp.c, .slice S0.sd.A S0.sd.n S0.sd.c, .slice S0.ut.A S0.ut.n S0.ut.c] 34))
  have kh := hide (show Ro (((w.alloc (.cells #[.slice A1 n1 c1, .int .i64 p, .int .i64 e, .int .i64 t] 25)).alloc (.cells #[.int .i64 v, .int .u32 (a : Int), .int .u32 (b : Int), .int .u32 (c : Int), .int .u32 (d : Int), .int .u32 (x : Int), .int .u32 (y : Int)] 28)).alloc (.cells #[.slice S0.ti.A S0.ti.n S0.ti.c, .slice S0.ix.A S0.ix.n S0.ix.c, .slice S0.ty.A S0.ty.n S0.ty.c, .slice S0.ch.A S0.ch.n S0.ch.c, .slice S0.lp.A S0.lp.n S0.lp.c, .slice S0.sd.A S0.sd.n S0.sd.c, .slice S0.ut.A S0.ut.n S0.ut.c] 34)) (w.heap.size + 1) #[.int .i64 v, .int .u32 (a : Int), .int .u32 (b : Int), .int .u32 (c : Int), .int .u32 (d : Int), .int .u32 (x : Int), .int .u32 (y : Int)] 28 from by have := (Ro.new (w.alloc (.cells #[.slice A1 n1 c1, .int .i64 p, .int .i64 e, .int .i64 t] 25)) #[.int .i64 v, .int .u32 (a : Int), .int .u32 (b : Int), .int .u32 (c : Int), .int .u32 (d : Int), .int .u32 (x : Int), .int .u32 (y : Int)] 28).alloc (.cells #[.slice S0.ti.A S0.ti.n S0.ti.c, .slice S0.ix.A S0.ix.n S0.ix.c, .slice S0.ty.A S0.ty.n S0.ty.c, .slice S0.ch.A S0.ch.n S0.ch.c, .slice S0.lp.A S0.lp.n S0.lp.c, .slice S0.sd.A S0.sd.n S0.sd.c, .slice S0.ut.A S0.ut.n S0.ut.c] 34); simp only [World.size_alloc] at this; exact this)
  have k3 := hide (show Ro (((w.alloc (.cells #[.slice A1 n1 c1, .int .i64 p, .int .i64 e, .int .i64 t] 25)).alloc (.cells #[.int .i64 v, .int .u32 (a : Int), .int .u32 (b : Int), .int .u32 (c : Int), .int .u32 (d : Int), .int .u32 (x : Int), .int .u32 (y : Int)] 28)).alloc (.cells #[.slice S0.ti.A S0.ti.n S0.ti.c, .slice S0.ix.A S0.ix.n S0.ix.c, .slice S0.ty.A S0.ty.n S0.ty.c, .slice S0.ch.A S0.ch.n S0.ch.c, .slice S0.lp.A S0.lp.n S0.lp.c, .slice S0.sd.A S0.sd.n S0.sd.c, .slice S0.ut.A S0.ut.n S0.ut.c] 34)) (w.heap.size + 1 + 1) #[.slice S0.ti.A S0.ti.n S0.ti.c, .slice S0.ix.A S0.ix.n S0.ix.c, .slice S0.ty.A S0.ty.n S0.ty.c, .slice S0.ch.A S0.ch.n S0.ch.c, .slice S0.lp.A S0.lp.n S0.lp.c, .slice S0.sd.A S0.sd.n S0.sd.c, .slice S0.ut.A S0.ut.n S0.ut.c] 34 from by have := Ro.new ((w.alloc (.cells #[.slice A1 n1 c1, .int .i64 p, .int .i64 e, .int .i64 t] 25)).alloc (.cells #[.int .i64 v, .int .u32 (a : Int), .int .u32 (b : Int), .int .u32 (c : Int), .int .u32 (d : Int), .int .u32 (x : Int), .int .u32 (y : Int)] 28)) #[.slice S0.ti.A S0.ti.n S0.ti.c, .slice S0.ix.A S0.ix.n S0.ix.c, .slice S0.ty.A S0.ty.n S0.ty.c, .slice S0.ch.A S0.ch.n S0.ch.c, .slice S0.lp.A S0.lp.n S0.lp.c, .slice S0.sd.A S0.sd.n S0.sd.c, .slice S0.ut.A S0.ut.n S0.ut.c] 34; simp only [World.size_alloc] at this; exact this)
  have HT := hide (hT.below hb.out)
  replace r1 := hide (r1.out.below hb.out)
  have i0 := hide (hS.below hb.out)
  clear hT hS
  go_enter Tryz.func3, Tryz.ntmps3
  go_upto_region 1 with fail
  generalize (((w.alloc (.cells #[.slice A1 n1 c1, .int .i64 p, .int .i64 e, .int .i64 t] 25)).alloc (.cells #[.int .i64 v, .int .u32 (a : Int), .int .u32 (b : Int), .int .u32 (c : Int), .int .u32 (d : Int), .int .u32 (x : Int), .int .u32 (y : Int)] 28)).alloc (.cells #[.slice S0.ti.A S0.ti.n S0.ti.c, .slice S0.ix.A S0.ix.n S0.ix.c, .slice S0.ty.A S0.ty.n S0.ty.c, .slice S0.ch.A S0.ch.n S0.ch.c, .slice S0.lp.A S0.lp.n S0.lp.c, .slice S0.sd.A S0.sd.n S0.sd.c, .slice S0.ut.A S0.ut.n S0.ut.c] 34)) = u1 at *
  go_wp2_with fail
  refine (awake _ HT.out).mono ?_
  rintro e w1 ⟨rfl, h1⟩
  replace kc := hide (kc.out.below h1)
  replace kh := hide (kh.out.below h1)
  replace k3 := hide (k3.out.below h1)
  replace r1 := hide (r1.out.below h1)
  replace i0 := hide (i0.out.below h1)
  replace HT := hide (HT.out.below h1)
  replace hb := hide (bel_next hb.out h1)
  clear h1
  by_cases hva : 0 ≤ p ∧ p ≤ n1 ∧ (e ≠ 0 ∨ t = 0) ∧ n1 ≤ 2000
  rotate_left
  · replace hva := hide hva
    obtain ⟨kcc0, _⟩ := ro_cf kc.out 0 _ rfl
    obtain ⟨kcc1, _⟩ := ro_cf kc.out 1 _ rfl
    obtain ⟨kcc2, _⟩ := ro_cf kc.out 2 _ rfl
    obtain ⟨kcc3, _⟩ := ro_cf kc.out 3 _ rfl
    go_wp2_with fail
    refine (r2_.Valid_no A1 n1 c1 p e t _ hva.out).mono ?_
    rintro e' w2 ⟨rfl, h1⟩
    clear kcc0 kcc1 kcc2 kcc3
    replace kc := hide (kc.out.below h1)
    replace kh := hide (kh.out.below h1)
    replace k3 := hide (k3.out.below h1)
    replace r1 := hide (r1.out.below h1)
    replace i0 := hide (i0.out.below h1)
    replace HT := hide (HT.out.below h1)
    replace hb := hide (bel_next hb.out h1)
    clear h1
    go_wp2_with fail
    refine (awake _ HT.out).mono ?_
    rintro e wz ⟨rfl, h1⟩
    replace kc := hide (kc.out.below h1)
    replace kh := hide (kh.out.below h1)
    replace k3 := hide (k3.out.below h1)
    replace r1 := hide (r1.out.below h1)
    replace i0 := hide (i0.out.below h1)
    replace HT := hide (HT.out.below h1)
    replace hb := hide (bel_next hb.out h1)
    clear h1
    go_wp2
    go_ret
    exact ⟨rfl, hb.out⟩
  · obtain ⟨v0, v1, v2, v3⟩ := hva
    replace v2 := hide v2
    obtain ⟨kcc0, _⟩ := ro_cf kc.out 0 _ rfl
    obtain ⟨kcc1, _⟩ := ro_cf kc.out 1 _ rfl
    obtain ⟨kcc2, _⟩ := ro_cf kc.out 2 _ rfl
    obtain ⟨kcc3, _⟩ := ro_cf kc.out 3 _ rfl
    go_wp2_with fail
    refine (r2_.Valid_yes A1 n1 c1 p e t _ v0 v1 v2.out v3).mono ?_
    rintro e' w2 ⟨rfl, h1⟩
    clear kcc0 kcc1 kcc2 kcc3
    replace kc := hide (kc.out.below h1)
    replace kh := hide (kh.out.below h1)
    replace k3 := hide (k3.out.below h1)
    replace r1 := hide (r1.out.below h1)
    replace i0 := hide (i0.out.below h1)
    replace HT := hide (HT.out.below h1)
    replace hb := hide (bel_next hb.out h1)
    clear h1
    obtain ⟨k3c0, _⟩ := ro_cf k3.out 0 _ rfl
    obtain ⟨k3c1, _⟩ := ro_cf k3.out 1 _ rfl
    obtain ⟨k3c2, _⟩ := ro_cf k3.out 2 _ rfl
    obtain ⟨k3c3, _⟩ := ro_cf k3.out 3 _ rfl
    obtain ⟨k3c4, _⟩ := ro_cf k3.out 4 _ rfl
    obtain ⟨k3c5, _⟩ := ro_cf k3.out 5 _ rfl
    obtain ⟨k3c6, _⟩ := ro_cf k3.out 6 _ rfl
    go_wp2_with fail
    refine (r19_.Few S0 B _ i0.out).mono ?_
    rintro e' w3 ⟨rfl, h1⟩
    clear k3c0 k3c1 k3c2 k3c3 k3c4 k3c5 k3c6
    replace kc := hide (kc.out.below h1)
    replace kh := hide (kh.out.below h1)
    replace k3 := hide (k3.out.below h1)
    replace r1 := hide (r1.out.below h1)
    replace i0 := hide (i0.out.below h1)
    replace HT := hide (HT.out.below h1)
    replace hb := hide (bel_next hb.out h1)
    clear h1
    rcases hfw : fewB B with _ | _
    · go_wp2_with fail
      refine (awake _ HT.out).mono ?_
      rintro e wz ⟨rfl, h1⟩
      replace kc := hide (kc.out.below h1)
      replace kh := hide (kh.out.below h1)
      replace k3 := hide (k3.out.below h1)
      replace r1 := hide (r1.out.below h1)
      replace i0 := hide (i0.out.below h1)
      replace HT := hide (HT.out.below h1)
      replace hb := hide (bel_next hb.out h1)
      clear h1
      go_wp2
      go_ret
      exact ⟨rfl, hb.out⟩
    · have hle := few_le hfw
      have hfh := hide hfw
      go_wp2_with fail
      refine (Zs.out _).mono ?_
      rintro e' w4 ⟨rfl, h1⟩
      replace kc := hide (kc.out.below h1)
      replace kh := hide (kh.out.below h1)
      replace k3 := hide (k3.out.below h1)
      replace r1 := hide (r1.out.below h1)
      replace i0 := hide (i0.out.below h1)
      replace HT := hide (HT.out.below h1)
      replace hb := hide (bel_next hb.out h1)
      clear h1
      clear Zs
      obtain ⟨Q, P, E, T, hq⟩ : ∃ Q P E T, DecAt k a b c d x y (z1.take n1) p e t at_ Q P E T := by
        by_cases he : e = 0
        · obtain ⟨q, rfl⟩ : ∃ q : Nat, p = (q : Int) := ⟨p.toNat, by omega⟩
          exact ⟨_, _, _, _, ⟨fun h => absurd he h, fun _ => ⟨by rcases v2.out with h | h; exact absurd he h; exact h, q, rfl, by rw [hln]; omega, rfl⟩⟩⟩
        · exact ⟨Bk.zero, p, e, t, ⟨fun _ => ⟨rfl, rfl, rfl, rfl⟩, fun h => absurd h he⟩⟩
      have D1 := hide (fun w hT hr => bl_.DecodeQ A1 n1 c1 (z1.take n1) v a b c d x y k k at_ p e t Q P E T w hT rfl hk hL nil1.out oc1 om1 hr B1.out (by omega) hq)
      dsimp only [bkV, cu, hdV] at D1
      have D2 := hide (fun w hr => r19_.DecodeQ A1 n1 c1 (z1.take n1) v a b c d x y k k at_ p e t Q P E T w rfl hk hL hr B1.out (by omega) hq)
      dsimp only [bkV, cu, hdV] at D2
      replace hk := hide hk
      have hn2 := hide v3
      clear hq hL hln v0 v1 v2 v3 p0 p1 t0 t1 a0 a1 hfw
      obtain ⟨kcc0, _⟩ := ro_cf kc.out 0 _ rfl
      obtain ⟨kcc1, _⟩ := ro_cf kc.out 1 _ rfl
      obtain ⟨kcc2, _⟩ := ro_cf kc.out 2 _ rfl
      obtain ⟨kcc3, _⟩ := ro_cf kc.out 3 _ rfl
      obtain ⟨khc0, _⟩ := ro_cf kh.out 0 _ rfl
      obtain ⟨khc1, _⟩ := ro_cf kh.out 1 _ rfl
      obtain ⟨khc2, _⟩ := ro_cf kh.out 2 _ rfl
      obtain ⟨khc3, _⟩ := ro_cf kh.out 3 _ rfl
      obtain ⟨khc4, _⟩ := ro_cf kh.out 4 _ rfl
      obtain ⟨khc5, _⟩ := ro_cf kh.out 5 _ rfl
      obtain ⟨khc6, _⟩ := ro_cf kh.out 6 _ rfl
      go_wp2_with fail
      refine (D1.out _ HT.out r1.out).mono ?_
      rintro e' w5 ⟨S1, rfl, oS, h1⟩
      clear kcc0 kcc1 kcc2 kcc3
      clear khc0 khc1 khc2 khc3 khc4 khc5 khc6
      replace kc := hide (kc.out.below h1)
      replace kh := hide (kh.out.below h1)
      replace k3 := hide (k3.out.below h1)
      replace r1 := hide (r1.out.below h1)
      replace i0 := hide (i0.out.below h1)
      replace HT := hide (HT.out.below h1)
      replace hb := hide (bel_next hb.out h1)
      clear h1
      have k12 := hide ((Ro.new w5 #[.slice S1.ti.A S1.ti.n S1.ti.c, .slice S1.ix.A S1.ix.n S1.ix.c, .slice S1.ty.A S1.ty.n S1.ty.c, .slice S1.ch.A S1.ch.n S1.ch.c, .slice S1.lp.A S1.lp.n S1.lp.c, .slice S1.sd.A S1.sd.n S1.sd.c, .slice S1.ut.A S1.ut.n S1.ut.c] 34).alloc (.cells #[.slice A1 n1 c1, .int .i64 P, .int .i64 E, .int .i64 T] 25))
      have k13 := hide (show Ro ((w5.alloc (.cells #[.slice S1.ti.A S1.ti.n S1.ti.c, .slice S1.ix.A S1.ix.n S1.ix.c, .slice S1.ty.A S1.ty.n S1.ty.c, .slice S1.ch.A S1.ch.n S1.ch.c, .slice S1.lp.A S1.lp.n S1.lp.c, .slice S1.sd.A S1.sd.n S1.sd.c, .slice S1.ut.A S1.ut.n S1.ut.c] 34)).alloc (.cells #[.slice A1 n1 c1, .int .i64 P, .int .i64 E, .int .i64 T] 25)) (w5.heap.size + 1) #[.slice A1 n1 c1, .int .i64 P, .int .i64 E, .int .i64 T] 25 from by have := Ro.new (w5.alloc (.cells #[.slice S1.ti.A S1.ti.n S1.ti.c, .slice S1.ix.A S1.ix.n S1.ix.c, .slice S1.ty.A S1.ty.n S1.ty.c, .slice S1.ch.A S1.ch.n S1.ch.c, .slice S1.lp.A S1.lp.n S1.lp.c, .slice S1.sd.A S1.sd.n S1.sd.c, .slice S1.ut.A S1.ut.n S1.ut.c] 34)) #[.slice A1 n1 c1, .int .i64 P, .int .i64 E, .int .i64 T] 25; simp only [World.size_alloc] at this; exact this)
      have i1 := hide (((oS.is).alloc (.cells #[.slice S1.ti.A S1.ti.n S1.ti.c, .slice S1.ix.A S1.ix.n S1.ix.c, .slice S1.ty.A S1.ty.n S1.ty.c, .slice S1.ch.A S1.ch.n S1.ch.c, .slice S1.lp.A S1.lp.n S1.lp.c, .slice S1.sd.A S1.sd.n S1.sd.c, .slice S1.ut.A S1.ut.n S1.ut.c] 34)).alloc (.cells #[.slice A1 n1 c1, .int .i64 P, .int .i64 E, .int .i64 T] 25))
      have h1 := bl_alloc (bl_new w5 (.cells #[.slice S1.ti.A S1.ti.n S1.ti.c, .slice S1.ix.A S1.ix.n S1.ix.c, .slice S1.ty.A S1.ty.n S1.ty.c, .slice S1.ch.A S1.ch.n S1.ch.c, .slice S1.lp.A S1.lp.n S1.lp.c, .slice S1.sd.A S1.sd.n S1.sd.c, .slice S1.ut.A S1.ut.n S1.ut.c] 34)) (.cells #[.slice A1 n1 c1, .int .i64 P, .int .i64 E, .int .i64 T] 25)
      clear oS
      replace kc := hide (kc.out.below h1)
      replace kh := hide (kh.out.below h1)
      replace k3 := hide (k3.out.below h1)
      replace r1 := hide (r1.out.below h1)
      replace i0 := hide (i0.out.below h1)
      replace HT := hide (HT.out.below h1)
      replace hb := hide (bel_next hb.out h1)
      clear h1
      go_upto_region 5 with fail
      generalize ((w5.alloc (.cells #[.slice S1.ti.A S1.ti.n S1.ti.c, .slice S1.ix.A S1.ix.n S1.ix.c, .slice S1.ty.A S1.ty.n S1.ty.c, .slice S1.ch.A S1.ch.n S1.ch.c, .slice S1.lp.A S1.lp.n S1.lp.c, .slice S1.sd.A S1.sd.n S1.sd.c, .slice S1.ut.A S1.ut.n S1.ut.c] 34)).alloc (.cells #[.slice A1 n1 c1, .int .i64 P, .int .i64 E, .int .i64 T] 25)) = u5 at *
      generalize w5.heap.size = g12 at *
      obtain ⟨kcc0, _⟩ := ro_cf kc.out 0 _ rfl
      obtain ⟨kcc1, _⟩ := ro_cf kc.out 1 _ rfl
      obtain ⟨kcc2, _⟩ := ro_cf kc.out 2 _ rfl
      obtain ⟨kcc3, _⟩ := ro_cf kc.out 3 _ rfl
      obtain ⟨khc0, _⟩ := ro_cf kh.out 0 _ rfl
      obtain ⟨khc1, _⟩ := ro_cf kh.out 1 _ rfl
      obtain ⟨khc2, _⟩ := ro_cf kh.out 2 _ rfl
      obtain ⟨khc3, _⟩ := ro_cf kh.out 3 _ rfl
      obtain ⟨khc4, _⟩ := ro_cf kh.out 4 _ rfl
      obtain ⟨khc5, _⟩ := ro_cf kh.out 5 _ rfl
      obtain ⟨khc6, _⟩ := ro_cf kh.out 6 _ rfl
      go_wp2_with fail
      refine (D2.out _ r1.out).mono ?_
      rintro e' w6 ⟨S2, rfl, oS, h1⟩
      clear kcc0 kcc1 kcc2 kcc3
      clear khc0 khc1 khc2 khc3 khc4 khc5 khc6
      replace kc := hide (kc.out.below h1)
      replace kh := hide (kh.out.below h1)
      replace k3 := hide (k3.out.below h1)
      replace r1 := hide (r1.out.below h1)
      replace i0 := hide (i0.out.below h1)
      replace k12 := hide (k12.out.below h1)
      replace k13 := hide (k13.out.below h1)
      replace i1 := hide (i1.out.below h1)
      replace HT := hide (HT.out.below h1)
      replace hb := hide (bel_next hb.out h1)
      clear h1
      have k14 := hide ((Ro.new w6 #[.slice S2.ti.A S2.ti.n S2.ti.c, .slice S2.ix.A S2.ix.n S2.ix.c, .slice S2.ty.A S2.ty.n S2.ty.c, .slice S2.ch.A S2.ch.n S2.ch.c, .slice S2.lp.A S2.lp.n S2.lp.c, .slice S2.sd.A S2.sd.n S2.sd.c, .slice S2.ut.A S2.ut.n S2.ut.c] 34).alloc (.cells #[.slice A1 n1 c1, .int .i64 P, .int .i64 E, .int .i64 T] 25))
      have k15 := hide (show Ro ((w6.alloc (.cells #[.slice S2.ti.A S2.ti.n S2.ti.c, .slice S2.ix.A S2.ix.n S2.ix.c, .slice S2.ty.A S2.ty.n S2.ty.c, .slice S2.ch.A S2.ch.n S2.ch.c, .slice S2.lp.A S2.lp.n S2.lp.c, .slice S2.sd.A S2.sd.n S2.sd.c, .slice S2.ut.A S2.ut.n S2.ut.c] 34)).alloc (.cells #[.slice A1 n1 c1, .int .i64 P, .int .i64 E, .int .i64 T] 25)) (w6.heap.size + 1) #[.slice A1 n1 c1, .int .i64 P, .int .i64 E, .int .i64 T] 25 from by have := Ro.new (w6.alloc (.cells #[.slice S2.ti.A S2.ti.n S2.ti.c, .slice S2.ix.A S2.ix.n S2.ix.c, .slice S2.ty.A S2.ty.n S2.ty.c, .slice S2.ch.A S2.ch.n S2.ch.c, .slice S2.lp.A S2.lp.n S2.lp.c, .slice S2.sd.A S2.sd.n S2.sd.c, .slice S2.ut.A S2.ut.n S2.ut.c] 34)) #[.slice A1 n1 c1, .int .i64 P, .int .i64 E, .int .i64 T] 25; simp only [World.size_alloc] at this; exact this)
      have i2 := hide (((oS.is).alloc (.cells #[.slice S2.ti.A S2.ti.n S2.ti.c, .slice S2.ix.A S2.ix.n S2.ix.c, .slice S2.ty.A S2.ty.n S2.ty.c, .slice S2.ch.A S2.ch.n S2.ch.c, .slice S2.lp.A S2.lp.n S2.lp.c, .slice S2.sd.A S2.sd.n S2.sd.c, .slice S2.ut.A S2.ut.n S2.ut.c] 34)).alloc (.cells #[.slice A1 n1 c1, .int .i64 P, .int .i64 E, .int .i64 T] 25))
      have h1 := bl_alloc (bl_new w6 (.cells #[.slice S2.ti.A S2.ti.n S2.ti.c, .slice S2.ix.A S2.ix.n S2.ix.c, .slice S2.ty.A S2.ty.n S2.ty.c, .slice S2.ch.A S2.ch.n S2.ch.c, .slice S2.lp.A S2.lp.n S2.lp.c, .slice S2.sd.A S2.sd.n S2.sd.c, .slice S2.ut.A S2.ut.n S2.ut.c] 34)) (.cells #[.slice A1 n1 c1, .int .i64 P, .int .i64 E, .int .i64 T] 25)
      clear oS
      replace kc := hide (kc.out.below h1)
      replace kh := hide (kh.out.below h1)
      replace k3 := hide (k3.out.below h1)
      replace r1 := hide (r1.out.below h1)
      replace i0 := hide (i0.out.below h1)
      replace k12 := hide (k12.out.below h1)
      replace k13 := hide (k13.out.below h1)
      replace i1 := hide (i1.out.below h1)
      replace HT := hide (HT.out.below h1)
      replace hb := hide (bel_next hb.out h1)
      clear h1
      go_upto_region 6 with fail
      generalize ((w6.alloc (.cells #[.slice S2.ti.A S2.ti.n S2.ti.c, .slice S2.ix.A S2.ix.n S2.ix.c, .slice S2.ty.A S2.ty.n S2.ty.c, .slice S2.ch.A S2.ch.n S2.ch.c, .slice S2.lp.A S2.lp.n S2.lp.c, .slice S2.sd.A S2.sd.n S2.sd.c, .slice S2.ut.A S2.ut.n S2.ut.c] 34)).alloc (.cells #[.slice A1 n1 c1, .int .i64 P, .int .i64 E, .int .i64 T] 25)) = u6 at *
      generalize w6.heap.size = g14 at *
      clear D1 D2 kc kh
      have X1 := hide (fun w (i : IsBk w S1 Q) (i' : IsBk w S2 Q) => r19_.Equal S1 S2 Q Q w i i')
      rw [beqB_self] at X1
      have X2 := hide (fun w (r : Rd w A1 n1 ((z1.take n1).map (Value.int .u8))) => r2_.Same A1 n1 c1 P E T (z1.take n1) w (by omega) r)
      dsimp only [cu] at X2
      have X3 := hide (fun w hT (i : IsBk w S0 B) => bl_.Header S0 B 3 w hT i (by unfold Bk.le at *; omega))
      have X4 := hide (fun w (i : IsBk w S0 B) => r19_.Header S0 B 3 w i hfh.out)
      dsimp only [hdB, hdV] at X3 X4
      have X5 := hide (fun w hT (i : IsBk w S0 B) (i' : IsBk w S1 Q) => bl_.Equal S0 S1 B Q w hT i i')
      have X6 := hide (fun w (i : IsBk w S0 B) (i' : IsBk w S1 Q) => r19_.Equal S0 S1 B Q w i i')
      generalize beqB B Q = tt at *
      (go_region_held3 (fun w' => w'.cell? ⟨g12, 0, none⟩ = some (.slice S1.ti.A S1.ti.n S1.ti.c) ∧ w'.cell? ⟨g12, 1, none⟩ = some (.slice S1.ix.A S1.ix.n S1.ix.c) ∧ w'.cell? ⟨g12, 2, none⟩ = some (.slice S1.ty.A S1.ty.n S1.ty.c) ∧ w'.cell? ⟨g12, 3, none⟩ = some (.slice S1.ch.A S1.ch.n S1.ch.c) ∧ w'.cell? ⟨g12, 4, none⟩ = some (.slice S1.lp.A S1.lp.n S1.lp.c) ∧ w'.cell? ⟨g12, 5, none⟩ = some (.slice S1.sd.A S1.sd.n S1.sd.c) ∧ w'.cell? ⟨g12, 6, none⟩ = some (.slice S1.ut.A S1.ut.n S1.ut.c) ∧ w'.cell? ⟨(g12 + 1), 0, none⟩ = some (.slice A1 n1 c1) ∧ w'.cell? ⟨(g12 + 1), 1, none⟩ = some (.int .i64 P) ∧ w'.cell? ⟨(g12 + 1), 2, none⟩ = some (.int .i64 E) ∧ w'.cell? ⟨(g12 + 1), 3, none⟩ = some (.int .i64 T) ∧ w'.cell? ⟨g14, 0, none⟩ = some (.slice S2.ti.A S2.ti.n S2.ti.c) ∧ w'.cell? ⟨g14, 1, none⟩ = some (.slice S2.ix.A S2.ix.n S2.ix.c) ∧ w'.cell? ⟨g14, 2, none⟩ = some (.slice S2.ty.A S2.ty.n S2.ty.c) ∧ w'.cell? ⟨g14, 3, none⟩ = some (.slice S2.ch.A S2.ch.n S2.ch.c) ∧ w'.cell? ⟨g14, 4, none⟩ = some (.slice S2.lp.A S2.lp.n S2.lp.c) ∧ w'.cell? ⟨g14, 5, none⟩ = some (.slice S2.sd.A S2.sd.n S2.sd.c) ∧ w'.cell? ⟨g14, 6, none⟩ = some (.slice S2.ut.A S2.ut.n S2.ut.c) ∧ w'.cell? ⟨(g14 + 1), 0, none⟩ = some (.slice A1 n1 c1) ∧ w'.cell? ⟨(g14 + 1), 1, none⟩ = some (.int .i64 P) ∧ w'.cell? ⟨(g14 + 1), 2, none⟩ = some (.int .i64 E) ∧ w'.cell? ⟨(g14 + 1), 3, none⟩ = some (.int .i64 T) ∧ w'.cell? ⟨(w.heap.size + 1 + 1), 0, none⟩ = some (.slice S0.ti.A S0.ti.n S0.ti.c) ∧ w'.cell? ⟨(w.heap.size + 1 + 1), 1, none⟩ = some (.slice S0.ix.A S0.ix.n S0.ix.c) ∧ w'.cell? ⟨(w.heap.size + 1 + 1), 2, none⟩ = some (.slice S0.ty.A S0.ty.n S0.ty.c) ∧ w'.cell? ⟨(w.heap.size + 1 + 1), 3, none⟩ = some (.slice S0.ch.A S0.ch.n S0.ch.c) ∧ w'.cell? ⟨(w.heap.size + 1 + 1), 4, none⟩ = some (.slice S0.lp.A S0.lp.n S0.lp.c) ∧ w'.cell? ⟨(w.heap.size + 1 + 1), 5, none⟩ = some (.slice S0.sd.A S0.sd.n S0.sd.c) ∧ w'.cell? ⟨(w.heap.size + 1 + 1), 6, none⟩ = some (.slice S0.ut.A S0.ut.n S0.ut.c) ∧ Hid (Below u6.heap.size u6 w'))
        (first
          | exact ⟨(ro_cf k12.out 0 _ rfl).1, (ro_cf k12.out 1 _ rfl).1, (ro_cf k12.out 2 _ rfl).1, (ro_cf k12.out 3 _ rfl).1, (ro_cf k12.out 4 _ rfl).1, (ro_cf k12.out 5 _ rfl).1, (ro_cf k12.out 6 _ rfl).1, (ro_cf k13.out 0 _ rfl).1, (ro_cf k13.out 1 _ rfl).1, (ro_cf k13.out 2 _ rfl).1, (ro_cf k13.out 3 _ rfl).1, (ro_cf k14.out 0 _ rfl).1, (ro_cf k14.out 1 _ rfl).1, (ro_cf k14.out 2 _ rfl).1, (ro_cf k14.out 3 _ rfl).1, (ro_cf k14.out 4 _ rfl).1, (ro_cf k14.out 5 _ rfl).1, (ro_cf k14.out 6 _ rfl).1, (ro_cf k15.out 0 _ rfl).1, (ro_cf k15.out 1 _ rfl).1, (ro_cf k15.out 2 _ rfl).1, (ro_cf k15.out 3 _ rfl).1, (ro_cf k3.out 0 _ rfl).1, (ro_cf k3.out 1 _ rfl).1, (ro_cf k3.out 2 _ rfl).1, (ro_cf k3.out 3 _ rfl).1, (ro_cf k3.out 4 _ rfl).1, (ro_cf k3.out 5 _ rfl).1, (ro_cf k3.out 6 _ rfl).1, by first | exact hide (bl_refl _) | exact hide (bl_drew (bl_refl _))⟩
          | (go_split_ands; refine ⟨?_, ?_, ?_, ?_, ?_, ?_, ?_, ?_, ?_, ?_, ?_, ?_, ?_, ?_, ?_, ?_, ?_, ?_, ?_, ?_, ?_, ?_, ?_, ?_, ?_, ?_, ?_, ?_, ?_, ?_⟩ <;> first | exact cellE h1 (by assumption) | exact hide (bel_next (Hid.out (by assumption)) h1)))
        (first
          | (go_at_call 10; go_split_ands; refine (X1.out _ (i1.out.below (Hid.out (by assumption))) (i2.out.below (Hid.out (by assumption)))).mono ?_; rintro e' wa ⟨rfl, h1⟩; clear X1)
          | (go_at_call 10; go_split_ands; refine (X6.out _ (i0.out.below (Hid.out (by assumption))) (i1.out.below (Hid.out (by assumption)))).mono ?_; rintro e' wf ⟨rfl, h1⟩)
          | (go_at_call 11; go_split_ands; refine (X2.out _ (r1.out.below (Hid.out (by assumption)))).mono ?_; rintro e' wb ⟨rfl, h1⟩)
          | (go_at_call 12; go_split_ands; refine (X3.out _ (HT.out.below (Hid.out (by assumption))) (i0.out.below (Hid.out (by assumption)))).mono ?_; rintro e' wc ⟨rfl, h1⟩)
          | (go_at_call 13; go_split_ands; refine (X4.out _ (i0.out.below (Hid.out (by assumption)))).mono ?_; rintro e' wd_ ⟨rfl, h1⟩)
          | (go_at_call 14; go_split_ands; refine (X5.out _ (HT.out.below (Hid.out (by assumption))) (i0.out.below (Hid.out (by assumption))) (i1.out.below (Hid.out (by assumption)))).mono ?_; rintro e' we ⟨rfl, h1⟩)))
      have hz : Hid (Below u6.heap.size u6 wf) := by go_split_ands; assumption
      have h1 := hz.out
      clear hz X2 X3 X4 X5 X6 k12 k13 k14 k15 i1 i2 r1
      replace k3 := hide (k3.out.below h1)
      replace i0 := hide (i0.out.below h1)
      replace HT := hide (HT.out.below h1)
      replace hb := hide (bel_next hb.out h1)
      clear h1
      have EN := hide (fun w (i : IsBk w S0 B) => r19_.Encodable S0 B k k w rfl hk.out i)
      rcases hen : encOk k B with _ | _
      all_goals rw [hen] at EN
      all_goals go_upto_region 8 with fail
      · obtain ⟨k3c0, _⟩ := ro_cf k3.out 0 _ rfl
        obtain ⟨k3c1, _⟩ := ro_cf k3.out 1 _ rfl
        obtain ⟨k3c2, _⟩ := ro_cf k3.out 2 _ rfl
        obtain ⟨k3c3, _⟩ := ro_cf k3.out 3 _ rfl
        obtain ⟨k3c4, _⟩ := ro_cf k3.out 4 _ rfl
        obtain ⟨k3c5, _⟩ := ro_cf k3.out 5 _ rfl
        obtain ⟨k3c6, _⟩ := ro_cf k3.out 6 _ rfl
        first
        | (go_region_with (go_at_call 15; refine (EN.out _ (IsBk.drew i0.out)).mono ?_; rintro e' wg ⟨rfl, h1⟩))
        | fail
        all_goals
          go_wp2
          go_ret
          exact ⟨rfl, bel_next (bl_drew hb.out) h1⟩
      · obtain ⟨hft, -⟩ := encOk_fit hen
        obtain ⟨N, hN⟩ : ∃ N, N = (encB k B).length := ⟨_, rfl⟩
        have hfw2 := hfh.out
        simp only [fewB, Bool.and_eq_true, decide_eq_true_eq] at hfw2
        have hNb : N ≤ 20000 := by rw [hN, encB_len k B hft.len]; unfold totB tot; rcases hk.out with h | h <;> rw [h] <;> omega
        have Y1 := hide (fun w hT (i : IsBk w S0 B) => bl_.Encode S0 B k N k w hT rfl hk.out i (by unfold Bk.le at *; omega) hft hN)
        have Y2 := hide (fun w (i : IsBk w S0 B) => r19_.Encode S0 B k N k w rfl hk.out i hfh.out hN)
        have Y3 := hide (fun A A' c c' w r r' => r1_.Same A A' N c N c' (encB k B) w (by omega) r r')
        clear hN hfw2 hNb hft hen hle
        generalize encB k B = es at *
        (go_region_held3 (fun w' => w'.cell? ⟨w.heap.size + 1 + 1, 0, none⟩ = some (.slice S0.ti.A S0.ti.n S0.ti.c) ∧ w'.cell? ⟨w.heap.size + 1 + 1, 1, none⟩ = some (.slice S0.ix.A S0.ix.n S0.ix.c) ∧ w'.cell? ⟨w.heap.size + 1 + 1, 2, none⟩ = some (.slice S0.ty.A S0.ty.n S0.ty.c) ∧ w'.cell? ⟨w.heap.size + 1 + 1, 3, none⟩ = some (.slice S0.ch.A S0.ch.n S0.ch.c) ∧ w'.cell? ⟨w.heap.size + 1 + 1, 4, none⟩ = some (.slice S0.lp.A S0.lp.n S0.lp.c) ∧ w'.cell? ⟨w.heap.size + 1 + 1, 5, none⟩ = some (.slice S0.sd.A S0.sd.n S0.sd.c) ∧ w'.cell? ⟨w.heap.size + 1 + 1, 6, none⟩ = some (.slice S0.ut.A S0.ut.n S0.ut.c) ∧ Hid (Below wf.heap.size wf w'))
          (first
            | exact ⟨(ro_cf k3.out 0 _ rfl).1, (ro_cf k3.out 1 _ rfl).1, (ro_cf k3.out 2 _ rfl).1, (ro_cf k3.out 3 _ rfl).1, (ro_cf k3.out 4 _ rfl).1, (ro_cf k3.out 5 _ rfl).1, (ro_cf k3.out 6 _ rfl).1, by first | exact hide (bl_refl _) | exact hide (bl_drew (bl_refl _))⟩
            | (go_split_ands; refine ⟨?_, ?_, ?_, ?_, ?_, ?_, ?_, ?_⟩ <;> first | exact cellE h1 (by assumption) | exact hide (bel_next (Hid.out (by assumption)) h1)))
          (first
            | (go_at_call 15; go_split_ands; refine (EN.out _ (i0.out.below (Hid.out (by assumption)))).mono ?_; rintro e' wg ⟨rfl, h1⟩)
            | (go_at_call 17; go_split_ands; refine (Y1.out _ (HT.out.below (Hid.out (by assumption))) (i0.out.below (Hid.out (by assumption)))).mono ?_; rintro e' wh ⟨A7, c7, rfl, o7, h1⟩)
            | (go_at_call 18; go_split_ands; refine (Y2.out _ (i0.out.below (Hid.out (by assumption)))).mono ?_; rintro e' wi ⟨A8, c8, rfl, o8, h1⟩; have o7' := o7.below h1)
            | (go_at_call 16; go_split_ands; refine (Y3.out _ _ _ _ _ (by exact o7'.rd) (by exact o8.rd)).mono ?_; rintro e' wj ⟨rfl, h1⟩)))
        have hz : Hid (Below wf.heap.size wf wj) := by go_split_ands; assumption
        go_wp2
        go_ret
        exact ⟨rfl, bel_next hb.out hz.out⟩
end l19_
end Go.Proofs.YtbajdlgcajeldaaGreatDoor

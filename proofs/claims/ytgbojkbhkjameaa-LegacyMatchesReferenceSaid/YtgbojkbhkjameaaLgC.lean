/-
  CONTRACTS OF PACKAGE legacy, of the code that landed at bb68bb6: renumbering, View. Conditions: a small block, valid for some version and 8-byte times.
-/
import Derived.Test.YtgbojkbhkjameaaLgA
import Derived.Test.YtgbojkbhkjameaaLgN
namespace Go.Proofs.Ytgbojkbhkjameaa
open Go.ChangeShapes Go.WideShapes Go.ChangeAt Go.RowKit
set_option linter.unusedVariables false
set_option linter.unusedSimpArgs false
set_option maxRecDepth 100000
theorem elI64L : ElT Try.prog 22 2 (.int .i64 0) 8 := ⟨Try.underlying22, by kernel_rfl, rfl⟩
namespace lg_
theorem renumbering (k : Int) (w : World) : Calls Try.prog 30 #[.int .u8 0, .int .u8 k] w fun e w' => ∃ f1 f2 : Nat, e = .returned (.func (.func 47) #[] #[.pointer (some ⟨f1, 0, none⟩), .pointer (some ⟨f2, 0, none⟩)]) ∧ Ro w' f1 #[.int .u8 0] 5 ∧ Ro w' f2 #[.int .u8 k] 5 ∧ Below w.heap.size w w' := by
  have k1 := hide ((Ro.new w #[.int .u8 0] 5).alloc (.cells #[.int .u8 k] 5))
  have k2 := hide (Ro.new (w.alloc (.cells #[.int .u8 0] 5)) #[.int .u8 k] 5)
  have hb := hide (bl_alloc (bl_new w (.cells #[.int .u8 0] 5)) (.cells #[.int .u8 k] 5))
  simp only [World.size_alloc] at k2
  go_enter Try.func30, Try.ntmps30
  go_wp2
  go_ret
  exact ⟨_, _, rfl, k1.out, k2.out, hb.out⟩
theorem but_down {b : Nat} {w w0 w1 : World} (h0 : Below w.heap.size w w0) (hb : w.heap.size ≤ b) (h : But b w0 w1) : Below w.heap.size w w1 := But.down h0 hb h
set_option maxHeartbeats 4000000 in
theorem View (S : BkS) (b : Bk) (four : Bool) (w : World) (h : IsBk w S b) (hs : S.small) (hv : BOk b four 8) : Calls Try.prog 17 #[bkV S] w fun e w' => ∃ V, e = .returned (bkV V) ∧ OwBk w' w.heap.size V (viewB b) ∧ Below w.heap.size w w' := by
  obtain ⟨l0, l1, l2, l3, l4, l5, l6⟩ := h.lens
  obtain ⟨q0, q1, q2, q3, q4⟩ := hv.cnts
  obtain ⟨e0, e1⟩ := inE_bd hv h.ok (-2147483649)
  obtain ⟨e2, e3⟩ := inE_byte h.ok (-2147483649)
  have hok := hide (view_bk hv h.ok)
  obtain ⟨kn, hkn⟩ : ∃ kn : Nat, inE b (-2147483649) = (kn : Int) := ⟨(inE b (-2147483649)).toNat, by omega⟩
  have hk2 : (inE b (-2147483649)).toNat = kn := by omega
  have kT : kn < S.ty.n := by omega
  have k8 : kn < 256 := by omega
  obtain ⟨n0, n1, n2, n3, n4, n5, n6⟩ := hs
  have E := hide (fun W (hb : Below w.heap.size w W) => (show Calls Try.prog 25 #[.agg (blA S), .int .i64 (-2147483649)] W fun e w' => e = .returned (.int .u8 (kn : Int)) ∧ Below W.heap.size W w' from by rw [← hkn]; exact inEffect S b four 8 (-2147483649) W (h.below hb) ⟨n0, n1, n2, n3, n4, n5, n6⟩ hv))
  have hR := hide (fun W (hb : Below w.heap.size w W) => h.below hb)
  have CT := hide (fun W (hb : Below w.heap.size w W) => swapT S.ty.A S.ty.n S.ty.c kn b.ty W h.oty.1 n2 (h.below hb).ty (.inl kT) k8)
  have CC := hide (fun W (hb : Below w.heap.size w W) => sl_.CloneU S.ch.A S.ch.n S.ch.c b.ch W h.och.1 (by omega) (h.below hb).ch)
  have CS := hide (fun W (hb : Below w.heap.size w W) => swapB S.sd.A S.sd.n S.sd.c kn b.sd W h.osd.1 n5 (h.below hb).sd (by omega) k8)
  have CU := hide (fun W (hb : Below w.heap.size w W) => swapB S.ut.A S.ut.n S.ut.c kn b.ut W h.out_.1 n6 (h.below hb).ut (by omega) k8)
  have TO := hide (fun i x W (hb : Below w.heap.size w W) hx => (show Calls Try.prog 35 #[.agg (blA S), .int .i64 (i : Nat)] W fun e w' => e = .returned (.int .u8 x) ∧ Below W.heap.size W w' from typeOf S b i x W (h.below hb) hx))
  have IV := hide (fun t W => isInView t W)
  have RG := hide (fun W => renumbering (kn : Int) W)
  have RN := hide (fun x f1 f2 W h1 h2 x0 => renum (kn : Int) x f1 f2 W h1 h2 (by omega) x0)
  rw [show ((kn : Int)).toNat = kn from rfl] at RN
  have EN := hide (lp_.enters Try.func47 (by kernel_rfl) (by kernel_rfl))
  have gl : ∀ i, i < S.ti.n → ∃ x y, b.ti[i]? = some x ∧ b.ix[i]? = some y := fun i hi => ⟨_, _, List.getElem?_eq_getElem (by omega), List.getElem?_eq_getElem (by omega)⟩
  replace gl := hide gl
  have gp : ∀ i, i < S.lp.n → ∃ t, b.lp[i]? = some t := fun i hi => ⟨_, List.getElem?_eq_getElem (by omega)⟩
  replace gp := hide gp
  have ipos := hide (fun (y : Int) (hy : y ∈ b.ix) => (h.ok.ix.mem y hy).1)
  have ilp := hide (fun (t : LP) (ht : t ∈ b.lp) => in32_lp hv.lp ht)
  have fT := hide (tN_all (b := b) (m := S.ti.n) (by omega))
  have fX := hide (xN_all (b := b) (m := S.ti.n) (by omega) hk2)
  have fL := hide (lN_all (b := b) (m := S.lp.n) (by omega))
  have fV := hide (show (viewB b).ty = swp b.ty kn (0, false, 0) ∧ (viewB b).ch = b.ch ∧ (viewB b).sd = swp b.sd kn false ∧ (viewB b).ut = swp b.ut kn false from by unfold viewB; rw [hk2]; exact ⟨rfl, rfl, rfl, rfl⟩)
  have hb := hide (bl_alloc (bl_new w (.cells (blA S) 28)) (.cells #[.slice none 0 0, .slice none 0 0, .slice none 0 0, .slice none 0 0, .slice none 0 0, .slice none 0 0, .slice none 0 0] 28))
  have k := hide ((Ro.new w (blA S) 28).alloc (.cells #[.slice none 0 0, .slice none 0 0, .slice none 0 0, .slice none 0 0, .slice none 0 0, .slice none 0 0, .slice none 0 0] 28))
  have k2 := hide (Ro.new (w.alloc (.cells (blA S) 28)) #[.slice none 0 0, .slice none 0 0, .slice none 0 0, .slice none 0 0, .slice none 0 0, .slice none 0 0, .slice none 0 0] 28)
  simp only [World.size_alloc] at k2
  have k0c := hide (show (blA S)[0]? = some (.slice S.ti.A S.ti.n S.ti.c) from rfl)
  have k2c := hide (show (blA S)[2]? = some (.slice S.ty.A S.ty.n S.ty.c) from rfl)
  have k3c := hide (show (blA S)[3]? = some (.slice S.ch.A S.ch.n S.ch.c) from rfl)
  have k4c := hide (show (blA S)[4]? = some (.slice S.lp.A S.lp.n S.lp.c) from rfl)
  have k5c := hide (show (blA S)[5]? = some (.slice S.sd.A S.sd.n S.sd.c) from rfl)
  have k6c := hide (show (blA S)[6]? = some (.slice S.ut.A S.ut.n S.ut.c) from rfl)
  have G := gr_blk S
  have nk : w.heap.size ≠ w.heap.size + 1 := by omega
  clear h hv l0 l1 l2 l3 l5 l6 q0 q1 q2 q3 q4 e0 e1 e2 e3 hkn hk2 kT k8 n2 n3 n5 n6
  show Calls Try.prog 17 #[.agg (blA S)] w _
  generalize blA S = cs at *
  go_enter Try.func17, Try.ntmps17
  go_upto_region 1 with fail
  generalize (w.alloc (.cells cs 28)).alloc (.cells #[.slice none 0 0, .slice none 0 0, .slice none 0 0, .slice none 0 0, .slice none 0 0, .slice none 0 0, .slice none 0 0] 28) = x0 at *
  go_wp2_with (first | (refine load_row_g (by rfl) 28 _ rfl _ rfl _ _ _ k.out Try.underlying28 rfl G.1 ?_) | fail)
  refine (E.out _ hb.out).mono ?_
  rintro e x1 ⟨rfl, h1⟩
  replace k := hide (k.out.below h1)
  replace k2 := hide (k2.out.below h1)
  replace hb := hide (bel_next hb.out h1)
  clear h1 E
  go_wp2_with fail
  refine (RG.out _).mono ?_
  rintro e u ⟨f1, f2, rfl, kf1, kf2, h1⟩
  replace k := hide (k.out.below h1)
  replace k2 := hide (k2.out.below h1)
  replace hb := hide (bel_next hb.out h1)
  replace kf1 := hide kf1
  replace kf2 := hide kf2
  replace CT := hide (fun W (hB : Below u.heap.size u W) => CT.out W (bel_next hb.out hB))
  replace CC := hide (fun W (hB : Below u.heap.size u W) => CC.out W (bel_next hb.out hB))
  replace CS := hide (fun W (hB : Below u.heap.size u W) => CS.out W (bel_next hb.out hB))
  replace CU := hide (fun W (hB : Below u.heap.size u W) => CU.out W (bel_next hb.out hB))
  clear h1 RG
  go_upto_region 3 with fail
  go_cut [5] (fun s5 wz => ∃ (gv : Nat) (AT : Option Addr) (cT : Nat) (AC : Option Addr) (cC : Nat) (AS : Option Addr) (cS : Nat) (AU : Option Addr) (cU : Nat), s5 = .pointer (some ⟨gv, 0, none⟩) ∧ Hid (u.heap.size ≤ gv) ∧ Hid (Ro wz gv #[.slice none 0 0, .slice none 0 0, .slice AT S.ty.n cT, .slice AC S.ch.n cC, .slice none 0 0, .slice AS S.sd.n cS, .slice AU S.ut.n cU] 28) ∧ Hid (Ok 3 wz w.heap.size 38 AT S.ty.n cT (tcs (swp b.ty kn (0, false, 0)))) ∧ Hid (Ow wz w.heap.size 5 AC S.ch.n cC (b.ch.map (Value.int .u8))) ∧ Hid (Ow wz w.heap.size 4 AS S.sd.n cS (bls (swp b.sd kn false))) ∧ Hid (Ow wz w.heap.size 4 AU S.ut.n cU (bls (swp b.ut kn false))) ∧ Hid (Below u.heap.size u wz))
  case first =>
    refine wp_region_held_drew (S := fun w' => Hid (Ro w' (w.heap.size) (cs) 28) ∧ Hid (Below u.heap.size u w')) (by kernel_rfl) (⟨hide k.out.drew, hide (bl_drew (bl_refl u))⟩) (fun hHeld => ?_)
    generalize u.drew = u0 at *
    refine wpAnyH_takeD (i := 0) (d := (some 14)) (v := ?_) rfl rfl (by kernel_rfl) (by kernel_rfl) (by kernel_rfl) (fun _ _ _ h => h) (Or.inl ⟨by rfl, ?_⟩) (by assumption) ?_
    rotate_left
    · ((intro w hSw; go_simp) <;> with_reducible rfl)
    try simp only [Act.put, List.setIfInBounds_toArray, List.set_cons_zero, List.set_cons_succ]
    refine wpAnyH_takeD (i := 1) (d := (some 15)) (v := ?_) rfl rfl (by kernel_rfl) (by kernel_rfl) (by kernel_rfl) (fun _ _ _ h => h) (Or.inl ⟨by rfl, ?_⟩) (by assumption) ?_
    rotate_left
    · ((intro w hSw; obtain ⟨q, _⟩ := ro_cf hSw.1.out 2 _ k2c.out; go_simp) <;> with_reducible rfl)
    try simp only [Act.put, List.setIfInBounds_toArray, List.set_cons_zero, List.set_cons_succ]
    refine wpAnyH_takeD (i := 2) (d := (some 16)) (v := ?_) rfl rfl (by kernel_rfl) (by kernel_rfl) (by kernel_rfl) (fun _ _ _ h => h) (Or.inl ⟨by rfl, ?_⟩) (by assumption) ?_
    rotate_left
    · ((intro w hSw; go_simp) <;> with_reducible rfl)
    try simp only [Act.put, List.setIfInBounds_toArray, List.set_cons_zero, List.set_cons_succ]
    refine wpAnyH_takeD (i := 4) (d := (some 18)) (v := ?_) rfl rfl (by kernel_rfl) (by kernel_rfl) (by kernel_rfl) (fun _ _ _ h => h) (Or.inl ⟨by rfl, ?_⟩) (by assumption) ?_
    rotate_left
    · ((intro w hSw; go_simp) <;> with_reducible rfl)
    try simp only [Act.put, List.setIfInBounds_toArray, List.set_cons_zero, List.set_cons_succ]
    refine wpAnyH_takeD (i := 5) (d := (some 19)) (v := ?_) rfl rfl (by kernel_rfl) (by kernel_rfl) (by kernel_rfl) (fun _ _ _ h => h) (Or.inl ⟨by rfl, ?_⟩) (by assumption) ?_
    rotate_left
    · ((intro w hSw; obtain ⟨q, _⟩ := ro_cf hSw.1.out 3 _ k3c.out; go_simp) <;> with_reducible rfl)
    try simp only [Act.put, List.setIfInBounds_toArray, List.set_cons_zero, List.set_cons_succ]
    refine wpAnyH_takeD (i := 7) (d := (some 21)) (v := ?_) rfl rfl (by kernel_rfl) (by kernel_rfl) (by kernel_rfl) (fun _ _ _ h => h) (Or.inl ⟨by rfl, ?_⟩) (by assumption) ?_
    rotate_left
    · ((intro w hSw; go_simp) <;> with_reducible rfl)
    try simp only [Act.put, List.setIfInBounds_toArray, List.set_cons_zero, List.set_cons_succ]
    refine wpAnyH_takeD (i := 8) (d := (some 22)) (v := ?_) rfl rfl (by kernel_rfl) (by kernel_rfl) (by kernel_rfl) (fun _ _ _ h => h) (Or.inl ⟨by rfl, ?_⟩) (by assumption) ?_
    rotate_left
    · ((intro w hSw; obtain ⟨q, _⟩ := ro_cf hSw.1.out 5 _ k5c.out; go_simp) <;> with_reducible rfl)
    try simp only [Act.put, List.setIfInBounds_toArray, List.set_cons_zero, List.set_cons_succ]
    refine wpAnyH_takeD (i := 9) (d := (some 23)) (v := ?_) rfl rfl (by kernel_rfl) (by kernel_rfl) (by kernel_rfl) (fun _ _ _ h => h) (Or.inl ⟨by rfl, ?_⟩) (by assumption) ?_
    rotate_left
    · ((intro w hSw; go_simp) <;> with_reducible rfl)
    try simp only [Act.put, List.setIfInBounds_toArray, List.set_cons_zero, List.set_cons_succ]
    refine wpAnyH_takeD (i := 11) (d := (some 25)) (v := ?_) rfl rfl (by kernel_rfl) (by kernel_rfl) (by kernel_rfl) (fun _ _ _ h => h) (Or.inl ⟨by rfl, ?_⟩) (by assumption) ?_
    rotate_left
    · ((intro w hSw; go_simp) <;> with_reducible rfl)
    try simp only [Act.put, List.setIfInBounds_toArray, List.set_cons_zero, List.set_cons_succ]
    refine wpAnyH_takeD (i := 12) (d := (some 26)) (v := ?_) rfl rfl (by kernel_rfl) (by kernel_rfl) (by kernel_rfl) (fun _ _ _ h => h) (Or.inl ⟨by rfl, ?_⟩) (by assumption) ?_
    rotate_left
    · ((intro w hSw; obtain ⟨q, _⟩ := ro_cf hSw.1.out 6 _ k6c.out; go_simp) <;> with_reducible rfl)
    try simp only [Act.put, List.setIfInBounds_toArray, List.set_cons_zero, List.set_cons_succ]
    refine wpAnyH_takeD (i := 13) (d := (some 27)) (v := ?_) rfl rfl (by kernel_rfl) (by kernel_rfl) (by kernel_rfl) (fun _ _ _ h => h) (Or.inl ⟨by rfl, ?_⟩) (by assumption) ?_
    rotate_left
    · ((intro w hSw; go_simp) <;> with_reducible rfl)
    try simp only [Act.put, List.setIfInBounds_toArray, List.set_cons_zero, List.set_cons_succ]
    refine wpAnyH_ready (rs := [3, 16]) (by kernel_rfl) (by simp) ?_
    refine AllReadyH.cons rfl (fun K hK => ?_) (AllReadyH.cons rfl (fun K hK => ?_) (AllReadyH.nil))
    · go_simp
      refine (CT.out _ hHeld.2.out).mono ?_
      rintro e v1 ⟨AT, cT, rfl, oT_, h1'⟩
      have oT := hide (oT_.mono (Nat.le_trans hb.out.size hHeld.2.out.size))
      refine hK.out _ _ (⟨hide (hHeld.1.out.below h1'), hide (bel_next hHeld.2.out h1')⟩) (fun hHeld => ?_)
      clear hK K h1'
      try simp only [Act.put, List.setIfInBounds_toArray, List.set_cons_zero, List.set_cons_succ]
      refine wpAnyH_ready (rs := [6, 16]) (by kernel_rfl) (by simp) ?_
      refine AllReadyH.cons rfl (fun K hK => ?_) (AllReadyH.cons rfl (fun K hK => ?_) (AllReadyH.nil))
      · go_simp
        refine (CC.out _ hHeld.2.out).mono ?_
        rintro e v2 ⟨AC, cC, rfl, oC_, h1'⟩
        replace oT := hide (oT.out.below h1')
        have oC := hide (oC_.mono (Nat.le_trans hb.out.size hHeld.2.out.size))
        refine hK.out _ _ (⟨hide (hHeld.1.out.below h1'), hide (bel_next hHeld.2.out h1')⟩) (fun hHeld => ?_)
        clear hK K h1'
        try simp only [Act.put, List.setIfInBounds_toArray, List.set_cons_zero, List.set_cons_succ]
        refine wpAnyH_ready (rs := [10, 16]) (by kernel_rfl) (by simp) ?_
        refine AllReadyH.cons rfl (fun K hK => ?_) (AllReadyH.cons rfl (fun K hK => ?_) (AllReadyH.nil))
        · go_simp
          refine (CS.out _ hHeld.2.out).mono ?_
          rintro e v3 ⟨AS, cS, rfl, oS_, h1'⟩
          replace oT := hide (oT.out.below h1')
          replace oC := hide (oC.out.below h1')
          have oS := hide (oS_.mono (Nat.le_trans hb.out.size hHeld.2.out.size))
          refine hK.out _ _ (⟨hide (hHeld.1.out.below h1'), hide (bel_next hHeld.2.out h1')⟩) (fun hHeld => ?_)
          clear hK K h1'
          try simp only [Act.put, List.setIfInBounds_toArray, List.set_cons_zero, List.set_cons_succ]
          refine wpAnyH_ready (rs := [14, 16]) (by kernel_rfl) (by simp) ?_
          refine AllReadyH.cons rfl (fun K hK => ?_) (AllReadyH.cons rfl (fun K hK => ?_) (AllReadyH.nil))
          · go_simp
            refine (CU.out _ hHeld.2.out).mono ?_
            rintro e v4 ⟨AU, cU, rfl, oU_, h1'⟩
            replace oT := hide (oT.out.below h1')
            replace oC := hide (oC.out.below h1')
            replace oS := hide (oS.out.below h1')
            have oU := hide (oU_.mono (Nat.le_trans hb.out.size hHeld.2.out.size))
            refine hK.out _ _ (⟨hide (hHeld.1.out.below h1'), hide (bel_next hHeld.2.out h1')⟩) (fun hHeld => ?_)
            clear hK K h1'
            try simp only [Act.put, List.setIfInBounds_toArray, List.set_cons_zero, List.set_cons_succ]
            refine wpAnyH_takeD (i := 15) (d := (some 29)) (v := ?_) rfl rfl (by kernel_rfl) (by kernel_rfl) (by kernel_rfl) (fun _ _ _ h => h) (Or.inl ⟨by rfl, ?_⟩) (by assumption) ?_
            rotate_left
            · ((intro w hSw; go_simp) <;> with_reducible rfl)
            try simp only [Act.put, List.setIfInBounds_toArray, List.set_cons_zero, List.set_cons_succ]
            refine wpAnyH_ready (rs := [16]) (by kernel_rfl) (by simp) ?_
            refine AllReadyH.cons rfl (fun K hK => ?_) (AllReadyH.nil)
            · go_simp
              have lzv5 := hHeld.2.out.size
              have hlz := hide lzv5
              have lbv5_0 := hHeld.1.out.lt
              have hz_v := hide (Ro.new v4 #[.slice none 0 0, .slice none 0 0, .slice none 0 0, .slice none 0 0, .slice none 0 0, .slice none 0 0, .slice none 0 0] 28)
              replace oT := hide (oT.out.alloc (.cells #[.slice none 0 0, .slice none 0 0, .slice none 0 0, .slice none 0 0, .slice none 0 0, .slice none 0 0, .slice none 0 0] 28))
              replace oC := hide (oC.out.alloc (.cells #[.slice none 0 0, .slice none 0 0, .slice none 0 0, .slice none 0 0, .slice none 0 0, .slice none 0 0, .slice none 0 0] 28))
              replace oS := hide (oS.out.alloc (.cells #[.slice none 0 0, .slice none 0 0, .slice none 0 0, .slice none 0 0, .slice none 0 0, .slice none 0 0, .slice none 0 0] 28))
              replace oU := hide (oU.out.alloc (.cells #[.slice none 0 0, .slice none 0 0, .slice none 0 0, .slice none 0 0, .slice none 0 0, .slice none 0 0, .slice none 0 0] 28))
              refine hK.out _ _ (⟨hide (hHeld.1.out.alloc _), hide (bl_alloc hHeld.2.out _)⟩) (fun hHeld => ?_)
              clear hK K
              generalize v4.heap.size = g_v at *
              generalize v4.alloc (.cells #[.slice none 0 0, .slice none 0 0, .slice none 0 0, .slice none 0 0, .slice none 0 0, .slice none 0 0, .slice none 0 0] 28) = v5 at *
              try simp only [Act.put, List.setIfInBounds_toArray, List.set_cons_zero, List.set_cons_succ]
              refine wpAnyH_ready (rs := [17]) (by kernel_rfl) (by simp) ?_
              refine AllReadyH.cons rfl (fun K hK => ?_) (AllReadyH.nil)
              · obtain ⟨y0, z0⟩ := ro_cf hz_v.out 0 _ rfl; obtain ⟨y1, z1⟩ := ro_cf hz_v.out 1 _ rfl; obtain ⟨y2, z2⟩ := ro_cf hz_v.out 2 _ rfl; obtain ⟨y3, z3⟩ := ro_cf hz_v.out 3 _ rfl; obtain ⟨y4, z4⟩ := ro_cf hz_v.out 4 _ rfl; obtain ⟨y5, z5⟩ := ro_cf hz_v.out 5 _ rfl; obtain ⟨y6, z6⟩ := ro_cf hz_v.out 6 _ rfl
                go_simp
                refine hK.out _ _ (⟨hide (ro_away7 (g' := g_v) hHeld.1.out (by omega)), hide (bl_setx7 (g := g_v) hHeld.2.out (by omega))⟩) (fun hHeld => ?_)
                clear hK K y0 z0 y1 z1 y2 z2 y3 z3 y4 z4 y5 z5 y6 z6
                have oT' := hide (oT.out.butT hz_v.out (by decide) ((((((((But.refl g_v v5).set (o := 0) (.slice none 0 0)).set (o := 1) (.slice none 0 0)).set (o := 2) (.slice AT S.ty.n cT)).set (o := 3) (.slice AC S.ch.n cC)).set (o := 4) (.slice none 0 0)).set (o := 5) (.slice AS S.sd.n cS)).set (o := 6) (.slice AU S.ut.n cU)))
                have oC' := hide (oC.out.butT hz_v.out (by decide) ((((((((But.refl g_v v5).set (o := 0) (.slice none 0 0)).set (o := 1) (.slice none 0 0)).set (o := 2) (.slice AT S.ty.n cT)).set (o := 3) (.slice AC S.ch.n cC)).set (o := 4) (.slice none 0 0)).set (o := 5) (.slice AS S.sd.n cS)).set (o := 6) (.slice AU S.ut.n cU)))
                have oS' := hide (oS.out.butT hz_v.out (by decide) ((((((((But.refl g_v v5).set (o := 0) (.slice none 0 0)).set (o := 1) (.slice none 0 0)).set (o := 2) (.slice AT S.ty.n cT)).set (o := 3) (.slice AC S.ch.n cC)).set (o := 4) (.slice none 0 0)).set (o := 5) (.slice AS S.sd.n cS)).set (o := 6) (.slice AU S.ut.n cU)))
                have oU' := hide (oU.out.butT hz_v.out (by decide) ((((((((But.refl g_v v5).set (o := 0) (.slice none 0 0)).set (o := 1) (.slice none 0 0)).set (o := 2) (.slice AT S.ty.n cT)).set (o := 3) (.slice AC S.ch.n cC)).set (o := 4) (.slice none 0 0)).set (o := 5) (.slice AS S.sd.n cS)).set (o := 6) (.slice AU S.ut.n cU)))
                clear oT
                clear oC
                clear oS
                clear oU
                replace hz_v := hide (ro_set7' (x0 := .slice none 0 0) (x1 := .slice none 0 0) (x2 := .slice AT S.ty.n cT) (x3 := .slice AC S.ch.n cC) (x4 := .slice none 0 0) (x5 := .slice AS S.sd.n cS) (x6 := .slice AU S.ut.n cU) hz_v.out)
                generalize (((((((v5.setCell ⟨g_v, 0, none⟩ (.slice none 0 0)).setCell ⟨g_v, 1, none⟩ (.slice none 0 0)).setCell ⟨g_v, 2, none⟩ (.slice AT S.ty.n cT)).setCell ⟨g_v, 3, none⟩ (.slice AC S.ch.n cC)).setCell ⟨g_v, 4, none⟩ (.slice none 0 0)).setCell ⟨g_v, 5, none⟩ (.slice AS S.sd.n cS)).setCell ⟨g_v, 6, none⟩ (.slice AU S.ut.n cU)) = v6 at *
                try simp only [Act.put, List.setIfInBounds_toArray, List.set_cons_zero, List.set_cons_succ]
                refine wpAnyH_done (by kernel_rfl) ?_ _
                go_wp2_with fail
                go_meet
                exact ⟨_, AT, cT, AC, cC, AS, cS, AU, cU, rfl, hlz, hz_v, oT', oC', oS', oU', hHeld.2⟩
          · go_simp
            have lzv7 := hHeld.2.out.size
            have hlz := hide lzv7
            have lbv7_0 := hHeld.1.out.lt
            have hz_v := hide (Ro.new v3 #[.slice none 0 0, .slice none 0 0, .slice none 0 0, .slice none 0 0, .slice none 0 0, .slice none 0 0, .slice none 0 0] 28)
            replace oT := hide (oT.out.alloc (.cells #[.slice none 0 0, .slice none 0 0, .slice none 0 0, .slice none 0 0, .slice none 0 0, .slice none 0 0, .slice none 0 0] 28))
            replace oC := hide (oC.out.alloc (.cells #[.slice none 0 0, .slice none 0 0, .slice none 0 0, .slice none 0 0, .slice none 0 0, .slice none 0 0, .slice none 0 0] 28))
            replace oS := hide (oS.out.alloc (.cells #[.slice none 0 0, .slice none 0 0, .slice none 0 0, .slice none 0 0, .slice none 0 0, .slice none 0 0, .slice none 0 0] 28))
            refine hK.out _ _ (⟨hide (hHeld.1.out.alloc _), hide (bl_alloc hHeld.2.out _)⟩) (fun hHeld => ?_)
            clear hK K
            generalize v3.heap.size = g_v at *
            generalize v3.alloc (.cells #[.slice none 0 0, .slice none 0 0, .slice none 0 0, .slice none 0 0, .slice none 0 0, .slice none 0 0, .slice none 0 0] 28) = v7 at *
            try simp only [Act.put, List.setIfInBounds_toArray, List.set_cons_zero, List.set_cons_succ]
            refine wpAnyH_ready (rs := [14]) (by kernel_rfl) (by simp) ?_
            refine AllReadyH.cons rfl (fun K hK => ?_) (AllReadyH.nil)
            · go_simp
              refine (CU.out _ hHeld.2.out).mono ?_
              rintro e v8 ⟨AU, cU, rfl, oU_, h1'⟩
              replace oT := hide (oT.out.below h1')
              replace oC := hide (oC.out.below h1')
              replace oS := hide (oS.out.below h1')
              have oU := hide (oU_.mono (Nat.le_trans hb.out.size hHeld.2.out.size))
              replace hz_v := hide (hz_v.out.below h1')
              refine hK.out _ _ (⟨hide (hHeld.1.out.below h1'), hide (bel_next hHeld.2.out h1')⟩) (fun hHeld => ?_)
              clear hK K h1'
              try simp only [Act.put, List.setIfInBounds_toArray, List.set_cons_zero, List.set_cons_succ]
              refine wpAnyH_takeD (i := 15) (d := (some 29)) (v := ?_) rfl rfl (by kernel_rfl) (by kernel_rfl) (by kernel_rfl) (fun _ _ _ h => h) (Or.inl ⟨by rfl, ?_⟩) (by assumption) ?_
              rotate_left
              · ((intro w hSw; go_simp) <;> with_reducible rfl)
              try simp only [Act.put, List.setIfInBounds_toArray, List.set_cons_zero, List.set_cons_succ]
              refine wpAnyH_ready (rs := [17]) (by kernel_rfl) (by simp) ?_
              refine AllReadyH.cons rfl (fun K hK => ?_) (AllReadyH.nil)
              · obtain ⟨y0, z0⟩ := ro_cf hz_v.out 0 _ rfl; obtain ⟨y1, z1⟩ := ro_cf hz_v.out 1 _ rfl; obtain ⟨y2, z2⟩ := ro_cf hz_v.out 2 _ rfl; obtain ⟨y3, z3⟩ := ro_cf hz_v.out 3 _ rfl; obtain ⟨y4, z4⟩ := ro_cf hz_v.out 4 _ rfl; obtain ⟨y5, z5⟩ := ro_cf hz_v.out 5 _ rfl; obtain ⟨y6, z6⟩ := ro_cf hz_v.out 6 _ rfl
                go_simp
                refine hK.out _ _ (⟨hide (ro_away7 (g' := g_v) hHeld.1.out (by omega)), hide (bl_setx7 (g := g_v) hHeld.2.out (by omega))⟩) (fun hHeld => ?_)
                clear hK K y0 z0 y1 z1 y2 z2 y3 z3 y4 z4 y5 z5 y6 z6
                have oT' := hide (oT.out.butT hz_v.out (by decide) ((((((((But.refl g_v v8).set (o := 0) (.slice none 0 0)).set (o := 1) (.slice none 0 0)).set (o := 2) (.slice AT S.ty.n cT)).set (o := 3) (.slice AC S.ch.n cC)).set (o := 4) (.slice none 0 0)).set (o := 5) (.slice AS S.sd.n cS)).set (o := 6) (.slice AU S.ut.n cU)))
                have oC' := hide (oC.out.butT hz_v.out (by decide) ((((((((But.refl g_v v8).set (o := 0) (.slice none 0 0)).set (o := 1) (.slice none 0 0)).set (o := 2) (.slice AT S.ty.n cT)).set (o := 3) (.slice AC S.ch.n cC)).set (o := 4) (.slice none 0 0)).set (o := 5) (.slice AS S.sd.n cS)).set (o := 6) (.slice AU S.ut.n cU)))
                have oS' := hide (oS.out.butT hz_v.out (by decide) ((((((((But.refl g_v v8).set (o := 0) (.slice none 0 0)).set (o := 1) (.slice none 0 0)).set (o := 2) (.slice AT S.ty.n cT)).set (o := 3) (.slice AC S.ch.n cC)).set (o := 4) (.slice none 0 0)).set (o := 5) (.slice AS S.sd.n cS)).set (o := 6) (.slice AU S.ut.n cU)))
                have oU' := hide (oU.out.butT hz_v.out (by decide) ((((((((But.refl g_v v8).set (o := 0) (.slice none 0 0)).set (o := 1) (.slice none 0 0)).set (o := 2) (.slice AT S.ty.n cT)).set (o := 3) (.slice AC S.ch.n cC)).set (o := 4) (.slice none 0 0)).set (o := 5) (.slice AS S.sd.n cS)).set (o := 6) (.slice AU S.ut.n cU)))
                clear oT
                clear oC
                clear oS
                clear oU
                replace hz_v := hide (ro_set7' (x0 := .slice none 0 0) (x1 := .slice none 0 0) (x2 := .slice AT S.ty.n cT) (x3 := .slice AC S.ch.n cC) (x4 := .slice none 0 0) (x5 := .slice AS S.sd.n cS) (x6 := .slice AU S.ut.n cU) hz_v.out)
                generalize (((((((v8.setCell ⟨g_v, 0, none⟩ (.slice none 0 0)).setCell ⟨g_v, 1, none⟩ (.slice none 0 0)).setCell ⟨g_v, 2, none⟩ (.slice AT S.ty.n cT)).setCell ⟨g_v, 3, none⟩ (.slice AC S.ch.n cC)).setCell ⟨g_v, 4, none⟩ (.slice none 0 0)).setCell ⟨g_v, 5, none⟩ (.slice AS S.sd.n cS)).setCell ⟨g_v, 6, none⟩ (.slice AU S.ut.n cU)) = v9 at *
                try simp only [Act.put, List.setIfInBounds_toArray, List.set_cons_zero, List.set_cons_succ]
                refine wpAnyH_done (by kernel_rfl) ?_ _
                go_wp2_with fail
                go_meet
                exact ⟨_, AT, cT, AC, cC, AS, cS, AU, cU, rfl, hlz, hz_v, oT', oC', oS', oU', hHeld.2⟩
        · go_simp
          have lzv10 := hHeld.2.out.size
          have hlz := hide lzv10
          have lbv10_0 := hHeld.1.out.lt
          have hz_v := hide (Ro.new v2 #[.slice none 0 0, .slice none 0 0, .slice none 0 0, .slice none 0 0, .slice none 0 0, .slice none 0 0, .slice none 0 0] 28)
          replace oT := hide (oT.out.alloc (.cells #[.slice none 0 0, .slice none 0 0, .slice none 0 0, .slice none 0 0, .slice none 0 0, .slice none 0 0, .slice none 0 0] 28))
          replace oC := hide (oC.out.alloc (.cells #[.slice none 0 0, .slice none 0 0, .slice none 0 0, .slice none 0 0, .slice none 0 0, .slice none 0 0, .slice none 0 0] 28))
          refine hK.out _ _ (⟨hide (hHeld.1.out.alloc _), hide (bl_alloc hHeld.2.out _)⟩) (fun hHeld => ?_)
          clear hK K
          generalize v2.heap.size = g_v at *
          generalize v2.alloc (.cells #[.slice none 0 0, .slice none 0 0, .slice none 0 0, .slice none 0 0, .slice none 0 0, .slice none 0 0, .slice none 0 0] 28) = v10 at *
          try simp only [Act.put, List.setIfInBounds_toArray, List.set_cons_zero, List.set_cons_succ]
          refine wpAnyH_ready (rs := [10]) (by kernel_rfl) (by simp) ?_
          refine AllReadyH.cons rfl (fun K hK => ?_) (AllReadyH.nil)
          · go_simp
            refine (CS.out _ hHeld.2.out).mono ?_
            rintro e v11 ⟨AS, cS, rfl, oS_, h1'⟩
            replace oT := hide (oT.out.below h1')
            replace oC := hide (oC.out.below h1')
            have oS := hide (oS_.mono (Nat.le_trans hb.out.size hHeld.2.out.size))
            replace hz_v := hide (hz_v.out.below h1')
            refine hK.out _ _ (⟨hide (hHeld.1.out.below h1'), hide (bel_next hHeld.2.out h1')⟩) (fun hHeld => ?_)
            clear hK K h1'
            try simp only [Act.put, List.setIfInBounds_toArray, List.set_cons_zero, List.set_cons_succ]
            refine wpAnyH_ready (rs := [14]) (by kernel_rfl) (by simp) ?_
            refine AllReadyH.cons rfl (fun K hK => ?_) (AllReadyH.nil)
            · go_simp
              refine (CU.out _ hHeld.2.out).mono ?_
              rintro e v12 ⟨AU, cU, rfl, oU_, h1'⟩
              replace oT := hide (oT.out.below h1')
              replace oC := hide (oC.out.below h1')
              replace oS := hide (oS.out.below h1')
              have oU := hide (oU_.mono (Nat.le_trans hb.out.size hHeld.2.out.size))
              replace hz_v := hide (hz_v.out.below h1')
              refine hK.out _ _ (⟨hide (hHeld.1.out.below h1'), hide (bel_next hHeld.2.out h1')⟩) (fun hHeld => ?_)
              clear hK K h1'
              try simp only [Act.put, List.setIfInBounds_toArray, List.set_cons_zero, List.set_cons_succ]
              refine wpAnyH_takeD (i := 15) (d := (some 29)) (v := ?_) rfl rfl (by kernel_rfl) (by kernel_rfl) (by kernel_rfl) (fun _ _ _ h => h) (Or.inl ⟨by rfl, ?_⟩) (by assumption) ?_
              rotate_left
              · ((intro w hSw; go_simp) <;> with_reducible rfl)
              try simp only [Act.put, List.setIfInBounds_toArray, List.set_cons_zero, List.set_cons_succ]
              refine wpAnyH_ready (rs := [17]) (by kernel_rfl) (by simp) ?_
              refine AllReadyH.cons rfl (fun K hK => ?_) (AllReadyH.nil)
              · obtain ⟨y0, z0⟩ := ro_cf hz_v.out 0 _ rfl; obtain ⟨y1, z1⟩ := ro_cf hz_v.out 1 _ rfl; obtain ⟨y2, z2⟩ := ro_cf hz_v.out 2 _ rfl; obtain ⟨y3, z3⟩ := ro_cf hz_v.out 3 _ rfl; obtain ⟨y4, z4⟩ := ro_cf hz_v.out 4 _ rfl; obtain ⟨y5, z5⟩ := ro_cf hz_v.out 5 _ rfl; obtain ⟨y6, z6⟩ := ro_cf hz_v.out 6 _ rfl
                go_simp
                refine hK.out _ _ (⟨hide (ro_away7 (g' := g_v) hHeld.1.out (by omega)), hide (bl_setx7 (g := g_v) hHeld.2.out (by omega))⟩) (fun hHeld => ?_)
                clear hK K y0 z0 y1 z1 y2 z2 y3 z3 y4 z4 y5 z5 y6 z6
                have oT' := hide (oT.out.butT hz_v.out (by decide) ((((((((But.refl g_v v12).set (o := 0) (.slice none 0 0)).set (o := 1) (.slice none 0 0)).set (o := 2) (.slice AT S.ty.n cT)).set (o := 3) (.slice AC S.ch.n cC)).set (o := 4) (.slice none 0 0)).set (o := 5) (.slice AS S.sd.n cS)).set (o := 6) (.slice AU S.ut.n cU)))
                have oC' := hide (oC.out.butT hz_v.out (by decide) ((((((((But.refl g_v v12).set (o := 0) (.slice none 0 0)).set (o := 1) (.slice none 0 0)).set (o := 2) (.slice AT S.ty.n cT)).set (o := 3) (.slice AC S.ch.n cC)).set (o := 4) (.slice none 0 0)).set (o := 5) (.slice AS S.sd.n cS)).set (o := 6) (.slice AU S.ut.n cU)))
                have oS' := hide (oS.out.butT hz_v.out (by decide) ((((((((But.refl g_v v12).set (o := 0) (.slice none 0 0)).set (o := 1) (.slice none 0 0)).set (o := 2) (.slice AT S.ty.n cT)).set (o := 3) (.slice AC S.ch.n cC)).set (o := 4) (.slice none 0 0)).set (o := 5) (.slice AS S.sd.n cS)).set (o := 6) (.slice AU S.ut.n cU)))
                have oU' := hide (oU.out.butT hz_v.out (by decide) ((((((((But.refl g_v v12).set (o := 0) (.slice none 0 0)).set (o := 1) (.slice none 0 0)).set (o := 2) (.slice AT S.ty.n cT)).set (o := 3) (.slice AC S.ch.n cC)).set (o := 4) (.slice none 0 0)).set (o := 5) (.slice AS S.sd.n cS)).set (o := 6) (.slice AU S.ut.n cU)))
                clear oT
                clear oC
                clear oS
                clear oU
                replace hz_v := hide (ro_set7' (x0 := .slice none 0 0) (x1 := .slice none 0 0) (x2 := .slice AT S.ty.n cT) (x3 := .slice AC S.ch.n cC) (x4 := .slice none 0 0) (x5 := .slice AS S.sd.n cS) (x6 := .slice AU S.ut.n cU) hz_v.out)
                generalize (((((((v12.setCell ⟨g_v, 0, none⟩ (.slice none 0 0)).setCell ⟨g_v, 1, none⟩ (.slice none 0 0)).setCell ⟨g_v, 2, none⟩ (.slice AT S.ty.n cT)).setCell ⟨g_v, 3, none⟩ (.slice AC S.ch.n cC)).setCell ⟨g_v, 4, none⟩ (.slice none 0 0)).setCell ⟨g_v, 5, none⟩ (.slice AS S.sd.n cS)).setCell ⟨g_v, 6, none⟩ (.slice AU S.ut.n cU)) = v13 at *
                try simp only [Act.put, List.setIfInBounds_toArray, List.set_cons_zero, List.set_cons_succ]
                refine wpAnyH_done (by kernel_rfl) ?_ _
                go_wp2_with fail
                go_meet
                exact ⟨_, AT, cT, AC, cC, AS, cS, AU, cU, rfl, hlz, hz_v, oT', oC', oS', oU', hHeld.2⟩
      · go_simp
        have lzv14 := hHeld.2.out.size
        have hlz := hide lzv14
        have lbv14_0 := hHeld.1.out.lt
        have hz_v := hide (Ro.new v1 #[.slice none 0 0, .slice none 0 0, .slice none 0 0, .slice none 0 0, .slice none 0 0, .slice none 0 0, .slice none 0 0] 28)
        replace oT := hide (oT.out.alloc (.cells #[.slice none 0 0, .slice none 0 0, .slice none 0 0, .slice none 0 0, .slice none 0 0, .slice none 0 0, .slice none 0 0] 28))
        refine hK.out _ _ (⟨hide (hHeld.1.out.alloc _), hide (bl_alloc hHeld.2.out _)⟩) (fun hHeld => ?_)
        clear hK K
        generalize v1.heap.size = g_v at *
        generalize v1.alloc (.cells #[.slice none 0 0, .slice none 0 0, .slice none 0 0, .slice none 0 0, .slice none 0 0, .slice none 0 0, .slice none 0 0] 28) = v14 at *
        try simp only [Act.put, List.setIfInBounds_toArray, List.set_cons_zero, List.set_cons_succ]
        refine wpAnyH_ready (rs := [6]) (by kernel_rfl) (by simp) ?_
        refine AllReadyH.cons rfl (fun K hK => ?_) (AllReadyH.nil)
        · go_simp
          refine (CC.out _ hHeld.2.out).mono ?_
          rintro e v15 ⟨AC, cC, rfl, oC_, h1'⟩
          replace oT := hide (oT.out.below h1')
          have oC := hide (oC_.mono (Nat.le_trans hb.out.size hHeld.2.out.size))
          replace hz_v := hide (hz_v.out.below h1')
          refine hK.out _ _ (⟨hide (hHeld.1.out.below h1'), hide (bel_next hHeld.2.out h1')⟩) (fun hHeld => ?_)
          clear hK K h1'
          try simp only [Act.put, List.setIfInBounds_toArray, List.set_cons_zero, List.set_cons_succ]
          refine wpAnyH_ready (rs := [10]) (by kernel_rfl) (by simp) ?_
          refine AllReadyH.cons rfl (fun K hK => ?_) (AllReadyH.nil)
          · go_simp
            refine (CS.out _ hHeld.2.out).mono ?_
            rintro e v16 ⟨AS, cS, rfl, oS_, h1'⟩
            replace oT := hide (oT.out.below h1')
            replace oC := hide (oC.out.below h1')
            have oS := hide (oS_.mono (Nat.le_trans hb.out.size hHeld.2.out.size))
            replace hz_v := hide (hz_v.out.below h1')
            refine hK.out _ _ (⟨hide (hHeld.1.out.below h1'), hide (bel_next hHeld.2.out h1')⟩) (fun hHeld => ?_)
            clear hK K h1'
            try simp only [Act.put, List.setIfInBounds_toArray, List.set_cons_zero, List.set_cons_succ]
            refine wpAnyH_ready (rs := [14]) (by kernel_rfl) (by simp) ?_
            refine AllReadyH.cons rfl (fun K hK => ?_) (AllReadyH.nil)
            · go_simp
              refine (CU.out _ hHeld.2.out).mono ?_
              rintro e v17 ⟨AU, cU, rfl, oU_, h1'⟩
              replace oT := hide (oT.out.below h1')
              replace oC := hide (oC.out.below h1')
              replace oS := hide (oS.out.below h1')
              have oU := hide (oU_.mono (Nat.le_trans hb.out.size hHeld.2.out.size))
              replace hz_v := hide (hz_v.out.below h1')
              refine hK.out _ _ (⟨hide (hHeld.1.out.below h1'), hide (bel_next hHeld.2.out h1')⟩) (fun hHeld => ?_)
              clear hK K h1'
              try simp only [Act.put, List.setIfInBounds_toArray, List.set_cons_zero, List.set_cons_succ]
              refine wpAnyH_takeD (i := 15) (d := (some 29)) (v := ?_) rfl rfl (by kernel_rfl) (by kernel_rfl) (by kernel_rfl) (fun _ _ _ h => h) (Or.inl ⟨by rfl, ?_⟩) (by assumption) ?_
              rotate_left
              · ((intro w hSw; go_simp) <;> with_reducible rfl)
              try simp only [Act.put, List.setIfInBounds_toArray, List.set_cons_zero, List.set_cons_succ]
              refine wpAnyH_ready (rs := [17]) (by kernel_rfl) (by simp) ?_
              refine AllReadyH.cons rfl (fun K hK => ?_) (AllReadyH.nil)
              · obtain ⟨y0, z0⟩ := ro_cf hz_v.out 0 _ rfl; obtain ⟨y1, z1⟩ := ro_cf hz_v.out 1 _ rfl; obtain ⟨y2, z2⟩ := ro_cf hz_v.out 2 _ rfl; obtain ⟨y3, z3⟩ := ro_cf hz_v.out 3 _ rfl; obtain ⟨y4, z4⟩ := ro_cf hz_v.out 4 _ rfl; obtain ⟨y5, z5⟩ := ro_cf hz_v.out 5 _ rfl; obtain ⟨y6, z6⟩ := ro_cf hz_v.out 6 _ rfl
                go_simp
                refine hK.out _ _ (⟨hide (ro_away7 (g' := g_v) hHeld.1.out (by omega)), hide (bl_setx7 (g := g_v) hHeld.2.out (by omega))⟩) (fun hHeld => ?_)
                clear hK K y0 z0 y1 z1 y2 z2 y3 z3 y4 z4 y5 z5 y6 z6
                have oT' := hide (oT.out.butT hz_v.out (by decide) ((((((((But.refl g_v v17).set (o := 0) (.slice none 0 0)).set (o := 1) (.slice none 0 0)).set (o := 2) (.slice AT S.ty.n cT)).set (o := 3) (.slice AC S.ch.n cC)).set (o := 4) (.slice none 0 0)).set (o := 5) (.slice AS S.sd.n cS)).set (o := 6) (.slice AU S.ut.n cU)))
                have oC' := hide (oC.out.butT hz_v.out (by decide) ((((((((But.refl g_v v17).set (o := 0) (.slice none 0 0)).set (o := 1) (.slice none 0 0)).set (o := 2) (.slice AT S.ty.n cT)).set (o := 3) (.slice AC S.ch.n cC)).set (o := 4) (.slice none 0 0)).set (o := 5) (.slice AS S.sd.n cS)).set (o := 6) (.slice AU S.ut.n cU)))
                have oS' := hide (oS.out.butT hz_v.out (by decide) ((((((((But.refl g_v v17).set (o := 0) (.slice none 0 0)).set (o := 1) (.slice none 0 0)).set (o := 2) (.slice AT S.ty.n cT)).set (o := 3) (.slice AC S.ch.n cC)).set (o := 4) (.slice none 0 0)).set (o := 5) (.slice AS S.sd.n cS)).set (o := 6) (.slice AU S.ut.n cU)))
                have oU' := hide (oU.out.butT hz_v.out (by decide) ((((((((But.refl g_v v17).set (o := 0) (.slice none 0 0)).set (o := 1) (.slice none 0 0)).set (o := 2) (.slice AT S.ty.n cT)).set (o := 3) (.slice AC S.ch.n cC)).set (o := 4) (.slice none 0 0)).set (o := 5) (.slice AS S.sd.n cS)).set (o := 6) (.slice AU S.ut.n cU)))
                clear oT
                clear oC
                clear oS
                clear oU
                replace hz_v := hide (ro_set7' (x0 := .slice none 0 0) (x1 := .slice none 0 0) (x2 := .slice AT S.ty.n cT) (x3 := .slice AC S.ch.n cC) (x4 := .slice none 0 0) (x5 := .slice AS S.sd.n cS) (x6 := .slice AU S.ut.n cU) hz_v.out)
                generalize (((((((v17.setCell ⟨g_v, 0, none⟩ (.slice none 0 0)).setCell ⟨g_v, 1, none⟩ (.slice none 0 0)).setCell ⟨g_v, 2, none⟩ (.slice AT S.ty.n cT)).setCell ⟨g_v, 3, none⟩ (.slice AC S.ch.n cC)).setCell ⟨g_v, 4, none⟩ (.slice none 0 0)).setCell ⟨g_v, 5, none⟩ (.slice AS S.sd.n cS)).setCell ⟨g_v, 6, none⟩ (.slice AU S.ut.n cU)) = v18 at *
                try simp only [Act.put, List.setIfInBounds_toArray, List.set_cons_zero, List.set_cons_succ]
                refine wpAnyH_done (by kernel_rfl) ?_ _
                go_wp2_with fail
                go_meet
                exact ⟨_, AT, cT, AC, cC, AS, cS, AU, cU, rfl, hlz, hz_v, oT', oC', oS', oU', hHeld.2⟩
    · go_simp
      have lzv19 := hHeld.2.out.size
      have hlz := hide lzv19
      have lbv19_0 := hHeld.1.out.lt
      have hz_v := hide (Ro.new u0 #[.slice none 0 0, .slice none 0 0, .slice none 0 0, .slice none 0 0, .slice none 0 0, .slice none 0 0, .slice none 0 0] 28)
      refine hK.out _ _ (⟨hide (hHeld.1.out.alloc _), hide (bl_alloc hHeld.2.out _)⟩) (fun hHeld => ?_)
      clear hK K
      generalize u0.heap.size = g_v at *
      generalize u0.alloc (.cells #[.slice none 0 0, .slice none 0 0, .slice none 0 0, .slice none 0 0, .slice none 0 0, .slice none 0 0, .slice none 0 0] 28) = v19 at *
      try simp only [Act.put, List.setIfInBounds_toArray, List.set_cons_zero, List.set_cons_succ]
      refine wpAnyH_ready (rs := [3]) (by kernel_rfl) (by simp) ?_
      refine AllReadyH.cons rfl (fun K hK => ?_) (AllReadyH.nil)
      · go_simp
        refine (CT.out _ hHeld.2.out).mono ?_
        rintro e v20 ⟨AT, cT, rfl, oT_, h1'⟩
        have oT := hide (oT_.mono (Nat.le_trans hb.out.size hHeld.2.out.size))
        replace hz_v := hide (hz_v.out.below h1')
        refine hK.out _ _ (⟨hide (hHeld.1.out.below h1'), hide (bel_next hHeld.2.out h1')⟩) (fun hHeld => ?_)
        clear hK K h1'
        try simp only [Act.put, List.setIfInBounds_toArray, List.set_cons_zero, List.set_cons_succ]
        refine wpAnyH_ready (rs := [6]) (by kernel_rfl) (by simp) ?_
        refine AllReadyH.cons rfl (fun K hK => ?_) (AllReadyH.nil)
        · go_simp
          refine (CC.out _ hHeld.2.out).mono ?_
          rintro e v21 ⟨AC, cC, rfl, oC_, h1'⟩
          replace oT := hide (oT.out.below h1')
          have oC := hide (oC_.mono (Nat.le_trans hb.out.size hHeld.2.out.size))
          replace hz_v := hide (hz_v.out.below h1')
          refine hK.out _ _ (⟨hide (hHeld.1.out.below h1'), hide (bel_next hHeld.2.out h1')⟩) (fun hHeld => ?_)
          clear hK K h1'
          try simp only [Act.put, List.setIfInBounds_toArray, List.set_cons_zero, List.set_cons_succ]
          refine wpAnyH_ready (rs := [10]) (by kernel_rfl) (by simp) ?_
          refine AllReadyH.cons rfl (fun K hK => ?_) (AllReadyH.nil)
          · go_simp
            refine (CS.out _ hHeld.2.out).mono ?_
            rintro e v22 ⟨AS, cS, rfl, oS_, h1'⟩
            replace oT := hide (oT.out.below h1')
            replace oC := hide (oC.out.below h1')
            have oS := hide (oS_.mono (Nat.le_trans hb.out.size hHeld.2.out.size))
            replace hz_v := hide (hz_v.out.below h1')
            refine hK.out _ _ (⟨hide (hHeld.1.out.below h1'), hide (bel_next hHeld.2.out h1')⟩) (fun hHeld => ?_)
            clear hK K h1'
            try simp only [Act.put, List.setIfInBounds_toArray, List.set_cons_zero, List.set_cons_succ]
            refine wpAnyH_ready (rs := [14]) (by kernel_rfl) (by simp) ?_
            refine AllReadyH.cons rfl (fun K hK => ?_) (AllReadyH.nil)
            · go_simp
              refine (CU.out _ hHeld.2.out).mono ?_
              rintro e v23 ⟨AU, cU, rfl, oU_, h1'⟩
              replace oT := hide (oT.out.below h1')
              replace oC := hide (oC.out.below h1')
              replace oS := hide (oS.out.below h1')
              have oU := hide (oU_.mono (Nat.le_trans hb.out.size hHeld.2.out.size))
              replace hz_v := hide (hz_v.out.below h1')
              refine hK.out _ _ (⟨hide (hHeld.1.out.below h1'), hide (bel_next hHeld.2.out h1')⟩) (fun hHeld => ?_)
              clear hK K h1'
              try simp only [Act.put, List.setIfInBounds_toArray, List.set_cons_zero, List.set_cons_succ]
              refine wpAnyH_takeD (i := 15) (d := (some 29)) (v := ?_) rfl rfl (by kernel_rfl) (by kernel_rfl) (by kernel_rfl) (fun _ _ _ h => h) (Or.inl ⟨by rfl, ?_⟩) (by assumption) ?_
              rotate_left
              · ((intro w hSw; go_simp) <;> with_reducible rfl)
              try simp only [Act.put, List.setIfInBounds_toArray, List.set_cons_zero, List.set_cons_succ]
              refine wpAnyH_ready (rs := [17]) (by kernel_rfl) (by simp) ?_
              refine AllReadyH.cons rfl (fun K hK => ?_) (AllReadyH.nil)
              · obtain ⟨y0, z0⟩ := ro_cf hz_v.out 0 _ rfl; obtain ⟨y1, z1⟩ := ro_cf hz_v.out 1 _ rfl; obtain ⟨y2, z2⟩ := ro_cf hz_v.out 2 _ rfl; obtain ⟨y3, z3⟩ := ro_cf hz_v.out 3 _ rfl; obtain ⟨y4, z4⟩ := ro_cf hz_v.out 4 _ rfl; obtain ⟨y5, z5⟩ := ro_cf hz_v.out 5 _ rfl; obtain ⟨y6, z6⟩ := ro_cf hz_v.out 6 _ rfl
                go_simp
                refine hK.out _ _ (⟨hide (ro_away7 (g' := g_v) hHeld.1.out (by omega)), hide (bl_setx7 (g := g_v) hHeld.2.out (by omega))⟩) (fun hHeld => ?_)
                clear hK K y0 z0 y1 z1 y2 z2 y3 z3 y4 z4 y5 z5 y6 z6
                have oT' := hide (oT.out.butT hz_v.out (by decide) ((((((((But.refl g_v v23).set (o := 0) (.slice none 0 0)).set (o := 1) (.slice none 0 0)).set (o := 2) (.slice AT S.ty.n cT)).set (o := 3) (.slice AC S.ch.n cC)).set (o := 4) (.slice none 0 0)).set (o := 5) (.slice AS S.sd.n cS)).set (o := 6) (.slice AU S.ut.n cU)))
                have oC' := hide (oC.out.butT hz_v.out (by decide) ((((((((But.refl g_v v23).set (o := 0) (.slice none 0 0)).set (o := 1) (.slice none 0 0)).set (o := 2) (.slice AT S.ty.n cT)).set (o := 3) (.slice AC S.ch.n cC)).set (o := 4) (.slice none 0 0)).set (o := 5) (.slice AS S.sd.n cS)).set (o := 6) (.slice AU S.ut.n cU)))
                have oS' := hide (oS.out.butT hz_v.out (by decide) ((((((((But.refl g_v v23).set (o := 0) (.slice none 0 0)).set (o := 1) (.slice none 0 0)).set (o := 2) (.slice AT S.ty.n cT)).set (o := 3) (.slice AC S.ch.n cC)).set (o := 4) (.slice none 0 0)).set (o := 5) (.slice AS S.sd.n cS)).set (o := 6) (.slice AU S.ut.n cU)))
                have oU' := hide (oU.out.butT hz_v.out (by decide) ((((((((But.refl g_v v23).set (o := 0) (.slice none 0 0)).set (o := 1) (.slice none 0 0)).set (o := 2) (.slice AT S.ty.n cT)).set (o := 3) (.slice AC S.ch.n cC)).set (o := 4) (.slice none 0 0)).set (o := 5) (.slice AS S.sd.n cS)).set (o := 6) (.slice AU S.ut.n cU)))
                clear oT
                clear oC
                clear oS
                clear oU
                replace hz_v := hide (ro_set7' (x0 := .slice none 0 0) (x1 := .slice none 0 0) (x2 := .slice AT S.ty.n cT) (x3 := .slice AC S.ch.n cC) (x4 := .slice none 0 0) (x5 := .slice AS S.sd.n cS) (x6 := .slice AU S.ut.n cU) hz_v.out)
                generalize (((((((v23.setCell ⟨g_v, 0, none⟩ (.slice none 0 0)).setCell ⟨g_v, 1, none⟩ (.slice none 0 0)).setCell ⟨g_v, 2, none⟩ (.slice AT S.ty.n cT)).setCell ⟨g_v, 3, none⟩ (.slice AC S.ch.n cC)).setCell ⟨g_v, 4, none⟩ (.slice none 0 0)).setCell ⟨g_v, 5, none⟩ (.slice AS S.sd.n cS)).setCell ⟨g_v, 6, none⟩ (.slice AU S.ut.n cU)) = v24 at *
                try simp only [Act.put, List.setIfInBounds_toArray, List.set_cons_zero, List.set_cons_succ]
                refine wpAnyH_done (by kernel_rfl) ?_ _
                go_wp2_with fail
                go_meet
                exact ⟨_, AT, cT, AC, cC, AS, cS, AU, cU, rfl, hlz, hz_v, oT', oC', oS', oU', hHeld.2⟩
  case rest =>
    obtain ⟨gv, AT, cT, AC, cC, AS, cS, AU, cU, rfl, hug, kv, oT, oC, oS, oU, h1⟩ := hcut
    rename World => w1
    have hkv := hide (show w.heap.size ≠ gv from by have := k.out.lt; have := hug.out; omega)
    have hk2v := hide (show w.heap.size + 1 ≠ gv from by have := k2.out.lt; have := hug.out; omega)
    have hf1 := hide (show f1 ≠ gv from by have := kf1.out.lt; have := hug.out; omega)
    have hf2 := hide (show f2 ≠ gv from by have := kf2.out.lt; have := hug.out; omega)
    replace k := hide (k.out.below h1.out)
    replace k2 := hide (k2.out.below h1.out)
    replace kf1 := hide (kf1.out.below h1.out)
    replace kf2 := hide (kf2.out.below h1.out)
    have hgw := hide (show w.heap.size ≤ gv from Nat.le_trans hb.out.size hug.out)
    have hb1 := hide (bel_next hb.out h1.out)
    have hgv := hide kv.out.lt
    clear h1 hb CT CC CS CU hug
    obtain ⟨y0, _⟩ := ro_cf k.out 0 _ k0c.out
    go_wp2
    go_loopw [33] (fun i wr => ∃ (m n0 n1 c0 c1 : Nat) (A0 A1 : Option Addr), m ≤ S.ti.n ∧ i = .int .i64 (m : Nat) ∧ Hid (Ro wr gv #[.slice A0 n0 c0, .slice A1 n1 c1, .slice AT S.ty.n cT, .slice AC S.ch.n cC, .slice none 0 0, .slice AS S.sd.n cS, .slice AU S.ut.n cU] 28) ∧ Hid (Ow wr w1.heap.size 2 A0 n0 c0 ((tN b m).map (Value.int .i64))) ∧ Hid (Ow wr w1.heap.size 5 A1 n1 c1 ((xN b kn m).map (Value.int .u8))) ∧ Hid (But gv w1 wr)) (fun i _ => S.ti.n - (intOf i).toNat)
    case atStart => exact ⟨0, 0, 0, 0, 0, none, none, by omega, rfl, kv, hide (Ow.nil (Nat.le_refl _) _), hide (Ow.nil (Nat.le_refl _) _), hide (But.refl gv w1)⟩
    case round =>
      clear y0
      obtain ⟨m, n0, n1, c0, c1, A0, A1, hm, rfl, kv', o0, o1, bt⟩ := hrel
      have kv1 := hide kv.out
      replace kv := kv'
      clear kv'
      by_cases hlt : m < S.ti.n
      · obtain ⟨x, y, hx0, hy⟩ := gl.out m hlt
        have ht := hide (tN_step hx0)
        have hx := hide (xN_step (k := kn) hx0 hy)
        obtain ⟨ad, e0, c0_⟩ := (hR.out _ (But.down hb1.out hgw.out bt.out)).ti.int hlt
        rw [hx0] at c0_
        simp only [Option.getD_some] at c0_
        have hy0 := hide (ipos.out y (List.mem_of_getElem? hy))
        replace hy := hide hy
        clear hx0
        have d1 : (m : Int) < (S.ti.n : Int) := by omega
        have i1 : IntKind.i64.wrap ((m : Int) + 1) = ((m + 1 : Nat) : Int) := by rw [IntKind.wrap_i64]; omega
        by_cases hin : in32 x = true
        · rw [if_pos hin] at ht hx
          have IVx := hide (IV.out x)
          rw [hin] at IVx
          have hl0 : n0 ≤ m := by have := o0.out.len; simp at this; have := tN_len b m; omega
          have hl1 : n1 ≤ m := by have := o1.out.len; simp at this; have := xN_len b kn m; omega
          have apm := hide (show n1 + 1 ≤ maxLen by simp [maxLen]; omega)
          have apb := hide (show (n1 + 1) * 1 ≤ 140737488355328 by omega)
          have one1 := hide (oneCells .u8 [((other y.toNat kn : Nat) : Int)])
          rw [e0]
          go_wp2_with fail
          refine (IVx.out _).mono ?_
          rintro e w5 ⟨rfl, rfl⟩
          obtain ⟨y0, z0⟩ := ro_cf kv.out 0 _ rfl
          have ol := hide ((Ow.lit wr 2 [.int .i64 x] (by simp [maxLen])).rd)
          have kva := hide (kv.out.alloc (.cells #[.int .i64 x] 2))
          have o1a := hide (o1.out.alloc (.cells #[.int .i64 x] 2))
          have bta := hide (bt.out.alloc (.cells #[.int .i64 x] 2))
          have o0a := hide o0.out
          have dj := hide (o1a.out.ty.dj (o0.out.alloc (.cells #[.int .i64 x] 2)).ty (by decide))
          go_upto_region 9 with (at_builtin; refine ap1A elI64L o0.out (Below.refl w1.heap.size wr) (Nat.le_refl _) (.tmp 41) (.tmp 43) (.int .i64 x) rfl rfl rfl rfl rfl (by simp [maxLen]; omega) (by omega) ?_; intro A0' c0' wx ho hb' hg; have kvb := hide (ro_lowN kv.out hgv.out hb'); have o1b := hide (hg.ow o1a.out dj.out); have btb := hide (bt.out.nextB hb'); obtain ⟨y5, z5⟩ := ro_cf kvb.out 0 _ rfl)
          have bo := (But.refl gv wx).set (o := 0) (.slice A0' (n0 + 1) c0')
          have o0c := hide (Ow.butT ho kvb.out (by decide) bo)
          have o1c := hide (o1b.out.butT kvb.out (by decide) bo)
          have btc := hide (btb.out.set (o := 0) (.slice A0' (n0 + 1) c0'))
          have kvc := hide (show Ro (wx.setCell ⟨gv, 0, none⟩ (.slice A0' (n0 + 1) c0')) gv #[.slice A0' (n0 + 1) c0', .slice A1 n1 c1, .slice AT S.ty.n cT, .slice AC S.ch.n cC, .slice none 0 0, .slice AS S.sd.n cS, .slice AU S.ut.n cU] 28 from by have := ro_set kvb.out 0 (.slice A0' (n0 + 1) c0'); simpa using this)
          clear bo ho hb' hg kvb o1b btb y5 z5 y0 z0 kva o1a bta o0a dj ol kv o0 o1 bt
          generalize wx.setCell ⟨gv, 0, none⟩ (.slice A0' (n0 + 1) c0') = wy at *
          have o0 := hide o0c.out.drew
          have o1 := hide o1c.out.drew
          have kv := hide kvc.out.drew
          have bt := btc
          clear o0c o1c kvc btc
          refine wp_region_held_drew (S := fun w' => Hid (But gv w1 w')) (by kernel_rfl) (hide bt.out.drew) (fun hHeld => ?_)
          generalize wy.drew = u0 at *
          refine wpAnyH_takeD (i := 0) (d := (some 46)) (v := ?_) rfl rfl (by kernel_rfl) (by kernel_rfl) (by kernel_rfl) (fun _ _ _ h => h) (Or.inl ⟨by rfl, ?_⟩) (by assumption) ?_
          rotate_left
          · ((intro w hSw; go_simp) <;> with_reducible rfl)
          try simp only [Act.put, List.setIfInBounds_toArray, List.set_cons_zero, List.set_cons_succ]
          refine wpAnyH_takeD (i := 2) (d := (some 48)) (v := ?_) rfl rfl (by kernel_rfl) (by kernel_rfl) (by kernel_rfl) (fun _ _ _ h => h) (Or.inl ⟨by rfl, ?_⟩) (by assumption) ?_
          rotate_left
          · ((intro w hSw; go_simp) <;> with_reducible rfl)
          try simp only [Act.put, List.setIfInBounds_toArray, List.set_cons_zero, List.set_cons_succ]
          refine wpAnyH_takeD (i := 3) (d := (some 49)) rfl rfl (by kernel_rfl) (by kernel_rfl) (by kernel_rfl) (fun _ _ _ h => h) (yieldsIf_load_row (by rfl) 28 _ rfl (w.heap.size) rfl 28 cs _ (fun w hw => ro_but k.out hw.out hkv.out) Try.underlying28 rfl G.1) (by assumption) ?_
          try simp only [Act.put, List.setIfInBounds_toArray, List.set_cons_zero, List.set_cons_succ]
          refine wpAnyH_takeD (i := 4) (d := (some 50)) (v := ?_) rfl rfl (by kernel_rfl) (by kernel_rfl) (by kernel_rfl) (fun _ _ _ h => h) (Or.inl ⟨by rfl, ?_⟩) (by assumption) ?_
          rotate_left
          · ((intro w hSw; go_simp) <;> with_reducible rfl)
          try simp only [Act.put, List.setIfInBounds_toArray, List.set_cons_zero, List.set_cons_succ]
          refine wpAnyH_ready (rs := [1, 5]) (by kernel_rfl) (by simp) ?_
          refine AllReadyH.cons rfl (fun K hK => ?_) (AllReadyH.cons rfl (fun K hK => ?_) (AllReadyH.nil))
          · obtain ⟨y1, z1⟩ := ro_cf kv.out 1 _ rfl
            go_simp
            refine hK.out _ _ (hHeld) (fun hHeld => ?_)
            clear hK K
            clear y1 z1
            try simp only [Act.put, List.setIfInBounds_toArray, List.set_cons_zero, List.set_cons_succ]
            refine wpAnyH_ready (rs := [5]) (by kernel_rfl) (by simp) ?_
            refine AllReadyH.cons rfl (fun K hK => ?_) (AllReadyH.nil)
            go_simp
            refine (TO.out m y _ ((But.down hb1.out hgw.out hHeld.out)) hy.out).mono ?_
            rintro e v2 ⟨rfl, h1'⟩
            replace kv := hide (kv.out.below h1')
            replace o0 := hide (o0.out.below h1')
            replace o1 := hide (o1.out.below h1')
            refine hK.out _ _ (hide (hHeld.out.next h1')) (fun hHeld => ?_)
            clear hK K
            clear h1'
            try simp only [Act.put, List.setIfInBounds_toArray, List.set_cons_zero, List.set_cons_succ]
            refine wpAnyH_ready (rs := [6]) (by kernel_rfl) (by simp) ?_
            refine AllReadyH.cons rfl (fun K hK => ?_) (AllReadyH.nil)
            go_simp
            obtain ⟨f1c, _⟩ := ro_cf (ro_but kf1.out hHeld.out hf1.out) 0 _ rfl
            obtain ⟨f2c, _⟩ := ro_cf (ro_but kf2.out hHeld.out hf2.out) 0 _ rfl
            refine (RN.out y f1 f2 _ f1c f2c hy0.out).mono ?_
            rintro e v3 ⟨rfl, h1'⟩
            clear f1c f2c
            replace kv := hide (kv.out.below h1')
            replace o0 := hide (o0.out.below h1')
            replace o1 := hide (o1.out.below h1')
            refine hK.out _ _ (hide (hHeld.out.next h1')) (fun hHeld => ?_)
            clear hK K
            clear h1'
            try simp only [Act.put, List.setIfInBounds_toArray, List.set_cons_zero, List.set_cons_succ]
            refine wpAnyH_ready (rs := [7]) (by kernel_rfl) (by simp) ?_
            refine AllReadyH.cons rfl (fun K hK => ?_) (AllReadyH.nil)
            go_simp
            have ol := hide ((Ow.lit v3 5 [(.int .u8 ((other y.toNat kn : Nat) : Int))] (by simp [maxLen])).rd)
            replace kv := hide (kv.out.alloc (.cells #[(.int .u8 ((other y.toNat kn : Nat) : Int))] 5))
            replace o0 := hide (o0.out.alloc (.cells #[(.int .u8 ((other y.toNat kn : Nat) : Int))] 5))
            replace o1 := hide (o1.out.alloc (.cells #[(.int .u8 ((other y.toNat kn : Nat) : Int))] 5))
            refine hK.out _ _ (hide (hHeld.out.alloc (.cells #[(.int .u8 ((other y.toNat kn : Nat) : Int))] 5))) (fun hHeld => ?_)
            clear hK K
            generalize v3.heap.size = gs at *
            generalize v3.alloc (.cells #[(.int .u8 ((other y.toNat kn : Nat) : Int))] 5) = v4 at *
            try simp only [Act.put, List.setIfInBounds_toArray, List.set_cons_zero, List.set_cons_succ]
            refine wpAnyH_ready (rs := [8]) (by kernel_rfl) (by simp) ?_
            refine AllReadyH.cons rfl (fun K hK => ?_) (AllReadyH.nil)
            refine step_apA elU8 o1.out (Below.refl w1.heap.size v4) (Nat.le_refl _) ol.out (.tmp 47) (.tmp 53) rfl rfl rfl rfl (fun h => by cases h) one1.out apm.out apb.out (fun A1' c1' v5 ho hb' hg => ?_)
            have dj := o0.out.ty.dj o1.out.ty (by decide)
            replace o0 := hide (own_grown o0.out hg dj)
            replace kv := hide (ro_lowN kv.out hgv.out hb')
            clear dj hg
            replace o1 := hide ho
            refine hK.out _ _ (hide (hHeld.out.nextB hb')) (fun hHeld => ?_)
            clear hK K
            clear ho hb' ol
            try simp only [Act.put, List.setIfInBounds_toArray, List.set_cons_zero, List.set_cons_succ]
            refine wpAnyH_takeD (i := 9) (d := (some 55)) (v := ?_) rfl rfl (by kernel_rfl) (by kernel_rfl) (by kernel_rfl) (fun _ _ _ h => h) (Or.inl ⟨by rfl, ?_⟩) (by assumption) ?_
            rotate_left
            · ((intro w hSw; go_simp) <;> with_reducible rfl)
            try simp only [Act.put, List.setIfInBounds_toArray, List.set_cons_zero, List.set_cons_succ]
            refine wpAnyH_ready (rs := [10]) (by kernel_rfl) (by simp) ?_
            refine AllReadyH.cons rfl (fun K hK => ?_) (AllReadyH.nil)
            obtain ⟨y1, z1⟩ := ro_cf kv.out 1 _ rfl
            go_simp
            refine hK.out _ _ (hide (hHeld.out.set _)) (fun hHeld => ?_)
            clear hK K
            clear y1 z1
            replace o0 := hide (o0.out.butT kv.out (by decide) ((But.refl gv v5).set (o := 1) (.slice A1' (n1 + 1) c1')))
            replace o1 := hide (o1.out.butT kv.out (by decide) ((But.refl gv v5).set (o := 1) (.slice A1' (n1 + 1) c1')))
            replace kv := hide (show Ro (v5.setCell ⟨gv, 1, none⟩ (.slice A1' (n1 + 1) c1')) gv #[.slice A0' (n0 + 1) c0', .slice A1' (n1 + 1) c1', .slice AT S.ty.n cT, .slice AC S.ch.n cC, .slice none 0 0, .slice AS S.sd.n cS, .slice AU S.ut.n cU] 28 from by have := ro_set kv.out 1 (.slice A1' (n1 + 1) c1'); simpa using this)
            generalize v5.setCell ⟨gv, 1, none⟩ (.slice A1' (n1 + 1) c1') = v6 at *
            try simp only [Act.put, List.setIfInBounds_toArray, List.set_cons_zero, List.set_cons_succ]
            refine wpAnyH_done (by kernel_rfl) ?_ _
            go_wp2_with fail
            go_roundw
            case rel => exact ⟨m + 1, n0 + 1, n1 + 1, c0', c1', A0', A1', by omega, by go_num, kv, by rw [ht.out, List.map_append]; exact o0, by rw [hx.out, List.map_append]; exact o1, hHeld⟩
            case measure => simp [intOf]; omega
          · go_simp
            refine (TO.out m y _ ((But.down hb1.out hgw.out hHeld.out)) hy.out).mono ?_
            rintro e v1 ⟨rfl, h1'⟩
            replace kv := hide (kv.out.below h1')
            replace o0 := hide (o0.out.below h1')
            replace o1 := hide (o1.out.below h1')
            refine hK.out _ _ (hide (hHeld.out.next h1')) (fun hHeld => ?_)
            clear hK K
            clear h1'
            try simp only [Act.put, List.setIfInBounds_toArray, List.set_cons_zero, List.set_cons_succ]
            refine wpAnyH_ready (rs := [1, 6]) (by kernel_rfl) (by simp) ?_
            refine AllReadyH.cons rfl (fun K hK => ?_) (AllReadyH.cons rfl (fun K hK => ?_) (AllReadyH.nil))
            · obtain ⟨y1, z1⟩ := ro_cf kv.out 1 _ rfl
              go_simp
              refine hK.out _ _ (hHeld) (fun hHeld => ?_)
              clear hK K
              clear y1 z1
              try simp only [Act.put, List.setIfInBounds_toArray, List.set_cons_zero, List.set_cons_succ]
              refine wpAnyH_ready (rs := [6]) (by kernel_rfl) (by simp) ?_
              refine AllReadyH.cons rfl (fun K hK => ?_) (AllReadyH.nil)
              go_simp
              obtain ⟨f1c, _⟩ := ro_cf (ro_but kf1.out hHeld.out hf1.out) 0 _ rfl
              obtain ⟨f2c, _⟩ := ro_cf (ro_but kf2.out hHeld.out hf2.out) 0 _ rfl
              refine (RN.out y f1 f2 _ f1c f2c hy0.out).mono ?_
              rintro e v3 ⟨rfl, h1'⟩
              clear f1c f2c
              replace kv := hide (kv.out.below h1')
              replace o0 := hide (o0.out.below h1')
              replace o1 := hide (o1.out.below h1')
              refine hK.out _ _ (hide (hHeld.out.next h1')) (fun hHeld => ?_)
              clear hK K
              clear h1'
              try simp only [Act.put, List.setIfInBounds_toArray, List.set_cons_zero, List.set_cons_succ]
              refine wpAnyH_ready (rs := [7]) (by kernel_rfl) (by simp) ?_
              refine AllReadyH.cons rfl (fun K hK => ?_) (AllReadyH.nil)
              go_simp
              have ol := hide ((Ow.lit v3 5 [(.int .u8 ((other y.toNat kn : Nat) : Int))] (by simp [maxLen])).rd)
              replace kv := hide (kv.out.alloc (.cells #[(.int .u8 ((other y.toNat kn : Nat) : Int))] 5))
              replace o0 := hide (o0.out.alloc (.cells #[(.int .u8 ((other y.toNat kn : Nat) : Int))] 5))
              replace o1 := hide (o1.out.alloc (.cells #[(.int .u8 ((other y.toNat kn : Nat) : Int))] 5))
              refine hK.out _ _ (hide (hHeld.out.alloc (.cells #[(.int .u8 ((other y.toNat kn : Nat) : Int))] 5))) (fun hHeld => ?_)
              clear hK K
              generalize v3.heap.size = gs at *
              generalize v3.alloc (.cells #[(.int .u8 ((other y.toNat kn : Nat) : Int))] 5) = v4 at *
              try simp only [Act.put, List.setIfInBounds_toArray, List.set_cons_zero, List.set_cons_succ]
              refine wpAnyH_ready (rs := [8]) (by kernel_rfl) (by simp) ?_
              refine AllReadyH.cons rfl (fun K hK => ?_) (AllReadyH.nil)
              refine step_apA elU8 o1.out (Below.refl w1.heap.size v4) (Nat.le_refl _) ol.out (.tmp 47) (.tmp 53) rfl rfl rfl rfl (fun h => by cases h) one1.out apm.out apb.out (fun A1' c1' v5 ho hb' hg => ?_)
              have dj := o0.out.ty.dj o1.out.ty (by decide)
              replace o0 := hide (own_grown o0.out hg dj)
              replace kv := hide (ro_lowN kv.out hgv.out hb')
              clear dj hg
              replace o1 := hide ho
              refine hK.out _ _ (hide (hHeld.out.nextB hb')) (fun hHeld => ?_)
              clear hK K
              clear ho hb' ol
              try simp only [Act.put, List.setIfInBounds_toArray, List.set_cons_zero, List.set_cons_succ]
              refine wpAnyH_takeD (i := 9) (d := (some 55)) (v := ?_) rfl rfl (by kernel_rfl) (by kernel_rfl) (by kernel_rfl) (fun _ _ _ h => h) (Or.inl ⟨by rfl, ?_⟩) (by assumption) ?_
              rotate_left
              · ((intro w hSw; go_simp) <;> with_reducible rfl)
              try simp only [Act.put, List.setIfInBounds_toArray, List.set_cons_zero, List.set_cons_succ]
              refine wpAnyH_ready (rs := [10]) (by kernel_rfl) (by simp) ?_
              refine AllReadyH.cons rfl (fun K hK => ?_) (AllReadyH.nil)
              obtain ⟨y1, z1⟩ := ro_cf kv.out 1 _ rfl
              go_simp
              refine hK.out _ _ (hide (hHeld.out.set _)) (fun hHeld => ?_)
              clear hK K
              clear y1 z1
              replace o0 := hide (o0.out.butT kv.out (by decide) ((But.refl gv v5).set (o := 1) (.slice A1' (n1 + 1) c1')))
              replace o1 := hide (o1.out.butT kv.out (by decide) ((But.refl gv v5).set (o := 1) (.slice A1' (n1 + 1) c1')))
              replace kv := hide (show Ro (v5.setCell ⟨gv, 1, none⟩ (.slice A1' (n1 + 1) c1')) gv #[.slice A0' (n0 + 1) c0', .slice A1' (n1 + 1) c1', .slice AT S.ty.n cT, .slice AC S.ch.n cC, .slice none 0 0, .slice AS S.sd.n cS, .slice AU S.ut.n cU] 28 from by have := ro_set kv.out 1 (.slice A1' (n1 + 1) c1'); simpa using this)
              generalize v5.setCell ⟨gv, 1, none⟩ (.slice A1' (n1 + 1) c1') = v6 at *
              try simp only [Act.put, List.setIfInBounds_toArray, List.set_cons_zero, List.set_cons_succ]
              refine wpAnyH_done (by kernel_rfl) ?_ _
              go_wp2_with fail
              go_roundw
              case rel => exact ⟨m + 1, n0 + 1, n1 + 1, c0', c1', A0', A1', by omega, by go_num, kv, by rw [ht.out, List.map_append]; exact o0, by rw [hx.out, List.map_append]; exact o1, hHeld⟩
              case measure => simp [intOf]; omega
            · go_simp
              obtain ⟨f1c, _⟩ := ro_cf (ro_but kf1.out hHeld.out hf1.out) 0 _ rfl
              obtain ⟨f2c, _⟩ := ro_cf (ro_but kf2.out hHeld.out hf2.out) 0 _ rfl
              refine (RN.out y f1 f2 _ f1c f2c hy0.out).mono ?_
              rintro e v2 ⟨rfl, h1'⟩
              clear f1c f2c
              replace kv := hide (kv.out.below h1')
              replace o0 := hide (o0.out.below h1')
              replace o1 := hide (o1.out.below h1')
              refine hK.out _ _ (hide (hHeld.out.next h1')) (fun hHeld => ?_)
              clear hK K
              clear h1'
              try simp only [Act.put, List.setIfInBounds_toArray, List.set_cons_zero, List.set_cons_succ]
              refine wpAnyH_ready (rs := [1, 7]) (by kernel_rfl) (by simp) ?_
              refine AllReadyH.cons rfl (fun K hK => ?_) (AllReadyH.cons rfl (fun K hK => ?_) (AllReadyH.nil))
              · obtain ⟨y1, z1⟩ := ro_cf kv.out 1 _ rfl
                go_simp
                refine hK.out _ _ (hHeld) (fun hHeld => ?_)
                clear hK K
                clear y1 z1
                try simp only [Act.put, List.setIfInBounds_toArray, List.set_cons_zero, List.set_cons_succ]
                refine wpAnyH_ready (rs := [7]) (by kernel_rfl) (by simp) ?_
                refine AllReadyH.cons rfl (fun K hK => ?_) (AllReadyH.nil)
                go_simp
                have ol := hide ((Ow.lit v2 5 [(.int .u8 ((other y.toNat kn : Nat) : Int))] (by simp [maxLen])).rd)
                replace kv := hide (kv.out.alloc (.cells #[(.int .u8 ((other y.toNat kn : Nat) : Int))] 5))
                replace o0 := hide (o0.out.alloc (.cells #[(.int .u8 ((other y.toNat kn : Nat) : Int))] 5))
                replace o1 := hide (o1.out.alloc (.cells #[(.int .u8 ((other y.toNat kn : Nat) : Int))] 5))
                refine hK.out _ _ (hide (hHeld.out.alloc (.cells #[(.int .u8 ((other y.toNat kn : Nat) : Int))] 5))) (fun hHeld => ?_)
                clear hK K
                generalize v2.heap.size = gs at *
                generalize v2.alloc (.cells #[(.int .u8 ((other y.toNat kn : Nat) : Int))] 5) = v4 at *
                try simp only [Act.put, List.setIfInBounds_toArray, List.set_cons_zero, List.set_cons_succ]
                refine wpAnyH_ready (rs := [8]) (by kernel_rfl) (by simp) ?_
                refine AllReadyH.cons rfl (fun K hK => ?_) (AllReadyH.nil)
                refine step_apA elU8 o1.out (Below.refl w1.heap.size v4) (Nat.le_refl _) ol.out (.tmp 47) (.tmp 53) rfl rfl rfl rfl (fun h => by cases h) one1.out apm.out apb.out (fun A1' c1' v5 ho hb' hg => ?_)
                have dj := o0.out.ty.dj o1.out.ty (by decide)
                replace o0 := hide (own_grown o0.out hg dj)
                replace kv := hide (ro_lowN kv.out hgv.out hb')
                clear dj hg
                replace o1 := hide ho
                refine hK.out _ _ (hide (hHeld.out.nextB hb')) (fun hHeld => ?_)
                clear hK K
                clear ho hb' ol
                try simp only [Act.put, List.setIfInBounds_toArray, List.set_cons_zero, List.set_cons_succ]
                refine wpAnyH_takeD (i := 9) (d := (some 55)) (v := ?_) rfl rfl (by kernel_rfl) (by kernel_rfl) (by kernel_rfl) (fun _ _ _ h => h) (Or.inl ⟨by rfl, ?_⟩) (by assumption) ?_
                rotate_left
                · ((intro w hSw; go_simp) <;> with_reducible rfl)
                try simp only [Act.put, List.setIfInBounds_toArray, List.set_cons_zero, List.set_cons_succ]
                refine wpAnyH_ready (rs := [10]) (by kernel_rfl) (by simp) ?_
                refine AllReadyH.cons rfl (fun K hK => ?_) (AllReadyH.nil)
                obtain ⟨y1, z1⟩ := ro_cf kv.out 1 _ rfl
                go_simp
                refine hK.out _ _ (hide (hHeld.out.set _)) (fun hHeld => ?_)
                clear hK K
                clear y1 z1
                replace o0 := hide (o0.out.butT kv.out (by decide) ((But.refl gv v5).set (o := 1) (.slice A1' (n1 + 1) c1')))
                replace o1 := hide (o1.out.butT kv.out (by decide) ((But.refl gv v5).set (o := 1) (.slice A1' (n1 + 1) c1')))
                replace kv := hide (show Ro (v5.setCell ⟨gv, 1, none⟩ (.slice A1' (n1 + 1) c1')) gv #[.slice A0' (n0 + 1) c0', .slice A1' (n1 + 1) c1', .slice AT S.ty.n cT, .slice AC S.ch.n cC, .slice none 0 0, .slice AS S.sd.n cS, .slice AU S.ut.n cU] 28 from by have := ro_set kv.out 1 (.slice A1' (n1 + 1) c1'); simpa using this)
                generalize v5.setCell ⟨gv, 1, none⟩ (.slice A1' (n1 + 1) c1') = v6 at *
                try simp only [Act.put, List.setIfInBounds_toArray, List.set_cons_zero, List.set_cons_succ]
                refine wpAnyH_done (by kernel_rfl) ?_ _
                go_wp2_with fail
                go_roundw
                case rel => exact ⟨m + 1, n0 + 1, n1 + 1, c0', c1', A0', A1', by omega, by go_num, kv, by rw [ht.out, List.map_append]; exact o0, by rw [hx.out, List.map_append]; exact o1, hHeld⟩
                case measure => simp [intOf]; omega
              · go_simp
                have ol := hide ((Ow.lit v2 5 [(.int .u8 ((other y.toNat kn : Nat) : Int))] (by simp [maxLen])).rd)
                replace kv := hide (kv.out.alloc (.cells #[(.int .u8 ((other y.toNat kn : Nat) : Int))] 5))
                replace o0 := hide (o0.out.alloc (.cells #[(.int .u8 ((other y.toNat kn : Nat) : Int))] 5))
                replace o1 := hide (o1.out.alloc (.cells #[(.int .u8 ((other y.toNat kn : Nat) : Int))] 5))
                refine hK.out _ _ (hide (hHeld.out.alloc (.cells #[(.int .u8 ((other y.toNat kn : Nat) : Int))] 5))) (fun hHeld => ?_)
                clear hK K
                generalize v2.heap.size = gs at *
                generalize v2.alloc (.cells #[(.int .u8 ((other y.toNat kn : Nat) : Int))] 5) = v3 at *
                try simp only [Act.put, List.setIfInBounds_toArray, List.set_cons_zero, List.set_cons_succ]
                refine wpAnyH_ready (rs := [1]) (by kernel_rfl) (by simp) ?_
                refine AllReadyH.cons rfl (fun K hK => ?_) (AllReadyH.nil)
                obtain ⟨y1, z1⟩ := ro_cf kv.out 1 _ rfl
                go_simp
                refine hK.out _ _ (hHeld) (fun hHeld => ?_)
                clear hK K
                clear y1 z1
                try simp only [Act.put, List.setIfInBounds_toArray, List.set_cons_zero, List.set_cons_succ]
                refine wpAnyH_ready (rs := [8]) (by kernel_rfl) (by simp) ?_
                refine AllReadyH.cons rfl (fun K hK => ?_) (AllReadyH.nil)
                refine step_apA elU8 o1.out (Below.refl w1.heap.size v3) (Nat.le_refl _) ol.out (.tmp 47) (.tmp 53) rfl rfl rfl rfl (fun h => by cases h) one1.out apm.out apb.out (fun A1' c1' v5 ho hb' hg => ?_)
                have dj := o0.out.ty.dj o1.out.ty (by decide)
                replace o0 := hide (own_grown o0.out hg dj)
                replace kv := hide (ro_lowN kv.out hgv.out hb')
                clear dj hg
                replace o1 := hide ho
                refine hK.out _ _ (hide (hHeld.out.nextB hb')) (fun hHeld => ?_)
                clear hK K
                clear ho hb' ol
                try simp only [Act.put, List.setIfInBounds_toArray, List.set_cons_zero, List.set_cons_succ]
                refine wpAnyH_takeD (i := 9) (d := (some 55)) (v := ?_) rfl rfl (by kernel_rfl) (by kernel_rfl) (by kernel_rfl) (fun _ _ _ h => h) (Or.inl ⟨by rfl, ?_⟩) (by assumption) ?_
                rotate_left
                · ((intro w hSw; go_simp) <;> with_reducible rfl)
                try simp only [Act.put, List.setIfInBounds_toArray, List.set_cons_zero, List.set_cons_succ]
                refine wpAnyH_ready (rs := [10]) (by kernel_rfl) (by simp) ?_
                refine AllReadyH.cons rfl (fun K hK => ?_) (AllReadyH.nil)
                obtain ⟨y1, z1⟩ := ro_cf kv.out 1 _ rfl
                go_simp
                refine hK.out _ _ (hide (hHeld.out.set _)) (fun hHeld => ?_)
                clear hK K
                clear y1 z1
                replace o0 := hide (o0.out.butT kv.out (by decide) ((But.refl gv v5).set (o := 1) (.slice A1' (n1 + 1) c1')))
                replace o1 := hide (o1.out.butT kv.out (by decide) ((But.refl gv v5).set (o := 1) (.slice A1' (n1 + 1) c1')))
                replace kv := hide (show Ro (v5.setCell ⟨gv, 1, none⟩ (.slice A1' (n1 + 1) c1')) gv #[.slice A0' (n0 + 1) c0', .slice A1' (n1 + 1) c1', .slice AT S.ty.n cT, .slice AC S.ch.n cC, .slice none 0 0, .slice AS S.sd.n cS, .slice AU S.ut.n cU] 28 from by have := ro_set kv.out 1 (.slice A1' (n1 + 1) c1'); simpa using this)
                generalize v5.setCell ⟨gv, 1, none⟩ (.slice A1' (n1 + 1) c1') = v6 at *
                try simp only [Act.put, List.setIfInBounds_toArray, List.set_cons_zero, List.set_cons_succ]
                refine wpAnyH_done (by kernel_rfl) ?_ _
                go_wp2_with fail
                go_roundw
                case rel => exact ⟨m + 1, n0 + 1, n1 + 1, c0', c1', A0', A1', by omega, by go_num, kv, by rw [ht.out, List.map_append]; exact o0, by rw [hx.out, List.map_append]; exact o1, hHeld⟩
                case measure => simp [intOf]; omega
        · have hin' : in32 x = false := by simpa using hin
          rw [if_neg hin] at ht hx
          have IVx := hide (IV.out x)
          rw [hin'] at IVx
          replace hin := hide hin
          replace hin' := hide hin'
          rw [e0]
          go_wp2_with fail
          refine (IVx.out _).mono ?_
          rintro e w5 ⟨rfl, rfl⟩
          go_wp2
          go_roundw
          case rel => exact ⟨m + 1, n0, n1, c0, c1, A0, A1, by omega, by go_num, kv, by rw [ht.out]; exact o0, by rw [hx.out]; exact o1, bt⟩
          case measure => simp [intOf]; omega
      · obtain rfl : m = S.ti.n := by omega
        rw [fT.out] at o0
        rw [fX.out] at o1
        clear hm hlt gl TO RN EN fT fX ipos
        replace k := hide (ro_but k.out bt.out hkv.out)
        replace k2 := hide (ro_but k2.out bt.out hk2v.out)
        replace oT := hide (oT.out.butT kv1.out (by decide) bt.out)
        replace oC := hide (oC.out.butT kv1.out (by decide) bt.out)
        replace oS := hide (oS.out.butT kv1.out (by decide) bt.out)
        replace oU := hide (oU.out.butT kv1.out (by decide) bt.out)
        replace o0 := hide (o0.out.mono hb1.out.size)
        replace o1 := hide (o1.out.mono hb1.out.size)
        replace hb1 := hide (But.down hb1.out hgw.out bt.out)
        clear kv1 bt kf1 kf2 hf1 hf2
        generalize wr = w2 at *
        replace hgv := hide kv.out.lt
        obtain ⟨y0, _⟩ := ro_cf k.out 4 _ k4c.out
        go_wp2
        have kv2 := kv
        go_loopw [60] (fun i wr => ∃ (m n4 c4 : Nat) (A4 : Option Addr), m ≤ S.lp.n ∧ i = .int .i64 (m : Nat) ∧ Hid (Ro wr gv #[.slice A0 n0 c0, .slice A1 n1 c1, .slice AT S.ty.n cT, .slice AC S.ch.n cC, .slice A4 n4 c4, .slice AS S.sd.n cS, .slice AU S.ut.n cU] 28) ∧ Hid (Ok 2 wr w2.heap.size 42 A4 n4 c4 (lcs (lN b m))) ∧ Hid (But gv w2 wr)) (fun i _ => S.lp.n - (intOf i).toNat)
        case atStart => exact ⟨0, 0, 0, none, by omega, rfl, kv, hide (Ok.nil (Nat.le_refl _) _ _), hide (But.refl gv w2)⟩
        case round =>
          clear y0 kv
          obtain ⟨m, n4, c4, A4, hm, rfl, kv, o4, bt⟩ := hrel
          by_cases hlt : m < S.lp.n
          · obtain ⟨t, ht0⟩ := gp.out m hlt
            have ht := hide (lN_step ht0)
            have hin := ilp.out t (List.mem_of_getElem? ht0)
            have hbr := But.down hb1.out hgw.out bt.out
            obtain ⟨ad, t2, e0, ht2, f0, f1⟩ := (hR.out _ hbr).lp.lp hlt
            obtain rfl : t2 = t := by rw [ht0] at ht2; cases ht2; rfl
            clear ht2 ht0 hbr
            have d1 : (m : Int) < (S.lp.n : Int) := by omega
            have i1 : IntKind.i64.wrap ((m : Int) + 1) = ((m + 1 : Nat) : Int) := by rw [IntKind.wrap_i64]; omega
            have IVx := hide (IV.out t2.1)
            rw [hin] at IVx
            have kva := hide (kv.out.alloc (.cells #[.int .i64 t2.1, .int .i32 t2.2] 42))
            have o4a := hide (o4.out.alloc (.cells #[.int .i64 t2.1, .int .i32 t2.2] 42))
            have bta := hide (bt.out.alloc (.cells #[.int .i64 t2.1, .int .i32 t2.2] 42))
            have kl := hide (Ro.new wr #[.int .i64 t2.1, .int .i32 t2.2] 42)
            rw [e0]
            clear kv o4 bt
            have G4 : (Try.prog.info? 42).map (·.size) = some (#[Value.int .i64 t2.1, .int .i32 t2.2] : Array Value).size := by kernel_rfl
            obtain ⟨z0, _⟩ := ro_cf kl.out 0 _ rfl
            go_upto_region 14 with (first | (refine wpList_store_row rfl 42 _ _ rfl _ #[.int .i64 t2.1, .int .i32 t2.2] rfl rfl _ _ (heap_alloc_last _ _) G4 rfl rfl ?_; rw [World.setRow_alloc_new]) | fail)
            generalize wr.heap.size = gl at *
            generalize wr.alloc (.cells #[.int .i64 t2.1, .int .i32 t2.2] 42) = wa at *
            by_cases hle : t2.1 ≤ 2147483647
            · rw [if_pos hle] at ht
              rw [decide_eq_true hle] at IVx
              replace hle := hide hle
              have hl4 : n4 ≤ m := by have := o4a.out.len; rw [lcs_len] at this; have := lN_len b m; omega
              go_wp2_with fail
              refine (IVx.out _).mono ?_
              rintro e w5 ⟨rfl, rfl⟩
              clear z0
              obtain ⟨y4, z4⟩ := ro_cf kva.out 4 _ rfl
              have x3 := hide (show ∀ u ∈ [Value.int .i64 t2.1, .int .i32 t2.2], u.oneCell' = true by simp [Value.oneCell'])
              have x1 := hide (show n4 + 1 ≤ maxLen by simp [maxLen]; omega)
              have x2 := hide (show (n4 + 1) * 16 ≤ 140737488355328 by omega)
              go_upto_region 16 with (first | (refine load_row_g (by rfl) 42 _ rfl _ rfl _ _ _ kl.out Try.underlying42 rfl G4 ?_) | (at_builtin; refine ap1K elLP (by decide) o4a.out (Below.refl w2.heap.size wa) (Nat.le_refl _) [.int .i64 t2.1, .int .i32 t2.2] rfl (.tmp 68) (.tmp 70) rfl rfl rfl rfl x3.out x1.out x2.out ?_; intro A4' c4' wx ho hb' hg; have kvb := hide (ro_lowN kva.out hgv.out hb'); have btb := hide (bta.out.nextB hb'); obtain ⟨y5, z5⟩ := ro_cf kvb.out 4 _ rfl))
              have o4c := hide (Ok.butT ho kvb.out (by decide) ((But.refl gv wx).set (o := 4) (.slice A4' (n4 + 1) c4')))
              have btc := hide (btb.out.set (o := 4) (.slice A4' (n4 + 1) c4'))
              have kvc := hide (show Ro (wx.setCell ⟨gv, 4, none⟩ (.slice A4' (n4 + 1) c4')) gv #[.slice A0 n0 c0, .slice A1 n1 c1, .slice AT S.ty.n cT, .slice AC S.ch.n cC, .slice A4' (n4 + 1) c4', .slice AS S.sd.n cS, .slice AU S.ut.n cU] 28 from by have := ro_set kvb.out 4 (.slice A4' (n4 + 1) c4'); simpa using this)
              clear ho hb' hg kvb btb y5 z5 y4 z4 kva o4a bta kl
              generalize wx.setCell ⟨gv, 4, none⟩ (.slice A4' (n4 + 1) c4') = wy at *
              go_wp2_with fail
              go_roundw
              case rel => exact ⟨m + 1, n4 + 1, c4', A4', by omega, by go_num, kvc, by rw [ht.out, lcs_app, lcs_one]; exact o4c, btc⟩
              case measure => simp [intOf]; omega
            · rw [if_neg hle] at ht
              rw [decide_eq_false hle] at IVx
              replace hle := hide hle
              go_wp2_with fail
              refine (IVx.out _).mono ?_
              rintro e w5 ⟨rfl, rfl⟩
              go_wp2
              go_roundw
              case rel => exact ⟨m + 1, n4, c4, A4, by omega, by go_num, kva, by rw [ht.out]; exact o4a, bta⟩
              case measure => simp [intOf]; omega
          · obtain rfl : m = S.lp.n := by omega
            rw [fL.out] at o4
            clear hm hlt gp fL ilp IV
            replace k2 := hide (ro_but k2.out bt.out hk2v.out)
            have b0 := hide (o0.out.butT kv2.out (by decide) bt.out)
            have b1 := hide (o1.out.butT kv2.out (by decide) bt.out)
            have bT := hide (oT.out.butT kv2.out (by decide) bt.out)
            have bC := hide (oC.out.butT kv2.out (by decide) bt.out)
            have bS := hide (oS.out.butT kv2.out (by decide) bt.out)
            have bU := hide (oU.out.butT kv2.out (by decide) bt.out)
            have b4 := hide (o4.out.mono hb1.out.size)
            have hbr := hide (But.down hb1.out hgw.out bt.out)
            clear o0 o1 oT oC oS oU o4 kv2 bt hb1 k
            obtain ⟨Vb, hVb⟩ : ∃ Vb : BkS, Vb = ⟨⟨A0, n0, c0⟩, ⟨A1, n1, c1⟩, ⟨AT, S.ty.n, cT⟩, ⟨AC, S.ch.n, cC⟩, ⟨A4, n4, c4⟩, ⟨AS, S.sd.n, cS⟩, ⟨AU, S.ut.n, cU⟩⟩ := ⟨_, rfl⟩
            have G5 := gr_blk Vb
            rw [show blA Vb = #[.slice A0 n0 c0, .slice A1 n1 c1, .slice AT S.ty.n cT, .slice AC S.ch.n cC, .slice A4 n4 c4, .slice AS S.sd.n cS, .slice AU S.ut.n cU] from by rw [hVb]] at G5
            go_wp2_with (first | (refine load_row_g (by rfl) 28 _ rfl _ rfl _ _ _ kv.out Try.underlying28 rfl G5.1 ?_) | (refine wpList_store_row rfl 28 _ _ rfl (w.heap.size + 1) #[.slice A0 n0 c0, .slice A1 n1 c1, .slice AT S.ty.n cT, .slice AC S.ch.n cC, .slice A4 n4 c4, .slice AS S.sd.n cS, .slice AU S.ut.n cU] rfl rfl _ _ k2.out G5.1 rfl G5.2.2 ?_) | fail)
            have bb := but_row (But.refl (w.heap.size + 1) wr) #[.slice A0 n0 c0, .slice A1 n1 c1, .slice AT S.ty.n cT, .slice AC S.ch.n cC, .slice A4 n4 c4, .slice AS S.sd.n cS, .slice AU S.ut.n cU]
            replace b0 := hide (b0.out.butT k2.out (by decide) bb)
            replace b1 := hide (b1.out.butT k2.out (by decide) bb)
            replace bT := hide (bT.out.butT k2.out (by decide) bb)
            replace bC := hide (bC.out.butT k2.out (by decide) bb)
            replace bS := hide (bS.out.butT k2.out (by decide) bb)
            replace bU := hide (bU.out.butT k2.out (by decide) bb)
            replace b4 := hide (b4.out.butT k2.out (by decide) bb)
            replace hbr := hide (bl_row hbr.out (Nat.le_succ w.heap.size) #[.slice A0 n0 c0, .slice A1 n1 c1, .slice AT S.ty.n cT, .slice AC S.ch.n cC, .slice A4 n4 c4, .slice AS S.sd.n cS, .slice AU S.ut.n cU])
            replace k2 := hide (ro_row k2.out #[.slice A0 n0 c0, .slice A1 n1 c1, .slice AT S.ty.n cT, .slice AC S.ch.n cC, .slice A4 n4 c4, .slice AS S.sd.n cS, .slice AU S.ut.n cU])
            clear bb kv
            generalize wr.setRow (w.heap.size + 1) #[.slice A0 n0 c0, .slice A1 n1 c1, .slice AT S.ty.n cT, .slice AC S.ch.n cC, .slice A4 n4 c4, .slice AS S.sd.n cS, .slice AU S.ut.n cU] = w9 at *
            refine bodyPost_ret (v := bkV Vb) (by simp [results, Try.results17, go_sem, hVb, (ro_cf k2.out 0 _ rfl).1, (ro_cf k2.out 1 _ rfl).1, (ro_cf k2.out 2 _ rfl).1, (ro_cf k2.out 3 _ rfl).1, (ro_cf k2.out 4 _ rfl).1, (ro_cf k2.out 5 _ rfl).1, (ro_cf k2.out 6 _ rfl).1]) rfl ⟨Vb, rfl, ?_, hbr.out⟩
            obtain ⟨v2, v3, v5, v6⟩ := fV.out
            rw [hVb]
            exact ⟨b0.out, b1.out, by rw [v2]; exact bT.out, by rw [v3]; exact bC.out, b4.out, by rw [v5]; exact bS.out, by rw [v6]; exact bU.out, hok.out⟩
end lg_
end Go.Proofs.Ytgbojkbhkjameaa

/-
  THE WALK OF A LAW OF LAYER 22 (zoneinfolaw22): LegacyViewIsIdempotent. No condition.
-/
import Derived.Test.YtgbojkbhkjameaaLaw22
import Derived.Test.YtgbojkbhkjameaaLw22
import Derived.Deep.RegionHeld3
import Derived.Deep.DeepCutAuto
namespace Go.Proofs.Ytgbojkbhkjameaa
open Go.ChangeShapes Go.WideShapes Go.ChangeAt Go.RowKit
set_option linter.unusedVariables false
set_option linter.unusedSimpArgs false
set_option maxRecDepth 100000
namespace l22_
set_option maxHeartbeats 1500000 in
theorem idem (S : BkS) (b : Bk) (w : World) (h : IsBk w S b) : Calls Try.prog 5 #[bkV S] w fun e w' => e = .returned (.bool true) ∧ Below w.heap.size w w' := by
  have EQ0 := hide (fun V W (i : IsBk W V (viewB b)) (j : IsBk W S b) => (show Calls Try.prog 16 #[.agg (blA V), .agg (blA S)] W fun e w' => e = .returned (.bool (beqB (viewB b) b)) ∧ Below W.heap.size W w' from r19_.Equal V S (viewB b) b W i j))
  have AW := hide (fun W => awake W)
  have FW := hide (fun W (i : IsBk W S b) => (show Calls Try.prog 9 #[.agg (blA S)] W fun e w' => e = .returned (.bool (fewB b)) ∧ Below W.heap.size W w' from r19_.Few S b W i))
  have VA := hide (fun W (i : IsBk W S b) => (show Calls Try.prog 13 #[.agg (blA S)] W fun e w' => e = .returned (.bool (fewB b && decide (vB b true 8 = 0))) ∧ Below W.heap.size W w' from valid S b W i))
  have VW := hide (fun (s1 : S.small) (hv : BOk b true 8) W (i : IsBk W S b) => (show Calls Try.prog 17 #[.agg (blA S)] W fun e w' => ∃ V, e = .returned (bkV V) ∧ OwBk w' W.heap.size V (viewB b) ∧ Below W.heap.size W w' from lg_.View S b true W i s1 hv))
  have fs := hide (fun W (i : IsBk W S b) hf => few_small i hf)
  have vo := hide (vB_iff b true 8).1
  have G := gr_blk S
  have k := hide (Ro.new w (blA S) 28)
  have hb := hide (bl_new w (.cells (blA S) 28))
  have i1 := hide (h.below hb.out)
  have s1 := hide (fs.out _ h)
  have hR := hide (fun W (hB : Below w.heap.size w W) => h.below hB)
  have hl := h.lens
  have bok := hide h.ok
  have k_0 := hide (show (blA S)[0]? = some (.slice S.ti.A S.ti.n S.ti.c) from rfl)
  have k_4 := hide (show (blA S)[4]? = some (.slice S.lp.A S.lp.n S.lp.c) from rfl)
  clear h fs FW
  show Calls Try.prog 5 #[.agg (blA S)] w _
  generalize blA S = cs at *
  go_enter Try.func5, Try.ntmps5
  go_upto_region 1 with fail
  generalize w.alloc (.cells cs 28) = u at *
  go_wp2_with fail
  refine (AW.out _).mono ?_
  rintro e y1 ⟨rfl, h1⟩
  replace k := hide (k.out.below h1)
  replace i1 := hide (i1.out.below h1)
  replace hb := hide (bel_next hb.out h1)
  clear h1
  cases hfv : (fewB b && decide (vB b true 8 = 0))
  · rw [hfv] at VA
    go_wp2_with (first | (refine load_row_g (by rfl) 28 _ rfl _ rfl _ _ _ k.out Try.underlying28 rfl G.1 ?_) | fail)
    refine (VA.out _ i1.out).mono ?_
    rintro e y2 ⟨rfl, h1⟩
    replace k := hide (k.out.below h1)
    replace i1 := hide (i1.out.below h1)
    replace hb := hide (bel_next hb.out h1)
    clear h1
    go_wp2_with fail
    refine (AW.out _).mono ?_
    rintro e y3 ⟨rfl, h1⟩
    replace k := hide (k.out.below h1)
    replace i1 := hide (i1.out.below h1)
    replace hb := hide (bel_next hb.out h1)
    clear h1
    go_wp2
    go_ret
    exact ⟨rfl, hb.out⟩
  · rw [hfv] at VA
    rw [Bool.and_eq_true] at hfv
    have few := hide hfv.1
    have s2 := hide (s1.out hfv.1)
    have hV := hide (vo.out (of_decide_eq_true hfv.2))
    clear s1 vo hfv
    go_wp2_with (first | (refine load_row_g (by rfl) 28 _ rfl _ rfl _ _ _ k.out Try.underlying28 rfl G.1 ?_) | fail)
    refine (VA.out _ i1.out).mono ?_
    rintro e y2 ⟨rfl, h1⟩
    replace k := hide (k.out.below h1)
    replace i1 := hide (i1.out.below h1)
    replace hb := hide (bel_next hb.out h1)
    clear h1
    clear VA AW
    replace VW := hide (VW.out s2.out hV.out)
    go_wp2_with (first | (refine load_row_g (by rfl) 28 _ rfl _ rfl _ _ _ k.out Try.underlying28 rfl G.1 ?_) | fail)
    refine (VW.out _ i1.out).mono ?_
    rintro e x1 ⟨V, rfl, o1, h1⟩
    replace k := hide (k.out.below h1)
    replace i1 := hide (i1.out.below h1)
    replace hb := hide (bel_next hb.out h1)
    clear h1
    have iv := hide (o1.is.below (bl_new x1 (.cells (blA V) 28)))
    have sv := hide (view_small iv.out few.out)
    have vwd := hide (view_wide hV.out bok.out)
    have VV := hide (fun W (i : IsBk W V (viewB b)) => (show Calls Try.prog 17 #[.agg (blA V)] W fun e w' => ∃ V2, e = .returned (bkV V2) ∧ OwBk w' W.heap.size V2 (viewB b) ∧ Below W.heap.size W w' from by have := lg_.View V (viewB b) true W i sv.out vwd.out; rw [view_view hV.out bok.out] at this; exact this))
    have E1 := hide (fun V2 W B (o : OwBk W B V2 (viewB b)) (i : IsBk W V (viewB b)) => (show Calls Try.prog 16 #[bkV V2, .agg (blA V)] W fun e w' => e = .returned (.bool true) ∧ Below W.heap.size W w' from by have := r19_.Equal V2 V (viewB b) (viewB b) W o.is i; rw [beqB_self] at this; exact this))
    have E2 := hide (fun (q : viewB b = b) W (i : IsBk W V (viewB b)) (j : IsBk W S b) => (show Calls Try.prog 16 #[.agg (blA V), .agg cs] W fun e w' => e = .returned (.bool true) ∧ Below W.heap.size W w' from by have := EQ0.out V W i j; rw [q, beqB_self] at this; exact this))
    have SL := hide (fun W => lg_.Slim W)
    have VS := hide (fun Vs W B (o : OwBk W B Vs slB) => by have := lg_.View Vs slB true W o.is (small_of o.is (by decide)) slB_v; rw [slB_view] at this; exact this)
    have IS := hide (fun Vs W B (o : OwBk W B Vs slB) => by have := lg_.IsSlim Vs slB W o.is (small_of o.is (by decide)); rw [slS] at this; exact this)
    have kx := hide (Ro.new x1 (blA V) 28)
    have Gx := gr_blk V
    rw [show bkV V = .agg (blA V) from rfl]
    generalize blA V = cx at *
    have h1 := bl_new x1 (.cells cx 28)
    clear o1 VW EQ0
    replace k := hide (k.out.below h1)
    replace i1 := hide (i1.out.below h1)
    replace hb := hide (bel_next hb.out h1)
    clear h1
    go_upto_region 4 with (first | (refine wpList_store_row rfl 28 _ _ rfl _ _ rfl rfl _ _ (heap_alloc_last _ _) Gx.1 (by rw [Gx.2.1]; rfl) Gx.2.2 ?_; rw [World.setRow_alloc_new]) | fail)
    generalize x1.heap.size = gx at *
    generalize x1.alloc (.cells cx 28) = wr at *
    obtain ⟨n0, n1, _, _, n4, _⟩ := hl
    have gl : ∀ i, i < S.ti.n → ∃ x, b.ti[i]? = some x := fun i hi => ⟨_, List.getElem?_eq_getElem (by omega)⟩
    replace gl := hide gl
    have gp : ∀ i, i < S.lp.n → ∃ t, b.lp[i]? = some t := fun i hi => ⟨_, List.getElem?_eq_getElem (by omega)⟩
    replace gp := hide gp
    have aT := hide (show (b.ti.take S.ti.n).all in32 = b.ti.all in32 from by rw [List.take_of_length_le (by omega)])
    have aL := hide (show (b.lp.take S.lp.n).all (fun t => decide (t.1 < 2147483648)) = b.lp.all (fun t => decide (t.1 < 2147483648)) from by rw [List.take_of_length_le (by omega)])
    have hsm := s2.out.ti
    have hsl := s2.out.lp
    have hcut := hide hV.out.cnts.1
    clear n0 n1 n4
    obtain ⟨y0, _⟩ := ro_cf k.out 0 _ k_0.out
    go_wp2_with fail
    go_loopw [4, 5] (fun s4 i wz => ∃ m : Nat, m ≤ S.ti.n ∧ s4 = .bool ((b.ti.take m).all in32) ∧ i = .int .i64 (m : Nat) ∧ wz = wr) (fun _ i _ => S.ti.n - (intOf i).toNat)
    case atStart => exact ⟨0, by omega, rfl, rfl, rfl⟩
    case round =>
      obtain ⟨m, hm, rfl, rfl, rfl⟩ := hrel
      by_cases hlt : m < S.ti.n
      · obtain ⟨x, hx⟩ := gl.out m hlt
        obtain ⟨ad, e0, c0_⟩ := i1.out.ti.int hlt
        rw [hx] at c0_
        simp only [Option.getD_some] at c0_
        rw [e0] at y0
        have d1 : (m : Int) < (S.ti.n : Int) := by omega
        have d3 : IntKind.i64.wrap ((m : Int) + 1) = ((m + 1 : Nat) : Int) := by rw [IntKind.wrap_i64]; omega
        have hst := hide (all_step in32 hx)
        have g2 : decide (x < 2147483648) = decide (x ≤ 2147483647) := by rw [decide_eq_decide]; omega
        clear hx e0
        unfold in32 at hst
        obtain ⟨qn, hqn⟩ : ∃ qn, qn = (b.ti.take (m + 1)).all in32 := ⟨_, rfl⟩
        have hst2 := hst.out
        rw [show (b.ti.take (m + 1)).all (fun t => decide (-2147483648 ≤ t) && decide (t ≤ 2147483647)) = (b.ti.take (m + 1)).all in32 from rfl, show (b.ti.take m).all (fun t => decide (-2147483648 ≤ t) && decide (t ≤ 2147483647)) = (b.ti.take m).all in32 from rfl] at hst2
        clear hst hqn qn
        generalize (b.ti.take m).all in32 = q at *
        replace hst2 := hide hst2
        cases q
        · have hr : (b.ti.take (m + 1)).all in32 = false := by rw [hst2.out]; rfl
          replace hr := hide hr
          go_wp2
          go_roundw
          case rel => exact ⟨m + 1, by omega, by rw [hr.out], by go_num, by trivial⟩
          case measure => simp [intOf]; omega
        · by_cases g1 : -2147483648 ≤ x
          · have g1' : decide (-2147483648 ≤ x) = true := decide_eq_true g1
            obtain ⟨p, hp⟩ : ∃ p, p = decide (x ≤ 2147483647) := ⟨_, rfl⟩
            have hr := hide (show (b.ti.take (m + 1)).all in32 = p by rw [hst2.out, g1', hp]; rfl)
            rw [← hp] at g2
            clear hp
            replace g1 := hide g1
            go_wp2
            go_roundw
            case rel => exact ⟨m + 1, by omega, by rw [hr.out], by go_num, by trivial⟩
            case measure => simp [intOf]; omega
          · have g1' : decide (-2147483648 ≤ x) = false := decide_eq_false g1
            have hr := hide (show (b.ti.take (m + 1)).all in32 = false by rw [hst2.out, g1']; rfl)
            replace g1 := hide g1
            go_wp2
            go_roundw
            case rel => exact ⟨m + 1, by omega, by rw [hr.out], by go_num, by trivial⟩
            case measure => simp [intOf]; omega
      · obtain rfl : m = S.ti.n := by omega
        rw [aT.out]
        clear hm
        obtain ⟨nn, hnn⟩ : ∃ nn, nn = b.ti.all in32 := ⟨_, rfl⟩
        rw [← hnn]
        obtain ⟨y4, _⟩ := ro_cf k.out 4 _ k_4.out
        replace hnn := hide hnn
        go_wp2_with fail
        go_loopw [4, 6] (fun s4 i wz => ∃ m : Nat, m ≤ S.lp.n ∧ s4 = .bool (nn && (b.lp.take m).all (fun t => decide (t.1 < 2147483648))) ∧ i = .int .i64 (m : Nat) ∧ wz = wr) (fun _ i _ => S.lp.n - (intOf i).toNat)
        case atStart => exact ⟨0, by omega, by simp, rfl, rfl⟩
        case round =>
          obtain ⟨m, hm, rfl, rfl, rfl⟩ := hrel
          by_cases hl2 : m < S.lp.n
          · obtain ⟨t, ht⟩ := gp.out m hl2
            obtain ⟨ad, t2, e0, ht2, f0, _⟩ := i1.out.lp.lp hl2
            obtain rfl : t2 = t := by rw [ht] at ht2; cases ht2; rfl
            have d1 : (m : Int) < (S.lp.n : Int) := by omega
            have d3 : IntKind.i64.wrap ((m : Int) + 1) = ((m + 1 : Nat) : Int) := by rw [IntKind.wrap_i64]; omega
            rw [e0] at y4
            have hst := hide (all_step (fun t : LP => decide (t.1 < 2147483648)) ht)
            clear ht ht2 e0
            obtain ⟨p, hp⟩ : ∃ p, p = decide (t2.1 < 2147483648) := ⟨_, rfl⟩
            rw [← hp] at hst
            have hp' := hp.symm
            clear hp
            generalize hq : (nn && (b.lp.take m).all (fun t => decide (t.1 < 2147483648))) = q at *
            have hr := hide (show (nn && (b.lp.take (m + 1)).all (fun t => decide (t.1 < 2147483648))) = (q && p) by rw [hst.out, ← Bool.and_assoc, hq])
            clear hst hq
            generalize t2.1 = lx at *
            cases q
            · go_wp2
              go_roundw
              case rel => exact ⟨m + 1, by omega, by rw [hr.out]; rfl, by go_num, by trivial⟩
              case measure => simp [intOf]; omega
            · go_wp2
              go_roundw
              case rel => exact ⟨m + 1, by omega, by rw [hr.out, Bool.true_and], by go_num, by trivial⟩
              case measure => simp [intOf]; omega
          · obtain rfl : m = S.lp.n := by omega
            rw [aL.out]
            have hnar := hide (fun (q : (nn && b.lp.all (fun t => decide (t.1 < 2147483648))) = true) => (show viewB b = b from by
              rw [Bool.and_eq_true, hnn.out] at q
              exact view_narrow bok.out hcut.out (fun x hx => List.all_eq_true.1 q.1 x hx) (fun t ht => by have := List.all_eq_true.1 q.2 t ht; simp at this; omega)))
            generalize (nn && b.lp.all (fun t => decide (t.1 < 2147483648))) = q at *
            go_upto_region 13 with fail
            clear y0 y4
            replace k := hide k.out.drew
            replace kx := hide kx.out.drew
            replace i1 := hide i1.out.drew
            replace iv := hide iv.out.drew
            replace hb := hide (bl_drew hb.out)
            cases q
            · refine wp_region_held_drew (S := fun w' => Hid (Ro w' (w.heap.size) (cs) 28) ∧ Hid (Ro w' (gx) (cx) 28) ∧ Hid (IsBk w' S b) ∧ Hid (IsBk w' V (viewB b)) ∧ Hid (Below w.heap.size w w')) (by kernel_rfl) (⟨k, kx, i1, iv, hb⟩) (fun hHeld => ?_)
              generalize wr.drew = u0 at *
              refine wpAnyH_takeD (i := 0) (d := (some 58)) rfl rfl (by kernel_rfl) (by kernel_rfl) (by kernel_rfl) (fun _ _ _ h => h) (yieldsIf_load_row (by rfl) 28 _ rfl (gx) rfl 28 cx _ (fun w hw => hw.2.1.out) Try.underlying28 rfl Gx.1) (by assumption) ?_
              try simp only [Act.put, List.setIfInBounds_toArray, List.set_cons_zero, List.set_cons_succ]
              refine wpAnyH_takeD (i := 2) (d := (some 60)) rfl rfl (by kernel_rfl) (by kernel_rfl) (by kernel_rfl) (fun _ _ _ h => h) (yieldsIf_load_row (by rfl) 28 _ rfl (gx) rfl 28 cx _ (fun w hw => hw.2.1.out) Try.underlying28 rfl Gx.1) (by assumption) ?_
              try simp only [Act.put, List.setIfInBounds_toArray, List.set_cons_zero, List.set_cons_succ]
              refine wpAnyH_ready (rs := [1]) (by kernel_rfl) (by simp) ?_
              refine AllReadyH.cons rfl (fun K hK => ?_) (AllReadyH.nil)
              go_simp
              refine (VV.out _ hHeld.2.2.2.1.out).mono ?_
              rintro e v1 ⟨V2, rfl, o2, h1'⟩
              refine hK.out _ _ (⟨hide (hHeld.1.out.below h1'), hide (hHeld.2.1.out.below h1'), hide (hHeld.2.2.1.out.below h1'), hide (hHeld.2.2.2.1.out.below h1'), hide (bel_next hHeld.2.2.2.2.out h1')⟩) (fun hHeld => ?_)
              clear hK K h1'
              try simp only [Act.put, List.setIfInBounds_toArray, List.set_cons_zero, List.set_cons_succ]
              refine wpAnyH_ready (rs := [3]) (by kernel_rfl) (by simp) ?_
              refine AllReadyH.cons rfl (fun K hK => ?_) (AllReadyH.nil)
              go_simp
              refine (E1.out V2 _ _ o2 hHeld.2.2.2.1.out).mono ?_
              rintro e v2 ⟨rfl, h1'⟩
              refine hK.out _ _ (⟨hide (hHeld.1.out.below h1'), hide (hHeld.2.1.out.below h1'), hide (hHeld.2.2.1.out.below h1'), hide (hHeld.2.2.2.1.out.below h1'), hide (bel_next hHeld.2.2.2.2.out h1')⟩) (fun hHeld => ?_)
              clear hK K h1'
              try simp only [Act.put, List.setIfInBounds_toArray, List.set_cons_zero, List.set_cons_succ]
              refine wpAnyH_takeD (i := 4) (d := (some 62)) (v := ?_) rfl rfl (by kernel_rfl) (by kernel_rfl) (by kernel_rfl) (fun _ _ _ h => h) (Or.inl ⟨by rfl, ?_⟩) (by assumption) ?_
              rotate_left
              · ((intro w hSw; go_simp) <;> with_reducible rfl)
              try simp only [Act.put, List.setIfInBounds_toArray, List.set_cons_zero, List.set_cons_succ]
              refine wpAnyH_takeD (i := 5) (d := (some 63)) (v := ?_) rfl rfl (by kernel_rfl) (by kernel_rfl) (by kernel_rfl) (fun _ _ _ h => h) (Or.inl ⟨by rfl, ?_⟩) (by assumption) ?_
              rotate_left
              · ((intro w hSw; go_simp) <;> with_reducible rfl)
              try simp only [Act.put, List.setIfInBounds_toArray, List.set_cons_zero, List.set_cons_succ]
              refine wpAnyH_takeD (i := 6) (d := (some 64)) (v := ?_) rfl rfl (by kernel_rfl) (by kernel_rfl) (by kernel_rfl) (fun _ _ _ h => h) (Or.inl ⟨by rfl, ?_⟩) (by assumption) ?_
              rotate_left
              · ((intro w hSw; go_simp) <;> with_reducible rfl)
              try simp only [Act.put, List.setIfInBounds_toArray, List.set_cons_zero, List.set_cons_succ]
              refine wpAnyH_takeD (i := 7) (d := (some 65)) (v := ?_) rfl rfl (by kernel_rfl) (by kernel_rfl) (by kernel_rfl) (fun _ _ _ h => h) (Or.inl ⟨by rfl, ?_⟩) (by assumption) ?_
              rotate_left
              · ((intro w hSw; go_simp) <;> with_reducible rfl)
              try simp only [Act.put, List.setIfInBounds_toArray, List.set_cons_zero, List.set_cons_succ]
              refine wpAnyH_takeD (i := 8) (d := (some 66)) rfl rfl (by kernel_rfl) (by kernel_rfl) (by kernel_rfl) (fun _ _ _ h => h) (Or.inr ⟨by rfl, rfl⟩) (by assumption) ?_
              try simp only [Act.put, List.setIfInBounds_toArray, List.set_cons_zero, List.set_cons_succ]
              refine wpAnyH_takeD (i := 9) (d := (some 67)) rfl rfl (by kernel_rfl) (by kernel_rfl) (by kernel_rfl) (fun _ _ _ h => h) (Or.inr ⟨by rfl, rfl⟩) (by assumption) ?_
              try simp only [Act.put, List.setIfInBounds_toArray, List.set_cons_zero, List.set_cons_succ]
              refine wpAnyH_takeD (i := 10) (d := (some 68)) rfl rfl (by kernel_rfl) (by kernel_rfl) (by kernel_rfl) (fun _ _ _ h => h) (Or.inr ⟨by rfl, rfl⟩) (by assumption) ?_
              try simp only [Act.put, List.setIfInBounds_toArray, List.set_cons_zero, List.set_cons_succ]
              refine wpAnyH_takeD (i := 11) (d := (some 69)) (v := ?_) rfl rfl (by kernel_rfl) (by kernel_rfl) (by kernel_rfl) (fun _ _ _ h => h) (Or.inl ⟨by rfl, ?_⟩) (by assumption) ?_
              rotate_left
              · ((intro w hSw; go_simp) <;> with_reducible rfl)
              try simp only [Act.put, List.setIfInBounds_toArray, List.set_cons_zero, List.set_cons_succ]
              refine wpAnyH_takeD (i := 12) (d := (some 70)) (v := ?_) rfl rfl (by kernel_rfl) (by kernel_rfl) (by kernel_rfl) (fun _ _ _ h => h) (Or.inl ⟨by rfl, ?_⟩) (by assumption) ?_
              rotate_left
              · ((intro w hSw; go_simp) <;> with_reducible rfl)
              try simp only [Act.put, List.setIfInBounds_toArray, List.set_cons_zero, List.set_cons_succ]
              refine wpAnyH_takeD (i := 13) (d := (some 71)) (v := ?_) rfl rfl (by kernel_rfl) (by kernel_rfl) (by kernel_rfl) (fun _ _ _ h => h) (Or.inl ⟨by rfl, ?_⟩) (by assumption) ?_
              rotate_left
              · ((intro w hSw; go_simp) <;> with_reducible rfl)
              try simp only [Act.put, List.setIfInBounds_toArray, List.set_cons_zero, List.set_cons_succ]
              refine wpAnyH_ready (rs := [14]) (by kernel_rfl) (by simp) ?_
              refine AllReadyH.cons rfl (fun K hK => ?_) (AllReadyH.nil)
              go_simp
              refine (SL.out _).mono ?_
              rintro e v3 ⟨V3, rfl, o3, h1'⟩
              refine hK.out _ _ (⟨hide (hHeld.1.out.below h1'), hide (hHeld.2.1.out.below h1'), hide (hHeld.2.2.1.out.below h1'), hide (hHeld.2.2.2.1.out.below h1'), hide (bel_next hHeld.2.2.2.2.out h1')⟩) (fun hHeld => ?_)
              clear hK K h1'
              try simp only [Act.put, List.setIfInBounds_toArray, List.set_cons_zero, List.set_cons_succ]
              refine wpAnyH_ready (rs := [15]) (by kernel_rfl) (by simp) ?_
              refine AllReadyH.cons rfl (fun K hK => ?_) (AllReadyH.nil)
              go_simp
              refine (VS.out V3 _ _ o3).mono ?_
              rintro e v4 ⟨V4, rfl, o4, h1'⟩
              refine hK.out _ _ (⟨hide (hHeld.1.out.below h1'), hide (hHeld.2.1.out.below h1'), hide (hHeld.2.2.1.out.below h1'), hide (hHeld.2.2.2.1.out.below h1'), hide (bel_next hHeld.2.2.2.2.out h1')⟩) (fun hHeld => ?_)
              clear hK K h1'
              try simp only [Act.put, List.setIfInBounds_toArray, List.set_cons_zero, List.set_cons_succ]
              refine wpAnyH_ready (rs := [16]) (by kernel_rfl) (by simp) ?_
              refine AllReadyH.cons rfl (fun K hK => ?_) (AllReadyH.nil)
              go_simp
              refine (IS.out V4 _ _ o4).mono ?_
              rintro e v5 ⟨rfl, h1'⟩
              refine hK.out _ _ (⟨hide (hHeld.1.out.below h1'), hide (hHeld.2.1.out.below h1'), hide (hHeld.2.2.1.out.below h1'), hide (hHeld.2.2.2.1.out.below h1'), hide (bel_next hHeld.2.2.2.2.out h1')⟩) (fun hHeld => ?_)
              clear hK K h1'
              try simp only [Act.put, List.setIfInBounds_toArray, List.set_cons_zero, List.set_cons_succ]
              refine wpAnyH_takeD (i := 17) (d := (some 75)) (v := ?_) rfl rfl (by kernel_rfl) (by kernel_rfl) (by kernel_rfl) (fun _ _ _ h => h) (Or.inl ⟨by rfl, ?_⟩) (by assumption) ?_
              rotate_left
              · ((intro w hSw; go_simp) <;> with_reducible rfl)
              try simp only [Act.put, List.setIfInBounds_toArray, List.set_cons_zero, List.set_cons_succ]
              refine wpAnyH_takeD (i := 18) (d := (some 2)) (v := ?_) rfl rfl (by kernel_rfl) (by kernel_rfl) (by kernel_rfl) (fun _ _ _ h => h) (Or.inl ⟨by rfl, ?_⟩) (by assumption) ?_
              rotate_left
              · ((intro w hSw; go_simp) <;> with_reducible rfl)
              try simp only [Act.put, List.setIfInBounds_toArray, List.set_cons_zero, List.set_cons_succ]
              refine wpAnyH_done (by kernel_rfl) ?_ _
              go_wp2_with fail
              go_ret
              exact ⟨rfl, hHeld.2.2.2.2.out⟩
            · refine wp_region_held_drew (S := fun w' => Hid (Ro w' (w.heap.size) (cs) 28) ∧ Hid (Ro w' (gx) (cx) 28) ∧ Hid (IsBk w' S b) ∧ Hid (IsBk w' V (viewB b)) ∧ Hid (Below w.heap.size w w')) (by kernel_rfl) (⟨k, kx, i1, iv, hb⟩) (fun hHeld => ?_)
              generalize wr.drew = u0 at *
              refine wpAnyH_takeD (i := 0) (d := (some 58)) rfl rfl (by kernel_rfl) (by kernel_rfl) (by kernel_rfl) (fun _ _ _ h => h) (yieldsIf_load_row (by rfl) 28 _ rfl (gx) rfl 28 cx _ (fun w hw => hw.2.1.out) Try.underlying28 rfl Gx.1) (by assumption) ?_
              try simp only [Act.put, List.setIfInBounds_toArray, List.set_cons_zero, List.set_cons_succ]
              refine wpAnyH_takeD (i := 2) (d := (some 60)) rfl rfl (by kernel_rfl) (by kernel_rfl) (by kernel_rfl) (fun _ _ _ h => h) (yieldsIf_load_row (by rfl) 28 _ rfl (gx) rfl 28 cx _ (fun w hw => hw.2.1.out) Try.underlying28 rfl Gx.1) (by assumption) ?_
              try simp only [Act.put, List.setIfInBounds_toArray, List.set_cons_zero, List.set_cons_succ]
              refine wpAnyH_ready (rs := [1]) (by kernel_rfl) (by simp) ?_
              refine AllReadyH.cons rfl (fun K hK => ?_) (AllReadyH.nil)
              go_simp
              refine (VV.out _ hHeld.2.2.2.1.out).mono ?_
              rintro e v1 ⟨V2, rfl, o2, h1'⟩
              refine hK.out _ _ (⟨hide (hHeld.1.out.below h1'), hide (hHeld.2.1.out.below h1'), hide (hHeld.2.2.1.out.below h1'), hide (hHeld.2.2.2.1.out.below h1'), hide (bel_next hHeld.2.2.2.2.out h1')⟩) (fun hHeld => ?_)
              clear hK K h1'
              try simp only [Act.put, List.setIfInBounds_toArray, List.set_cons_zero, List.set_cons_succ]
              refine wpAnyH_ready (rs := [3]) (by kernel_rfl) (by simp) ?_
              refine AllReadyH.cons rfl (fun K hK => ?_) (AllReadyH.nil)
              go_simp
              refine (E1.out V2 _ _ o2 hHeld.2.2.2.1.out).mono ?_
              rintro e v2 ⟨rfl, h1'⟩
              refine hK.out _ _ (⟨hide (hHeld.1.out.below h1'), hide (hHeld.2.1.out.below h1'), hide (hHeld.2.2.1.out.below h1'), hide (hHeld.2.2.2.1.out.below h1'), hide (bel_next hHeld.2.2.2.2.out h1')⟩) (fun hHeld => ?_)
              clear hK K h1'
              try simp only [Act.put, List.setIfInBounds_toArray, List.set_cons_zero, List.set_cons_succ]
              refine wpAnyH_takeD (i := 4) (d := (some 62)) (v := ?_) rfl rfl (by kernel_rfl) (by kernel_rfl) (by kernel_rfl) (fun _ _ _ h => h) (Or.inl ⟨by rfl, ?_⟩) (by assumption) ?_
              rotate_left
              · ((intro w hSw; go_simp) <;> with_reducible rfl)
              try simp only [Act.put, List.setIfInBounds_toArray, List.set_cons_zero, List.set_cons_succ]
              refine wpAnyH_takeD (i := 5) (d := (some 63)) (v := ?_) rfl rfl (by kernel_rfl) (by kernel_rfl) (by kernel_rfl) (fun _ _ _ h => h) (Or.inl ⟨by rfl, ?_⟩) (by assumption) ?_
              rotate_left
              · ((intro w hSw; go_simp) <;> with_reducible rfl)
              try simp only [Act.put, List.setIfInBounds_toArray, List.set_cons_zero, List.set_cons_succ]
              refine wpAnyH_takeD (i := 6) (d := (some 64)) (v := ?_) rfl rfl (by kernel_rfl) (by kernel_rfl) (by kernel_rfl) (fun _ _ _ h => h) (Or.inl ⟨by rfl, ?_⟩) (by assumption) ?_
              rotate_left
              · ((intro w hSw; go_simp) <;> with_reducible rfl)
              try simp only [Act.put, List.setIfInBounds_toArray, List.set_cons_zero, List.set_cons_succ]
              refine wpAnyH_takeD (i := 7) (d := (some 65)) (v := ?_) rfl rfl (by kernel_rfl) (by kernel_rfl) (by kernel_rfl) (fun _ _ _ h => h) (Or.inl ⟨by rfl, ?_⟩) (by assumption) ?_
              rotate_left
              · ((intro w hSw; go_simp) <;> with_reducible rfl)
              try simp only [Act.put, List.setIfInBounds_toArray, List.set_cons_zero, List.set_cons_succ]
              refine wpAnyH_takeD (i := 8) (d := (some 66)) rfl rfl (by kernel_rfl) (by kernel_rfl) (by kernel_rfl) (fun _ _ _ h => h) (yieldsIf_load_row (by rfl) 28 _ rfl (gx) rfl 28 cx _ (fun w hw => hw.2.1.out) Try.underlying28 rfl Gx.1) (by assumption) ?_
              try simp only [Act.put, List.setIfInBounds_toArray, List.set_cons_zero, List.set_cons_succ]
              refine wpAnyH_takeD (i := 9) (d := (some 67)) rfl rfl (by kernel_rfl) (by kernel_rfl) (by kernel_rfl) (fun _ _ _ h => h) (yieldsIf_load_row (by rfl) 28 _ rfl (w.heap.size) rfl 28 cs _ (fun w hw => hw.1.out) Try.underlying28 rfl G.1) (by assumption) ?_
              try simp only [Act.put, List.setIfInBounds_toArray, List.set_cons_zero, List.set_cons_succ]
              refine wpAnyH_ready (rs := [10]) (by kernel_rfl) (by simp) ?_
              refine AllReadyH.cons rfl (fun K hK => ?_) (AllReadyH.nil)
              go_simp
              refine (E2.out (hnar.out rfl) _ hHeld.2.2.2.1.out hHeld.2.2.1.out).mono ?_
              rintro e v3 ⟨rfl, h1'⟩
              refine hK.out _ _ (⟨hide (hHeld.1.out.below h1'), hide (hHeld.2.1.out.below h1'), hide (hHeld.2.2.1.out.below h1'), hide (hHeld.2.2.2.1.out.below h1'), hide (bel_next hHeld.2.2.2.2.out h1')⟩) (fun hHeld => ?_)
              clear hK K h1'
              try simp only [Act.put, List.setIfInBounds_toArray, List.set_cons_zero, List.set_cons_succ]
              refine wpAnyH_takeD (i := 11) (d := (some 69)) (v := ?_) rfl rfl (by kernel_rfl) (by kernel_rfl) (by kernel_rfl) (fun _ _ _ h => h) (Or.inl ⟨by rfl, ?_⟩) (by assumption) ?_
              rotate_left
              · ((intro w hSw; go_simp) <;> with_reducible rfl)
              try simp only [Act.put, List.setIfInBounds_toArray, List.set_cons_zero, List.set_cons_succ]
              refine wpAnyH_takeD (i := 12) (d := (some 70)) (v := ?_) rfl rfl (by kernel_rfl) (by kernel_rfl) (by kernel_rfl) (fun _ _ _ h => h) (Or.inl ⟨by rfl, ?_⟩) (by assumption) ?_
              rotate_left
              · ((intro w hSw; go_simp) <;> with_reducible rfl)
              try simp only [Act.put, List.setIfInBounds_toArray, List.set_cons_zero, List.set_cons_succ]
              refine wpAnyH_takeD (i := 13) (d := (some 71)) (v := ?_) rfl rfl (by kernel_rfl) (by kernel_rfl) (by kernel_rfl) (fun _ _ _ h => h) (Or.inl ⟨by rfl, ?_⟩) (by assumption) ?_
              rotate_left
              · ((intro w hSw; go_simp) <;> with_reducible rfl)
              try simp only [Act.put, List.setIfInBounds_toArray, List.set_cons_zero, List.set_cons_succ]
              refine wpAnyH_ready (rs := [14]) (by kernel_rfl) (by simp) ?_
              refine AllReadyH.cons rfl (fun K hK => ?_) (AllReadyH.nil)
              go_simp
              refine (SL.out _).mono ?_
              rintro e v4 ⟨V3, rfl, o3, h1'⟩
              refine hK.out _ _ (⟨hide (hHeld.1.out.below h1'), hide (hHeld.2.1.out.below h1'), hide (hHeld.2.2.1.out.below h1'), hide (hHeld.2.2.2.1.out.below h1'), hide (bel_next hHeld.2.2.2.2.out h1')⟩) (fun hHeld => ?_)
              clear hK K h1'
              try simp only [Act.put, List.setIfInBounds_toArray, List.set_cons_zero, List.set_cons_succ]
              refine wpAnyH_ready (rs := [15]) (by kernel_rfl) (by simp) ?_
              refine AllReadyH.cons rfl (fun K hK => ?_) (AllReadyH.nil)
              go_simp
              refine (VS.out V3 _ _ o3).mono ?_
              rintro e v5 ⟨V4, rfl, o4, h1'⟩
              refine hK.out _ _ (⟨hide (hHeld.1.out.below h1'), hide (hHeld.2.1.out.below h1'), hide (hHeld.2.2.1.out.below h1'), hide (hHeld.2.2.2.1.out.below h1'), hide (bel_next hHeld.2.2.2.2.out h1')⟩) (fun hHeld => ?_)
              clear hK K h1'
              try simp only [Act.put, List.setIfInBounds_toArray, List.set_cons_zero, List.set_cons_succ]
              refine wpAnyH_ready (rs := [16]) (by kernel_rfl) (by simp) ?_
              refine AllReadyH.cons rfl (fun K hK => ?_) (AllReadyH.nil)
              go_simp
              refine (IS.out V4 _ _ o4).mono ?_
              rintro e v6 ⟨rfl, h1'⟩
              refine hK.out _ _ (⟨hide (hHeld.1.out.below h1'), hide (hHeld.2.1.out.below h1'), hide (hHeld.2.2.1.out.below h1'), hide (hHeld.2.2.2.1.out.below h1'), hide (bel_next hHeld.2.2.2.2.out h1')⟩) (fun hHeld => ?_)
              clear hK K h1'
              try simp only [Act.put, List.setIfInBounds_toArray, List.set_cons_zero, List.set_cons_succ]
              refine wpAnyH_takeD (i := 17) (d := (some 75)) (v := ?_) rfl rfl (by kernel_rfl) (by kernel_rfl) (by kernel_rfl) (fun _ _ _ h => h) (Or.inl ⟨by rfl, ?_⟩) (by assumption) ?_
              rotate_left
              · ((intro w hSw; go_simp) <;> with_reducible rfl)
              try simp only [Act.put, List.setIfInBounds_toArray, List.set_cons_zero, List.set_cons_succ]
              refine wpAnyH_takeD (i := 18) (d := (some 2)) (v := ?_) rfl rfl (by kernel_rfl) (by kernel_rfl) (by kernel_rfl) (fun _ _ _ h => h) (Or.inl ⟨by rfl, ?_⟩) (by assumption) ?_
              rotate_left
              · ((intro w hSw; go_simp) <;> with_reducible rfl)
              try simp only [Act.put, List.setIfInBounds_toArray, List.set_cons_zero, List.set_cons_succ]
              refine wpAnyH_done (by kernel_rfl) ?_ _
              go_wp2_with fail
              go_ret
              exact ⟨rfl, hHeld.2.2.2.2.out⟩
end l22_
end Go.Proofs.Ytgbojkbhkjameaa

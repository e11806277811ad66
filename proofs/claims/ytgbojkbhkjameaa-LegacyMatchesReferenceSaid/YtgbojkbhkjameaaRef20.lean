/-
  CONTRACTS OF PACKAGE zoneinforef20 (the reference of layer 20): Block. Conditions: a small block, versions 1 to 4, time sizes 4 and 8.
-/
import Derived.Test.YtgbojkbhkjameaaVdM
import Derived.Test.YtgbojkbhkjameaaBlW
import Derived.Test.YtgbojkbhkjameaaRef12
import Derived.Test.YtgbojkbhkjameaaRef15
import Derived.Test.YtgbojkbhkjameaaRef16
import Derived.Test.YtgbojkbhkjameaaRef17
import Derived.Test.YtgbojkbhkjameaaRef18
import Derived.Test.YtgbojkbhkjameaaRow4
import Derived.Deep.DeepCutAuto
namespace Go.Proofs.Ytgbojkbhkjameaa
open Go.ChangeShapes Go.WideShapes Go.ChangeAt Go.RowKit
set_option linter.unusedVariables false
set_option linter.unusedSimpArgs false
set_option maxRecDepth 100000
/-- a small block's lengths. -/
structure BkS.small (S : BkS) : Prop where
  ti : S.ti.n ≤ 100000
  ix : S.ix.n ≤ 100000
  ty : S.ty.n ≤ 100000
  ch : S.ch.n ≤ 100000
  lp : S.lp.n ≤ 100000
  sd : S.sd.n ≤ 100000
  ut : S.ut.n ≤ 100000
namespace r20_
set_option maxHeartbeats 8000000 in
theorem Block (S : BkS) (b : Bk) (v : Int) (four : Bool) (k : Nat) (K : Int) (w : World) (hK : K = (k : Int)) (hk : k = 4 ∨ k = 8) (hv0 : 1 ≤ v) (hv1 : v ≤ 4) (hf : decide (v = 4) = four) (h : IsBk w S b) (hs : S.small) :
    Calls Try.prog 19 #[bkV S, .int .i64 v, .int .i64 K] w fun e w' => e = .returned (.int .i64 (vB b four k)) ∧ Below w.heap.size w w' := by
  have hl := h.lens
  have R := hide (fun W (hb : Below w.heap.size w W) => h.below hb)
  have hok := hide h.ok
  clear h
  obtain ⟨⟨A0, n0, c0⟩, ⟨A1, n1, c1⟩, ⟨A2, n2, c2⟩, ⟨A3, n3, c3⟩, ⟨A4, n4, c4⟩, ⟨A5, n5, c5⟩, ⟨A6, n6, c6⟩⟩ := S
  dsimp only at hl R ⊢
  obtain ⟨l0, l1, l2, l3, l4, l5, l6⟩ := hl
  obtain ⟨s0, s1, s2, s3, s4, s5, s6⟩ := hs
  dsimp only at s0 s1 s2 s3 s4 s5 s6
  show Calls Try.prog 19 #[.agg #[.slice A0 n0 c0, .slice A1 n1 c1, .slice A2 n2 c2, .slice A3 n3 c3, .slice A4 n4 c4, .slice A5 n5 c5, .slice A6 n6 c6], .int .i64 v, .int .i64 K] w _
  have hb := hide (bl_new w (.cells #[.slice A0 n0 c0, .slice A1 n1 c1, .slice A2 n2 c2, .slice A3 n3 c3, .slice A4 n4 c4, .slice A5 n5 c5, .slice A6 n6 c6] 28))
  have k3 := hide (Ro.new w #[.slice A0 n0 c0, .slice A1 n1 c1, .slice A2 n2 c2, .slice A3 n3 c3, .slice A4 n4 c4, .slice A5 n5 c5, .slice A6 n6 c6] 28)
  obtain ⟨r, hr⟩ : ∃ r, r = vB b four k := ⟨_, rfl⟩
  rw [← hr]
  unfold vB at hr
  obtain ⟨cb, hcb⟩ : ∃ cb, cb = cntOk b := ⟨_, rfl⟩
  rw [← hcb] at hr
  unfold cntOk at hcb
  rw [l0, l1, l2, l3, l5, l6] at hcb
  replace hr := hide hr
  replace hcb := hide hcb
  subst hK
  have F := hide (fun W hb => r15_.Fit A0 n0 c0 b.ti k W hk (by omega) (R.out W hb).ti hok.out.ti)
  have D := hide (fun W hb => r15_.Descent A0 n0 c0 b.ti W (by omega) (R.out W hb).ti)
  have CK := hide (fun W hb => r16_.Check A2 n2 c2 b.ty n3 W (by omega) (R.out W hb).ty hok.out.ty)
  have DV := hide (fun W hb => r12_.Valid A3 n3 c3 b.ch W (R.out W hb).ch (fun x hx => hok.out.ch.mem x hx) (by omega))
  have LV := hide (fun W hb => r17_.Valid A4 n4 c4 b.lp v four W hv0 hv1 hf (by omega) (R.out W hb).lp hok.out.lp)
  have CN := hide (fun W hb => r18_.Consistent A5 A6 n5 n6 c5 c6 b.sd b.ut W (by omega) (by omega) (R.out W hb).sd (R.out W hb).ut)
  have FI := hide (fun (i : Nat) (t : LP) (ht : b.lp[i]? = some t) W => r1_.Fits t.1 k W (by omega) (hok.out.lp t (List.mem_of_getElem? ht)).1 (hok.out.lp t (List.mem_of_getElem? ht)).2.1)
  have o4 := hide (fun W hb => (R.out W hb).lp)
  have o1 := hide (fun W hb => (R.out W hb).ix)
  replace l4 := hide l4
  replace l1 := hide l1
  replace l2 := hide l2
  replace l3 := hide l3
  clear l0 l5 l6 hk hv0 hv1 hf R
  go_enter Try.func19, Try.ntmps19
  go_upto_region 1 with fail
  generalize w.alloc (.cells #[.slice A0 n0 c0, .slice A1 n1 c1, .slice A2 n2 c2, .slice A3 n3 c3, .slice A4 n4 c4, .slice A5 n5 c5, .slice A6 n6 c6] 28) = u at *
  obtain ⟨x0, _⟩ := ro_cf k3.out 0 _ rfl
  obtain ⟨x1, _⟩ := ro_cf k3.out 1 _ rfl
  obtain ⟨x2, _⟩ := ro_cf k3.out 2 _ rfl
  obtain ⟨x3, _⟩ := ro_cf k3.out 3 _ rfl
  obtain ⟨x4, _⟩ := ro_cf k3.out 4 _ rfl
  obtain ⟨x5, _⟩ := ro_cf k3.out 5 _ rfl
  obtain ⟨x6, _⟩ := ro_cf k3.out 6 _ rfl
  go_upto_region 2 with fail
  go_cut [56] (fun s56 wz => s56 = .bool (!cb) ∧ wz = u)
  case first =>
    by_cases e1 : n1 = n0
    · skip
      have fe1 : decide ((n1 : Int) = (n0 : Int)) = true := decide_eq_true (by omega)
      have ge1 : decide (n1 = n0) = true := decide_eq_true e1
      have he1 : ((n1 : Int) == (n0 : Int)) = true := by simp; omega
      have ke1 : ((n1 : Int) != (n0 : Int)) = false := by simp; omega
      replace e1 := hide e1
      by_cases e2 : n2 = 0
      · skip
        have fe2 : decide ((n2 : Int) = 0) = true := decide_eq_true (by omega)
        have ge2 : decide (n2 = 0) = true := decide_eq_true e2
        have he2 : ((n2 : Int) == 0) = true := by simp; omega
        have ke2 : ((n2 : Int) != 0) = false := by simp; omega
        replace e2 := hide e2
        go_wp2_with fail
        go_meet
        exact ⟨by rw [hcb.out]; simp [e1.out, e2.out], rfl⟩
      · skip
        have fe2 : decide ((n2 : Int) = 0) = false := decide_eq_false (by omega)
        have ge2 : decide (n2 = 0) = false := decide_eq_false e2
        have he2 : ((n2 : Int) == 0) = false := by simp; omega
        have ke2 : ((n2 : Int) != 0) = true := by simp; omega
        replace e2 := hide e2
        by_cases e3 : n3 = 0
        · skip
          have fe3 : decide ((n3 : Int) = 0) = true := decide_eq_true (by omega)
          have ge3 : decide (n3 = 0) = true := decide_eq_true e3
          have he3 : ((n3 : Int) == 0) = true := by simp; omega
          have ke3 : ((n3 : Int) != 0) = false := by simp; omega
          replace e3 := hide e3
          go_wp2_with fail
          go_meet
          exact ⟨by rw [hcb.out]; simp [e1.out, e2.out, e3.out], rfl⟩
        · skip
          have fe3 : decide ((n3 : Int) = 0) = false := decide_eq_false (by omega)
          have ge3 : decide (n3 = 0) = false := decide_eq_false e3
          have he3 : ((n3 : Int) == 0) = false := by simp; omega
          have ke3 : ((n3 : Int) != 0) = true := by simp; omega
          replace e3 := hide e3
          by_cases e4 : n5 = 0
          · skip
            have fe4 : decide ((n5 : Int) = 0) = true := decide_eq_true (by omega)
            have ge4 : decide (n5 = 0) = true := decide_eq_true e4
            have he4 : ((n5 : Int) == 0) = true := by simp; omega
            have ke4 : ((n5 : Int) != 0) = false := by simp; omega
            replace e4 := hide e4
            by_cases e6 : n6 = 0
            · skip
              have fe6 : decide ((n6 : Int) = 0) = true := decide_eq_true (by omega)
              have ge6 : decide (n6 = 0) = true := decide_eq_true e6
              have he6 : ((n6 : Int) == 0) = true := by simp; omega
              have ke6 : ((n6 : Int) != 0) = false := by simp; omega
              replace e6 := hide e6
              go_wp2_with fail
              go_meet
              exact ⟨by rw [hcb.out]; simp [e1.out, e2.out, e3.out, e4.out, e6.out], rfl⟩
            · skip
              have fe6 : decide ((n6 : Int) = 0) = false := decide_eq_false (by omega)
              have ge6 : decide (n6 = 0) = false := decide_eq_false e6
              have he6 : ((n6 : Int) == 0) = false := by simp; omega
              have ke6 : ((n6 : Int) != 0) = true := by simp; omega
              replace e6 := hide e6
              by_cases e7 : n6 = n2
              · skip
                have fe7 : decide ((n6 : Int) = (n2 : Int)) = true := decide_eq_true (by omega)
                have ge7 : decide (n6 = n2) = true := decide_eq_true e7
                have he7 : ((n6 : Int) == (n2 : Int)) = true := by simp; omega
                have ke7 : ((n6 : Int) != (n2 : Int)) = false := by simp; omega
                replace e7 := hide e7
                go_wp2_with fail
                go_meet
                exact ⟨by rw [hcb.out]; simp [e1.out, e2.out, e3.out, e4.out, e6.out, e7.out], rfl⟩
              · skip
                have fe7 : decide ((n6 : Int) = (n2 : Int)) = false := decide_eq_false (by omega)
                have ge7 : decide (n6 = n2) = false := decide_eq_false e7
                have he7 : ((n6 : Int) == (n2 : Int)) = false := by simp; omega
                have ke7 : ((n6 : Int) != (n2 : Int)) = true := by simp; omega
                replace e7 := hide e7
                go_wp2_with fail
                go_meet
                exact ⟨by rw [hcb.out]; simp [e1.out, e2.out, e3.out, e4.out, e6.out, e7.out], rfl⟩
          · skip
            have fe4 : decide ((n5 : Int) = 0) = false := decide_eq_false (by omega)
            have ge4 : decide (n5 = 0) = false := decide_eq_false e4
            have he4 : ((n5 : Int) == 0) = false := by simp; omega
            have ke4 : ((n5 : Int) != 0) = true := by simp; omega
            replace e4 := hide e4
            by_cases e5 : n5 = n2
            · skip
              have fe5 : decide ((n5 : Int) = (n2 : Int)) = true := decide_eq_true (by omega)
              have ge5 : decide (n5 = n2) = true := decide_eq_true e5
              have he5 : ((n5 : Int) == (n2 : Int)) = true := by simp; omega
              have ke5 : ((n5 : Int) != (n2 : Int)) = false := by simp; omega
              replace e5 := hide e5
              by_cases e6 : n6 = 0
              · skip
                have fe6 : decide ((n6 : Int) = 0) = true := decide_eq_true (by omega)
                have ge6 : decide (n6 = 0) = true := decide_eq_true e6
                have he6 : ((n6 : Int) == 0) = true := by simp; omega
                have ke6 : ((n6 : Int) != 0) = false := by simp; omega
                replace e6 := hide e6
                go_wp2_with fail
                go_meet
                exact ⟨by rw [hcb.out]; simp [e1.out, e2.out, e3.out, e4.out, e5.out, e6.out], rfl⟩
              · skip
                have fe6 : decide ((n6 : Int) = 0) = false := decide_eq_false (by omega)
                have ge6 : decide (n6 = 0) = false := decide_eq_false e6
                have he6 : ((n6 : Int) == 0) = false := by simp; omega
                have ke6 : ((n6 : Int) != 0) = true := by simp; omega
                replace e6 := hide e6
                by_cases e7 : n6 = n2
                · skip
                  have fe7 : decide ((n6 : Int) = (n2 : Int)) = true := decide_eq_true (by omega)
                  have ge7 : decide (n6 = n2) = true := decide_eq_true e7
                  have he7 : ((n6 : Int) == (n2 : Int)) = true := by simp; omega
                  have ke7 : ((n6 : Int) != (n2 : Int)) = false := by simp; omega
                  replace e7 := hide e7
                  go_wp2_with fail
                  go_meet
                  exact ⟨by rw [hcb.out]; simp [e1.out, e2.out, e3.out, e4.out, e5.out, e6.out, e7.out], rfl⟩
                · skip
                  have fe7 : decide ((n6 : Int) = (n2 : Int)) = false := decide_eq_false (by omega)
                  have ge7 : decide (n6 = n2) = false := decide_eq_false e7
                  have he7 : ((n6 : Int) == (n2 : Int)) = false := by simp; omega
                  have ke7 : ((n6 : Int) != (n2 : Int)) = true := by simp; omega
                  replace e7 := hide e7
                  go_wp2_with fail
                  go_meet
                  exact ⟨by rw [hcb.out]; simp [e1.out, e2.out, e3.out, e4.out, e5.out, e6.out, e7.out], rfl⟩
            · skip
              have fe5 : decide ((n5 : Int) = (n2 : Int)) = false := decide_eq_false (by omega)
              have ge5 : decide (n5 = n2) = false := decide_eq_false e5
              have he5 : ((n5 : Int) == (n2 : Int)) = false := by simp; omega
              have ke5 : ((n5 : Int) != (n2 : Int)) = true := by simp; omega
              replace e5 := hide e5
              go_wp2_with fail
              go_meet
              exact ⟨by rw [hcb.out]; simp [e1.out, e2.out, e3.out, e4.out, e5.out], rfl⟩
    · skip
      have fe1 : decide ((n1 : Int) = (n0 : Int)) = false := decide_eq_false (by omega)
      have ge1 : decide (n1 = n0) = false := decide_eq_false e1
      have he1 : ((n1 : Int) == (n0 : Int)) = false := by simp; omega
      have ke1 : ((n1 : Int) != (n0 : Int)) = true := by simp; omega
      replace e1 := hide e1
      go_wp2_with fail
      go_meet
      exact ⟨by rw [hcb.out]; simp [e1.out], rfl⟩
  case rest =>
    obtain ⟨rfl, rfl⟩ := hcut
    clear x0 x1 x2 x3 x4 x5 x6
    rcases cb with _ | _
    · obtain rfl : r = 6 := by rw [hr.out]; simp []
      go_wp2
      go_ret
      exact ⟨rfl, hb.out⟩
    · skip
      obtain ⟨x0, _⟩ := ro_cf k3.out 0 _ rfl
      go_wp2_with fail
      refine (F.out _ hb.out).mono ?_
      rintro e w1 ⟨rfl, h1⟩
      clear x0
      replace k3 := hide (k3.out.below h1)
      replace hb := hide (bel_next hb.out h1)
      clear h1
      rcases q1 : fT k b.ti with _ | _
      · obtain rfl : r = 18 := by rw [hr.out]; simp [q1]
        go_wp2
        go_ret
        exact ⟨rfl, hb.out⟩
      · skip
        replace q1 := hide q1
        go_wp2
        go_loopw [8] (fun iv wr => ∃ i : Nat, i ≤ n4 ∧ iv = .int .i64 (i : Nat) ∧ Hid (lfit k (b.lp.take i) = true) ∧ Hid (Ro wr w.heap.size #[.slice A0 n0 c0, .slice A1 n1 c1, .slice A2 n2 c2, .slice A3 n3 c3, .slice A4 n4 c4, .slice A5 n5 c5, .slice A6 n6 c6] 28) ∧ Hid (Below w.heap.size w wr)) (fun iv _ => n4 - (intOf iv).toNat)
        case atStart => exact ⟨0, by omega, rfl, hide rfl, k3, hb⟩
        case round =>
          clear k3 hb
          obtain ⟨i, hi, rfl, hf4, k3, hb⟩ := hrel
          by_cases hlt : i < n4
          · obtain ⟨ad, t, e1, ht, f0, _⟩ := (o4.out _ hb.out).lp hlt
            subst e1
            have HF := hide (FI.out i t ht wr)
            have hst := lf_step k b.lp i t ht
            rw [hf4.out, Bool.true_and] at hst
            have hno := hide (fun (hz : fitsB k t.1 = false) => lf_no ht hz)
            generalize fitsB k t.1 = z at *
            replace hst := hide hst
            clear ht
            obtain ⟨x4, _⟩ := ro_cf k3.out 4 _ rfl
            go_wp2_with fail
            refine HF.out.mono ?_
            rintro e w' ⟨rfl, rfl⟩
            cases z
            · obtain rfl : r = 18 := by rw [hr.out]; simp [q1.out, hno.out rfl]
              go_wp2
              go_ret
              exact ⟨rfl, hb.out⟩
            · clear hno x4
              go_wp2
              go_roundw
              case rel => exact ⟨i + 1, by omega, by go_num, by rw [hst.out]; exact hide rfl, k3, hb⟩
              case measure => simp [intOf]; omega
          · obtain rfl : n4 = i := by omega
            rw [List.take_of_length_le (by rw [l4.out]; exact Nat.le_refl _)] at hf4
            obtain ⟨x4, _⟩ := ro_cf k3.out 4 _ rfl
            obtain ⟨x0, _⟩ := ro_cf k3.out 0 _ rfl
            go_wp2_with fail
            refine (D.out _ hb.out).mono ?_
            rintro e w1 ⟨rfl, h1⟩
            clear x4 x0
            replace k3 := hide (k3.out.below h1)
            replace hb := hide (bel_next hb.out h1)
            clear h1 hlt hi
            by_cases q3 : desc b.ti = -1
            rotate_left
            · have d3 : (desc b.ti != -1) = true := by simpa using q3
              have d3' : decide (desc b.ti = -1) = false := decide_eq_false q3
              obtain rfl : r = 7 := by rw [hr.out]; simp [q1.out, hf4.out, q3]
              replace q3 := hide q3
              go_wp2
              go_ret
              exact ⟨rfl, hb.out⟩
            · rw [q3]
              replace q3 := hide q3
              go_wp2
              go_loopw [9] (fun iv wr => ∃ j : Nat, j ≤ n1 ∧ iv = .int .i64 (j : Nat) ∧ Hid (ixOk b.ty.length (b.ix.take j) = true) ∧ Hid (Ro wr w.heap.size #[.slice A0 n0 c0, .slice A1 n1 c1, .slice A2 n2 c2, .slice A3 n3 c3, .slice A4 n4 c4, .slice A5 n5 c5, .slice A6 n6 c6] 28) ∧ Hid (Below w.heap.size w wr)) (fun iv _ => n1 - (intOf iv).toNat)
              case atStart => exact ⟨0, by omega, rfl, hide rfl, k3, hb⟩
              case round =>
                clear k3 hb
                obtain ⟨j, hj, rfl, h5, k3, hb⟩ := hrel
                by_cases hlt : j < n1
                · obtain ⟨ad, e1, hc⟩ := (o1.out _ hb.out).int hlt
                  subst e1
                  have hx : b.ix[j]? = some (b.ix[j]?.getD 0) := by rw [List.getElem?_eq_getElem (by rw [l1.out]; exact hlt)]; rfl
                  have hst := ix_step b.ty.length b.ix j _ hx
                  rw [h5.out, Bool.true_and] at hst
                  have hno := hide (fun (hz : (b.ty.length : Int) ≤ b.ix[j]?.getD 0) => ix_no hx hz)
                  have hby := hok.out.ix j
                  generalize b.ix[j]?.getD 0 = x at *
                  clear hx
                  have wx_ : IntKind.i64.wrap x = x := by rw [IntKind.wrap_i64]; omega
                  have hst2 := hide hst
                  clear hst
                  obtain ⟨y0, y1⟩ := hby
                  by_cases hz : x < (n2 : Int)
                  · have d1 : decide ((n2 : Int) ≤ x) = false := decide_eq_false (by omega)
                    have hs2 := hide (hst2.out.trans (decide_eq_true (by rw [l2.out]; exact hz)))
                    obtain ⟨x1, _⟩ := ro_cf k3.out 1 _ rfl
                    clear hno hst2
                    go_wp2
                    go_roundw
                    case rel => exact ⟨j + 1, by omega, by go_num, by exact hs2, k3, hb⟩
                    case measure => simp [intOf]; omega
                  · have d1 : decide ((n2 : Int) ≤ x) = true := decide_eq_true (by omega)
                    obtain rfl : r = 8 := by rw [hr.out]; simp [q1.out, hf4.out, q3.out, hno.out (by rw [l2.out]; omega)]
                    obtain ⟨x1, _⟩ := ro_cf k3.out 1 _ rfl
                    clear hno hst2
                    replace hz := hide hz
                    go_wp2
                    go_ret
                    exact ⟨rfl, hb.out⟩
                · obtain rfl : n1 = j := by omega
                  rw [List.take_of_length_le (by rw [l1.out]; exact Nat.le_refl _)] at h5
                  obtain ⟨x1, _⟩ := ro_cf k3.out 1 _ rfl
                  obtain ⟨x2, _⟩ := ro_cf k3.out 2 _ rfl
                  obtain ⟨x3, _⟩ := ro_cf k3.out 3 _ rfl
                  go_wp2_with fail
                  refine (CK.out _ hb.out).mono ?_
                  rintro e w2 ⟨rfl, h1⟩
                  clear x1 x2 x3
                  replace k3 := hide (k3.out.below h1)
                  replace hb := hide (bel_next hb.out h1)
                  clear h1 hlt hj
                  have FS := hide (show r = (if chk b.ty (n3 : Int) ≠ 0 then chk b.ty (n3 : Int) else if badL b.ch ≠ -1 then 11 else if vL b.lp four = false then 12 else if cn b.sd b.ut = false then 13 else 0) from by rw [hr.out]; simp [q1.out, hf4.out, q3.out, h5.out, l3.out])
                  generalize chk b.ty (n3 : Int) = ck at *
                  by_cases q6 : ck = 0
                  rotate_left
                  · have d6 : (ck != 0) = true := by simpa using q6
                    have d6' : decide (ck = 0) = false := decide_eq_false q6
                    obtain rfl : r = ck := by rw [FS.out, if_pos q6]
                    replace q6 := hide q6
                    go_wp2
                    go_ret
                    exact ⟨rfl, hb.out⟩
                  · subst q6
                    have FS2 := hide (FS.out.trans (if_neg (by decide)))
                    clear FS
                    obtain ⟨x3, _⟩ := ro_cf k3.out 3 _ rfl
                    go_wp2_with fail
                    refine (DV.out _ hb.out).mono ?_
                    rintro e w3 ⟨rfl, rfl⟩
                    clear x3
                    by_cases q7 : badL b.ch = -1
                    rotate_left
                    · rw [decide_eq_false q7]
                      obtain rfl : r = 11 := by rw [FS2.out, if_pos q7]
                      replace q7 := hide q7
                      go_wp2
                      go_ret
                      exact ⟨rfl, hb.out⟩
                    · rw [decide_eq_true q7]
                      have FS3 := hide (FS2.out.trans (if_neg (fun h => h q7)))
                      clear FS2
                      replace q7 := hide q7
                      obtain ⟨x4, _⟩ := ro_cf k3.out 4 _ rfl
                      go_wp2_with fail
                      refine (LV.out _ hb.out).mono ?_
                      rintro e w4 ⟨rfl, h1⟩
                      clear x4
                      replace k3 := hide (k3.out.below h1)
                      replace hb := hide (bel_next hb.out h1)
                      clear h1
                      rcases q8 : vL b.lp four with _ | _
                      · obtain rfl : r = 12 := by rw [FS3.out, if_pos q8]
                        go_wp2
                        go_ret
                        exact ⟨rfl, hb.out⟩
                      · have FS4 := hide (FS3.out.trans (if_neg (by rw [q8]; decide)))
                        clear FS3
                        obtain ⟨x5, _⟩ := ro_cf k3.out 5 _ rfl
                        obtain ⟨x6, _⟩ := ro_cf k3.out 6 _ rfl
                        go_wp2_with fail
                        refine (CN.out _ hb.out).mono ?_
                        rintro e w5 ⟨rfl, rfl⟩
                        clear x5 x6
                        rcases q9 : cn b.sd b.ut with _ | _
                        · obtain rfl : r = 13 := by rw [FS4.out, if_pos q9]
                          go_wp2
                          go_ret
                          exact ⟨rfl, hb.out⟩
                        · obtain rfl : r = 0 := by rw [FS4.out, if_neg (by rw [q9]; decide)]
                          go_wp2
                          go_ret
                          exact ⟨rfl, hb.out⟩
end r20_
end Go.Proofs.Ytgbojkbhkjameaa

/-
  THE WALKS OF THE LAWS OF LAYER 17 (zoneinfolaw17): LeapsCorrectionIsStep. No conditions.
-/
import Derived.Test.YtickchkcfaggfaaLaw17
import Derived.Test.YtickchkcfaggfaaLw
namespace Go.Proofs.Ytickchkcfaggfaa
open Go.ChangeShapes Go.WideShapes Go.ChangeAt Go.RowKit
set_option linter.unusedVariables false
set_option maxRecDepth 100000
/-- is t the time of one of the first n records? -/
def knw (ts : List LP) (t : Int) (n : Nat) : Bool := (List.range n).any fun j => decide (la ts j = t)
theorem knw_step (ts : List LP) (t : Int) (n : Nat) : knw ts t (n + 1) = (knw ts t n || decide (la ts n = t)) := by unfold knw; rw [List.range_succ, List.any_append]; simp
theorem knw_no {ts : List LP} {t : Int} {n : Nat} (h : knw ts t n = false) (hn : ts.length ≤ n) : ∀ i, i < ts.length → la ts i ≠ t := by
  intro i hi e
  unfold knw at h
  rw [List.any_eq_false] at h
  exact h i (List.mem_range.2 (by omega)) (by simpa using e)
namespace l17_
set_option maxHeartbeats 8000000 in
theorem step (A2 : Option Addr) (n2 c2 : Nat) (ts : List LP) (t : Int) (w : World) (h2 : IsLw w A2 n2 c2 ts) (ht : (Lit.int .i64 t).wf = true) :
    Calls Try.prog 6 #[.slice A2 n2 c2, .int .i64 t] w fun e w' => e = .returned (.bool true) ∧ Below w.heap.size w w' := by
  obtain ⟨t0, t1⟩ := wf_i64 ht
  have l2 := hide h2.len
  obtain ⟨nil2, ca2, om2, r2, B2⟩ := h2
  replace nil2 := hide nil2
  clear ht
  have hb := hide (Below.refl w.heap.size w)
  by_cases hn2 : 100 < n2
  · have hn' : (100 : Int) < n2 := by omega
    clear r2 B2 l2
    go_enter Try.func6, Try.ntmps6
    go_wp2_with fail
    refine (awake _).mono ?_
    rintro e w1 ⟨rfl, h1⟩
    replace hb := hide (bel_next hb.out h1)
    clear h1
    go_wp2_with fail
    refine (awake _).mono ?_
    rintro e w9 ⟨rfl, h1⟩
    replace hb := hide (bel_next hb.out h1)
    clear h1
    go_wp2
    go_ret
    exact ⟨rfl, hb.out⟩
  have k2 : (n2 : Int) ≤ 100 := by omega
  replace r2 := hide r2
  have VF := hide (fun A c w hr => r17_.Valid A n2 c ts 4 true w (by decide) (by decide) rfl (by omega) hr B2)
  rcases hv : vL ts true with _ | _
  · rw [hv] at VF
    clear hv l2 B2
    go_enter Try.func6, Try.ntmps6
    go_wp2_with fail
    refine (awake _).mono ?_
    rintro e w1 ⟨rfl, h1⟩
    replace hb := hide (bel_next hb.out h1)
    replace r2 := hide (r2.out.below h1)
    clear h1
    go_wp2_with fail
    refine (VF.out _ _ _ r2.out).mono ?_
    rintro e w5 ⟨rfl, h1⟩
    replace hb := hide (bel_next hb.out h1)
    replace r2 := hide (r2.out.below h1)
    clear h1
    go_wp2_with fail
    refine (awake _).mono ?_
    rintro e w9 ⟨rfl, h1⟩
    replace hb := hide (bel_next hb.out h1)
    replace r2 := hide (r2.out.below h1)
    clear h1
    go_wp2
    go_ret
    exact ⟨rfl, hb.out⟩
  rw [hv] at VF
  replace hv := hide hv
  have Q := hide (fun A c w hA hr => lp_.Expiry A n2 c ts w hv.out (by omega) hA hr B2)
  obtain ⟨eb, heb⟩ : ∃ b, exL ts = b := ⟨_, rfl⟩
  obtain ⟨ev, hev⟩ : ∃ v, (if exL ts = true then la ts (ts.length - 1) else 0) = v := ⟨_, rfl⟩
  rw [hev, heb] at Q
  replace heb := hide heb
  replace hev := hide hev
  replace B2 := hide B2
  go_enter Try.func6, Try.ntmps6
  go_wp2_with fail
  refine (awake _).mono ?_
  rintro e w1 ⟨rfl, h1⟩
  replace hb := hide (bel_next hb.out h1)
  replace r2 := hide (r2.out.below h1)
  clear h1
  go_wp2_with fail
  refine (VF.out _ _ _ r2.out).mono ?_
  rintro e w5 ⟨rfl, h1⟩
  replace hb := hide (bel_next hb.out h1)
  replace r2 := hide (r2.out.below h1)
  clear h1
  go_wp2_with fail
  go_loopw [5] (fun iv wr => ∃ i : Nat, i ≤ n2 ∧ iv = .int .i64 (i : Nat) ∧ Hid (Below w5.heap.size w5 wr)) (fun i _ => n2 - (intOf i).toNat)
  case atStart => exact ⟨0, by omega, rfl, hide (bl_refl _)⟩
  case round =>
    obtain ⟨i, hi, rfl, hw⟩ := hrel
    by_cases hlt : i < n2
    · have rr := hide (r2.out.below hw.out)
      obtain ⟨ad, x, e1, ht, h0, h1'⟩ := rr.out.lp hlt
      subst e1
      obtain ⟨x0, x1, y0, y1⟩ := B2.out x (List.mem_of_getElem? ht)
      have ea : la ts i = x.1 := by unfold la; rw [ht]; rfl
      have er : lr ts i = x.2 := by unfold lr; rw [ht]; rfl
      have hp : 0 ≤ x.1 := by rw [← ea]; exact la_pos hv.out i (by rw [l2.out]; exact hlt)
      have C1 := hide (fun w hA hr => lp_.Correction (some ad) n2 c2 ts x.1 w hv.out (by omega) hA hr B2.out x0 x1)
      rw [show cr ts x.1 = x.2 by rw [← ea, cr_at hv.out (by rw [l2.out]; exact hlt), er]] at C1
      have C2 := hide (fun w hA hr => lp_.Correction (some ad) n2 c2 ts (x.1 - 1) w hv.out (by omega) hA hr B2.out (by omega) (by omega))
      have cb := cr_before hv.out (i := i) (by rw [l2.out]; exact hlt)
      rw [ea] at cb
      rw [cb] at C2
      obtain ⟨a, r⟩ := x
      dsimp only at x0 x1 y0 y1 hp C1 C2 h0 h1' cb
      have d1 : IntKind.i64.wrap (a - 1) = a - 1 := by rw [IntKind.wrap_i64]; omega
      have d0 : IntKind.i64.wrap r = r := by rw [IntKind.wrap_i64]; omega
      have hir : (i : Int) < (n2 : Int) := by omega
      have nA : Hid ((some ad : Option Addr) = none → n2 = 0 ∧ c2 = 0) := hide (fun h => nomatch h)
      clear ht ea er cb
      go_upto_region 6 with fail
      go_region_held3 (fun w' => w'.cell? (ad.add (i * 2)) = some (.int .i64 a) ∧ w'.cell? ⟨(ad.add (i * 2)).block, (ad.add (i * 2)).off + 1, none⟩ = some (.int .i32 r) ∧ Hid (Rk 2 w' (some ad) n2 (lcs ts)) ∧ Hid (Below w5.heap.size w5 w'))
        (first
          | exact ⟨h0, h1', rr, by first | exact hw | exact hide (bl_drew hw.out)⟩
          | (go_split_ands; refine ⟨?_, ?_, ?_, ?_⟩ <;> first | exact cellE h1 (by assumption) | exact hide ((Hid.out (by assumption) : Rk 2 _ (some ad) n2 (lcs ts)).below h1) | exact hide (bel_next (Hid.out (by assumption)) h1)))
        (first | (go_at_call 21; go_split_ands; refine (C1.out _ nA.out (Hid.out (by assumption))).mono ?_; rintro e w6 ⟨rfl, h1⟩))
      all_goals
        clear hw rr h0 h1'
        go_split_ands
        rename Hid (Below _ _ _) => hw
        rename Hid (Rk _ _ _ _ _) => rr
        rename World => w7
        rename (w7.cell? (ad.add (i * 2)) = _) => h0
        clear C1
        rcases (show i = 0 ∨ ∃ j : Nat, i = j + 1 by cases i with | zero => exact .inl rfl | succ j => exact .inr ⟨j, rfl⟩) with hj | ⟨j, hj⟩
        · rw [if_pos hj] at C2
          have g0 : decide ((0 : Int) < (i : Int)) = false := by simp; omega
          have gN : decide (0 < i) = false := by simp; omega
          have gP : ¬ 0 < i := by omega
          replace hj := hide hj
          go_wp2_with fail
          refine (C2.out _ nA.out rr.out).mono ?_
          rintro e w8 ⟨rfl, h1⟩
          replace hw := hide (bel_next hw.out h1)
          clear h1
          go_wp2_with fail
          go_roundw
          case rel => exact ⟨i + 1, by omega, by go_num, hw⟩
          case measure => simp [intOf]; omega
        · rw [if_neg (by omega), show i - 1 = j by omega] at C2
          have g0 : decide ((0 : Int) < (i : Int)) = true := by simp; omega
          have gN : decide (0 < i) = true := by simp; omega
          have gP : 0 < i := by omega
          have d2 : IntKind.i64.wrap ((i : Int) - 1) = (j : Int) := by rw [IntKind.wrap_i64]; omega
          have hjr : (j : Int) < (n2 : Int) := by omega
          obtain ⟨_, y, e2, hy, _, f1⟩ := rr.out.lp (show j < n2 by omega)
          cases e2
          obtain ⟨_, _, z0, z1⟩ := B2.out y (List.mem_of_getElem? hy)
          rw [show lr ts j = y.2 by unfold lr; rw [hy]; rfl] at C2
          generalize y.2 = s at *
          replace hj := hide hj
          clear hy
          go_wp2_with fail
          refine (C2.out _ nA.out rr.out).mono ?_
          rintro e w8 ⟨rfl, h1⟩
          replace hw := hide (bel_next hw.out h1)
          clear h1
          go_wp2_with fail
          go_roundw
          case rel => exact ⟨i + 1, by omega, by go_num, hw⟩
          case measure => simp [intOf]; omega
    · obtain rfl : i = n2 := by omega
      have h1 := hw.out
      rename World => u5
      replace hb := hide (bel_next hb.out h1)
      replace r2 := hide (r2.out.below h1)
      clear h1 hw
      go_wp2_with fail
      refine (Q.out _ _ _ nil2.out r2.out).mono ?_
      rintro e w6 ⟨rfl, h1⟩
      replace hb := hide (bel_next hb.out h1)
      replace r2 := hide (r2.out.below h1)
      clear h1
      go_upto_region 14 with fail
      go_cut [94] (fun z wx => z = .bool false ∧ Hid (Rk 2 wx A2 i (lcs ts)) ∧ Hid (Below w.heap.size w wx))
      case first =>
        cases eb
        · go_wp2_with fail
          go_meet
          exact ⟨rfl, r2, hb⟩
        · have hx := heb.out
          obtain ⟨n2', hn2⟩ : ∃ k : Nat, i = k + 2 := ⟨i - 2, by unfold exL at hx; simp at hx; have := l2.out; omega⟩
          have hne : i - 1 < i := by omega
          obtain ⟨ad, ⟨a, r⟩, e1, hy, f0, _⟩ := r2.out.lp hne
          subst e1
          dsimp only at f0
          have ey : la ts (ts.length - 1) = a := by rw [l2.out]; unfold la; rw [hy]; rfl
          have cx := cr_expiry hv.out hx
          rw [ey] at cx
          obtain ⟨y0, y1, _, _⟩ := B2.out _ (List.mem_of_getElem? hy)
          have yp : 0 ≤ a := by rw [← ey, l2.out]; exact la_pos hv.out (i - 1) (by rw [l2.out]; exact hne)
          dsimp only at y0 y1
          obtain rfl : ev = a := by rw [← hev.out, if_pos hx, ey]
          have K1 := hide (fun w hA hr => lp_.Correction (some ad) i c2 ts ev w hv.out (by omega) hA hr B2.out y0 y1)
          have K2 := hide (fun w hA hr => lp_.Correction (some ad) i c2 ts (ev - 1) w hv.out (by omega) hA hr B2.out (by omega) (by omega))
          rw [cx] at K1
          generalize cr ts (ev - 1) = cv at *
          have nA : Hid ((some ad : Option Addr) = none → i = 0 ∧ c2 = 0) := hide (fun h => nomatch h)
          have d1 : IntKind.i64.wrap (ev - 1) = ev - 1 := by rw [IntKind.wrap_i64]; omega
          have d3 : IntKind.i64.wrap ((i : Int) - 1) = ((i - 1 : Nat) : Int) := by rw [IntKind.wrap_i64]; omega
          have d4 : decide ((i : Int) < 2) = false := by simp; omega
          have d5 : ((i - 1 : Nat) : Int) < (i : Int) := by omega
          replace hn2 := hide hn2
          clear hy ey cx hx
          go_wp2_with fail
          refine (K1.out _ nA.out r2.out).mono ?_
          rintro e w7 ⟨rfl, h1⟩
          replace hb := hide (bel_next hb.out h1)
          replace r2 := hide (r2.out.below h1)
          clear h1
          go_wp2_with fail
          refine (K2.out _ nA.out r2.out).mono ?_
          rintro e w8 ⟨rfl, h1⟩
          replace hb := hide (bel_next hb.out h1)
          replace r2 := hide (r2.out.below h1)
          clear h1
          go_wp2_with fail
          go_meet
          exact ⟨rfl, r2, hb⟩
      case rest =>
        clear r2 hb
        obtain ⟨rfl, r2, hb⟩ := hcut
        rename World => w9
        go_wp2_with fail
        go_loopw [9, 10] (fun kv iv wr => ∃ j : Nat, j ≤ i ∧ iv = .int .i64 (j : Nat) ∧ kv = .bool (knw ts t j) ∧ Hid (Below w9.heap.size w9 wr)) (fun _ k _ => i - (intOf k).toNat)
        case atStart => exact ⟨0, by omega, rfl, rfl, hide (bl_refl _)⟩
        case round =>
          obtain ⟨j, hj, rfl, rfl, hw⟩ := hrel
          by_cases hlt : j < i
          · obtain ⟨ad, x, e1, ht, h0, _⟩ := (r2.out.below hw.out).lp hlt
            subst e1
            have hst := hide (show knw ts t (j + 1) = (knw ts t j || decide (x.1 = t)) by rw [knw_step]; unfold la; rw [ht]; rfl)
            have hir : (j : Int) < (i : Int) := by omega
            generalize x.1 = a at *
            clear ht
            rcases hk : knw ts t j with _ | _
            · rw [hk, Bool.false_or] at hst
              by_cases he : a = t
              · have q : (a == t) = true := by simpa using he
                rw [decide_eq_true he] at hst
                clear hk he
                go_wp2_with fail
                go_roundw
                case rel => exact ⟨j + 1, by omega, by go_num, by rw [hst.out], hw⟩
                case measure => simp [intOf]; omega
              · have q : (a == t) = false := by simpa using he
                rw [decide_eq_false he] at hst
                clear hk he
                go_wp2_with fail
                go_roundw
                case rel => exact ⟨j + 1, by omega, by go_num, by rw [hst.out], hw⟩
                case measure => simp [intOf]; omega
            · rw [hk, Bool.true_or] at hst
              clear hk
              go_wp2_with fail
              go_roundw
              case rel => exact ⟨j + 1, by omega, by go_num, by rw [hst.out], hw⟩
              case measure => simp [intOf]; omega
          · obtain rfl : j = i := by omega
            have h1 := hw.out
            replace hb := hide (bel_next hb.out h1)
            replace r2 := hide (r2.out.below h1)
            clear h1 hw
            rcases hk : knw ts t j with _ | _
            · by_cases hm : t = -9223372036854775808
              · subst hm
                clear hk
                go_wp2_with fail
                go_ret
                exact ⟨rfl, hb.out⟩
              · have q : (t == -9223372036854775808) = false := by simpa using hm
                have d1 : IntKind.i64.wrap (t - 1) = t - 1 := by rw [IntKind.wrap_i64]; omega
                have K1 := hide (fun A c w hA hr => lp_.Correction A j c ts t w hv.out (by omega) hA hr B2.out t0 t1)
                have K2 := hide (fun A c w hA hr => lp_.Correction A j c ts (t - 1) w hv.out (by omega) hA hr B2.out (by omega) (by omega))
                rw [cr_quiet (knw_no hk (by rw [l2.out]; exact Nat.le_refl _))] at K1
                generalize cr ts (t - 1) = cv at *
                clear hk hm
                go_wp2_with fail
                refine (K1.out _ _ _ nil2.out r2.out).mono ?_
                rintro e w7 ⟨rfl, h1⟩
                replace hb := hide (bel_next hb.out h1)
                replace r2 := hide (r2.out.below h1)
                clear h1
                go_wp2_with fail
                refine (K2.out _ _ _ nil2.out r2.out).mono ?_
                rintro e w8 ⟨rfl, h1⟩
                replace hb := hide (bel_next hb.out h1)
                clear h1
                go_wp2_with fail
                go_ret
                exact ⟨rfl, hb.out⟩
            · clear hk
              go_wp2_with fail
              go_ret
              exact ⟨rfl, hb.out⟩
end l17_
end Go.Proofs.Ytickchkcfaggfaa

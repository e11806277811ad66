/-
  THE WALKS OF THE LAWS OF LAYER 16 (zoneinfolaw16): TtinfoCheck. No conditions.
-/
import Derived.Test.YtpcddofgjigolaaDoorLaw16
import Derived.Test.YtpcddofgjigolaaDoorTw
namespace Go.Proofs.YtpcddofgjigolaaDoor
open Go.ChangeShapes Go.WideShapes Go.ChangeAt Go.RowKit
set_option linter.unusedVariables false
set_option maxRecDepth 100000
/-- the check of one type more, from the check of that type alone. -/
theorem chk_step {ts : List TT} {k : Nat} {t : TT} (h : ts[k]? = some t) (n : Int) : chk (ts.take (k + 1)) n = if chk [t] n = 9 then 9 else if chk [t] n = 8 ∧ chk (ts.take k) n = 0 then 8 else chk (ts.take k) n := by
  unfold chk
  rw [any_step _ h, any_step _ h]
  simp only [List.any_cons, List.any_nil, Bool.or_false]
  generalize (ts.take k).any (fun t => decide (t.1 = -2147483648)) = a
  generalize (ts.take k).any (fun t => decide (n ≤ t.2.2)) = b
  generalize decide (t.1 = -2147483648) = x
  generalize decide (n ≤ t.2.2) = y
  revert a b x y
  decide
theorem chk_cases (ts : List TT) (n : Int) : chk ts n = 0 ∨ chk ts n = 8 ∨ chk ts n = 9 := by
  unfold chk
  split
  · exact .inr (.inr rfl)
  · split
    · exact .inr (.inl rfl)
    · exact .inl rfl
/-- a larger table. -/
theorem chk_more (ts : List TT) (n m : Int) (hm : 0 ≤ m) : (chk ts n = 0 ∧ chk ts (n + m) = 0) ∨ (chk ts n = 8 ∧ chk ts (n + m) = 8) ∨ (chk ts n = 8 ∧ chk ts (n + m) = 0) ∨ (chk ts n = 9 ∧ chk ts (n + m) = 9) := by
  unfold chk
  rcases ts.any (fun t => decide (t.1 = -2147483648)) with _ | _
  · rcases hb : ts.any (fun t => decide (n ≤ t.2.2)) with _ | _
    · have : ts.any (fun t => decide (n + m ≤ t.2.2)) = false := by
        rw [List.any_eq_false] at hb ⊢
        intro t ht
        have := hb t ht
        simp only [decide_eq_true_eq] at this ⊢
        omega
      rw [this]
      exact .inl ⟨rfl, rfl⟩
    · rcases ts.any (fun t => decide (n + m ≤ t.2.2)) with _ | _
      · exact .inr (.inr (.inl ⟨rfl, rfl⟩))
      · exact .inr (.inl ⟨rfl, rfl⟩)
  · exact .inr (.inr (.inr ⟨rfl, rfl⟩))
theorem chk_256 {ts : List TT} (h : ∀ t ∈ ts, ttOk t) : chk ts 256 = 0 ∨ chk ts 256 = 9 := by
  have e : ts.any (fun t => decide (256 ≤ t.2.2)) = false := by
    rw [List.any_eq_false]
    intro t ht
    obtain ⟨_, _, _, h4⟩ := h t ht
    simp only [decide_eq_true_eq]
    omega
  unfold chk
  rw [e]
  split
  · exact .inr rfl
  · exact .inl rfl
/-- one type of a slice of types. -/
theorem Rk.one {w : World} {ad : Addr} {n c : Nat} {ts : List TT} (h : Rk 3 w (some ad) n (tcs ts)) {k : Nat} {t : TT} (hk : k < n) (hc : n ≤ c) (ht : ts[k]? = some t) : Rk 3 w (some (ad.add (k * 3))) 1 (tcs [t]) := by
  have hl := (List.getElem?_eq_some_iff.1 ht).1
  have e : (ts.drop k).take 1 = [t] := by
    rw [List.drop_eq_getElem_cons hl]
    rw [List.getElem?_eq_getElem hl] at ht
    injection ht with ht
    rw [ht]
    rfl
  have := (h.cut (k := k) (cap := c) (by omega) hc).take (k := 1) (by omega)
  rw [if_neg (by omega), tcs_drop, tcs_take, e] at this
  exact this
namespace l16_
set_option maxHeartbeats 8000000 in
theorem check (A : Option Addr) (n c : Nat) (ts : List TT) (q r : Int) (w : World) (hT : Tt w) (h : IsTw w A n c ts) (hq_ : (Lit.int .u8 q).wf = true) (hr_ : (Lit.int .u8 r).wf = true) :
    Calls Tryd.prog 5 #[.slice A n c, .int .u8 q, .int .u8 r] w fun e w' => e = .returned (.bool true) ∧ Below w.heap.size w w' := by
  have HT := hide hT
  clear hT
  obtain ⟨q0, q1⟩ := wf_u8 hq_
  obtain ⟨r0, r1⟩ := wf_u8 hr_
  clear hq_ hr_
  have ll := h.len
  obtain ⟨nil1, ca, om, hr, hok⟩ := h
  replace nil1 := hide nil1
  have hb := hide (Below.refl w.heap.size w)
  by_cases hn : 100 < n
  · have hn' : (100 : Int) < n := by omega
    clear hr hok ll
    go_enter Tryd.func5, Tryd.ntmps5
    go_wp2_with fail
    refine (awake _ (HT.out.below hb.out)).mono ?_
    rintro e w1 ⟨rfl, h1⟩
    replace hb := hide (bel_next hb.out h1)
    clear h1
    go_wp2_with fail
    refine (awake _ (HT.out.below hb.out)).mono ?_
    rintro e w9 ⟨rfl, h1⟩
    replace hb := hide (bel_next hb.out h1)
    clear h1
    go_wp2
    go_ret
    exact ⟨rfl, hb.out⟩
  have k1 : (n : Int) ≤ 100 := by omega
  have zq : wrap64 q = q := by unfold wrap64; omega
  have zr : wrap64 r = r := by unfold wrap64; omega
  have zqr : wrap64 (q + r) = q + r := by unfold wrap64; omega
  have C := hide (fun A c m w hA hr h0 h1 => tt_.Check A n c ts m w (by omega) hA hr hok h0 h1)
  have C1 := hide (fun t (ht : t ∈ ts) A c w hA hr => tt_.Check A 1 c [t] q w (by omega) hA hr (by intro u hu; rw [List.mem_singleton] at hu; subst hu; exact hok u ht) (by omega) (by omega))
  have M := hide (chk_more ts q r r0)
  have M256 := hide (chk_256 hok)
  have LL := hide ll
  replace hr := hide hr
  clear hok ll
  obtain ⟨d, hd⟩ : ∃ d, d = chk ts q := ⟨_, rfl⟩
  have HD := hide hd
  clear hd
  go_enter Tryd.func5, Tryd.ntmps5
  go_wp2_with fail
  refine (awake _ (HT.out.below hb.out)).mono ?_
  rintro e w1 ⟨rfl, h1⟩
  replace hb := hide (bel_next hb.out h1)
  replace hr := hide (hr.out.below h1)
  clear h1
  go_wp2_with fail
  refine (C.out _ _ q _ nil1.out hr.out (by omega) (by omega)).mono ?_
  rintro e w2 ⟨he, h1⟩
  rw [← HD.out] at he
  subst he
  replace hb := hide (bel_next hb.out h1)
  replace hr := hide (hr.out.below h1)
  clear h1
  go_wp2_with fail
  go_loopw [8, 9] (fun wo i wr => ∃ k : Nat, k ≤ n ∧ i = .int .i64 (k : Int) ∧ wo = .int .i64 (chk (ts.take k) q) ∧ Hid (Below w2.heap.size w2 wr)) (fun _ i _ => n - (intOf i).toNat)
  case atStart => exact ⟨0, by omega, rfl, rfl, hide (bl_refl _)⟩
  case round =>
    obtain ⟨k, hk, rfl, rfl, hw⟩ := hrel
    by_cases hlt : k < n
    · obtain ⟨ad, t, rfl, ht, -, -, -⟩ := (hr.out.below hw.out).tt hlt
      have rk := hide ((hr.out.below hw.out).one hlt ca ht)
      have hst := chk_step ht q
      have hx := chk_cases [t] q
      have hy := chk_cases (ts.take k) q
      have hkc : (k : Int) ≤ c := by omega
      have hkc1 : (k : Int) + 1 ≤ c := by omega
      have zk : wrap64 ((k : Int) + 1) = (k : Int) + 1 := by unfold wrap64; omega
      have C2 := hide (C1.out t (List.mem_of_getElem? ht))
      generalize chk [t] q = x at *
      generalize chk (ts.take k) q = y at *
      replace hst := hide hst
      replace hx := hide hx
      replace hy := hide hy
      go_wp2_with fail
      refine (C2.out _ _ _ (fun h => by cases h) rk.out).mono ?_
      rintro e w5 ⟨rfl, h1⟩
      replace hw := hide (bel_next hw.out h1)
      clear h1 rk C2
      rcases hx.out with rfl | rfl | rfl <;> rcases hy.out with rfl | rfl | rfl <;>
      · have hs := hst.out
        simp at hs
        replace hs := hide hs
        clear hst hx hy
        go_wp2
        go_roundw
        case rel => exact ⟨k + 1, by omega, by go_num, by rw [hs.out], hw⟩
        case measure => simp [intOf]; omega
    · obtain rfl : k = n := by omega
      have h1 := hw.out
      replace hb := hide (bel_next hb.out h1)
      replace hr := hide (hr.out.below h1)
      clear h1 hw
      rw [List.take_of_length_le (by rw [LL.out]; omega), ← HD.out]
      have D1 := hide (fun w hr => C.out A c (q + r) w nil1.out hr (by omega) (by omega))
      have D2 := hide (fun w hr => C.out A c 256 w nil1.out hr (by omega) (by omega))
      have hM := M.out
      have hV := M256.out
      rw [← HD.out] at hM
      clear M M256 C C1
      generalize chk ts (q + r) = u at *
      generalize chk ts 256 = v at *
      replace hM := hide hM
      replace hV := hide hV
      go_wp2_with fail
      refine (D1.out _ hr.out).mono ?_
      rintro e w5 ⟨rfl, h1⟩
      replace hb := hide (bel_next hb.out h1)
      replace hr := hide (hr.out.below h1)
      clear h1
      rcases hM.out with ⟨rfl, rfl⟩ | ⟨rfl, rfl⟩ | ⟨rfl, rfl⟩ | ⟨rfl, rfl⟩ <;>
      · go_wp2_with fail
        refine (D2.out _ hr.out).mono ?_
        rintro e w6 ⟨rfl, h1⟩
        replace hb := hide (bel_next hb.out h1)
        clear h1
        rcases hV.out with rfl | rfl <;>
        · go_wp2
          go_ret
          exact ⟨rfl, hb.out⟩
end l16_
end Go.Proofs.YtpcddofgjigolaaDoor

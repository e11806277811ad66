/-
  THE WALKS OF THE LAWS OF LAYER 8 (zoneinfolaw08): HmsFields. No conditions.
-/
import Derived.Test.YtgbojphbodijbaaDoorLaw8
import Derived.Test.YtgbojphbodijbaaDoorHmMath2
import Derived.Deep.RegionHeld3
import Derived.Deep.DeepCutAuto
import Derived.Deep.CutRange
namespace Go.Proofs.YtgbojphbodijbaaDoor
open Go.ChangeShapes Go.WideShapes Go.ChangeAt Go.RowKit
set_option linter.unusedVariables false
/-- three digits. -/
def d3 (h : Int) : List UInt8 := dg (h / 100) :: d2 (h % 100)
theorem d3_dig {h : Int} (h0 : 0 ≤ h) (h1 : h ≤ 167) : (∀ c ∈ d3 h, dig c = true) ∧ dval (d3 h) = h := by
  have e1 := dg_toNat (x := h / 100) (by omega) (by omega)
  have e2 := dg_toNat (x := h % 100 / 10) (by omega) (by omega)
  have e3 := dg_toNat (x := h % 100 % 10) (by omega) (by omega)
  refine ⟨?_, ?_⟩
  · intro c hc
    unfold d3 d2 at hc
    simp at hc
    rcases hc with rfl | rfl | rfl
    · exact dig_dg (by omega) (by omega)
    · exact dig_dg (by omega) (by omega)
    · have := dig_dg (x := h % 100 % 10) (by omega) (by omega); simpa using this
  · unfold d3 d2 dval
    simp only [List.foldl_cons, List.foldl_nil, e1, e2, e3]
    omega
theorem parse_d3 {h : Int} (m : List UInt8) (h0 : 0 ≤ h) (h1 : h ≤ 167) (hm : m = [] ∨ ∃ x t, m = x :: t ∧ dig x = false) : hmsParse (d3 h ++ m) = some (3600 * h + (hmsTail m).1, 3 + (hmsTail m).2) := by
  obtain ⟨a, b⟩ := d3_dig h0 h1
  have e := body_of (d := d3 h) (m := m) a hm (by simp [d3, d2]) (by simp [d3, d2]) (by omega)
  rw [parse_body (l := d3 h ++ m) ⟨dg (h / 100), d2 (h % 100) ++ m, rfl, a _ (by simp [d3])⟩, e, b]
  rfl
theorem tail_ms {m c : Int} (m0 : 0 ≤ m) (m1 : m ≤ 59) (c0 : 0 ≤ c) (c1 : c ≤ 59) : hmsTail (58 :: (d2 m ++ (58 :: d2 c))) = (60 * m + c, 6) := by
  have e2 : (58 :: (d2 m ++ (58 :: d2 c))).drop 3 = 58 :: (d2 c ++ []) := by simp [d2]
  unfold hmsTail
  rw [e2, field_d2 _ m0 m1, field_d2 _ c0 c1, if_pos m0, if_pos c0]
theorem tail_m {m : Int} (m0 : 0 ≤ m) (m1 : m ≤ 59) : hmsTail (58 :: d2 m) = (60 * m, 3) := by
  have e0 : 58 :: d2 m = 58 :: (d2 m ++ []) := by simp
  have e2 : (58 :: d2 m).drop 3 = [] := rfl
  unfold hmsTail
  rw [e2, e0, field_d2 _ m0 m1, if_pos m0, if_neg (by decide)]
namespace l8_
theorem two (x : Int) (w : World) (h0 : 0 ≤ x) (h1 : x ≤ 99) : Calls Tryd.prog 15 #[.int .u8 x] w fun e w' => e = .returned (.string (mkS (d2 x))) ∧ Below w.heap.size w w' := by
  obtain ⟨a, ha⟩ : ∃ a, a = x / 10 := ⟨_, rfl⟩
  obtain ⟨b, hb⟩ : ∃ b, b = x % 10 := ⟨_, rfl⟩
  have a0 : 0 ≤ a := by omega
  have a1 : a ≤ 9 := by omega
  have b0 : 0 ≤ b := by omega
  have b1 : b ≤ 9 := by omega
  have hf := hide (show mkS (d2 x) = ⟨#[UInt8.ofNat (48 + a).toNat, UInt8.ofNat (48 + b).toNat]⟩ by rw [ha, hb]; rfl)
  have ea : x / 10 = a := ha.symm
  have eb : x % 10 = b := hb.symm
  clear ha hb
  have hcv := fun (W : World) (g : Nat) h h' => r8_.conv2 W g (48 + a) (48 + b) (by omega) (by omega) (by omega) (by omega) h h'
  go_enter Tryd.func15, Tryd.ntmps15
  go_wp2
  go_ret
  exact ⟨retS2 (by rw [hf.out]), bl_new _ _⟩
set_option maxRecDepth 100000 in
set_option maxHeartbeats 4000000 in
theorem fields (h m c : Int) (w : World) (hT : Tp w) (hh : (Lit.int .u8 h).wf = true) (hm : (Lit.int .u8 m).wf = true) (hc : (Lit.int .u8 c).wf = true) :
    Calls Tryd.prog 6 #[.int .u8 h, .int .u8 m, .int .u8 c] w fun e w' => e = .returned (.bool true) ∧ Below w.heap.size w w' := by
  obtain ⟨x0, x1⟩ := wf_u8 hh
  obtain ⟨y0, y1⟩ := wf_u8 hm
  obtain ⟨z0, z1⟩ := wf_u8 hc
  clear hh hm hc
  have HT := hide hT
  clear hT
  have hb := hide (Below.refl w.heap.size w)
  by_cases hok : h ≤ 167 ∧ m ≤ 59 ∧ c ≤ 59
  case neg =>
    have hok' : 167 < h ∨ (h ≤ 167 ∧ 59 < m) ∨ (h ≤ 167 ∧ m ≤ 59 ∧ 59 < c) := by omega
    clear hok
    rcases hok' with q1 | ⟨q1, q2⟩ | ⟨q1, q2, q3⟩
    all_goals
      go_enter Tryd.func6, Tryd.ntmps6
      go_wp2_with fail
      refine (awake _ (HT.out.below hb.out)).mono ?_
      rintro e w1 ⟨rfl, h1⟩
      replace hb := hide (bel_next hb.out h1)
      clear h1
      go_wp2_with fail
      refine (awake _ (HT.out.below hb.out)).mono ?_
      rintro e w1 ⟨rfl, h1⟩
      replace hb := hide (bel_next hb.out h1)
      clear h1
      go_wp2
      go_ret
      exact ⟨rfl, hb.out⟩
  obtain ⟨q1, q2, q3⟩ := hok
  obtain ⟨a, ha⟩ : ∃ a, a = h / 100 := ⟨_, rfl⟩
  obtain ⟨b, hbb⟩ : ∃ b, b = h % 100 := ⟨_, rfl⟩
  have a0 : 0 ≤ a := by omega
  have a1 : a ≤ 9 := by omega
  have b0 : 0 ≤ b := by omega
  have b1 : b ≤ 99 := by omega
  have ea : h.tdiv 100 = a := by rw [Int.tdiv_eq_ediv_of_nonneg x0, ha]
  have eb : h.tmod 100 = b := by rw [Int.tmod_eq_emod_of_nonneg x0, hbb]
  have wa : IntKind.u8.wrap a = a := by rw [IntKind.wrap_u8]; omega
  have wa' : IntKind.u8.wrap (48 + a) = 48 + a := by rw [IntKind.wrap_u8]; omega
  have wb : IntKind.u8.wrap b = b := by rw [IntKind.wrap_u8]; omega
  have Tbb := hide (fun w => two b w b0 b1)
  have Tm := hide (fun w => two m w y0 (by omega))
  have Tc := hide (fun w => two c w z0 (by omega))
  have hcv := fun (W : World) (g : Nat) h => r8_.conv1 W g (48 + a) (by omega) (by omega) h
  replace ha := hide ha
  replace hbb := hide hbb
  go_enter Tryd.func6, Tryd.ntmps6
  go_wp2_with fail
  refine (awake _ (HT.out.below hb.out)).mono ?_
  rintro e w1 ⟨rfl, h1⟩
  replace hb := hide (bel_next hb.out h1)
  clear h1
  go_upto_region 4 with fail
  go_cut [8] (fun s8 wx => s8 = .string (⟨#[UInt8.ofNat (48 + a).toNat]⟩ ++ mkS (d2 b)) ∧ Below w.heap.size w wx)
  case first =>
    go_region_with ((go_at_call 15; refine (Tbb.out _).mono ?_; rintro e w3 ⟨rfl, hb3⟩; obtain ⟨hk3, _⟩ := bcell hb3))
    all_goals
      go_wp2_with fail
      go_meet
      first
        | exact ⟨rfl, bel_next (bl_drew (bl_alloc hb.out _)) hb3⟩
        | exact ⟨rfl, bl_alloc (bel_next (bl_drew hb.out) hb3) _⟩
  case rest =>
    obtain ⟨rfl, hb⟩ := hcut
    replace hb := hide hb
    clear hcv ea eb wa wa' wb Tbb
    have hX : byt (⟨#[UInt8.ofNat (48 + a).toNat]⟩ ++ mkS (d2 b)) = d3 h := by
      rw [byt_append, byt_mk]
      unfold d3
      rw [← ha.out, ← hbb.out]
      rfl
    have bM := byt_mk (d2 m)
    have bC := byt_mk (d2 c)
    have sM : (mkS (d2 m)).size = 2 := by rw [size_mk]; rfl
    have sC : (mkS (d2 c)).size = 2 := by rw [size_mk]; rfl
    have sX : (⟨#[UInt8.ofNat (48 + a).toNat]⟩ ++ mkS (d2 b) : ByteArray).size = 3 := by rw [← len_byt, hX]; rfl
    generalize (⟨#[UInt8.ofNat (48 + a).toNat]⟩ ++ mkS (d2 b) : ByteArray) = X at *
    generalize mkS (d2 m) = M at *
    generalize mkS (d2 c) = C at *
    have P1 := hide (fun w => hm_.Parse (X ++ ⟨#[58]⟩ ++ M ++ ⟨#[58]⟩ ++ C) w (by
      rw [← len_byt]; (repeat rw [byt_append]); rw [hX, bM, bC]; exact (show (9 : Nat) ≤ 1000000 by omega)))
    rw [show hmsParse (byt (X ++ ⟨#[58]⟩ ++ M ++ ⟨#[58]⟩ ++ C)) = some (3600 * h + (60 * m + c), 9) by
      (repeat rw [byt_append])
      rw [hX, bM, bC]
      have e := parse_d3 (58 :: (d2 m ++ (58 :: d2 c))) x0 q1 (.inr ⟨58, _, rfl, rfl⟩)
      rw [tail_ms y0 q2 z0 q3] at e
      rw [show d3 h ++ byt ⟨#[58]⟩ ++ d2 m ++ byt ⟨#[58]⟩ ++ d2 c = d3 h ++ (58 :: (d2 m ++ (58 :: d2 c))) from rfl]
      exact e] at P1
    have P2 := hide (fun w => hm_.Parse (X ++ ⟨#[58]⟩ ++ M) w (by
      rw [← len_byt]; (repeat rw [byt_append]); rw [hX, bM]; exact (show (6 : Nat) ≤ 1000000 by omega)))
    rw [show hmsParse (byt (X ++ ⟨#[58]⟩ ++ M)) = some (3600 * h + 60 * m, 6) by
      (repeat rw [byt_append])
      rw [hX, bM]
      have e := parse_d3 (58 :: d2 m) x0 q1 (.inr ⟨58, _, rfl, rfl⟩)
      rw [tail_m y0 q2] at e
      rw [show d3 h ++ byt ⟨#[58]⟩ ++ d2 m = d3 h ++ (58 :: d2 m) from rfl]
      exact e] at P2
    have P3 := hide (fun w => hm_.Parse X w (by omega))
    rw [show hmsParse (byt X) = some (3600 * h, 3) by
      rw [hX]
      have e := parse_d3 [] x0 q1 (.inl rfl)
      rw [List.append_nil] at e
      rw [e, show hmsTail [] = (0, 0) from rfl]
      simp] at P3
    simp only [hmsRes] at P1 P2 P3
    clear hX bM bC ha hbb a0 a1 b0 b1
    go_wp2_with fail
    refine (Tm.out _).mono ?_
    rintro e w1 ⟨rfl, h1⟩
    replace hb := hide (bel_next hb.out h1)
    clear h1
    go_wp2_with fail
    refine (Tc.out _).mono ?_
    rintro e w1 ⟨rfl, h1⟩
    replace hb := hide (bel_next hb.out h1)
    clear h1
    go_wp2_with fail
    refine (P1.out _).mono ?_
    rintro e w1 ⟨rfl, h1⟩
    replace hb := hide (bel_next hb.out h1)
    clear h1
    go_wp2_with fail
    refine (Tm.out _).mono ?_
    rintro e w1 ⟨rfl, h1⟩
    replace hb := hide (bel_next hb.out h1)
    clear h1
    go_wp2_with fail
    refine (P2.out _).mono ?_
    rintro e w1 ⟨rfl, h1⟩
    replace hb := hide (bel_next hb.out h1)
    clear h1
    go_wp2_with fail
    refine (P3.out _).mono ?_
    rintro e w1 ⟨rfl, h1⟩
    replace hb := hide (bel_next hb.out h1)
    clear h1
    go_wp2
    go_ret
    exact ⟨rfl, hb.out⟩
end l8_
end Go.Proofs.YtgbojphbodijbaaDoor

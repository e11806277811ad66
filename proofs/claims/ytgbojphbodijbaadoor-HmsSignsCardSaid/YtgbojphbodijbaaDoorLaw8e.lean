/-
  THE WALKS OF THE LAWS OF LAYER 8 (zoneinfolaw08): HmsSigns. No conditions.
-/
import Derived.Test.YtgbojphbodijbaaDoorLaw8
import Derived.Test.YtgbojphbodijbaaDoorHmMath2
import Derived.Deep.RegionHeld3
import Derived.Deep.DeepCutAuto
import Derived.Deep.CutRange
namespace Go.Proofs.YtgbojphbodijbaaDoor
open Go.ChangeShapes Go.WideShapes Go.ChangeAt Go.RowKit
set_option linter.unusedVariables false
/-- leading zeros. -/
def zr (p : Nat) : List UInt8 := List.replicate p 48
theorem dval_zr (p : Nat) (l : List UInt8) : dval (zr p ++ l) = dval l := by
  induction p with
  | zero => rfl
  | succ p ih =>
    rw [← ih]
    unfold zr dval
    rw [List.replicate_succ, List.cons_append, List.foldl_cons]
    rfl
theorem body_zr {x : Int} (p : Nat) (h0 : 0 ≤ x) (h1 : x < 604800) (hp : p + (hh (x / 3600)).length ≤ 3) : hmsBody (zr p ++ hmsAbs x) = some (x, p + (hmsAbs x).length) := by
  obtain ⟨hv, hl1, hl3, _⟩ := hh_val (h := x / 3600) (by omega) (by omega)
  have hdz : ∀ c ∈ zr p ++ hh (x / 3600), dig c = true := by
    intro c hc
    rcases List.mem_append.1 hc with h | h
    · have := (List.mem_replicate.1 h).2
      subst this
      rfl
    · exact hh_dig (by omega) (by omega) c h
  have e : zr p ++ hmsAbs x = (zr p ++ hh (x / 3600)) ++ ((if 0 < x % 3600 then 58 :: d2 (x / 60 % 60) else []) ++ (if 0 < x % 60 then 58 :: d2 (x % 60) else []) ++ []) := by unfold hmsAbs; simp
  have hlz : (zr p).length = p := List.length_replicate
  rw [e, body_of hdz (rest_stop hstop_nil) (by rw [List.length_append]; omega) (by rw [List.length_append, hlz]; exact hp) (by rw [dval_zr, hv]; omega), tail_abs [] h0 hstop_nil, dval_zr, hv]
  unfold hmsAbs
  simp only [List.length_append, hlz]
  congr 2
  · omega
  · omega
theorem head_zr {x : Int} (p : Nat) (h0 : 0 ≤ x) (h1 : x < 604800) : ∃ c t, zr p ++ hmsAbs x = c :: t ∧ dig c = true := by
  cases p with
  | zero => exact abs_head h0 h1
  | succ p => exact ⟨48, zr p ++ hmsAbs x, rfl, rfl⟩
theorem tw_abs {x : Int} (h0 : 0 ≤ x) (h1 : x < 604800) : ((hmsAbs x).takeWhile dig).length = (hh (x / 3600)).length := by
  have e : hmsAbs x = hh (x / 3600) ++ ((if 0 < x % 3600 then 58 :: d2 (x / 60 % 60) else []) ++ (if 0 < x % 60 then 58 :: d2 (x % 60) else []) ++ []) := by unfold hmsAbs; simp
  rw [e, tw_app' (hh_dig (by omega) (by omega)) (rest_stop hstop_nil)]
namespace l8_
set_option maxRecDepth 100000 in
set_option maxHeartbeats 4000000 in
theorem signs (x z : Int) (w : World) (hT : Tp w) (hx : (Lit.int .i64 x).wf = true) (hz : (Lit.int .u8 z).wf = true) :
    Calls Tryd.prog 7 #[.int .i64 x, .int .u8 z] w fun e w' => e = .returned (.bool true) ∧ Below w.heap.size w w' := by
  obtain ⟨x0, x1⟩ := wf_i64 hx
  obtain ⟨z0, z1⟩ := wf_u8 hz
  clear hx hz
  have HT := hide hT
  clear hT
  have hb := hide (Below.refl w.heap.size w)
  have Ux := hide (fun w => r8_.InRange x w)
  by_cases hn : x < 0
  · clear Ux
    go_enter Tryd.func7, Tryd.ntmps7
    go_wp2_with fail
    refine (awake _ (HT.out.below hb.out)).mono ?_
    rintro e w1 ⟨rfl, h1⟩
    replace hb := hide (bel_next hb.out h1)
    clear h1
    go_wp2_with fail
    refine (awake _ (HT.out.below hb.out)).mono ?_
    rintro e w1 ⟨rfl, h1⟩
    replace hb := hide (bel_next hb.out h1)
    clear h1
    go_wp2
    go_ret
    exact ⟨rfl, hb.out⟩
  rcases hvx : (decide (-604800 < x) && decide (x < 604800))
  · rw [hvx] at Ux
    clear hvx
    go_enter Tryd.func7, Tryd.ntmps7
    go_wp2_with fail
    refine (awake _ (HT.out.below hb.out)).mono ?_
    rintro e w1 ⟨rfl, h1⟩
    replace hb := hide (bel_next hb.out h1)
    clear h1
    go_wp2_with fail
    refine (Ux.out _).mono ?_
    rintro e w2 ⟨rfl, rfl⟩
    go_wp2_with fail
    refine (awake _ (HT.out.below hb.out)).mono ?_
    rintro e w1 ⟨rfl, h1⟩
    replace hb := hide (bel_next hb.out h1)
    clear h1
    go_wp2
    go_ret
    exact ⟨rfl, hb.out⟩
  rw [hvx] at Ux
  have hx2 : -604800 < x ∧ x < 604800 := by simpa using hvx
  clear hvx x0 x1
  obtain ⟨x0, x1⟩ := hx2
  have x00 : 0 ≤ x := by omega
  have Fx := hide (fun w hT => hm_.Format x w hT x0 x1)
  obtain ⟨f, hf⟩ : ∃ f, f = mkS (hmsFmt x) := ⟨_, rfl⟩
  have hbf : byt f = hmsAbs x := by rw [hf, byt_mk]; unfold hmsFmt; rw [if_neg hn]
  rw [← hf] at Fx
  obtain ⟨D, hD⟩ : ∃ D, D = (hh (x / 3600)).length := ⟨_, rfl⟩
  obtain ⟨_, d1, d3, _⟩ := hh_val (h := x / 3600) (by omega) (by omega)
  rw [← hD] at d1 d3
  have htw : ((byt f).takeWhile dig).length = D := by rw [hbf, tw_abs x00 x1, hD]
  have hfs : D ≤ f.size ∧ f.size ≤ 9 := by
    have := tw_le dig (byt f)
    have := (hmsAbs_len x00 x1).2
    rw [← hbf, len_byt] at this
    rw [htw, len_byt] at *
    omega
  have h1 : ∀ k (hk : k < D) (hs : k < f.size), dig f[k] = true := fun k hk hs => by
    rw [← get_byt f k hs]
    exact tw_lt (by rw [htw]; exact hk) _
  have h2 : ∀ h : D < f.size, dig f[D] = false := fun h => by
    have e := tw_at (p := dig) (l := byt f) (by rw [htw, len_byt]; exact h)
    rw [← get_byt f _ h]
    simp only [htw] at e
    exact e
  have H1 := hide h1
  have H2 := hide h2
  have HP := hide (show ∀ p, p + D ≤ 3 → (hmsParse (zr p ++ byt f) = some (x, p + f.size) ∧ hmsParse (43 :: (zr p ++ byt f)) = some (x, p + f.size + 1) ∧ hmsParse (45 :: (zr p ++ byt f)) = some (-x, p + f.size + 1)) by
    intro p hp
    have hb := body_zr p x00 x1 (by rw [← hD]; exact hp)
    have hl : (hmsAbs x).length = f.size := by rw [← hbf, len_byt]
    rw [hl] at hb
    rw [hbf]
    refine ⟨by rw [parse_body (head_zr p x00 x1), hb], by rw [parse_plus, hb]; rfl, by rw [parse_minus, hb]; rfl⟩)
  obtain ⟨hfs, hfs2⟩ := hfs
  obtain ⟨q, hq⟩ : ∃ q, q = z % 3 := ⟨_, rfl⟩
  have hqc : q = 0 ∨ q = 1 ∨ q = 2 := by omega
  have eq : z % 3 = q := hq.symm
  clear hf hbf hD htw h1 h2 hn hq
  go_enter Tryd.func7, Tryd.ntmps7
  go_wp2_with fail
  refine (awake _ (HT.out.below hb.out)).mono ?_
  rintro e w1 ⟨rfl, h1⟩
  replace hb := hide (bel_next hb.out h1)
  clear h1
  go_wp2_with fail
  refine (Ux.out _).mono ?_
  rintro e w2 ⟨rfl, rfl⟩
  go_wp2_with fail
  refine (Fx.out _ (HT.out.below hb.out)).mono ?_
  rintro e w1 ⟨rfl, h1⟩
  replace hb := hide (bel_next hb.out h1)
  clear h1
  go_wp2
  go_loop [6] (fun n => ∃ k : Nat, k ≤ D ∧ n = .int .i64 k) (fun n => D + 1 - (intOf n).toNat)
  case atStart => exact ⟨0, Nat.zero_le _, rfl⟩
  case round =>
    obtain ⟨k, hk, rfl⟩ := hrel
    by_cases hlt : k < D
    · have hks : k < f.size := by omega
      obtain ⟨y0, y1⟩ := r8_.dig_bd (H1.out k hlt hks)
      go_wp2
      go_round
      case rel => exact ⟨k + 1, by omega, by go_num⟩
      case measure => simp [intOf]; omega
    · obtain rfl : k = D := by omega
      have hend : f.size ≤ k ∨ (∃ h : k < f.size, ((f[k]'h).toNat : Int) < 48 ∨ 57 < ((f[k]'h).toNat : Int)) := by
        rcases Nat.lt_or_ge k f.size with h | h
        · refine .inr ⟨h, ?_⟩
          have := H2.out h
          unfold dig at this
          simp at this
          omega
        · exact .inl h
      have W1 := hide hb.out
      rcases hend with he | ⟨he, he | he⟩
      all_goals
        go_upto_region 7 with fail
        go_cut [7] (fun s wx => (∃ p, p + k ≤ 3 ∧ s = .string (mkS (zr p))) ∧ Below w.heap.size w wx)
        case first =>
          rcases (show k = 1 ∨ k = 2 ∨ k = 3 by omega) with rfl | rfl | rfl
          all_goals
            rcases hqc with rfl | rfl | rfl
          all_goals
            go_wp2_with fail
            go_meet
            first
              | exact ⟨⟨0, by omega, rfl⟩, hb.out⟩
              | exact ⟨⟨1, by omega, rfl⟩, hb.out⟩
              | exact ⟨⟨2, by omega, rfl⟩, hb.out⟩
        case rest =>
          obtain ⟨⟨p, hp, rfl⟩, hb'⟩ := hcut
          replace hb := hide hb'
          clear hb'
          have bp := byt_mk (zr p)
          have sp : (mkS (zr p)).size = p := by rw [size_mk]; exact List.length_replicate
          obtain ⟨e1, e2, e3⟩ := HP.out p hp
          generalize mkS (zr p) = Z at *
          have P1 := hide (fun w => hm_.Parse (Z ++ f) w (by rw [← len_byt, byt_append, List.length_append, len_byt, len_byt]; omega))
          have P2 := hide (fun w => hm_.Parse (⟨#[43]⟩ ++ Z ++ f) w (by rw [← len_byt, byt_append, byt_append, List.length_append, List.length_append, show (byt ⟨#[43]⟩).length = 1 from rfl, len_byt, len_byt]; omega))
          have P3 := hide (fun w => hm_.Parse (⟨#[45]⟩ ++ Z ++ f) w (by rw [← len_byt, byt_append, byt_append, List.length_append, List.length_append, show (byt ⟨#[45]⟩).length = 1 from rfl, len_byt, len_byt]; omega))
          rw [byt_append, bp, e1] at P1
          rw [byt_append, byt_append, bp, show byt ⟨#[43]⟩ ++ zr p ++ byt f = 43 :: (zr p ++ byt f) from rfl, e2] at P2
          rw [byt_append, byt_append, bp, show byt ⟨#[45]⟩ ++ zr p ++ byt f = 45 :: (zr p ++ byt f) from rfl, e3] at P3
          simp only [hmsRes] at P1 P2 P3
          have zs : Z.size ≤ 3 := by omega
          clear e1 e2 e3 HP bp
          go_wp2_with fail
          refine (P1.out _).mono ?_
          rintro e w1 ⟨rfl, h1⟩
          replace hb := hide (bel_next hb.out h1)
          clear h1
          go_wp2_with fail
          refine (P2.out _).mono ?_
          rintro e w1 ⟨rfl, h1⟩
          replace hb := hide (bel_next hb.out h1)
          clear h1
          go_wp2_with fail
          refine (P3.out _).mono ?_
          rintro e w1 ⟨rfl, h1⟩
          replace hb := hide (bel_next hb.out h1)
          clear h1
          go_wp2
          go_ret
          exact ⟨rfl, hb.out⟩
end l8_
end Go.Proofs.YtgbojphbodijbaaDoor

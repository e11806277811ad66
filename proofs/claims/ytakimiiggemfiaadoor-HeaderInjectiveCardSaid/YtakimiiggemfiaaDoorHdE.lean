/-
  CONTRACT OF header.Encode, of the code that landed at fefc8ef. Condition: a header of version 1 to 4.
-/
import Derived.Test.YtakimiiggemfiaaDoorHdA
namespace Go.Proofs.YtakimiiggemfiaaDoor
open Go.ChangeShapes Go.WideShapes Go.ChangeAt Go.RowKit
set_option linter.unusedVariables false
theorem Bx.cells1 {w : World} {g : Nat} {v : Value} {vs : List Value} (h : Bx w g (v :: vs)) : w.cell? ⟨g, 0, none⟩ = some v := h.2.1 0 _ rfl
namespace hd_
theorem pix (g i : Nat) (w : World) (h : i < 6) : (Instr.index 42 (.agg #[.pointer (some ⟨g, 1, none⟩), .pointer (some ⟨g, 2, none⟩), .pointer (some ⟨g, 3, none⟩), .pointer (some ⟨g, 4, none⟩), .pointer (some ⟨g, 5, none⟩), .pointer (some ⟨g, 6, none⟩)]) (.int .i64 i)).run Tryd.prog w = .ok (.pointer (some ⟨g, i + 1, none⟩)) w := by
  match i, h with
  | 0, _ => rfl
  | 1, _ => rfl
  | 2, _ => rfl
  | 3, _ => rfl
  | 4, _ => rfl
  | 5, _ => rfl
/-- a header's counts in the order of the encoding. -/
def fs (h : Hd) : List Int := [h.ut, h.sd, h.lp, h.tm, h.ty, h.ch]
theorem fs_at {h : Hd} (hok : h.ok) {i : Nat} (hi : i < 6) : ∃ x, (fs h)[i]? = some x ∧ U32 x := by
  match i, hi with
  | 0, _ => exact ⟨_, rfl, hok.a⟩
  | 1, _ => exact ⟨_, rfl, hok.b⟩
  | 2, _ => exact ⟨_, rfl, hok.c⟩
  | 3, _ => exact ⟨_, rfl, hok.d⟩
  | 4, _ => exact ⟨_, rfl, hok.e⟩
  | 5, _ => exact ⟨_, rfl, hok.f⟩
/-- what is encoded behind i counts. -/
def encI (h : Hd) (i : Nat) : List Int := magicL ++ (verB h.ver :: (zeroL ++ ((fs h).take i).flatMap (be 4)))
theorem encI_step (h : Hd) (i : Nat) (x : Int) (hx : (fs h)[i]? = some x) : encI h i ++ be 4 x = encI h (i + 1) := by
  unfold encI
  rw [List.take_add_one, hx]
  simp
theorem encI_end (h : Hd) : encI h 6 = encH h := by unfold encI encH fs; simp
set_option maxRecDepth 100000 in
set_option maxHeartbeats 2000000 in
theorem Encode (h : Hd) (w : World) (hT : Th w) (hok : h.ok) : Calls Tryd.prog 8 #[h.val] w fun e w' => ∃ (A : Option Addr) (c : Nat), e = .returned (.slice A 44 c) ∧ Ow w' w.heap.size 5 A 44 c ((encH h).map (Value.int .u8)) ∧ Below w.heap.size w w' := by
  have HF := hide (fun i (hi : i < 6) => fs_at hok hi)
  have HS := hide (encI_step h)
  have HE := hide (encI_end h)
  have bx := hide (Bx.new w [.int .i64 h.ver, .int .u32 h.ut, .int .u32 h.sd, .int .u32 h.lp, .int .u32 h.tm, .int .u32 h.ty, .int .u32 h.ch] 24)
  have hb := hide (bl_new w (.cells #[.int .i64 h.ver, .int .u32 h.ut, .int .u32 h.sd, .int .u32 h.lp, .int .u32 h.tm, .int .u32 h.ty, .int .u32 h.ch] 24))
  have HT := hide (hT.below hb.out)
  have hfx := hide (fun (i : Nat) (x : Int) (hx : (fs h)[i]? = some x) => (show ([.int .i64 h.ver, .int .u32 h.ut, .int .u32 h.sd, .int .u32 h.lp, .int .u32 h.tm, .int .u32 h.ty, .int .u32 h.ch] : List Value)[i + 1]? = some (.int .u32 x) by
    show ((fs h).map (Value.int .u32))[i]? = _
    rw [List.getElem?_map, hx]; rfl))
  have hv : ∃ j : Nat, j < 4 ∧ h.ver = (j : Int) + 1 ∧ ([0, 50, 51, 52] : List Int)[j]? = some (verB h.ver) := by
    obtain ⟨v0, v1, _, _, _, _, _, _⟩ := hok
    have : h.ver = 1 ∨ h.ver = 2 ∨ h.ver = 3 ∨ h.ver = 4 := by omega
    rcases this with e | e | e | e <;> rw [e]
    · exact ⟨0, by omega, rfl, rfl⟩
    · exact ⟨1, by omega, rfl, rfl⟩
    · exact ⟨2, by omega, rfl, rfl⟩
    · exact ⟨3, by omega, rfl, rfl⟩
  obtain ⟨j, hj, hjv, hvb⟩ := hv
  have HI := hide (show encI h 0 = magicL ++ [verB h.ver] ++ zeroL by unfold encI; simp)
  generalize hVB : verB h.ver = vb at *
  have HC := hide (HT.out.2 j vb hvb)
  clear hvb hVB hT hok
  obtain ⟨ver, ut, sd, lp, tm, ty, ch⟩ := h
  simp only at hjv
  subst hjv
  generalize hEI : encI ⟨(j : Int) + 1, ut, sd, lp, tm, ty, ch⟩ = enc at *
  generalize hFS : fs ⟨(j : Int) + 1, ut, sd, lp, tm, ty, ch⟩ = fsl at *
  generalize hEN : encH ⟨(j : Int) + 1, ut, sd, lp, tm, ty, ch⟩ = enh at *
  clear hEI hFS hEN
  have d1 : ¬ ((j : Int) + 1 < 1) := by omega
  have d2 : ¬ (4 < (j : Int) + 1) := by omega
  go_enter Tryd.func8, Tryd.ntmps8
  go_upto_region 3 with fail
  obtain ⟨W0, hW0⟩ : ∃ W0, W0 = w.alloc (.cells #[.int .i64 ((j : Int) + 1), .int .u32 ut, .int .u32 sd, .int .u32 lp, .int .u32 tm, .int .u32 ty, .int .u32 ch] 24) := ⟨_, rfl⟩
  rw [← hW0] at bx hb HT HC ⊢
  have hs0 := hide (show W0.heap.size = w.heap.size + 1 by rw [hW0]; simp)
  clear hW0
  have hcI := hide (bx.out.cells1)
  go_upto_region 4 with (refine mk elU8h (b := W0.heap.size) (bl_refl W0) (Nat.le_refl _) (Nat.le_refl _) rfl (.const (.int .i64 0)) (.const (.int .i64 44)) rfl .i64 .i64 0 44 0 44 rfl rfl rfl rfl (by omega) (by omega) (by decide) ?_; intro w1 hO hB)
  have HO := hide hO
  replace hB := hide hB
  clear hO
  go_upto_region 5 with (refine apStr elU8h Tryd.underlying9 HO.out hB.out (Nat.le_refl _) (.tmp 15) (.const (.string ⟨#[84, 90, 105, 102]⟩)) ⟨#[84, 90, 105, 102]⟩ rfl rfl rfl rfl (by decide) ?_; intro A2 c2 w2 hO2 hB2 hg2)
  replace HO := hide (show Ow w2 W0.heap.size 5 A2 4 c2 (magicL.map (Value.int .u8)) from hO2)
  replace hB := hide hB2
  clear hO2 hB2 hg2
  have HC2 := cellE hB.out HC.out
  have HI2 := cellE hB.out hcI.out
  have d3 : IntKind.i64.wrap ((j : Int) + 1 - 1) = j := by rw [IntKind.wrap_i64]; omega
  have d4 : (j : Int) < 4 := by omega
  go_upto_region 6 with (refine ap1A elU8h HO.out hB.out (Nat.le_refl _) (.tmp 17) (.tmp 23) (.int .u8 vb) rfl rfl rfl rfl rfl (by decide) (by decide) ?_; intro A3 c3 w3 hO3 hB3 hg3)
  replace HO := hide (show Ow w3 W0.heap.size 5 A3 5 c3 ((magicL ++ [vb]).map (Value.int .u8)) from hO3)
  replace hB := hide hB3
  clear hO3 hB3 hg3 HC2 HI2
  go_upto_region 7 with (refine apZ elU8h Tryd.underlying3 rfl HO.out hB.out (Nat.le_refl _) (.tmp 25) (.const (.int .i64 15)) .i64 15 rfl rfl rfl rfl (by omega) (by decide) (by decide) ?_; intro A4 c4 w4 hO4 hB4 hg4)
  replace HO := hide (show Ow w4 W0.heap.size 5 A4 20 c4 ((enc 0).map (Value.int .u8)) by rw [HI.out]; exact hO4)
  replace hB := hide hB4
  clear hO4 hB4 hg4
  go_wp2_with fail
  refine (counts _ _).mono ?_
  rintro e w5 ⟨rfl, h1⟩
  replace HO := hide (HO.out.below h1)
  replace hB := hide (bel_next hB.out h1)
  clear h1
  unfold ptrs
  go_wp2
  go_loopw [3, 28] (fun sv iv wr => ∃ (i : Nat) (A : Option Addr) (c : Nat), i ≤ 6 ∧ iv = .int .i64 i ∧ sv = .slice A (20 + 4 * i) c ∧ Hid (Ow wr W0.heap.size 5 A (20 + 4 * i) c ((enc i).map (Value.int .u8))) ∧ Hid (Below W0.heap.size W0 wr)) (fun _ iv _ => 6 - (intOf iv).toNat)
  case atStart => exact ⟨0, A4, c4, by omega, rfl, rfl, HO, hB⟩
  case round =>
    clear HO hB
    obtain ⟨i, A, c, hi, rfl, rfl, HO, hB⟩ := hrel
    by_cases hlt6 : i < 6
    · have hi6 : (i : Int) < 6 := by omega
      have ix := fun W => pix w.heap.size i W hlt6
      obtain ⟨x, hx, x0, x1⟩ := HF.out i hlt6
      have hcx := cellE hB.out (bx.out.2.1 (i + 1) _ (hfx.out i x hx))
      have c5 : IntKind.u64.wrap x = x := by rw [IntKind.wrap_u64]; omega
      have hst := hide (HS.out i x hx)
      clear hx
      go_wp2_with fail
      refine (be_.Append A (20 + 4 * i) c (enc i) 4 x _ (.inr (.inl rfl)) (by omega) HO.out.rd x0 (by omega)).mono ?_
      rintro e w6 ⟨A6, c6, rfl, hO6, h1⟩
      clear hcx
      have hs6 := HO.out.base
      replace hB := hide (bel_next hB.out h1)
      have hst2 := hst.out
      replace HO := hide (show Ow w6 W0.heap.size 5 A6 (20 + 4 * (i + 1)) c6 ((enc (i + 1)).map (Value.int .u8)) by rw [← hst2]; exact hO6.mono hs6)
      clear hO6 hst2
      go_wp2
      go_round
      case rel => exact ⟨i + 1, A6, c6, hlt6, by go_num, rfl, HO, hB⟩
      case measure => simp [intOf]; omega
    · obtain rfl : i = 6 := by omega
      go_wp2
      go_ret
      exact ⟨A, c, rfl, by rw [← HE.out]; exact HO.out.mono (by rw [hs0.out]; omega), bel_next hb.out hB.out⟩
end hd_
end Go.Proofs.YtakimiiggemfiaaDoor

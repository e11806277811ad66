/-
  CONTRACTS of zoneinforef10 (the reference of layer 10): dec and late. One condition on dec: 0 to 999.
-/
import Derived.Test.YtjeclakdgmjbjaaGreatDoorPoW
import Derived.Test.YtjeclakdgmjbjaaGreatDoorRdRef
import Derived.Deep.RegionHeld3
import Derived.Deep.DeepCutAuto
namespace Go.Proofs.YtjeclakdgmjbjaaGreatDoor
open Go.ChangeShapes Go.WideShapes Go.ChangeAt Go.RowKit
set_option linter.unusedVariables false
/-- a concatenation as a variable of its own. -/
theorem cat_ (a b : ByteArray) (n : Nat) (h : a.size + b.size ≤ n) (hn : n ≤ 1000000) : ∃ A : ByteArray, A.size ≤ n ∧ byt A = byt a ++ byt b ∧ ∀ w, (Op.stringOp .add a b).run Tryz.prog w = .ok (.string A) w :=
  ⟨a ++ b, by rw [ByteArray.size_append]; exact h, byt_append a b, fun w => run_string_add_sum w a b (by omega)⟩
theorem cv1_ (W : World) (g : Nat) (c : Int) (c0 : 0 ≤ c) (c1 : c < 256) (h : W.cell? ⟨g, 0, none⟩ = some (.int .u8 c)) : (convert 47 9 (.slice (some ⟨g, 0, none⟩) 1 1)).run Tryz.prog W = .ok (.string ⟨#[UInt8.ofNat c.toNat]⟩) W :=
  run_convert_bytes_back W _ _ 5 ⟨g, 0, none⟩ 1 [UInt8.ofNat c.toNat] Tryz.underlying47 Tryz.underlying5 Tryz.underlying9 (fun j hj => by
    obtain rfl : j = 0 := by simpa using hj
    have : ((UInt8.ofNat c.toNat).toNat : Int) = c := by simp; omega
    simp only [List.getElem_cons_zero, this]
    exact h)
theorem decF_step {v : Int} (h0 : 10 ≤ v) (h1 : v ≤ 999) : decF v = decF (v / 10) ++ [dg (v % 10)] := by
  unfold decF
  rw [if_neg (by omega)]
  by_cases h : v < 100
  · rw [if_pos h, if_pos (by omega)]; rfl
  · rw [if_neg h, if_neg (by omega), if_pos (by omega), show v / 10 / 10 = v / 100 by omega]; rfl
theorem hz1_ {W w6 : World} {c : Int} {T : TypeId} (h : Below (W.alloc (.cells #[.int .u8 c] T)).heap.size (W.alloc (.cells #[.int .u8 c] T)) w6) : w6.cell? ⟨W.heap.size, 0, none⟩ = some (.int .u8 c) :=
  cellE h ((Bx.new W [.int .u8 c] T).2.1 0 _ rfl)
theorem hz2_ {W w6 : World} {c : Int} {T : TypeId} (h : Below (W.alloc (.cells #[.int .u8 c] T)).drew.heap.size (W.alloc (.cells #[.int .u8 c] T)).drew w6) : w6.cell? ⟨W.heap.size, 0, none⟩ = some (.int .u8 c) :=
  cellE h ((Bx.new W [.int .u8 c] T).drew.2.1 0 _ rfl)
namespace r10_
theorem dec1 (v : Int) (w : World) (h0 : 0 ≤ v) (h1 : v < 10) : Calls Tryz.prog 24 #[.int .i64 v] w fun e w' => e = .returned (.string (mkS (decF v))) ∧ Below w.heap.size w w' := by
  have hf := hide (show mkS (decF v) = ⟨#[UInt8.ofNat (48 + v).toNat]⟩ by unfold decF; rw [if_pos h1]; rfl)
  have hcv := fun (W : World) (g : Nat) h => cv1_ W g (48 + v) (by omega) (by omega) h
  go_enter Tryz.func24, Tryz.ntmps24
  go_wp2
  go_ret
  exact ⟨retS2 (by rw [hf.out]), bl_new _ _⟩
set_option maxHeartbeats 4000000 in
theorem decS (v : Int) (w : World) (h0 : 10 ≤ v) (h1 : v ≤ 999) (ih : ∀ w, Calls Tryz.prog 24 #[.int .i64 (v / 10)] w fun e w' => e = .returned (.string (mkS (decF (v / 10)))) ∧ Below w.heap.size w w') :
    Calls Tryz.prog 24 #[.int .i64 v] w fun e w' => e = .returned (.string (mkS (decF v))) ∧ Below w.heap.size w w' := by
  have hd := decF_step h0 h1
  have hl := (decF_is (v := v / 10) (by omega) (by omega)).2.2.2
  have e1 : v.tdiv 10 = v / 10 := Int.tdiv_eq_ediv_of_nonneg (by omega)
  have e2 : v.tmod 10 = v % 10 := Int.tmod_eq_emod_of_nonneg (by omega)
  obtain ⟨q, hq⟩ : ∃ q, v / 10 = q := ⟨_, rfl⟩
  obtain ⟨b, hbb⟩ : ∃ b, v % 10 = b := ⟨_, rfl⟩
  have b0 : 0 ≤ b := by omega
  have b1 : b ≤ 9 := by omega
  have q0 : 0 ≤ q := by omega
  have q1 : q ≤ 99 := by omega
  rw [hq] at ih e1 hd hl
  rw [hbb] at e2 hd
  clear hq hbb
  have hf : mkS (decF v) = mkS (decF q) ++ ⟨#[UInt8.ofNat (48 + b).toNat]⟩ := by
    rw [hd]
    apply byt_inj.1
    rw [byt_append, byt_mk, byt_mk]
    rfl
  clear hd
  obtain ⟨S, hS⟩ : ∃ S, mkS (decF q) = S := ⟨_, rfl⟩
  have hsz : S.size ≤ 3 := by rw [← hS, size_mk]; exact hl
  rw [hS] at ih hf
  clear hS hl
  have hone : (⟨#[UInt8.ofNat (48 + b).toNat]⟩ : ByteArray).size = 1 := rfl
  obtain ⟨A, _, _, hA⟩ := cat_ S ⟨#[UInt8.ofNat (48 + b).toNat]⟩ 4 (by omega) (by omega)
  have hf2 := hide (show mkS (decF v) = A from by
    have := hA w
    rw [run_string_add_sum w S _ (by omega)] at this
    rw [hf]
    simpa using this)
  clear hf
  have hcv := fun (W : World) (g : Nat) h => cv1_ W g (48 + b) (by omega) (by omega) h
  have w8 : IntKind.u8.wrap (48 + b) = 48 + b := by simp [IntKind.wrap, IntKind.bits, IntKind.signed]; omega
  have w64 : IntKind.i64.wrap (48 + b) = 48 + b := by rw [IntKind.wrap_i64]; omega
  have wq : IntKind.i64.wrap q = q := by rw [IntKind.wrap_i64]; omega
  replace ih := hide ih
  go_enter Tryz.func24, Tryz.ntmps24
  go_upto_region 3 with fail
  go_region_with (go_at_call 24; with_reducible refine (ih.out _).mono ?_; rintro e w6 ⟨rfl, h1'⟩; (first | have z := hz1_ h1' | have z := hz2_ h1' | skip); (first | have hbf := hide (bel_next (bl_drew (bl_new w _)) h1') | have hbf := hide (bel_next (bl_drew (bl_refl w)) h1')); clear h1')
  all_goals
    go_wp2
    go_ret
    exact ⟨retS2 hf2.out.symm, by first | exact hbf.out | exact bl_alloc hbf.out _⟩
theorem dec (v : Int) (w : World) (h0 : 0 ≤ v) (h1 : v ≤ 999) : Calls Tryz.prog 24 #[.int .i64 v] w fun e w' => e = .returned (.string (mkS (decF v))) ∧ Below w.heap.size w w' := by
  by_cases ha : v < 10
  · exact dec1 v w h0 ha
  by_cases hb : v < 100
  · exact decS v w (by omega) h1 (fun w => dec1 _ w (by omega) (by omega))
  · exact decS v w (by omega) h1 (fun w => decS _ w (by omega) (by omega) (fun w => dec1 _ w (by omega) (by omega)))
theorem late (d : RD) (w : World) : Calls Tryz.prog 31 #[vday d] w fun e w' => e = .returned (.bool (decide (d.2.2.2.2.2 < 0 ∨ 86400 < d.2.2.2.2.2))) ∧ Below w.heap.size w w' := by
  obtain ⟨K, D, M, Wk, Wd, T⟩ := d
  unfold vday
  simp only
  go_enter Tryz.func31, Tryz.ntmps31
  go_wp2
  all_goals go_ret
  all_goals exact ⟨retb (by simp_all), bl_new _ _⟩
end r10_
end Go.Proofs.YtjeclakdgmjbjaaGreatDoor

/-
  THE WALKS OF THE LAWS OF LAYER 6 (zoneinfolaw06): RuledayWeeks. No conditions beyond the tables'.
-/
import Derived.Test.YtgonchceckifcaaDoorLaw6c
namespace Go.Proofs.YtgonchceckifcaaDoor
open Go.ChangeShapes Go.WideShapes Go.ChangeAt Go.RowKit
set_option linter.unusedVariables false
theorem Tb.set {w : World} (h : Tb w) {g : Nat} (hg : 0 < g) (o : Nat) (v : Value) : Tb (w.setCell ⟨g, o, none⟩ v) :=
  ⟨by have := h.1; simpa [World.setCell] using this, fun i x hi => by rw [World.cell?_setCell_other _ _ _ _ (by intro e; injection e with e; omega)]; exact h.2 i x hi⟩
namespace l6_
set_option maxRecDepth 100000 in
set_option maxHeartbeats 8000000 in
theorem weeks (a0 a1 y n : Int) (w : World) (hT : Tb w) (w0 : (Lit.int .u8 a0).wf = true) (w1 : (Lit.int .u8 a1).wf = true) (w2 : (Lit.int .i64 y).wf = true) (w3 : (Lit.int .u16 n).wf = true) :
    Calls Tryd.prog 6 #[.int .u8 a0, .int .u8 a1, .int .i64 y, .int .u16 n] w fun e w' => e = .returned (.bool true) ∧ Below w.heap.size w w' := by
  obtain ⟨p0, p1⟩ := wf_u8 w0
  obtain ⟨q0, q1⟩ := wf_u8 w1
  obtain ⟨n0, n1⟩ := wf_u16 w3
  have hb := hide (Below.refl w.heap.size w)
  have HT := hide hT
  clear hT w0 w1 w2 w3
  rcases hy : (decide (-200000000000 ≤ y) && decide (y ≤ 200000000000))
  · replace hy := hide hy
    go_enter Tryd.func6, Tryd.ntmps6
    go_wp2_with fail
    refine (awake _ HT.out).mono ?_
    rintro e w1 ⟨rfl, h1⟩
    replace HT := hide (HT.out.below h1)
    replace hb := hide (bel_next hb.out h1)
    clear h1
    go_wp2_with fail
    refine (inyear false _ hy.out).mono ?_
    rintro e w2 ⟨rfl, rfl⟩
    go_wp2_with fail
    refine (awake _ HT.out).mono ?_
    rintro e w1 ⟨rfl, h1⟩
    replace HT := hide (HT.out.below h1)
    replace hb := hide (bel_next hb.out h1)
    clear h1
    go_wp2
    go_ret
    exact ⟨rfl, hb.out⟩
  have hyb : -200000000000 ≤ y ∧ y ≤ 200000000000 := by simpa using hy
  replace hy := hide hy
  obtain ⟨y0, y1⟩ := hyb
  obtain ⟨M, hM⟩ : ∃ M, M = 1 + a0 % 12 := ⟨_, rfl⟩
  obtain ⟨D, hD⟩ : ∃ D, D = a1 % 7 := ⟨_, rfl⟩
  obtain ⟨r, hr⟩ : ∃ r, r = n % 365 := ⟨_, rfl⟩
  have m0 : 1 ≤ M ∧ M ≤ 12 := by omega
  have d0 : 0 ≤ D ∧ D ≤ 6 := by omega
  have r0 : 0 ≤ r ∧ r ≤ 364 := by omega
  have okm : ∀ k : Int, 1 ≤ k → k ≤ 5 → RdOk 3 0 M k D 0 := fun k h1 h2 => ⟨by omega, by omega, .inr (.inr ⟨rfl, rfl, m0.1, m0.2, h1, h2, d0.1, d0.2⟩)⟩
  have Dm := hide (fun (k : Int) (w : World) (hT : Tb w) (h1 : 1 ≤ k) (h2 : k ≤ 5) => rd_.Day y w hT (okm k h1 h2) (by omega) (by omega))
  have rb := fun (k : Int) (h1 : 1 ≤ k) (h2 : k ≤ 5) => rday_bd (okm k h1 h2) (show -200000000001 ≤ y by omega) (by omega)
  have Rb := hide rb
  have rf : ∀ k : Int, rday 3 0 M k D y = rdm y M k D := fun _ => rfl
  have step : ∀ k : Int, 2 ≤ k → k ≤ 5 → (rday 3 0 M k D y - rday 3 0 M (k - 1) D y = 7) ∨ (k = 5 ∧ rday 3 0 M k D y = rday 3 0 M (k - 1) D y) := by
    intro k h1 h2
    rw [rf, rf]
    unfold rdm
    rw [if_pos (show k - 1 ≤ 4 by omega)]
    by_cases h : k ≤ 4
    · rw [if_pos h]; omega
    · rw [if_neg h]; split <;> omega
  have Step := hide step
  have Z1 := hide (fun w hT => rd_.Day (K := 2) (D := r) (M := 0) (Wk := 0) (Wd := 0) (T := 0) y w hT ⟨by omega, by omega, .inr (.inl ⟨rfl, by omega, by omega, rfl, rfl, rfl⟩)⟩ (by omega) (by omega))
  have Z2 := hide (fun w hT => rd_.Day (K := 2) (D := r + 1) (M := 0) (Wk := 0) (Wd := 0) (T := 0) y w hT ⟨by omega, by omega, .inr (.inl ⟨rfl, by omega, by omega, rfl, rfl, rfl⟩)⟩ (by omega) (by omega))
  rw [show rday 2 r 0 0 0 y = ystart y + r from rfl] at Z1
  rw [show rday 2 (r + 1) 0 0 0 y = ystart y + (r + 1) from rfl] at Z2
  have sb := r6_.ystart_bd (show -200000000001 ≤ y by omega) (by omega)
  clear okm rb rf step
  generalize ystart y = s at *
  obtain ⟨m0, m1⟩ := m0
  obtain ⟨d0, d1⟩ := d0
  obtain ⟨r0, r1⟩ := r0
  obtain ⟨sb0, sb1⟩ := sb
  have e1 : 1 + a0 % 12 = M := hM.symm
  have e2 : a1 % 7 = D := hD.symm
  have e3 : n % 365 = r := hr.symm
  clear hM hD hr
  unfold vrd at Dm Z1 Z2
  go_enter Tryd.func6, Tryd.ntmps6
  go_wp2_with fail
  refine (awake _ HT.out).mono ?_
  rintro e wa ⟨rfl, h1⟩
  replace HT := hide (HT.out.below h1)
  replace hb := hide (bel_next hb.out h1)
  clear h1
  go_wp2_with fail
  refine (inyear true _ hy.out).mono ?_
  rintro e w2 ⟨rfl, rfl⟩
  have hg : 0 < wa.heap.size := HT.out.1
  have hwg : w.heap.size ≤ wa.heap.size := hb.out.size
  have bx := hide (Bx.new wa [.int .i64 3, .int .i64 0, .int .i64 M, .int .i64 1, .int .i64 D, .int .i64 0] 23)
  have hbx := hide (bl_new wa (.cells #[.int .i64 3, .int .i64 0, .int .i64 M, .int .i64 1, .int .i64 D, .int .i64 0] 23))
  replace HT := hide (HT.out.below hbx.out)
  replace hb := hide (bel_next hb.out hbx.out)
  clear hbx
  go_wp2_with fail
  refine (Dm.out 1 _ HT.out (by omega) (by omega)).mono ?_
  rintro e wb ⟨rfl, h1⟩
  replace HT := hide (HT.out.below h1)
  replace hb := hide (bel_next hb.out h1)
  replace bx := hide (bx.out.below h1)
  clear h1
  have R1 := Rb.out 1 (by omega) (by omega)
  go_wp2_with fail
  go_loopw [10, 11] (fun lv kv wr => ∃ (j : Nat) (l : Int), 2 ≤ j ∧ j ≤ 6 ∧ kv = .int .i64 j ∧ lv = .int .i64 l ∧ Hid (l = rday 3 0 M ((j : Int) - 1) D y) ∧ Hid (Bx wr wa.heap.size [.int .i64 3, .int .i64 0, .int .i64 M, .int .i64 ((j : Int) - 1), .int .i64 D, .int .i64 0]) ∧ Hid (Tb wr) ∧ Hid (Below w.heap.size w wr)) (fun _ kv _ => 6 - (intOf kv).toNat)
  case atStart => exact ⟨2, _, by omega, by omega, rfl, rfl, hide rfl, bx, HT, hb⟩
  case round =>
    clear bx HT hb R1
    obtain ⟨j, l, hj1, hj2, rfl, rfl, hl, bx, HT, hb⟩ := hrel
    by_cases hlt : j ≤ 5
    · have st := Step.out j (by omega) (by omega)
      rw [← hl.out] at st
      have rb1 := Rb.out j (by omega) (by omega)
      have rb2 := Rb.out ((j : Int) - 1) (by omega) (by omega)
      rw [← hl.out] at rb2
      have Dj := hide (fun w hT => Dm.out j w hT (by omega) (by omega))
      obtain ⟨nx, hnx⟩ : ∃ nx, Hid (rday 3 0 M j D y = nx) := ⟨_, rfl⟩
      rw [hnx.out] at st rb1 Dj
      obtain ⟨rb10, rb11⟩ := rb1
      obtain ⟨rb20, rb21⟩ := rb2
      obtain ⟨x0, x1, x2, x3, x4, x5⟩ := cells6 bx.out
      have f3 := bx.out.fr 3
      have bx2 := hide (bx.out.set 3 (.int .i64 j) (by simp))
      have HT2 := hide (HT.out.set hg 3 (.int .i64 j))
      have hb2 := hide (bl_set hb.out hwg (.int .i64 j) (o := 3))
      rcases st with st | ⟨st0, st⟩
      · go_wp2_with fail
        refine (Dj.out _ HT2.out).mono ?_
        rintro e wc ⟨rfl, h1⟩
        replace HT2 := hide (HT2.out.below h1)
        replace hb2 := hide (bel_next hb2.out h1)
        replace bx2 := hide (bx2.out.below h1)
        clear h1 x0 x1 x2 x3 x4 x5 f3 bx HT hb
        go_wp2
        go_roundw
        case rel => exact ⟨j + 1, _, by omega, by omega, by go_num, rfl, hide (by rw [← hnx.out]; congr 1; omega), by rw [show ((j + 1 : Nat) : Int) - 1 = j by omega]; exact bx2, HT2, hb2⟩
        case measure => simp [intOf]; omega
      · obtain rfl : j = 5 := by omega
        obtain rfl : nx = l := st
        clear st0
        go_wp2_with fail
        refine (Dj.out _ HT2.out).mono ?_
        rintro e wc ⟨rfl, h1⟩
        replace HT2 := hide (HT2.out.below h1)
        replace hb2 := hide (bel_next hb2.out h1)
        replace bx2 := hide (bx2.out.below h1)
        clear h1 x0 x1 x2 x3 x4 x5 f3 bx HT hb
        go_wp2
        go_roundw
        case rel => exact ⟨6, _, by omega, by omega, by go_num, rfl, hide (by rw [← hnx.out]; congr 1 <;> omega), bx2, HT2, hb2⟩
        case measure => simp [intOf] <;> omega
    · obtain rfl : j = 6 := by omega
      have gz := hide (Bx.new wr [.int .i64 2, .int .i64 r, .int .i64 0, .int .i64 0, .int .i64 0, .int .i64 0] 23)
      have hz1 := hide (bl_new wr (.cells #[.int .i64 2, .int .i64 r, .int .i64 0, .int .i64 0, .int .i64 0, .int .i64 0] 23))
      clear bx
      replace gz := hide (gz.out.alloc (.cells #[.int .i64 2, .int .i64 (r + 1), .int .i64 0, .int .i64 0, .int .i64 0, .int .i64 0] 23))
      have go_ : Hid (Bx ((wr.alloc (.cells #[.int .i64 2, .int .i64 r, .int .i64 0, .int .i64 0, .int .i64 0, .int .i64 0] 23)).alloc (.cells #[.int .i64 2, .int .i64 (r + 1), .int .i64 0, .int .i64 0, .int .i64 0, .int .i64 0] 23)) (wr.heap.size + 1) [.int .i64 2, .int .i64 (r + 1), .int .i64 0, .int .i64 0, .int .i64 0, .int .i64 0]) := hide (by simpa using Bx.new (wr.alloc (.cells #[.int .i64 2, .int .i64 r, .int .i64 0, .int .i64 0, .int .i64 0, .int .i64 0] 23)) [.int .i64 2, .int .i64 (r + 1), .int .i64 0, .int .i64 0, .int .i64 0, .int .i64 0] 23)
      have hbo := hide (bl_alloc hz1.out (.cells #[.int .i64 2, .int .i64 (r + 1), .int .i64 0, .int .i64 0, .int .i64 0, .int .i64 0] 23))
      replace HT := hide (HT.out.below hbo.out)
      replace hb := hide (bel_next hb.out hbo.out)
      clear hbo hz1
      go_upto_region 16 with fail
      go_region_held3 (fun w' => w'.cell? ⟨wr.heap.size, 0, none⟩ = some (.int .i64 2) ∧ w'.cell? ⟨wr.heap.size, 1, none⟩ = some (.int .i64 r) ∧ w'.cell? ⟨wr.heap.size, 2, none⟩ = some (.int .i64 0) ∧ w'.cell? ⟨wr.heap.size, 3, none⟩ = some (.int .i64 0) ∧ w'.cell? ⟨wr.heap.size, 4, none⟩ = some (.int .i64 0) ∧ w'.cell? ⟨wr.heap.size, 5, none⟩ = some (.int .i64 0) ∧ w'.cell? ⟨wr.heap.size + 1, 0, none⟩ = some (.int .i64 2) ∧ w'.cell? ⟨wr.heap.size + 1, 1, none⟩ = some (.int .i64 (r + 1)) ∧ w'.cell? ⟨wr.heap.size + 1, 2, none⟩ = some (.int .i64 0) ∧ w'.cell? ⟨wr.heap.size + 1, 3, none⟩ = some (.int .i64 0) ∧ w'.cell? ⟨wr.heap.size + 1, 4, none⟩ = some (.int .i64 0) ∧ w'.cell? ⟨wr.heap.size + 1, 5, none⟩ = some (.int .i64 0) ∧ Hid (Tb w') ∧ Hid (Below w.heap.size w w'))
        (first
          | exact ⟨(cells6 gz.out).1, (cells6 gz.out).2.1, (cells6 gz.out).2.2.1, (cells6 gz.out).2.2.2.1, (cells6 gz.out).2.2.2.2.1, (cells6 gz.out).2.2.2.2.2, (cells6 go_.out).1, (cells6 go_.out).2.1, (cells6 go_.out).2.2.1, (cells6 go_.out).2.2.2.1, (cells6 go_.out).2.2.2.2.1, (cells6 go_.out).2.2.2.2.2, HT, by first | exact hb | exact hide (bl_drew hb.out)⟩
          | (go_split_ands; refine ⟨?_, ?_, ?_, ?_, ?_, ?_, ?_, ?_, ?_, ?_, ?_, ?_, ?_, ?_⟩ <;> first | exact cellE h1' (by assumption) | exact hide (Tb.below (Hid.out (by assumption)) h1') | exact hide (bel_next (Hid.out (by assumption)) h1')))
        (first
          | (go_at_call 12; go_split_ands; with_reducible refine (Z1.out _ (Hid.out (by assumption))).mono ?_; rintro e w6 ⟨rfl, h1'⟩)
          | (go_at_call 12; go_split_ands; with_reducible refine (Z2.out _ (Hid.out (by assumption))).mono ?_; rintro e w6 ⟨rfl, h1'⟩))
      all_goals (try go_split_ands)
      all_goals clear hb
      all_goals rename Hid (Below _ _ _) => hb
      all_goals go_wp2
      all_goals go_ret
      all_goals
        have ew1 : IntKind.i64.wrap (s + r + 1) = s + r + 1 := by simp [IntKind.wrap, IntKind.bits, IntKind.signed]; omega
        have ew2 : IntKind.i64.wrap (s + (r + 1)) = s + (r + 1) := by simp [IntKind.wrap, IntKind.bits, IntKind.signed]; omega
        have ew3 : IntKind.i64.wrap (r + 1) = r + 1 := by simp [IntKind.wrap, IntKind.bits, IntKind.signed]; omega
        exact ⟨by first | rfl | exact retb (by simp [ew1] <;> omega) | exact retb (by simp only [ew1, ew2, ew3] <;> simp <;> omega), hb.out⟩
end l6_
end Go.Proofs.YtgonchceckifcaaDoor

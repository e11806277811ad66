/-
  THE WALKS OF THE FIVE LAWS OF LAYER 1 (zoneinfolaw01): for every input the law returns true and writes nothing that was there. No conditions.
-/
import Derived.Test.YtkgfnaoccjakjaaRef1
namespace Go.Proofs.Ytkgfnaoccjakjaa
open Go.ChangeShapes Go.WideShapes Go.ChangeAt Go.RowKit
set_option linter.unusedVariables false
namespace l1_
set_option maxRecDepth 100000 in
set_option maxHeartbeats 1000000 in
theorem awake (w : World) : Calls Try.prog 8 #[] w fun e w' => e = .returned (.bool true) ∧ Below w.heap.size w w' := by
  go_enter Try.func8, Try.ntmps8
  go_wp2_with fail
  refine (be_.Append _ _ _ [9] 4 16909060 _ (by omega) (by simp) (Rd.lit w 5 [.int .u8 9]) (by omega) (by omega)).mono ?_
  rintro e w1 ⟨A1, c1, rfl, ho1, hb1⟩
  have hb1 := hide (((Below.refl w.heap.size w).alloc (Nat.le_refl _) (.cells #[.int .u8 9] 5)).trans (hb1.mono (by simp)))
  have hr1 : Rd w1 A1 5 ([9, 1, 2, 3, 4].map (Value.int .u8)) := ho1.rd
  clear ho1
  have hl : Bytes [9, 1, 2, 3, 4] := bytes_of_mem (by decide)
  go_wp2_with fail
  refine (be_.Uint_is 16909060 (by omega) (by omega) (by omega) (by omega) hr1 hl (by decide)).mono ?_
  rintro e w2 ⟨rfl, rfl⟩
  go_wp2_with fail
  refine (be_.Int_is (n := 4) (l := [255, 255, 255, 254]) (-2) (by omega) (by omega) (by omega) (by omega) (Rd.ints w1 5 .u8 _ 4 rfl rfl) (bytes_of_mem (by decide)) (by decide)).mono ?_
  rintro e w2 ⟨rfl, rfl⟩
  go_wp2_with fail
  refine (be_.Uint_no _ _ _ _ _ _ (by omega) (by omega) (by omega)).mono ?_
  rintro e w2 ⟨rfl, rfl⟩
  go_wp2_with fail
  refine (be_.Int_no _ _ _ _ _ _ (by omega) (by omega) (by omega)).mono ?_
  rintro e w2 ⟨rfl, rfl⟩
  go_wp2_with fail
  refine (be_.Int_is (n := 8) (l := [128, 0, 0, 0, 0, 0, 0, 0]) (-9223372036854775808) (by omega) (by omega) (by omega) (by omega) (Rd.ints (w1.alloc _) 5 .u8 _ 8 rfl (by simp)) (bytes_of_mem (by decide)) (by decide)).mono ?_
  rintro e w2 ⟨rfl, rfl⟩
  go_wp2_with fail
  refine (r1_.Same _ _ _ _ _ _ [9, 1, 2, 3, 4] _ (by omega) (((hr1.alloc _).alloc _).alloc _) (Rd.ints _ 5 .u8 _ 5 rfl (by simp))).mono ?_
  rintro e w2 ⟨rfl, hb2⟩
  go_wp2_with fail
  refine (be_.Fits_is true (by omega) (by omega) (by omega) (by decide)).mono ?_
  rintro e w3 ⟨rfl, rfl⟩
  go_wp2_with fail
  refine (be_.Fits_is false (by omega) (by omega) (by omega) (by decide)).mono ?_
  rintro e w3 ⟨rfl, rfl⟩
  go_wp2_with fail
  refine (be_.Fits_is true (by omega) (by omega) (by omega) (by decide)).mono ?_
  rintro e w3 ⟨rfl, rfl⟩
  go_wp2_with fail
  refine (be_.Fits_is false (by omega) (by omega) (by omega) (by decide)).mono ?_
  rintro e w3 ⟨rfl, rfl⟩
  have hfin := hide (bel_next (bl_alloc (bl_alloc (bl_alloc hb1.out _) _) _) hb2)
  go_wp2
  go_ret
  exact ⟨rfl, hfin.out⟩

theorem mref (a0 : Option Addr) (len0 cap0 : Nat) (z0 : List Int) (a1 : Int) (a2 : Int) (a3 : Int) (a4 : Int) (w : World) (w0 : IsRw .u8 w a0 len0 cap0 z0) (w1 : (Lit.int .i64 a1).wf = true) (w2 : (Lit.int .u8 a2).wf = true) (w3 : (Lit.int .u64 a3).wf = true) (w4 : (Lit.int .i64 a4).wf = true) :
    Calls Try.prog 3 #[.slice a0 len0 cap0, .int .i64 a1, .int .u8 a2, .int .u64 a3, .int .i64 a4] w fun e w' => e = .returned (.bool true) ∧ Below w.heap.size w w' := by
  obtain ⟨c1, c2⟩ := w0.cap
  have hl : Bytes (z0.take len0) := bytes_of_mem fun x hx => wf_u8 (w0.wf x hx)
  have hr := w0.rd
  have hnil := hide w0.nil
  obtain ⟨i0, i1⟩ := wf_i64 w1
  obtain ⟨k0, k1⟩ := wf_u8 w2
  obtain ⟨v0, v1⟩ := wf_u64 w3
  obtain ⟨s0, s1⟩ := wf_i64 w4
  clear w0 w1 w2 w3 w4
  generalize z0.take len0 = l at *
  by_cases hlen : 1000 < len0
  · go_enter Try.func3, Try.ntmps3
    go_wp2_with fail
    refine (awake _).mono ?_
    rintro e w1 ⟨rfl, hb1⟩
    go_wp2_with fail
    refine (awake _).mono ?_
    rintro e w2 ⟨rfl, hb2⟩
    go_wp2
    go_ret
    exact ⟨rfl, bel_next hb1 hb2⟩
  · have hlen' : len0 ≤ 1000 := by omega
    go_enter Try.func3, Try.ntmps3
    go_wp2_with fail
    refine (awake _).mono ?_
    rintro e w1 ⟨rfl, hb1⟩
    go_wp2_with fail
    refine (r1_.Width _ _ k0 k1).mono ?_
    rintro e w2 ⟨n, rfl, hn, hb2⟩
    have hb2 := hide (bel_next hb1 hb2)
    clear hb1
    have Hn := hide hn; clear hn
    have hr2 := hr.below hb2.out
    by_cases hex : 0 ≤ a1 ∧ a1 + n ≤ len0
    · obtain ⟨x0, x1⟩ := hex
      go_wp2_with fail
      refine (be_.Uint_yes _ _ _ l _ _ _ Hn.out (by omega) x0 x1 hr2 hl).mono ?_
      rintro e w3 ⟨rfl, rfl⟩
      go_wp2_with fail
      refine (r1_.Uint_yes _ _ _ l _ _ _ Hn.out (by omega) x0 x1 hr2 hl).mono ?_
      rintro e w3 ⟨rfl, rfl⟩
      go_wp2_with fail
      refine (be_.Int_yes _ _ _ l _ _ _ Hn.out (by omega) x0 x1 hr2 hl).mono ?_
      rintro e w3 ⟨rfl, rfl⟩
      go_wp2_with fail
      refine (r1_.Int_yes _ _ _ l _ _ _ Hn.out (by omega) x0 x1 hr2 hl).mono ?_
      rintro e w3 ⟨rfl, rfl⟩
      go_wp2_with fail
      refine (be_.Append _ _ _ l _ _ _ Hn.out (by omega) hr2 v0 v1).mono ?_
      rintro e w4 ⟨A4, c4, rfl, ho4, hb4⟩
      have ho4 := hide ho4
      have hr4 := hr2.below hb4
      have hb4 := hide hb4
      go_wp2_with fail
      refine (r1_.Append _ _ _ l _ _ _ Hn.out (by omega) hnil.out hr4 v0 v1).mono ?_
      rintro e w5 ⟨A5, c5, rfl, ho5, hb5⟩
      have ho5 := hide ho5
      have hb5 := hide hb5
      have hnn : n.toNat ≤ 8 := by have := Hn.out; omega
      go_wp2_with fail
      refine (r1_.Same _ _ _ _ _ _ _ _ (by omega) (ho4.out.rd.below hb5.out) ho5.out.rd).mono ?_
      rintro e w6 ⟨rfl, hb6⟩
      have hb6 := hide hb6
      go_wp2_with fail
      refine (be_.Fits _ _ _ Hn.out s0 (by omega)).mono ?_
      rintro e w7 ⟨rfl, rfl⟩
      go_wp2_with fail
      refine (r1_.Fits _ _ _ Hn.out s0 (by omega)).mono ?_
      rintro e w7 ⟨rfl, rfl⟩
      go_wp2
      go_ret
      exact ⟨rfl, bel_next (bel_next (bel_next hb2.out hb4.out) hb5.out) hb6.out⟩
    · have hno : a1 < 0 ∨ (len0 : Int) < a1 + n := by omega
      have Hno := hide hno; clear hno hex
      go_wp2_with fail
      refine (be_.Uint_no _ _ _ _ _ _ Hn.out (by omega) Hno.out).mono ?_
      rintro e w3 ⟨rfl, rfl⟩
      go_wp2_with fail
      refine (r1_.Uint_no _ _ _ _ _ _ Hn.out (by omega) Hno.out).mono ?_
      rintro e w3 ⟨rfl, rfl⟩
      go_wp2_with fail
      refine (be_.Int_no _ _ _ _ _ _ Hn.out (by omega) Hno.out).mono ?_
      rintro e w3 ⟨rfl, rfl⟩
      go_wp2_with fail
      refine (r1_.Int_no _ _ _ _ _ _ Hn.out (by omega) Hno.out).mono ?_
      rintro e w3 ⟨rfl, rfl⟩
      go_wp2_with fail
      refine (be_.Append _ _ _ l _ _ _ Hn.out (by omega) hr2 v0 v1).mono ?_
      rintro e w4 ⟨A4, c4, rfl, ho4, hb4⟩
      have ho4 := hide ho4
      have hr4 := hr2.below hb4
      have hb4 := hide hb4
      go_wp2_with fail
      refine (r1_.Append _ _ _ l _ _ _ Hn.out (by omega) hnil.out hr4 v0 v1).mono ?_
      rintro e w5 ⟨A5, c5, rfl, ho5, hb5⟩
      have ho5 := hide ho5
      have hb5 := hide hb5
      have hnn : n.toNat ≤ 8 := by have := Hn.out; omega
      go_wp2_with fail
      refine (r1_.Same _ _ _ _ _ _ _ _ (by omega) (ho4.out.rd.below hb5.out) ho5.out.rd).mono ?_
      rintro e w6 ⟨rfl, hb6⟩
      have hb6 := hide hb6
      go_wp2_with fail
      refine (be_.Fits _ _ _ Hn.out s0 (by omega)).mono ?_
      rintro e w7 ⟨rfl, rfl⟩
      go_wp2_with fail
      refine (r1_.Fits _ _ _ Hn.out s0 (by omega)).mono ?_
      rintro e w7 ⟨rfl, rfl⟩
      go_wp2
      go_ret
      exact ⟨rfl, bel_next (bel_next (bel_next hb2.out hb4.out) hb5.out) hb6.out⟩

theorem roundTrip (a0 : Option Addr) (len0 cap0 : Nat) (z0 : List Int) (a1 : Int) (a2 : Int) (a3 : Int) (w : World) (w0 : IsRw .u8 w a0 len0 cap0 z0) (w1 : (Lit.int .u8 a1).wf = true) (w2 : (Lit.int .u64 a2).wf = true) (w3 : (Lit.int .i64 a3).wf = true) :
    Calls Try.prog 4 #[.slice a0 len0 cap0, .int .u8 a1, .int .u64 a2, .int .i64 a3] w fun e w' => e = .returned (.bool true) ∧ Below w.heap.size w w' := by
  obtain ⟨c1, c2⟩ := w0.cap
  have hl : Bytes (z0.take len0) := bytes_of_mem fun x hx => wf_u8 (w0.wf x hx)
  have hr := w0.rd
  have hnil := hide w0.nil
  obtain ⟨k0, k1⟩ := wf_u8 w1
  obtain ⟨v0, v1⟩ := wf_u64 w2
  obtain ⟨s0, s1⟩ := wf_i64 w3
  clear w0 w1 w2 w3
  generalize z0.take len0 = l at *
  by_cases hlen : 1000 < len0
  · go_enter Try.func4, Try.ntmps4
    go_wp2_with fail
    refine (awake _).mono ?_
    rintro e w1 ⟨rfl, hb1⟩
    go_wp2_with fail
    refine (awake _).mono ?_
    rintro e w2 ⟨rfl, hb2⟩
    go_wp2
    go_ret
    exact ⟨rfl, bel_next hb1 hb2⟩
  · have hlen' : len0 ≤ 1000 := by omega
    have hll := hide (show l.length = len0 by simpa using hr.len)
    go_enter Try.func4, Try.ntmps4
    go_wp2_with fail
    refine (awake _).mono ?_
    rintro e w1 ⟨rfl, hb1⟩
    go_wp2_with fail
    refine (r1_.Width _ _ k0 k1).mono ?_
    rintro e w2 ⟨n, rfl, hn, hb2⟩
    have hb2 := hide (bel_next hb1 hb2)
    clear hb1
    have hr2 := hr.below hb2.out
    have hu0 : 0 ≤ a3 % 18446744073709551616 ∧ a3 % 18446744073709551616 < 18446744073709551616 := by omega
    obtain ⟨u0, u1⟩ := hu0
    have hW := hide (IntKind.wrap_u64 a3)
    have hsm := sgn_mod n a3 hn s0 s1
    rw [← uval_be] at hsm
    obtain ⟨y, hy⟩ : ∃ y, y = sgn n (uval (be n.toNat (a3 % 18446744073709551616))) := ⟨_, rfl⟩
    obtain ⟨x, hx⟩ : ∃ x, x = uval (be n.toNat a2) := ⟨_, rfl⟩
    rw [← hy] at hsm
    obtain ⟨y1, y2, y3, y4⟩ := hsm
    have y1 := hide y1
    have y2 := hide y2
    have hcase : (n = 1 ∧ x = a2 % 256) ∨ (n = 4 ∧ x = a2 % 4294967296) ∨ (n = 8 ∧ x = a2) := by
      rw [hx, uval_be]
      rcases hn with rfl | rfl | rfl
      · exact .inl ⟨rfl, by simp⟩
      · exact .inr (.inl ⟨rfl, by simp⟩)
      · exact .inr (.inr ⟨rfl, by simp; omega⟩)
    have Hx := hide hx
    have Hy := hide hy
    clear hx hy hn
    rcases hcase with ⟨rfl, he⟩ | ⟨rfl, he⟩ | ⟨rfl, he⟩
    all_goals
      have He := hide he
      clear he
      go_wp2_with fail
      refine (be_.Append _ _ _ l _ _ _ (by omega) (by omega) hr2 v0 v1).mono ?_
      rintro e w4 ⟨A4, c4, rfl, ho4, hb4⟩
      have hcap := ho4.cap
      have hcm := ho4.capMax
      unfold maxLen at hcm
      have ho4 := hide ho4
      have hr4 := hr2.below hb4
      have hb4 := hide hb4
      go_wp2_with fail
      have hsl := (ho4.out.rd).take (k := len0) (by omega)
      rw [List.map_append, List.take_append_of_le_length (by rw [List.length_map, hll.out]; omega), List.take_of_length_le (by rw [List.length_map, hll.out]; omega)] at hsl
      refine (r1_.Same _ _ _ _ _ _ _ _ (by omega) hsl hr4).mono ?_
      rintro e w5 ⟨rfl, hb5⟩
      have hr5 := hr4.below hb5
      have hro5 := hide (ho4.out.rd.below hb5)
      have hb5 := hide hb5
      go_wp2_with fail
      refine (be_.Uint_is x (by omega) (by omega) (by omega) (by omega) hro5.out (hl.app (be_bytes _ _)) (by rw [Int.toNat_natCast, fld_app _ _ _ _ hll.out (be_len _ _)]; exact Hx.out.symm)).mono ?_
      rintro e w6 ⟨rfl, rfl⟩
      go_wp2_with fail
      rw [hW.out]
      refine (be_.Append _ _ _ l _ _ _ (by omega) (by omega) hr5 u0 u1).mono ?_
      rintro e w6 ⟨A6, c6, rfl, ho6, hb6⟩
      have ho6 := hide ho6
      have hb6 := hide hb6
      go_wp2_with fail
      refine (be_.Int_is y (by omega) (by omega) (by omega) (by omega) ho6.out.rd (hl.app (be_bytes _ _)) (by rw [Int.toNat_natCast, fld_app _ _ _ _ hll.out (be_len _ _)]; exact Hy.out.symm)).mono ?_
      rintro e w7 ⟨rfl, rfl⟩
      have he := He.out
      go_wp2_with fail
      refine (be_.Fits _ _ _ (by omega) s0 (by omega)).mono ?_
      rintro e w7 ⟨rfl, rfl⟩
      have y1 := y1.out
      go_wp2_with fail
      refine (be_.Fits_is true (by omega) y3 (by omega) y2.out).mono ?_
      rintro e w7 ⟨rfl, rfl⟩
      go_wp2
      go_ret
      exact ⟨rfl, bel_next (bel_next (bel_next hb2.out hb4.out) hb5.out) hb6.out⟩
set_option maxRecDepth 100000 in
set_option maxHeartbeats 2000000 in
theorem bytes_ (a0 : Option Addr) (len0 cap0 : Nat) (z0 : List Int) (a1 : Int) (a2 : Bool) (w : World) (w0 : IsRw .u8 w a0 len0 cap0 z0) (w1 : (Lit.int .i64 a1).wf = true) :
    Calls Try.prog 5 #[.slice a0 len0 cap0, .int .i64 a1, .bool a2] w fun e w' => e = .returned (.bool true) ∧ Below w.heap.size w w' := by
  obtain ⟨c1, c2⟩ := w0.cap
  have hl : Bytes (z0.take len0) := bytes_of_mem fun x hx => wf_u8 (w0.wf x hx)
  have hr := w0.rd
  have hnil := hide w0.nil
  obtain ⟨i0, i1⟩ := wf_i64 w1
  clear w0 w1
  generalize z0.take len0 = l at *
  by_cases hlen : 1000 < len0 ∨ a1 < -1000 ∨ 2000 < a1
  · have main : ∀ (_ : (1000 < len0 ∨ (len0 ≤ 1000 ∧ a1 < -1000) ∨ (len0 ≤ 1000 ∧ -1000 ≤ a1 ∧ 2000 < a1))), Calls Try.prog 5 #[.slice a0 len0 cap0, .int .i64 a1, .bool a2] w fun e w' => e = .returned (.bool true) ∧ Below w.heap.size w w' := by
      intro h
      clear hlen
      rcases h with h | ⟨h, h'⟩ | ⟨h, h', h''⟩
      all_goals
        go_enter Try.func5, Try.ntmps5
        go_wp2_with fail
        refine (awake _).mono ?_
        rintro e w1 ⟨rfl, hb1⟩
        go_wp2_with fail
        refine (awake _).mono ?_
        rintro e w2 ⟨rfl, hb2⟩
        go_wp2
        go_ret
        exact ⟨rfl, bel_next hb1 hb2⟩
    exact main (by omega)
  · have h1 : len0 ≤ 1000 := by omega
    have h2 : -1000 ≤ a1 := by omega
    have h3 : a1 ≤ 2000 := by omega
    clear hlen
    have hll := hide (show l.length = len0 by simpa using hr.len)
    obtain ⟨n, hn, hna⟩ : ∃ n : Int, (n = 4 ∨ n = 8) ∧ (n = if a2 then 8 else 4) := by cases a2 <;> simp
    obtain ⟨v, b, Hv⟩ := Fe.ex l len0 a1 n
    obtain ⟨x1, b1, Hv1⟩ := Fe.ex l len0 a1 1
    obtain ⟨x2, b2, Hv2⟩ := Fe.ex l len0 (a1 + n - 1) 1
    have hbb : b = (b1 && b2) := by
      rcases hb : b <;> rcases hb1 : b1 <;> rcases hb2 : b2 <;> first
        | rfl
        | (exfalso
           first
             | (have := Hv.yes hb; first | (have := Hv1.no hb1; omega) | (have := Hv2.no hb2; omega))
             | (have := Hv.no hb; have := Hv1.yes hb1; have := Hv2.yes hb2; omega))
    have Hyes := hide Hv.yes
    have Hno := hide Hv.no
    have Hv := hide Hv
    have Hv1 := hide Hv1
    have Hv2 := hide Hv2
    subst hbb
    cases a2
    · simp at hna
      subst hna
      clear hn
      cases b1 <;> cases b2
      all_goals
        go_enter Try.func5, Try.ntmps5
        go_wp2_with fail
        refine (awake _).mono ?_
        rintro e w1 ⟨rfl, hb1⟩
        have hr1 := hr.below hb1
        have hb1 := hide hb1
        go_wp2_with fail
        refine (be_.Uint_e _ _ (by omega) (by omega) hr1 hl Hv.out).mono ?_
        rintro e w2 ⟨rfl, rfl⟩
        go_wp2_with fail
        refine (be_.Uint_e _ _ (by omega) (by omega) hr1 hl Hv1.out).mono ?_
        rintro e w2 ⟨rfl, rfl⟩
        go_wp2_with fail
        refine (be_.Uint_e _ _ (by omega) (by omega) hr1 hl Hv2.out).mono ?_
        rintro e w2 ⟨rfl, rfl⟩
      all_goals first
        | (have hv0 := (Hno.out rfl).2
           subst hv0
           go_wp2
           go_ret
           exact ⟨rfl, hb1.out⟩)
        | skip
      obtain ⟨p1, p2, p3⟩ := Hyes.out rfl
      clear Hv Hv1 Hv2 Hyes Hno i0 i1
      obtain ⟨a1, rfl⟩ := Int.eq_ofNat_of_zero_le p1
      rw [Int.toNat_natCast, show (4 : Int).toNat = 4 from rfl] at p3
      have hvb := uval_bd8 (fld l a1 4) (fld_bytes hl _ _) (by rw [fld_len _ _ _ (by rw [hll.out]; omega)]; omega)
      rw [p3] at hvb
      obtain ⟨hv0, hv1⟩ := hvb
      have Hp3 := hide p3
      clear p3
      go_wp2
      go_loop [14, 15, 16, 17] (fun sum i u16 u17 => ∃ j : Nat, j ≤ 4 ∧ i = .int .i64 j ∧ sum = .int .u64 (uval (fld l a1 j))) (fun _ i _ _ => 4 - (intOf i).toNat)
      case atStart => exact ⟨0, by omega, rfl, by simp [fld_zero, uval]⟩
      case round =>
        obtain ⟨j, hj, rfl, rfl⟩ := hrel
        by_cases hlt : j < 4
        · have hbb := hl (a1 + j)
          have hst := fld_step l a1 j (by rw [hll.out]; omega)
          have ho := fld_one l (a1 + j) (by rw [hll.out]; omega)
          generalize l[a1 + j]?.getD 0 = y at *
          obtain ⟨b0, b1⟩ := hbb
          have hst := hide hst
          have ho := hide ho
          obtain ⟨u0, u1⟩ := uval_bd7 (fld l a1 j) (fld_bytes hl _ _) (by rw [fld_len _ _ _ (by rw [hll.out]; omega)]; omega)
          go_wp2_with fail
          refine (be_.Uint_is y (by omega) (by omega) (by omega) (by omega) hr1 hl ?_).mono ?_
          · rw [show ((a1 : Int) + (j : Int)).toNat = a1 + j from by omega]
            exact ho.out
          rintro e w2 ⟨rfl, rfl⟩
          go_wp2
          go_round
          case rel => exact ⟨j + 1, by omega, by go_num, by rw [hst.out, uval_snoc]⟩
          case measure => simp [intOf]; omega
        · obtain rfl : j = 4 := by omega
          go_wp2
          go_ret
          exact ⟨retb (by rw [Hp3.out]; simp), hb1.out⟩
    · simp at hna
      subst hna
      clear hn
      cases b1 <;> cases b2
      all_goals
        go_enter Try.func5, Try.ntmps5
        go_wp2_with fail
        refine (awake _).mono ?_
        rintro e w1 ⟨rfl, hb1⟩
        have hr1 := hr.below hb1
        have hb1 := hide hb1
        go_wp2_with fail
        refine (be_.Uint_e _ _ (by omega) (by omega) hr1 hl Hv.out).mono ?_
        rintro e w2 ⟨rfl, rfl⟩
        go_wp2_with fail
        refine (be_.Uint_e _ _ (by omega) (by omega) hr1 hl Hv1.out).mono ?_
        rintro e w2 ⟨rfl, rfl⟩
        go_wp2_with fail
        refine (be_.Uint_e _ _ (by omega) (by omega) hr1 hl Hv2.out).mono ?_
        rintro e w2 ⟨rfl, rfl⟩
      all_goals first
        | (have hv0 := (Hno.out rfl).2
           subst hv0
           go_wp2
           go_ret
           exact ⟨rfl, hb1.out⟩)
        | skip
      obtain ⟨p1, p2, p3⟩ := Hyes.out rfl
      clear Hv Hv1 Hv2 Hyes Hno i0 i1
      obtain ⟨a1, rfl⟩ := Int.eq_ofNat_of_zero_le p1
      rw [Int.toNat_natCast, show (8 : Int).toNat = 8 from rfl] at p3
      have hvb := uval_bd8 (fld l a1 8) (fld_bytes hl _ _) (by rw [fld_len _ _ _ (by rw [hll.out]; omega)]; omega)
      rw [p3] at hvb
      obtain ⟨hv0, hv1⟩ := hvb
      have Hp3 := hide p3
      clear p3
      go_wp2
      go_loop [14, 15, 16, 17] (fun sum i u16 u17 => ∃ j : Nat, j ≤ 8 ∧ i = .int .i64 j ∧ sum = .int .u64 (uval (fld l a1 j))) (fun _ i _ _ => 8 - (intOf i).toNat)
      case atStart => exact ⟨0, by omega, rfl, by simp [fld_zero, uval]⟩
      case round =>
        obtain ⟨j, hj, rfl, rfl⟩ := hrel
        by_cases hlt : j < 8
        · have hbb := hl (a1 + j)
          have hst := fld_step l a1 j (by rw [hll.out]; omega)
          have ho := fld_one l (a1 + j) (by rw [hll.out]; omega)
          generalize l[a1 + j]?.getD 0 = y at *
          obtain ⟨b0, b1⟩ := hbb
          have hst := hide hst
          have ho := hide ho
          obtain ⟨u0, u1⟩ := uval_bd7 (fld l a1 j) (fld_bytes hl _ _) (by rw [fld_len _ _ _ (by rw [hll.out]; omega)]; omega)
          go_wp2_with fail
          refine (be_.Uint_is y (by omega) (by omega) (by omega) (by omega) hr1 hl ?_).mono ?_
          · rw [show ((a1 : Int) + (j : Int)).toNat = a1 + j from by omega]
            exact ho.out
          rintro e w2 ⟨rfl, rfl⟩
          go_wp2
          go_round
          case rel => exact ⟨j + 1, by omega, by go_num, by rw [hst.out, uval_snoc]⟩
          case measure => simp [intOf]; omega
        · obtain rfl : j = 8 := by omega
          go_wp2
          go_ret
          exact ⟨retb (by rw [Hp3.out]; simp), hb1.out⟩
set_option maxRecDepth 100000 in
set_option maxHeartbeats 1000000 in
theorem keeps (a0 : Option Addr) (len0 cap0 : Nat) (z0 : List Int) (a1 : Int) (a2 : Int) (w : World) (w0 : IsRw .u8 w a0 len0 cap0 z0) (w1 : (Lit.int .u8 a1).wf = true) (w2 : (Lit.int .u64 a2).wf = true) :
    Calls Try.prog 6 #[.slice a0 len0 cap0, .int .u8 a1, .int .u64 a2] w fun e w' => e = .returned (.bool true) ∧ Below w.heap.size w w' := by
  obtain ⟨c1, c2⟩ := w0.cap
  have hl : Bytes (z0.take len0) := bytes_of_mem fun x hx => wf_u8 (w0.wf x hx)
  have hr := w0.rd
  have hnil := hide w0.nil
  obtain ⟨k0, k1⟩ := wf_u8 w1
  obtain ⟨v0, v1⟩ := wf_u64 w2
  clear w0 w1 w2
  generalize z0.take len0 = l at *
  by_cases hlen : 1000 < len0
  · go_enter Try.func6, Try.ntmps6
    go_wp2_with fail
    refine (awake _).mono ?_
    rintro e w1 ⟨rfl, hb1⟩
    go_wp2_with fail
    refine (awake _).mono ?_
    rintro e w2 ⟨rfl, hb2⟩
    go_wp2
    go_ret
    exact ⟨rfl, bel_next hb1 hb2⟩
  · have hlen' : len0 ≤ 1000 := by omega
    have hll := hide (show l.length = len0 by simpa using hr.len)
    have Hone := hide (oneCells .u8 l)
    go_enter Try.func6, Try.ntmps6
    go_wp2_with fail
    refine (awake _).mono ?_
    rintro e w1 ⟨rfl, hb1⟩
    have hr1 := hr.below hb1
    have hb1 := hide hb1
    have b0 := hide (bl_new w1 (.cells #[] 5))
    have H8 := hide (oneCells .u8 [77, 78, 79, 80, 81, 82, 83, 84])
    go_wp2_with (first
      | (refine apn elU8 (Ow.lit w1 5 [] (by simp)) b0.out (Nat.le_refl _) (hr1.alloc _) (.tmp 19) (.tmp 20) rfl rfl rfl rfl hnil.out Hone.out (by simp [maxLen]; omega) (by simp; omega) ?_; intro A2 c2 w3 ho3 hb3; simp only [Nat.zero_add, List.nil_append, List.length_nil] at ho3)
      | (refine apn elU8 (ho3.alloc _) (bl_alloc hb3 _) (Nat.le_refl _) (Rd.ints w3 5 .u8 [77, 78, 79, 80, 81, 82, 83, 84] 8 rfl rfl) (.tmp 21) (.tmp 22) rfl rfl rfl rfl (fun h => by cases h) H8.out (by simp [maxLen]; omega) (by simp; omega) ?_; intro A4 c4 w4 ho4 hb4; have hcap4 := ho4.cap; have hcm4 := ho4.capMax))
    have hr4 := hr1.below hb4
    have ho4 := hide ho4
    have hb4 := hide hb4
    clear hb3 ho3 hcm4
    have hf4 := ho4.out.form (by omega)
    obtain ⟨g4, rfl, hg4, hg4'⟩ := hf4
    refine (r1_.Width _ _ k0 k1).mono ?_
    rintro e w5 ⟨n, rfl, hn, hb5⟩
    have hnn : 1 ≤ n ∧ n ≤ 8 := by omega
    obtain ⟨hn1, hn2⟩ := hnn
    have Hn := hide hn
    clear hn
    have hro := hide (ho4.out.rd.below hb5)
    have hsl := hro.out.take (k := len0) (by omega)
    rw [List.take_append_of_le_length (by rw [List.length_map, hll.out]; omega), List.take_of_length_le (by rw [List.length_map, hll.out]; omega)] at hsl
    have hr5 := hr4.below hb5
    have hb5 := hide hb5
    go_wp2_with fail
    refine (be_.Append _ _ _ l _ _ _ Hn.out (by omega) hsl v0 v1).mono ?_
    rintro e w6 ⟨A6, c6, rfl, ho6, hb6⟩
    have hlm : (l ++ be n.toNat a2).length = len0 + n.toNat := by rw [List.length_append, hll.out, be_len]
    have hby := hl.app (be_bytes n.toNat a2)
    generalize l ++ be n.toNat a2 = zs at *
    have hm1 : 1 ≤ len0 + n.toNat := by omega
    have hm2 : len0 + n.toNat ≤ 1008 := by omega
    generalize len0 + n.toNat = m at *
    obtain ⟨g6, rfl, hg6, hg6'⟩ := ho6.form (by omega)
    have Hlm := hide hlm
    clear hlm
    have hb5s : w5.heap.size ≤ g6 := hg6
    go_wp2
    go_loopw [10] (fun i wr => ∃ (j : Nat) (zs : List Int), j ≤ m ∧ i = .int .i64 j ∧ Ow wr w5.heap.size 5 (some ⟨g6, 0, none⟩) m c6 (zs.map (Value.int .u8)) ∧ Bytes zs ∧ zs.length = m ∧ Below w5.heap.size w5 wr) (fun i _ => m - (intOf i).toNat)
    case atStart => exact ⟨0, zs, by omega, rfl, ho6, hby, Hlm.out, hb6⟩
    case round =>
      clear ho6 hb6 hby Hlm hg6'
      obtain ⟨j, ys, hj, rfl, ho, hby, hly, hb⟩ := hrel
      by_cases hlt : j < m
      · have hc := ho.cell j hlt
        rw [map_at .u8 ys j (by omega)] at hc
        have hfr := ho.frozen j
        have hyb := hby j
        have hset := ho.set j (.int .u8 ((ys[j]?.getD 0 + 1) % 256))
        rw [map_set] at hset
        have hby' := hby.set j (x := (ys[j]?.getD 0 + 1) % 256) (by omega) (by omega)
        have hset := hide hset
        have hby' := hide hby'
        generalize hy : ys[j]?.getD 0 = y at *
        have Hy := hide hy
        obtain ⟨y0, y1⟩ := hyb
        have Hly := hide hly
        have Hby := hide hby
        have Hb := hide hb
        clear hy hly hby ho hb
        go_wp2
        go_roundw
        case rel => exact ⟨j + 1, _, by omega, by go_num, hset.out, hby'.out, by rw [List.length_set]; exact Hly.out, Hb.out.setCell hb5s _⟩
        case measure => simp [intOf]; omega
      · have Hb := hide hb
        clear hb ho hby hly
        go_wp2_with fail
        refine (r1_.Same _ _ _ _ _ _ _ _ (by omega) (hsl.below Hb.out) (hr5.below Hb.out)).mono ?_
        rintro e w7 ⟨rfl, hb7⟩
        have hr7 := (hro.out.below Hb.out).below hb7
        have hc1 := hr7.flat0 (i := len0) (v := .int .u8 77) (by rw [List.getElem?_append_right (by rw [List.length_map, hll.out]; omega), List.length_map, hll.out, Nat.sub_self]; rfl)
        have hc2 := hr7.flat0 (i := len0 + 7) (v := .int .u8 84) (by rw [List.getElem?_append_right (by rw [List.length_map, hll.out]; omega), List.length_map, hll.out, Nat.add_sub_cancel_left]; rfl)
        have hb7 := hide hb7
        have hl8 : (len0 : Int) < (len0 : Int) + 8 := by omega
        go_wp2
        go_ret
        exact ⟨rfl, bel_next (bel_next (bel_next (bel_next hb1.out hb4.out) hb5.out) Hb.out) hb7.out⟩
set_option maxRecDepth 100000 in
set_option maxHeartbeats 4000000 in
theorem order (a0 : Int) (a1 : Int) (a2 : Int) (a3 : Int) (w0 : (Lit.int .u8 a0).wf = true) (w1 : (Lit.int .u64 a1).wf = true) (w2 : (Lit.int .u64 a2).wf = true) (w3 : (Lit.int .i64 a3).wf = true) (w : World) :
    Calls Try.prog 7 #[.int .u8 a0, .int .u64 a1, .int .u64 a2, .int .i64 a3] w fun e w' => e = .returned (.bool true) ∧ Below w.heap.size w w' := by
  obtain ⟨k0, k1⟩ := wf_u8 w0
  obtain ⟨v0, v1⟩ := wf_u64 w1
  obtain ⟨u0, u1⟩ := wf_u64 w2
  obtain ⟨s0, s1⟩ := wf_i64 w3
  clear w0 w1 w2 w3
  go_enter Try.func7, Try.ntmps7
  go_wp2_with fail
  refine (awake _).mono ?_
  rintro e w1 ⟨rfl, hb1⟩
  go_wp2_with fail
  refine (r1_.Width _ _ k0 k1).mono ?_
  rintro e w2 ⟨n, rfl, hn, hb2⟩
  have hb2 := hide (bel_next hb1 hb2)
  clear hb1
  have hsf : (fitsB 1 a3 = true ∧ fitsB 4 a3 = true) ∨ (fitsB 1 a3 = false ∧ fitsB 4 a3 = true) ∨ (fitsB 1 a3 = false ∧ fitsB 4 a3 = false) := by
    by_cases p : -128 ≤ a3 ∧ a3 < 128
    · exact .inl ⟨by simp [fitsB]; omega, by simp [fitsB]; omega⟩
    · by_cases q : -2147483648 ≤ a3 ∧ a3 < 2147483648
      · exact .inr (.inl ⟨by simp [fitsB]; omega, by simp [fitsB]; omega⟩)
      · exact .inr (.inr ⟨by simp [fitsB]; omega, by simp [fitsB]; omega⟩)
  have F8 := hide (show fitsB 8 a3 = true by simp [fitsB])
  rcases hn with rfl | rfl | rfl
  · have hV : 0 ≤ a1 % 256 ∧ a1 % 256 < 256 := by omega
    have hU : 0 ≤ a2 % 256 ∧ a2 % 256 < 256 := by omega
    go_wp2_with fail
    generalize a1 % 256 = V at *
    generalize a2 % 256 = U at *
    obtain ⟨V0, V1⟩ := hV
    obtain ⟨U0, U1⟩ := hU
    refine (be_.Append _ _ _ [] 1 V _ (by omega) (by omega) (Rd.none_ _) V0 (by omega)).mono ?_
    rintro e w3 ⟨A3, c3, rfl, ho3, hb3⟩
    have hr3 : Rd w3 A3 1 ((be 1 V).map (Value.int .u8)) := ho3.rd
    clear ho3
    have hb3 := hide hb3
    go_wp2_with fail
    refine (be_.Append _ _ _ [] 1 U _ (by omega) (by omega) (Rd.none_ _) U0 (by omega)).mono ?_
    rintro e w4 ⟨A4, c4, rfl, ho4, hb4⟩
    have hr4 : Rd w4 A4 1 ((be 1 U).map (Value.int .u8)) := ho4.rd
    have hr3 := hr3.below hb4
    clear ho4
    have hb4 := hide hb4
    have hfin : ltD V U 1 = decide (V < U) := by
      unfold ltD
      rw [show (256 : Int) ^ 1 = 256 by decide, Int.emod_eq_of_lt V0 V1, Int.emod_eq_of_lt U0 U1]
    have Hfin := hide hfin
    clear hfin
    have hp0 := hide (ltD_zero V U)
    obtain ⟨ad3, rfl, -⟩ := hr3.int (i := 0) (by omega)
    obtain ⟨ad4, rfl, -⟩ := hr4.int (i := 0) (by omega)
    go_wp2
    go_loopw [12, 13] (fun less i wr => ∃ p : Nat, p ≤ 1 ∧ i = .int .i64 ((p : Int) - 1) ∧ less = .bool (ltD V U (1 - p)) ∧ Below w4.heap.size w4 wr) (fun _ i _ => (intOf i + 1).toNat)
    case atStart => exact ⟨1, by omega, by go_num, by rw [Nat.sub_self, hp0.out], Below.refl _ _⟩
    case round =>
      obtain ⟨p, hp, rfl, rfl, hb⟩ := hrel
      rcases p with _ | q
      · have Hb := hide hb
        clear hb
        simp only [Nat.sub_zero] at *
        have h1 : ltD V U 1 = decide (V < U) := Hfin.out
        rw [h1]
        clear h1
        rcases Int.lt_or_le V U with hVU | hVU <;> rcases hsf with ⟨f1, f4⟩ | ⟨f1, f4⟩ | ⟨f1, f4⟩
        all_goals
          have F1 := hide f1
          have F4 := hide f4
          clear f1 f4
          go_wp2_with (first
            | ((with_reducible refine (be_.Fits_is (k := 1) _ (by omega) s0 (by omega) F1.out).mono ?_); rintro e w' ⟨rfl, rfl⟩)
            | ((with_reducible refine (be_.Fits_is (k := 4) _ (by omega) s0 (by omega) F4.out).mono ?_); rintro e w' ⟨rfl, rfl⟩)
            | ((with_reducible refine (be_.Fits_is (k := 8) _ (by omega) s0 (by omega) F8.out).mono ?_); rintro e w' ⟨rfl, rfl⟩))
          go_ret
          exact ⟨retb (by simp; try omega), bel_next (bel_next (bel_next hb2.out hb3.out) hb4.out) Hb.out⟩
      · rw [show ((q + 1 : Nat) : Int) - 1 = (q : Int) from by omega]
        obtain ⟨x1, e1, hc1⟩ := (hr3.below hb).int (i := q) (by omega)
        obtain ⟨x2, e2, hc2⟩ := (hr4.below hb).int (i := q) (by omega)
        cases e1
        cases e2
        rw [be_get _ _ _ (by omega)] at hc1 hc2
        have hs1 := ltD_eq V U (1 - 1 - q)
        have hs2 := ltD_ne V U (1 - 1 - q)
        rw [show 1 - 1 - q + 1 = 1 - q from by omega] at hs1 hs2
        have e3 : 1 - (q + 1) = 1 - 1 - q := by omega
        rw [e3]
        clear e3
        generalize hx : V / 256 ^ (1 - 1 - q) % 256 = x at *
        generalize hy : U / 256 ^ (1 - 1 - q) % 256 = y at *
        have Hb := hide hb
        clear hx hy hb
        by_cases hxy : x = y
        · have hs := hide (hs1 hxy)
          subst hxy
          clear hs1 hs2
          go_wp2
          go_quiet (fail)
          go_wp2
          go_roundw
          case rel => exact ⟨q, by omega, by go_num, by rw [hs.out], bel_drewN Hb.out _⟩
          case measure => simp [intOf] <;> omega
        · have hs := hide (hs2 hxy)
          clear hs1 hs2
          go_wp2
          go_quiet (fail)
          go_wp2
          go_quiet (fail)
          go_wp2
          go_roundw
          case rel => exact ⟨q, by omega, by go_num, by rw [hs.out], bel_drewN Hb.out _⟩
          case measure => simp [intOf] <;> omega
  · have hV : 0 ≤ a1 % 4294967296 ∧ a1 % 4294967296 < 4294967296 := by omega
    have hU : 0 ≤ a2 % 4294967296 ∧ a2 % 4294967296 < 4294967296 := by omega
    go_wp2_with fail
    generalize a1 % 4294967296 = V at *
    generalize a2 % 4294967296 = U at *
    obtain ⟨V0, V1⟩ := hV
    obtain ⟨U0, U1⟩ := hU
    refine (be_.Append _ _ _ [] 4 V _ (by omega) (by omega) (Rd.none_ _) V0 (by omega)).mono ?_
    rintro e w3 ⟨A3, c3, rfl, ho3, hb3⟩
    have hr3 : Rd w3 A3 4 ((be 4 V).map (Value.int .u8)) := ho3.rd
    clear ho3
    have hb3 := hide hb3
    go_wp2_with fail
    refine (be_.Append _ _ _ [] 4 U _ (by omega) (by omega) (Rd.none_ _) U0 (by omega)).mono ?_
    rintro e w4 ⟨A4, c4, rfl, ho4, hb4⟩
    have hr4 : Rd w4 A4 4 ((be 4 U).map (Value.int .u8)) := ho4.rd
    have hr3 := hr3.below hb4
    clear ho4
    have hb4 := hide hb4
    have hfin : ltD V U 4 = decide (V < U) := by
      unfold ltD
      rw [show (256 : Int) ^ 4 = 4294967296 by decide, Int.emod_eq_of_lt V0 V1, Int.emod_eq_of_lt U0 U1]
    have Hfin := hide hfin
    clear hfin
    have hp0 := hide (ltD_zero V U)
    obtain ⟨ad3, rfl, -⟩ := hr3.int (i := 0) (by omega)
    obtain ⟨ad4, rfl, -⟩ := hr4.int (i := 0) (by omega)
    go_wp2
    go_loopw [12, 13] (fun less i wr => ∃ p : Nat, p ≤ 4 ∧ i = .int .i64 ((p : Int) - 1) ∧ less = .bool (ltD V U (4 - p)) ∧ Below w4.heap.size w4 wr) (fun _ i _ => (intOf i + 1).toNat)
    case atStart => exact ⟨4, by omega, by go_num, by rw [Nat.sub_self, hp0.out], Below.refl _ _⟩
    case round =>
      obtain ⟨p, hp, rfl, rfl, hb⟩ := hrel
      rcases p with _ | q
      · have Hb := hide hb
        clear hb
        simp only [Nat.sub_zero] at *
        have h1 : ltD V U 4 = decide (V < U) := Hfin.out
        rw [h1]
        clear h1
        rcases Int.lt_or_le V U with hVU | hVU <;> rcases hsf with ⟨f1, f4⟩ | ⟨f1, f4⟩ | ⟨f1, f4⟩
        all_goals
          have F1 := hide f1
          have F4 := hide f4
          clear f1 f4
          go_wp2_with (first
            | ((with_reducible refine (be_.Fits_is (k := 1) _ (by omega) s0 (by omega) F1.out).mono ?_); rintro e w' ⟨rfl, rfl⟩)
            | ((with_reducible refine (be_.Fits_is (k := 4) _ (by omega) s0 (by omega) F4.out).mono ?_); rintro e w' ⟨rfl, rfl⟩)
            | ((with_reducible refine (be_.Fits_is (k := 8) _ (by omega) s0 (by omega) F8.out).mono ?_); rintro e w' ⟨rfl, rfl⟩))
          go_ret
          exact ⟨retb (by simp; try omega), bel_next (bel_next (bel_next hb2.out hb3.out) hb4.out) Hb.out⟩
      · rw [show ((q + 1 : Nat) : Int) - 1 = (q : Int) from by omega]
        obtain ⟨x1, e1, hc1⟩ := (hr3.below hb).int (i := q) (by omega)
        obtain ⟨x2, e2, hc2⟩ := (hr4.below hb).int (i := q) (by omega)
        cases e1
        cases e2
        rw [be_get _ _ _ (by omega)] at hc1 hc2
        have hs1 := ltD_eq V U (4 - 1 - q)
        have hs2 := ltD_ne V U (4 - 1 - q)
        rw [show 4 - 1 - q + 1 = 4 - q from by omega] at hs1 hs2
        have e3 : 4 - (q + 1) = 4 - 1 - q := by omega
        rw [e3]
        clear e3
        generalize hx : V / 256 ^ (4 - 1 - q) % 256 = x at *
        generalize hy : U / 256 ^ (4 - 1 - q) % 256 = y at *
        have Hb := hide hb
        clear hx hy hb
        by_cases hxy : x = y
        · have hs := hide (hs1 hxy)
          subst hxy
          clear hs1 hs2
          go_wp2
          go_quiet (fail)
          go_wp2
          go_roundw
          case rel => exact ⟨q, by omega, by go_num, by rw [hs.out], bel_drewN Hb.out _⟩
          case measure => simp [intOf] <;> omega
        · have hs := hide (hs2 hxy)
          clear hs1 hs2
          go_wp2
          go_quiet (fail)
          go_wp2
          go_quiet (fail)
          go_wp2
          go_roundw
          case rel => exact ⟨q, by omega, by go_num, by rw [hs.out], bel_drewN Hb.out _⟩
          case measure => simp [intOf] <;> omega
  · have hV : 0 ≤ a1 % 18446744073709551616 ∧ a1 % 18446744073709551616 < 18446744073709551616 := by omega
    have hU : 0 ≤ a2 % 18446744073709551616 ∧ a2 % 18446744073709551616 < 18446744073709551616 := by omega
    go_wp2_with fail
    have e1 : a1 % 18446744073709551616 = a1 := by omega
    have e2 : a2 % 18446744073709551616 = a2 := by omega
    rw [e1] at hV
    rw [e2] at hU
    clear e1 e2
    generalize a1 = V at *
    generalize a2 = U at *
    obtain ⟨V0, V1⟩ := hV
    obtain ⟨U0, U1⟩ := hU
    refine (be_.Append _ _ _ [] 8 V _ (by omega) (by omega) (Rd.none_ _) V0 (by omega)).mono ?_
    rintro e w3 ⟨A3, c3, rfl, ho3, hb3⟩
    have hr3 : Rd w3 A3 8 ((be 8 V).map (Value.int .u8)) := ho3.rd
    clear ho3
    have hb3 := hide hb3
    go_wp2_with fail
    refine (be_.Append _ _ _ [] 8 U _ (by omega) (by omega) (Rd.none_ _) U0 (by omega)).mono ?_
    rintro e w4 ⟨A4, c4, rfl, ho4, hb4⟩
    have hr4 : Rd w4 A4 8 ((be 8 U).map (Value.int .u8)) := ho4.rd
    have hr3 := hr3.below hb4
    clear ho4
    have hb4 := hide hb4
    have hfin : ltD V U 8 = decide (V < U) := by
      unfold ltD
      rw [show (256 : Int) ^ 8 = 18446744073709551616 by decide, Int.emod_eq_of_lt V0 V1, Int.emod_eq_of_lt U0 U1]
    have Hfin := hide hfin
    clear hfin
    have hp0 := hide (ltD_zero V U)
    obtain ⟨ad3, rfl, -⟩ := hr3.int (i := 0) (by omega)
    obtain ⟨ad4, rfl, -⟩ := hr4.int (i := 0) (by omega)
    go_wp2
    go_loopw [12, 13] (fun less i wr => ∃ p : Nat, p ≤ 8 ∧ i = .int .i64 ((p : Int) - 1) ∧ less = .bool (ltD V U (8 - p)) ∧ Below w4.heap.size w4 wr) (fun _ i _ => (intOf i + 1).toNat)
    case atStart => exact ⟨8, by omega, by go_num, by rw [Nat.sub_self, hp0.out], Below.refl _ _⟩
    case round =>
      obtain ⟨p, hp, rfl, rfl, hb⟩ := hrel
      rcases p with _ | q
      · have Hb := hide hb
        clear hb
        simp only [Nat.sub_zero] at *
        have h1 : ltD V U 8 = decide (V < U) := Hfin.out
        rw [h1]
        clear h1
        rcases Int.lt_or_le V U with hVU | hVU <;> rcases hsf with ⟨f1, f4⟩ | ⟨f1, f4⟩ | ⟨f1, f4⟩
        all_goals
          have F1 := hide f1
          have F4 := hide f4
          clear f1 f4
          go_wp2_with (first
            | ((with_reducible refine (be_.Fits_is (k := 1) _ (by omega) s0 (by omega) F1.out).mono ?_); rintro e w' ⟨rfl, rfl⟩)
            | ((with_reducible refine (be_.Fits_is (k := 4) _ (by omega) s0 (by omega) F4.out).mono ?_); rintro e w' ⟨rfl, rfl⟩)
            | ((with_reducible refine (be_.Fits_is (k := 8) _ (by omega) s0 (by omega) F8.out).mono ?_); rintro e w' ⟨rfl, rfl⟩))
          go_ret
          exact ⟨retb (by simp; try omega), bel_next (bel_next (bel_next hb2.out hb3.out) hb4.out) Hb.out⟩
      · rw [show ((q + 1 : Nat) : Int) - 1 = (q : Int) from by omega]
        obtain ⟨x1, e1, hc1⟩ := (hr3.below hb).int (i := q) (by omega)
        obtain ⟨x2, e2, hc2⟩ := (hr4.below hb).int (i := q) (by omega)
        cases e1
        cases e2
        rw [be_get _ _ _ (by omega)] at hc1 hc2
        have hs1 := ltD_eq V U (8 - 1 - q)
        have hs2 := ltD_ne V U (8 - 1 - q)
        rw [show 8 - 1 - q + 1 = 8 - q from by omega] at hs1 hs2
        have e3 : 8 - (q + 1) = 8 - 1 - q := by omega
        rw [e3]
        clear e3
        generalize hx : V / 256 ^ (8 - 1 - q) % 256 = x at *
        generalize hy : U / 256 ^ (8 - 1 - q) % 256 = y at *
        have Hb := hide hb
        clear hx hy hb
        by_cases hxy : x = y
        · have hs := hide (hs1 hxy)
          subst hxy
          clear hs1 hs2
          go_wp2
          go_quiet (fail)
          go_wp2
          go_roundw
          case rel => exact ⟨q, by omega, by go_num, by rw [hs.out], bel_drewN Hb.out _⟩
          case measure => simp [intOf] <;> omega
        · have hs := hide (hs2 hxy)
          clear hs1 hs2
          go_wp2
          go_quiet (fail)
          go_wp2
          go_quiet (fail)
          go_wp2
          go_roundw
          case rel => exact ⟨q, by omega, by go_num, by rw [hs.out], bel_drewN Hb.out _⟩
          case measure => simp [intOf] <;> omega
end l1_
end Go.Proofs.Ytkgfnaoccjakjaa

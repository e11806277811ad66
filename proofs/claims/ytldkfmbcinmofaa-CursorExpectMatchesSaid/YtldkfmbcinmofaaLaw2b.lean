/-
  THE WALK OF CursorExpectMatches (zoneinfolaw02): for every input the law returns true and writes nothing that was there. No conditions.
-/
import Derived.Test.YtldkfmbcinmofaaLaw2
namespace Go.Proofs.Ytldkfmbcinmofaa
open Go.ChangeShapes Go.WideShapes Go.ChangeAt Go.RowKit
set_option linter.unusedVariables false
namespace l2_
theorem set_ne {l : List Int} {i : Nat} {v u : Int} (hi : i < l.length) (hv : l[i]?.getD 0 = v) (hu : v ≠ u) : l[i]?.getD 0 ≠ (l.set i u)[i]?.getD 0 := by
  rw [hv]
  simp [List.getElem?_set_self hi]
  exact hu
theorem set_eq {l : List Int} {i : Nat} {u : Int} (j : Nat) (hj : j < i) : l[j]?.getD 0 = (l.set i u)[j]?.getD 0 := by
  rw [List.getElem?_set_ne (by omega)]
set_option maxRecDepth 100000 in
set_option maxHeartbeats 1000000 in
theorem em_main (A : Option Addr) (n c : Nat) (l : List Int) (P : Nat) (a1 a2 a3 : Int) (K : Nat) (w : World) (hnil : A = none → n = 0 ∧ c = 0) (hn : n ≤ c) (hc : c ≤ 9223372036854775807) (hm : n ≤ 2000) (hP : P ≤ n)
    (hr : Rd w A n (l.map (Value.int .u8))) (hl : Bytes l) (u0 : 0 ≤ a1) (u1 : a1 < 256) (i0 : 0 ≤ a2) (i1 : a2 < 256) (y0 : 0 ≤ a3) (y1 : a3 < 256) (hK : (a1 ≤ (n : Int) - P ∧ a1 = K) ∨ ((n : Int) - P < a1 ∧ n = P + K)) :
    Calls Try.prog 5 #[cu A n c P 0 0, .int .u8 a1, .int .u8 a2, .int .u8 a3] w fun e w' => e = .returned (.bool true) ∧ Below w.heap.size w w' := by
  have V := hide (fun w => r2_.Valid_yes A n c P 0 0 w (by omega) (by omega) (by omega) hm)
  have hPK : P + K ≤ n := by omega
  have hlen := hide (show l.length = n by simpa using hr.len)
  have hr1 := cu_.cut_rd hr hn hPK
  have hnil1 : (if c = P then A else A.map (·.add P)) = none → K = 0 ∧ c - P = 0 := by
    intro h
    have : A = none := by
      split at h
      · exact h
      · simpa using h
    obtain ⟨rfl, rfl⟩ := hnil this
    omega
  generalize hA1 : (if c = P then A else A.map (·.add P)) = A1 at *
  have Hone := hide (oneCells .u8 (fld l P K))
  have Hnil1 := hide hnil1
  have Hr1 := hide hr1
  have Hr := hide hr
  clear hnil hnil1 hr1 hr
  have hsub : P + K - P = K := by omega
  rcases hK with ⟨hK1, hK2⟩ | ⟨hK1, hK2⟩
  case' inl => subst hK2
  case' inr =>
    have hK3 : (n : Int) - (P : Int) = (K : Int) := by omega
    clear hK2
  all_goals
    go_enter Try.func5, Try.ntmps5
    have b4 := hide (Bx.new4 w (.slice A n c) (.int .i64 P) (.int .i64 0) (.int .i64 0) 26)
    go_wp2_with fail
    refine (awake _).mono ?_
    rintro e w1 ⟨rfl, hb⟩
    have b4 := hide (b4.out.below hb)
    have B := hide (bel_next (bl_new _ _) hb)
    clear hb
    obtain ⟨b4a, b4b, b4c, b4d⟩ := b4.out.cells4
    have b4l := b4.out.lt
    go_wp2_with fail
    refine (V.out _).mono ?_
    rintro e w2 ⟨rfl, hb⟩
    have b4 := hide (b4.out.below hb)
    have B := hide (bel_next B.out hb)
    clear hb b4a b4b b4c b4d b4l
    obtain ⟨b4a, b4b, b4c, b4d⟩ := b4.out.cells4
    have b4l := b4.out.lt
    have hl2 : w.heap.size < w2.heap.size := b4l
    have b0 := hide (bl_new w2 (.cells #[] 5))
    have hrW := hide ((Hr1.out.below B.out).below b0.out)
    have hrW' : Hid (Rd (w2.alloc (.cells #[] 5)) A1 (P + K - P) ((fld l P K).map (Value.int .u8))) := by
      have := hide hrW.out
      rwa [hsub]
    have Hnil1' : Hid (A1 = none → P + K - P = 0 ∧ c - P = 0) := by
      have := Hnil1
      rwa [hsub]
    clear hsub
    go_wp2_with (at_builtin; refine apn elU8 (Ow.lit w2 5 [] (by simp)) b0.out (Nat.le_refl _) hrW'.out (.tmp 36) (.tmp 45) rfl rfl rfl rfl Hnil1'.out Hone.out (by simp [maxLen]; omega) (by simp; omega) ?_; intro A3 c3 w3 ho3 hb3; simp only [Nat.zero_add, List.nil_append, List.length_nil, Nat.add_sub_cancel_left] at ho3; clear b4a b4b b4c b4d b4l; obtain ⟨b4a, b4b, b4c, b4d⟩ := (b4.out.below hb3).cells4; have b4l := (b4.out.below hb3).lt)
    have b4 := hide (b4.out.below hb3)
    have hcap := ho3.cap
    have hcm := ho3.capMax
    unfold maxLen at hcm
    have ho3 := hide ho3
    have B := hide (bel_next B.out hb3)
    clear hb3 hrW hrW' Hnil1' b0
    refine (cu_.Expect_yes A n c l P 3 A3 K c3 _ hn hc hPK (Hr.out.below B.out) ho3.out.rd).mono ?_
    rintro e w4 ⟨rfl, hb⟩
    have b4 := hide (b4.out.below hb)
    have ho := hide (ho3.out.below hb)
    have B := hide (bel_next B.out hb)
    clear hb b4a b4b b4c b4d b4l ho3
    obtain ⟨b4a, b4b, b4c, b4d⟩ := b4.out.cells4
    have b4l := b4.out.lt
    by_cases hk0 : K = 0
    · subst hk0
      go_wp2
      go_ret
      exact ⟨rfl, bl_alloc B.out _⟩
    · by_cases ha3 : a3 = 0
      · subst ha3
        go_wp2
        go_ret
        exact ⟨rfl, bl_alloc B.out _⟩
      · obtain ⟨i, hi⟩ : ∃ i : Nat, a2 % (K : Int) = i := ⟨(a2 % K).toNat, by have := Int.emod_nonneg a2 (show (K : Int) ≠ 0 by omega); omega⟩
        have hiK : i < K := by have := Int.emod_lt_of_pos a2 (show (0 : Int) < K by omega); omega
        obtain ⟨g, rfl, hg1, hg2⟩ := ho.out.form (by omega)
        have hgw : w.heap.size < g := by omega
        have hfl : (fld l P K).length = K := by have := ho.out.len; simpa using this
        obtain ⟨v, hv⟩ : ∃ v, (fld l P K)[i]?.getD 0 = v := ⟨_, rfl⟩
        have hvb := fld_bytes hl P K i
        rw [hv] at hvb
        obtain ⟨v0, v1⟩ := hvb
        have hcell : w4.cell? ⟨g, i, none⟩ = some (.int .u8 v) := by
          rw [ho.out.cell i hiK, ← hv]
          simp [List.getElem?_eq_getElem (show i < (fld l P K).length by omega)]
        have hfro : w4.frozen? ⟨g, i, none⟩ = false := ho.out.frozen i
        have Hv := hide hv
        have Hfl := hide hfl
        clear hv hfl
        have e1 : (a3 == 0) = false := by simpa using ha3
        have e2 : ((K : Int) == 0) = false := by simpa using hk0
        have e3 : decide ((K : Int) = 0) = false := by simpa using hk0
        have e4 : decide (a3 = 0) = false := by simpa using ha3
        go_wp2_with fail
        have hne : v ≠ (v + a3) % 256 := by omega
        have hb5 := bl_set (o := i) B.out (show w.heap.size ≤ g by omega) (.int .u8 ((v + a3) % 256))
        have hrd := ((ho.out.set i (.int .u8 ((v + a3) % 256))).alloc (.cells #[.slice A n c, .int .i64 (P + K), .int .i64 0, .int .i64 0] 26)).rd
        rw [← List.map_set] at hrd
        refine (cu_.Expect_differ A n c l P 5 _ K c3 ((fld l P K).set i ((v + a3) % 256)) i _ hn hc hPK ((Hr.out.below hb5).alloc _) hrd hiK (by omega) (fun j hj => set_eq j hj) (set_ne (by rw [Hfl.out]; exact hiK) Hv.out hne)).mono ?_
        rintro e w6 ⟨rfl, hb⟩
        have b4 := hide (((b4.out.set_ne i (show g ≠ w.heap.size by omega) (.int .u8 ((v + a3) % 256))).alloc _).below hb)
        have B := hide (bel_next (bl_alloc hb5 _) hb)
        clear hb b4a b4b b4c b4d b4l hb5 hrd hne hcell hfro
        obtain ⟨b4a, b4b, b4c, b4d⟩ := b4.out.cells4
        have b4l := b4.out.lt
        go_wp2
        go_ret
        exact ⟨retb (by simp), bl_alloc B.out _⟩
theorem expectMatches (a0 : Option Addr) (len0 cap0 : Nat) (z0 : List Int) (p x a : Int) (a1 a2 a3 : Int) (w : World) (w0 : IsRw .u8 w a0 len0 cap0 z0) (k0 : (Lit.int .i64 p).wf = true) (k1 : (Lit.int .i64 x).wf = true) (k2 : (Lit.int .i64 a).wf = true) (w1 : (Lit.int .u8 a1).wf = true) (w2 : (Lit.int .u8 a2).wf = true) (w3 : (Lit.int .u8 a3).wf = true) :
    Calls Try.prog 5 #[cu a0 len0 cap0 p x a, .int .u8 a1, .int .u8 a2, .int .u8 a3] w fun e w' => e = .returned (.bool true) ∧ Below w.heap.size w w' := by
  obtain ⟨c1, c2⟩ := w0.cap
  have hl : Bytes (z0.take len0) := bytes_of_mem fun x hx => wf_u8 (w0.wf x hx)
  have hr := w0.rd
  have hnil := w0.nil
  obtain ⟨u0, u1⟩ := wf_u8 w1
  obtain ⟨i0, i1⟩ := wf_u8 w2
  obtain ⟨y0, y1⟩ := wf_u8 w3
  clear w0 w1 w2 w3 k0 k1 k2
  generalize z0.take len0 = l at *
  by_cases hval : 0 ≤ p ∧ p ≤ len0 ∧ (x ≠ 0 ∨ a = 0) ∧ len0 ≤ 2000
  · obtain ⟨v0, v1, v2, v3⟩ := hval
    by_cases hx : x = 0
    · subst hx
      obtain rfl : a = 0 := by omega
      obtain ⟨P, rfl⟩ := Int.eq_ofNat_of_zero_le v0
      by_cases hle : a1 ≤ (len0 : Int) - P
      · exact em_main a0 len0 cap0 l P a1 a2 a3 a1.toNat w hnil c1 c2 v3 (by omega) hr hl u0 u1 i0 i1 y0 y1 (.inl ⟨hle, by omega⟩)
      · exact em_main a0 len0 cap0 l P a1 a2 a3 (len0 - P) w hnil c1 c2 v3 (by omega) hr hl u0 u1 i0 i1 y0 y1 (.inr ⟨by omega, by omega⟩)
    · have V := hide (fun w => r2_.Valid_yes a0 len0 cap0 p x a w v0 v1 v2 v3)
      clear v2 hnil v0 v1
      go_enter Try.func5, Try.ntmps5
      have b4 := hide (Bx.new4 w (.slice a0 len0 cap0) (.int .i64 p) (.int .i64 x) (.int .i64 a) 26)
      go_wp2_with fail
      refine (awake _).mono ?_
      rintro e w1 ⟨rfl, hb⟩
      have b4 := hide (b4.out.below hb)
      have B := hide (bel_next (bl_new _ _) hb)
      clear hb
      obtain ⟨b4a, b4b, b4c, b4d⟩ := b4.out.cells4
      have b4l := b4.out.lt
      go_wp2_with fail
      refine (V.out _).mono ?_
      rintro e w2 ⟨rfl, hb⟩
      have b4 := hide (b4.out.below hb)
      have B := hide (bel_next B.out hb)
      clear hb b4a b4b b4c b4d b4l
      obtain ⟨b4a, b4b, b4c, b4d⟩ := b4.out.cells4
      have b4l := b4.out.lt
      go_wp2_with fail
      refine (awake _).mono ?_
      rintro e w3 ⟨rfl, hb⟩
      have B := hide (bel_next B.out hb)
      clear hb
      go_wp2
      go_ret
      exact ⟨rfl, B.out⟩
  · have V := hide (fun w => r2_.Valid_no a0 len0 cap0 p x a w hval)
    clear hval hnil
    go_enter Try.func5, Try.ntmps5
    have b4 := hide (Bx.new4 w (.slice a0 len0 cap0) (.int .i64 p) (.int .i64 x) (.int .i64 a) 26)
    go_wp2_with fail
    refine (awake _).mono ?_
    rintro e w1 ⟨rfl, hb⟩
    have b4 := hide (b4.out.below hb)
    have B := hide (bel_next (bl_new _ _) hb)
    clear hb
    obtain ⟨b4a, b4b, b4c, b4d⟩ := b4.out.cells4
    have b4l := b4.out.lt
    go_wp2_with fail
    refine (V.out _).mono ?_
    rintro e w2 ⟨rfl, hb⟩
    have B := hide (bel_next B.out hb)
    clear hb b4a b4b b4c b4d b4l b4
    go_wp2_with fail
    refine (awake _).mono ?_
    rintro e w3 ⟨rfl, hb⟩
    have B := hide (bel_next B.out hb)
    clear hb
    go_wp2
    go_ret
    exact ⟨rfl, B.out⟩
end l2_
end Go.Proofs.Ytldkfmbcinmofaa

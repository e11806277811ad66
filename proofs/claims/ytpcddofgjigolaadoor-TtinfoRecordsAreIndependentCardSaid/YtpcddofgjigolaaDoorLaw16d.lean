/-
  THE WALKS OF THE LAWS OF LAYER 16 (zoneinfolaw16): TtinfoRecordsAreIndependent. No conditions.
-/
import Derived.Test.YtpcddofgjigolaaDoorLaw16
import Derived.Test.YtpcddofgjigolaaDoorTw
import Derived.BigQuiet
namespace Go.Proofs.YtpcddofgjigolaaDoor
open Go.ChangeShapes Go.WideShapes Go.ChangeAt Go.RowKit
set_option linter.unusedVariables false
set_option maxRecDepth 100000
theorem bel_q16 {W w' : World} (h : ∃ q, w' = W.drewN q) : Below W.heap.size W w' := by
  obtain ⟨q, rfl⟩ := h
  exact bel_drewN (Below.refl _ _) q
theorem bx_snd16 (w : World) (o : Obj) (vs : List Value) (T : TypeId) : Bx ((w.alloc o).alloc (.cells vs.toArray T)) (w.heap.size + 1) vs := by
  have := Bx.new (w.alloc o) vs T
  rwa [show (w.alloc o).heap.size = w.heap.size + 1 by simp] at this
theorem tt_eq16 (t u : TT) (w : World) : (binOp .eql 35 (.agg #[.int .i32 t.1, .bool t.2.1, .int .u8 t.2.2]) (.agg #[.int .i32 u.1, .bool u.2.1, .int .u8 u.2.2])).run Tryd.prog w = .ok (.bool (decide (t = u))) w := by
  obtain ⟨a, b, c⟩ := t
  obtain ⟨a', b', c'⟩ := u
  simp only [Prod.mk.injEq]
  by_cases h1 : a = a' <;> by_cases h2 : b = b' <;> by_cases h3 : c = c' <;> simp [go_sem, h1, h2, h3]
namespace l16_
/-- two slices of one length: the same exactly if they read the same numbers. -/
theorem Same2_ (A A' : Option Addr) (n c c' : Nat) (l l' : List Int) (w : World) (hn : n ≤ 9223372036854775807) (hr : Rd w A n (l.map (Value.int .u8))) (hr' : Rd w A' n (l'.map (Value.int .u8))) :
    Calls Tryd.prog 11 #[.slice A n c, .slice A' n c'] w fun e w' => e = .returned (.bool (decide (l = l'))) ∧ ∃ q, w' = w.drewN q := by
  have hl : l.length = n := by have := hr.len; simpa using this
  have hl' : l'.length = n := by have := hr'.len; simpa using this
  obtain ⟨b, hb⟩ : ∃ b, b = decide (l = l') := ⟨_, rfl⟩
  rw [← hb]
  have HB := hide hb
  have HL := hide hl
  have HL' := hide hl'
  clear hb hl hl'
  go_enter Tryd.func11, Tryd.ntmps11
  go_wp2
  go_loopw [5] (fun i wr => ∃ k q : Nat, k ≤ n ∧ i = .int .i64 (k : Nat) ∧ Hid (l.take k = l'.take k) ∧ Hid (wr = w.drewN q)) (fun i _ => n - (intOf i).toNat)
  case atStart => exact ⟨0, 0, by omega, rfl, hide rfl, hide (by simp [World.drewN_zero])⟩
  case round =>
    obtain ⟨k, q, hk, rfl, ht, hw⟩ := hrel
    by_cases hlt : k < n
    · obtain ⟨ad, e1, hc⟩ := (show Rd wr A n (l.map (Value.int .u8)) by rw [hw.out]; exact hr.drewN q).int hlt
      obtain ⟨ad', e2, hc'⟩ := (show Rd wr A' n (l'.map (Value.int .u8)) by rw [hw.out]; exact hr'.drewN q).int hlt
      subst e1 e2
      have x1 : l[k]? = some (l[k]?.getD 0) := by rw [List.getElem?_eq_getElem (by rw [HL.out]; exact hlt)]; rfl
      have x2 : l'[k]? = some (l'[k]?.getD 0) := by rw [List.getElem?_eq_getElem (by rw [HL'.out]; exact hlt)]; rfl
      generalize l[k]?.getD 0 = x at *
      generalize l'[k]?.getD 0 = y at *
      by_cases hxy : x = y
      · subst hxy
        have hs := hide (show l.take (k + 1) = l'.take (k + 1) by rw [List.take_add_one, List.take_add_one, ht.out, x1, x2])
        clear x1 x2
        go_wp2
        go_quiet (fail)
        go_wp2
        go_roundw
        case rel => exact ⟨k + 1, _, by omega, by go_num, hs, hide (by rw [hw.out, World.drewN_drewN])⟩
        case measure => simp [intOf]; omega
      · have hn : (x != y) = true := by simpa using hxy
        have hne : b = false := by
          rw [HB.out]
          exact decide_eq_false (fun h => by rw [h, x2] at x1; injection x1 with x1; exact hxy x1.symm)
        subst hne
        clear x1 x2
        go_wp2
        go_quiet (fail)
        go_wp2
        go_ret
        exact ⟨rfl, _, by rw [hw.out, World.drewN_drewN]⟩
    · obtain rfl : k = n := by omega
      have hne : b = true := by
        rw [HB.out]
        refine decide_eq_true ?_
        have := ht.out
        rwa [List.take_of_length_le (by rw [HL.out]; omega), List.take_of_length_le (by rw [HL'.out]; omega)] at this
      subst hne
      go_wp2
      go_ret
      exact ⟨rfl, _, hw.out⟩
set_option maxHeartbeats 8000000 in
theorem independent (A1 : Option Addr) (n1 c1 : Nat) (ts1 : List TT) (A2 : Option Addr) (n2 c2 : Nat) (ts2 : List TT) (o : Int) (d : Bool) (v o' : Int) (d' : Bool) (v' : Int) (w : World) (hT : Tt w) (h1 : IsTw w A1 n1 c1 ts1) (h2 : IsTw w A2 n2 c2 ts2) (ho : (Lit.int .i32 o).wf = true) (hv : (Lit.int .u8 v).wf = true) (ho' : (Lit.int .i32 o').wf = true) (hv' : (Lit.int .u8 v').wf = true) :
    Calls Tryd.prog 6 #[.slice A1 n1 c1, .slice A2 n2 c2, .agg #[.int .i32 o, .bool d, .int .u8 v], .agg #[.int .i32 o', .bool d', .int .u8 v']] w fun e w' => e = .returned (.bool true) ∧ Below w.heap.size w w' := by
  have HT := hide hT
  clear hT
  have Bx_ : ttOk (o, d, v) := by simp [Lit.wf, IntKind.min, IntKind.max, IntKind.signed, IntKind.bits] at ho hv; unfold ttOk; dsimp only; omega
  have By_ : ttOk (o', d', v') := by simp [Lit.wf, IntKind.min, IntKind.max, IntKind.signed, IntKind.bits] at ho' hv'; unfold ttOk; dsimp only; omega
  clear ho hv ho' hv'
  obtain ⟨nil1, ca1, om1, r1, B1⟩ := h1
  obtain ⟨nil2, ca2, om2, r2, B2⟩ := h2
  replace nil1 := hide nil1
  replace nil2 := hide nil2
  have hb := hide (bl_alloc (bl_new w (.cells #[.int .i32 o, .bool d, .int .u8 v] 35)) (.cells #[.int .i32 o', .bool d', .int .u8 v'] 35))
  have bx := hide ((Bx.new w [.int .i32 o, .bool d, .int .u8 v] 35).alloc (.cells #[.int .i32 o', .bool d', .int .u8 v'] 35))
  have by_ := hide (bx_snd16 w (.cells #[.int .i32 o, .bool d, .int .u8 v] 35) [.int .i32 o', .bool d', .int .u8 v'] 35)
  replace r1 := hide (r1.below hb.out)
  replace r2 := hide (r2.below hb.out)
  by_cases hn : 50 < n1
  · have hn' : (50 : Int) < n1 := by omega
    clear r1 r2 B1 B2 bx by_ Bx_ By_
    go_enter Tryd.func6, Tryd.ntmps6
    go_upto_region 1 with fail
    generalize ((w.alloc (.cells #[.int .i32 o, .bool d, .int .u8 v] 35)).alloc (.cells #[.int .i32 o', .bool d', .int .u8 v'] 35)) = w0 at *
    go_wp2_with fail
    refine (awake _ (HT.out.below hb.out)).mono ?_
    rintro e w1 ⟨rfl, h1⟩
    replace hb := hide (bel_next hb.out h1)
    clear h1
    go_wp2_with fail
    refine (awake _ (HT.out.below hb.out)).mono ?_
    rintro e w9 ⟨rfl, h1⟩
    replace hb := hide (bel_next hb.out h1)
    clear h1
    go_wp2
    go_ret
    exact ⟨rfl, hb.out⟩
  by_cases hn2 : 50 < n2
  · have hn' : (50 : Int) < n2 := by omega
    clear r1 r2 B1 B2 bx by_ Bx_ By_
    go_enter Tryd.func6, Tryd.ntmps6
    go_upto_region 1 with fail
    generalize ((w.alloc (.cells #[.int .i32 o, .bool d, .int .u8 v] 35)).alloc (.cells #[.int .i32 o', .bool d', .int .u8 v'] 35)) = w0 at *
    go_wp2_with fail
    refine (awake _ (HT.out.below hb.out)).mono ?_
    rintro e w1 ⟨rfl, h1⟩
    replace hb := hide (bel_next hb.out h1)
    clear h1
    go_wp2_with fail
    refine (awake _ (HT.out.below hb.out)).mono ?_
    rintro e w9 ⟨rfl, h1⟩
    replace hb := hide (bel_next hb.out h1)
    clear h1
    go_wp2
    go_ret
    exact ⟨rfl, hb.out⟩
  have k1 : (n1 : Int) ≤ 50 := by omega
  have k2 : (n2 : Int) ≤ 50 := by omega
  obtain ⟨p1, hp1⟩ : ∃ p1, p1 = n1 * 6 := ⟨_, rfl⟩
  obtain ⟨p2, hp2⟩ : ∃ p2, p2 = n2 * 6 := ⟨_, rfl⟩
  have B12 : ∀ t ∈ ts1 ++ ts2, ttOk t := fun t ht => (List.mem_append.1 ht).elim (B1 t) (B2 t)
  have E1 := hide (fun A c w hA hr => tt_.Encode A n1 c p1 ts1 w (by omega) hp1 hA hr B1)
  have E2 := hide (fun A c w hA hr => tt_.Encode A n2 c p2 ts2 w (by omega) hp2 hA hr B2)
  have E3 := hide (fun A c w hA hr => tt_.Encode A (n1 + n2) c (p1 + p2) (ts1 ++ ts2) w (by omega) (by omega) hA hr B12)
  rw [eTT_app] at E3
  have Ex := hide (fun A c w hA hr => tt_.Encode A 1 c 6 [(o, d, v)] w (by decide) rfl hA hr (by intro t ht; rw [List.mem_singleton] at ht; subst ht; exact Bx_))
  have Ey := hide (fun A c w hA hr => tt_.Encode A 1 c 6 [(o', d', v')] w (by decide) rfl hA hr (by intro t ht; rw [List.mem_singleton] at ht; subst ht; exact By_))
  rw [eTT_one] at Ex Ey
  generalize eTT ts1 = ex at *
  generalize eTT ts2 = ey at *
  have Sm := hide (fun A A' c c' w hr hr' => r1_.Same A A' (p1 + p2) c (p1 + p2) c' (ex ++ ey) w (by omega) hr hr')
  have SP := hide (fun A A' c c' w hr hr' => Same2_ A A' 6 c c' (e6 (o, d, v)) (e6 (o', d', v')) w (by decide) hr hr')
  have O1 := hide (tcs_cells ts1)
  have O2 := hide (tcs_cells ts2)
  have O3 := hide (oneCells .u8 ex)
  have O4 := hide (oneCells .u8 ey)
  have z1 : p1 ≤ 300 := by omega
  have z2 : p2 ≤ 300 := by omega
  clear B1 B2 B12 hp1 hp2
  go_enter Tryd.func6, Tryd.ntmps6
  go_upto_region 1 with fail
  generalize ((w.alloc (.cells #[.int .i32 o, .bool d, .int .u8 v] 35)).alloc (.cells #[.int .i32 o', .bool d', .int .u8 v'] 35)) = w0 at *
  go_wp2_with fail
  refine (awake _ (HT.out.below hb.out)).mono ?_
  rintro e w1 ⟨rfl, h1⟩
  replace hb := hide (bel_next hb.out h1)
  replace r1 := hide (r1.out.below h1)
  replace r2 := hide (r2.out.below h1)
  replace bx := hide (bx.out.below h1)
  replace by_ := hide (by_.out.below h1)
  clear h1
  go_upto_region 3 with fail
  have hoE := hide (show Ok 3 (w1.alloc (.cells #[] 35)) w1.heap.size 35 (some ⟨w1.heap.size, 0, none⟩) 0 0 [] from Ok.lit 3 w1 35 [] 0 rfl (by decide))
  have hbE := hide (bl_new w1 (.cells #[] 35))
  have rE := hide (r1.out.alloc (.cells #[] 35))
  have rF := hide r2.out
  have mx1 := hide (show 0 + n1 ≤ maxLen by simp [maxLen]; omega)
  have mx2 := hide (show (0 + n1) * 8 ≤ 140737488355328 by omega)
  have mx3 := hide (show n1 + n2 ≤ maxLen by simp [maxLen]; omega)
  have mx4 := hide (show (n1 + n2) * 8 ≤ 140737488355328 by omega)
  go_upto_region 4 with (at_builtin; first | (refine apK elTT (by decide) hoE.out hbE.out (Nat.le_refl _) rE.out (.tmp 26) (.tmp 27) rfl rfl rfl rfl nil1.out O1.out mx1.out mx2.out ?_; intro A3 c3 w3 ho3 h3 _; rw [Nat.zero_add] at ho3 ⊢; rw [List.nil_append] at ho3; replace ho3 := hide ho3; replace h3 := hide h3) | (refine apK elTT (by decide) ho3.out h3.out (Nat.le_refl _) (rF.out.below h3.out) (.tmp 28) (.tmp 29) rfl rfl rfl rfl nil2.out O2.out mx3.out mx4.out ?_; intro A4 c4 w4 ho4 h4 _; replace ho4 := hide ho4; replace h4 := hide h4))
  have h1 := h4.out
  replace hb := hide (bel_next hb.out h1)
  replace r1 := hide (r1.out.below h1)
  replace r2 := hide (r2.out.below h1)
  replace bx := hide (bx.out.below h1)
  replace by_ := hide (by_.out.below h1)
  clear h1
  have nilb := hide ho4.out.nilcap
  rw [← tcs_app] at ho4
  have rb := hide ho4.out.rd
  clear ho3 h3 hoE hbE rE rF mx1 mx2 mx3 mx4 ho4 h4
  have hE := hide (show Ow (w4.alloc (.cells #[] 5)) w4.heap.size 5 (some ⟨w4.heap.size, 0, none⟩) 0 0 [] from Ow.lit w4 5 [] (by decide))
  have hB := hide (bl_new w4 (.cells #[] 5))
  have rA := hide (r1.out.alloc (.cells #[] 5))
  have mx1 := hide (show 0 + p1 ≤ maxLen by simp [maxLen]; omega)
  have mx2 := hide (show (0 + p1) * 1 ≤ 140737488355328 by omega)
  have mx3 := hide (show p1 + p2 ≤ maxLen by simp [maxLen]; omega)
  have mx4 := hide (show (p1 + p2) * 1 ≤ 140737488355328 by omega)
  go_wp2_with fail
  refine (E1.out _ _ _ nil1.out rA.out).mono ?_
  rintro e w6 ⟨A6, c6, rfl, o6, h1⟩
  replace hE := hide (hE.out.below h1)
  replace hB := hide (bel_next hB.out h1)
  clear h1 rA
  have nil6 := hide o6.nilcap
  have r6 := hide o6.rd
  clear o6
  go_wp2_with (at_builtin; refine apA elU8 hE.out hB.out (Nat.le_refl _) r6.out (.tmp 31) (.tmp 33) rfl rfl rfl rfl nil6.out O3.out mx1.out mx2.out ?_; intro A7 c7 w7 ho7 h7 _; rw [Nat.zero_add] at ho7 ⊢; rw [List.nil_append] at ho7; replace ho7 := hide ho7; replace h7 := hide h7)
  have rB := hide (r2.out.below h7.out)
  refine (E2.out _ _ _ nil2.out rB.out).mono ?_
  rintro e w8 ⟨A8, c8, rfl, o8, h1⟩
  replace ho7 := hide (ho7.out.below h1)
  replace h7 := hide (bel_next h7.out h1)
  clear h1 rB
  have nil8 := hide o8.nilcap
  have r8 := hide o8.rd
  clear o8
  go_upto_region 5 with (at_builtin; refine apA elU8 ho7.out h7.out (Nat.le_refl _) r8.out (.tmp 34) (.tmp 36) rfl rfl rfl rfl nil8.out O4.out mx3.out mx4.out ?_; intro A9 c9 w9 ho9 h9 _; replace ho9 := hide ho9; replace h9 := hide h9)
  have h1 := h9.out
  replace hb := hide (bel_next hb.out h1)
  replace r1 := hide (r1.out.below h1)
  replace r2 := hide (r2.out.below h1)
  replace bx := hide (bx.out.below h1)
  replace by_ := hide (by_.out.below h1)
  replace rb := hide (rb.out.below h1)
  clear h1
  rw [← List.map_append] at ho9
  have ra := hide ho9.out.rd
  clear hE hB r6 ho7 h7 r8 ho9 h9 mx1 mx2 mx3 mx4 nil6 nil8 r1 r2
  have q0 := bx.out.2.1 0 _ rfl
  have q1 := bx.out.2.1 1 _ rfl
  have q2 := bx.out.2.1 2 _ rfl
  have rl := hide (show Rk 3 (w9.alloc (.cells #[.int .i32 o, .bool d, .int .u8 v] 35)) (some ⟨w9.heap.size, 0, none⟩) 1 (tcs ([(o, d, v)] : List TT)) from (Ok.lit 3 w9 35 (tcs ([(o, d, v)] : List TT)) 1 rfl (by simp [maxLen])).rd)
  replace hb := hide (bl_alloc hb.out (.cells #[.int .i32 o, .bool d, .int .u8 v] 35))
  replace bx := hide (bx.out.alloc (.cells #[.int .i32 o, .bool d, .int .u8 v] 35))
  replace by_ := hide (by_.out.alloc (.cells #[.int .i32 o, .bool d, .int .u8 v] 35))
  replace rb := hide (rb.out.alloc (.cells #[.int .i32 o, .bool d, .int .u8 v] 35))
  replace ra := hide (ra.out.alloc (.cells #[.int .i32 o, .bool d, .int .u8 v] 35))
  go_wp2_with fail
  clear q0 q1 q2
  refine (Ex.out _ _ _ (fun h => by cases h) rl.out).mono ?_
  rintro e w10 ⟨Ap, cp, rfl, op, h1⟩
  replace hb := hide (bel_next hb.out h1)
  replace bx := hide (bx.out.below h1)
  replace by_ := hide (by_.out.below h1)
  replace rb := hide (rb.out.below h1)
  replace ra := hide (ra.out.below h1)
  clear h1
  have rp := hide op.rd
  clear rl op
  have q0 := by_.out.2.1 0 _ rfl
  have q1 := by_.out.2.1 1 _ rfl
  have q2 := by_.out.2.1 2 _ rfl
  have rl := hide (show Rk 3 (w10.alloc (.cells #[.int .i32 o', .bool d', .int .u8 v'] 35)) (some ⟨w10.heap.size, 0, none⟩) 1 (tcs ([(o', d', v')] : List TT)) from (Ok.lit 3 w10 35 (tcs ([(o', d', v')] : List TT)) 1 rfl (by simp [maxLen])).rd)
  replace hb := hide (bl_alloc hb.out (.cells #[.int .i32 o', .bool d', .int .u8 v'] 35))
  replace bx := hide (bx.out.alloc (.cells #[.int .i32 o', .bool d', .int .u8 v'] 35))
  replace by_ := hide (by_.out.alloc (.cells #[.int .i32 o', .bool d', .int .u8 v'] 35))
  replace rb := hide (rb.out.alloc (.cells #[.int .i32 o', .bool d', .int .u8 v'] 35))
  replace ra := hide (ra.out.alloc (.cells #[.int .i32 o', .bool d', .int .u8 v'] 35))
  replace rp := hide (rp.out.alloc (.cells #[.int .i32 o', .bool d', .int .u8 v'] 35))
  go_wp2_with fail
  clear q0 q1 q2
  refine (Ey.out _ _ _ (fun h => by cases h) rl.out).mono ?_
  rintro e w11 ⟨Aq, cq, rfl, oq, h1⟩
  replace hb := hide (bel_next hb.out h1)
  replace bx := hide (bx.out.below h1)
  replace by_ := hide (by_.out.below h1)
  replace rb := hide (rb.out.below h1)
  replace ra := hide (ra.out.below h1)
  replace rp := hide (rp.out.below h1)
  clear h1
  have rq := hide oq.rd
  clear rl oq
  go_upto_region 7 with fail
  have k0 := bx.out.2.1 0 _ rfl
  have k1' := bx.out.2.1 1 _ rfl
  have k2' := bx.out.2.1 2 _ rfl
  have j0 := by_.out.2.1 0 _ rfl
  have j1 := by_.out.2.1 1 _ rfl
  have j2 := by_.out.2.1 2 _ rfl
  by_cases hxy : ((o, d, v) : TT) = (o', d', v')
  · have hs : decide (e6 (o, d, v) = e6 (o', d', v')) = true := decide_eq_true ((e6_inj Bx_ By_).2 hxy)
    have he := fun W => tt_eq16 (o, d, v) (o', d', v') W
    rw [decide_eq_true hxy] at he
    rw [hs] at SP
    clear hs hxy
    go_region_held3 (fun w' => w'.cell? ⟨w.heap.size, 0, none⟩ = some (.int .i32 o) ∧ w'.cell? ⟨w.heap.size, 1, none⟩ = some (.bool d) ∧ w'.cell? ⟨w.heap.size, 2, none⟩ = some (.int .u8 v) ∧ w'.cell? ⟨w.heap.size + 1, 0, none⟩ = some (.int .i32 o') ∧ w'.cell? ⟨w.heap.size + 1, 1, none⟩ = some (.bool d') ∧ w'.cell? ⟨w.heap.size + 1, 2, none⟩ = some (.int .u8 v') ∧ Hid (Rk 3 w' A4 (n1 + n2) (tcs (ts1 ++ ts2))) ∧ Hid (Rd w' A9 (p1 + p2) ((ex ++ ey).map (Value.int .u8))) ∧ Hid (Rd w' Ap 6 ((e6 (o, d, v)).map (Value.int .u8))) ∧ Hid (Rd w' Aq 6 ((e6 (o', d', v')).map (Value.int .u8))) ∧ Hid (Below w.heap.size w w'))
      (first
        | exact ⟨k0, k1', k2', j0, j1, j2, by first | exact rb | exact hide (Rk.drew rb.out), by first | exact ra | exact hide (Rd.drew ra.out), by first | exact rp | exact hide (Rd.drew rp.out), by first | exact rq | exact hide (Rd.drew rq.out), by first | exact hb | exact hide (bl_drew hb.out)⟩
        | (go_split_ands; refine ⟨?_, ?_, ?_, ?_, ?_, ?_, ?_, ?_, ?_, ?_, ?_⟩ <;> first | exact cellE h1 (by assumption) | exact hide (Rk.below (Hid.out (by assumption)) h1) | exact hide (Rd.below (Hid.out (by assumption)) h1) | exact hide (bel_next (Hid.out (by assumption)) h1)))
      (first
        | (go_at_call 12; go_split_ands; refine (E3.out _ _ _ nilb.out (Hid.out (by assumption))).mono ?_; rintro e w20 ⟨A20, c20, rfl, o20, h1⟩; replace o20 := hide o20)
        | (go_at_call 11; go_split_ands; with_reducible refine (Sm.out _ _ _ _ _ o20.out.rd (Hid.out (by assumption))).mono ?_; rintro e w21 ⟨rfl, h1⟩)
        | (go_at_call 11; go_split_ands; with_reducible refine (SP.out _ _ _ _ _ (Hid.out (by assumption)) (Hid.out (by assumption))).mono ?_; rintro e w22 ⟨rfl, hq⟩; have h1 := bel_q16 hq))
    go_wp2
    go_ret
    go_split_ands
    exact ⟨rfl, Hid.out (by assumption)⟩
  · have hs : decide (e6 (o, d, v) = e6 (o', d', v')) = false := decide_eq_false (fun h => hxy ((e6_inj Bx_ By_).1 h))
    have he := fun W => tt_eq16 (o, d, v) (o', d', v') W
    rw [decide_eq_false hxy] at he
    rw [hs] at SP
    clear hs hxy
    go_region_held3 (fun w' => w'.cell? ⟨w.heap.size, 0, none⟩ = some (.int .i32 o) ∧ w'.cell? ⟨w.heap.size, 1, none⟩ = some (.bool d) ∧ w'.cell? ⟨w.heap.size, 2, none⟩ = some (.int .u8 v) ∧ w'.cell? ⟨w.heap.size + 1, 0, none⟩ = some (.int .i32 o') ∧ w'.cell? ⟨w.heap.size + 1, 1, none⟩ = some (.bool d') ∧ w'.cell? ⟨w.heap.size + 1, 2, none⟩ = some (.int .u8 v') ∧ Hid (Rk 3 w' A4 (n1 + n2) (tcs (ts1 ++ ts2))) ∧ Hid (Rd w' A9 (p1 + p2) ((ex ++ ey).map (Value.int .u8))) ∧ Hid (Rd w' Ap 6 ((e6 (o, d, v)).map (Value.int .u8))) ∧ Hid (Rd w' Aq 6 ((e6 (o', d', v')).map (Value.int .u8))) ∧ Hid (Below w.heap.size w w'))
      (first
        | exact ⟨k0, k1', k2', j0, j1, j2, by first | exact rb | exact hide (Rk.drew rb.out), by first | exact ra | exact hide (Rd.drew ra.out), by first | exact rp | exact hide (Rd.drew rp.out), by first | exact rq | exact hide (Rd.drew rq.out), by first | exact hb | exact hide (bl_drew hb.out)⟩
        | (go_split_ands; refine ⟨?_, ?_, ?_, ?_, ?_, ?_, ?_, ?_, ?_, ?_, ?_⟩ <;> first | exact cellE h1 (by assumption) | exact hide (Rk.below (Hid.out (by assumption)) h1) | exact hide (Rd.below (Hid.out (by assumption)) h1) | exact hide (bel_next (Hid.out (by assumption)) h1)))
      (first
        | (go_at_call 12; go_split_ands; refine (E3.out _ _ _ nilb.out (Hid.out (by assumption))).mono ?_; rintro e w20 ⟨A20, c20, rfl, o20, h1⟩; replace o20 := hide o20)
        | (go_at_call 11; go_split_ands; with_reducible refine (Sm.out _ _ _ _ _ o20.out.rd (Hid.out (by assumption))).mono ?_; rintro e w21 ⟨rfl, h1⟩)
        | (go_at_call 11; go_split_ands; with_reducible refine (SP.out _ _ _ _ _ (Hid.out (by assumption)) (Hid.out (by assumption))).mono ?_; rintro e w22 ⟨rfl, hq⟩; have h1 := bel_q16 hq))
    go_wp2
    go_ret
    go_split_ands
    exact ⟨rfl, Hid.out (by assumption)⟩
end l16_
end Go.Proofs.YtpcddofgjigolaaDoor

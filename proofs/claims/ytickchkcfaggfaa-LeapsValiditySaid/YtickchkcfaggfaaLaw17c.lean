/-
  THE WALKS OF THE LAWS OF LAYER 17 (zoneinfolaw17): LeapsValidity. No conditions.
-/
import Derived.Test.YtickchkcfaggfaaLaw17
import Derived.Test.YtickchkcfaggfaaLw
namespace Go.Proofs.Ytickchkcfaggfaa
open Go.ChangeShapes Go.WideShapes Go.ChangeAt Go.RowKit
set_option linter.unusedVariables false
set_option maxRecDepth 100000
/-- a record stored, cell by cell. -/
theorem lcs_set (t : LP) : ∀ (ts : List LP) (i : Nat), ((lcs ts).set (i * 2) (.int .i64 t.1)).set (i * 2 + 1) (.int .i32 t.2) = lcs (ts.set i t)
  | [], i => by simp [lcs]
  | a :: l, 0 => by simp [lcs, lc]
  | a :: l, i + 1 => by
    have ih := lcs_set t l i
    unfold lcs at ih ⊢
    rw [List.set_cons_succ, List.flatMap_cons, List.flatMap_cons, ← ih, show (i + 1) * 2 = i * 2 + 2 by omega]
    rfl
namespace l17_
set_option maxHeartbeats 8000000 in
theorem validity (A2 : Option Addr) (n2 c2 : Nat) (ts : List LP) (cut : Int) (w : World) (h2 : IsLw w A2 n2 c2 ts) (hq : (Lit.int .u8 cut).wf = true) :
    Calls Try.prog 5 #[.slice A2 n2 c2, .int .u8 cut] w fun e w' => e = .returned (.bool true) ∧ Below w.heap.size w w' := by
  obtain ⟨q0, q1⟩ := wf_u8 hq
  have l2 := hide h2.len
  obtain ⟨nil2, ca2, om2, r2, B2⟩ := h2
  replace nil2 := hide nil2
  have nc2 := hide (And.intro nil2.out ca2)
  clear hq
  have hb := hide (Below.refl w.heap.size w)
  by_cases hn2 : 100 < n2
  · have hn' : (100 : Int) < n2 := by omega
    clear r2 B2 l2
    go_enter Try.func5, Try.ntmps5
    go_wp2_with fail
    refine (awake _).mono ?_
    rintro e w1 ⟨rfl, h1⟩
    replace hb := hide (bel_next hb.out h1)
    clear h1
    go_wp2_with fail
    refine (awake _).mono ?_
    rintro e w9 ⟨rfl, h1⟩
    replace hb := hide (bel_next hb.out h1)
    clear h1
    go_wp2
    go_ret
    exact ⟨rfl, hb.out⟩
  have k2 : (n2 : Int) ≤ 100 := by omega
  replace r2 := hide r2
  have V1 := hide (fun A c w hA hr => lp_.Valid A n2 c ts 1 false w (by decide) (by decide) rfl (by omega) hA hr B2)
  have V2 := hide (fun A c w hA hr => lp_.Valid A n2 c ts 2 false w (by decide) (by decide) rfl (by omega) hA hr B2)
  have V3 := hide (fun A c w hA hr => lp_.Valid A n2 c ts 3 false w (by decide) (by decide) rfl (by omega) hA hr B2)
  have V4 := hide (fun A c w hA hr => lp_.Valid A n2 c ts 4 true w (by decide) (by decide) rfl (by omega) hA hr B2)
  have NV := hide (fun A c w hA hr => lp_.NeedsV4 A n2 c ts w (by omega) hA hr B2)
  rcases h3 : vL ts false with _ | _
  · rw [h3] at V1 V2 V3 NV
    clear h3
    rcases h4 : vL ts true with _ | _
    · rw [h4] at V4 NV
      clear h4 l2 B2
      go_enter Try.func5, Try.ntmps5
      go_wp2_with fail
      refine (awake _).mono ?_
      rintro e w1 ⟨rfl, h1⟩
      replace hb := hide (bel_next hb.out h1)
      replace r2 := hide (r2.out.below h1)
      clear h1
      go_wp2_with fail
      refine (V3.out _ _ _ nc2.out r2.out).mono ?_
      rintro e w2 ⟨rfl, h1⟩
      replace hb := hide (bel_next hb.out h1)
      replace r2 := hide (r2.out.below h1)
      clear h1
      go_wp2_with fail
      refine (V4.out _ _ _ nc2.out r2.out).mono ?_
      rintro e w3 ⟨rfl, h1⟩
      replace hb := hide (bel_next hb.out h1)
      replace r2 := hide (r2.out.below h1)
      clear h1
      go_wp2_with fail
      refine (V1.out _ _ _ nc2.out r2.out).mono ?_
      rintro e w4 ⟨rfl, h1⟩
      replace hb := hide (bel_next hb.out h1)
      replace r2 := hide (r2.out.below h1)
      clear h1
      go_wp2_with fail
      refine (V2.out _ _ _ nc2.out r2.out).mono ?_
      rintro e w5 ⟨rfl, h1⟩
      replace hb := hide (bel_next hb.out h1)
      replace r2 := hide (r2.out.below h1)
      clear h1
      go_wp2_with fail
      refine (NV.out _ _ _ nc2.out r2.out).mono ?_
      rintro e w6 ⟨rfl, h1⟩
      replace hb := hide (bel_next hb.out h1)
      replace r2 := hide (r2.out.below h1)
      clear h1
      go_wp2
      go_ret
      exact ⟨rfl, hb.out⟩
    · rw [h4] at V4 NV
      by_cases hs : n2 < 2
      · have hs' : (n2 : Int) < 2 := by omega
        have hs'' : decide ((n2 : Int) < 2) = true := by simpa using hs'
        clear h4 l2 B2
        go_enter Try.func5, Try.ntmps5
        go_wp2_with fail
        refine (awake _).mono ?_
        rintro e w1 ⟨rfl, h1⟩
        replace hb := hide (bel_next hb.out h1)
        replace r2 := hide (r2.out.below h1)
        clear h1
        go_wp2_with fail
        refine (V3.out _ _ _ nc2.out r2.out).mono ?_
        rintro e w2 ⟨rfl, h1⟩
        replace hb := hide (bel_next hb.out h1)
        replace r2 := hide (r2.out.below h1)
        clear h1
        go_wp2_with fail
        refine (V4.out _ _ _ nc2.out r2.out).mono ?_
        rintro e w3 ⟨rfl, h1⟩
        replace hb := hide (bel_next hb.out h1)
        replace r2 := hide (r2.out.below h1)
        clear h1
        go_wp2_with fail
        refine (V1.out _ _ _ nc2.out r2.out).mono ?_
        rintro e w4 ⟨rfl, h1⟩
        replace hb := hide (bel_next hb.out h1)
        replace r2 := hide (r2.out.below h1)
        clear h1
        go_wp2_with fail
        refine (V2.out _ _ _ nc2.out r2.out).mono ?_
        rintro e w5 ⟨rfl, h1⟩
        replace hb := hide (bel_next hb.out h1)
        replace r2 := hide (r2.out.below h1)
        clear h1
        go_wp2_with fail
        refine (NV.out _ _ _ nc2.out r2.out).mono ?_
        rintro e w6 ⟨rfl, h1⟩
        replace hb := hide (bel_next hb.out h1)
        replace r2 := hide (r2.out.below h1)
        clear h1
        go_wp2
        go_ret
        exact ⟨rfl, hb.out⟩
      · have hs'' : decide ((n2 : Int) < 2) = false := by simp; omega
        obtain ⟨k, hk, kn⟩ : ∃ k : Nat, cut.tmod (n2 : Int) = (k : Int) ∧ k < n2 := ⟨(cut.tmod n2).toNat, by have := Int.tmod_nonneg (n2 : Int) q0; omega, by have := Int.tmod_nonneg (n2 : Int) q0; have := Int.tmod_lt_of_pos cut (show (0 : Int) < n2 by omega); omega⟩
        obtain ⟨i, hi, hin⟩ : ∃ i : Nat, (k : Int).tmod ((n2 : Int) - 1) = (i : Int) ∧ i + 1 < n2 := ⟨((k : Int).tmod ((n2 : Int) - 1)).toNat, by have := Int.tmod_nonneg ((n2 : Int) - 1) (show (0 : Int) ≤ k by omega); omega, by have := Int.tmod_nonneg ((n2 : Int) - 1) (show (0 : Int) ≤ k by omega); have := Int.tmod_lt_of_pos (k : Int) (show (0 : Int) < (n2 : Int) - 1 by omega); omega⟩
        have d1 : IntKind.i64.wrap ((n2 : Int) - 1) = (n2 : Int) - 1 := by rw [IntKind.wrap_i64]; omega
        have d2 : (k : Int) ≤ (c2 : Int) := by omega
        have hvt := vL_take h4 (k := k) (by rw [l2.out]; exact kn)
        have VT := hide (fun c w hA hr => lp_.Valid A2 k c (ts.take k) 4 true w (by decide) (by decide) rfl (by omega) hA hr (fun t ht => B2 t (List.mem_of_mem_take ht)))
        rw [hvt] at VT
        have r2t := hide (show Rk 2 w A2 k (lcs (ts.take k)) by rw [← lcs_take]; exact r2.out.take (by omega))
        have hsw := hide (vL_swap h4 (i := i) (by rw [l2.out]; exact hin))
        replace B2 := hide B2
        clear h4 hvt
        go_enter Try.func5, Try.ntmps5
        go_wp2_with fail
        refine (awake _).mono ?_
        rintro e w1 ⟨rfl, h1⟩
        replace hb := hide (bel_next hb.out h1)
        replace r2 := hide (r2.out.below h1)
        clear h1
        go_wp2_with fail
        refine (V3.out _ _ _ nc2.out r2.out).mono ?_
        rintro e w2 ⟨rfl, h1⟩
        replace hb := hide (bel_next hb.out h1)
        replace r2 := hide (r2.out.below h1)
        clear h1
        go_wp2_with fail
        refine (V4.out _ _ _ nc2.out r2.out).mono ?_
        rintro e w3 ⟨rfl, h1⟩
        replace hb := hide (bel_next hb.out h1)
        replace r2 := hide (r2.out.below h1)
        clear h1
        go_wp2_with fail
        refine (V1.out _ _ _ nc2.out r2.out).mono ?_
        rintro e w4 ⟨rfl, h1⟩
        replace hb := hide (bel_next hb.out h1)
        replace r2 := hide (r2.out.below h1)
        clear h1
        go_wp2_with fail
        refine (V2.out _ _ _ nc2.out r2.out).mono ?_
        rintro e w5 ⟨rfl, h1⟩
        replace hb := hide (bel_next hb.out h1)
        replace r2 := hide (r2.out.below h1)
        clear h1
        go_wp2_with fail
        refine (NV.out _ _ _ nc2.out r2.out).mono ?_
        rintro e w6 ⟨rfl, h1⟩
        replace hb := hide (bel_next hb.out h1)
        replace r2 := hide (r2.out.below h1)
        clear h1
        go_wp2_with fail
        refine (VT.out _ _ ⟨fun h => (by have := nil2.out h; omega), (by have := nc2.out.2; omega)⟩ (r2t.out.below hb.out)).mono ?_
        rintro e w7 ⟨rfl, h1⟩
        replace hb := hide (bel_next hb.out h1)
        replace r2 := hide (r2.out.below h1)
        clear h1
        have r7 := hide r2.out
        have k0 := hide (show Ok 2 (w7.alloc (.cells #[] 38)) w7.heap.size 38 (some ⟨w7.heap.size, 0, none⟩) 0 0 [] from Ok.lit 2 w7 38 [] 0 rfl (by decide))
        have b0 := hide (bl_new w7 (.cells #[] 38))
        have rz := hide (r2.out.alloc (.cells #[] 38))
        have hcl := hide (lcs_cells ts)
        go_upto_region 14 with (at_builtin; refine apK elLP (by decide) k0.out b0.out (Nat.le_refl _) rz.out (.tmp 66) (.tmp 67) rfl rfl rfl rfl (fun h => by have := nil2.out h; omega) hcl.out (by simp [maxLen]; omega) (by omega) ?_; intro A8 c8 w8 ho8 hb8 _; rw [Nat.zero_add] at ho8 ⊢; rw [List.nil_append] at ho8; replace ho8 := hide ho8; replace hb8 := hide hb8)
        have hb0 := hide hb.out
        replace hb := hide (bel_next hb.out hb8.out)
        replace r2 := hide (r2.out.below hb8.out)
        obtain ⟨g, rfl, hg, _⟩ := ho8.out.form (by omega)
        have nil8 := hide ho8.out.nilcap
        have cap8 := hide ho8.out.cap
        have hi0 : i < n2 := by omega
        have hi1 : i + 1 < n2 := by omega
        obtain ⟨ad, t, e1, ht, f0, f1⟩ := r2.out.lp hi0
        obtain ⟨_, t', e2, ht', f2, f3⟩ := r2.out.lp hi1
        subst e1
        cases e2
        have ix1 : IntKind.i64.wrap ((i : Int) + 1) = ((i + 1 : Nat) : Int) := by rw [IntKind.wrap_i64]; omega
        have in1 : ((i + 1 : Nat) : Int) < (n2 : Int) := by omega
        have in0 : (i : Int) < (n2 : Int) := by omega
        have lz : (lcs ts).length = n2 * 2 := by rw [lcs_len, l2.out]
        have cl : ∀ {u : World} {A : Option Addr} {xs : List Value} {j : Nat}, Ok 2 u w7.heap.size 38 (some ⟨g, 0, none⟩) n2 c8 xs → j < n2 * 2 → ∃ v, u.cell? ⟨g, j, none⟩ = some v := fun h hj => ⟨_, by rw [h.cell _ hj, List.getElem?_eq_getElem (by rw [h.len]; exact hj)]⟩
        obtain ⟨_, q0⟩ := cl (A := none) ho8.out (show i * 2 < n2 * 2 by omega)
        obtain ⟨_, q1⟩ := cl (A := none) ho8.out (show i * 2 + 1 < n2 * 2 by omega)
        have z0 := ho8.out.frozen (i * 2)
        have z1 := ho8.out.frozen (i * 2 + 1)
        have hset := ((ho8.out.set (i * 2) (.int .i64 t'.1)).set (i * 2 + 1) (.int .i32 t'.2))
        rw [lcs_set] at hset
        have hbs : Below w7.heap.size w7 ((w8.setCell ⟨g, i * 2, none⟩ (.int .i64 t'.1)).setCell ⟨g, i * 2 + 1, none⟩ (.int .i32 t'.2)) := bl_set (bl_set hb8.out hg _) hg _
        have htt := hide ht
        have htt' := hide ht'
        replace hsw := hsw.out
        rw [ht, ht'] at hsw
        replace hsw := hide (show vL ((ts.set i t').set (i + 1) t) true = false from hsw)
        replace hset := hide hset
        replace hbs := hide hbs
        clear ht ht' cl
        go_upto_region 15 with fail
        clear q0 q1 z0 z1 f0 f1 f2 f3 ho8 hb8 r2
        generalize ((w8.setCell ⟨g, i * 2, none⟩ (.int .i64 t'.1)).setCell ⟨g, i * 2 + 1, none⟩ (.int .i32 t'.2)) = w9 at *
        obtain ⟨_, t2, e2, ht2, f0, f1⟩ := (r7.out.below hbs.out).lp hi0
        cases e2
        have cl : ∀ j, j < n2 * 2 → ∃ v, w9.cell? ⟨g, j, none⟩ = some v := fun j hj => ⟨_, by rw [hset.out.cell _ hj, List.getElem?_eq_getElem (by rw [hset.out.len]; exact hj)]⟩
        obtain ⟨_, q0⟩ := cl ((i + 1) * 2) (by omega)
        obtain ⟨_, q1⟩ := cl ((i + 1) * 2 + 1) (by omega)
        have z0 := hset.out.frozen ((i + 1) * 2)
        have z1 := hset.out.frozen ((i + 1) * 2 + 1)
        obtain rfl : t2 = t := by have := htt.out; rw [ht2] at this; injection this
        have hset2 := ((hset.out.set ((i + 1) * 2) (.int .i64 t2.1)).set ((i + 1) * 2 + 1) (.int .i32 t2.2))
        rw [lcs_set] at hset2
        have hbs2 : Below w7.heap.size w7 ((w9.setCell ⟨g, (i + 1) * 2, none⟩ (.int .i64 t2.1)).setCell ⟨g, (i + 1) * 2 + 1, none⟩ (.int .i32 t2.2)) := bl_set (bl_set hbs.out hg _) hg _
        have hb9 := hide (bel_next hb0.out hbs2)
        have r9 := hide hset2.rd
        have VX := hide (fun w hA hr => lp_.Valid (some ⟨g, 0, none⟩) n2 c8 ((ts.set i t').set (i + 1) t2) 4 true w (by decide) (by decide) rfl (by omega) hA hr (fun u hu => by
          rcases List.mem_or_eq_of_mem_set hu with h | rfl
          · rcases List.mem_or_eq_of_mem_set h with h | rfl
            · exact B2.out u h
            · exact B2.out _ (List.mem_of_getElem? htt'.out)
          · exact B2.out _ (List.mem_of_getElem? htt.out)))
        rw [hsw.out] at VX
        clear hset hset2 hbs hbs2 ht2 cl
        go_upto_region 16 with fail
        clear q0 q1 z0 z1 f0 f1
        generalize ((w9.setCell ⟨g, (i + 1) * 2, none⟩ (.int .i64 t2.1)).setCell ⟨g, (i + 1) * 2 + 1, none⟩ (.int .i32 t2.2)) = wA at *
        go_wp2_with fail
        refine (VX.out _ ⟨fun h => (by cases h), cap8.out⟩ r9.out).mono ?_
        rintro e wB ⟨rfl, h1⟩
        replace hb9 := hide (bel_next hb9.out h1)
        clear h1
        go_wp2_with fail
        go_ret
        exact ⟨rfl, hb9.out⟩
  · have h4 := vL_34 h3
    rw [h3] at V1 V2 V3 NV
    clear h3
    rw [h4] at V4 NV
    by_cases hs : n2 < 2
    · have hs' : (n2 : Int) < 2 := by omega
      have hs'' : decide ((n2 : Int) < 2) = true := by simpa using hs'
      clear h4 l2 B2
      go_enter Try.func5, Try.ntmps5
      go_wp2_with fail
      refine (awake _).mono ?_
      rintro e w1 ⟨rfl, h1⟩
      replace hb := hide (bel_next hb.out h1)
      replace r2 := hide (r2.out.below h1)
      clear h1
      go_wp2_with fail
      refine (V3.out _ _ _ nc2.out r2.out).mono ?_
      rintro e w2 ⟨rfl, h1⟩
      replace hb := hide (bel_next hb.out h1)
      replace r2 := hide (r2.out.below h1)
      clear h1
      go_wp2_with fail
      refine (V4.out _ _ _ nc2.out r2.out).mono ?_
      rintro e w3 ⟨rfl, h1⟩
      replace hb := hide (bel_next hb.out h1)
      replace r2 := hide (r2.out.below h1)
      clear h1
      go_wp2_with fail
      refine (V1.out _ _ _ nc2.out r2.out).mono ?_
      rintro e w4 ⟨rfl, h1⟩
      replace hb := hide (bel_next hb.out h1)
      replace r2 := hide (r2.out.below h1)
      clear h1
      go_wp2_with fail
      refine (V2.out _ _ _ nc2.out r2.out).mono ?_
      rintro e w5 ⟨rfl, h1⟩
      replace hb := hide (bel_next hb.out h1)
      replace r2 := hide (r2.out.below h1)
      clear h1
      go_wp2_with fail
      refine (NV.out _ _ _ nc2.out r2.out).mono ?_
      rintro e w6 ⟨rfl, h1⟩
      replace hb := hide (bel_next hb.out h1)
      replace r2 := hide (r2.out.below h1)
      clear h1
      go_wp2
      go_ret
      exact ⟨rfl, hb.out⟩
    · have hs'' : decide ((n2 : Int) < 2) = false := by simp; omega
      obtain ⟨k, hk, kn⟩ : ∃ k : Nat, cut.tmod (n2 : Int) = (k : Int) ∧ k < n2 := ⟨(cut.tmod n2).toNat, by have := Int.tmod_nonneg (n2 : Int) q0; omega, by have := Int.tmod_nonneg (n2 : Int) q0; have := Int.tmod_lt_of_pos cut (show (0 : Int) < n2 by omega); omega⟩
      obtain ⟨i, hi, hin⟩ : ∃ i : Nat, (k : Int).tmod ((n2 : Int) - 1) = (i : Int) ∧ i + 1 < n2 := ⟨((k : Int).tmod ((n2 : Int) - 1)).toNat, by have := Int.tmod_nonneg ((n2 : Int) - 1) (show (0 : Int) ≤ k by omega); omega, by have := Int.tmod_nonneg ((n2 : Int) - 1) (show (0 : Int) ≤ k by omega); have := Int.tmod_lt_of_pos (k : Int) (show (0 : Int) < (n2 : Int) - 1 by omega); omega⟩
      have d1 : IntKind.i64.wrap ((n2 : Int) - 1) = (n2 : Int) - 1 := by rw [IntKind.wrap_i64]; omega
      have d2 : (k : Int) ≤ (c2 : Int) := by omega
      have hvt := vL_take h4 (k := k) (by rw [l2.out]; exact kn)
      have VT := hide (fun c w hA hr => lp_.Valid A2 k c (ts.take k) 4 true w (by decide) (by decide) rfl (by omega) hA hr (fun t ht => B2 t (List.mem_of_mem_take ht)))
      rw [hvt] at VT
      have r2t := hide (show Rk 2 w A2 k (lcs (ts.take k)) by rw [← lcs_take]; exact r2.out.take (by omega))
      have hsw := hide (vL_swap h4 (i := i) (by rw [l2.out]; exact hin))
      replace B2 := hide B2
      clear h4 hvt
      go_enter Try.func5, Try.ntmps5
      go_wp2_with fail
      refine (awake _).mono ?_
      rintro e w1 ⟨rfl, h1⟩
      replace hb := hide (bel_next hb.out h1)
      replace r2 := hide (r2.out.below h1)
      clear h1
      go_wp2_with fail
      refine (V3.out _ _ _ nc2.out r2.out).mono ?_
      rintro e w2 ⟨rfl, h1⟩
      replace hb := hide (bel_next hb.out h1)
      replace r2 := hide (r2.out.below h1)
      clear h1
      go_wp2_with fail
      refine (V4.out _ _ _ nc2.out r2.out).mono ?_
      rintro e w3 ⟨rfl, h1⟩
      replace hb := hide (bel_next hb.out h1)
      replace r2 := hide (r2.out.below h1)
      clear h1
      go_wp2_with fail
      refine (V1.out _ _ _ nc2.out r2.out).mono ?_
      rintro e w4 ⟨rfl, h1⟩
      replace hb := hide (bel_next hb.out h1)
      replace r2 := hide (r2.out.below h1)
      clear h1
      go_wp2_with fail
      refine (V2.out _ _ _ nc2.out r2.out).mono ?_
      rintro e w5 ⟨rfl, h1⟩
      replace hb := hide (bel_next hb.out h1)
      replace r2 := hide (r2.out.below h1)
      clear h1
      go_wp2_with fail
      refine (NV.out _ _ _ nc2.out r2.out).mono ?_
      rintro e w6 ⟨rfl, h1⟩
      replace hb := hide (bel_next hb.out h1)
      replace r2 := hide (r2.out.below h1)
      clear h1
      go_wp2_with fail
      refine (VT.out _ _ ⟨fun h => (by have := nil2.out h; omega), (by have := nc2.out.2; omega)⟩ (r2t.out.below hb.out)).mono ?_
      rintro e w7 ⟨rfl, h1⟩
      replace hb := hide (bel_next hb.out h1)
      replace r2 := hide (r2.out.below h1)
      clear h1
      have r7 := hide r2.out
      have k0 := hide (show Ok 2 (w7.alloc (.cells #[] 38)) w7.heap.size 38 (some ⟨w7.heap.size, 0, none⟩) 0 0 [] from Ok.lit 2 w7 38 [] 0 rfl (by decide))
      have b0 := hide (bl_new w7 (.cells #[] 38))
      have rz := hide (r2.out.alloc (.cells #[] 38))
      have hcl := hide (lcs_cells ts)
      go_upto_region 14 with (at_builtin; refine apK elLP (by decide) k0.out b0.out (Nat.le_refl _) rz.out (.tmp 66) (.tmp 67) rfl rfl rfl rfl (fun h => by have := nil2.out h; omega) hcl.out (by simp [maxLen]; omega) (by omega) ?_; intro A8 c8 w8 ho8 hb8 _; rw [Nat.zero_add] at ho8 ⊢; rw [List.nil_append] at ho8; replace ho8 := hide ho8; replace hb8 := hide hb8)
      have hb0 := hide hb.out
      replace hb := hide (bel_next hb.out hb8.out)
      replace r2 := hide (r2.out.below hb8.out)
      obtain ⟨g, rfl, hg, _⟩ := ho8.out.form (by omega)
      have nil8 := hide ho8.out.nilcap
      have cap8 := hide ho8.out.cap
      have hi0 : i < n2 := by omega
      have hi1 : i + 1 < n2 := by omega
      obtain ⟨ad, t, e1, ht, f0, f1⟩ := r2.out.lp hi0
      obtain ⟨_, t', e2, ht', f2, f3⟩ := r2.out.lp hi1
      subst e1
      cases e2
      have ix1 : IntKind.i64.wrap ((i : Int) + 1) = ((i + 1 : Nat) : Int) := by rw [IntKind.wrap_i64]; omega
      have in1 : ((i + 1 : Nat) : Int) < (n2 : Int) := by omega
      have in0 : (i : Int) < (n2 : Int) := by omega
      have lz : (lcs ts).length = n2 * 2 := by rw [lcs_len, l2.out]
      have cl : ∀ {u : World} {A : Option Addr} {xs : List Value} {j : Nat}, Ok 2 u w7.heap.size 38 (some ⟨g, 0, none⟩) n2 c8 xs → j < n2 * 2 → ∃ v, u.cell? ⟨g, j, none⟩ = some v := fun h hj => ⟨_, by rw [h.cell _ hj, List.getElem?_eq_getElem (by rw [h.len]; exact hj)]⟩
      obtain ⟨_, q0⟩ := cl (A := none) ho8.out (show i * 2 < n2 * 2 by omega)
      obtain ⟨_, q1⟩ := cl (A := none) ho8.out (show i * 2 + 1 < n2 * 2 by omega)
      have z0 := ho8.out.frozen (i * 2)
      have z1 := ho8.out.frozen (i * 2 + 1)
      have hset := ((ho8.out.set (i * 2) (.int .i64 t'.1)).set (i * 2 + 1) (.int .i32 t'.2))
      rw [lcs_set] at hset
      have hbs : Below w7.heap.size w7 ((w8.setCell ⟨g, i * 2, none⟩ (.int .i64 t'.1)).setCell ⟨g, i * 2 + 1, none⟩ (.int .i32 t'.2)) := bl_set (bl_set hb8.out hg _) hg _
      have htt := hide ht
      have htt' := hide ht'
      replace hsw := hsw.out
      rw [ht, ht'] at hsw
      replace hsw := hide (show vL ((ts.set i t').set (i + 1) t) true = false from hsw)
      replace hset := hide hset
      replace hbs := hide hbs
      clear ht ht' cl
      go_upto_region 15 with fail
      clear q0 q1 z0 z1 f0 f1 f2 f3 ho8 hb8 r2
      generalize ((w8.setCell ⟨g, i * 2, none⟩ (.int .i64 t'.1)).setCell ⟨g, i * 2 + 1, none⟩ (.int .i32 t'.2)) = w9 at *
      obtain ⟨_, t2, e2, ht2, f0, f1⟩ := (r7.out.below hbs.out).lp hi0
      cases e2
      have cl : ∀ j, j < n2 * 2 → ∃ v, w9.cell? ⟨g, j, none⟩ = some v := fun j hj => ⟨_, by rw [hset.out.cell _ hj, List.getElem?_eq_getElem (by rw [hset.out.len]; exact hj)]⟩
      obtain ⟨_, q0⟩ := cl ((i + 1) * 2) (by omega)
      obtain ⟨_, q1⟩ := cl ((i + 1) * 2 + 1) (by omega)
      have z0 := hset.out.frozen ((i + 1) * 2)
      have z1 := hset.out.frozen ((i + 1) * 2 + 1)
      obtain rfl : t2 = t := by have := htt.out; rw [ht2] at this; injection this
      have hset2 := ((hset.out.set ((i + 1) * 2) (.int .i64 t2.1)).set ((i + 1) * 2 + 1) (.int .i32 t2.2))
      rw [lcs_set] at hset2
      have hbs2 : Below w7.heap.size w7 ((w9.setCell ⟨g, (i + 1) * 2, none⟩ (.int .i64 t2.1)).setCell ⟨g, (i + 1) * 2 + 1, none⟩ (.int .i32 t2.2)) := bl_set (bl_set hbs.out hg _) hg _
      have hb9 := hide (bel_next hb0.out hbs2)
      have r9 := hide hset2.rd
      have VX := hide (fun w hA hr => lp_.Valid (some ⟨g, 0, none⟩) n2 c8 ((ts.set i t').set (i + 1) t2) 4 true w (by decide) (by decide) rfl (by omega) hA hr (fun u hu => by
        rcases List.mem_or_eq_of_mem_set hu with h | rfl
        · rcases List.mem_or_eq_of_mem_set h with h | rfl
          · exact B2.out u h
          · exact B2.out _ (List.mem_of_getElem? htt'.out)
        · exact B2.out _ (List.mem_of_getElem? htt.out)))
      rw [hsw.out] at VX
      clear hset hset2 hbs hbs2 ht2 cl
      go_upto_region 16 with fail
      clear q0 q1 z0 z1 f0 f1
      generalize ((w9.setCell ⟨g, (i + 1) * 2, none⟩ (.int .i64 t2.1)).setCell ⟨g, (i + 1) * 2 + 1, none⟩ (.int .i32 t2.2)) = wA at *
      go_wp2_with fail
      refine (VX.out _ ⟨fun h => (by cases h), cap8.out⟩ r9.out).mono ?_
      rintro e wB ⟨rfl, h1⟩
      replace hb9 := hide (bel_next hb9.out h1)
      clear h1
      go_wp2_with fail
      go_ret
      exact ⟨rfl, hb9.out⟩
end l17_
end Go.Proofs.Ytickchkcfaggfaa

/-
  THE WALKS OF THE LAWS OF LAYER 13 (zoneinfolaw13): HeaderTruncation. No conditions.
-/
import Derived.Test.YtakimiiggemfiaaDoorRef13
import Derived.Test.YtakimiiggemfiaaDoorLaw13
namespace Go.Proofs.YtakimiiggemfiaaDoor
open Go.ChangeShapes Go.WideShapes Go.ChangeAt Go.RowKit
set_option linter.unusedVariables false
namespace l13_
set_option maxRecDepth 100000 in
set_option maxHeartbeats 8000000 in
theorem truncation (v a b c d x y : Int) (z : Int) (A2 : Option Addr) (n2 c2 : Nat) (z2 : List Int) (w : World) (hT : Th w) (hv : (Lit.int .i64 v).wf = true) (ha : (Lit.int .u32 a).wf = true) (hb_ : (Lit.int .u32 b).wf = true) (hc : (Lit.int .u32 c).wf = true) (hd : (Lit.int .u32 d).wf = true) (hx : (Lit.int .u32 x).wf = true) (hy : (Lit.int .u32 y).wf = true) (hz : (Lit.int .u8 z).wf = true) (h2 : IsRw .u8 w A2 n2 c2 z2) :
    Calls Tryd.prog 5 #[.agg #[.int .i64 v, .int .u32 a, .int .u32 b, .int .u32 c, .int .u32 d, .int .u32 x, .int .u32 y], .int .u8 z, .slice A2 n2 c2] w fun e w' => e = .returned (.bool true) ∧ Below w.heap.size w w' := by
  have u32 : ∀ {t : Int}, (Lit.int .u32 t).wf = true → U32 t := fun h => by simp [Lit.wf, IntKind.min, IntKind.max, IntKind.signed, IntKind.bits] at h; unfold U32; omega
  obtain ⟨z0, z1⟩ := wf_u8 hz
  have hok : 1 ≤ v → v ≤ 4 → Hd.ok ⟨v, a, b, c, d, x, y⟩ := fun h h' => ⟨h, h', u32 ha, u32 hb_, u32 hc, u32 hd, u32 hx, u32 hy⟩
  have r2 := h2.rd
  have nil2 := hide h2.nil
  have B2 : Bytes (z2.take n2) := bytes_of_mem fun t ht => wf_u8 (h2.wf t ht)
  obtain ⟨ca2, _⟩ := h2.cap
  clear hv ha hb_ hc hd hx hy hz u32 h2
  obtain ⟨ys, hys⟩ : ∃ ys, ys = z2.take n2 := ⟨_, rfl⟩
  rw [← hys] at r2 B2
  clear hys
  have HT := hide hT
  have hb := hide (bl_new w (.cells #[.int .i64 v, .int .u32 a, .int .u32 b, .int .u32 c, .int .u32 d, .int .u32 x, .int .u32 y] 24))
  have bx := hide (Bx.new w [.int .i64 v, .int .u32 a, .int .u32 b, .int .u32 c, .int .u32 d, .int .u32 x, .int .u32 y] 24)
  by_cases v0 : v < 1
  · clear hok r2 B2
    go_enter Tryd.func5, Tryd.ntmps5
    go_upto_region 1 with fail
    generalize (w.alloc (.cells #[.int .i64 v, .int .u32 a, .int .u32 b, .int .u32 c, .int .u32 d, .int .u32 x, .int .u32 y] 24)) = w0 at *
    go_wp2_with fail
    refine (awake _ (HT.out.below hb.out)).mono ?_
    rintro e w1 ⟨rfl, h1⟩
    replace hb := hide (bel_next hb.out h1)
    replace bx := hide (bx.out.below h1)
    clear h1
    have c7 := cells7 bx.out
    go_wp2_with fail
    refine (awake _ (HT.out.below hb.out)).mono ?_
    rintro e w9 ⟨rfl, h1⟩
    replace hb := hide (bel_next hb.out h1)
    replace bx := hide (bx.out.below h1)
    clear h1
    go_wp2
    go_ret
    exact ⟨rfl, hb.out⟩
  by_cases v1 : 4 < v
  · clear hok r2 B2
    go_enter Tryd.func5, Tryd.ntmps5
    go_upto_region 1 with fail
    generalize (w.alloc (.cells #[.int .i64 v, .int .u32 a, .int .u32 b, .int .u32 c, .int .u32 d, .int .u32 x, .int .u32 y] 24)) = w0 at *
    go_wp2_with fail
    refine (awake _ (HT.out.below hb.out)).mono ?_
    rintro e w1 ⟨rfl, h1⟩
    replace hb := hide (bel_next hb.out h1)
    replace bx := hide (bx.out.below h1)
    clear h1
    have c7 := cells7 bx.out
    go_wp2_with fail
    refine (awake _ (HT.out.below hb.out)).mono ?_
    rintro e w9 ⟨rfl, h1⟩
    replace hb := hide (bel_next hb.out h1)
    replace bx := hide (bx.out.below h1)
    clear h1
    go_wp2
    go_ret
    exact ⟨rfl, hb.out⟩
  have hok := hok (by omega) (by omega)
  have K := hide (fun w => r13_.Consistent ⟨v, a, b, c, d, x, y⟩ w)
  rcases hcon : Hd.con ⟨v, a, b, c, d, x, y⟩
  · rw [hcon] at K
    clear hok r2 B2 hcon
    go_enter Tryd.func5, Tryd.ntmps5
    go_upto_region 1 with fail
    generalize (w.alloc (.cells #[.int .i64 v, .int .u32 a, .int .u32 b, .int .u32 c, .int .u32 d, .int .u32 x, .int .u32 y] 24)) = w0 at *
    go_wp2_with fail
    refine (awake _ (HT.out.below hb.out)).mono ?_
    rintro e w1 ⟨rfl, h1⟩
    replace hb := hide (bel_next hb.out h1)
    replace bx := hide (bx.out.below h1)
    clear h1
    have c7 := cells7 bx.out
    go_wp2_with fail
    clear c7
    refine (K.out _).mono ?_
    rintro e w2 ⟨rfl, h1⟩
    replace hb := hide (bel_next hb.out h1)
    replace bx := hide (bx.out.below h1)
    clear h1
    go_wp2_with fail
    refine (awake _ (HT.out.below hb.out)).mono ?_
    rintro e w9 ⟨rfl, h1⟩
    replace hb := hide (bel_next hb.out h1)
    replace bx := hide (bx.out.below h1)
    clear h1
    go_wp2
    go_ret
    exact ⟨rfl, hb.out⟩
  rw [hcon] at K
  by_cases hn : 500 < n2
  · have hn' : (500 : Int) < n2 := by omega
    clear hok r2 B2 hcon
    go_enter Tryd.func5, Tryd.ntmps5
    go_upto_region 1 with fail
    generalize (w.alloc (.cells #[.int .i64 v, .int .u32 a, .int .u32 b, .int .u32 c, .int .u32 d, .int .u32 x, .int .u32 y] 24)) = w0 at *
    go_wp2_with fail
    refine (awake _ (HT.out.below hb.out)).mono ?_
    rintro e w1 ⟨rfl, h1⟩
    replace hb := hide (bel_next hb.out h1)
    replace bx := hide (bx.out.below h1)
    clear h1
    have c7 := cells7 bx.out
    go_wp2_with fail
    clear c7
    refine (K.out _).mono ?_
    rintro e w2 ⟨rfl, h1⟩
    replace hb := hide (bel_next hb.out h1)
    replace bx := hide (bx.out.below h1)
    clear h1
    go_wp2_with fail
    refine (awake _ (HT.out.below hb.out)).mono ?_
    rintro e w9 ⟨rfl, h1⟩
    replace hb := hide (bel_next hb.out h1)
    replace bx := hide (bx.out.below h1)
    clear h1
    go_wp2
    go_ret
    exact ⟨rfl, hb.out⟩
  have l2 : ys.length = n2 := by have := r2.len; simpa using this
  obtain ⟨k, hk⟩ : ∃ k : Nat, (k : Int) = z % 44 := ⟨(z % 44).toNat, by omega⟩
  have hk44 : k < 44 := by omega
  have ek : z.tmod 44 = (k : Int) := by rw [Int.tmod_eq_emod_of_nonneg z0, hk]
  obtain ⟨q, dq, q0, q1⟩ := dec_trunc _ hok hk44
  replace dq : decH ((encH ⟨v, a, b, c, d, x, y⟩).take k) 0 = (⟨0, 0, 0, 0, 0, 0, 0⟩, q, 1, (k : Int)) := dq
  have de := dec_enc [] ys _ hok
  rw [if_pos hcon, List.nil_append, show ((([] : List Int).length : Nat) : Int) + 44 = 44 from rfl] at de
  have hB := encH_bytes hok
  have hlen : (encH ⟨v, a, b, c, d, x, y⟩).length = 44 := rfl
  have E := hide (fun w hT => hd_.Encode ⟨v, a, b, c, d, x, y⟩ w hT hok)
  have D1 := hide (fun A cc w hT hr hA hn hc => hd_.Decode A k cc 0 ((encH ⟨v, a, b, c, d, x, y⟩).take k) w hT hr (hB.take k) hA hn hc (by omega) (by omega) dq)
  have D2 := hide (fun A cc w hT hr hA hn hc => hd_.Decode A (44 + n2) cc 0 (encH ⟨v, a, b, c, d, x, y⟩ ++ ys) w hT hr (hB.app B2) hA hn hc (by omega) (by omega) de)
  have O2 := hide (oneCells .u8 ys)
  have k1 : (k : Int) ≤ 44 := by omega
  have n1 : (n2 : Int) ≤ 500 := by omega
  replace r2 := hide r2
  generalize encH ⟨v, a, b, c, d, x, y⟩ = l at *
  clear hok hcon dq de hB hk B2
  go_enter Tryd.func5, Tryd.ntmps5
  go_upto_region 1 with fail
  generalize (w.alloc (.cells #[.int .i64 v, .int .u32 a, .int .u32 b, .int .u32 c, .int .u32 d, .int .u32 x, .int .u32 y] 24)) = w0 at *
  go_wp2_with fail
  refine (awake _ (HT.out.below hb.out)).mono ?_
  rintro e w1 ⟨rfl, h1⟩
  replace hb := hide (bel_next hb.out h1)
  replace bx := hide (bx.out.below h1)
  clear h1
  have c7 := cells7 bx.out
  go_wp2_with fail
  clear c7
  refine (K.out _).mono ?_
  rintro e w2 ⟨rfl, h1⟩
  replace hb := hide (bel_next hb.out h1)
  replace bx := hide (bx.out.below h1)
  clear h1
  have hb2s := hide hb.out.size
  have hxs := hide bx.out.lt
  have c7 := cells7 bx.out
  go_wp2_with fail
  clear c7
  refine (E.out _ (HT.out.below hb.out)).mono ?_
  rintro e w3 ⟨A1, c1, rfl, o1, h1⟩
  have oc1 := o1.cap
  have om1 := o1.capMax
  have oi1 : (44 : Int) ≤ c1 := by omega
  have om1' : (c1 : Int) ≤ 9223372036854775807 := by simp [maxLen] at om1; omega
  obtain ⟨g1, rfl, hg1, hg1' ⟩ := o1.form (by omega)
  replace o1 := hide o1
  replace hb := hide (bel_next hb.out h1)
  replace bx := hide (bx.out.below h1)
  clear h1
  have rk := hide (show Rd w3 (some ⟨g1, 0, none⟩) k ((l.take k).map (Value.int .u8)) by have := o1.out.rd.take (k := k) (by omega); rwa [← List.map_take] at this)
  go_wp2_with fail
  refine (cu_.New _ _ _ _).mono ?_
  rintro e w4 ⟨rfl, h1⟩
  replace hb := hide (bel_next hb.out h1)
  replace bx := hide (bx.out.below h1)
  replace o1 := hide (o1.out.below h1)
  replace rk := hide (rk.out.below h1)
  clear h1
  go_wp2_with fail
  refine (D1.out _ _ _ (HT.out.below hb.out) rk.out (fun h => by cases h) (by omega) (by omega)).mono ?_
  rintro e w5 ⟨rfl, h1⟩
  replace hb := hide (bel_next hb.out h1)
  replace bx := hide (bx.out.below h1)
  replace o1 := hide (o1.out.below h1)
  replace rk := hide (rk.out.below h1)
  clear h1
  have o1s := hide (o1.out.lt g1 rfl).2
  have b3 := hide ((Bx.new w5 [.int .i64 0, .int .u32 0, .int .u32 0, .int .u32 0, .int .u32 0, .int .u32 0, .int .u32 0] 24).alloc (.cells #[.slice (some ⟨g1, 0, none⟩) k c1, .int .i64 q, .int .i64 1, .int .i64 k] 30))
  have b4 := hide (Bx.snd4 w5 (.cells #[.int .i64 0, .int .u32 0, .int .u32 0, .int .u32 0, .int .u32 0, .int .u32 0, .int .u32 0] 24) (.slice (some ⟨g1, 0, none⟩) k c1) (.int .i64 q) (.int .i64 1) (.int .i64 k) 30)
  replace hb := hide (bl_alloc (bl_alloc hb.out (.cells #[.int .i64 0, .int .u32 0, .int .u32 0, .int .u32 0, .int .u32 0, .int .u32 0, .int .u32 0] 24)) (.cells #[.slice (some ⟨g1, 0, none⟩) k c1, .int .i64 q, .int .i64 1, .int .i64 k] 30))
  replace bx := hide ((bx.out.alloc (.cells #[.int .i64 0, .int .u32 0, .int .u32 0, .int .u32 0, .int .u32 0, .int .u32 0, .int .u32 0] 24)).alloc (.cells #[.slice (some ⟨g1, 0, none⟩) k c1, .int .i64 q, .int .i64 1, .int .i64 k] 30))
  replace o1 := hide ((o1.out.alloc (.cells #[.int .i64 0, .int .u32 0, .int .u32 0, .int .u32 0, .int .u32 0, .int .u32 0, .int .u32 0] 24)).alloc (.cells #[.slice (some ⟨g1, 0, none⟩) k c1, .int .i64 q, .int .i64 1, .int .i64 k] 30))
  replace rk := hide ((rk.out.alloc (.cells #[.int .i64 0, .int .u32 0, .int .u32 0, .int .u32 0, .int .u32 0, .int .u32 0, .int .u32 0] 24)).alloc (.cells #[.slice (some ⟨g1, 0, none⟩) k c1, .int .i64 q, .int .i64 1, .int .i64 k] 30))
  go_upto_region 8 with fail
  generalize ((w5.alloc (.cells #[.int .i64 0, .int .u32 0, .int .u32 0, .int .u32 0, .int .u32 0, .int .u32 0, .int .u32 0] 24)).alloc (.cells #[.slice (some ⟨g1, 0, none⟩) k c1, .int .i64 q, .int .i64 1, .int .i64 k] 30)) = w6 at *
  clear rk b3
  have hx1 := hide bx.out.lt
  go_wp2_with (at_builtin; refine apA elU8_ o1.out hb.out hb2s.out (r2.out.below hb.out) (.tmp 53) (.tmp 54) rfl rfl rfl rfl nil2.out O2.out (by simp [maxLen]; omega) (by omega) ?_; intro A8 c8 w8 ho8 hb8 hg8; rw [← List.map_append] at ho8; replace ho8 := hide ho8; replace hb8 := hide hb8; replace hg8 := hide hg8)
  replace hb := hb8
  replace bx := hide (hg8.out.bx bx.out (by have := hxs.out; show some g1 ≠ some w.heap.size; intro h; injection h; omega))
  replace b4 := hide (hg8.out.bx b4.out (by have := o1s.out; show some g1 ≠ some (w5.heap.size + 1); intro h; injection h; omega))
  have oc8 := ho8.out.cap
  have om8 := ho8.out.capMax
  have om8' : (c8 : Int) ≤ 9223372036854775807 := by simp [maxLen] at om8; omega
  have nil8 := hide ho8.out.nilcap
  have r8 := hide ho8.out.rd
  clear ho8 hb8 hg8 o1
  refine (cu_.New _ _ _ _).mono ?_
  rintro e w9 ⟨rfl, h1⟩
  replace hb := hide (bel_next hb.out h1)
  replace bx := hide (bx.out.below h1)
  replace b4 := hide (b4.out.below h1)
  replace r8 := hide (r8.out.below h1)
  clear h1
  go_wp2_with fail
  refine (D2.out _ _ _ (HT.out.below hb.out) r8.out nil8.out (by omega) (by omega)).mono ?_
  rintro e w10 ⟨rfl, h1⟩
  replace hb := hide (bel_next hb.out h1)
  replace bx := hide (bx.out.below h1)
  replace b4 := hide (b4.out.below h1)
  replace r8 := hide (r8.out.below h1)
  clear h1
  clear r8
  have b11 := hide ((Bx.new w10 [.int .i64 v, .int .u32 a, .int .u32 b, .int .u32 c, .int .u32 d, .int .u32 x, .int .u32 y] 24).alloc (.cells #[.slice A8 (44 + n2) c8, .int .i64 44, .int .i64 0, .int .i64 0] 30))
  have b12 := hide (Bx.snd4 w10 (.cells #[.int .i64 v, .int .u32 a, .int .u32 b, .int .u32 c, .int .u32 d, .int .u32 x, .int .u32 y] 24) (.slice A8 (44 + n2) c8) (.int .i64 44) (.int .i64 0) (.int .i64 0) 30)
  replace hb := hide (bl_alloc (bl_alloc hb.out (.cells #[.int .i64 v, .int .u32 a, .int .u32 b, .int .u32 c, .int .u32 d, .int .u32 x, .int .u32 y] 24)) (.cells #[.slice A8 (44 + n2) c8, .int .i64 44, .int .i64 0, .int .i64 0] 30))
  replace bx := hide ((bx.out.alloc (.cells #[.int .i64 v, .int .u32 a, .int .u32 b, .int .u32 c, .int .u32 d, .int .u32 x, .int .u32 y] 24)).alloc (.cells #[.slice A8 (44 + n2) c8, .int .i64 44, .int .i64 0, .int .i64 0] 30))
  replace b4 := hide ((b4.out.alloc (.cells #[.int .i64 v, .int .u32 a, .int .u32 b, .int .u32 c, .int .u32 d, .int .u32 x, .int .u32 y] 24)).alloc (.cells #[.slice A8 (44 + n2) c8, .int .i64 44, .int .i64 0, .int .i64 0] 30))
  go_upto_region 9 with fail
  generalize ((w10.alloc (.cells #[.int .i64 v, .int .u32 a, .int .u32 b, .int .u32 c, .int .u32 d, .int .u32 x, .int .u32 y] 24)).alloc (.cells #[.slice A8 (44 + n2) c8, .int .i64 44, .int .i64 0, .int .i64 0] 30)) = w11 at *
  have x0 := cells7 bx.out
  have x1 := cells7 b11.out
  have x4 := b4.out.cells4
  have x12 := b12.out.cells4
  clear bx b11 b4 b12 hx1
  go_wp2
  go_ret
  exact ⟨rfl, hb.out⟩
end l13_
end Go.Proofs.YtakimiiggemfiaaDoor

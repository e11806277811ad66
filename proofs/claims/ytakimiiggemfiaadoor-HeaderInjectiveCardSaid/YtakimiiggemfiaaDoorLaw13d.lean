/-
  THE WALKS OF THE LAWS OF LAYER 13 (zoneinfolaw13): HeaderInjective. No conditions.
-/
import Derived.Test.YtakimiiggemfiaaDoorLaw13
import Derived.BigQuiet
namespace Go.Proofs.YtakimiiggemfiaaDoor
open Go.ChangeShapes Go.WideShapes Go.ChangeAt Go.RowKit
set_option linter.unusedVariables false
/-- 'string(a[:4])' of an encoding. -/
theorem conv4 {W : World} {g c : Nat} {h : Hd} (hr : Rd W (some ⟨g, 0, none⟩) 44 ((encH h).map (Value.int .u8))) : (convert 25 9 (.slice (some ⟨g, 0, none⟩) 4 c)).run Tryd.prog W = .ok (.string ⟨#[84, 90, 105, 102]⟩) W :=
  run_convert_bytes_back W _ _ 5 ⟨g, 0, none⟩ c [84, 90, 105, 102] Tryd.underlying25 Tryd.underlying5 Tryd.underlying9 (fun j hj => by
    have hj4 : j < 4 := hj
    rw [addr_flat, Nat.zero_add]
    rcases (show j = 0 ∨ j = 1 ∨ j = 2 ∨ j = 3 by omega) with rfl | rfl | rfl | rfl <;> exact hr.flat0 rfl)
theorem bel_q {W w' : World} (h : ∃ q, w' = W.drewN q) : Below W.heap.size W w' := by
  obtain ⟨q, rfl⟩ := h
  exact bel_drewN (Below.refl _ _) q
theorem bx_snd (w : World) (o : Obj) (vs : List Value) (T : TypeId) : Bx ((w.alloc o).alloc (.cells vs.toArray T)) (w.heap.size + 1) vs := by
  have := Bx.new (w.alloc o) vs T
  rwa [show (w.alloc o).heap.size = w.heap.size + 1 by simp] at this
namespace l13_
set_option maxRecDepth 100000 in
set_option maxHeartbeats 8000000 in
theorem injective (v a b c d x y v' a' b' c' d' x' y' : Int) (w : World) (hT : Th w) (hv : (Lit.int .i64 v).wf = true) (ha : (Lit.int .u32 a).wf = true) (hb_ : (Lit.int .u32 b).wf = true) (hc : (Lit.int .u32 c).wf = true) (hd : (Lit.int .u32 d).wf = true) (hx : (Lit.int .u32 x).wf = true) (hy : (Lit.int .u32 y).wf = true) (hv' : (Lit.int .i64 v').wf = true) (ha' : (Lit.int .u32 a').wf = true) (hb_' : (Lit.int .u32 b').wf = true) (hc' : (Lit.int .u32 c').wf = true) (hd' : (Lit.int .u32 d').wf = true) (hx' : (Lit.int .u32 x').wf = true) (hy' : (Lit.int .u32 y').wf = true) :
    Calls Tryd.prog 6 #[.agg #[.int .i64 v, .int .u32 a, .int .u32 b, .int .u32 c, .int .u32 d, .int .u32 x, .int .u32 y], .agg #[.int .i64 v', .int .u32 a', .int .u32 b', .int .u32 c', .int .u32 d', .int .u32 x', .int .u32 y']] w fun e w' => e = .returned (.bool true) ∧ Below w.heap.size w w' := by
  have u32 : ∀ {t : Int}, (Lit.int .u32 t).wf = true → U32 t := fun h => by simp [Lit.wf, IntKind.min, IntKind.max, IntKind.signed, IntKind.bits] at h; unfold U32; omega
  have hok : 1 ≤ v → v ≤ 4 → Hd.ok ⟨v, a, b, c, d, x, y⟩ := fun h h' => ⟨h, h', u32 ha, u32 hb_, u32 hc, u32 hd, u32 hx, u32 hy⟩
  have hok' : 1 ≤ v' → v' ≤ 4 → Hd.ok ⟨v', a', b', c', d', x', y'⟩ := fun h h' => ⟨h, h', u32 ha', u32 hb_', u32 hc', u32 hd', u32 hx', u32 hy'⟩
  clear hv ha hb_ hc hd hx hy hv' ha' hb_' hc' hd' hx' hy' u32
  have HT := hide hT
  have hb := hide (bl_alloc (bl_new w (.cells #[.int .i64 v, .int .u32 a, .int .u32 b, .int .u32 c, .int .u32 d, .int .u32 x, .int .u32 y] 24)) (.cells #[.int .i64 v', .int .u32 a', .int .u32 b', .int .u32 c', .int .u32 d', .int .u32 x', .int .u32 y'] 24))
  have bx := hide ((Bx.new w [.int .i64 v, .int .u32 a, .int .u32 b, .int .u32 c, .int .u32 d, .int .u32 x, .int .u32 y] 24).alloc (.cells #[.int .i64 v', .int .u32 a', .int .u32 b', .int .u32 c', .int .u32 d', .int .u32 x', .int .u32 y'] 24))
  have by_ := hide (bx_snd w (.cells #[.int .i64 v, .int .u32 a, .int .u32 b, .int .u32 c, .int .u32 d, .int .u32 x, .int .u32 y] 24) [.int .i64 v', .int .u32 a', .int .u32 b', .int .u32 c', .int .u32 d', .int .u32 x', .int .u32 y'] 24)
  by_cases v0 : v < 1
  · clear hok hok'
    go_enter Tryd.func6, Tryd.ntmps6
    go_upto_region 1 with fail
    generalize ((w.alloc (.cells #[.int .i64 v, .int .u32 a, .int .u32 b, .int .u32 c, .int .u32 d, .int .u32 x, .int .u32 y] 24)).alloc (.cells #[.int .i64 v', .int .u32 a', .int .u32 b', .int .u32 c', .int .u32 d', .int .u32 x', .int .u32 y'] 24)) = w0 at *
    go_wp2_with fail
    refine (awake _ (HT.out.below hb.out)).mono ?_
    rintro e w1 ⟨rfl, h1⟩
    replace hb := hide (bel_next hb.out h1)
    replace bx := hide (bx.out.below h1)
    replace by_ := hide (by_.out.below h1)
    clear h1
    have c7 := cells7 bx.out
    have d7 := cells7 by_.out
    go_wp2_with fail
    clear c7 d7
    refine (awake _ (HT.out.below hb.out)).mono ?_
    rintro e w9 ⟨rfl, h1⟩
    replace hb := hide (bel_next hb.out h1)
    replace bx := hide (bx.out.below h1)
    replace by_ := hide (by_.out.below h1)
    clear h1
    go_wp2
    go_ret
    exact ⟨rfl, hb.out⟩
  by_cases v1 : 4 < v
  · clear hok hok'
    go_enter Tryd.func6, Tryd.ntmps6
    go_upto_region 1 with fail
    generalize ((w.alloc (.cells #[.int .i64 v, .int .u32 a, .int .u32 b, .int .u32 c, .int .u32 d, .int .u32 x, .int .u32 y] 24)).alloc (.cells #[.int .i64 v', .int .u32 a', .int .u32 b', .int .u32 c', .int .u32 d', .int .u32 x', .int .u32 y'] 24)) = w0 at *
    go_wp2_with fail
    refine (awake _ (HT.out.below hb.out)).mono ?_
    rintro e w1 ⟨rfl, h1⟩
    replace hb := hide (bel_next hb.out h1)
    replace bx := hide (bx.out.below h1)
    replace by_ := hide (by_.out.below h1)
    clear h1
    have c7 := cells7 bx.out
    have d7 := cells7 by_.out
    go_wp2_with fail
    clear c7 d7
    refine (awake _ (HT.out.below hb.out)).mono ?_
    rintro e w9 ⟨rfl, h1⟩
    replace hb := hide (bel_next hb.out h1)
    replace bx := hide (bx.out.below h1)
    replace by_ := hide (by_.out.below h1)
    clear h1
    go_wp2
    go_ret
    exact ⟨rfl, hb.out⟩
  by_cases v2 : v' < 1
  · clear hok hok'
    go_enter Tryd.func6, Tryd.ntmps6
    go_upto_region 1 with fail
    generalize ((w.alloc (.cells #[.int .i64 v, .int .u32 a, .int .u32 b, .int .u32 c, .int .u32 d, .int .u32 x, .int .u32 y] 24)).alloc (.cells #[.int .i64 v', .int .u32 a', .int .u32 b', .int .u32 c', .int .u32 d', .int .u32 x', .int .u32 y'] 24)) = w0 at *
    go_wp2_with fail
    refine (awake _ (HT.out.below hb.out)).mono ?_
    rintro e w1 ⟨rfl, h1⟩
    replace hb := hide (bel_next hb.out h1)
    replace bx := hide (bx.out.below h1)
    replace by_ := hide (by_.out.below h1)
    clear h1
    have c7 := cells7 bx.out
    have d7 := cells7 by_.out
    go_wp2_with fail
    clear c7 d7
    refine (awake _ (HT.out.below hb.out)).mono ?_
    rintro e w9 ⟨rfl, h1⟩
    replace hb := hide (bel_next hb.out h1)
    replace bx := hide (bx.out.below h1)
    replace by_ := hide (by_.out.below h1)
    clear h1
    go_wp2
    go_ret
    exact ⟨rfl, hb.out⟩
  by_cases v3 : 4 < v'
  · clear hok hok'
    go_enter Tryd.func6, Tryd.ntmps6
    go_upto_region 1 with fail
    generalize ((w.alloc (.cells #[.int .i64 v, .int .u32 a, .int .u32 b, .int .u32 c, .int .u32 d, .int .u32 x, .int .u32 y] 24)).alloc (.cells #[.int .i64 v', .int .u32 a', .int .u32 b', .int .u32 c', .int .u32 d', .int .u32 x', .int .u32 y'] 24)) = w0 at *
    go_wp2_with fail
    refine (awake _ (HT.out.below hb.out)).mono ?_
    rintro e w1 ⟨rfl, h1⟩
    replace hb := hide (bel_next hb.out h1)
    replace bx := hide (bx.out.below h1)
    replace by_ := hide (by_.out.below h1)
    clear h1
    have c7 := cells7 bx.out
    have d7 := cells7 by_.out
    go_wp2_with fail
    clear c7 d7
    refine (awake _ (HT.out.below hb.out)).mono ?_
    rintro e w9 ⟨rfl, h1⟩
    replace hb := hide (bel_next hb.out h1)
    replace bx := hide (bx.out.below h1)
    replace by_ := hide (by_.out.below h1)
    clear h1
    go_wp2
    go_ret
    exact ⟨rfl, hb.out⟩
  have hok := hok (by omega) (by omega)
  have hok' := hok' (by omega) (by omega)
  obtain ⟨h, hh⟩ : ∃ h : Hd, h = ⟨v, a, b, c, d, x, y⟩ := ⟨_, rfl⟩
  obtain ⟨h', hh'⟩ : ∃ h : Hd, h = ⟨v', a', b', c', d', x', y'⟩ := ⟨_, rfl⟩
  have E1 := hide (fun w hT => hd_.Encode ⟨v, a, b, c, d, x, y⟩ w hT hok)
  have E2 := hide (fun w hT => hd_.Encode ⟨v', a', b', c', d', x', y'⟩ w hT hok')
  rw [show (⟨v, a, b, c, d, x, y⟩ : Hd) = h from hh.symm] at hok
  rw [show (⟨v', a', b', c', d', x', y'⟩ : Hd) = h' from hh'.symm] at hok'
  have E1 := hide (fun w hT => by have := E1.out w hT; rw [show encH ⟨v, a, b, c, d, x, y⟩ = encH h by rw [hh]] at this; exact this)
  have E2 := hide (fun w hT => by have := E2.out w hT; rw [show encH ⟨v', a', b', c', d', x', y'⟩ = encH h' by rw [hh']] at this; exact this)
  have hE : Hid (decide (encH h = encH h') = (v == v' && a == a' && b == b' && c == c' && d == d' && x == x' && y == y')) := hide (by
    rw [Bool.eq_iff_iff, decide_eq_true_iff]
    constructor
    · intro e
      have := enc_inj hok hok' e
      rw [hh, hh'] at this
      injection this with e1 e2 e3 e4 e5 e6 e7
      simp only [e1, e2, e3, e4, e5, e6, e7, beq_self_eq_true, Bool.and_self]
    · intro e
      simp only [Bool.and_eq_true, beq_iff_eq] at e
      obtain ⟨⟨⟨⟨⟨⟨e1, e2⟩, e3⟩, e4⟩, e5⟩, e6⟩, e7⟩ := e
      rw [hh, hh', e1, e2, e3, e4, e5, e6, e7])
  have SM := hide (fun A A' n c c' l l' w hn hr hr' => r1_.Same2 A A' n c c' l l' w hn hr hr')
  replace hh := hide hh
  replace hh' := hide hh'
  clear hok hok'
  go_enter Tryd.func6, Tryd.ntmps6
  go_upto_region 1 with fail
  generalize ((w.alloc (.cells #[.int .i64 v, .int .u32 a, .int .u32 b, .int .u32 c, .int .u32 d, .int .u32 x, .int .u32 y] 24)).alloc (.cells #[.int .i64 v', .int .u32 a', .int .u32 b', .int .u32 c', .int .u32 d', .int .u32 x', .int .u32 y'] 24)) = w0 at *
  go_wp2_with fail
  refine (awake _ (HT.out.below hb.out)).mono ?_
  rintro e w1 ⟨rfl, h1⟩
  replace hb := hide (bel_next hb.out h1)
  replace bx := hide (bx.out.below h1)
  replace by_ := hide (by_.out.below h1)
  clear h1
  have c7 := cells7 bx.out
  have d7 := cells7 by_.out
  go_wp2_with fail
  clear c7 d7
  refine (E1.out _ (HT.out.below hb.out)).mono ?_
  rintro e w2 ⟨A1, c1, rfl, o1, h1⟩
  have oc1 := o1.cap
  have om1 := o1.capMax
  have oi1 : (44 : Int) ≤ c1 := by omega
  have om1' : (c1 : Int) ≤ 9223372036854775807 := by simp [maxLen] at om1; omega
  obtain ⟨g1, rfl, _, _⟩ := o1.form (by omega)
  have r1 := hide o1.rd
  clear o1
  replace hb := hide (bel_next hb.out h1)
  replace bx := hide (bx.out.below h1)
  replace by_ := hide (by_.out.below h1)
  clear h1
  have c7 := cells7 bx.out
  have d7 := cells7 by_.out
  go_wp2_with fail
  clear c7 d7
  refine (E2.out _ (HT.out.below hb.out)).mono ?_
  rintro e w3 ⟨A2, c2, rfl, o2, h1⟩
  have oc2 := o2.cap
  have om2 := o2.capMax
  have oi2 : (44 : Int) ≤ c2 := by omega
  have om2' : (c2 : Int) ≤ 9223372036854775807 := by simp [maxLen] at om2; omega
  obtain ⟨g2, rfl, _, _⟩ := o2.form (by omega)
  have r2 := hide o2.rd
  clear o2
  replace hb := hide (bel_next hb.out h1)
  replace bx := hide (bx.out.below h1)
  replace by_ := hide (by_.out.below h1)
  replace r1 := hide (r1.out.below h1)
  clear h1
  have c7 := cells7 bx.out
  have d7 := cells7 by_.out
  have hcv := hide (fun (W : World) (hr : Rd W (some ⟨g1, 0, none⟩) 44 ((encH h).map (Value.int .u8))) => conv4 (c := c1) hr)
  go_upto_region 5 with fail
  clear c7 d7 hcv
  have s4 : (4 : Int) ≤ (c1 : Int) := by omega
  have s5 : 4 ≤ c1 := by omega
  by_cases f0 : v = v'
  case neg =>
    have q0 : (v == v') = false := by simpa using f0
    have hs : decide (encH h = encH h') = false := by rw [hE.out]; simp [q0]
    have SMc := hide (fun W (r1 : Rd W (some ⟨g1, 0, none⟩) 44 ((encH h).map (Value.int .u8))) (r2 : Rd W (some ⟨g2, 0, none⟩) 44 ((encH h').map (Value.int .u8))) => SM.out _ _ 44 c1 c2 (encH h) (encH h') W (by decide) r1 r2)
    rw [hs] at SMc
    clear hs SM
    go_region_held3 (fun w' => w'.cell? ⟨w.heap.size, 0, none⟩ = some (.int .i64 v) ∧ w'.cell? ⟨w.heap.size, 1, none⟩ = some (.int .u32 a) ∧ w'.cell? ⟨w.heap.size, 2, none⟩ = some (.int .u32 b) ∧ w'.cell? ⟨w.heap.size, 3, none⟩ = some (.int .u32 c) ∧ w'.cell? ⟨w.heap.size, 4, none⟩ = some (.int .u32 d) ∧ w'.cell? ⟨w.heap.size, 5, none⟩ = some (.int .u32 x) ∧ w'.cell? ⟨w.heap.size, 6, none⟩ = some (.int .u32 y) ∧ w'.cell? ⟨w.heap.size + 1, 0, none⟩ = some (.int .i64 v') ∧ w'.cell? ⟨w.heap.size + 1, 1, none⟩ = some (.int .u32 a') ∧ w'.cell? ⟨w.heap.size + 1, 2, none⟩ = some (.int .u32 b') ∧ w'.cell? ⟨w.heap.size + 1, 3, none⟩ = some (.int .u32 c') ∧ w'.cell? ⟨w.heap.size + 1, 4, none⟩ = some (.int .u32 d') ∧ w'.cell? ⟨w.heap.size + 1, 5, none⟩ = some (.int .u32 x') ∧ w'.cell? ⟨w.heap.size + 1, 6, none⟩ = some (.int .u32 y') ∧ Sem.run Tryd.prog (convert 25 9 (.slice (some ⟨g1, 0, none⟩) 4 c1)) w' = .ok (.string ⟨#[84, 90, 105, 102]⟩) w' ∧ Hid (Rd w' (some ⟨g1, 0, none⟩) 44 ((encH h).map (Value.int .u8))) ∧ Hid (Rd w' (some ⟨g2, 0, none⟩) 44 ((encH h').map (Value.int .u8))) ∧ Hid (Below w.heap.size w w'))
      (first
        | exact ⟨(cells7 bx.out).1, (cells7 bx.out).2.1, (cells7 bx.out).2.2.1, (cells7 bx.out).2.2.2.1, (cells7 bx.out).2.2.2.2.1, (cells7 bx.out).2.2.2.2.2.1, (cells7 bx.out).2.2.2.2.2.2, (cells7 by_.out).1, (cells7 by_.out).2.1, (cells7 by_.out).2.2.1, (cells7 by_.out).2.2.2.1, (cells7 by_.out).2.2.2.2.1, (cells7 by_.out).2.2.2.2.2.1, (cells7 by_.out).2.2.2.2.2.2, by first | exact conv4 r1.out | exact conv4 (Rd.drew r1.out), by first | exact r1 | exact hide (Rd.drew r1.out), by first | exact r2 | exact hide (Rd.drew r2.out), by first | exact hb | exact hide (bl_drew hb.out)⟩
        | (go_split_ands; refine ⟨?_, ?_, ?_, ?_, ?_, ?_, ?_, ?_, ?_, ?_, ?_, ?_, ?_, ?_, ?_, ?_, ?_, ?_⟩ <;> first | exact cellE h1 (by assumption) | exact conv4 (Rd.below (Hid.out (by assumption)) h1) | exact hide (Rd.below (Hid.out (by assumption)) h1) | exact hide (bel_next (Hid.out (by assumption)) h1)))
      (first
        | (go_at_call 12; go_split_ands; refine (SMc.out _ (Hid.out (by assumption)) (Hid.out (by assumption))).mono ?_; rintro e w6 ⟨rfl, hq⟩; have h1 := bel_q hq))
    go_wp2
    go_ret
    go_split_ands
    exact ⟨rfl, Hid.out (by assumption)⟩
  subst f0
  by_cases f1 : a = a'
  case neg =>
    have q0 : (a == a') = false := by simpa using f1
    have hs : decide (encH h = encH h') = false := by rw [hE.out]; simp [q0]
    have SMc := hide (fun W (r1 : Rd W (some ⟨g1, 0, none⟩) 44 ((encH h).map (Value.int .u8))) (r2 : Rd W (some ⟨g2, 0, none⟩) 44 ((encH h').map (Value.int .u8))) => SM.out _ _ 44 c1 c2 (encH h) (encH h') W (by decide) r1 r2)
    rw [hs] at SMc
    clear hs SM
    go_region_held3 (fun w' => w'.cell? ⟨w.heap.size, 0, none⟩ = some (.int .i64 v) ∧ w'.cell? ⟨w.heap.size, 1, none⟩ = some (.int .u32 a) ∧ w'.cell? ⟨w.heap.size, 2, none⟩ = some (.int .u32 b) ∧ w'.cell? ⟨w.heap.size, 3, none⟩ = some (.int .u32 c) ∧ w'.cell? ⟨w.heap.size, 4, none⟩ = some (.int .u32 d) ∧ w'.cell? ⟨w.heap.size, 5, none⟩ = some (.int .u32 x) ∧ w'.cell? ⟨w.heap.size, 6, none⟩ = some (.int .u32 y) ∧ w'.cell? ⟨w.heap.size + 1, 0, none⟩ = some (.int .i64 v) ∧ w'.cell? ⟨w.heap.size + 1, 1, none⟩ = some (.int .u32 a') ∧ w'.cell? ⟨w.heap.size + 1, 2, none⟩ = some (.int .u32 b') ∧ w'.cell? ⟨w.heap.size + 1, 3, none⟩ = some (.int .u32 c') ∧ w'.cell? ⟨w.heap.size + 1, 4, none⟩ = some (.int .u32 d') ∧ w'.cell? ⟨w.heap.size + 1, 5, none⟩ = some (.int .u32 x') ∧ w'.cell? ⟨w.heap.size + 1, 6, none⟩ = some (.int .u32 y') ∧ Sem.run Tryd.prog (convert 25 9 (.slice (some ⟨g1, 0, none⟩) 4 c1)) w' = .ok (.string ⟨#[84, 90, 105, 102]⟩) w' ∧ Hid (Rd w' (some ⟨g1, 0, none⟩) 44 ((encH h).map (Value.int .u8))) ∧ Hid (Rd w' (some ⟨g2, 0, none⟩) 44 ((encH h').map (Value.int .u8))) ∧ Hid (Below w.heap.size w w'))
      (first
        | exact ⟨(cells7 bx.out).1, (cells7 bx.out).2.1, (cells7 bx.out).2.2.1, (cells7 bx.out).2.2.2.1, (cells7 bx.out).2.2.2.2.1, (cells7 bx.out).2.2.2.2.2.1, (cells7 bx.out).2.2.2.2.2.2, (cells7 by_.out).1, (cells7 by_.out).2.1, (cells7 by_.out).2.2.1, (cells7 by_.out).2.2.2.1, (cells7 by_.out).2.2.2.2.1, (cells7 by_.out).2.2.2.2.2.1, (cells7 by_.out).2.2.2.2.2.2, by first | exact conv4 r1.out | exact conv4 (Rd.drew r1.out), by first | exact r1 | exact hide (Rd.drew r1.out), by first | exact r2 | exact hide (Rd.drew r2.out), by first | exact hb | exact hide (bl_drew hb.out)⟩
        | (go_split_ands; refine ⟨?_, ?_, ?_, ?_, ?_, ?_, ?_, ?_, ?_, ?_, ?_, ?_, ?_, ?_, ?_, ?_, ?_, ?_⟩ <;> first | exact cellE h1 (by assumption) | exact conv4 (Rd.below (Hid.out (by assumption)) h1) | exact hide (Rd.below (Hid.out (by assumption)) h1) | exact hide (bel_next (Hid.out (by assumption)) h1)))
      (first
        | (go_at_call 12; go_split_ands; refine (SMc.out _ (Hid.out (by assumption)) (Hid.out (by assumption))).mono ?_; rintro e w6 ⟨rfl, hq⟩; have h1 := bel_q hq))
    go_wp2
    go_ret
    go_split_ands
    exact ⟨rfl, Hid.out (by assumption)⟩
  subst f1
  by_cases f2 : b = b'
  case neg =>
    have q0 : (b == b') = false := by simpa using f2
    have hs : decide (encH h = encH h') = false := by rw [hE.out]; simp [q0]
    have SMc := hide (fun W (r1 : Rd W (some ⟨g1, 0, none⟩) 44 ((encH h).map (Value.int .u8))) (r2 : Rd W (some ⟨g2, 0, none⟩) 44 ((encH h').map (Value.int .u8))) => SM.out _ _ 44 c1 c2 (encH h) (encH h') W (by decide) r1 r2)
    rw [hs] at SMc
    clear hs SM
    go_region_held3 (fun w' => w'.cell? ⟨w.heap.size, 0, none⟩ = some (.int .i64 v) ∧ w'.cell? ⟨w.heap.size, 1, none⟩ = some (.int .u32 a) ∧ w'.cell? ⟨w.heap.size, 2, none⟩ = some (.int .u32 b) ∧ w'.cell? ⟨w.heap.size, 3, none⟩ = some (.int .u32 c) ∧ w'.cell? ⟨w.heap.size, 4, none⟩ = some (.int .u32 d) ∧ w'.cell? ⟨w.heap.size, 5, none⟩ = some (.int .u32 x) ∧ w'.cell? ⟨w.heap.size, 6, none⟩ = some (.int .u32 y) ∧ w'.cell? ⟨w.heap.size + 1, 0, none⟩ = some (.int .i64 v) ∧ w'.cell? ⟨w.heap.size + 1, 1, none⟩ = some (.int .u32 a) ∧ w'.cell? ⟨w.heap.size + 1, 2, none⟩ = some (.int .u32 b') ∧ w'.cell? ⟨w.heap.size + 1, 3, none⟩ = some (.int .u32 c') ∧ w'.cell? ⟨w.heap.size + 1, 4, none⟩ = some (.int .u32 d') ∧ w'.cell? ⟨w.heap.size + 1, 5, none⟩ = some (.int .u32 x') ∧ w'.cell? ⟨w.heap.size + 1, 6, none⟩ = some (.int .u32 y') ∧ Sem.run Tryd.prog (convert 25 9 (.slice (some ⟨g1, 0, none⟩) 4 c1)) w' = .ok (.string ⟨#[84, 90, 105, 102]⟩) w' ∧ Hid (Rd w' (some ⟨g1, 0, none⟩) 44 ((encH h).map (Value.int .u8))) ∧ Hid (Rd w' (some ⟨g2, 0, none⟩) 44 ((encH h').map (Value.int .u8))) ∧ Hid (Below w.heap.size w w'))
      (first
        | exact ⟨(cells7 bx.out).1, (cells7 bx.out).2.1, (cells7 bx.out).2.2.1, (cells7 bx.out).2.2.2.1, (cells7 bx.out).2.2.2.2.1, (cells7 bx.out).2.2.2.2.2.1, (cells7 bx.out).2.2.2.2.2.2, (cells7 by_.out).1, (cells7 by_.out).2.1, (cells7 by_.out).2.2.1, (cells7 by_.out).2.2.2.1, (cells7 by_.out).2.2.2.2.1, (cells7 by_.out).2.2.2.2.2.1, (cells7 by_.out).2.2.2.2.2.2, by first | exact conv4 r1.out | exact conv4 (Rd.drew r1.out), by first | exact r1 | exact hide (Rd.drew r1.out), by first | exact r2 | exact hide (Rd.drew r2.out), by first | exact hb | exact hide (bl_drew hb.out)⟩
        | (go_split_ands; refine ⟨?_, ?_, ?_, ?_, ?_, ?_, ?_, ?_, ?_, ?_, ?_, ?_, ?_, ?_, ?_, ?_, ?_, ?_⟩ <;> first | exact cellE h1 (by assumption) | exact conv4 (Rd.below (Hid.out (by assumption)) h1) | exact hide (Rd.below (Hid.out (by assumption)) h1) | exact hide (bel_next (Hid.out (by assumption)) h1)))
      (first
        | (go_at_call 12; go_split_ands; refine (SMc.out _ (Hid.out (by assumption)) (Hid.out (by assumption))).mono ?_; rintro e w6 ⟨rfl, hq⟩; have h1 := bel_q hq))
    go_wp2
    go_ret
    go_split_ands
    exact ⟨rfl, Hid.out (by assumption)⟩
  subst f2
  by_cases f3 : c = c'
  case neg =>
    have q0 : (c == c') = false := by simpa using f3
    have hs : decide (encH h = encH h') = false := by rw [hE.out]; simp [q0]
    have SMc := hide (fun W (r1 : Rd W (some ⟨g1, 0, none⟩) 44 ((encH h).map (Value.int .u8))) (r2 : Rd W (some ⟨g2, 0, none⟩) 44 ((encH h').map (Value.int .u8))) => SM.out _ _ 44 c1 c2 (encH h) (encH h') W (by decide) r1 r2)
    rw [hs] at SMc
    clear hs SM
    go_region_held3 (fun w' => w'.cell? ⟨w.heap.size, 0, none⟩ = some (.int .i64 v) ∧ w'.cell? ⟨w.heap.size, 1, none⟩ = some (.int .u32 a) ∧ w'.cell? ⟨w.heap.size, 2, none⟩ = some (.int .u32 b) ∧ w'.cell? ⟨w.heap.size, 3, none⟩ = some (.int .u32 c) ∧ w'.cell? ⟨w.heap.size, 4, none⟩ = some (.int .u32 d) ∧ w'.cell? ⟨w.heap.size, 5, none⟩ = some (.int .u32 x) ∧ w'.cell? ⟨w.heap.size, 6, none⟩ = some (.int .u32 y) ∧ w'.cell? ⟨w.heap.size + 1, 0, none⟩ = some (.int .i64 v) ∧ w'.cell? ⟨w.heap.size + 1, 1, none⟩ = some (.int .u32 a) ∧ w'.cell? ⟨w.heap.size + 1, 2, none⟩ = some (.int .u32 b) ∧ w'.cell? ⟨w.heap.size + 1, 3, none⟩ = some (.int .u32 c') ∧ w'.cell? ⟨w.heap.size + 1, 4, none⟩ = some (.int .u32 d') ∧ w'.cell? ⟨w.heap.size + 1, 5, none⟩ = some (.int .u32 x') ∧ w'.cell? ⟨w.heap.size + 1, 6, none⟩ = some (.int .u32 y') ∧ Sem.run Tryd.prog (convert 25 9 (.slice (some ⟨g1, 0, none⟩) 4 c1)) w' = .ok (.string ⟨#[84, 90, 105, 102]⟩) w' ∧ Hid (Rd w' (some ⟨g1, 0, none⟩) 44 ((encH h).map (Value.int .u8))) ∧ Hid (Rd w' (some ⟨g2, 0, none⟩) 44 ((encH h').map (Value.int .u8))) ∧ Hid (Below w.heap.size w w'))
      (first
        | exact ⟨(cells7 bx.out).1, (cells7 bx.out).2.1, (cells7 bx.out).2.2.1, (cells7 bx.out).2.2.2.1, (cells7 bx.out).2.2.2.2.1, (cells7 bx.out).2.2.2.2.2.1, (cells7 bx.out).2.2.2.2.2.2, (cells7 by_.out).1, (cells7 by_.out).2.1, (cells7 by_.out).2.2.1, (cells7 by_.out).2.2.2.1, (cells7 by_.out).2.2.2.2.1, (cells7 by_.out).2.2.2.2.2.1, (cells7 by_.out).2.2.2.2.2.2, by first | exact conv4 r1.out | exact conv4 (Rd.drew r1.out), by first | exact r1 | exact hide (Rd.drew r1.out), by first | exact r2 | exact hide (Rd.drew r2.out), by first | exact hb | exact hide (bl_drew hb.out)⟩
        | (go_split_ands; refine ⟨?_, ?_, ?_, ?_, ?_, ?_, ?_, ?_, ?_, ?_, ?_, ?_, ?_, ?_, ?_, ?_, ?_, ?_⟩ <;> first | exact cellE h1 (by assumption) | exact conv4 (Rd.below (Hid.out (by assumption)) h1) | exact hide (Rd.below (Hid.out (by assumption)) h1) | exact hide (bel_next (Hid.out (by assumption)) h1)))
      (first
        | (go_at_call 12; go_split_ands; refine (SMc.out _ (Hid.out (by assumption)) (Hid.out (by assumption))).mono ?_; rintro e w6 ⟨rfl, hq⟩; have h1 := bel_q hq))
    go_wp2
    go_ret
    go_split_ands
    exact ⟨rfl, Hid.out (by assumption)⟩
  subst f3
  by_cases f4 : d = d'
  case neg =>
    have q0 : (d == d') = false := by simpa using f4
    have hs : decide (encH h = encH h') = false := by rw [hE.out]; simp [q0]
    have SMc := hide (fun W (r1 : Rd W (some ⟨g1, 0, none⟩) 44 ((encH h).map (Value.int .u8))) (r2 : Rd W (some ⟨g2, 0, none⟩) 44 ((encH h').map (Value.int .u8))) => SM.out _ _ 44 c1 c2 (encH h) (encH h') W (by decide) r1 r2)
    rw [hs] at SMc
    clear hs SM
    go_region_held3 (fun w' => w'.cell? ⟨w.heap.size, 0, none⟩ = some (.int .i64 v) ∧ w'.cell? ⟨w.heap.size, 1, none⟩ = some (.int .u32 a) ∧ w'.cell? ⟨w.heap.size, 2, none⟩ = some (.int .u32 b) ∧ w'.cell? ⟨w.heap.size, 3, none⟩ = some (.int .u32 c) ∧ w'.cell? ⟨w.heap.size, 4, none⟩ = some (.int .u32 d) ∧ w'.cell? ⟨w.heap.size, 5, none⟩ = some (.int .u32 x) ∧ w'.cell? ⟨w.heap.size, 6, none⟩ = some (.int .u32 y) ∧ w'.cell? ⟨w.heap.size + 1, 0, none⟩ = some (.int .i64 v) ∧ w'.cell? ⟨w.heap.size + 1, 1, none⟩ = some (.int .u32 a) ∧ w'.cell? ⟨w.heap.size + 1, 2, none⟩ = some (.int .u32 b) ∧ w'.cell? ⟨w.heap.size + 1, 3, none⟩ = some (.int .u32 c) ∧ w'.cell? ⟨w.heap.size + 1, 4, none⟩ = some (.int .u32 d') ∧ w'.cell? ⟨w.heap.size + 1, 5, none⟩ = some (.int .u32 x') ∧ w'.cell? ⟨w.heap.size + 1, 6, none⟩ = some (.int .u32 y') ∧ Sem.run Tryd.prog (convert 25 9 (.slice (some ⟨g1, 0, none⟩) 4 c1)) w' = .ok (.string ⟨#[84, 90, 105, 102]⟩) w' ∧ Hid (Rd w' (some ⟨g1, 0, none⟩) 44 ((encH h).map (Value.int .u8))) ∧ Hid (Rd w' (some ⟨g2, 0, none⟩) 44 ((encH h').map (Value.int .u8))) ∧ Hid (Below w.heap.size w w'))
      (first
        | exact ⟨(cells7 bx.out).1, (cells7 bx.out).2.1, (cells7 bx.out).2.2.1, (cells7 bx.out).2.2.2.1, (cells7 bx.out).2.2.2.2.1, (cells7 bx.out).2.2.2.2.2.1, (cells7 bx.out).2.2.2.2.2.2, (cells7 by_.out).1, (cells7 by_.out).2.1, (cells7 by_.out).2.2.1, (cells7 by_.out).2.2.2.1, (cells7 by_.out).2.2.2.2.1, (cells7 by_.out).2.2.2.2.2.1, (cells7 by_.out).2.2.2.2.2.2, by first | exact conv4 r1.out | exact conv4 (Rd.drew r1.out), by first | exact r1 | exact hide (Rd.drew r1.out), by first | exact r2 | exact hide (Rd.drew r2.out), by first | exact hb | exact hide (bl_drew hb.out)⟩
        | (go_split_ands; refine ⟨?_, ?_, ?_, ?_, ?_, ?_, ?_, ?_, ?_, ?_, ?_, ?_, ?_, ?_, ?_, ?_, ?_, ?_⟩ <;> first | exact cellE h1 (by assumption) | exact conv4 (Rd.below (Hid.out (by assumption)) h1) | exact hide (Rd.below (Hid.out (by assumption)) h1) | exact hide (bel_next (Hid.out (by assumption)) h1)))
      (first
        | (go_at_call 12; go_split_ands; refine (SMc.out _ (Hid.out (by assumption)) (Hid.out (by assumption))).mono ?_; rintro e w6 ⟨rfl, hq⟩; have h1 := bel_q hq))
    go_wp2
    go_ret
    go_split_ands
    exact ⟨rfl, Hid.out (by assumption)⟩
  subst f4
  by_cases f5 : x = x'
  case neg =>
    have q0 : (x == x') = false := by simpa using f5
    have hs : decide (encH h = encH h') = false := by rw [hE.out]; simp [q0]
    have SMc := hide (fun W (r1 : Rd W (some ⟨g1, 0, none⟩) 44 ((encH h).map (Value.int .u8))) (r2 : Rd W (some ⟨g2, 0, none⟩) 44 ((encH h').map (Value.int .u8))) => SM.out _ _ 44 c1 c2 (encH h) (encH h') W (by decide) r1 r2)
    rw [hs] at SMc
    clear hs SM
    go_region_held3 (fun w' => w'.cell? ⟨w.heap.size, 0, none⟩ = some (.int .i64 v) ∧ w'.cell? ⟨w.heap.size, 1, none⟩ = some (.int .u32 a) ∧ w'.cell? ⟨w.heap.size, 2, none⟩ = some (.int .u32 b) ∧ w'.cell? ⟨w.heap.size, 3, none⟩ = some (.int .u32 c) ∧ w'.cell? ⟨w.heap.size, 4, none⟩ = some (.int .u32 d) ∧ w'.cell? ⟨w.heap.size, 5, none⟩ = some (.int .u32 x) ∧ w'.cell? ⟨w.heap.size, 6, none⟩ = some (.int .u32 y) ∧ w'.cell? ⟨w.heap.size + 1, 0, none⟩ = some (.int .i64 v) ∧ w'.cell? ⟨w.heap.size + 1, 1, none⟩ = some (.int .u32 a) ∧ w'.cell? ⟨w.heap.size + 1, 2, none⟩ = some (.int .u32 b) ∧ w'.cell? ⟨w.heap.size + 1, 3, none⟩ = some (.int .u32 c) ∧ w'.cell? ⟨w.heap.size + 1, 4, none⟩ = some (.int .u32 d) ∧ w'.cell? ⟨w.heap.size + 1, 5, none⟩ = some (.int .u32 x') ∧ w'.cell? ⟨w.heap.size + 1, 6, none⟩ = some (.int .u32 y') ∧ Sem.run Tryd.prog (convert 25 9 (.slice (some ⟨g1, 0, none⟩) 4 c1)) w' = .ok (.string ⟨#[84, 90, 105, 102]⟩) w' ∧ Hid (Rd w' (some ⟨g1, 0, none⟩) 44 ((encH h).map (Value.int .u8))) ∧ Hid (Rd w' (some ⟨g2, 0, none⟩) 44 ((encH h').map (Value.int .u8))) ∧ Hid (Below w.heap.size w w'))
      (first
        | exact ⟨(cells7 bx.out).1, (cells7 bx.out).2.1, (cells7 bx.out).2.2.1, (cells7 bx.out).2.2.2.1, (cells7 bx.out).2.2.2.2.1, (cells7 bx.out).2.2.2.2.2.1, (cells7 bx.out).2.2.2.2.2.2, (cells7 by_.out).1, (cells7 by_.out).2.1, (cells7 by_.out).2.2.1, (cells7 by_.out).2.2.2.1, (cells7 by_.out).2.2.2.2.1, (cells7 by_.out).2.2.2.2.2.1, (cells7 by_.out).2.2.2.2.2.2, by first | exact conv4 r1.out | exact conv4 (Rd.drew r1.out), by first | exact r1 | exact hide (Rd.drew r1.out), by first | exact r2 | exact hide (Rd.drew r2.out), by first | exact hb | exact hide (bl_drew hb.out)⟩
        | (go_split_ands; refine ⟨?_, ?_, ?_, ?_, ?_, ?_, ?_, ?_, ?_, ?_, ?_, ?_, ?_, ?_, ?_, ?_, ?_, ?_⟩ <;> first | exact cellE h1 (by assumption) | exact conv4 (Rd.below (Hid.out (by assumption)) h1) | exact hide (Rd.below (Hid.out (by assumption)) h1) | exact hide (bel_next (Hid.out (by assumption)) h1)))
      (first
        | (go_at_call 12; go_split_ands; refine (SMc.out _ (Hid.out (by assumption)) (Hid.out (by assumption))).mono ?_; rintro e w6 ⟨rfl, hq⟩; have h1 := bel_q hq))
    go_wp2
    go_ret
    go_split_ands
    exact ⟨rfl, Hid.out (by assumption)⟩
  subst f5
  by_cases f6 : y = y'
  case neg =>
    have q0 : (y == y') = false := by simpa using f6
    have hs : decide (encH h = encH h') = false := by rw [hE.out]; simp [q0]
    have SMc := hide (fun W (r1 : Rd W (some ⟨g1, 0, none⟩) 44 ((encH h).map (Value.int .u8))) (r2 : Rd W (some ⟨g2, 0, none⟩) 44 ((encH h').map (Value.int .u8))) => SM.out _ _ 44 c1 c2 (encH h) (encH h') W (by decide) r1 r2)
    rw [hs] at SMc
    clear hs SM
    go_region_held3 (fun w' => w'.cell? ⟨w.heap.size, 0, none⟩ = some (.int .i64 v) ∧ w'.cell? ⟨w.heap.size, 1, none⟩ = some (.int .u32 a) ∧ w'.cell? ⟨w.heap.size, 2, none⟩ = some (.int .u32 b) ∧ w'.cell? ⟨w.heap.size, 3, none⟩ = some (.int .u32 c) ∧ w'.cell? ⟨w.heap.size, 4, none⟩ = some (.int .u32 d) ∧ w'.cell? ⟨w.heap.size, 5, none⟩ = some (.int .u32 x) ∧ w'.cell? ⟨w.heap.size, 6, none⟩ = some (.int .u32 y) ∧ w'.cell? ⟨w.heap.size + 1, 0, none⟩ = some (.int .i64 v) ∧ w'.cell? ⟨w.heap.size + 1, 1, none⟩ = some (.int .u32 a) ∧ w'.cell? ⟨w.heap.size + 1, 2, none⟩ = some (.int .u32 b) ∧ w'.cell? ⟨w.heap.size + 1, 3, none⟩ = some (.int .u32 c) ∧ w'.cell? ⟨w.heap.size + 1, 4, none⟩ = some (.int .u32 d) ∧ w'.cell? ⟨w.heap.size + 1, 5, none⟩ = some (.int .u32 x) ∧ w'.cell? ⟨w.heap.size + 1, 6, none⟩ = some (.int .u32 y') ∧ Sem.run Tryd.prog (convert 25 9 (.slice (some ⟨g1, 0, none⟩) 4 c1)) w' = .ok (.string ⟨#[84, 90, 105, 102]⟩) w' ∧ Hid (Rd w' (some ⟨g1, 0, none⟩) 44 ((encH h).map (Value.int .u8))) ∧ Hid (Rd w' (some ⟨g2, 0, none⟩) 44 ((encH h').map (Value.int .u8))) ∧ Hid (Below w.heap.size w w'))
      (first
        | exact ⟨(cells7 bx.out).1, (cells7 bx.out).2.1, (cells7 bx.out).2.2.1, (cells7 bx.out).2.2.2.1, (cells7 bx.out).2.2.2.2.1, (cells7 bx.out).2.2.2.2.2.1, (cells7 bx.out).2.2.2.2.2.2, (cells7 by_.out).1, (cells7 by_.out).2.1, (cells7 by_.out).2.2.1, (cells7 by_.out).2.2.2.1, (cells7 by_.out).2.2.2.2.1, (cells7 by_.out).2.2.2.2.2.1, (cells7 by_.out).2.2.2.2.2.2, by first | exact conv4 r1.out | exact conv4 (Rd.drew r1.out), by first | exact r1 | exact hide (Rd.drew r1.out), by first | exact r2 | exact hide (Rd.drew r2.out), by first | exact hb | exact hide (bl_drew hb.out)⟩
        | (go_split_ands; refine ⟨?_, ?_, ?_, ?_, ?_, ?_, ?_, ?_, ?_, ?_, ?_, ?_, ?_, ?_, ?_, ?_, ?_, ?_⟩ <;> first | exact cellE h1 (by assumption) | exact conv4 (Rd.below (Hid.out (by assumption)) h1) | exact hide (Rd.below (Hid.out (by assumption)) h1) | exact hide (bel_next (Hid.out (by assumption)) h1)))
      (first
        | (go_at_call 12; go_split_ands; refine (SMc.out _ (Hid.out (by assumption)) (Hid.out (by assumption))).mono ?_; rintro e w6 ⟨rfl, hq⟩; have h1 := bel_q hq))
    go_wp2
    go_ret
    go_split_ands
    exact ⟨rfl, Hid.out (by assumption)⟩
  subst f6
  have hs : decide (encH h = encH h') = true := by rw [hE.out]; simp
  have SMc := hide (fun W (r1 : Rd W (some ⟨g1, 0, none⟩) 44 ((encH h).map (Value.int .u8))) (r2 : Rd W (some ⟨g2, 0, none⟩) 44 ((encH h').map (Value.int .u8))) => SM.out _ _ 44 c1 c2 (encH h) (encH h') W (by decide) r1 r2)
  rw [hs] at SMc
  clear hs SM
  go_region_held3 (fun w' => w'.cell? ⟨w.heap.size, 0, none⟩ = some (.int .i64 v) ∧ w'.cell? ⟨w.heap.size, 1, none⟩ = some (.int .u32 a) ∧ w'.cell? ⟨w.heap.size, 2, none⟩ = some (.int .u32 b) ∧ w'.cell? ⟨w.heap.size, 3, none⟩ = some (.int .u32 c) ∧ w'.cell? ⟨w.heap.size, 4, none⟩ = some (.int .u32 d) ∧ w'.cell? ⟨w.heap.size, 5, none⟩ = some (.int .u32 x) ∧ w'.cell? ⟨w.heap.size, 6, none⟩ = some (.int .u32 y) ∧ w'.cell? ⟨w.heap.size + 1, 0, none⟩ = some (.int .i64 v) ∧ w'.cell? ⟨w.heap.size + 1, 1, none⟩ = some (.int .u32 a) ∧ w'.cell? ⟨w.heap.size + 1, 2, none⟩ = some (.int .u32 b) ∧ w'.cell? ⟨w.heap.size + 1, 3, none⟩ = some (.int .u32 c) ∧ w'.cell? ⟨w.heap.size + 1, 4, none⟩ = some (.int .u32 d) ∧ w'.cell? ⟨w.heap.size + 1, 5, none⟩ = some (.int .u32 x) ∧ w'.cell? ⟨w.heap.size + 1, 6, none⟩ = some (.int .u32 y) ∧ Sem.run Tryd.prog (convert 25 9 (.slice (some ⟨g1, 0, none⟩) 4 c1)) w' = .ok (.string ⟨#[84, 90, 105, 102]⟩) w' ∧ Hid (Rd w' (some ⟨g1, 0, none⟩) 44 ((encH h).map (Value.int .u8))) ∧ Hid (Rd w' (some ⟨g2, 0, none⟩) 44 ((encH h').map (Value.int .u8))) ∧ Hid (Below w.heap.size w w'))
    (first
      | exact ⟨(cells7 bx.out).1, (cells7 bx.out).2.1, (cells7 bx.out).2.2.1, (cells7 bx.out).2.2.2.1, (cells7 bx.out).2.2.2.2.1, (cells7 bx.out).2.2.2.2.2.1, (cells7 bx.out).2.2.2.2.2.2, (cells7 by_.out).1, (cells7 by_.out).2.1, (cells7 by_.out).2.2.1, (cells7 by_.out).2.2.2.1, (cells7 by_.out).2.2.2.2.1, (cells7 by_.out).2.2.2.2.2.1, (cells7 by_.out).2.2.2.2.2.2, by first | exact conv4 r1.out | exact conv4 (Rd.drew r1.out), by first | exact r1 | exact hide (Rd.drew r1.out), by first | exact r2 | exact hide (Rd.drew r2.out), by first | exact hb | exact hide (bl_drew hb.out)⟩
      | (go_split_ands; refine ⟨?_, ?_, ?_, ?_, ?_, ?_, ?_, ?_, ?_, ?_, ?_, ?_, ?_, ?_, ?_, ?_, ?_, ?_⟩ <;> first | exact cellE h1 (by assumption) | exact conv4 (Rd.below (Hid.out (by assumption)) h1) | exact hide (Rd.below (Hid.out (by assumption)) h1) | exact hide (bel_next (Hid.out (by assumption)) h1)))
    (first
      | (go_at_call 12; go_split_ands; refine (SMc.out _ (Hid.out (by assumption)) (Hid.out (by assumption))).mono ?_; rintro e w6 ⟨rfl, hq⟩; have h1 := bel_q hq))
  go_wp2
  go_ret
  go_split_ands
  exact ⟨rfl, Hid.out (by assumption)⟩
end l13_
end Go.Proofs.YtakimiiggemfiaaDoor

/-
  Texts of mine in one file: Ref11c, Ref11d. Their conditions stand in the theorems.
-/
import Derived.Test.YtbehflfpdkedgaaGreatDoorQ24
namespace Go.Proofs.YtbehflfpdkedgaaGreatDoor
set_option linter.unusedVariables false
set_option linter.unusedSimpArgs false
set_option maxRecDepth 100000
set_option maxHeartbeats 16000000
open Go.ChangeShapes Go.WideShapes Go.ChangeAt Go.RowKit
theorem cmp_in (x t : Int) : cmpI (x / 86400) (x % 86400) (t / 86400) (t % 86400) = if x < t then -1 else if x = t then 0 else 1 := by
 unfold cmpI
 by_cases h : x < t
 ·rw [if_pos h, if_pos (by omega)]
 ·rw [if_neg h, if_neg (by omega)]
  by_cases h2 : x = t
  ·rw [if_pos h2, if_pos (by subst h2; exact ⟨rfl, rfl⟩)]
  ·rw [if_neg h2, if_neg (by omega)]
namespace r11_
theorem Cmp (x t : Int) : ∃ v : Int, (∀ w : World, Calls Tryz.prog 117 #[vin x, vin t] w fun e w' => e = .returned (.int .i64 v) ∧ Below w.heap.size w w') ∧ (v ≤ 0 ↔ x ≤ t) ∧ (0 < v ↔ t < x) ∧ (0 ≤ v ↔ t ≤ x) ∧ (v < 0 ↔ x < t) := by
 refine ⟨cmpI (x / 86400) (x % 86400) (t / 86400) (t % 86400), fun w => Compare _ _ _ _ w, ?_⟩
 rw [cmp_in]
 by_cases h : x < t
 ·rw [if_pos h]; omega
 ·rw [if_neg h]
  by_cases h2 : x = t
  ·rw [if_pos h2]; omega
  ·rw [if_neg h2]; omega
theorem On_yes (std : ByteArray) (so : Int) (dst : ByteArray) (dof : Int) (st en : RD) (t Y : Int) (b : Bool) (w : World) (hs : rdOk st) (he : rdOk en) (so0 : offOk so) (do0 : offOk dof) (t0 : ystart Y * 86400 ≤ t) (t1 : t < ystart (Y + 1) * 86400) (y0 : -500000000000 ≤ Y) (y1 : Y ≤ 500000000000)
 (hbn : b = true ↔ onS st en so dof t) :
 Calls Tryz.prog 86 #[.agg (crule std so true dst dof st en), vin t, .int .i64 Y] w fun e w' => e = .returned (.bool b) ∧ Below w.heap.size w w' := by
 have C := hide (fun y w h0 h1 => Changes std so true dst dof st en y w hs he so0 do0 h0 h1)
 have G := gr_rule std so true dst dof st en
 have fin := hide (fun (fd on : Bool) (L : Int) (h : Lst (chs st so (Y - 3) (Y + 3)) (chs en dof (Y - 3) (Y + 3)) t fd on L) => Lst.on hs he so0 do0 t0 t1 h)
 obtain ⟨cs, hcs⟩ : ∃ cs, crule std so true dst dof st en = cs := ⟨_, rfl⟩
 have e2 : cs[2]? = some (.bool true) := by rw [← hcs]; rfl
 rw [hcs] at C G ⊢
 have M := hide (Cmp)
 clear hcs t0 t1 hs he so0 do0
 replace hbn := hide hbn
 have hR := hide (((Ro.new w cs 51).alloc (.cells (cin t) 117)).alloc (.cells (cin 0) 117))
 have hT := hide ((show Ro ((w.alloc (.cells cs 51)).alloc (.cells (cin t) 117)) (w.heap.size + 1) (cin t) 117 by have := Ro.new (w.alloc (.cells cs 51)) (cin t) 117; simpa using this).alloc (.cells (cin 0) 117))
 have hL := hide (show Ro (((w.alloc (.cells cs 51)).alloc (.cells (cin t) 117)).alloc (.cells (cin 0) 117)) (w.heap.size + 1 + 1) (cin 0) 117 by have := Ro.new ((w.alloc (.cells cs 51)).alloc (.cells (cin t) 117)) (cin 0) 117; simpa using this)
 have hb := hide (bl_alloc (bl_alloc (bl_new w (.cells cs 51)) (.cells (cin t) 117)) (.cells (cin 0) 117))
 have c2 := cellE (w1 := (w.alloc (.cells cs 51)).alloc (.cells (cin t) 117)) (bl_new _ _) (ro_cf (Ro.new w cs 51) 2 _ e2).1
 have f2 : ((w.alloc (.cells cs 51)).alloc (.cells (cin t) 117)).frozen? ⟨w.heap.size, 2, none⟩ = false := ((Ro.new w cs 51).alloc (.cells (cin t) 117)).frozen 2
 have hz : cin 0 = #[.int .i64 0, .int .i64 0] := rfl
 unfold vin
 obtain ⟨q1, q2, htc⟩ : ∃ x y, cin t = #[.int .i64 x, .int .i64 y] := ⟨_, _, rfl⟩
 rw [htc] at hR hT hL hb c2 f2 ⊢
 replace htc := hide htc
 rw [hz] at hR hT hL hb
 clear hz
 go_enter Tryz.func86, Tryz.ntmps86
 go_upto_region 4 with fail
 clear c2 f2 e2
 generalize ((w.alloc (.cells cs 51)).alloc (.cells #[.int .i64 q1, .int .i64 q2] 117)).alloc (.cells #[.int .i64 0, .int .i64 0] 117) = u at *
 have w2 : IntKind.i64.wrap (Y + 2) = Y + 2 := by rw [IntKind.wrap_i64]; omega
 have w3 : IntKind.i64.wrap (Y - 3) = Y - 3 := by rw [IntKind.wrap_i64]; omega
 go_wp2_with fail
 go_loopw [8, 9, 10] (fun ov fv yv wr => ∃ (fd on : Bool) (L y : Int), ov = .bool on ∧ fv = .bool fd ∧ yv = .int .i64 y ∧ Y - 3 ≤ y ∧ y ≤ Y + 3 ∧ Lst (chs st so (Y - 3) y) (chs en dof (Y - 3) y) t fd on L ∧ Ro wr w.heap.size cs 51 ∧ Ro wr (w.heap.size + 1) #[.int .i64 q1, .int .i64 q2] 117 ∧ Ro wr (w.heap.size + 1 + 1) (cin L) 117 ∧ Below w.heap.size w wr) (fun _ _ yv _ => (Y + 3 - intOf yv).toNat)
 case atStart => exact ⟨false, false, 0, Y - 3, rfl, rfl, rfl, by omega, by omega, (Lst.start t 0).congr chs_zero chs_zero, hR.out, hT.out, hL.out, hb.out⟩
 case round =>
  clear hR hT hL hb
  obtain ⟨fd, on, L, y, rfl, rfl, rfl, k0, k1, q, hR, hT, hL, hb⟩ := hrel
  by_cases hy : y ≤ Y + 2
  ·have hyd : decide (y ≤ Y + 2) = true := by simpa using hy
   have Cy := hide (fun w => C.out y w (by omega) (by omega))
   have hY := hide hy
   replace q := hide q
   replace hR := hide hR
   replace hT := hide hT
   replace hL := hide hL
   replace hb := hide hb
   simp only [vin] at Cy
   obtain ⟨a, ha⟩ : ∃ a, chI st so y = a := ⟨_, rfl⟩
   obtain ⟨b', hb'⟩ : ∃ b, chI en dof y = b := ⟨_, rfl⟩
   rw [ha, hb'] at Cy
   replace ha := hide ha
   replace hb' := hide hb'
   obtain ⟨a1, a2, hac⟩ : ∃ x y, cin a = #[.int .i64 x, .int .i64 y] := ⟨_, _, rfl⟩
   obtain ⟨b1, b2, hbc⟩ : ∃ x y, cin b' = #[.int .i64 x, .int .i64 y] := ⟨_, _, rfl⟩
   rw [hac, hbc] at Cy
   replace hac := hide hac
   replace hbc := hide hbc
   go_wp2_with (refine load_row_g (by rfl) 51 _ rfl _ rfl _ _ _ hR.out Tryz.underlying51 rfl G.1 ?_)
   refine (Cy.out _).mono ?_
   rintro e w1 ⟨rfl, h1⟩
   replace hR := hide (hR.out.below h1)
   replace hT := hide (hT.out.below h1)
   replace hL := hide (hL.out.below h1)
   replace hb := hide (bel_next hb.out h1)
   clear h1
   have l0 := hL.out.lt
   have hA := hide ((Ro.new w1 #[.int .i64 a1, .int .i64 a2] 117).alloc (.cells #[.int .i64 b1, .int .i64 b2] 117))
   have hB := hide (show Ro ((w1.alloc (.cells #[.int .i64 a1, .int .i64 a2] 117)).alloc (.cells #[.int .i64 b1, .int .i64 b2] 117)) (w1.heap.size + 1) #[.int .i64 b1, .int .i64 b2] 117 by have := Ro.new (w1.alloc (.cells #[.int .i64 a1, .int .i64 a2] 117)) #[.int .i64 b1, .int .i64 b2] 117; simpa using this)
   replace hR := hide ((hR.out.alloc (.cells #[.int .i64 a1, .int .i64 a2] 117)).alloc (.cells #[.int .i64 b1, .int .i64 b2] 117))
   replace hT := hide ((hT.out.alloc (.cells #[.int .i64 a1, .int .i64 a2] 117)).alloc (.cells #[.int .i64 b1, .int .i64 b2] 117))
   replace hL := hide ((hL.out.alloc (.cells #[.int .i64 a1, .int .i64 a2] 117)).alloc (.cells #[.int .i64 b1, .int .i64 b2] 117))
   replace hb := hide (bl_alloc (bl_alloc hb.out (.cells #[.int .i64 a1, .int .i64 a2] 117)) (.cells #[.int .i64 b1, .int .i64 b2] 117))
   obtain ⟨p1, p2, hpc⟩ : ∃ x y, cin L = #[.int .i64 x, .int .i64 y] := ⟨_, _, rfl⟩
   rw [hpc] at hL
   replace hpc := hide hpc
   go_upto_region 10 with fail
   generalize (w1.alloc (.cells #[.int .i64 a1, .int .i64 a2] 117)).alloc (.cells #[.int .i64 b1, .int .i64 b2] 117) = u2 at *
   generalize w1.heap.size = gA at *
   generalize gA + 1 = gB at *
   go_cut [43] from 18 to 59 (fun s wx => ∃ k : Bool, s = .bool k ∧ (k = true → b' ≤ t ∧ (fd = false ∨ L < b')) ∧ (k = false → t < b' ∨ (fd = true ∧ b' ≤ L)) ∧ Ro wx w.heap.size cs 51 ∧ Ro wx (w.heap.size + 1) #[.int .i64 q1, .int .i64 q2] 117 ∧ Ro wx (w.heap.size + 1 + 1) #[.int .i64 p1, .int .i64 p2] 117 ∧ Ro wx gA #[.int .i64 a1, .int .i64 a2] 117 ∧ Ro wx gB #[.int .i64 b1, .int .i64 b2] 117 ∧ Below w.heap.size w wx)
   case first =>
    obtain ⟨v, Cv, i1, i2, _, _⟩ := M.out b' t
    obtain ⟨vv, Cu, _, i3, i4, i5⟩ := M.out b' L
    simp only [vin] at Cv Cu
    rw [hbc.out, htc.out] at Cv
    rw [hbc.out, hpc.out] at Cu
    replace Cv := hide Cv
    replace Cu := hide Cu
    by_cases c1 : t < b'
    ·have d1 : decide (v ≤ 0) = false := by simp; have := i2.2 c1; omega
     clear i1 i2 i3 i4 i5
     obtain ⟨yx0, zx0⟩ := ro_cf hB.out 0 (.int .i64 b1) rfl
     obtain ⟨yx1, zx1⟩ := ro_cf hB.out 1 (.int .i64 b2) rfl
     obtain ⟨yt0, zt0⟩ := ro_cf hT.out 0 (.int .i64 q1) rfl
     obtain ⟨yt1, zt1⟩ := ro_cf hT.out 1 (.int .i64 q2) rfl
     obtain ⟨yl0, zl0⟩ := ro_cf hL.out 0 (.int .i64 p1) rfl
     obtain ⟨yl1, zl1⟩ := ro_cf hL.out 1 (.int .i64 p2) rfl
     go_wp2_with fail
     refine (Cv.out _).mono ?_
     rintro e w2 ⟨rfl, h1⟩
     replace hR := hide (hR.out.below h1)
     replace hT := hide (hT.out.below h1)
     replace hL := hide (hL.out.below h1)
     replace hA := hide (hA.out.below h1)
     replace hB := hide (hB.out.below h1)
     replace hb := hide (bel_next hb.out h1)
     clear h1 yx0 zx0 yx1 zx1 yt0 zt0 yt1 zt1 yl0 zl0 yl1 zl1
     go_wp2_with fail
     go_meet
     exact ⟨false, rfl, (fun h => (by cases h)), (fun _ => by first | exact .inl c1 | exact .inr ⟨rfl, by omega⟩ | exact .inr ⟨trivial, by omega⟩), hR.out, hT.out, hL.out, hA.out, hB.out, hb.out⟩
    have d1 : decide (v ≤ 0) = true := by simp; exact i1.2 (by omega)
    cases fd
    ·clear i1 i2 i3 i4 i5
     obtain ⟨yx0, zx0⟩ := ro_cf hB.out 0 (.int .i64 b1) rfl
     obtain ⟨yx1, zx1⟩ := ro_cf hB.out 1 (.int .i64 b2) rfl
     obtain ⟨yt0, zt0⟩ := ro_cf hT.out 0 (.int .i64 q1) rfl
     obtain ⟨yt1, zt1⟩ := ro_cf hT.out 1 (.int .i64 q2) rfl
     obtain ⟨yl0, zl0⟩ := ro_cf hL.out 0 (.int .i64 p1) rfl
     obtain ⟨yl1, zl1⟩ := ro_cf hL.out 1 (.int .i64 p2) rfl
     go_wp2_with fail
     refine (Cv.out _).mono ?_
     rintro e w2 ⟨rfl, h1⟩
     replace hR := hide (hR.out.below h1)
     replace hT := hide (hT.out.below h1)
     replace hL := hide (hL.out.below h1)
     replace hA := hide (hA.out.below h1)
     replace hB := hide (hB.out.below h1)
     replace hb := hide (bel_next hb.out h1)
     clear h1 yx0 zx0 yx1 zx1 yt0 zt0 yt1 zt1 yl0 zl0 yl1 zl1
     go_wp2_with fail
     go_meet
     exact ⟨true, rfl, (fun _ => ⟨by omega, by first | exact .inl rfl | exact .inl trivial | exact .inr c2⟩), (fun h => (by cases h)), hR.out, hT.out, hL.out, hA.out, hB.out, hb.out⟩
    by_cases c2 : L < b'
    ·have d2 : decide (0 < vv) = true := by simp; exact i3.2 c2
     clear i1 i2 i3 i4 i5
     obtain ⟨yx0, zx0⟩ := ro_cf hB.out 0 (.int .i64 b1) rfl
     obtain ⟨yx1, zx1⟩ := ro_cf hB.out 1 (.int .i64 b2) rfl
     obtain ⟨yt0, zt0⟩ := ro_cf hT.out 0 (.int .i64 q1) rfl
     obtain ⟨yt1, zt1⟩ := ro_cf hT.out 1 (.int .i64 q2) rfl
     obtain ⟨yl0, zl0⟩ := ro_cf hL.out 0 (.int .i64 p1) rfl
     obtain ⟨yl1, zl1⟩ := ro_cf hL.out 1 (.int .i64 p2) rfl
     go_wp2_with fail
     refine (Cv.out _).mono ?_
     rintro e w2 ⟨rfl, h1⟩
     replace hR := hide (hR.out.below h1)
     replace hT := hide (hT.out.below h1)
     replace hL := hide (hL.out.below h1)
     replace hA := hide (hA.out.below h1)
     replace hB := hide (hB.out.below h1)
     replace hb := hide (bel_next hb.out h1)
     clear h1 yx0 zx0 yx1 zx1 yt0 zt0 yt1 zt1 yl0 zl0 yl1 zl1
     obtain ⟨yx0, zx0⟩ := ro_cf hB.out 0 (.int .i64 b1) rfl
     obtain ⟨yx1, zx1⟩ := ro_cf hB.out 1 (.int .i64 b2) rfl
     obtain ⟨yt0, zt0⟩ := ro_cf hT.out 0 (.int .i64 q1) rfl
     obtain ⟨yt1, zt1⟩ := ro_cf hT.out 1 (.int .i64 q2) rfl
     obtain ⟨yl0, zl0⟩ := ro_cf hL.out 0 (.int .i64 p1) rfl
     obtain ⟨yl1, zl1⟩ := ro_cf hL.out 1 (.int .i64 p2) rfl
     go_wp2_with fail
     refine (Cu.out _).mono ?_
     rintro e w2 ⟨rfl, h1⟩
     replace hR := hide (hR.out.below h1)
     replace hT := hide (hT.out.below h1)
     replace hL := hide (hL.out.below h1)
     replace hA := hide (hA.out.below h1)
     replace hB := hide (hB.out.below h1)
     replace hb := hide (bel_next hb.out h1)
     clear h1 yx0 zx0 yx1 zx1 yt0 zt0 yt1 zt1 yl0 zl0 yl1 zl1
     go_wp2_with fail
     go_meet
     exact ⟨true, rfl, (fun _ => ⟨by omega, by first | exact .inl rfl | exact .inl trivial | exact .inr c2⟩), (fun h => (by cases h)), hR.out, hT.out, hL.out, hA.out, hB.out, hb.out⟩
    ·have d2 : decide (0 < vv) = false := by simp only [decide_eq_false_iff_not]; exact fun h => c2 (i3.1 h)
     clear i1 i2 i3 i4 i5
     obtain ⟨yx0, zx0⟩ := ro_cf hB.out 0 (.int .i64 b1) rfl
     obtain ⟨yx1, zx1⟩ := ro_cf hB.out 1 (.int .i64 b2) rfl
     obtain ⟨yt0, zt0⟩ := ro_cf hT.out 0 (.int .i64 q1) rfl
     obtain ⟨yt1, zt1⟩ := ro_cf hT.out 1 (.int .i64 q2) rfl
     obtain ⟨yl0, zl0⟩ := ro_cf hL.out 0 (.int .i64 p1) rfl
     obtain ⟨yl1, zl1⟩ := ro_cf hL.out 1 (.int .i64 p2) rfl
     go_wp2_with fail
     refine (Cv.out _).mono ?_
     rintro e w2 ⟨rfl, h1⟩
     replace hR := hide (hR.out.below h1)
     replace hT := hide (hT.out.below h1)
     replace hL := hide (hL.out.below h1)
     replace hA := hide (hA.out.below h1)
     replace hB := hide (hB.out.below h1)
     replace hb := hide (bel_next hb.out h1)
     clear h1 yx0 zx0 yx1 zx1 yt0 zt0 yt1 zt1 yl0 zl0 yl1 zl1
     obtain ⟨yx0, zx0⟩ := ro_cf hB.out 0 (.int .i64 b1) rfl
     obtain ⟨yx1, zx1⟩ := ro_cf hB.out 1 (.int .i64 b2) rfl
     obtain ⟨yt0, zt0⟩ := ro_cf hT.out 0 (.int .i64 q1) rfl
     obtain ⟨yt1, zt1⟩ := ro_cf hT.out 1 (.int .i64 q2) rfl
     obtain ⟨yl0, zl0⟩ := ro_cf hL.out 0 (.int .i64 p1) rfl
     obtain ⟨yl1, zl1⟩ := ro_cf hL.out 1 (.int .i64 p2) rfl
     go_wp2_with fail
     refine (Cu.out _).mono ?_
     rintro e w2 ⟨rfl, h1⟩
     replace hR := hide (hR.out.below h1)
     replace hT := hide (hT.out.below h1)
     replace hL := hide (hL.out.below h1)
     replace hA := hide (hA.out.below h1)
     replace hB := hide (hB.out.below h1)
     replace hb := hide (bel_next hb.out h1)
     clear h1 yx0 zx0 yx1 zx1 yt0 zt0 yt1 zt1 yl0 zl0 yl1 zl1
     go_wp2_with fail
     go_meet
     exact ⟨false, rfl, (fun h => (by cases h)), (fun _ => by first | exact .inl c1 | exact .inr ⟨rfl, by omega⟩ | exact .inr ⟨trivial, by omega⟩), hR.out, hT.out, hL.out, hA.out, hB.out, hb.out⟩
   obtain ⟨k, rfl, k1', k2', hR', hT', hL', hA', hB', hb'⟩ := hcut
   replace hR := hide hR'
   replace hT := hide hT'
   replace hL := hide hL'
   replace hA := hide hA'
   replace hB := hide hB'
   replace hb := hide hb'
   clear hR' hT' hL' hA' hB' hb'
   replace k1' := hide k1'
   replace k2' := hide k2'
   cases k
   ·have qq2 := hide ((k2'.out rfl).elim (fun h => q.out.skipB h) (fun h => q.out.keepB h.1 h.2))
    clear k1' k2' q
    go_upto_region 14 with fail
    go_cut [58] from 18 to 59 (fun s wx => ∃ k : Bool, s = .bool k ∧ (k = true → a ≤ t ∧ (fd = false ∨ L ≤ a)) ∧ (k = false → t < a ∨ (fd = true ∧ a < L)) ∧ Ro wx w.heap.size cs 51 ∧ Ro wx (w.heap.size + 1) #[.int .i64 q1, .int .i64 q2] 117 ∧ Ro wx (w.heap.size + 1 + 1) #[.int .i64 p1, .int .i64 p2] 117 ∧ Ro wx gA #[.int .i64 a1, .int .i64 a2] 117 ∧ Below w.heap.size w wx)
    case first =>
     obtain ⟨v, Cv, i1, i2, _, _⟩ := M.out a t
     obtain ⟨vv, Cu, _, i3, i4, i5⟩ := M.out a L
     simp only [vin] at Cv Cu
     rw [hac.out, htc.out] at Cv
     rw [hac.out, hpc.out] at Cu
     replace Cv := hide Cv
     replace Cu := hide Cu
     by_cases c1 : t < a
     ·have d1 : decide (v ≤ 0) = false := by simp; have := i2.2 c1; omega
      clear i1 i2 i3 i4 i5
      obtain ⟨yx0, zx0⟩ := ro_cf hA.out 0 (.int .i64 a1) rfl
      obtain ⟨yx1, zx1⟩ := ro_cf hA.out 1 (.int .i64 a2) rfl
      obtain ⟨yt0, zt0⟩ := ro_cf hT.out 0 (.int .i64 q1) rfl
      obtain ⟨yt1, zt1⟩ := ro_cf hT.out 1 (.int .i64 q2) rfl
      obtain ⟨yl0, zl0⟩ := ro_cf hL.out 0 (.int .i64 p1) rfl
      obtain ⟨yl1, zl1⟩ := ro_cf hL.out 1 (.int .i64 p2) rfl
      go_wp2_with fail
      refine (Cv.out _).mono ?_
      rintro e w2 ⟨rfl, h1⟩
      replace hR := hide (hR.out.below h1)
      replace hT := hide (hT.out.below h1)
      replace hL := hide (hL.out.below h1)
      replace hA := hide (hA.out.below h1)
      replace hb := hide (bel_next hb.out h1)
      clear h1 yx0 zx0 yx1 zx1 yt0 zt0 yt1 zt1 yl0 zl0 yl1 zl1
      go_wp2_with fail
      go_meet
      exact ⟨false, rfl, (fun h => (by cases h)), (fun _ => by first | exact .inl c1 | exact .inr ⟨rfl, by omega⟩ | exact .inr ⟨trivial, by omega⟩), hR.out, hT.out, hL.out, hA.out, hb.out⟩
     have d1 : decide (v ≤ 0) = true := by simp; exact i1.2 (by omega)
     cases fd
     ·clear i1 i2 i3 i4 i5
      obtain ⟨yx0, zx0⟩ := ro_cf hA.out 0 (.int .i64 a1) rfl
      obtain ⟨yx1, zx1⟩ := ro_cf hA.out 1 (.int .i64 a2) rfl
      obtain ⟨yt0, zt0⟩ := ro_cf hT.out 0 (.int .i64 q1) rfl
      obtain ⟨yt1, zt1⟩ := ro_cf hT.out 1 (.int .i64 q2) rfl
      obtain ⟨yl0, zl0⟩ := ro_cf hL.out 0 (.int .i64 p1) rfl
      obtain ⟨yl1, zl1⟩ := ro_cf hL.out 1 (.int .i64 p2) rfl
      go_wp2_with fail
      refine (Cv.out _).mono ?_
      rintro e w2 ⟨rfl, h1⟩
      replace hR := hide (hR.out.below h1)
      replace hT := hide (hT.out.below h1)
      replace hL := hide (hL.out.below h1)
      replace hA := hide (hA.out.below h1)
      replace hb := hide (bel_next hb.out h1)
      clear h1 yx0 zx0 yx1 zx1 yt0 zt0 yt1 zt1 yl0 zl0 yl1 zl1
      go_wp2_with fail
      go_meet
      exact ⟨true, rfl, (fun _ => ⟨by omega, by first | exact .inl rfl | exact .inl trivial | exact .inr c2⟩), (fun h => (by cases h)), hR.out, hT.out, hL.out, hA.out, hb.out⟩
     by_cases c2 : L ≤ a
     ·have d2 : decide (0 ≤ vv) = true := by simp; exact i4.2 c2
      clear i1 i2 i3 i4 i5
      obtain ⟨yx0, zx0⟩ := ro_cf hA.out 0 (.int .i64 a1) rfl
      obtain ⟨yx1, zx1⟩ := ro_cf hA.out 1 (.int .i64 a2) rfl
      obtain ⟨yt0, zt0⟩ := ro_cf hT.out 0 (.int .i64 q1) rfl
      obtain ⟨yt1, zt1⟩ := ro_cf hT.out 1 (.int .i64 q2) rfl
      obtain ⟨yl0, zl0⟩ := ro_cf hL.out 0 (.int .i64 p1) rfl
      obtain ⟨yl1, zl1⟩ := ro_cf hL.out 1 (.int .i64 p2) rfl
      go_wp2_with fail
      refine (Cv.out _).mono ?_
      rintro e w2 ⟨rfl, h1⟩
      replace hR := hide (hR.out.below h1)
      replace hT := hide (hT.out.below h1)
      replace hL := hide (hL.out.below h1)
      replace hA := hide (hA.out.below h1)
      replace hb := hide (bel_next hb.out h1)
      clear h1 yx0 zx0 yx1 zx1 yt0 zt0 yt1 zt1 yl0 zl0 yl1 zl1
      obtain ⟨yx0, zx0⟩ := ro_cf hA.out 0 (.int .i64 a1) rfl
      obtain ⟨yx1, zx1⟩ := ro_cf hA.out 1 (.int .i64 a2) rfl
      obtain ⟨yt0, zt0⟩ := ro_cf hT.out 0 (.int .i64 q1) rfl
      obtain ⟨yt1, zt1⟩ := ro_cf hT.out 1 (.int .i64 q2) rfl
      obtain ⟨yl0, zl0⟩ := ro_cf hL.out 0 (.int .i64 p1) rfl
      obtain ⟨yl1, zl1⟩ := ro_cf hL.out 1 (.int .i64 p2) rfl
      go_wp2_with fail
      refine (Cu.out _).mono ?_
      rintro e w2 ⟨rfl, h1⟩
      replace hR := hide (hR.out.below h1)
      replace hT := hide (hT.out.below h1)
      replace hL := hide (hL.out.below h1)
      replace hA := hide (hA.out.below h1)
      replace hb := hide (bel_next hb.out h1)
      clear h1 yx0 zx0 yx1 zx1 yt0 zt0 yt1 zt1 yl0 zl0 yl1 zl1
      go_wp2_with fail
      go_meet
      exact ⟨true, rfl, (fun _ => ⟨by omega, by first | exact .inl rfl | exact .inl trivial | exact .inr c2⟩), (fun h => (by cases h)), hR.out, hT.out, hL.out, hA.out, hb.out⟩
     ·have d2 : decide (0 ≤ vv) = false := by simp only [decide_eq_false_iff_not]; exact fun h => c2 (i4.1 h)
      clear i1 i2 i3 i4 i5
      obtain ⟨yx0, zx0⟩ := ro_cf hA.out 0 (.int .i64 a1) rfl
      obtain ⟨yx1, zx1⟩ := ro_cf hA.out 1 (.int .i64 a2) rfl
      obtain ⟨yt0, zt0⟩ := ro_cf hT.out 0 (.int .i64 q1) rfl
      obtain ⟨yt1, zt1⟩ := ro_cf hT.out 1 (.int .i64 q2) rfl
      obtain ⟨yl0, zl0⟩ := ro_cf hL.out 0 (.int .i64 p1) rfl
      obtain ⟨yl1, zl1⟩ := ro_cf hL.out 1 (.int .i64 p2) rfl
      go_wp2_with fail
      refine (Cv.out _).mono ?_
      rintro e w2 ⟨rfl, h1⟩
      replace hR := hide (hR.out.below h1)
      replace hT := hide (hT.out.below h1)
      replace hL := hide (hL.out.below h1)
      replace hA := hide (hA.out.below h1)
      replace hb := hide (bel_next hb.out h1)
      clear h1 yx0 zx0 yx1 zx1 yt0 zt0 yt1 zt1 yl0 zl0 yl1 zl1
      obtain ⟨yx0, zx0⟩ := ro_cf hA.out 0 (.int .i64 a1) rfl
      obtain ⟨yx1, zx1⟩ := ro_cf hA.out 1 (.int .i64 a2) rfl
      obtain ⟨yt0, zt0⟩ := ro_cf hT.out 0 (.int .i64 q1) rfl
      obtain ⟨yt1, zt1⟩ := ro_cf hT.out 1 (.int .i64 q2) rfl
      obtain ⟨yl0, zl0⟩ := ro_cf hL.out 0 (.int .i64 p1) rfl
      obtain ⟨yl1, zl1⟩ := ro_cf hL.out 1 (.int .i64 p2) rfl
      go_wp2_with fail
      refine (Cu.out _).mono ?_
      rintro e w2 ⟨rfl, h1⟩
      replace hR := hide (hR.out.below h1)
      replace hT := hide (hT.out.below h1)
      replace hL := hide (hL.out.below h1)
      replace hA := hide (hA.out.below h1)
      replace hb := hide (bel_next hb.out h1)
      clear h1 yx0 zx0 yx1 zx1 yt0 zt0 yt1 zt1 yl0 zl0 yl1 zl1
      go_wp2_with fail
      go_meet
      exact ⟨false, rfl, (fun h => (by cases h)), (fun _ => by first | exact .inl c1 | exact .inr ⟨rfl, by omega⟩ | exact .inr ⟨trivial, by omega⟩), hR.out, hT.out, hL.out, hA.out, hb.out⟩
    obtain ⟨k, rfl, k1', k2', hR', hT', hL', hA', hb'⟩ := hcut
    replace hR := hide hR'
    replace hT := hide hT'
    replace hL := hide hL'
    replace hA := hide hA'
    replace hb := hide hb'
    clear hR' hT' hL' hA' hb'
    replace k1' := hide k1'
    replace k2' := hide k2'
    cases k
    ·go_wp2_with fail
     go_roundw
     case rel => exact ⟨_, _, _, y + 1, rfl, rfl, by go_num, by omega, by have := hY.out; omega, (((k2'.out rfl).elim (fun h => qq2.out.skipA h) (fun h => qq2.out.keepA h.1 h.2)).congr (fun c => by rw [chs_succ k0, ha.out]) (fun c => by rw [chs_succ k0, hb'.out])), hR.out, hT.out, by rw [hpc.out]; exact hL.out, hb.out⟩
     case measure => have := hY.out; simp [intOf]; omega
    ·obtain ⟨yx0, zx0⟩ := ro_cf hA.out 0 (.int .i64 a1) rfl
     obtain ⟨yx1, zx1⟩ := ro_cf hA.out 1 (.int .i64 a2) rfl
     obtain ⟨yl0, zl0⟩ := ro_cf hL.out 0 (.int .i64 p1) rfl
     obtain ⟨yl1, zl1⟩ := ro_cf hL.out 1 (.int .i64 p2) rfl
     go_wp2_with fail
     go_roundw
     case rel => exact ⟨_, _, _, y + 1, rfl, rfl, by go_num, by omega, by have := hY.out; omega, ((qq2.out.takeA (k1'.out rfl).1 (k1'.out rfl).2).congr (fun c => by rw [chs_succ k0, ha.out]) (fun c => by rw [chs_succ k0, hb'.out])), ro_away2 (g' := w.heap.size + 1 + 1) hR.out (by omega), ro_away2 (g' := w.heap.size + 1 + 1) hT.out (by omega), by rw [hac.out]; exact ro_set2 hL.out, bl_set2 (g := w.heap.size + 1 + 1) hb.out (by omega)⟩
     case measure => have := hY.out; simp [intOf]; omega
   ·obtain ⟨yx0, zx0⟩ := ro_cf hB.out 0 (.int .i64 b1) rfl
    obtain ⟨yx1, zx1⟩ := ro_cf hB.out 1 (.int .i64 b2) rfl
    obtain ⟨yl0, zl0⟩ := ro_cf hL.out 0 (.int .i64 p1) rfl
    obtain ⟨yl1, zl1⟩ := ro_cf hL.out 1 (.int .i64 p2) rfl
    go_upto_region 14 with fail
    clear yx0 zx0 yx1 zx1 yl0 zl0 yl1 zl1
    replace hR := hide (ro_away2 (g' := w.heap.size + 1 + 1) (a := .int .i64 b1) (b := .int .i64 b2) hR.out (by omega))
    replace hT := hide (ro_away2 (g' := w.heap.size + 1 + 1) (a := .int .i64 b1) (b := .int .i64 b2) hT.out (by omega))
    replace hA := hide (ro_away2 (g' := w.heap.size + 1 + 1) (a := .int .i64 b1) (b := .int .i64 b2) hA.out (by omega))
    replace hL := hide (ro_set2 (a := .int .i64 b1) (b := .int .i64 b2) hL.out)
    replace hb := hide (bl_set2 (g := w.heap.size + 1 + 1) (a := .int .i64 b1) (b := .int .i64 b2) hb.out (by omega))
    clear hB
    rename World => w4
    generalize ((w4.setCell ⟨w.heap.size + 1 + 1, 0, none⟩ (.int .i64 b1)).setCell ⟨w.heap.size + 1 + 1, 1, none⟩ (.int .i64 b2)) = w5 at *
    have qq2 := hide (q.out.takeB (k1'.out rfl).1 (k1'.out rfl).2)
    clear k1' k2' q
    go_cut [58] from 18 to 59 (fun s wx => ∃ k : Bool, s = .bool k ∧ (k = true → a ≤ t ∧ (true = false ∨ b' ≤ a)) ∧ (k = false → t < a ∨ (true = true ∧ a < b')) ∧ Ro wx w.heap.size cs 51 ∧ Ro wx (w.heap.size + 1) #[.int .i64 q1, .int .i64 q2] 117 ∧ Ro wx (w.heap.size + 1 + 1) #[.int .i64 b1, .int .i64 b2] 117 ∧ Ro wx gA #[.int .i64 a1, .int .i64 a2] 117 ∧ Below w.heap.size w wx)
    case first =>
     obtain ⟨v, Cv, i1, i2, _, _⟩ := M.out a t
     obtain ⟨vv, Cu, _, i3, i4, i5⟩ := M.out a b'
     simp only [vin] at Cv Cu
     rw [hac.out, htc.out] at Cv
     rw [hac.out, hbc.out] at Cu
     replace Cv := hide Cv
     replace Cu := hide Cu
     by_cases c1 : t < a
     ·have d1 : decide (v ≤ 0) = false := by simp; have := i2.2 c1; omega
      clear i1 i2 i3 i4 i5
      obtain ⟨yx0, zx0⟩ := ro_cf hA.out 0 (.int .i64 a1) rfl
      obtain ⟨yx1, zx1⟩ := ro_cf hA.out 1 (.int .i64 a2) rfl
      obtain ⟨yt0, zt0⟩ := ro_cf hT.out 0 (.int .i64 q1) rfl
      obtain ⟨yt1, zt1⟩ := ro_cf hT.out 1 (.int .i64 q2) rfl
      obtain ⟨yl0, zl0⟩ := ro_cf hL.out 0 (.int .i64 b1) rfl
      obtain ⟨yl1, zl1⟩ := ro_cf hL.out 1 (.int .i64 b2) rfl
      go_wp2_with fail
      refine (Cv.out _).mono ?_
      rintro e w2 ⟨rfl, h1⟩
      replace hR := hide (hR.out.below h1)
      replace hT := hide (hT.out.below h1)
      replace hL := hide (hL.out.below h1)
      replace hA := hide (hA.out.below h1)
      replace hb := hide (bel_next hb.out h1)
      clear h1 yx0 zx0 yx1 zx1 yt0 zt0 yt1 zt1 yl0 zl0 yl1 zl1
      go_wp2_with fail
      go_meet
      exact ⟨false, rfl, (fun h => (by cases h)), (fun _ => by first | exact .inl c1 | exact .inr ⟨rfl, by omega⟩ | exact .inr ⟨trivial, by omega⟩), hR.out, hT.out, hL.out, hA.out, hb.out⟩
     have d1 : decide (v ≤ 0) = true := by simp; exact i1.2 (by omega)
     by_cases c2 : b' ≤ a
     ·have d2 : decide (0 ≤ vv) = true := by simp; exact i4.2 c2
      clear i1 i2 i3 i4 i5
      obtain ⟨yx0, zx0⟩ := ro_cf hA.out 0 (.int .i64 a1) rfl
      obtain ⟨yx1, zx1⟩ := ro_cf hA.out 1 (.int .i64 a2) rfl
      obtain ⟨yt0, zt0⟩ := ro_cf hT.out 0 (.int .i64 q1) rfl
      obtain ⟨yt1, zt1⟩ := ro_cf hT.out 1 (.int .i64 q2) rfl
      obtain ⟨yl0, zl0⟩ := ro_cf hL.out 0 (.int .i64 b1) rfl
      obtain ⟨yl1, zl1⟩ := ro_cf hL.out 1 (.int .i64 b2) rfl
      go_wp2_with fail
      refine (Cv.out _).mono ?_
      rintro e w2 ⟨rfl, h1⟩
      replace hR := hide (hR.out.below h1)
      replace hT := hide (hT.out.below h1)
      replace hL := hide (hL.out.below h1)
      replace hA := hide (hA.out.below h1)
      replace hb := hide (bel_next hb.out h1)
      clear h1 yx0 zx0 yx1 zx1 yt0 zt0 yt1 zt1 yl0 zl0 yl1 zl1
      obtain ⟨yx0, zx0⟩ := ro_cf hA.out 0 (.int .i64 a1) rfl
      obtain ⟨yx1, zx1⟩ := ro_cf hA.out 1 (.int .i64 a2) rfl
      obtain ⟨yt0, zt0⟩ := ro_cf hT.out 0 (.int .i64 q1) rfl
      obtain ⟨yt1, zt1⟩ := ro_cf hT.out 1 (.int .i64 q2) rfl
      obtain ⟨yl0, zl0⟩ := ro_cf hL.out 0 (.int .i64 b1) rfl
      obtain ⟨yl1, zl1⟩ := ro_cf hL.out 1 (.int .i64 b2) rfl
      go_wp2_with fail
      refine (Cu.out _).mono ?_
      rintro e w2 ⟨rfl, h1⟩
      replace hR := hide (hR.out.below h1)
      replace hT := hide (hT.out.below h1)
      replace hL := hide (hL.out.below h1)
      replace hA := hide (hA.out.below h1)
      replace hb := hide (bel_next hb.out h1)
      clear h1 yx0 zx0 yx1 zx1 yt0 zt0 yt1 zt1 yl0 zl0 yl1 zl1
      go_wp2_with fail
      go_meet
      exact ⟨true, rfl, (fun _ => ⟨by omega, by first | exact .inl rfl | exact .inl trivial | exact .inr c2⟩), (fun h => (by cases h)), hR.out, hT.out, hL.out, hA.out, hb.out⟩
     ·have d2 : decide (0 ≤ vv) = false := by simp only [decide_eq_false_iff_not]; exact fun h => c2 (i4.1 h)
      clear i1 i2 i3 i4 i5
      obtain ⟨yx0, zx0⟩ := ro_cf hA.out 0 (.int .i64 a1) rfl
      obtain ⟨yx1, zx1⟩ := ro_cf hA.out 1 (.int .i64 a2) rfl
      obtain ⟨yt0, zt0⟩ := ro_cf hT.out 0 (.int .i64 q1) rfl
      obtain ⟨yt1, zt1⟩ := ro_cf hT.out 1 (.int .i64 q2) rfl
      obtain ⟨yl0, zl0⟩ := ro_cf hL.out 0 (.int .i64 b1) rfl
      obtain ⟨yl1, zl1⟩ := ro_cf hL.out 1 (.int .i64 b2) rfl
      go_wp2_with fail
      refine (Cv.out _).mono ?_
      rintro e w2 ⟨rfl, h1⟩
      replace hR := hide (hR.out.below h1)
      replace hT := hide (hT.out.below h1)
      replace hL := hide (hL.out.below h1)
      replace hA := hide (hA.out.below h1)
      replace hb := hide (bel_next hb.out h1)
      clear h1 yx0 zx0 yx1 zx1 yt0 zt0 yt1 zt1 yl0 zl0 yl1 zl1
      obtain ⟨yx0, zx0⟩ := ro_cf hA.out 0 (.int .i64 a1) rfl
      obtain ⟨yx1, zx1⟩ := ro_cf hA.out 1 (.int .i64 a2) rfl
      obtain ⟨yt0, zt0⟩ := ro_cf hT.out 0 (.int .i64 q1) rfl
      obtain ⟨yt1, zt1⟩ := ro_cf hT.out 1 (.int .i64 q2) rfl
      obtain ⟨yl0, zl0⟩ := ro_cf hL.out 0 (.int .i64 b1) rfl
      obtain ⟨yl1, zl1⟩ := ro_cf hL.out 1 (.int .i64 b2) rfl
      go_wp2_with fail
      refine (Cu.out _).mono ?_
      rintro e w2 ⟨rfl, h1⟩
      replace hR := hide (hR.out.below h1)
      replace hT := hide (hT.out.below h1)
      replace hL := hide (hL.out.below h1)
      replace hA := hide (hA.out.below h1)
      replace hb := hide (bel_next hb.out h1)
      clear h1 yx0 zx0 yx1 zx1 yt0 zt0 yt1 zt1 yl0 zl0 yl1 zl1
      go_wp2_with fail
      go_meet
      exact ⟨false, rfl, (fun h => (by cases h)), (fun _ => by first | exact .inl c1 | exact .inr ⟨rfl, by omega⟩ | exact .inr ⟨trivial, by omega⟩), hR.out, hT.out, hL.out, hA.out, hb.out⟩
    obtain ⟨k, rfl, k1', k2', hR', hT', hL', hA', hb'⟩ := hcut
    replace hR := hide hR'
    replace hT := hide hT'
    replace hL := hide hL'
    replace hA := hide hA'
    replace hb := hide hb'
    clear hR' hT' hL' hA' hb'
    replace k1' := hide k1'
    replace k2' := hide k2'
    cases k
    ·go_wp2_with fail
     go_roundw
     case rel => exact ⟨_, _, _, y + 1, rfl, rfl, by go_num, by omega, by have := hY.out; omega, (((k2'.out rfl).elim (fun h => qq2.out.skipA h) (fun h => qq2.out.keepA h.1 h.2)).congr (fun c => by rw [chs_succ k0, ha.out]) (fun c => by rw [chs_succ k0, hb'.out])), hR.out, hT.out, by rw [hbc.out]; exact hL.out, hb.out⟩
     case measure => have := hY.out; simp [intOf]; omega
    ·obtain ⟨yx0, zx0⟩ := ro_cf hA.out 0 (.int .i64 a1) rfl
     obtain ⟨yx1, zx1⟩ := ro_cf hA.out 1 (.int .i64 a2) rfl
     obtain ⟨yl0, zl0⟩ := ro_cf hL.out 0 (.int .i64 b1) rfl
     obtain ⟨yl1, zl1⟩ := ro_cf hL.out 1 (.int .i64 b2) rfl
     go_wp2_with fail
     go_roundw
     case rel => exact ⟨_, _, _, y + 1, rfl, rfl, by go_num, by omega, by have := hY.out; omega, ((qq2.out.takeA (k1'.out rfl).1 (k1'.out rfl).2).congr (fun c => by rw [chs_succ k0, ha.out]) (fun c => by rw [chs_succ k0, hb'.out])), ro_away2 (g' := w.heap.size + 1 + 1) hR.out (by omega), ro_away2 (g' := w.heap.size + 1 + 1) hT.out (by omega), by rw [hac.out]; exact ro_set2 hL.out, bl_set2 (g := w.heap.size + 1 + 1) hb.out (by omega)⟩
     case measure => have := hY.out; simp [intOf]; omega
  ·have hyd : decide (y ≤ Y + 2) = false := by simp; omega
   have e : y = Y + 3 := by omega
   rw [e] at q
   have hbb : on = b := by
    have := fin.out fd on L q
    rw [Bool.eq_iff_iff, this]
    exact hbn.out.symm
   subst hbb
   clear q e hy
   go_wp2_with fail
   go_ret
   exact ⟨rfl, hb⟩
theorem On_no (std : ByteArray) (so : Int) (dst : ByteArray) (dof : Int) (st en : RD) (t Y : Int) (w : World) :
 Calls Tryz.prog 86 #[.agg (crule std so false dst dof st en), vin t, .int .i64 Y] w fun e w' => e = .returned (.bool false) ∧ Below w.heap.size w w' := by
 obtain ⟨cs, hcs⟩ : ∃ cs, crule std so false dst dof st en = cs := ⟨_, rfl⟩
 have e2 : cs[2]? = some (.bool false) := by rw [← hcs]; rfl
 rw [hcs]
 have hb := hide (bl_alloc (bl_new w (.cells cs 51)) (.cells (cin t) 117))
 have c2 := cellE (w1 := (w.alloc (.cells cs 51)).alloc (.cells (cin t) 117)) (bl_new _ _) (ro_cf (Ro.new w cs 51) 2 _ e2).1
 clear hcs e2
 unfold vin
 generalize cin t = tc at *
 go_enter Tryz.func86, Tryz.ntmps86
 go_wp2_with fail
 go_ret
 exact ⟨rfl, hb.out⟩
end r11_
def vres (b : Bool) (std : ByteArray) (so : Int) (dst : ByteArray) (dof : Int) : Value := .agg #[.bool true, .int .i64 (if b then dof else so), .bool b, .string (if b then dst else std)]
def RvOk (hd : Bool) (so dof : Int) (st en : RD) : Prop := hd = true → rdOk st ∧ rdOk en ∧ offOk so ∧ offOk dof
theorem RvOk.of {r : PR} (h : prOk r) : RvOk r.2.2.1 r.2.1 r.2.2.2.2.1 r.2.2.2.2.2.1 r.2.2.2.2.2.2 := fun hd => by
 obtain ⟨h1, h2, h3⟩ := h
 rw [if_pos hd] at h3
 exact ⟨h3.2.2.1, h3.2.2.2, h2, h3.2.1⟩
theorem year64 (t : Int) (h0 : -9223372036854775808 ≤ t) (h1 : t < 9223372036854775808) : ∃ Y M D, IsDate (t / 86400) Y M D ∧ ystart Y * 86400 ≤ t ∧ t < ystart (Y + 1) * 86400 ∧ -500000000000 ≤ Y ∧ Y ≤ 500000000000 := by
 obtain ⟨Y, M, D, h⟩ := IsDate.ex (t / 86400)
 have := h.year
 refine ⟨Y, M, D, h, by omega, by omega, ?_, ?_⟩ <;> (have := h.year; unfold ystart at this; omega)
theorem bl_set4' {w0 w : World} {a b c d : Value} (h : Below w0.heap.size w0 w) {g : Nat} (hg : w0.heap.size ≤ g) : Below w0.heap.size w0 ((((w.setCell ⟨g, 0, none⟩ a).setCell ⟨g, 1, none⟩ b).setCell ⟨g, 2, none⟩ c).setCell ⟨g, 3, none⟩ d) :=
 bl_set (bl_set (bl_set (bl_set h hg _) hg _) hg _) hg _
namespace r11_
theorem On (std : ByteArray) (so : Int) (hd : Bool) (dst : ByteArray) (dof : Int) (st en : RD) (t Y : Int) (b : Bool) (w : World) (hv : RvOk hd so dof st en) (t0 : ystart Y * 86400 ≤ t) (t1 : t < ystart (Y + 1) * 86400) (y0 : -500000000000 ≤ Y) (y1 : Y ≤ 500000000000) (hb : b = true ↔ ruleS hd st en so dof t) :
 Calls Tryz.prog 86 #[.agg (crule std so hd dst dof st en), vin t, .int .i64 Y] w fun e w' => e = .returned (.bool b) ∧ Below w.heap.size w w' := by
 cases hd
 ·have : b = false := by
   cases b
   ·rfl
   ·exact absurd (hb.1 rfl) ruleS_no
  subst this
  exact On_no std so dst dof st en t Y w
 ·obtain ⟨v1, v2, v3, v4⟩ := hv rfl
  refine On_yes std so dst dof st en t Y b w v1 v2 v3 v4 t0 t1 y0 y1 ?_
  rw [hb]
  exact ⟨fun h => h.2, fun h => ⟨rfl, h⟩⟩
theorem At (std : ByteArray) (so : Int) (hd : Bool) (dst : ByteArray) (dof : Int) (st en : RD) (t : Int) (b : Bool) (w : World) (h0 : -9223372036854775808 ≤ t) (h1 : t < 9223372036854775808) (hv : RvOk hd so dof st en) (hbn : b = true ↔ ruleS hd st en so dof t) :
 Calls Tryz.prog 38 #[.agg (crule std so hd dst dof st en), .int .i64 t] w fun e w' => e = .returned (vres b std so dst dof) ∧ Below w.heap.size w w' := by
 obtain ⟨Y, M, D, hd8, t0, t1, y0, y1⟩ := year64 t h0 h1
 have S1 := hide (fun w => r5_.Split t w h0 h1)
 have O1 := hide (fun w => r5_.Of t Y M D w h0 h1 hd8)
 have N1 := hide (fun w => On std so hd dst dof st en t Y b w hv t0 t1 y0 y1 hbn)
 unfold vof vdt at O1
 unfold vin cin at N1
 have G := gr_rule std so hd dst dof st en
 obtain ⟨cs, hcs⟩ : ∃ cs, crule std so hd dst dof st en = cs := ⟨_, rfl⟩
 have e0 : cs[0]? = some (.string std) := by rw [← hcs]; rfl
 have e1 : cs[1]? = some (.int .i64 so) := by rw [← hcs]; rfl
 have e3 : cs[3]? = some (.string dst) := by rw [← hcs]; rfl
 have e4 : cs[4]? = some (.int .i64 dof) := by rw [← hcs]; rfl
 rw [hcs] at N1 G ⊢
 clear hcs hd8 t0 t1 y0 y1 hv hbn
 have hR := hide ((Ro.new w cs 51).alloc (.cells #[.bool false, .int .i64 0, .bool false, .string ⟨#[]⟩] 79))
 have hS := hide (show Ro ((w.alloc (.cells cs 51)).alloc (.cells #[.bool false, .int .i64 0, .bool false, .string ⟨#[]⟩] 79)) (w.heap.size + 1) #[.bool false, .int .i64 0, .bool false, .string ⟨#[]⟩] 79 by have := Ro.new (w.alloc (.cells cs 51)) #[.bool false, .int .i64 0, .bool false, .string ⟨#[]⟩] 79; simpa using this)
 have hb := hide (bl_alloc (bl_new w (.cells cs 51)) (.cells #[.bool false, .int .i64 0, .bool false, .string ⟨#[]⟩] 79))
 generalize t / 86400 = d at *
 generalize t % 86400 = s at *
 generalize s / 3600 = f1 at *
 generalize s % 3600 / 60 = f2 at *
 generalize s % 60 = f3 at *
 generalize (d + 4) % 7 = f4 at *
 have fy : ∀ w, (Instr.field 119 (.agg #[.int .i64 Y, .int .i64 M, .int .i64 D, .int .i64 f1, .int .i64 f2, .int .i64 f3, .int .i64 f4]) 0).run Tryz.prog w = .ok (.int .i64 Y) w := fun _ => rfl
 go_enter Tryz.func38, Tryz.ntmps38
 go_upto_region 1 with fail
 generalize (w.alloc (.cells cs 51)).alloc (.cells #[.bool false, .int .i64 0, .bool false, .string ⟨#[]⟩] 79) = u at *
 go_wp2_with fail
 refine (S1.out _).mono ?_
 rintro e w1 ⟨rfl, rfl⟩
 go_upto_region 2 with fail
 refine wp_region_held_drew (S := fun w' => Hid (Ro w' w.heap.size (cs) 51) ∧ Hid (Ro w' (w.heap.size + 1) (#[.bool false, .int .i64 0, .bool false, .string ⟨#[]⟩]) 79) ∧ Hid (Below w.heap.size w w')) (by kernel_rfl) (⟨hR, hS, hide (bl_drew hb.out)⟩) (fun hHeld => ?_)
 refine wpAnyH_takeD (i := 1) (d := some 13) (v := ?_) rfl rfl (by kernel_rfl) (by kernel_rfl) (by kernel_rfl) (fun _ _ _ h => h) (Or.inl ⟨by rfl, ?_⟩) (by assumption) ?_
 rotate_left
 ·((intro w hSw; go_simp) <;> with_reducible rfl)
 try simp only [Act.put, sI1, sI2, sI3]
 refine wpAnyH_takeD (i := 2) (d := some 14) (v := ?_) rfl rfl (by kernel_rfl) (by kernel_rfl) (by kernel_rfl) (fun _ _ _ h => h) (Or.inl ⟨by rfl, ?_⟩) (by assumption) ?_
 rotate_left
 ·((intro w hSw; go_simp) <;> with_reducible rfl)
 try simp only [Act.put, sI1, sI2, sI3]
 refine wpAnyH_takeD (i := 3) (d := some 15) (v := ?_) rfl rfl (by kernel_rfl) (by kernel_rfl) (by kernel_rfl) (fun _ _ _ h => h) (Or.inl ⟨by rfl, ?_⟩) (by assumption) ?_
 rotate_left
 ·((intro w hSw; go_simp) <;> with_reducible rfl)
 try simp only [Act.put, sI1, sI2, sI3]
 refine wpAnyH_takeD (i := 4) (d := some 16) (v := ?_) rfl rfl (by kernel_rfl) (by kernel_rfl) (by kernel_rfl) (fun _ _ _ h => h) (Or.inl ⟨by rfl, ?_⟩) (by assumption) ?_
 rotate_left
 ·((intro w hSw; go_simp) <;> with_reducible rfl)
 try simp only [Act.put, sI1, sI2, sI3]
 refine wpAnyH_takeD (i := 0) (d := some 12) rfl rfl (by kernel_rfl) (by kernel_rfl) (by kernel_rfl) (fun _ _ _ h => h) (yieldsIf_load_row (by rfl) 51 _ rfl w.heap.size rfl 51 cs _ (fun w hw => hw.1.out) Tryz.underlying51 rfl G.1) (by assumption) ?_
 try simp only [Act.put, sI1, sI2, sI3]
 refine wpAnyH_ready (rs := [5]) (by kernel_rfl) (by simp) ?_
 refine AllReadyH.cons rfl (fun K hK => ?_) AllReadyH.nil
 ·go_simp
  refine (O1.out _).mono ?_
  rintro e w6 ⟨rfl, h1'⟩
  refine hK.out _ _ (⟨hide (hHeld.1.out.below h1'), hide (hHeld.2.1.out.below h1'), hide (bel_next hHeld.2.2.out h1')⟩) (fun hHeld => ?_)
  clear hK K h1'
  try simp only [Act.put, sI1, sI2, sI3]
  refine wpAnyH_takeD (i := 6) (d := some 18) (v := ?_) rfl rfl (by kernel_rfl) (by kernel_rfl) (by kernel_rfl) (fun _ _ _ h => h) (Or.inl ⟨by rfl, ?_⟩) (by assumption) ?_
  rotate_left
  ·((intro w hSw; go_simp) <;> with_reducible rfl)
  try simp only [Act.put, sI1, sI2, sI3]
  refine wpAnyH_ready (rs := [7]) (by kernel_rfl) (by simp) ?_
  refine AllReadyH.cons rfl (fun K hK => ?_) AllReadyH.nil
  ·go_simp
   refine (N1.out _).mono ?_
   rintro e w7 ⟨rfl, h1'⟩
   refine hK.out _ _ (⟨hide (hHeld.1.out.below h1'), hide (hHeld.2.1.out.below h1'), hide (bel_next hHeld.2.2.out h1')⟩) (fun hHeld => ?_)
   clear hK K h1'
   try simp only [Act.put, sI1, sI2, sI3]
   refine wpAnyH_done (by kernel_rfl) ?_ _
   obtain ⟨hR2, hS2, hb2⟩ := hHeld
   clear hR hS hb S1 O1 N1 fy
   obtain ⟨x0, _⟩ := ro_cf hR2.out 0 _ e0
   obtain ⟨x1, _⟩ := ro_cf hR2.out 1 _ e1
   obtain ⟨x3, _⟩ := ro_cf hR2.out 3 _ e3
   obtain ⟨x4, _⟩ := ro_cf hR2.out 4 _ e4
   obtain ⟨y0, z0⟩ := ro_cf hS2.out 0 (.bool false) rfl
   obtain ⟨y1, z1⟩ := ro_cf hS2.out 1 (.int .i64 0) rfl
   obtain ⟨y2, z2⟩ := ro_cf hS2.out 2 (.bool false) rfl
   obtain ⟨y3, z3⟩ := ro_cf hS2.out 3 (.string ⟨#[]⟩) rfl
   cases b
   all_goals
    go_wp2_with fail
    refine bodyPost_ret (v := ?_) (by simp [results, Tryz.results38, go_sem, y0, y1, y2, y3]; rfl) rfl ⟨rfl, bl_set4' hb2.out (by omega)⟩
end r11_
end Go.Proofs.YtbehflfpdkedgaaGreatDoor

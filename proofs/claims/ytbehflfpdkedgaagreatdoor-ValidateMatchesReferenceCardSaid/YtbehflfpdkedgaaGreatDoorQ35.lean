/-
  Texts of mine in one file: Ref9. Their conditions stand in the theorems.
-/
import Derived.Test.YtbehflfpdkedgaaGreatDoorQ07
import Derived.Test.YtbehflfpdkedgaaGreatDoorQ19
import Derived.Deep.RegionHeld3
import Derived.Deep.DeepCutAuto
namespace Go.Proofs.YtbehflfpdkedgaaGreatDoor
set_option linter.unusedVariables false
set_option linter.unusedSimpArgs false
set_option maxRecDepth 100000
set_option maxHeartbeats 16000000
open Go.ChangeShapes Go.WideShapes Go.ChangeAt Go.RowKit
namespace r9_
theorem in_ (x : Int) (w : World) (b : Bool) (hb : decide (offOk x) = b) : Calls Tryz.prog 81 #[.int .i64 x] w fun e w' => e = .returned (.bool b) ∧ w = w' := by
 subst hb
 by_cases h1 : -89999 ≤ x
 ·by_cases h2 : x ≤ 89999
  ·rw [decide_eq_true (show offOk x from ⟨h1, h2⟩)]
   go_enter Tryz.func81, Tryz.ntmps81
   go_wp2
   go_ret
   exact ⟨retb (by first | rfl | simp), rfl⟩
  ·rw [decide_eq_false (show ¬ offOk x from fun h => h2 h.2)]
   go_enter Tryz.func81, Tryz.ntmps81
   go_wp2
   go_ret
   exact ⟨retb (by first | rfl | (simp; omega)), rfl⟩
 ·rw [decide_eq_false (show ¬ offOk x from fun h => h1 h.1)]
  go_enter Tryz.func81, Tryz.ntmps81
  go_wp2
  go_ret
  exact ⟨retb (by first | rfl | (simp; omega)), rfl⟩
theorem sday_eq (d : RD) (w : World) (b : Bool) (hb : decide (d = rd0) = b) : (binOp .eql 49 (vday d) (.agg #[.int .i64 0, .int .i64 0, .int .i64 0, .int .i64 0, .int .i64 0, .int .i64 0])).run Tryz.prog w = .ok (.bool b) w := by
 obtain ⟨K, D, M, Wk, Wd, T⟩ := d
 subst hb
 unfold vday rd0
 simp only [Prod.mk.injEq]
 simp [go_sem]
 by_cases h1 : K = 0 <;> by_cases h2 : D = 0 <;> by_cases h3 : M = 0 <;> by_cases h4 : Wk = 0 <;> by_cases h5 : Wd = 0 <;> by_cases h6 : T = 0 <;> simp [h1, h2, h3, h4, h5, h6]
theorem Valid_dst (std : ByteArray) (so : Int) (dst : ByteArray) (dof : Int) (st en : RD) (w : World) (hs : std.size ≤ maxLen) (ht : dst.size ≤ maxLen)
 (b1 b2 b3 b4 b5 b6 : Bool) (h1 : nameOk (byt std) = b1) (h2 : decide (offOk so) = b2) (h3 : nameOk (byt dst) = b3) (h4 : decide (offOk dof) = b4) (h5 : decide (rdOk st) = b5) (h6 : decide (rdOk en) = b6) :
 Calls Tryz.prog 83 #[vrule std so true dst dof st en] w fun e w' => e = .returned (.bool (b1 && b2 && b3 && b4 && b5 && b6)) ∧ Below w.heap.size w w' := by
 have N1 : Hid (∀ w, Calls Tryz.prog 109 #[.string std] w fun e w' => e = .returned (.bool b1) ∧ w = w') := hide (fun w => by rw [← h1]; exact r7_.Valid std w hs)
 have N3 : Hid (∀ w, Calls Tryz.prog 109 #[.string dst] w fun e w' => e = .returned (.bool b3) ∧ w = w') := hide (fun w => by rw [← h3]; exact r7_.Valid dst w ht)
 have N2 := hide (fun w => in_ so w b2 h2)
 have N4 := hide (fun w => in_ dof w b4 h4)
 have N5 : Hid (∀ w, Calls Tryz.prog 114 #[vday st] w fun e w' => e = .returned (.bool b5) ∧ Below w.heap.size w w') := hide (fun w => by rw [← h5]; exact r6_.Valid st.1 st.2.1 st.2.2.1 st.2.2.2.1 st.2.2.2.2.1 st.2.2.2.2.2 w)
 have N6 : Hid (∀ w, Calls Tryz.prog 114 #[vday en] w fun e w' => e = .returned (.bool b6) ∧ Below w.heap.size w w') := hide (fun w => by rw [← h6]; exact r6_.Valid en.1 en.2.1 en.2.2.1 en.2.2.2.1 en.2.2.2.2.1 en.2.2.2.2.2 w)
 obtain ⟨sK, sD, sM, sW, sV, sT⟩ := st
 obtain ⟨eK, eD, eM, eW, eV, eT⟩ := en
 clear h1 h2 h3 h4 h5 h6 hs ht
 rw [vrule_c]
 obtain ⟨cs, hcs⟩ : ∃ cs, cs = crule std so true dst dof (sK, sD, sM, sW, sV, sT) (eK, eD, eM, eW, eV, eT) := ⟨_, rfl⟩
 rw [← hcs]
 replace hcs := hide hcs
 have B := hide (Ro.new w cs 51)
 have hb := hide (bl_new w (.cells cs 51))
 simp only [vday] at N5 N6
 cases b1
 ·have c0 := B.out.cell 0
  rw [show cs[0]? = some (.string std) by rw [hcs.out]; rfl] at c0
  go_enter Tryz.func83, Tryz.ntmps83
  go_wp2_with fail
  refine (N1.out _).mono ?_
  rintro e w' ⟨rfl, rfl⟩
  go_wp2
  go_ret
  exact ⟨rfl, hb.out⟩
 ·cases b2
  ·have c0 := B.out.cell 0
   have c1 := B.out.cell 1
   rw [show cs[0]? = some (.string std) by rw [hcs.out]; rfl] at c0
   rw [show cs[1]? = some (.int .i64 so) by rw [hcs.out]; rfl] at c1
   go_enter Tryz.func83, Tryz.ntmps83
   go_wp2_with fail
   refine (N1.out _).mono ?_
   rintro e w' ⟨rfl, rfl⟩
   go_wp2_with fail
   refine (N2.out _).mono ?_
   rintro e w' ⟨rfl, rfl⟩
   go_wp2
   go_ret
   exact ⟨rfl, hb.out⟩
  ·cases b3
   ·have c0 := B.out.cell 0
    have c1 := B.out.cell 1
    rw [show cs[0]? = some (.string std) by rw [hcs.out]; rfl] at c0
    rw [show cs[1]? = some (.int .i64 so) by rw [hcs.out]; rfl] at c1
    go_enter Tryz.func83, Tryz.ntmps83
    go_wp2_with fail
    refine (N1.out _).mono ?_
    rintro e w' ⟨rfl, rfl⟩
    go_wp2_with fail
    refine (N2.out _).mono ?_
    rintro e w' ⟨rfl, rfl⟩
    go_upto_region 4 with fail
    clear c0 c1
    replace B := hide (B.out.alloc (.cells #[.int .i64 0, .int .i64 0, .int .i64 0, .int .i64 0, .int .i64 0, .int .i64 0] 49))
    replace hb := hide (bl_alloc hb.out (.cells #[.int .i64 0, .int .i64 0, .int .i64 0, .int .i64 0, .int .i64 0, .int .i64 0] 49))
    have c2 := B.out.cell 2
    have c3 := B.out.cell 3
    rw [show cs[2]? = some (.bool true) by rw [hcs.out]; rfl] at c2
    rw [show cs[3]? = some (.string dst) by rw [hcs.out]; rfl] at c3
    go_wp2_with fail
    refine (N3.out _).mono ?_
    rintro e w' ⟨rfl, rfl⟩
    go_wp2
    go_ret
    exact ⟨rfl, hb.out⟩
   ·cases b4
    ·have c0 := B.out.cell 0
     have c1 := B.out.cell 1
     rw [show cs[0]? = some (.string std) by rw [hcs.out]; rfl] at c0
     rw [show cs[1]? = some (.int .i64 so) by rw [hcs.out]; rfl] at c1
     go_enter Tryz.func83, Tryz.ntmps83
     go_wp2_with fail
     refine (N1.out _).mono ?_
     rintro e w' ⟨rfl, rfl⟩
     go_wp2_with fail
     refine (N2.out _).mono ?_
     rintro e w' ⟨rfl, rfl⟩
     go_upto_region 4 with fail
     clear c0 c1
     replace B := hide (B.out.alloc (.cells #[.int .i64 0, .int .i64 0, .int .i64 0, .int .i64 0, .int .i64 0, .int .i64 0] 49))
     replace hb := hide (bl_alloc hb.out (.cells #[.int .i64 0, .int .i64 0, .int .i64 0, .int .i64 0, .int .i64 0, .int .i64 0] 49))
     have c2 := B.out.cell 2
     have c3 := B.out.cell 3
     have c4 := B.out.cell 4
     rw [show cs[2]? = some (.bool true) by rw [hcs.out]; rfl] at c2
     rw [show cs[3]? = some (.string dst) by rw [hcs.out]; rfl] at c3
     rw [show cs[4]? = some (.int .i64 dof) by rw [hcs.out]; rfl] at c4
     go_wp2_with fail
     refine (N3.out _).mono ?_
     rintro e w' ⟨rfl, rfl⟩
     go_wp2_with fail
     refine (N4.out _).mono ?_
     rintro e w' ⟨rfl, rfl⟩
     go_wp2
     go_ret
     exact ⟨rfl, hb.out⟩
    ·cases b5
     ·have c0 := B.out.cell 0
      have c1 := B.out.cell 1
      rw [show cs[0]? = some (.string std) by rw [hcs.out]; rfl] at c0
      rw [show cs[1]? = some (.int .i64 so) by rw [hcs.out]; rfl] at c1
      go_enter Tryz.func83, Tryz.ntmps83
      go_wp2_with fail
      refine (N1.out _).mono ?_
      rintro e w' ⟨rfl, rfl⟩
      go_wp2_with fail
      refine (N2.out _).mono ?_
      rintro e w' ⟨rfl, rfl⟩
      go_upto_region 4 with fail
      clear c0 c1
      replace B := hide (B.out.alloc (.cells #[.int .i64 0, .int .i64 0, .int .i64 0, .int .i64 0, .int .i64 0, .int .i64 0] 49))
      replace hb := hide (bl_alloc hb.out (.cells #[.int .i64 0, .int .i64 0, .int .i64 0, .int .i64 0, .int .i64 0, .int .i64 0] 49))
      have c2 := B.out.cell 2
      have c3 := B.out.cell 3
      have c4 := B.out.cell 4
      have c5 := B.out.cell 5
      have c6 := B.out.cell 6
      have c7 := B.out.cell 7
      have c8 := B.out.cell 8
      have c9 := B.out.cell 9
      have c10 := B.out.cell 10
      rw [show cs[2]? = some (.bool true) by rw [hcs.out]; rfl] at c2
      rw [show cs[3]? = some (.string dst) by rw [hcs.out]; rfl] at c3
      rw [show cs[4]? = some (.int .i64 dof) by rw [hcs.out]; rfl] at c4
      rw [show cs[5]? = some (.int .i64 sK) by rw [hcs.out]; rfl] at c5
      rw [show cs[6]? = some (.int .i64 sD) by rw [hcs.out]; rfl] at c6
      rw [show cs[7]? = some (.int .i64 sM) by rw [hcs.out]; rfl] at c7
      rw [show cs[8]? = some (.int .i64 sW) by rw [hcs.out]; rfl] at c8
      rw [show cs[9]? = some (.int .i64 sV) by rw [hcs.out]; rfl] at c9
      rw [show cs[10]? = some (.int .i64 sT) by rw [hcs.out]; rfl] at c10
      go_wp2_with fail
      refine (N3.out _).mono ?_
      rintro e w' ⟨rfl, rfl⟩
      go_wp2_with fail
      refine (N4.out _).mono ?_
      rintro e w' ⟨rfl, rfl⟩
      go_wp2_with fail
      refine (N5.out _).mono ?_
      rintro e w1 ⟨rfl, h1⟩
      replace B := hide (B.out.below h1)
      replace hb := hide (bel_next hb.out h1)
      clear h1
      go_wp2
      go_ret
      exact ⟨rfl, hb.out⟩
     ·cases b6
      all_goals
       have c0 := B.out.cell 0
       have c1 := B.out.cell 1
       rw [show cs[0]? = some (.string std) by rw [hcs.out]; rfl] at c0
       rw [show cs[1]? = some (.int .i64 so) by rw [hcs.out]; rfl] at c1
       go_enter Tryz.func83, Tryz.ntmps83
       go_wp2_with fail
       refine (N1.out _).mono ?_
       rintro e w' ⟨rfl, rfl⟩
       go_wp2_with fail
       refine (N2.out _).mono ?_
       rintro e w' ⟨rfl, rfl⟩
       go_upto_region 4 with fail
       clear c0 c1
       replace B := hide (B.out.alloc (.cells #[.int .i64 0, .int .i64 0, .int .i64 0, .int .i64 0, .int .i64 0, .int .i64 0] 49))
       replace hb := hide (bl_alloc hb.out (.cells #[.int .i64 0, .int .i64 0, .int .i64 0, .int .i64 0, .int .i64 0, .int .i64 0] 49))
       have c2 := B.out.cell 2
       have c3 := B.out.cell 3
       have c4 := B.out.cell 4
       have c5 := B.out.cell 5
       have c6 := B.out.cell 6
       have c7 := B.out.cell 7
       have c8 := B.out.cell 8
       have c9 := B.out.cell 9
       have c10 := B.out.cell 10
       rw [show cs[2]? = some (.bool true) by rw [hcs.out]; rfl] at c2
       rw [show cs[3]? = some (.string dst) by rw [hcs.out]; rfl] at c3
       rw [show cs[4]? = some (.int .i64 dof) by rw [hcs.out]; rfl] at c4
       rw [show cs[5]? = some (.int .i64 sK) by rw [hcs.out]; rfl] at c5
       rw [show cs[6]? = some (.int .i64 sD) by rw [hcs.out]; rfl] at c6
       rw [show cs[7]? = some (.int .i64 sM) by rw [hcs.out]; rfl] at c7
       rw [show cs[8]? = some (.int .i64 sW) by rw [hcs.out]; rfl] at c8
       rw [show cs[9]? = some (.int .i64 sV) by rw [hcs.out]; rfl] at c9
       rw [show cs[10]? = some (.int .i64 sT) by rw [hcs.out]; rfl] at c10
       go_wp2_with fail
       refine (N3.out _).mono ?_
       rintro e w' ⟨rfl, rfl⟩
       go_wp2_with fail
       refine (N4.out _).mono ?_
       rintro e w' ⟨rfl, rfl⟩
       go_wp2_with fail
       refine (N5.out _).mono ?_
       rintro e w1 ⟨rfl, h1⟩
       replace B := hide (B.out.below h1)
       replace hb := hide (bel_next hb.out h1)
       clear h1
       clear c2 c3 c4 c5 c6 c7 c8 c9 c10
       have c11 := B.out.cell 11
       have c12 := B.out.cell 12
       have c13 := B.out.cell 13
       have c14 := B.out.cell 14
       have c15 := B.out.cell 15
       have c16 := B.out.cell 16
       rw [show cs[11]? = some (.int .i64 eK) by rw [hcs.out]; rfl] at c11
       rw [show cs[12]? = some (.int .i64 eD) by rw [hcs.out]; rfl] at c12
       rw [show cs[13]? = some (.int .i64 eM) by rw [hcs.out]; rfl] at c13
       rw [show cs[14]? = some (.int .i64 eW) by rw [hcs.out]; rfl] at c14
       rw [show cs[15]? = some (.int .i64 eV) by rw [hcs.out]; rfl] at c15
       rw [show cs[16]? = some (.int .i64 eT) by rw [hcs.out]; rfl] at c16
       go_wp2_with fail
       refine (N6.out _).mono ?_
       rintro e w1 ⟨rfl, h1⟩
       replace B := hide (B.out.below h1)
       replace hb := hide (bel_next hb.out h1)
       clear h1
       go_wp2
       go_ret
       exact ⟨rfl, hb.out⟩
theorem Valid_std (std : ByteArray) (so : Int) (dst : ByteArray) (dof : Int) (st en : RD) (w : World) (hs : std.size ≤ maxLen)
 (b1 b2 b3 b4 b5 b6 : Bool) (h1 : nameOk (byt std) = b1) (h2 : decide (offOk so) = b2) (h3 : dst.toList.isEmpty = b3) (h4 : (dof == 0) = b4) (h5 : decide (st = rd0) = b5) (h6 : decide (en = rd0) = b6) :
 Calls Tryz.prog 83 #[vrule std so false dst dof st en] w fun e w' => e = .returned (.bool (b1 && b2 && (b3 && b4 && b5 && b6))) ∧ Below w.heap.size w w' := by
 have N1 : Hid (∀ w, Calls Tryz.prog 109 #[.string std] w fun e w' => e = .returned (.bool b1) ∧ w = w') := hide (fun w => by rw [← h1]; exact r7_.Valid std w hs)
 have N2 := hide (fun w => in_ so w b2 h2)
 have q5 := fun w => sday_eq st w b5 h5
 have q6 := fun w => sday_eq en w b6 h6
 obtain ⟨sK, sD, sM, sW, sV, sT⟩ := st
 obtain ⟨eK, eD, eM, eW, eV, eT⟩ := en
 clear h1 h2 h5 h6 hs
 rw [vrule_c]
 obtain ⟨cs, hcs⟩ : ∃ cs, cs = crule std so false dst dof (sK, sD, sM, sW, sV, sT) (eK, eD, eM, eW, eV, eT) := ⟨_, rfl⟩
 rw [← hcs]
 replace hcs := hide hcs
 have B := hide (Ro.new w cs 51)
 have hb := hide (bl_new w (.cells cs 51))
 simp only [vday] at q5 q6
 cases b1
 ·have c0 := B.out.cell 0
  rw [show cs[0]? = some (.string std) by rw [hcs.out]; rfl] at c0
  go_enter Tryz.func83, Tryz.ntmps83
  go_wp2_with fail
  refine (N1.out _).mono ?_
  rintro e w' ⟨rfl, rfl⟩
  go_wp2
  go_ret
  exact ⟨rfl, hb.out⟩
 ·cases b2
  ·have c0 := B.out.cell 0
   have c1 := B.out.cell 1
   rw [show cs[0]? = some (.string std) by rw [hcs.out]; rfl] at c0
   rw [show cs[1]? = some (.int .i64 so) by rw [hcs.out]; rfl] at c1
   go_enter Tryz.func83, Tryz.ntmps83
   go_wp2_with fail
   refine (N1.out _).mono ?_
   rintro e w' ⟨rfl, rfl⟩
   go_wp2_with fail
   refine (N2.out _).mono ?_
   rintro e w' ⟨rfl, rfl⟩
   go_wp2
   go_ret
   exact ⟨rfl, hb.out⟩
  ·cases b3
   ·have c0 := B.out.cell 0
    have c1 := B.out.cell 1
    rw [show cs[0]? = some (.string std) by rw [hcs.out]; rfl] at c0
    rw [show cs[1]? = some (.int .i64 so) by rw [hcs.out]; rfl] at c1
    go_enter Tryz.func83, Tryz.ntmps83
    go_wp2_with fail
    refine (N1.out _).mono ?_
    rintro e w' ⟨rfl, rfl⟩
    go_wp2_with fail
    refine (N2.out _).mono ?_
    rintro e w' ⟨rfl, rfl⟩
    go_upto_region 4 with fail
    clear c0 c1
    replace B := hide (B.out.alloc (.cells #[.int .i64 0, .int .i64 0, .int .i64 0, .int .i64 0, .int .i64 0, .int .i64 0] 49))
    replace hb := hide (bl_alloc hb.out (.cells #[.int .i64 0, .int .i64 0, .int .i64 0, .int .i64 0, .int .i64 0, .int .i64 0] 49))
    have c2 := B.out.cell 2
    have c3 := B.out.cell 3
    rw [show cs[2]? = some (.bool false) by rw [hcs.out]; rfl] at c2
    rw [show cs[3]? = some (.string dst) by rw [hcs.out]; rfl] at c3
    go_wp2
    go_ret
    exact ⟨rfl, hb.out⟩
   ·cases b4
    ·have c0 := B.out.cell 0
     have c1 := B.out.cell 1
     rw [show cs[0]? = some (.string std) by rw [hcs.out]; rfl] at c0
     rw [show cs[1]? = some (.int .i64 so) by rw [hcs.out]; rfl] at c1
     go_enter Tryz.func83, Tryz.ntmps83
     go_wp2_with fail
     refine (N1.out _).mono ?_
     rintro e w' ⟨rfl, rfl⟩
     go_wp2_with fail
     refine (N2.out _).mono ?_
     rintro e w' ⟨rfl, rfl⟩
     go_upto_region 4 with fail
     clear c0 c1
     replace B := hide (B.out.alloc (.cells #[.int .i64 0, .int .i64 0, .int .i64 0, .int .i64 0, .int .i64 0, .int .i64 0] 49))
     replace hb := hide (bl_alloc hb.out (.cells #[.int .i64 0, .int .i64 0, .int .i64 0, .int .i64 0, .int .i64 0, .int .i64 0] 49))
     have c2 := B.out.cell 2
     have c3 := B.out.cell 3
     have c4 := B.out.cell 4
     rw [show cs[2]? = some (.bool false) by rw [hcs.out]; rfl] at c2
     rw [show cs[3]? = some (.string dst) by rw [hcs.out]; rfl] at c3
     rw [show cs[4]? = some (.int .i64 dof) by rw [hcs.out]; rfl] at c4
     go_wp2
     go_ret
     exact ⟨rfl, hb.out⟩
    ·cases b5
     ·have c0 := B.out.cell 0
      have c1 := B.out.cell 1
      rw [show cs[0]? = some (.string std) by rw [hcs.out]; rfl] at c0
      rw [show cs[1]? = some (.int .i64 so) by rw [hcs.out]; rfl] at c1
      go_enter Tryz.func83, Tryz.ntmps83
      go_wp2_with fail
      refine (N1.out _).mono ?_
      rintro e w' ⟨rfl, rfl⟩
      go_wp2_with fail
      refine (N2.out _).mono ?_
      rintro e w' ⟨rfl, rfl⟩
      go_upto_region 4 with fail
      clear c0 c1
      replace B := hide (B.out.alloc (.cells #[.int .i64 0, .int .i64 0, .int .i64 0, .int .i64 0, .int .i64 0, .int .i64 0] 49))
      replace hb := hide (bl_alloc hb.out (.cells #[.int .i64 0, .int .i64 0, .int .i64 0, .int .i64 0, .int .i64 0, .int .i64 0] 49))
      have c2 := B.out.cell 2
      have c3 := B.out.cell 3
      have c4 := B.out.cell 4
      have c5 := B.out.cell 5
      have c6 := B.out.cell 6
      have c7 := B.out.cell 7
      have c8 := B.out.cell 8
      have c9 := B.out.cell 9
      have c10 := B.out.cell 10
      rw [show cs[2]? = some (.bool false) by rw [hcs.out]; rfl] at c2
      rw [show cs[3]? = some (.string dst) by rw [hcs.out]; rfl] at c3
      rw [show cs[4]? = some (.int .i64 dof) by rw [hcs.out]; rfl] at c4
      rw [show cs[5]? = some (.int .i64 sK) by rw [hcs.out]; rfl] at c5
      rw [show cs[6]? = some (.int .i64 sD) by rw [hcs.out]; rfl] at c6
      rw [show cs[7]? = some (.int .i64 sM) by rw [hcs.out]; rfl] at c7
      rw [show cs[8]? = some (.int .i64 sW) by rw [hcs.out]; rfl] at c8
      rw [show cs[9]? = some (.int .i64 sV) by rw [hcs.out]; rfl] at c9
      rw [show cs[10]? = some (.int .i64 sT) by rw [hcs.out]; rfl] at c10
      have Z : Hid (Bx ((w.alloc (.cells cs 51)).alloc (.cells #[.int .i64 0, .int .i64 0, .int .i64 0, .int .i64 0, .int .i64 0, .int .i64 0] 49)) (w.heap.size + 1) [.int .i64 0, .int .i64 0, .int .i64 0, .int .i64 0, .int .i64 0, .int .i64 0]) := hide (by
       have := Bx.new (w.alloc (.cells cs 51)) [.int .i64 0, .int .i64 0, .int .i64 0, .int .i64 0, .int .i64 0, .int .i64 0] 49
       simpa using this)
      obtain ⟨z0, z1, z2, z3, z4, z5⟩ := cells6' Z.out
      go_wp2
      go_ret
      exact ⟨rfl, hb.out⟩
     ·cases b6
      all_goals
       have c0 := B.out.cell 0
       have c1 := B.out.cell 1
       rw [show cs[0]? = some (.string std) by rw [hcs.out]; rfl] at c0
       rw [show cs[1]? = some (.int .i64 so) by rw [hcs.out]; rfl] at c1
       go_enter Tryz.func83, Tryz.ntmps83
       go_wp2_with fail
       refine (N1.out _).mono ?_
       rintro e w' ⟨rfl, rfl⟩
       go_wp2_with fail
       refine (N2.out _).mono ?_
       rintro e w' ⟨rfl, rfl⟩
       go_upto_region 4 with fail
       clear c0 c1
       replace B := hide (B.out.alloc (.cells #[.int .i64 0, .int .i64 0, .int .i64 0, .int .i64 0, .int .i64 0, .int .i64 0] 49))
       replace hb := hide (bl_alloc hb.out (.cells #[.int .i64 0, .int .i64 0, .int .i64 0, .int .i64 0, .int .i64 0, .int .i64 0] 49))
       have c2 := B.out.cell 2
       have c3 := B.out.cell 3
       have c4 := B.out.cell 4
       have c5 := B.out.cell 5
       have c6 := B.out.cell 6
       have c7 := B.out.cell 7
       have c8 := B.out.cell 8
       have c9 := B.out.cell 9
       have c10 := B.out.cell 10
       have c11 := B.out.cell 11
       have c12 := B.out.cell 12
       have c13 := B.out.cell 13
       have c14 := B.out.cell 14
       have c15 := B.out.cell 15
       have c16 := B.out.cell 16
       rw [show cs[2]? = some (.bool false) by rw [hcs.out]; rfl] at c2
       rw [show cs[3]? = some (.string dst) by rw [hcs.out]; rfl] at c3
       rw [show cs[4]? = some (.int .i64 dof) by rw [hcs.out]; rfl] at c4
       rw [show cs[5]? = some (.int .i64 sK) by rw [hcs.out]; rfl] at c5
       rw [show cs[6]? = some (.int .i64 sD) by rw [hcs.out]; rfl] at c6
       rw [show cs[7]? = some (.int .i64 sM) by rw [hcs.out]; rfl] at c7
       rw [show cs[8]? = some (.int .i64 sW) by rw [hcs.out]; rfl] at c8
       rw [show cs[9]? = some (.int .i64 sV) by rw [hcs.out]; rfl] at c9
       rw [show cs[10]? = some (.int .i64 sT) by rw [hcs.out]; rfl] at c10
       rw [show cs[11]? = some (.int .i64 eK) by rw [hcs.out]; rfl] at c11
       rw [show cs[12]? = some (.int .i64 eD) by rw [hcs.out]; rfl] at c12
       rw [show cs[13]? = some (.int .i64 eM) by rw [hcs.out]; rfl] at c13
       rw [show cs[14]? = some (.int .i64 eW) by rw [hcs.out]; rfl] at c14
       rw [show cs[15]? = some (.int .i64 eV) by rw [hcs.out]; rfl] at c15
       rw [show cs[16]? = some (.int .i64 eT) by rw [hcs.out]; rfl] at c16
       have Z : Hid (Bx ((w.alloc (.cells cs 51)).alloc (.cells #[.int .i64 0, .int .i64 0, .int .i64 0, .int .i64 0, .int .i64 0, .int .i64 0] 49)) (w.heap.size + 1) [.int .i64 0, .int .i64 0, .int .i64 0, .int .i64 0, .int .i64 0, .int .i64 0]) := hide (by
        have := Bx.new (w.alloc (.cells cs 51)) [.int .i64 0, .int .i64 0, .int .i64 0, .int .i64 0, .int .i64 0, .int .i64 0] 49
        simpa using this)
       obtain ⟨z0, z1, z2, z3, z4, z5⟩ := cells6' Z.out
       go_wp2
       go_ret
       exact ⟨rfl, hb.out⟩
theorem Valid (std : ByteArray) (so : Int) (hd : Bool) (dst : ByteArray) (dof : Int) (st en : RD) (w : World) (hs : std.size ≤ maxLen) (ht : dst.size ≤ maxLen) :
 Calls Tryz.prog 83 #[vrule std so hd dst dof st en] w fun e w' => e = .returned (.bool (decide (prOk (byt std, so, hd, byt dst, dof, st, en)))) ∧ Below w.heap.size w w' := by
 cases hd
 ·refine (Valid_std std so dst dof st en w hs _ _ _ _ _ _ rfl rfl rfl rfl rfl rfl).mono ?_
  rintro e w' ⟨rfl, h⟩
  refine ⟨retb ?_, h⟩
  rw [Bool.eq_iff_iff]
  have e3 : dst.toList.isEmpty = true ↔ byt dst = [] := by
   rw [List.isEmpty_iff, ByteArray.toList_eq]
  simp only [Bool.and_eq_true, decide_eq_true_iff, e3, beq_iff_eq, prOk, Bool.false_eq_true, if_false]
  exact ⟨fun h => ⟨h.1.1, h.1.2, h.2.1.1.1, h.2.1.1.2, h.2.1.2, h.2.2⟩, fun h => ⟨⟨h.1, h.2.1⟩, ⟨⟨h.2.2.1, h.2.2.2.1⟩, h.2.2.2.2.1⟩, h.2.2.2.2.2⟩⟩
 ·refine (Valid_dst std so dst dof st en w hs ht _ _ _ _ _ _ rfl rfl rfl rfl rfl rfl).mono ?_
  rintro e w' ⟨rfl, h⟩
  refine ⟨retb ?_, h⟩
  rw [Bool.eq_iff_iff]
  simp only [Bool.and_eq_true, decide_eq_true_iff, prOk, if_true]
  exact ⟨fun h => ⟨h.1.1.1.1.1, h.1.1.1.1.2, h.1.1.1.2, h.1.1.2, h.1.2, h.2⟩, fun h => ⟨⟨⟨⟨⟨h.1, h.2.1⟩, h.2.2.1⟩, h.2.2.2.1⟩, h.2.2.2.2.1⟩, h.2.2.2.2.2⟩⟩
end r9_
end Go.Proofs.YtbehflfpdkedgaaGreatDoor

/-
  Texts of mine in one file: Ref9d. Their conditions stand in the theorems.
-/
import Derived.Test.YtbehflfpdkedgaaGreatDoorQ36
namespace Go.Proofs.YtbehflfpdkedgaaGreatDoor
set_option linter.unusedVariables false
set_option linter.unusedSimpArgs false
set_option maxRecDepth 100000
set_option maxHeartbeats 16000000
open Go.ChangeShapes Go.WideShapes Go.ChangeAt Go.RowKit
theorem Bx.store6 {w : World} {g : Nat} {a b c d e f a' b' c' d' e' f' : Value} (h : Bx w g [a', b', c', d', e', f']) :
 Bx ((((((w.setCell ⟨g, 0, none⟩ a).setCell ⟨g, 1, none⟩ b).setCell ⟨g, 2, none⟩ c).setCell ⟨g, 3, none⟩ d).setCell ⟨g, 4, none⟩ e).setCell ⟨g, 5, none⟩ f) g [a, b, c, d, e, f] :=
 (((((h.set 0 a (by simp)).set 1 b (by simp)).set 2 c (by simp)).set 3 d (by simp)).set 4 e (by simp)).set 5 f (by simp)
theorem bl_set6 {w0 w : World} {a b c d e f : Value} (h : Below w0.heap.size w0 w) {g : Nat} (hg : w0.heap.size ≤ g) :
 Below w0.heap.size w0 ((((((w.setCell ⟨g, 0, none⟩ a).setCell ⟨g, 1, none⟩ b).setCell ⟨g, 2, none⟩ c).setCell ⟨g, 3, none⟩ d).setCell ⟨g, 4, none⟩ e).setCell ⟨g, 5, none⟩ f) :=
 bl_set (bl_set (bl_set (bl_set (bl_set (bl_set h hg a) hg b) hg c) hg d) hg e) hg f
def Tl (s : ByteArray) (n : Nat) (K D M Wk Wd : Int) (R : Value) : Prop :=
 (∃ b, (s.size ≤ n ∨ ∃ (h : n < s.size) (x : Int), (s[n].toNat : Int) = x ∧ 0 ≤ x ∧ x ≤ 255 ∧ (x == 47) = false) ∧ decide (RdOk K D M Wk Wd 7200) = b ∧ R = if b then .tuple #[vday (K, D, M, Wk, Wd, 7200), .int .i64 n, .bool true] else .tuple #[vday rd0, .int .i64 0, .bool false])
 ∨ (∃ (h : n < s.size), (s[n].toNat : Int) = 47 ∧
  ((hmsParse (byt (s.extract (n + 1) s.size)) = none ∧ R = .tuple #[vday rd0, .int .i64 0, .bool false])
  ∨ ∃ (v : Int) (k : Nat) (b : Bool), k ≤ s.size ∧ hmsParse (byt (s.extract (n + 1) s.size)) = some (v, k) ∧ decide (RdOk K D M Wk Wd v) = b ∧ R = if b then .tuple #[vday (K, D, M, Wk, Wd, v), .int .i64 ((n + 1 + k : Nat) : Int), .bool true] else .tuple #[vday rd0, .int .i64 0, .bool false]))
namespace r9_
theorem Day_J (s : ByteArray) (w : World) (hs : s.size ≤ 1000000) (R : Value) (v : Int) (n : Nat) (hn : n ≤ s.size) (h0 : 0 < s.size) (h74 : (s[0].toNat : Int) = 74) (N1 : ∀ w, Calls Tryz.prog 113 #[.string s, .int .i64 1] w fun e w' => e = .returned (.tuple #[.int .i64 v, .int .i64 (n : Nat)]) ∧ w = w') (hv : 0 ≤ v) (hv1 : v ≤ 999) (hTl : Tl s n 1 v 0 0 0 R) :
 Calls Tryz.prog 82 #[.string s] w fun e w' => e = .returned R ∧ Below w.heap.size w w' := by
 replace hTl := hide hTl
 replace N1 := hide N1
 go_enter Tryz.func82, Tryz.ntmps82
 go_upto_region 24 with (go_at_call 113; refine (N1.out _).mono ?_; rintro e w' ⟨rfl, rfl⟩)
 have bR := hide (show Bx ((w.alloc (.cells #[.int .i64 0, .int .i64 0, .int .i64 0, .int .i64 0, .int .i64 0, .int .i64 0] 49)).alloc (.cells #[.int .i64 1, .int .i64 v, .int .i64 0, .int .i64 0, .int .i64 0, .int .i64 0] 49)) w.heap.size [.int .i64 0, .int .i64 0, .int .i64 0, .int .i64 0, .int .i64 0, .int .i64 0] from (Bx.new w [.int .i64 0, .int .i64 0, .int .i64 0, .int .i64 0, .int .i64 0, .int .i64 0] _).alloc _)
 have bD := hide (show Bx ((w.alloc (.cells #[.int .i64 0, .int .i64 0, .int .i64 0, .int .i64 0, .int .i64 0, .int .i64 0] 49)).alloc (.cells #[.int .i64 1, .int .i64 v, .int .i64 0, .int .i64 0, .int .i64 0, .int .i64 0] 49)) (w.heap.size + 1) [.int .i64 1, .int .i64 v, .int .i64 0, .int .i64 0, .int .i64 0, .int .i64 0] by have := Bx.new (w.alloc (.cells #[.int .i64 0, .int .i64 0, .int .i64 0, .int .i64 0, .int .i64 0, .int .i64 0] 49)) [.int .i64 1, .int .i64 v, .int .i64 0, .int .i64 0, .int .i64 0, .int .i64 0] 49; simpa using this)
 have hb := hide (bl_alloc (bl_new w (.cells #[.int .i64 0, .int .i64 0, .int .i64 0, .int .i64 0, .int .i64 0, .int .i64 0] 49)) (.cells #[.int .i64 1, .int .i64 v, .int .i64 0, .int .i64 0, .int .i64 0, .int .i64 0] 49))
 generalize (w.alloc (.cells #[.int .i64 0, .int .i64 0, .int .i64 0, .int .i64 0, .int .i64 0, .int .i64 0] 49)).alloc (.cells #[.int .i64 1, .int .i64 v, .int .i64 0, .int .i64 0, .int .i64 0, .int .i64 0] 49) = W0 at *
 obtain ⟨x0, x1, x2, x3, x4, x5⟩ := cells6 bD.out
 have g5 := bD.out.fr 5
 go_upto_region 25 with fail
 clear x0 x1 x2 x3 x4 x5 g5
 replace bD := hide (show Bx (W0.setCell ⟨w.heap.size + 1, 5, none⟩ (.int .i64 7200)) (w.heap.size + 1) [.int .i64 1, .int .i64 v, .int .i64 0, .int .i64 0, .int .i64 0, .int .i64 7200] from bD.out.set 5 (.int .i64 7200) (by simp))
 replace bR := hide (show Bx (W0.setCell ⟨w.heap.size + 1, 5, none⟩ (.int .i64 7200)) w.heap.size [.int .i64 0, .int .i64 0, .int .i64 0, .int .i64 0, .int .i64 0, .int .i64 0] from bR.out.set_ne 5 (show w.heap.size + 1 ≠ w.heap.size by omega) (.int .i64 7200))
 replace hb := hide (show Below w.heap.size w (W0.setCell ⟨w.heap.size + 1, 5, none⟩ (.int .i64 7200)) from bl_set hb.out (show w.heap.size ≤ w.heap.size + 1 by omega) (.int .i64 7200))
 generalize W0.setCell ⟨w.heap.size + 1, 5, none⟩ (.int .i64 7200) = u1 at *
 rcases hTl.out with ⟨b, hend, hdb, hR⟩ | ⟨hn, h47, ⟨hms, hR⟩ | ⟨tv, k, b, hk, hms, hdb, hR⟩⟩
 ·replace hdb := hide hdb
  replace hR := hide hR
  have Vd := hide (show ∀ w : World, Calls Tryz.prog 114 #[vrd 1 v 0 0 0 7200] w fun e w' => e = .returned (.bool b) ∧ Below w.heap.size w w' from fun w => by rw [← hdb.out]; exact r6_.Valid 1 v 0 0 0 7200 w)
  unfold vrd at Vd
  clear hdb hTl
  rcases hend with hend | ⟨hn, x, hx, hx0, hx1, hx2⟩
  ·obtain ⟨x0, x1, x2, x3, x4, x5⟩ := cells6 bD.out
   have g5 := bD.out.fr 5
   go_wp2_with fail
   clear x0 x1 x2 x3 x4 x5 g5
   refine (Vd.out _).mono ?_
   rintro e u8 ⟨rfl, h1⟩
   replace bD := hide (bD.out.below h1)
   replace bR := hide (bR.out.below h1)
   replace hb := hide (bel_next hb.out h1)
   clear h1
   cases b
   ·go_upto_region 31 with fail
    obtain ⟨y0, y1, y2, y3, y4, y5⟩ := cells6 (bR.out.store6 (a := .int .i64 0) (b := .int .i64 0) (c := .int .i64 0) (d := .int .i64 0) (e := .int .i64 0) (f := .int .i64 0))
    obtain ⟨f0, f1, f2, f3, f4, f5⟩ := And.intro (bR.out.fr 0) (And.intro (bR.out.fr 1) (And.intro (bR.out.fr 2) (And.intro (bR.out.fr 3) (And.intro (bR.out.fr 4) (bR.out.fr 5)))))
    obtain ⟨z0, z1, z2, z3, z4, z5⟩ := cells6 bR.out
    go_wp2
    refine bodyPost_ret (v := .tuple #[vday rd0, .int .i64 0, .bool false]) (by simp [results, Tryz.results82, go_sem, vday, rd0, y0, y1, y2, y3, y4, y5]) rfl ⟨by rw [hR.out]; rfl, bl_set6 hb.out (Nat.le_refl _)⟩
   ·obtain ⟨x0, x1, x2, x3, x4, x5⟩ := cells6 bD.out
    obtain ⟨y0, y1, y2, y3, y4, y5⟩ := cells6 (bR.out.store6 (a := .int .i64 1) (b := .int .i64 v) (c := .int .i64 0) (d := .int .i64 0) (e := .int .i64 0) (f := .int .i64 7200))
    obtain ⟨f0, f1, f2, f3, f4, f5⟩ := And.intro (bR.out.fr 0) (And.intro (bR.out.fr 1) (And.intro (bR.out.fr 2) (And.intro (bR.out.fr 3) (And.intro (bR.out.fr 4) (bR.out.fr 5)))))
    obtain ⟨z0, z1, z2, z3, z4, z5⟩ := cells6 bR.out
    go_wp2
    refine bodyPost_ret (v := .tuple #[vday (1, v, 0, 0, 0, 7200), .int .i64 n, .bool true]) (by simp [results, Tryz.results82, go_sem, vday, y0, y1, y2, y3, y4, y5]) rfl ⟨by rw [hR.out]; rfl, bl_set6 hb.out (Nat.le_refl _)⟩
  ·obtain ⟨x0, x1, x2, x3, x4, x5⟩ := cells6 bD.out
   have g5 := bD.out.fr 5
   go_wp2_with fail
   clear x0 x1 x2 x3 x4 x5 g5
   refine (Vd.out _).mono ?_
   rintro e u8 ⟨rfl, h1⟩
   replace bD := hide (bD.out.below h1)
   replace bR := hide (bR.out.below h1)
   replace hb := hide (bel_next hb.out h1)
   clear h1
   cases b
   ·go_upto_region 31 with fail
    obtain ⟨y0, y1, y2, y3, y4, y5⟩ := cells6 (bR.out.store6 (a := .int .i64 0) (b := .int .i64 0) (c := .int .i64 0) (d := .int .i64 0) (e := .int .i64 0) (f := .int .i64 0))
    obtain ⟨f0, f1, f2, f3, f4, f5⟩ := And.intro (bR.out.fr 0) (And.intro (bR.out.fr 1) (And.intro (bR.out.fr 2) (And.intro (bR.out.fr 3) (And.intro (bR.out.fr 4) (bR.out.fr 5)))))
    obtain ⟨z0, z1, z2, z3, z4, z5⟩ := cells6 bR.out
    go_wp2
    refine bodyPost_ret (v := .tuple #[vday rd0, .int .i64 0, .bool false]) (by simp [results, Tryz.results82, go_sem, vday, rd0, y0, y1, y2, y3, y4, y5]) rfl ⟨by rw [hR.out]; rfl, bl_set6 hb.out (Nat.le_refl _)⟩
   ·obtain ⟨x0, x1, x2, x3, x4, x5⟩ := cells6 bD.out
    obtain ⟨y0, y1, y2, y3, y4, y5⟩ := cells6 (bR.out.store6 (a := .int .i64 1) (b := .int .i64 v) (c := .int .i64 0) (d := .int .i64 0) (e := .int .i64 0) (f := .int .i64 7200))
    obtain ⟨f0, f1, f2, f3, f4, f5⟩ := And.intro (bR.out.fr 0) (And.intro (bR.out.fr 1) (And.intro (bR.out.fr 2) (And.intro (bR.out.fr 3) (And.intro (bR.out.fr 4) (bR.out.fr 5)))))
    obtain ⟨z0, z1, z2, z3, z4, z5⟩ := cells6 bR.out
    go_wp2
    refine bodyPost_ret (v := .tuple #[vday (1, v, 0, 0, 0, 7200), .int .i64 n, .bool true]) (by simp [results, Tryz.results82, go_sem, vday, y0, y1, y2, y3, y4, y5]) rfl ⟨by rw [hR.out]; rfl, bl_set6 hb.out (Nat.le_refl _)⟩
 ·clear hTl
  replace hR := hide hR
  obtain ⟨x0, x1, x2, x3, x4, x5⟩ := cells6 bD.out
  have g5 := bD.out.fr 5
  go_wp2_with fail
  clear x0 x1 x2 x3 x4 x5 g5
  refine (r8_.Parse _ _ (by rw [ByteArray.size_extract]; omega)).mono ?_
  rintro e u2 ⟨rfl, h1⟩
  replace bD := hide (bD.out.below h1)
  replace bR := hide (bR.out.below h1)
  replace hb := hide (bel_next hb.out h1)
  clear h1
  rw [hms]
  simp only [hmsRes]
  obtain ⟨x0, x1, x2, x3, x4, x5⟩ := cells6 bD.out
  have g5 := bD.out.fr 5
  go_upto_region 28 with fail
  clear x0 x1 x2 x3 x4 x5 g5
  replace bD := hide (show Bx (u2.setCell ⟨w.heap.size + 1, 5, none⟩ (.int .i64 0)) (w.heap.size + 1) [.int .i64 1, .int .i64 v, .int .i64 0, .int .i64 0, .int .i64 0, .int .i64 0] from bD.out.set 5 (.int .i64 0) (by simp))
  replace bR := hide (show Bx (u2.setCell ⟨w.heap.size + 1, 5, none⟩ (.int .i64 0)) w.heap.size [.int .i64 0, .int .i64 0, .int .i64 0, .int .i64 0, .int .i64 0, .int .i64 0] from bR.out.set_ne 5 (show w.heap.size + 1 ≠ w.heap.size by omega) (.int .i64 0))
  replace hb := hide (show Below w.heap.size w (u2.setCell ⟨w.heap.size + 1, 5, none⟩ (.int .i64 0)) from bl_set hb.out (show w.heap.size ≤ w.heap.size + 1 by omega) (.int .i64 0))
  generalize u2.setCell ⟨w.heap.size + 1, 5, none⟩ (.int .i64 0) = u3 at *
  obtain ⟨x0, x1, x2, x3, x4, x5⟩ := cells6 bD.out
  have g5 := bD.out.fr 5
  go_upto_region 31 with fail
  clear x0 x1 x2 x3 x4 x5 g5
  obtain ⟨y0, y1, y2, y3, y4, y5⟩ := cells6 (bR.out.store6 (a := .int .i64 0) (b := .int .i64 0) (c := .int .i64 0) (d := .int .i64 0) (e := .int .i64 0) (f := .int .i64 0))
  obtain ⟨f0, f1, f2, f3, f4, f5⟩ := And.intro (bR.out.fr 0) (And.intro (bR.out.fr 1) (And.intro (bR.out.fr 2) (And.intro (bR.out.fr 3) (And.intro (bR.out.fr 4) (bR.out.fr 5)))))
  obtain ⟨z0, z1, z2, z3, z4, z5⟩ := cells6 bR.out
  go_wp2
  refine bodyPost_ret (v := .tuple #[vday rd0, .int .i64 0, .bool false]) (by simp [results, Tryz.results82, go_sem, vday, rd0, y0, y1, y2, y3, y4, y5]) rfl ⟨by rw [hR.out], bl_set6 hb.out (Nat.le_refl _)⟩
 ·replace hdb := hide hdb
  replace hR := hide hR
  have Vd := hide (show ∀ w : World, Calls Tryz.prog 114 #[vrd 1 v 0 0 0 tv] w fun e w' => e = .returned (.bool b) ∧ Below w.heap.size w w' from fun w => by rw [← hdb.out]; exact r6_.Valid 1 v 0 0 0 tv w)
  unfold vrd at Vd
  clear hdb hTl
  obtain ⟨x0, x1, x2, x3, x4, x5⟩ := cells6 bD.out
  have g5 := bD.out.fr 5
  go_wp2_with fail
  clear x0 x1 x2 x3 x4 x5 g5
  refine (r8_.Parse _ _ (by rw [ByteArray.size_extract]; omega)).mono ?_
  rintro e u2 ⟨rfl, h1⟩
  replace bD := hide (bD.out.below h1)
  replace bR := hide (bR.out.below h1)
  replace hb := hide (bel_next hb.out h1)
  clear h1
  rw [hms]
  simp only [hmsRes]
  obtain ⟨x0, x1, x2, x3, x4, x5⟩ := cells6 bD.out
  have g5 := bD.out.fr 5
  go_upto_region 28 with fail
  clear x0 x1 x2 x3 x4 x5 g5
  replace bD := hide (show Bx (u2.setCell ⟨w.heap.size + 1, 5, none⟩ (.int .i64 tv)) (w.heap.size + 1) [.int .i64 1, .int .i64 v, .int .i64 0, .int .i64 0, .int .i64 0, .int .i64 tv] from bD.out.set 5 (.int .i64 tv) (by simp))
  replace bR := hide (show Bx (u2.setCell ⟨w.heap.size + 1, 5, none⟩ (.int .i64 tv)) w.heap.size [.int .i64 0, .int .i64 0, .int .i64 0, .int .i64 0, .int .i64 0, .int .i64 0] from bR.out.set_ne 5 (show w.heap.size + 1 ≠ w.heap.size by omega) (.int .i64 tv))
  replace hb := hide (show Below w.heap.size w (u2.setCell ⟨w.heap.size + 1, 5, none⟩ (.int .i64 tv)) from bl_set hb.out (show w.heap.size ≤ w.heap.size + 1 by omega) (.int .i64 tv))
  generalize u2.setCell ⟨w.heap.size + 1, 5, none⟩ (.int .i64 tv) = u3 at *
  obtain ⟨x0, x1, x2, x3, x4, x5⟩ := cells6 bD.out
  have g5 := bD.out.fr 5
  go_wp2_with fail
  clear x0 x1 x2 x3 x4 x5 g5
  refine (Vd.out _).mono ?_
  rintro e u8 ⟨rfl, h1⟩
  replace bD := hide (bD.out.below h1)
  replace bR := hide (bR.out.below h1)
  replace hb := hide (bel_next hb.out h1)
  clear h1
  cases b
  ·go_upto_region 31 with fail
   obtain ⟨y0, y1, y2, y3, y4, y5⟩ := cells6 (bR.out.store6 (a := .int .i64 0) (b := .int .i64 0) (c := .int .i64 0) (d := .int .i64 0) (e := .int .i64 0) (f := .int .i64 0))
   obtain ⟨f0, f1, f2, f3, f4, f5⟩ := And.intro (bR.out.fr 0) (And.intro (bR.out.fr 1) (And.intro (bR.out.fr 2) (And.intro (bR.out.fr 3) (And.intro (bR.out.fr 4) (bR.out.fr 5)))))
   obtain ⟨z0, z1, z2, z3, z4, z5⟩ := cells6 bR.out
   go_wp2
   refine bodyPost_ret (v := .tuple #[vday rd0, .int .i64 0, .bool false]) (by simp [results, Tryz.results82, go_sem, vday, rd0, y0, y1, y2, y3, y4, y5]) rfl ⟨by rw [hR.out]; rfl, bl_set6 hb.out (Nat.le_refl _)⟩
  ·obtain ⟨x0, x1, x2, x3, x4, x5⟩ := cells6 bD.out
   obtain ⟨y0, y1, y2, y3, y4, y5⟩ := cells6 (bR.out.store6 (a := .int .i64 1) (b := .int .i64 v) (c := .int .i64 0) (d := .int .i64 0) (e := .int .i64 0) (f := .int .i64 tv))
   obtain ⟨f0, f1, f2, f3, f4, f5⟩ := And.intro (bR.out.fr 0) (And.intro (bR.out.fr 1) (And.intro (bR.out.fr 2) (And.intro (bR.out.fr 3) (And.intro (bR.out.fr 4) (bR.out.fr 5)))))
   obtain ⟨z0, z1, z2, z3, z4, z5⟩ := cells6 bR.out
   go_wp2
   refine bodyPost_ret (v := .tuple #[vday (1, v, 0, 0, 0, tv), .int .i64 ((n + 1 + k : Nat) : Int), .bool true]) (by simp [results, Tryz.results82, go_sem, vday, y0, y1, y2, y3, y4, y5]) rfl ⟨by rw [hR.out]; rfl, bl_set6 hb.out (Nat.le_refl _)⟩
theorem Day_J_no (s : ByteArray) (w : World) (hs : s.size ≤ 1000000) (h0 : 0 < s.size) (h74 : (s[0].toNat : Int) = 74) (n : Nat) (v : Int) (N1 : ∀ w, Calls Tryz.prog 113 #[.string s, .int .i64 1] w fun e w' => e = .returned (.tuple #[.int .i64 v, .int .i64 (n : Nat)]) ∧ w = w') (hv : v = -1) :
 Calls Tryz.prog 82 #[.string s] w fun e w' => e = .returned (.tuple #[vday rd0, .int .i64 0, .bool false]) ∧ Below w.heap.size w w' := by
 subst hv
 replace N1 := hide N1
 go_enter Tryz.func82, Tryz.ntmps82
 go_upto_region 24 with (go_at_call 113; refine (N1.out _).mono ?_; rintro e w' ⟨rfl, rfl⟩)
 have bR := hide (show Bx ((w.alloc (.cells #[.int .i64 0, .int .i64 0, .int .i64 0, .int .i64 0, .int .i64 0, .int .i64 0] 49)).alloc (.cells #[.int .i64 1, .int .i64 (-1), .int .i64 0, .int .i64 0, .int .i64 0, .int .i64 0] 49)) w.heap.size [.int .i64 0, .int .i64 0, .int .i64 0, .int .i64 0, .int .i64 0, .int .i64 0] from (Bx.new w [.int .i64 0, .int .i64 0, .int .i64 0, .int .i64 0, .int .i64 0, .int .i64 0] _).alloc _)
 have bD := hide (show Bx ((w.alloc (.cells #[.int .i64 0, .int .i64 0, .int .i64 0, .int .i64 0, .int .i64 0, .int .i64 0] 49)).alloc (.cells #[.int .i64 1, .int .i64 (-1), .int .i64 0, .int .i64 0, .int .i64 0, .int .i64 0] 49)) (w.heap.size + 1) [.int .i64 1, .int .i64 (-1), .int .i64 0, .int .i64 0, .int .i64 0, .int .i64 0] by have := Bx.new (w.alloc (.cells #[.int .i64 0, .int .i64 0, .int .i64 0, .int .i64 0, .int .i64 0, .int .i64 0] 49)) [.int .i64 1, .int .i64 (-1), .int .i64 0, .int .i64 0, .int .i64 0, .int .i64 0] 49; simpa using this)
 have hb := hide (bl_alloc (bl_new w (.cells #[.int .i64 0, .int .i64 0, .int .i64 0, .int .i64 0, .int .i64 0, .int .i64 0] 49)) (.cells #[.int .i64 1, .int .i64 (-1), .int .i64 0, .int .i64 0, .int .i64 0, .int .i64 0] 49))
 generalize (w.alloc (.cells #[.int .i64 0, .int .i64 0, .int .i64 0, .int .i64 0, .int .i64 0, .int .i64 0] 49)).alloc (.cells #[.int .i64 1, .int .i64 (-1), .int .i64 0, .int .i64 0, .int .i64 0, .int .i64 0] 49) = W0 at *
 obtain ⟨x0, x1, x2, x3, x4, x5⟩ := cells6 bD.out
 have g5 := bD.out.fr 5
 go_upto_region 25 with fail
 clear x0 x1 x2 x3 x4 x5 g5
 replace bD := hide (show Bx (W0.setCell ⟨w.heap.size + 1, 5, none⟩ (.int .i64 7200)) (w.heap.size + 1) [.int .i64 1, .int .i64 (-1), .int .i64 0, .int .i64 0, .int .i64 0, .int .i64 7200] from bD.out.set 5 (.int .i64 7200) (by simp))
 replace bR := hide (show Bx (W0.setCell ⟨w.heap.size + 1, 5, none⟩ (.int .i64 7200)) w.heap.size [.int .i64 0, .int .i64 0, .int .i64 0, .int .i64 0, .int .i64 0, .int .i64 0] from bR.out.set_ne 5 (show w.heap.size + 1 ≠ w.heap.size by omega) (.int .i64 7200))
 replace hb := hide (show Below w.heap.size w (W0.setCell ⟨w.heap.size + 1, 5, none⟩ (.int .i64 7200)) from bl_set hb.out (show w.heap.size ≤ w.heap.size + 1 by omega) (.int .i64 7200))
 generalize W0.setCell ⟨w.heap.size + 1, 5, none⟩ (.int .i64 7200) = u1 at *
 obtain ⟨x0, x1, x2, x3, x4, x5⟩ := cells6 bD.out
 have g5 := bD.out.fr 5
 go_upto_region 31 with fail
 clear x0 x1 x2 x3 x4 x5 g5
 obtain ⟨y0, y1, y2, y3, y4, y5⟩ := cells6 (bR.out.store6 (a := .int .i64 0) (b := .int .i64 0) (c := .int .i64 0) (d := .int .i64 0) (e := .int .i64 0) (f := .int .i64 0))
 obtain ⟨f0, f1, f2, f3, f4, f5⟩ := And.intro (bR.out.fr 0) (And.intro (bR.out.fr 1) (And.intro (bR.out.fr 2) (And.intro (bR.out.fr 3) (And.intro (bR.out.fr 4) (bR.out.fr 5)))))
 obtain ⟨z0, z1, z2, z3, z4, z5⟩ := cells6 bR.out
 go_wp2
 refine bodyPost_ret (v := .tuple #[vday rd0, .int .i64 0, .bool false]) (by simp [results, Tryz.results82, go_sem, vday, rd0, y0, y1, y2, y3, y4, y5]) rfl ⟨rfl, bl_set6 hb.out (Nat.le_refl _)⟩
theorem Day_Z0_no (s : ByteArray) (w : World) (hs : s.size ≤ 1000000) (h0 : s.size = 0) (n : Nat) (v : Int) (N1 : ∀ w, Calls Tryz.prog 113 #[.string s, .int .i64 0] w fun e w' => e = .returned (.tuple #[.int .i64 v, .int .i64 (n : Nat)]) ∧ w = w') (hv : v = -1) :
 Calls Tryz.prog 82 #[.string s] w fun e w' => e = .returned (.tuple #[vday rd0, .int .i64 0, .bool false]) ∧ Below w.heap.size w w' := by
 subst hv
 replace N1 := hide N1
 go_enter Tryz.func82, Tryz.ntmps82
 go_upto_region 24 with (go_at_call 113; refine (N1.out _).mono ?_; rintro e w' ⟨rfl, rfl⟩)
 have bR := hide (show Bx ((w.alloc (.cells #[.int .i64 0, .int .i64 0, .int .i64 0, .int .i64 0, .int .i64 0, .int .i64 0] 49)).alloc (.cells #[.int .i64 2, .int .i64 (-1), .int .i64 0, .int .i64 0, .int .i64 0, .int .i64 0] 49)) w.heap.size [.int .i64 0, .int .i64 0, .int .i64 0, .int .i64 0, .int .i64 0, .int .i64 0] from (Bx.new w [.int .i64 0, .int .i64 0, .int .i64 0, .int .i64 0, .int .i64 0, .int .i64 0] _).alloc _)
 have bD := hide (show Bx ((w.alloc (.cells #[.int .i64 0, .int .i64 0, .int .i64 0, .int .i64 0, .int .i64 0, .int .i64 0] 49)).alloc (.cells #[.int .i64 2, .int .i64 (-1), .int .i64 0, .int .i64 0, .int .i64 0, .int .i64 0] 49)) (w.heap.size + 1) [.int .i64 2, .int .i64 (-1), .int .i64 0, .int .i64 0, .int .i64 0, .int .i64 0] by have := Bx.new (w.alloc (.cells #[.int .i64 0, .int .i64 0, .int .i64 0, .int .i64 0, .int .i64 0, .int .i64 0] 49)) [.int .i64 2, .int .i64 (-1), .int .i64 0, .int .i64 0, .int .i64 0, .int .i64 0] 49; simpa using this)
 have hb := hide (bl_alloc (bl_new w (.cells #[.int .i64 0, .int .i64 0, .int .i64 0, .int .i64 0, .int .i64 0, .int .i64 0] 49)) (.cells #[.int .i64 2, .int .i64 (-1), .int .i64 0, .int .i64 0, .int .i64 0, .int .i64 0] 49))
 generalize (w.alloc (.cells #[.int .i64 0, .int .i64 0, .int .i64 0, .int .i64 0, .int .i64 0, .int .i64 0] 49)).alloc (.cells #[.int .i64 2, .int .i64 (-1), .int .i64 0, .int .i64 0, .int .i64 0, .int .i64 0] 49) = W0 at *
 obtain ⟨x0, x1, x2, x3, x4, x5⟩ := cells6 bD.out
 have g5 := bD.out.fr 5
 go_upto_region 25 with fail
 clear x0 x1 x2 x3 x4 x5 g5
 replace bD := hide (show Bx (W0.setCell ⟨w.heap.size + 1, 5, none⟩ (.int .i64 7200)) (w.heap.size + 1) [.int .i64 2, .int .i64 (-1), .int .i64 0, .int .i64 0, .int .i64 0, .int .i64 7200] from bD.out.set 5 (.int .i64 7200) (by simp))
 replace bR := hide (show Bx (W0.setCell ⟨w.heap.size + 1, 5, none⟩ (.int .i64 7200)) w.heap.size [.int .i64 0, .int .i64 0, .int .i64 0, .int .i64 0, .int .i64 0, .int .i64 0] from bR.out.set_ne 5 (show w.heap.size + 1 ≠ w.heap.size by omega) (.int .i64 7200))
 replace hb := hide (show Below w.heap.size w (W0.setCell ⟨w.heap.size + 1, 5, none⟩ (.int .i64 7200)) from bl_set hb.out (show w.heap.size ≤ w.heap.size + 1 by omega) (.int .i64 7200))
 generalize W0.setCell ⟨w.heap.size + 1, 5, none⟩ (.int .i64 7200) = u1 at *
 obtain ⟨x0, x1, x2, x3, x4, x5⟩ := cells6 bD.out
 have g5 := bD.out.fr 5
 go_upto_region 31 with fail
 clear x0 x1 x2 x3 x4 x5 g5
 obtain ⟨y0, y1, y2, y3, y4, y5⟩ := cells6 (bR.out.store6 (a := .int .i64 0) (b := .int .i64 0) (c := .int .i64 0) (d := .int .i64 0) (e := .int .i64 0) (f := .int .i64 0))
 obtain ⟨f0, f1, f2, f3, f4, f5⟩ := And.intro (bR.out.fr 0) (And.intro (bR.out.fr 1) (And.intro (bR.out.fr 2) (And.intro (bR.out.fr 3) (And.intro (bR.out.fr 4) (bR.out.fr 5)))))
 obtain ⟨z0, z1, z2, z3, z4, z5⟩ := cells6 bR.out
 go_wp2
 refine bodyPost_ret (v := .tuple #[vday rd0, .int .i64 0, .bool false]) (by simp [results, Tryz.results82, go_sem, vday, rd0, y0, y1, y2, y3, y4, y5]) rfl ⟨rfl, bl_set6 hb.out (Nat.le_refl _)⟩
theorem Day_Z (s : ByteArray) (w : World) (hs : s.size ≤ 1000000) (R : Value) (v : Int) (n : Nat) (hn : n ≤ s.size) (h0 : 0 < s.size) (x : Int) (hx : (s[0].toNat : Int) = x) (hx0 : 0 ≤ x) (hx1 : x ≤ 255) (hx74 : (x == 74) = false) (hx77 : (x == 77) = false) (N1 : ∀ w, Calls Tryz.prog 113 #[.string s, .int .i64 0] w fun e w' => e = .returned (.tuple #[.int .i64 v, .int .i64 (n : Nat)]) ∧ w = w') (hv : 0 ≤ v) (hv1 : v ≤ 999) (hTl : Tl s n 2 v 0 0 0 R) :
 Calls Tryz.prog 82 #[.string s] w fun e w' => e = .returned R ∧ Below w.heap.size w w' := by
 replace hTl := hide hTl
 replace N1 := hide N1
 go_enter Tryz.func82, Tryz.ntmps82
 go_upto_region 24 with (go_at_call 113; refine (N1.out _).mono ?_; rintro e w' ⟨rfl, rfl⟩)
 have bR := hide (show Bx ((w.alloc (.cells #[.int .i64 0, .int .i64 0, .int .i64 0, .int .i64 0, .int .i64 0, .int .i64 0] 49)).alloc (.cells #[.int .i64 2, .int .i64 v, .int .i64 0, .int .i64 0, .int .i64 0, .int .i64 0] 49)) w.heap.size [.int .i64 0, .int .i64 0, .int .i64 0, .int .i64 0, .int .i64 0, .int .i64 0] from (Bx.new w [.int .i64 0, .int .i64 0, .int .i64 0, .int .i64 0, .int .i64 0, .int .i64 0] _).alloc _)
 have bD := hide (show Bx ((w.alloc (.cells #[.int .i64 0, .int .i64 0, .int .i64 0, .int .i64 0, .int .i64 0, .int .i64 0] 49)).alloc (.cells #[.int .i64 2, .int .i64 v, .int .i64 0, .int .i64 0, .int .i64 0, .int .i64 0] 49)) (w.heap.size + 1) [.int .i64 2, .int .i64 v, .int .i64 0, .int .i64 0, .int .i64 0, .int .i64 0] by have := Bx.new (w.alloc (.cells #[.int .i64 0, .int .i64 0, .int .i64 0, .int .i64 0, .int .i64 0, .int .i64 0] 49)) [.int .i64 2, .int .i64 v, .int .i64 0, .int .i64 0, .int .i64 0, .int .i64 0] 49; simpa using this)
 have hb := hide (bl_alloc (bl_new w (.cells #[.int .i64 0, .int .i64 0, .int .i64 0, .int .i64 0, .int .i64 0, .int .i64 0] 49)) (.cells #[.int .i64 2, .int .i64 v, .int .i64 0, .int .i64 0, .int .i64 0, .int .i64 0] 49))
 generalize (w.alloc (.cells #[.int .i64 0, .int .i64 0, .int .i64 0, .int .i64 0, .int .i64 0, .int .i64 0] 49)).alloc (.cells #[.int .i64 2, .int .i64 v, .int .i64 0, .int .i64 0, .int .i64 0, .int .i64 0] 49) = W0 at *
 obtain ⟨x0, x1, x2, x3, x4, x5⟩ := cells6 bD.out
 have g5 := bD.out.fr 5
 go_upto_region 25 with fail
 clear x0 x1 x2 x3 x4 x5 g5
 replace bD := hide (show Bx (W0.setCell ⟨w.heap.size + 1, 5, none⟩ (.int .i64 7200)) (w.heap.size + 1) [.int .i64 2, .int .i64 v, .int .i64 0, .int .i64 0, .int .i64 0, .int .i64 7200] from bD.out.set 5 (.int .i64 7200) (by simp))
 replace bR := hide (show Bx (W0.setCell ⟨w.heap.size + 1, 5, none⟩ (.int .i64 7200)) w.heap.size [.int .i64 0, .int .i64 0, .int .i64 0, .int .i64 0, .int .i64 0, .int .i64 0] from bR.out.set_ne 5 (show w.heap.size + 1 ≠ w.heap.size by omega) (.int .i64 7200))
 replace hb := hide (show Below w.heap.size w (W0.setCell ⟨w.heap.size + 1, 5, none⟩ (.int .i64 7200)) from bl_set hb.out (show w.heap.size ≤ w.heap.size + 1 by omega) (.int .i64 7200))
 generalize W0.setCell ⟨w.heap.size + 1, 5, none⟩ (.int .i64 7200) = u1 at *
 rcases hTl.out with ⟨b, hend, hdb, hR⟩ | ⟨hn, h47, ⟨hms, hR⟩ | ⟨tv, k, b, hk, hms, hdb, hR⟩⟩
 ·replace hdb := hide hdb
  replace hR := hide hR
  have Vd := hide (show ∀ w : World, Calls Tryz.prog 114 #[vrd 2 v 0 0 0 7200] w fun e w' => e = .returned (.bool b) ∧ Below w.heap.size w w' from fun w => by rw [← hdb.out]; exact r6_.Valid 2 v 0 0 0 7200 w)
  unfold vrd at Vd
  clear hdb hTl
  rcases hend with hend | ⟨hn, x, hx, hx0, hx1, hx2⟩
  ·obtain ⟨x0, x1, x2, x3, x4, x5⟩ := cells6 bD.out
   have g5 := bD.out.fr 5
   go_wp2_with fail
   clear x0 x1 x2 x3 x4 x5 g5
   refine (Vd.out _).mono ?_
   rintro e u8 ⟨rfl, h1⟩
   replace bD := hide (bD.out.below h1)
   replace bR := hide (bR.out.below h1)
   replace hb := hide (bel_next hb.out h1)
   clear h1
   cases b
   ·go_upto_region 31 with fail
    obtain ⟨y0, y1, y2, y3, y4, y5⟩ := cells6 (bR.out.store6 (a := .int .i64 0) (b := .int .i64 0) (c := .int .i64 0) (d := .int .i64 0) (e := .int .i64 0) (f := .int .i64 0))
    obtain ⟨f0, f1, f2, f3, f4, f5⟩ := And.intro (bR.out.fr 0) (And.intro (bR.out.fr 1) (And.intro (bR.out.fr 2) (And.intro (bR.out.fr 3) (And.intro (bR.out.fr 4) (bR.out.fr 5)))))
    obtain ⟨z0, z1, z2, z3, z4, z5⟩ := cells6 bR.out
    go_wp2
    refine bodyPost_ret (v := .tuple #[vday rd0, .int .i64 0, .bool false]) (by simp [results, Tryz.results82, go_sem, vday, rd0, y0, y1, y2, y3, y4, y5]) rfl ⟨by rw [hR.out]; rfl, bl_set6 hb.out (Nat.le_refl _)⟩
   ·obtain ⟨x0, x1, x2, x3, x4, x5⟩ := cells6 bD.out
    obtain ⟨y0, y1, y2, y3, y4, y5⟩ := cells6 (bR.out.store6 (a := .int .i64 2) (b := .int .i64 v) (c := .int .i64 0) (d := .int .i64 0) (e := .int .i64 0) (f := .int .i64 7200))
    obtain ⟨f0, f1, f2, f3, f4, f5⟩ := And.intro (bR.out.fr 0) (And.intro (bR.out.fr 1) (And.intro (bR.out.fr 2) (And.intro (bR.out.fr 3) (And.intro (bR.out.fr 4) (bR.out.fr 5)))))
    obtain ⟨z0, z1, z2, z3, z4, z5⟩ := cells6 bR.out
    go_wp2
    refine bodyPost_ret (v := .tuple #[vday (2, v, 0, 0, 0, 7200), .int .i64 n, .bool true]) (by simp [results, Tryz.results82, go_sem, vday, y0, y1, y2, y3, y4, y5]) rfl ⟨by rw [hR.out]; rfl, bl_set6 hb.out (Nat.le_refl _)⟩
  ·obtain ⟨x0, x1, x2, x3, x4, x5⟩ := cells6 bD.out
   have g5 := bD.out.fr 5
   go_wp2_with fail
   clear x0 x1 x2 x3 x4 x5 g5
   refine (Vd.out _).mono ?_
   rintro e u8 ⟨rfl, h1⟩
   replace bD := hide (bD.out.below h1)
   replace bR := hide (bR.out.below h1)
   replace hb := hide (bel_next hb.out h1)
   clear h1
   cases b
   ·go_upto_region 31 with fail
    obtain ⟨y0, y1, y2, y3, y4, y5⟩ := cells6 (bR.out.store6 (a := .int .i64 0) (b := .int .i64 0) (c := .int .i64 0) (d := .int .i64 0) (e := .int .i64 0) (f := .int .i64 0))
    obtain ⟨f0, f1, f2, f3, f4, f5⟩ := And.intro (bR.out.fr 0) (And.intro (bR.out.fr 1) (And.intro (bR.out.fr 2) (And.intro (bR.out.fr 3) (And.intro (bR.out.fr 4) (bR.out.fr 5)))))
    obtain ⟨z0, z1, z2, z3, z4, z5⟩ := cells6 bR.out
    go_wp2
    refine bodyPost_ret (v := .tuple #[vday rd0, .int .i64 0, .bool false]) (by simp [results, Tryz.results82, go_sem, vday, rd0, y0, y1, y2, y3, y4, y5]) rfl ⟨by rw [hR.out]; rfl, bl_set6 hb.out (Nat.le_refl _)⟩
   ·obtain ⟨x0, x1, x2, x3, x4, x5⟩ := cells6 bD.out
    obtain ⟨y0, y1, y2, y3, y4, y5⟩ := cells6 (bR.out.store6 (a := .int .i64 2) (b := .int .i64 v) (c := .int .i64 0) (d := .int .i64 0) (e := .int .i64 0) (f := .int .i64 7200))
    obtain ⟨f0, f1, f2, f3, f4, f5⟩ := And.intro (bR.out.fr 0) (And.intro (bR.out.fr 1) (And.intro (bR.out.fr 2) (And.intro (bR.out.fr 3) (And.intro (bR.out.fr 4) (bR.out.fr 5)))))
    obtain ⟨z0, z1, z2, z3, z4, z5⟩ := cells6 bR.out
    go_wp2
    refine bodyPost_ret (v := .tuple #[vday (2, v, 0, 0, 0, 7200), .int .i64 n, .bool true]) (by simp [results, Tryz.results82, go_sem, vday, y0, y1, y2, y3, y4, y5]) rfl ⟨by rw [hR.out]; rfl, bl_set6 hb.out (Nat.le_refl _)⟩
 ·clear hTl
  replace hR := hide hR
  obtain ⟨x0, x1, x2, x3, x4, x5⟩ := cells6 bD.out
  have g5 := bD.out.fr 5
  go_wp2_with fail
  clear x0 x1 x2 x3 x4 x5 g5
  refine (r8_.Parse _ _ (by rw [ByteArray.size_extract]; omega)).mono ?_
  rintro e u2 ⟨rfl, h1⟩
  replace bD := hide (bD.out.below h1)
  replace bR := hide (bR.out.below h1)
  replace hb := hide (bel_next hb.out h1)
  clear h1
  rw [hms]
  simp only [hmsRes]
  obtain ⟨x0, x1, x2, x3, x4, x5⟩ := cells6 bD.out
  have g5 := bD.out.fr 5
  go_upto_region 28 with fail
  clear x0 x1 x2 x3 x4 x5 g5
  replace bD := hide (show Bx (u2.setCell ⟨w.heap.size + 1, 5, none⟩ (.int .i64 0)) (w.heap.size + 1) [.int .i64 2, .int .i64 v, .int .i64 0, .int .i64 0, .int .i64 0, .int .i64 0] from bD.out.set 5 (.int .i64 0) (by simp))
  replace bR := hide (show Bx (u2.setCell ⟨w.heap.size + 1, 5, none⟩ (.int .i64 0)) w.heap.size [.int .i64 0, .int .i64 0, .int .i64 0, .int .i64 0, .int .i64 0, .int .i64 0] from bR.out.set_ne 5 (show w.heap.size + 1 ≠ w.heap.size by omega) (.int .i64 0))
  replace hb := hide (show Below w.heap.size w (u2.setCell ⟨w.heap.size + 1, 5, none⟩ (.int .i64 0)) from bl_set hb.out (show w.heap.size ≤ w.heap.size + 1 by omega) (.int .i64 0))
  generalize u2.setCell ⟨w.heap.size + 1, 5, none⟩ (.int .i64 0) = u3 at *
  obtain ⟨x0, x1, x2, x3, x4, x5⟩ := cells6 bD.out
  have g5 := bD.out.fr 5
  go_upto_region 31 with fail
  clear x0 x1 x2 x3 x4 x5 g5
  obtain ⟨y0, y1, y2, y3, y4, y5⟩ := cells6 (bR.out.store6 (a := .int .i64 0) (b := .int .i64 0) (c := .int .i64 0) (d := .int .i64 0) (e := .int .i64 0) (f := .int .i64 0))
  obtain ⟨f0, f1, f2, f3, f4, f5⟩ := And.intro (bR.out.fr 0) (And.intro (bR.out.fr 1) (And.intro (bR.out.fr 2) (And.intro (bR.out.fr 3) (And.intro (bR.out.fr 4) (bR.out.fr 5)))))
  obtain ⟨z0, z1, z2, z3, z4, z5⟩ := cells6 bR.out
  go_wp2
  refine bodyPost_ret (v := .tuple #[vday rd0, .int .i64 0, .bool false]) (by simp [results, Tryz.results82, go_sem, vday, rd0, y0, y1, y2, y3, y4, y5]) rfl ⟨by rw [hR.out], bl_set6 hb.out (Nat.le_refl _)⟩
 ·replace hdb := hide hdb
  replace hR := hide hR
  have Vd := hide (show ∀ w : World, Calls Tryz.prog 114 #[vrd 2 v 0 0 0 tv] w fun e w' => e = .returned (.bool b) ∧ Below w.heap.size w w' from fun w => by rw [← hdb.out]; exact r6_.Valid 2 v 0 0 0 tv w)
  unfold vrd at Vd
  clear hdb hTl
  obtain ⟨x0, x1, x2, x3, x4, x5⟩ := cells6 bD.out
  have g5 := bD.out.fr 5
  go_wp2_with fail
  clear x0 x1 x2 x3 x4 x5 g5
  refine (r8_.Parse _ _ (by rw [ByteArray.size_extract]; omega)).mono ?_
  rintro e u2 ⟨rfl, h1⟩
  replace bD := hide (bD.out.below h1)
  replace bR := hide (bR.out.below h1)
  replace hb := hide (bel_next hb.out h1)
  clear h1
  rw [hms]
  simp only [hmsRes]
  obtain ⟨x0, x1, x2, x3, x4, x5⟩ := cells6 bD.out
  have g5 := bD.out.fr 5
  go_upto_region 28 with fail
  clear x0 x1 x2 x3 x4 x5 g5
  replace bD := hide (show Bx (u2.setCell ⟨w.heap.size + 1, 5, none⟩ (.int .i64 tv)) (w.heap.size + 1) [.int .i64 2, .int .i64 v, .int .i64 0, .int .i64 0, .int .i64 0, .int .i64 tv] from bD.out.set 5 (.int .i64 tv) (by simp))
  replace bR := hide (show Bx (u2.setCell ⟨w.heap.size + 1, 5, none⟩ (.int .i64 tv)) w.heap.size [.int .i64 0, .int .i64 0, .int .i64 0, .int .i64 0, .int .i64 0, .int .i64 0] from bR.out.set_ne 5 (show w.heap.size + 1 ≠ w.heap.size by omega) (.int .i64 tv))
  replace hb := hide (show Below w.heap.size w (u2.setCell ⟨w.heap.size + 1, 5, none⟩ (.int .i64 tv)) from bl_set hb.out (show w.heap.size ≤ w.heap.size + 1 by omega) (.int .i64 tv))
  generalize u2.setCell ⟨w.heap.size + 1, 5, none⟩ (.int .i64 tv) = u3 at *
  obtain ⟨x0, x1, x2, x3, x4, x5⟩ := cells6 bD.out
  have g5 := bD.out.fr 5
  go_wp2_with fail
  clear x0 x1 x2 x3 x4 x5 g5
  refine (Vd.out _).mono ?_
  rintro e u8 ⟨rfl, h1⟩
  replace bD := hide (bD.out.below h1)
  replace bR := hide (bR.out.below h1)
  replace hb := hide (bel_next hb.out h1)
  clear h1
  cases b
  ·go_upto_region 31 with fail
   obtain ⟨y0, y1, y2, y3, y4, y5⟩ := cells6 (bR.out.store6 (a := .int .i64 0) (b := .int .i64 0) (c := .int .i64 0) (d := .int .i64 0) (e := .int .i64 0) (f := .int .i64 0))
   obtain ⟨f0, f1, f2, f3, f4, f5⟩ := And.intro (bR.out.fr 0) (And.intro (bR.out.fr 1) (And.intro (bR.out.fr 2) (And.intro (bR.out.fr 3) (And.intro (bR.out.fr 4) (bR.out.fr 5)))))
   obtain ⟨z0, z1, z2, z3, z4, z5⟩ := cells6 bR.out
   go_wp2
   refine bodyPost_ret (v := .tuple #[vday rd0, .int .i64 0, .bool false]) (by simp [results, Tryz.results82, go_sem, vday, rd0, y0, y1, y2, y3, y4, y5]) rfl ⟨by rw [hR.out]; rfl, bl_set6 hb.out (Nat.le_refl _)⟩
  ·obtain ⟨x0, x1, x2, x3, x4, x5⟩ := cells6 bD.out
   obtain ⟨y0, y1, y2, y3, y4, y5⟩ := cells6 (bR.out.store6 (a := .int .i64 2) (b := .int .i64 v) (c := .int .i64 0) (d := .int .i64 0) (e := .int .i64 0) (f := .int .i64 tv))
   obtain ⟨f0, f1, f2, f3, f4, f5⟩ := And.intro (bR.out.fr 0) (And.intro (bR.out.fr 1) (And.intro (bR.out.fr 2) (And.intro (bR.out.fr 3) (And.intro (bR.out.fr 4) (bR.out.fr 5)))))
   obtain ⟨z0, z1, z2, z3, z4, z5⟩ := cells6 bR.out
   go_wp2
   refine bodyPost_ret (v := .tuple #[vday (2, v, 0, 0, 0, tv), .int .i64 ((n + 1 + k : Nat) : Int), .bool true]) (by simp [results, Tryz.results82, go_sem, vday, y0, y1, y2, y3, y4, y5]) rfl ⟨by rw [hR.out]; rfl, bl_set6 hb.out (Nat.le_refl _)⟩
theorem Day_Z_no (s : ByteArray) (w : World) (hs : s.size ≤ 1000000) (h0 : 0 < s.size) (x : Int) (hx : (s[0].toNat : Int) = x) (hx0 : 0 ≤ x) (hx1 : x ≤ 255) (hx74 : (x == 74) = false) (hx77 : (x == 77) = false) (n : Nat) (v : Int) (N1 : ∀ w, Calls Tryz.prog 113 #[.string s, .int .i64 0] w fun e w' => e = .returned (.tuple #[.int .i64 v, .int .i64 (n : Nat)]) ∧ w = w') (hv : v = -1) :
 Calls Tryz.prog 82 #[.string s] w fun e w' => e = .returned (.tuple #[vday rd0, .int .i64 0, .bool false]) ∧ Below w.heap.size w w' := by
 subst hv
 replace N1 := hide N1
 go_enter Tryz.func82, Tryz.ntmps82
 go_upto_region 24 with (go_at_call 113; refine (N1.out _).mono ?_; rintro e w' ⟨rfl, rfl⟩)
 have bR := hide (show Bx ((w.alloc (.cells #[.int .i64 0, .int .i64 0, .int .i64 0, .int .i64 0, .int .i64 0, .int .i64 0] 49)).alloc (.cells #[.int .i64 2, .int .i64 (-1), .int .i64 0, .int .i64 0, .int .i64 0, .int .i64 0] 49)) w.heap.size [.int .i64 0, .int .i64 0, .int .i64 0, .int .i64 0, .int .i64 0, .int .i64 0] from (Bx.new w [.int .i64 0, .int .i64 0, .int .i64 0, .int .i64 0, .int .i64 0, .int .i64 0] _).alloc _)
 have bD := hide (show Bx ((w.alloc (.cells #[.int .i64 0, .int .i64 0, .int .i64 0, .int .i64 0, .int .i64 0, .int .i64 0] 49)).alloc (.cells #[.int .i64 2, .int .i64 (-1), .int .i64 0, .int .i64 0, .int .i64 0, .int .i64 0] 49)) (w.heap.size + 1) [.int .i64 2, .int .i64 (-1), .int .i64 0, .int .i64 0, .int .i64 0, .int .i64 0] by have := Bx.new (w.alloc (.cells #[.int .i64 0, .int .i64 0, .int .i64 0, .int .i64 0, .int .i64 0, .int .i64 0] 49)) [.int .i64 2, .int .i64 (-1), .int .i64 0, .int .i64 0, .int .i64 0, .int .i64 0] 49; simpa using this)
 have hb := hide (bl_alloc (bl_new w (.cells #[.int .i64 0, .int .i64 0, .int .i64 0, .int .i64 0, .int .i64 0, .int .i64 0] 49)) (.cells #[.int .i64 2, .int .i64 (-1), .int .i64 0, .int .i64 0, .int .i64 0, .int .i64 0] 49))
 generalize (w.alloc (.cells #[.int .i64 0, .int .i64 0, .int .i64 0, .int .i64 0, .int .i64 0, .int .i64 0] 49)).alloc (.cells #[.int .i64 2, .int .i64 (-1), .int .i64 0, .int .i64 0, .int .i64 0, .int .i64 0] 49) = W0 at *
 obtain ⟨x0, x1, x2, x3, x4, x5⟩ := cells6 bD.out
 have g5 := bD.out.fr 5
 go_upto_region 25 with fail
 clear x0 x1 x2 x3 x4 x5 g5
 replace bD := hide (show Bx (W0.setCell ⟨w.heap.size + 1, 5, none⟩ (.int .i64 7200)) (w.heap.size + 1) [.int .i64 2, .int .i64 (-1), .int .i64 0, .int .i64 0, .int .i64 0, .int .i64 7200] from bD.out.set 5 (.int .i64 7200) (by simp))
 replace bR := hide (show Bx (W0.setCell ⟨w.heap.size + 1, 5, none⟩ (.int .i64 7200)) w.heap.size [.int .i64 0, .int .i64 0, .int .i64 0, .int .i64 0, .int .i64 0, .int .i64 0] from bR.out.set_ne 5 (show w.heap.size + 1 ≠ w.heap.size by omega) (.int .i64 7200))
 replace hb := hide (show Below w.heap.size w (W0.setCell ⟨w.heap.size + 1, 5, none⟩ (.int .i64 7200)) from bl_set hb.out (show w.heap.size ≤ w.heap.size + 1 by omega) (.int .i64 7200))
 generalize W0.setCell ⟨w.heap.size + 1, 5, none⟩ (.int .i64 7200) = u1 at *
 obtain ⟨x0, x1, x2, x3, x4, x5⟩ := cells6 bD.out
 have g5 := bD.out.fr 5
 go_upto_region 31 with fail
 clear x0 x1 x2 x3 x4 x5 g5
 obtain ⟨y0, y1, y2, y3, y4, y5⟩ := cells6 (bR.out.store6 (a := .int .i64 0) (b := .int .i64 0) (c := .int .i64 0) (d := .int .i64 0) (e := .int .i64 0) (f := .int .i64 0))
 obtain ⟨f0, f1, f2, f3, f4, f5⟩ := And.intro (bR.out.fr 0) (And.intro (bR.out.fr 1) (And.intro (bR.out.fr 2) (And.intro (bR.out.fr 3) (And.intro (bR.out.fr 4) (bR.out.fr 5)))))
 obtain ⟨z0, z1, z2, z3, z4, z5⟩ := cells6 bR.out
 go_wp2
 refine bodyPost_ret (v := .tuple #[vday rd0, .int .i64 0, .bool false]) (by simp [results, Tryz.results82, go_sem, vday, rd0, y0, y1, y2, y3, y4, y5]) rfl ⟨rfl, bl_set6 hb.out (Nat.le_refl _)⟩
theorem Day_M1 (s : ByteArray) (w : World) (hs : s.size ≤ 1000000) (h0 : 0 < s.size) (h77 : (s[0].toNat : Int) = 77) (m : Int) (i : Nat) (hi1 : i ≤ s.size) (N1 : ∀ w, Calls Tryz.prog 113 #[.string s, .int .i64 1] w fun e w' => e = .returned (.tuple #[.int .i64 m, .int .i64 (i : Nat)]) ∧ w = w') (hbi : m = -1 ∨ 0 ≤ m ∧ m ≤ 999 ∧ (s.size ≤ i ∨ ∃ (h : i < s.size) (x : Int), (s[i].toNat : Int) = x ∧ 0 ≤ x ∧ x ≤ 255 ∧ (x != 46) = true)) :
 Calls Tryz.prog 82 #[.string s] w fun e w' => e = .returned (.tuple #[vday rd0, .int .i64 0, .bool false]) ∧ Below w.heap.size w w' := by
 replace N1 := hide N1
 rcases hbi with rfl | ⟨b0, b1, b2 | ⟨b2, x, b3, b4, b5, b6⟩⟩
 all_goals
  go_enter Tryz.func82, Tryz.ntmps82
  go_wp2_with (first | (go_at_call 113; with_reducible refine (N1.out _).mono ?_; rintro e w' ⟨rfl, rfl⟩))
  exact bodyPost_ret (v := .tuple #[vday rd0, .int .i64 0, .bool false]) (by simp [results, Tryz.results82, go_sem, vday, rd0]) rfl ⟨rfl, bl_alloc (bl_new _ _) _⟩
theorem Day_M2 (s : ByteArray) (w : World) (hs : s.size ≤ 1000000) (h0 : 0 < s.size) (h77 : (s[0].toNat : Int) = 77) (m : Int) (i : Nat) (hi1 : i ≤ s.size) (N1 : ∀ w, Calls Tryz.prog 113 #[.string s, .int .i64 1] w fun e w' => e = .returned (.tuple #[.int .i64 m, .int .i64 (i : Nat)]) ∧ w = w') (hvm0 : 0 ≤ m) (hvm1 : m ≤ 999) (hi : i < s.size) (hi46 : (s[i].toNat : Int) = 46) (u : Int) (j : Nat) (hj1 : j ≤ s.size) (N2 : ∀ w, Calls Tryz.prog 113 #[.string s, .int .i64 ((i : Int) + 1)] w fun e w' => e = .returned (.tuple #[.int .i64 u, .int .i64 (j : Nat)]) ∧ w = w') (hbj : u = -1 ∨ 0 ≤ u ∧ u ≤ 999 ∧ (s.size ≤ j ∨ ∃ (h : j < s.size) (x : Int), (s[j].toNat : Int) = x ∧ 0 ≤ x ∧ x ≤ 255 ∧ (x != 46) = true)) :
 Calls Tryz.prog 82 #[.string s] w fun e w' => e = .returned (.tuple #[vday rd0, .int .i64 0, .bool false]) ∧ Below w.heap.size w w' := by
 replace N1 := hide N1
 replace N2 := hide N2
 rcases hbj with rfl | ⟨b0, b1, b2 | ⟨b2, x, b3, b4, b5, b6⟩⟩
 all_goals
  go_enter Tryz.func82, Tryz.ntmps82
  go_wp2_with (first | (go_at_call 113; with_reducible refine (N1.out _).mono ?_; rintro e w' ⟨rfl, rfl⟩) | (go_at_call 113; with_reducible refine (N2.out _).mono ?_; rintro e w' ⟨rfl, rfl⟩))
  exact bodyPost_ret (v := .tuple #[vday rd0, .int .i64 0, .bool false]) (by simp [results, Tryz.results82, go_sem, vday, rd0]) rfl ⟨rfl, bl_alloc (bl_new _ _) _⟩
theorem Day_M3 (s : ByteArray) (w : World) (hs : s.size ≤ 1000000) (h0 : 0 < s.size) (h77 : (s[0].toNat : Int) = 77) (m : Int) (i : Nat) (hi1 : i ≤ s.size) (N1 : ∀ w, Calls Tryz.prog 113 #[.string s, .int .i64 1] w fun e w' => e = .returned (.tuple #[.int .i64 m, .int .i64 (i : Nat)]) ∧ w = w') (hvm0 : 0 ≤ m) (hvm1 : m ≤ 999) (hi : i < s.size) (hi46 : (s[i].toNat : Int) = 46) (u : Int) (j : Nat) (hj1 : j ≤ s.size) (N2 : ∀ w, Calls Tryz.prog 113 #[.string s, .int .i64 ((i : Int) + 1)] w fun e w' => e = .returned (.tuple #[.int .i64 u, .int .i64 (j : Nat)]) ∧ w = w') (hvu0 : 0 ≤ u) (hvu1 : u ≤ 999) (hj : j < s.size) (hj46 : (s[j].toNat : Int) = 46) (v : Int) (n : Nat) (N3 : ∀ w, Calls Tryz.prog 113 #[.string s, .int .i64 ((j : Int) + 1)] w fun e w' => e = .returned (.tuple #[.int .i64 v, .int .i64 (n : Nat)]) ∧ w = w') (hv : v = -1) :
 Calls Tryz.prog 82 #[.string s] w fun e w' => e = .returned (.tuple #[vday rd0, .int .i64 0, .bool false]) ∧ Below w.heap.size w w' := by
 subst hv
 replace N1 := hide N1
 replace N2 := hide N2
 replace N3 := hide N3
 go_enter Tryz.func82, Tryz.ntmps82
 go_upto_region 24 with (first | (go_at_call 113; with_reducible refine (N1.out _).mono ?_; rintro e w' ⟨rfl, rfl⟩) | (go_at_call 113; with_reducible refine (N2.out _).mono ?_; rintro e w' ⟨rfl, rfl⟩) | (go_at_call 113; with_reducible refine (N3.out _).mono ?_; rintro e w' ⟨rfl, rfl⟩))
 have bR := hide (show Bx ((w.alloc (.cells #[.int .i64 0, .int .i64 0, .int .i64 0, .int .i64 0, .int .i64 0, .int .i64 0] 49)).alloc (.cells #[.int .i64 3, .int .i64 0, .int .i64 m, .int .i64 u, .int .i64 (-1), .int .i64 0] 49)) w.heap.size [.int .i64 0, .int .i64 0, .int .i64 0, .int .i64 0, .int .i64 0, .int .i64 0] from (Bx.new w [.int .i64 0, .int .i64 0, .int .i64 0, .int .i64 0, .int .i64 0, .int .i64 0] _).alloc _)
 have bD := hide (show Bx ((w.alloc (.cells #[.int .i64 0, .int .i64 0, .int .i64 0, .int .i64 0, .int .i64 0, .int .i64 0] 49)).alloc (.cells #[.int .i64 3, .int .i64 0, .int .i64 m, .int .i64 u, .int .i64 (-1), .int .i64 0] 49)) (w.heap.size + 1) [.int .i64 3, .int .i64 0, .int .i64 m, .int .i64 u, .int .i64 (-1), .int .i64 0] by have := Bx.new (w.alloc (.cells #[.int .i64 0, .int .i64 0, .int .i64 0, .int .i64 0, .int .i64 0, .int .i64 0] 49)) [.int .i64 3, .int .i64 0, .int .i64 m, .int .i64 u, .int .i64 (-1), .int .i64 0] 49; simpa using this)
 have hb := hide (bl_alloc (bl_new w (.cells #[.int .i64 0, .int .i64 0, .int .i64 0, .int .i64 0, .int .i64 0, .int .i64 0] 49)) (.cells #[.int .i64 3, .int .i64 0, .int .i64 m, .int .i64 u, .int .i64 (-1), .int .i64 0] 49))
 generalize (w.alloc (.cells #[.int .i64 0, .int .i64 0, .int .i64 0, .int .i64 0, .int .i64 0, .int .i64 0] 49)).alloc (.cells #[.int .i64 3, .int .i64 0, .int .i64 m, .int .i64 u, .int .i64 (-1), .int .i64 0] 49) = W0 at *
 obtain ⟨x0, x1, x2, x3, x4, x5⟩ := cells6 bD.out
 have g5 := bD.out.fr 5
 go_upto_region 25 with fail
 clear x0 x1 x2 x3 x4 x5 g5
 replace bD := hide (show Bx (W0.setCell ⟨w.heap.size + 1, 5, none⟩ (.int .i64 7200)) (w.heap.size + 1) [.int .i64 3, .int .i64 0, .int .i64 m, .int .i64 u, .int .i64 (-1), .int .i64 7200] from bD.out.set 5 (.int .i64 7200) (by simp))
 replace bR := hide (show Bx (W0.setCell ⟨w.heap.size + 1, 5, none⟩ (.int .i64 7200)) w.heap.size [.int .i64 0, .int .i64 0, .int .i64 0, .int .i64 0, .int .i64 0, .int .i64 0] from bR.out.set_ne 5 (show w.heap.size + 1 ≠ w.heap.size by omega) (.int .i64 7200))
 replace hb := hide (show Below w.heap.size w (W0.setCell ⟨w.heap.size + 1, 5, none⟩ (.int .i64 7200)) from bl_set hb.out (show w.heap.size ≤ w.heap.size + 1 by omega) (.int .i64 7200))
 generalize W0.setCell ⟨w.heap.size + 1, 5, none⟩ (.int .i64 7200) = u1 at *
 obtain ⟨x0, x1, x2, x3, x4, x5⟩ := cells6 bD.out
 have g5 := bD.out.fr 5
 go_upto_region 31 with fail
 clear x0 x1 x2 x3 x4 x5 g5
 obtain ⟨y0, y1, y2, y3, y4, y5⟩ := cells6 (bR.out.store6 (a := .int .i64 0) (b := .int .i64 0) (c := .int .i64 0) (d := .int .i64 0) (e := .int .i64 0) (f := .int .i64 0))
 obtain ⟨f0, f1, f2, f3, f4, f5⟩ := And.intro (bR.out.fr 0) (And.intro (bR.out.fr 1) (And.intro (bR.out.fr 2) (And.intro (bR.out.fr 3) (And.intro (bR.out.fr 4) (bR.out.fr 5)))))
 obtain ⟨z0, z1, z2, z3, z4, z5⟩ := cells6 bR.out
 go_wp2
 refine bodyPost_ret (v := .tuple #[vday rd0, .int .i64 0, .bool false]) (by simp [results, Tryz.results82, go_sem, vday, rd0, y0, y1, y2, y3, y4, y5]) rfl ⟨rfl, bl_set6 hb.out (Nat.le_refl _)⟩
theorem Day_M (s : ByteArray) (w : World) (hs : s.size ≤ 1000000) (R : Value) (h0 : 0 < s.size) (h77 : (s[0].toNat : Int) = 77) (m : Int) (i : Nat) (hi1 : i ≤ s.size) (N1 : ∀ w, Calls Tryz.prog 113 #[.string s, .int .i64 1] w fun e w' => e = .returned (.tuple #[.int .i64 m, .int .i64 (i : Nat)]) ∧ w = w') (hvm0 : 0 ≤ m) (hvm1 : m ≤ 999) (hi : i < s.size) (hi46 : (s[i].toNat : Int) = 46) (u : Int) (j : Nat) (hj1 : j ≤ s.size) (N2 : ∀ w, Calls Tryz.prog 113 #[.string s, .int .i64 ((i : Int) + 1)] w fun e w' => e = .returned (.tuple #[.int .i64 u, .int .i64 (j : Nat)]) ∧ w = w') (hvu0 : 0 ≤ u) (hvu1 : u ≤ 999) (hj : j < s.size) (hj46 : (s[j].toNat : Int) = 46) (v : Int) (n : Nat) (N3 : ∀ w, Calls Tryz.prog 113 #[.string s, .int .i64 ((j : Int) + 1)] w fun e w' => e = .returned (.tuple #[.int .i64 v, .int .i64 (n : Nat)]) ∧ w = w') (hn : n ≤ s.size) (hv : 0 ≤ v) (hv1 : v ≤ 999) (hTl : Tl s n 3 0 m u v R) :
 Calls Tryz.prog 82 #[.string s] w fun e w' => e = .returned R ∧ Below w.heap.size w w' := by
 replace hTl := hide hTl
 replace N1 := hide N1
 replace N2 := hide N2
 replace N3 := hide N3
 go_enter Tryz.func82, Tryz.ntmps82
 go_upto_region 24 with (first | (go_at_call 113; with_reducible refine (N1.out _).mono ?_; rintro e w' ⟨rfl, rfl⟩) | (go_at_call 113; with_reducible refine (N2.out _).mono ?_; rintro e w' ⟨rfl, rfl⟩) | (go_at_call 113; with_reducible refine (N3.out _).mono ?_; rintro e w' ⟨rfl, rfl⟩))
 have bR := hide (show Bx ((w.alloc (.cells #[.int .i64 0, .int .i64 0, .int .i64 0, .int .i64 0, .int .i64 0, .int .i64 0] 49)).alloc (.cells #[.int .i64 3, .int .i64 0, .int .i64 m, .int .i64 u, .int .i64 v, .int .i64 0] 49)) w.heap.size [.int .i64 0, .int .i64 0, .int .i64 0, .int .i64 0, .int .i64 0, .int .i64 0] from (Bx.new w [.int .i64 0, .int .i64 0, .int .i64 0, .int .i64 0, .int .i64 0, .int .i64 0] _).alloc _)
 have bD := hide (show Bx ((w.alloc (.cells #[.int .i64 0, .int .i64 0, .int .i64 0, .int .i64 0, .int .i64 0, .int .i64 0] 49)).alloc (.cells #[.int .i64 3, .int .i64 0, .int .i64 m, .int .i64 u, .int .i64 v, .int .i64 0] 49)) (w.heap.size + 1) [.int .i64 3, .int .i64 0, .int .i64 m, .int .i64 u, .int .i64 v, .int .i64 0] by have := Bx.new (w.alloc (.cells #[.int .i64 0, .int .i64 0, .int .i64 0, .int .i64 0, .int .i64 0, .int .i64 0] 49)) [.int .i64 3, .int .i64 0, .int .i64 m, .int .i64 u, .int .i64 v, .int .i64 0] 49; simpa using this)
 have hb := hide (bl_alloc (bl_new w (.cells #[.int .i64 0, .int .i64 0, .int .i64 0, .int .i64 0, .int .i64 0, .int .i64 0] 49)) (.cells #[.int .i64 3, .int .i64 0, .int .i64 m, .int .i64 u, .int .i64 v, .int .i64 0] 49))
 generalize (w.alloc (.cells #[.int .i64 0, .int .i64 0, .int .i64 0, .int .i64 0, .int .i64 0, .int .i64 0] 49)).alloc (.cells #[.int .i64 3, .int .i64 0, .int .i64 m, .int .i64 u, .int .i64 v, .int .i64 0] 49) = W0 at *
 obtain ⟨x0, x1, x2, x3, x4, x5⟩ := cells6 bD.out
 have g5 := bD.out.fr 5
 go_upto_region 25 with fail
 clear x0 x1 x2 x3 x4 x5 g5
 replace bD := hide (show Bx (W0.setCell ⟨w.heap.size + 1, 5, none⟩ (.int .i64 7200)) (w.heap.size + 1) [.int .i64 3, .int .i64 0, .int .i64 m, .int .i64 u, .int .i64 v, .int .i64 7200] from bD.out.set 5 (.int .i64 7200) (by simp))
 replace bR := hide (show Bx (W0.setCell ⟨w.heap.size + 1, 5, none⟩ (.int .i64 7200)) w.heap.size [.int .i64 0, .int .i64 0, .int .i64 0, .int .i64 0, .int .i64 0, .int .i64 0] from bR.out.set_ne 5 (show w.heap.size + 1 ≠ w.heap.size by omega) (.int .i64 7200))
 replace hb := hide (show Below w.heap.size w (W0.setCell ⟨w.heap.size + 1, 5, none⟩ (.int .i64 7200)) from bl_set hb.out (show w.heap.size ≤ w.heap.size + 1 by omega) (.int .i64 7200))
 generalize W0.setCell ⟨w.heap.size + 1, 5, none⟩ (.int .i64 7200) = u1 at *
 rcases hTl.out with ⟨b, hend, hdb, hR⟩ | ⟨hn, h47, ⟨hms, hR⟩ | ⟨tv, k, b, hk, hms, hdb, hR⟩⟩
 ·replace hdb := hide hdb
  replace hR := hide hR
  have Vd := hide (show ∀ w : World, Calls Tryz.prog 114 #[vrd 3 0 m u v 7200] w fun e w' => e = .returned (.bool b) ∧ Below w.heap.size w w' from fun w => by rw [← hdb.out]; exact r6_.Valid 3 0 m u v 7200 w)
  unfold vrd at Vd
  clear hdb hTl
  rcases hend with hend | ⟨hn, x, hx, hx0, hx1, hx2⟩
  ·obtain ⟨x0, x1, x2, x3, x4, x5⟩ := cells6 bD.out
   have g5 := bD.out.fr 5
   go_wp2_with fail
   clear x0 x1 x2 x3 x4 x5 g5
   refine (Vd.out _).mono ?_
   rintro e u8 ⟨rfl, h1⟩
   replace bD := hide (bD.out.below h1)
   replace bR := hide (bR.out.below h1)
   replace hb := hide (bel_next hb.out h1)
   clear h1
   cases b
   ·go_upto_region 31 with fail
    obtain ⟨y0, y1, y2, y3, y4, y5⟩ := cells6 (bR.out.store6 (a := .int .i64 0) (b := .int .i64 0) (c := .int .i64 0) (d := .int .i64 0) (e := .int .i64 0) (f := .int .i64 0))
    obtain ⟨f0, f1, f2, f3, f4, f5⟩ := And.intro (bR.out.fr 0) (And.intro (bR.out.fr 1) (And.intro (bR.out.fr 2) (And.intro (bR.out.fr 3) (And.intro (bR.out.fr 4) (bR.out.fr 5)))))
    obtain ⟨z0, z1, z2, z3, z4, z5⟩ := cells6 bR.out
    go_wp2
    refine bodyPost_ret (v := .tuple #[vday rd0, .int .i64 0, .bool false]) (by simp [results, Tryz.results82, go_sem, vday, rd0, y0, y1, y2, y3, y4, y5]) rfl ⟨by rw [hR.out]; rfl, bl_set6 hb.out (Nat.le_refl _)⟩
   ·obtain ⟨x0, x1, x2, x3, x4, x5⟩ := cells6 bD.out
    obtain ⟨y0, y1, y2, y3, y4, y5⟩ := cells6 (bR.out.store6 (a := .int .i64 3) (b := .int .i64 0) (c := .int .i64 m) (d := .int .i64 u) (e := .int .i64 v) (f := .int .i64 7200))
    obtain ⟨f0, f1, f2, f3, f4, f5⟩ := And.intro (bR.out.fr 0) (And.intro (bR.out.fr 1) (And.intro (bR.out.fr 2) (And.intro (bR.out.fr 3) (And.intro (bR.out.fr 4) (bR.out.fr 5)))))
    obtain ⟨z0, z1, z2, z3, z4, z5⟩ := cells6 bR.out
    go_wp2
    refine bodyPost_ret (v := .tuple #[vday (3, 0, m, u, v, 7200), .int .i64 n, .bool true]) (by simp [results, Tryz.results82, go_sem, vday, y0, y1, y2, y3, y4, y5]) rfl ⟨by rw [hR.out]; rfl, bl_set6 hb.out (Nat.le_refl _)⟩
  ·obtain ⟨x0, x1, x2, x3, x4, x5⟩ := cells6 bD.out
   have g5 := bD.out.fr 5
   go_wp2_with fail
   clear x0 x1 x2 x3 x4 x5 g5
   refine (Vd.out _).mono ?_
   rintro e u8 ⟨rfl, h1⟩
   replace bD := hide (bD.out.below h1)
   replace bR := hide (bR.out.below h1)
   replace hb := hide (bel_next hb.out h1)
   clear h1
   cases b
   ·go_upto_region 31 with fail
    obtain ⟨y0, y1, y2, y3, y4, y5⟩ := cells6 (bR.out.store6 (a := .int .i64 0) (b := .int .i64 0) (c := .int .i64 0) (d := .int .i64 0) (e := .int .i64 0) (f := .int .i64 0))
    obtain ⟨f0, f1, f2, f3, f4, f5⟩ := And.intro (bR.out.fr 0) (And.intro (bR.out.fr 1) (And.intro (bR.out.fr 2) (And.intro (bR.out.fr 3) (And.intro (bR.out.fr 4) (bR.out.fr 5)))))
    obtain ⟨z0, z1, z2, z3, z4, z5⟩ := cells6 bR.out
    go_wp2
    refine bodyPost_ret (v := .tuple #[vday rd0, .int .i64 0, .bool false]) (by simp [results, Tryz.results82, go_sem, vday, rd0, y0, y1, y2, y3, y4, y5]) rfl ⟨by rw [hR.out]; rfl, bl_set6 hb.out (Nat.le_refl _)⟩
   ·obtain ⟨x0, x1, x2, x3, x4, x5⟩ := cells6 bD.out
    obtain ⟨y0, y1, y2, y3, y4, y5⟩ := cells6 (bR.out.store6 (a := .int .i64 3) (b := .int .i64 0) (c := .int .i64 m) (d := .int .i64 u) (e := .int .i64 v) (f := .int .i64 7200))
    obtain ⟨f0, f1, f2, f3, f4, f5⟩ := And.intro (bR.out.fr 0) (And.intro (bR.out.fr 1) (And.intro (bR.out.fr 2) (And.intro (bR.out.fr 3) (And.intro (bR.out.fr 4) (bR.out.fr 5)))))
    obtain ⟨z0, z1, z2, z3, z4, z5⟩ := cells6 bR.out
    go_wp2
    refine bodyPost_ret (v := .tuple #[vday (3, 0, m, u, v, 7200), .int .i64 n, .bool true]) (by simp [results, Tryz.results82, go_sem, vday, y0, y1, y2, y3, y4, y5]) rfl ⟨by rw [hR.out]; rfl, bl_set6 hb.out (Nat.le_refl _)⟩
 ·clear hTl
  replace hR := hide hR
  obtain ⟨x0, x1, x2, x3, x4, x5⟩ := cells6 bD.out
  have g5 := bD.out.fr 5
  go_wp2_with fail
  clear x0 x1 x2 x3 x4 x5 g5
  refine (r8_.Parse _ _ (by rw [ByteArray.size_extract]; omega)).mono ?_
  rintro e u2 ⟨rfl, h1⟩
  replace bD := hide (bD.out.below h1)
  replace bR := hide (bR.out.below h1)
  replace hb := hide (bel_next hb.out h1)
  clear h1
  rw [hms]
  simp only [hmsRes]
  obtain ⟨x0, x1, x2, x3, x4, x5⟩ := cells6 bD.out
  have g5 := bD.out.fr 5
  go_upto_region 28 with fail
  clear x0 x1 x2 x3 x4 x5 g5
  replace bD := hide (show Bx (u2.setCell ⟨w.heap.size + 1, 5, none⟩ (.int .i64 0)) (w.heap.size + 1) [.int .i64 3, .int .i64 0, .int .i64 m, .int .i64 u, .int .i64 v, .int .i64 0] from bD.out.set 5 (.int .i64 0) (by simp))
  replace bR := hide (show Bx (u2.setCell ⟨w.heap.size + 1, 5, none⟩ (.int .i64 0)) w.heap.size [.int .i64 0, .int .i64 0, .int .i64 0, .int .i64 0, .int .i64 0, .int .i64 0] from bR.out.set_ne 5 (show w.heap.size + 1 ≠ w.heap.size by omega) (.int .i64 0))
  replace hb := hide (show Below w.heap.size w (u2.setCell ⟨w.heap.size + 1, 5, none⟩ (.int .i64 0)) from bl_set hb.out (show w.heap.size ≤ w.heap.size + 1 by omega) (.int .i64 0))
  generalize u2.setCell ⟨w.heap.size + 1, 5, none⟩ (.int .i64 0) = u3 at *
  obtain ⟨x0, x1, x2, x3, x4, x5⟩ := cells6 bD.out
  have g5 := bD.out.fr 5
  go_upto_region 31 with fail
  clear x0 x1 x2 x3 x4 x5 g5
  obtain ⟨y0, y1, y2, y3, y4, y5⟩ := cells6 (bR.out.store6 (a := .int .i64 0) (b := .int .i64 0) (c := .int .i64 0) (d := .int .i64 0) (e := .int .i64 0) (f := .int .i64 0))
  obtain ⟨f0, f1, f2, f3, f4, f5⟩ := And.intro (bR.out.fr 0) (And.intro (bR.out.fr 1) (And.intro (bR.out.fr 2) (And.intro (bR.out.fr 3) (And.intro (bR.out.fr 4) (bR.out.fr 5)))))
  obtain ⟨z0, z1, z2, z3, z4, z5⟩ := cells6 bR.out
  go_wp2
  refine bodyPost_ret (v := .tuple #[vday rd0, .int .i64 0, .bool false]) (by simp [results, Tryz.results82, go_sem, vday, rd0, y0, y1, y2, y3, y4, y5]) rfl ⟨by rw [hR.out], bl_set6 hb.out (Nat.le_refl _)⟩
 ·replace hdb := hide hdb
  replace hR := hide hR
  have Vd := hide (show ∀ w : World, Calls Tryz.prog 114 #[vrd 3 0 m u v tv] w fun e w' => e = .returned (.bool b) ∧ Below w.heap.size w w' from fun w => by rw [← hdb.out]; exact r6_.Valid 3 0 m u v tv w)
  unfold vrd at Vd
  clear hdb hTl
  obtain ⟨x0, x1, x2, x3, x4, x5⟩ := cells6 bD.out
  have g5 := bD.out.fr 5
  go_wp2_with fail
  clear x0 x1 x2 x3 x4 x5 g5
  refine (r8_.Parse _ _ (by rw [ByteArray.size_extract]; omega)).mono ?_
  rintro e u2 ⟨rfl, h1⟩
  replace bD := hide (bD.out.below h1)
  replace bR := hide (bR.out.below h1)
  replace hb := hide (bel_next hb.out h1)
  clear h1
  rw [hms]
  simp only [hmsRes]
  obtain ⟨x0, x1, x2, x3, x4, x5⟩ := cells6 bD.out
  have g5 := bD.out.fr 5
  go_upto_region 28 with fail
  clear x0 x1 x2 x3 x4 x5 g5
  replace bD := hide (show Bx (u2.setCell ⟨w.heap.size + 1, 5, none⟩ (.int .i64 tv)) (w.heap.size + 1) [.int .i64 3, .int .i64 0, .int .i64 m, .int .i64 u, .int .i64 v, .int .i64 tv] from bD.out.set 5 (.int .i64 tv) (by simp))
  replace bR := hide (show Bx (u2.setCell ⟨w.heap.size + 1, 5, none⟩ (.int .i64 tv)) w.heap.size [.int .i64 0, .int .i64 0, .int .i64 0, .int .i64 0, .int .i64 0, .int .i64 0] from bR.out.set_ne 5 (show w.heap.size + 1 ≠ w.heap.size by omega) (.int .i64 tv))
  replace hb := hide (show Below w.heap.size w (u2.setCell ⟨w.heap.size + 1, 5, none⟩ (.int .i64 tv)) from bl_set hb.out (show w.heap.size ≤ w.heap.size + 1 by omega) (.int .i64 tv))
  generalize u2.setCell ⟨w.heap.size + 1, 5, none⟩ (.int .i64 tv) = u3 at *
  obtain ⟨x0, x1, x2, x3, x4, x5⟩ := cells6 bD.out
  have g5 := bD.out.fr 5
  go_wp2_with fail
  clear x0 x1 x2 x3 x4 x5 g5
  refine (Vd.out _).mono ?_
  rintro e u8 ⟨rfl, h1⟩
  replace bD := hide (bD.out.below h1)
  replace bR := hide (bR.out.below h1)
  replace hb := hide (bel_next hb.out h1)
  clear h1
  cases b
  ·go_upto_region 31 with fail
   obtain ⟨y0, y1, y2, y3, y4, y5⟩ := cells6 (bR.out.store6 (a := .int .i64 0) (b := .int .i64 0) (c := .int .i64 0) (d := .int .i64 0) (e := .int .i64 0) (f := .int .i64 0))
   obtain ⟨f0, f1, f2, f3, f4, f5⟩ := And.intro (bR.out.fr 0) (And.intro (bR.out.fr 1) (And.intro (bR.out.fr 2) (And.intro (bR.out.fr 3) (And.intro (bR.out.fr 4) (bR.out.fr 5)))))
   obtain ⟨z0, z1, z2, z3, z4, z5⟩ := cells6 bR.out
   go_wp2
   refine bodyPost_ret (v := .tuple #[vday rd0, .int .i64 0, .bool false]) (by simp [results, Tryz.results82, go_sem, vday, rd0, y0, y1, y2, y3, y4, y5]) rfl ⟨by rw [hR.out]; rfl, bl_set6 hb.out (Nat.le_refl _)⟩
  ·obtain ⟨x0, x1, x2, x3, x4, x5⟩ := cells6 bD.out
   obtain ⟨y0, y1, y2, y3, y4, y5⟩ := cells6 (bR.out.store6 (a := .int .i64 3) (b := .int .i64 0) (c := .int .i64 m) (d := .int .i64 u) (e := .int .i64 v) (f := .int .i64 tv))
   obtain ⟨f0, f1, f2, f3, f4, f5⟩ := And.intro (bR.out.fr 0) (And.intro (bR.out.fr 1) (And.intro (bR.out.fr 2) (And.intro (bR.out.fr 3) (And.intro (bR.out.fr 4) (bR.out.fr 5)))))
   obtain ⟨z0, z1, z2, z3, z4, z5⟩ := cells6 bR.out
   go_wp2
   refine bodyPost_ret (v := .tuple #[vday (3, 0, m, u, v, tv), .int .i64 ((n + 1 + k : Nat) : Int), .bool true]) (by simp [results, Tryz.results82, go_sem, vday, y0, y1, y2, y3, y4, y5]) rfl ⟨by rw [hR.out]; rfl, bl_set6 hb.out (Nat.le_refl _)⟩
end r9_
end Go.Proofs.YtbehflfpdkedgaaGreatDoor

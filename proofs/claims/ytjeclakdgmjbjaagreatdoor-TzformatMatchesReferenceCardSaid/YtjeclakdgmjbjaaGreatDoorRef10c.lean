/-
  CONTRACTS of zoneinforef10 (the reference of layer 10): Canonical, Extended. One condition on Canonical: at most 1000000 bytes.
-/
import Derived.Test.YtjeclakdgmjbjaaGreatDoorRef10f
import Derived.Test.YtjeclakdgmjbjaaGreatDoorRef9h
namespace Go.Proofs.YtjeclakdgmjbjaaGreatDoor
open Go.ChangeShapes Go.WideShapes Go.ChangeAt Go.RowKit
set_option linter.unusedVariables false
/-- what Canonical answers. -/
def canR (r : Except Nat PR) : Value :=
  match r with
  | .error _ => .tuple #[.string ⟨#[]⟩, .bool false]
  | .ok r => .tuple #[.string (mkS (ruleF r)), .bool true]
/-- a time that asks for version 3. -/
def lateD (d : RD) : Bool := decide (d.2.2.2.2.2 < 0 ∨ 86400 < d.2.2.2.2.2)
namespace r10_
set_option maxRecDepth 100000 in
set_option maxHeartbeats 4000000 in
theorem Canonical (s : ByteArray) (w : World) (hs : s.size ≤ 1000000) : Calls Tryz.prog 10 #[.string s] w fun e w' => e = .returned (canR (ptParse (byt s))) ∧ Below w.heap.size w w' := by
  have P := hide (fun w => r9_.Parse s w hs)
  rcases hr : ptParse (byt s) with a | r
  · rw [hr] at P
    simp only [ptRes, vrule_c] at P
    have G := gr_rule ⟨#[]⟩ 0 false ⟨#[]⟩ 0 rd0 rd0
    generalize crule ⟨#[]⟩ 0 false ⟨#[]⟩ 0 rd0 rd0 = cs at *
    clear hr
    go_enter Tryz.func10, Tryz.ntmps10
    go_wp2_with fail
    refine (P.out _).mono ?_
    rintro e w1 ⟨rfl, h1⟩
    have hb := hide (bl_alloc h1 (.cells cs 25))
    clear h1
    go_wp2_with (first | (refine wpList_store_row rfl 25 _ _ rfl _ _ rfl rfl _ _ (heap_alloc_last _ _) G.1 (by rw [G.2.1]; rfl) G.2.2 ?_; rw [World.setRow_alloc_new]))
    go_ret2
    exact ⟨rfl, hb.out⟩
  · have hok := ptParse_ok hr
    rw [hr] at P
    have F := hide (fun w => Format (mkS r.1) r.2.1 r.2.2.1 (mkS r.2.2.2.1) r.2.2.2.2.1 r.2.2.2.2.2.1 r.2.2.2.2.2.2 w (by rw [byt_mk, byt_mk]; exact hok))
    rw [byt_mk, byt_mk] at F
    simp only [ptRes, vrule_c] at P F
    have G := gr_rule (mkS r.1) r.2.1 r.2.2.1 (mkS r.2.2.2.1) r.2.2.2.2.1 r.2.2.2.2.2.1 r.2.2.2.2.2.2
    generalize crule (mkS r.1) r.2.1 r.2.2.1 (mkS r.2.2.2.1) r.2.2.2.2.1 r.2.2.2.2.2.1 r.2.2.2.2.2.2 = cs at *
    clear hr hok
    obtain ⟨S, hS⟩ : ∃ S, S = mkS (ruleF r) := ⟨_, rfl⟩
    rw [show canR (.ok r) = .tuple #[.string S, .bool true] by rw [hS]; rfl]
    rw [show mkS (ruleF (r.1, r.2.1, r.2.2.1, r.2.2.2.1, r.2.2.2.2.1, r.2.2.2.2.2.1, r.2.2.2.2.2.2)) = S from hS.symm] at F
    clear hS
    go_enter Tryz.func10, Tryz.ntmps10
    go_wp2_with fail
    refine (P.out _).mono ?_
    rintro e w1 ⟨rfl, h1⟩
    have hb := hide (bl_alloc h1 (.cells cs 25))
    have b1 := hide (Ro.new w1 cs 25)
    clear h1
    go_wp2_with (first | (refine wpList_store_row rfl 25 _ _ rfl _ _ rfl rfl _ _ (heap_alloc_last _ _) G.1 (by rw [G.2.1]; rfl) G.2.2 ?_; rw [World.setRow_alloc_new]) | (refine load_row_g (by rfl) 25 _ rfl _ rfl _ _ _ b1.out Tryz.underlying25 rfl G.1 ?_))
    refine (F.out _).mono ?_
    rintro e w2 ⟨rfl, h1⟩
    replace hb := hide (bel_next hb.out h1)
    clear h1 b1
    go_wp2
    go_ret2
    exact ⟨rfl, hb.out⟩
set_option maxRecDepth 100000 in
set_option maxHeartbeats 4000000 in
theorem Extended (std : ByteArray) (so : Int) (hd : Bool) (dst : ByteArray) (dof : Int) (st en : RD) (w : World) :
    Calls Tryz.prog 18 #[vrule std so hd dst dof st en] w fun e w' => e = .returned (.bool (hd && (lateD st || lateD en))) ∧ Below w.heap.size w w' := by
  have LS := hide (fun w => late st w)
  have LE := hide (fun w => late en w)
  unfold vrule
  unfold vday at LS LE
  obtain ⟨a, ha⟩ : ∃ a, lateD st = a := ⟨_, rfl⟩
  obtain ⟨b, hbb⟩ : ∃ b, lateD en = b := ⟨_, rfl⟩
  unfold lateD at ha hbb
  rw [ha] at LS
  rw [hbb] at LE
  have hres := hide (show (hd && (lateD st || lateD en)) = (hd && (a || b)) by unfold lateD; rw [ha, hbb])
  rw [hres.out]
  clear ha hbb hres
  cases hd
  · go_enter Tryz.func18, Tryz.ntmps18
    go_wp2
    go_ret
    exact ⟨rfl, bl_new _ _⟩
  · have hb := hide (bl_new w (.cells #[.string std, .int .i64 so, .bool true, .string dst, .int .i64 dof, .int .i64 st.1, .int .i64 st.2.1, .int .i64 st.2.2.1, .int .i64 st.2.2.2.1, .int .i64 st.2.2.2.2.1, .int .i64 st.2.2.2.2.2, .int .i64 en.1, .int .i64 en.2.1, .int .i64 en.2.2.1, .int .i64 en.2.2.2.1, .int .i64 en.2.2.2.2.1, .int .i64 en.2.2.2.2.2] 25))
    have hB := hide (Ro.new w #[.string std, .int .i64 so, .bool true, .string dst, .int .i64 dof, .int .i64 st.1, .int .i64 st.2.1, .int .i64 st.2.2.1, .int .i64 st.2.2.2.1, .int .i64 st.2.2.2.2.1, .int .i64 st.2.2.2.2.2, .int .i64 en.1, .int .i64 en.2.1, .int .i64 en.2.2.1, .int .i64 en.2.2.2.1, .int .i64 en.2.2.2.2.1, .int .i64 en.2.2.2.2.2] 25)
    go_enter Tryz.func18, Tryz.ntmps18
    go_wp2_with fail
    refine (LS.out _).mono ?_
    rintro e w1 ⟨rfl, h1⟩
    replace hB := hide (hB.out.below h1)
    replace hb := hide (bel_next hb.out h1)
    clear h1
    cases a
    · obtain ⟨x11, _⟩ := ro_cf hB.out 11 _ rfl; obtain ⟨x12, _⟩ := ro_cf hB.out 12 _ rfl; obtain ⟨x13, _⟩ := ro_cf hB.out 13 _ rfl; obtain ⟨x14, _⟩ := ro_cf hB.out 14 _ rfl; obtain ⟨x15, _⟩ := ro_cf hB.out 15 _ rfl; obtain ⟨x16, _⟩ := ro_cf hB.out 16 _ rfl
      go_wp2_with fail
      refine (LE.out _).mono ?_
      rintro e w2 ⟨rfl, h1⟩
      replace hb := hide (bel_next hb.out h1)
      clear h1
      go_wp2
      go_ret
      exact ⟨rfl, hb.out⟩
    · go_wp2
      go_ret
      exact ⟨rfl, hb.out⟩
end r10_
end Go.Proofs.YtjeclakdgmjbjaaGreatDoor

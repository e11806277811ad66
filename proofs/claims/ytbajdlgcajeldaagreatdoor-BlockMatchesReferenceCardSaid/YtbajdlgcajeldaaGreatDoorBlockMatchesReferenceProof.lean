/-
  The statement Rows.BlockMatchesReferenceCardSaid: for every input the law BlockMatchesReference of zoneinfolaw19 returns true and leaves its arguments as they read before. Conditions: none beside the row's own: the listed package-level tables start as the program's text lays them, and the card ties them to that text.
-/
import Derived.Test.YtbajdlgcajeldaaGreatDoorRows
import Derived.Test.YtbajdlgcajeldaaGreatDoorCards
import Derived.Test.YtbajdlgcajeldaaGreatDoorTie
import Derived.Test.YtbajdlgcajeldaaGreatDoorLaw19a
import Derived.Test.YtbajdlgcajeldaaGreatDoorBkO
import Derived.WalkKit
import Derived.ProofKit
import Derived.OpenShut
import Derived.ShutString
import Derived.ChangeOld
import Derived.Below
import Derived.Lib.SmallJoins
import Derived.LaidMore
import Derived.Stop.Joined
import Derived.SevenTiedAt
import Derived.Lay
import Derived.MakeChecks
namespace Go.Proofs.YtbajdlgcajeldaaGreatDoor.blockMatchesReference
open Go.ChangeShapes Go.WideShapes Go.ChangeAt Go.RowKit
open Go.ChangeMaps (open_string shut_string)
set_option linter.unusedVariables false

theorem own : ownKnob Tryz.prog.godebug = none := by kernel_rfl
theorem laidOut : laidOutB Tryz.prog = true := by kernel_rfl
theorem arr4 {cs : Array Value} (h : cs.size = 4) : ∃ c0 c1 c2 c3, cs = #[c0, c1, c2, c3] := by
  obtain ⟨l⟩ := cs
  match l, h with
  | [c0, c1, c2, c3], _ => exact ⟨c0, c1, c2, c3, rfl⟩
theorem arr7 {cs : Array Value} (h : cs.size = 7) : ∃ c0 c1 c2 c3 c4 c5 c6, cs = #[c0, c1, c2, c3, c4, c5, c6] := by
  obtain ⟨l⟩ := cs
  match l, h with
  | [c0, c1, c2, c3, c4, c5, c6], _ => exact ⟨c0, c1, c2, c3, c4, c5, c6, rfl⟩
section
variable {H : Type} {enc : TypeId × Value → H} {P : Program} {w : World} {base : Nat} {held : Bool}
theorem open_rwv {t e : TypeId} {k : IntKind} {fuel : Nat} {v : Value} {x : DataW H × List MemPlace} (ht : P.underlying t = some (.slice e)) (he : P.underlying e = some (.int k)) (hC : P.cellsOf e = 1)
    (h : DataW.trod enc P w base (fun _ => true) held fuel t [v] = some x) : ∃ a len cap zs, v = .slice a len cap ∧ IsRw k w a len cap zs := by
  rcases open_ints ht he hC h with ⟨hcs, _⟩ | ⟨x, l, c, zs, hcs, _, hl, hm, hz, _, hcell, hwz⟩
  · simp at hcs
    exact ⟨none, 0, 0, [], hcs, .inl ⟨rfl, rfl, rfl, rfl⟩⟩
  · simp at hcs
    exact ⟨_, _, _, zs, hcs, .inr ⟨_, rfl, hl, hm, by simpa using hz, hcell, hwz⟩⟩
theorem open_rw {t e : TypeId} {k : IntKind} {fuel : Nat} {a : Option Addr} {len cap : Nat} {x : DataW H × List MemPlace} (ht : P.underlying t = some (.slice e)) (he : P.underlying e = some (.int k)) (hC : P.cellsOf e = 1)
    (h : DataW.trod enc P w base (fun _ => true) held fuel t [.slice a len cap] = some x) : ∃ zs, IsRw k w a len cap zs := by
  obtain ⟨_, _, _, zs, hv, hz⟩ := open_rwv ht he hC h
  cases hv
  exact ⟨zs, hz⟩
end

/-- the door's own heap meets the condition. -/
theorem door_met (os : Os) (args : Array Value) : laidMetH Tryz.prog Rows.blockMatchesReferenceRow.laid ((World.doorLaid Tryz.prog 21 os).forCall (fun _ _ => 0) ⟨#[], args, []⟩).memory :=
  laidMetH_of_parts3 (fuel := 8) (laidMet_of_run' 8 (by kernel_rfl) (by kernel_rfl)) (by kernel_rfl) (by kernel_rfl)

set_option maxRecDepth 100000 in
theorem lifted (os : Os) (started : os.Started) (H : Type) (enc : TypeId × Value → H) :
    ReturnsInHanded {} Tryz.checked os 3 .any (fun w args => (Rows.blockMatchesReferenceSpec.pre enc Tryz.prog Tryz.f3 [] false w args ∧ laidMetH Tryz.prog Rows.blockMatchesReferenceRow.laid w) ∧ sizedMet enc Tryz.prog Tryz.f3 (OpenSpec.ofChange Rows.blockMatchesReferenceSpec) false w args) (Rows.blockMatchesReferenceSpec.post enc Tryz.prog Tryz.f3 false true false false) := by
  refine returnsInHanded_of_change_and (C := Tryz.checked) (X := fun w _ => laidMetH Tryz.prog Rows.blockMatchesReferenceRow.laid w) (fun _ _ _ hh h => h.of_heap hh) own started (by kernel_rfl) Tryz.func3
    (ChangeSpec.witness_shaped (enc := enc) (C := Tryz.checked) (os := os) (X := fun w _ => laidMetH Tryz.prog Rows.blockMatchesReferenceRow.laid w) false (World.doorLaid Tryz.prog 21 os) #[.agg #[.slice none 0 0, .int .i64 0, .int .i64 0, .int .i64 0], .agg #[.int .i64 0, .int .u32 0, .int .u32 0, .int .u32 0, .int .u32 0, .int .u32 0, .int .u32 0], .agg #[.slice none 0 0, .slice none 0 0, .slice none 0 0, .slice none 0 0, .slice none 0 0, .slice none 0 0, .slice none 0 0], .bool false, .int .i64 0] 8 rfl (World.shaped_of_RefB (by kernel_rfl) (by kernel_rfl)) (by kernel_rfl) (by kernel_rfl) (by kernel_rfl) (door_met os _)) ?_
  intro W base args ds gs before hval0 hW _ _ hL _
  have hval : ∀ (j : Nat) t v, Tryz.f3.params[j]? = some t → args[j]? = some v → Value.okWide Tryz.prog W .any base t v := hval0
  have hW' := hW
  obtain ⟨p, q, hA0, hV, rfl, hfz, hnd⟩ := hW
  have hA : DataW.TrodAll enc Tryz.prog W 0 (fun _ => true) true Tryz.f3.params.toList args.toList ds p := hA0
  rw [Tryz.params3] at hA hval
  obtain ⟨v0, vs0, d0, ds0, p0, q0, hargs, rfl, rfl, h0, r0⟩ := trodAll_cons hA
  obtain ⟨v1, vs1, d1, ds1, p1, q1, rfl, rfl, rfl, h1, r1⟩ := trodAll_cons r0
  obtain ⟨v2, vs2, d2, ds2, p2, q2, rfl, rfl, rfl, h2, r2⟩ := trodAll_cons r1
  obtain ⟨v3, vs3, d3, ds3, p3, q3, rfl, rfl, rfl, h3, r3⟩ := trodAll_cons r2
  obtain ⟨v4, vs4, d4, ds4, p4, q4, rfl, rfl, rfl, h4, r4⟩ := trodAll_cons r3
  obtain ⟨rfl, rfl, rfl⟩ := trodAll_nil r4
  obtain rfl : args = #[v0, v1, v2, v3, v4] := by cases args; simp_all
  obtain ⟨rfl, rfl⟩ := trodVars_none hV
  have k0 := h0
  have lt0 : ∀ x ∈ p0, x.block < W.heap.size := by obtain ⟨m, hm⟩ := k0; exact DataW.trod_lt m _ _ _ hm
  obtain ⟨cs0, rfl, hsz0⟩ := okWide_struct Tryz.underlying25 (hval 0 25 v0 rfl rfl)
  obtain ⟨c0_0, c0_1, c0_2, c0_3, rfl⟩ := arr4 (hsz0.trans (by kernel_rfl))
  obtain ⟨fu0, hf0⟩ := h0
  obtain ⟨xs0, n0, _, _, _, hl0, hx0⟩ := DataW.trod_struct Tryz.underlying25 (show DataW.trod enc Tryz.prog W 0 (fun _ => true) true _ 25 [c0_0, c0_1, c0_2, c0_3] = some _ from hf0)
  simp at hl0
  obtain ⟨y0_0, ey0_0⟩ : ∃ y, xs0[0]? = some y := ⟨_, List.getElem?_eq_getElem (by omega)⟩
  have g0_0 : DataW.trod enc Tryz.prog W 0 (fun _ => true) true n0 22 [c0_0] = some y0_0 := by rw [← ey0_0]; exact hx0 0 _ rfl
  obtain ⟨a0_0, len0_0, cap0_0, z0_0, e0_0, w0_0⟩ := open_rwv Tryz.underlying22 Tryz.underlying5 (by kernel_rfl) g0_0
  subst e0_0
  obtain ⟨y0_1, ey0_1⟩ : ∃ y, xs0[1]? = some y := ⟨_, List.getElem?_eq_getElem (by omega)⟩
  have g0_1 : DataW.trod enc Tryz.prog W 0 (fun _ => true) true n0 3 [c0_1] = some y0_1 := by rw [← ey0_1]; exact hx0 1 _ rfl
  obtain ⟨a0_1, e0_1, rfl, w0_1⟩ := DataW.trod_int Tryz.underlying3 g0_1
  simp at e0_1
  subst e0_1
  obtain ⟨y0_2, ey0_2⟩ : ∃ y, xs0[2]? = some y := ⟨_, List.getElem?_eq_getElem (by omega)⟩
  have g0_2 : DataW.trod enc Tryz.prog W 0 (fun _ => true) true n0 23 [c0_2] = some y0_2 := by rw [← ey0_2]; exact hx0 2 _ rfl
  obtain ⟨a0_2, e0_2, rfl, w0_2⟩ := DataW.trod_int Tryz.underlying23 g0_2
  simp at e0_2
  subst e0_2
  obtain ⟨y0_3, ey0_3⟩ : ∃ y, xs0[3]? = some y := ⟨_, List.getElem?_eq_getElem (by omega)⟩
  have g0_3 : DataW.trod enc Tryz.prog W 0 (fun _ => true) true n0 3 [c0_3] = some y0_3 := by rw [← ey0_3]; exact hx0 3 _ rfl
  obtain ⟨a0_3, e0_3, rfl, w0_3⟩ := DataW.trod_int Tryz.underlying3 g0_3
  simp at e0_3
  subst e0_3
  have k1 := h1
  have lt1 : ∀ x ∈ p1, x.block < W.heap.size := by obtain ⟨m, hm⟩ := k1; exact DataW.trod_lt m _ _ _ hm
  obtain ⟨cs1, rfl, hsz1⟩ := okWide_struct Tryz.underlying28 (hval 1 28 v1 rfl rfl)
  obtain ⟨c1_0, c1_1, c1_2, c1_3, c1_4, c1_5, c1_6, rfl⟩ := arr7 (hsz1.trans (by kernel_rfl))
  obtain ⟨fu1, hf1⟩ := h1
  obtain ⟨xs1, n1, _, _, _, hl1, hx1⟩ := DataW.trod_struct Tryz.underlying28 (show DataW.trod enc Tryz.prog W 0 (fun _ => true) true _ 28 [c1_0, c1_1, c1_2, c1_3, c1_4, c1_5, c1_6] = some _ from hf1)
  simp at hl1
  obtain ⟨y1_0, ey1_0⟩ : ∃ y, xs1[0]? = some y := ⟨_, List.getElem?_eq_getElem (by omega)⟩
  have g1_0 : DataW.trod enc Tryz.prog W 0 (fun _ => true) true n1 3 [c1_0] = some y1_0 := by rw [← ey1_0]; exact hx1 0 _ rfl
  obtain ⟨a1_0, e1_0, rfl, w1_0⟩ := DataW.trod_int Tryz.underlying3 g1_0
  simp at e1_0
  subst e1_0
  obtain ⟨y1_1, ey1_1⟩ : ∃ y, xs1[1]? = some y := ⟨_, List.getElem?_eq_getElem (by omega)⟩
  have g1_1 : DataW.trod enc Tryz.prog W 0 (fun _ => true) true n1 26 [c1_1] = some y1_1 := by rw [← ey1_1]; exact hx1 1 _ rfl
  obtain ⟨a1_1, e1_1, rfl, w1_1⟩ := DataW.trod_int Tryz.underlying26 g1_1
  simp at e1_1
  subst e1_1
  obtain ⟨y1_2, ey1_2⟩ : ∃ y, xs1[2]? = some y := ⟨_, List.getElem?_eq_getElem (by omega)⟩
  have g1_2 : DataW.trod enc Tryz.prog W 0 (fun _ => true) true n1 26 [c1_2] = some y1_2 := by rw [← ey1_2]; exact hx1 2 _ rfl
  obtain ⟨a1_2, e1_2, rfl, w1_2⟩ := DataW.trod_int Tryz.underlying26 g1_2
  simp at e1_2
  subst e1_2
  obtain ⟨y1_3, ey1_3⟩ : ∃ y, xs1[3]? = some y := ⟨_, List.getElem?_eq_getElem (by omega)⟩
  have g1_3 : DataW.trod enc Tryz.prog W 0 (fun _ => true) true n1 26 [c1_3] = some y1_3 := by rw [← ey1_3]; exact hx1 3 _ rfl
  obtain ⟨a1_3, e1_3, rfl, w1_3⟩ := DataW.trod_int Tryz.underlying26 g1_3
  simp at e1_3
  subst e1_3
  obtain ⟨y1_4, ey1_4⟩ : ∃ y, xs1[4]? = some y := ⟨_, List.getElem?_eq_getElem (by omega)⟩
  have g1_4 : DataW.trod enc Tryz.prog W 0 (fun _ => true) true n1 26 [c1_4] = some y1_4 := by rw [← ey1_4]; exact hx1 4 _ rfl
  obtain ⟨a1_4, e1_4, rfl, w1_4⟩ := DataW.trod_int Tryz.underlying26 g1_4
  simp at e1_4
  subst e1_4
  obtain ⟨y1_5, ey1_5⟩ : ∃ y, xs1[5]? = some y := ⟨_, List.getElem?_eq_getElem (by omega)⟩
  have g1_5 : DataW.trod enc Tryz.prog W 0 (fun _ => true) true n1 26 [c1_5] = some y1_5 := by rw [← ey1_5]; exact hx1 5 _ rfl
  obtain ⟨a1_5, e1_5, rfl, w1_5⟩ := DataW.trod_int Tryz.underlying26 g1_5
  simp at e1_5
  subst e1_5
  obtain ⟨y1_6, ey1_6⟩ : ∃ y, xs1[6]? = some y := ⟨_, List.getElem?_eq_getElem (by omega)⟩
  have g1_6 : DataW.trod enc Tryz.prog W 0 (fun _ => true) true n1 26 [c1_6] = some y1_6 := by rw [← ey1_6]; exact hx1 6 _ rfl
  obtain ⟨a1_6, e1_6, rfl, w1_6⟩ := DataW.trod_int Tryz.underlying26 g1_6
  simp at e1_6
  subst e1_6
  have k2 := h2
  have lt2 : ∀ x ∈ p2, x.block < W.heap.size := by obtain ⟨m, hm⟩ := k2; exact DataW.trod_lt m _ _ _ hm
  obtain ⟨cs2, rfl, hsz2⟩ := okWide_struct Tryz.underlying34 (hval 2 34 v2 rfl rfl)
  obtain ⟨c2_0, c2_1, c2_2, c2_3, c2_4, c2_5, c2_6, rfl⟩ := arr7 (hsz2.trans (by kernel_rfl))
  obtain ⟨fu2, hf2⟩ := h2
  obtain ⟨S2, B2, rfl, rfl, rfl, rfl, rfl, rfl, rfl, w2⟩ := open_bk hf2
  have k3 := h3
  have lt3 : ∀ x ∈ p3, x.block < W.heap.size := by obtain ⟨m, hm⟩ := k3; exact DataW.trod_lt m _ _ _ hm
  obtain ⟨a3, rfl, rfl, rfl⟩ := open_bool Tryz.underlying4 (hval 3 4 v3 rfl rfl) h3
  have k4 := h4
  have lt4 : ∀ x ∈ p4, x.block < W.heap.size := by obtain ⟨m, hm⟩ := k4; exact DataW.trod_lt m _ _ _ hm
  obtain ⟨a4, rfl, rfl, rfl, w4⟩ := open_int Tryz.underlying3 (hval 4 3 v4 rfl rfl) h4
  clear hA0 hval0
  refine (show Calls Tryz.prog 3 #[.agg #[.slice a0_0 len0_0 cap0_0, .int .i64 a0_1, .int .i64 a0_2, .int .i64 a0_3], .agg #[.int .i64 a1_0, .int .u32 a1_1, .int .u32 a1_2, .int .u32 a1_3, .int .u32 a1_4, .int .u32 a1_5, .int .u32 a1_6], .agg #[.slice S2.ti.A S2.ti.n S2.ti.c, .slice S2.ix.A S2.ix.n S2.ix.c, .slice S2.ty.A S2.ty.n S2.ty.c, .slice S2.ch.A S2.ch.n S2.ch.c, .slice S2.lp.A S2.lp.n S2.lp.c, .slice S2.sd.A S2.sd.n S2.sd.c, .slice S2.ut.A S2.ut.n S2.ut.c], .bool a3, .int .i64 a4] W fun e w' => e = .returned (.bool true) ∧ Below W.heap.size W w' from l19_.mref a0_0 len0_0 cap0_0 z0_0 a0_1 a0_2 a0_3 a1_0 a1_1 a1_2 a1_3 a1_4 a1_5 a1_6 S2 B2 a3 a4 W (tq_of hL) w0_0 w0_1 w0_2 w0_3 w1_0 w1_1 w1_2 w1_3 w1_4 w1_5 w1_6 w2 w4).mono fun e W' ⟨he, bel⟩ => ?_
  subst he
  exact ⟨_, rfl, _, _, _, [], _, [], hW', trodAll_mk1 (shut_bool Tryz.underlying4 _), (trodAll_cons_mk (Below.trod laidOut (by kernel_rfl) (of_decide_eq_true (by kernel_rfl)) k0 bel lt0) (trodAll_cons_mk (Below.trod laidOut (by kernel_rfl) (of_decide_eq_true (by kernel_rfl)) k1 bel lt1) (trodAll_cons_mk (Below.trod laidOut (by kernel_rfl) (of_decide_eq_true (by kernel_rfl)) k2 bel lt2) (trodAll_cons_mk (Below.trod laidOut (by kernel_rfl) (of_decide_eq_true (by kernel_rfl)) k3 bel lt3) (trodAll_cons_mk (Below.trod laidOut (by kernel_rfl) (of_decide_eq_true (by kernel_rfl)) k4 bel lt4) trodAll_mk0))))), rfl, bel.frame _, fun h => by cases h⟩

theorem over : Rows.blockMatchesReferenceRow.holds Tryz.pinned (OpenSpec.ofChange Rows.blockMatchesReferenceSpec) :=
  OpenClaim.holds_of_wide 3 Tryz.f3 rfl rfl rfl rfl rfl rfl rfl ⟨rfl, rfl, rfl, rfl, rfl⟩ rfl rfl rfl rfl rfl (by kernel_rfl) Tryz.func3 (by kernel_rfl)
    (of_decide_eq_true (by kernel_rfl)) (by unfold Func.isWrapper; first | (rw [if_pos (by decide +kernel)]; kernel_rfl) | (rw [if_neg (by decide +kernel)]; exact ⟨rfl, rfl⟩))
    (fun os started H enc _ => lifted os started H enc)

theorem proved : Rows.BlockMatchesReferenceCardSaid :=
  Claim7.holds_tied_plain_at .later [] [.data, .handle] true (true, "5ee21e3dca32e144ac31749f3db6adfd3bde3e72f7344f0ec818f6a38cad4e67") true
    over (fun _ h => by cases h) (by kernel_rfl) (fun _ h => by cases h) Go.Proofs.YtbajdlgcajeldaaGreatDoor.blockMatchesReference_row_tie rfl ⟨rfl, rfl⟩ (by kernel_rfl) rfl
    (fun f fn hf hfn => by
      obtain rfl : f = 3 := Option.some.inj ((show Tryz.prog.funcNamed "zoneinfo/zoneinfolaw19.BlockMatchesReference" = some 3 by kernel_rfl).symm.trans hf) |>.symm
      obtain rfl : fn = Tryz.f3 := (Option.some.inj (Tryz.func3.symm.trans hfn)).symm
      exact ⟨by kernel_rfl, fun j t ht => by
        rw [Tryz.params3] at ht
        have hm : t ∈ [25, 28, 34, 4, 3] := by simpa using Array.mem_of_getElem? ht
        have hall : ([25, 28, 34, 4, 3].all fun u => !Tryz.prog.wantsStandIn u) = true := by kernel_rfl
        exact (show Tryz.prog.wantsStandIn t = false by simpa using List.all_eq_true.1 hall t hm)⟩)
    (by kernel_rfl)
#print axioms proved
end Go.Proofs.YtbajdlgcajeldaaGreatDoor.blockMatchesReference

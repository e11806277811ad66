/-
  The statement Rows.PosixtzPartsCardSaid: for every input the law PosixtzParts of zoneinfolaw09 returns true and leaves its arguments as they read before. Conditions: none beside the row's own: the listed package-level tables start as the program's text lays them, and the card ties them to that text.
-/
import Derived.Test.YtjjmkbofddbnnaaGreatDoorRows
import Derived.Test.YtjjmkbofddbnnaaGreatDoorCards
import Derived.Test.YtjjmkbofddbnnaaGreatDoorTie
import Derived.Test.YtjjmkbofddbnnaaGreatDoorLaw9c
import Derived.WalkKit
import Derived.ProofKit
import Derived.OpenShut
import Derived.ShutString
import Derived.ChangeOld
import Derived.Below
import Derived.Lib.SmallJoins
import Derived.LaidMore
import Derived.Stop.Joined
import Derived.SevenTiedAt
import Derived.Lay
import Derived.MakeChecks
namespace Go.Proofs.YtjjmkbofddbnnaaGreatDoor.posixtzParts
open Go.ChangeShapes Go.WideShapes Go.ChangeAt Go.RowKit
open Go.ChangeMaps (open_string shut_string)
set_option linter.unusedVariables false

theorem own : ownKnob Tryz.prog.godebug = none := by kernel_rfl
theorem laidOut : laidOutB Tryz.prog = true := by kernel_rfl
theorem arr6 {cs : Array Value} (h : cs.size = 6) : ∃ c0 c1 c2 c3 c4 c5, cs = #[c0, c1, c2, c3, c4, c5] := by
  obtain ⟨l⟩ := cs
  match l, h with
  | [c0, c1, c2, c3, c4, c5], _ => exact ⟨c0, c1, c2, c3, c4, c5, rfl⟩
section
variable {H : Type} {enc : TypeId × Value → H} {P : Program} {w : World} {base : Nat} {held : Bool}
theorem open_rwv {t e : TypeId} {k : IntKind} {fuel : Nat} {v : Value} {x : DataW H × List MemPlace} (ht : P.underlying t = some (.slice e)) (he : P.underlying e = some (.int k)) (hC : P.cellsOf e = 1)
    (h : DataW.trod enc P w base (fun _ => true) held fuel t [v] = some x) : ∃ a len cap zs, v = .slice a len cap ∧ IsRw k w a len cap zs := by
  rcases open_ints ht he hC h with ⟨hcs, _⟩ | ⟨x, l, c, zs, hcs, _, hl, hm, hz, _, hcell, hwz⟩
  · simp at hcs
    exact ⟨none, 0, 0, [], hcs, .inl ⟨rfl, rfl, rfl, rfl⟩⟩
  · simp at hcs
    exact ⟨_, _, _, zs, hcs, .inr ⟨_, rfl, hl, hm, by simpa using hz, hcell, hwz⟩⟩
theorem open_rw {t e : TypeId} {k : IntKind} {fuel : Nat} {a : Option Addr} {len cap : Nat} {x : DataW H × List MemPlace} (ht : P.underlying t = some (.slice e)) (he : P.underlying e = some (.int k)) (hC : P.cellsOf e = 1)
    (h : DataW.trod enc P w base (fun _ => true) held fuel t [.slice a len cap] = some x) : ∃ zs, IsRw k w a len cap zs := by
  obtain ⟨_, _, _, zs, hv, hz⟩ := open_rwv ht he hC h
  cases hv
  exact ⟨zs, hz⟩
end

set_option maxRecDepth 100000 in
theorem lifted (os : Os) (started : os.Started) (H : Type) (enc : TypeId × Value → H) :
    ReturnsInHanded {} Tryz.checked os 3 .any (fun w args => (Rows.posixtzPartsSpec.pre enc Tryz.prog Tryz.f3 [] false w args ∧ laidMetH Tryz.prog Rows.posixtzPartsRow.laid w) ∧ sizedMet enc Tryz.prog Tryz.f3 (OpenSpec.ofChange Rows.posixtzPartsSpec) false w args) (Rows.posixtzPartsSpec.post enc Tryz.prog Tryz.f3 false true false false) := by
  refine returnsInHanded_of_change_and (C := Tryz.checked) (X := fun w _ => laidMetH Tryz.prog Rows.posixtzPartsRow.laid w) (fun _ _ _ hh h => h.of_heap hh) own started (by kernel_rfl) Tryz.func3
    (ChangeSpec.witness_shaped (enc := enc) (C := Tryz.checked) (os := os) (X := fun w _ => laidMetH Tryz.prog Rows.posixtzPartsRow.laid w) false (World.laidAll Tryz.prog os Rows.posixtzPartsRow.laid) #[.string ⟨#[]⟩, .string ⟨#[]⟩, .int .i64 0, .int .i64 0, .agg #[.int .i64 0, .int .i64 0, .int .i64 0, .int .i64 0, .int .i64 0, .int .i64 0], .agg #[.int .i64 0, .int .i64 0, .int .i64 0, .int .i64 0, .int .i64 0, .int .i64 0]] 8 (World.laidAll_os _ _ _)
      (World.shaped_of_ZipB (by kernel_rfl) (by kernel_rfl)) (by kernel_rfl) (by kernel_rfl) (by kernel_rfl)
      (by rw [MakeChecks.laidMetH_plain _ _ _ (by kernel_rfl)]; exact laidMet_laidAll _ (by kernel_rfl) (by kernel_rfl))) ?_
  intro W base args ds gs before hval0 hW _ _ hL _
  have hval : ∀ (j : Nat) t v, Tryz.f3.params[j]? = some t → args[j]? = some v → Value.okWide Tryz.prog W .any base t v := hval0
  have hW' := hW
  obtain ⟨p, q, hA0, hV, rfl, hfz, hnd⟩ := hW
  have hA : DataW.TrodAll enc Tryz.prog W 0 (fun _ => true) true Tryz.f3.params.toList args.toList ds p := hA0
  rw [Tryz.params3] at hA hval
  obtain ⟨v0, vs0, d0, ds0, p0, q0, hargs, rfl, rfl, h0, r0⟩ := trodAll_cons hA
  obtain ⟨v1, vs1, d1, ds1, p1, q1, rfl, rfl, rfl, h1, r1⟩ := trodAll_cons r0
  obtain ⟨v2, vs2, d2, ds2, p2, q2, rfl, rfl, rfl, h2, r2⟩ := trodAll_cons r1
  obtain ⟨v3, vs3, d3, ds3, p3, q3, rfl, rfl, rfl, h3, r3⟩ := trodAll_cons r2
  obtain ⟨v4, vs4, d4, ds4, p4, q4, rfl, rfl, rfl, h4, r4⟩ := trodAll_cons r3
  obtain ⟨v5, vs5, d5, ds5, p5, q5, rfl, rfl, rfl, h5, r5⟩ := trodAll_cons r4
  obtain ⟨rfl, rfl, rfl⟩ := trodAll_nil r5
  obtain rfl : args = #[v0, v1, v2, v3, v4, v5] := by cases args; simp_all
  obtain ⟨rfl, rfl⟩ := trodVars_none hV
  have k0 := h0
  have lt0 : ∀ x ∈ p0, x.block < W.heap.size := by obtain ⟨m, hm⟩ := k0; exact DataW.trod_lt m _ _ _ hm
  obtain ⟨a0, rfl, rfl, rfl, w0⟩ := open_string Tryz.underlying9 (hval 0 9 v0 rfl rfl) h0
  have k1 := h1
  have lt1 : ∀ x ∈ p1, x.block < W.heap.size := by obtain ⟨m, hm⟩ := k1; exact DataW.trod_lt m _ _ _ hm
  obtain ⟨a1, rfl, rfl, rfl, w1⟩ := open_string Tryz.underlying9 (hval 1 9 v1 rfl rfl) h1
  have k2 := h2
  have lt2 : ∀ x ∈ p2, x.block < W.heap.size := by obtain ⟨m, hm⟩ := k2; exact DataW.trod_lt m _ _ _ hm
  obtain ⟨a2, rfl, rfl, rfl, w2⟩ := open_int Tryz.underlying3 (hval 2 3 v2 rfl rfl) h2
  have k3 := h3
  have lt3 : ∀ x ∈ p3, x.block < W.heap.size := by obtain ⟨m, hm⟩ := k3; exact DataW.trod_lt m _ _ _ hm
  obtain ⟨a3, rfl, rfl, rfl, w3⟩ := open_int Tryz.underlying3 (hval 3 3 v3 rfl rfl) h3
  have k4 := h4
  have lt4 : ∀ x ∈ p4, x.block < W.heap.size := by obtain ⟨m, hm⟩ := k4; exact DataW.trod_lt m _ _ _ hm
  obtain ⟨cs4, rfl, hsz4⟩ := okWide_struct Tryz.underlying23 (hval 4 23 v4 rfl rfl)
  obtain ⟨c4_0, c4_1, c4_2, c4_3, c4_4, c4_5, rfl⟩ := arr6 (hsz4.trans (by kernel_rfl))
  obtain ⟨fu4, hf4⟩ := h4
  obtain ⟨xs4, n4, _, _, _, hl4, hx4⟩ := DataW.trod_struct Tryz.underlying23 (show DataW.trod enc Tryz.prog W 0 (fun _ => true) true _ 23 [c4_0, c4_1, c4_2, c4_3, c4_4, c4_5] = some _ from hf4)
  simp at hl4
  obtain ⟨y4_0, ey4_0⟩ : ∃ y, xs4[0]? = some y := ⟨_, List.getElem?_eq_getElem (by omega)⟩
  have g4_0 : DataW.trod enc Tryz.prog W 0 (fun _ => true) true n4 3 [c4_0] = some y4_0 := by rw [← ey4_0]; exact hx4 0 _ rfl
  obtain ⟨a4_0, e4_0, rfl, w4_0⟩ := DataW.trod_int Tryz.underlying3 g4_0
  simp at e4_0
  subst e4_0
  obtain ⟨y4_1, ey4_1⟩ : ∃ y, xs4[1]? = some y := ⟨_, List.getElem?_eq_getElem (by omega)⟩
  have g4_1 : DataW.trod enc Tryz.prog W 0 (fun _ => true) true n4 3 [c4_1] = some y4_1 := by rw [← ey4_1]; exact hx4 1 _ rfl
  obtain ⟨a4_1, e4_1, rfl, w4_1⟩ := DataW.trod_int Tryz.underlying3 g4_1
  simp at e4_1
  subst e4_1
  obtain ⟨y4_2, ey4_2⟩ : ∃ y, xs4[2]? = some y := ⟨_, List.getElem?_eq_getElem (by omega)⟩
  have g4_2 : DataW.trod enc Tryz.prog W 0 (fun _ => true) true n4 3 [c4_2] = some y4_2 := by rw [← ey4_2]; exact hx4 2 _ rfl
  obtain ⟨a4_2, e4_2, rfl, w4_2⟩ := DataW.trod_int Tryz.underlying3 g4_2
  simp at e4_2
  subst e4_2
  obtain ⟨y4_3, ey4_3⟩ : ∃ y, xs4[3]? = some y := ⟨_, List.getElem?_eq_getElem (by omega)⟩
  have g4_3 : DataW.trod enc Tryz.prog W 0 (fun _ => true) true n4 3 [c4_3] = some y4_3 := by rw [← ey4_3]; exact hx4 3 _ rfl
  obtain ⟨a4_3, e4_3, rfl, w4_3⟩ := DataW.trod_int Tryz.underlying3 g4_3
  simp at e4_3
  subst e4_3
  obtain ⟨y4_4, ey4_4⟩ : ∃ y, xs4[4]? = some y := ⟨_, List.getElem?_eq_getElem (by omega)⟩
  have g4_4 : DataW.trod enc Tryz.prog W 0 (fun _ => true) true n4 3 [c4_4] = some y4_4 := by rw [← ey4_4]; exact hx4 4 _ rfl
  obtain ⟨a4_4, e4_4, rfl, w4_4⟩ := DataW.trod_int Tryz.underlying3 g4_4
  simp at e4_4
  subst e4_4
  obtain ⟨y4_5, ey4_5⟩ : ∃ y, xs4[5]? = some y := ⟨_, List.getElem?_eq_getElem (by omega)⟩
  have g4_5 : DataW.trod enc Tryz.prog W 0 (fun _ => true) true n4 3 [c4_5] = some y4_5 := by rw [← ey4_5]; exact hx4 5 _ rfl
  obtain ⟨a4_5, e4_5, rfl, w4_5⟩ := DataW.trod_int Tryz.underlying3 g4_5
  simp at e4_5
  subst e4_5
  have k5 := h5
  have lt5 : ∀ x ∈ p5, x.block < W.heap.size := by obtain ⟨m, hm⟩ := k5; exact DataW.trod_lt m _ _ _ hm
  obtain ⟨cs5, rfl, hsz5⟩ := okWide_struct Tryz.underlying23 (hval 5 23 v5 rfl rfl)
  obtain ⟨c5_0, c5_1, c5_2, c5_3, c5_4, c5_5, rfl⟩ := arr6 (hsz5.trans (by kernel_rfl))
  obtain ⟨fu5, hf5⟩ := h5
  obtain ⟨xs5, n5, _, _, _, hl5, hx5⟩ := DataW.trod_struct Tryz.underlying23 (show DataW.trod enc Tryz.prog W 0 (fun _ => true) true _ 23 [c5_0, c5_1, c5_2, c5_3, c5_4, c5_5] = some _ from hf5)
  simp at hl5
  obtain ⟨y5_0, ey5_0⟩ : ∃ y, xs5[0]? = some y := ⟨_, List.getElem?_eq_getElem (by omega)⟩
  have g5_0 : DataW.trod enc Tryz.prog W 0 (fun _ => true) true n5 3 [c5_0] = some y5_0 := by rw [← ey5_0]; exact hx5 0 _ rfl
  obtain ⟨a5_0, e5_0, rfl, w5_0⟩ := DataW.trod_int Tryz.underlying3 g5_0
  simp at e5_0
  subst e5_0
  obtain ⟨y5_1, ey5_1⟩ : ∃ y, xs5[1]? = some y := ⟨_, List.getElem?_eq_getElem (by omega)⟩
  have g5_1 : DataW.trod enc Tryz.prog W 0 (fun _ => true) true n5 3 [c5_1] = some y5_1 := by rw [← ey5_1]; exact hx5 1 _ rfl
  obtain ⟨a5_1, e5_1, rfl, w5_1⟩ := DataW.trod_int Tryz.underlying3 g5_1
  simp at e5_1
  subst e5_1
  obtain ⟨y5_2, ey5_2⟩ : ∃ y, xs5[2]? = some y := ⟨_, List.getElem?_eq_getElem (by omega)⟩
  have g5_2 : DataW.trod enc Tryz.prog W 0 (fun _ => true) true n5 3 [c5_2] = some y5_2 := by rw [← ey5_2]; exact hx5 2 _ rfl
  obtain ⟨a5_2, e5_2, rfl, w5_2⟩ := DataW.trod_int Tryz.underlying3 g5_2
  simp at e5_2
  subst e5_2
  obtain ⟨y5_3, ey5_3⟩ : ∃ y, xs5[3]? = some y := ⟨_, List.getElem?_eq_getElem (by omega)⟩
  have g5_3 : DataW.trod enc Tryz.prog W 0 (fun _ => true) true n5 3 [c5_3] = some y5_3 := by rw [← ey5_3]; exact hx5 3 _ rfl
  obtain ⟨a5_3, e5_3, rfl, w5_3⟩ := DataW.trod_int Tryz.underlying3 g5_3
  simp at e5_3
  subst e5_3
  obtain ⟨y5_4, ey5_4⟩ : ∃ y, xs5[4]? = some y := ⟨_, List.getElem?_eq_getElem (by omega)⟩
  have g5_4 : DataW.trod enc Tryz.prog W 0 (fun _ => true) true n5 3 [c5_4] = some y5_4 := by rw [← ey5_4]; exact hx5 4 _ rfl
  obtain ⟨a5_4, e5_4, rfl, w5_4⟩ := DataW.trod_int Tryz.underlying3 g5_4
  simp at e5_4
  subst e5_4
  obtain ⟨y5_5, ey5_5⟩ : ∃ y, xs5[5]? = some y := ⟨_, List.getElem?_eq_getElem (by omega)⟩
  have g5_5 : DataW.trod enc Tryz.prog W 0 (fun _ => true) true n5 3 [c5_5] = some y5_5 := by rw [← ey5_5]; exact hx5 5 _ rfl
  obtain ⟨a5_5, e5_5, rfl, w5_5⟩ := DataW.trod_int Tryz.underlying3 g5_5
  simp at e5_5
  subst e5_5
  clear hA0 hval0
  refine (show Calls Tryz.prog 3 #[.string a0, .string a1, .int .i64 a2, .int .i64 a3, .agg #[.int .i64 a4_0, .int .i64 a4_1, .int .i64 a4_2, .int .i64 a4_3, .int .i64 a4_4, .int .i64 a4_5], .agg #[.int .i64 a5_0, .int .i64 a5_1, .int .i64 a5_2, .int .i64 a5_3, .int .i64 a5_4, .int .i64 a5_5]] W fun e w' => e = .returned (.bool true) ∧ Below W.heap.size W w' from l9_.parts a0 a1 a2 a3 a4_0 a4_1 a4_2 a4_3 a4_4 a4_5 a5_0 a5_1 a5_2 a5_3 a5_4 a5_5 W  w0 w1 w2 w3 w4_0 w4_1 w4_2 w4_3 w4_4 w4_5 w5_0 w5_1 w5_2 w5_3 w5_4 w5_5).mono fun e W' ⟨he, bel⟩ => ?_
  subst he
  exact ⟨_, rfl, _, _, _, [], _, [], hW', trodAll_mk1 (shut_bool Tryz.underlying4 _), (trodAll_cons_mk (Below.trod laidOut (by kernel_rfl) (of_decide_eq_true (by kernel_rfl)) k0 bel lt0) (trodAll_cons_mk (Below.trod laidOut (by kernel_rfl) (of_decide_eq_true (by kernel_rfl)) k1 bel lt1) (trodAll_cons_mk (Below.trod laidOut (by kernel_rfl) (of_decide_eq_true (by kernel_rfl)) k2 bel lt2) (trodAll_cons_mk (Below.trod laidOut (by kernel_rfl) (of_decide_eq_true (by kernel_rfl)) k3 bel lt3) (trodAll_cons_mk (Below.trod laidOut (by kernel_rfl) (of_decide_eq_true (by kernel_rfl)) k4 bel lt4) (trodAll_cons_mk (Below.trod laidOut (by kernel_rfl) (of_decide_eq_true (by kernel_rfl)) k5 bel lt5) trodAll_mk0)))))), rfl, bel.frame _, fun h => by cases h⟩

theorem over : Rows.posixtzPartsRow.holds Tryz.pinned (OpenSpec.ofChange Rows.posixtzPartsSpec) :=
  OpenClaim.holds_of_wide 3 Tryz.f3 rfl rfl rfl rfl rfl rfl rfl ⟨rfl, rfl, rfl, rfl, rfl⟩ rfl rfl rfl rfl rfl (by kernel_rfl) Tryz.func3 (by kernel_rfl)
    (of_decide_eq_true (by kernel_rfl)) (by unfold Func.isWrapper; first | (rw [if_pos (by decide +kernel)]; kernel_rfl) | (rw [if_neg (by decide +kernel)]; exact ⟨rfl, rfl⟩))
    (fun os started H enc _ => lifted os started H enc)

theorem proved : Rows.PosixtzPartsCardSaid :=
  Claim7.holds_tied_plain_at .later [] [.data, .data, .data, .data, .sentinel, .sentinel, .pinned] true (true, "d26b05d1273d133620931d1bc1aeb35ac24517c8fcd7e3a5089e046e4bae419d") true
    over (fun _ h => by cases h) (by kernel_rfl) (fun _ h => by cases h) Go.Proofs.YtjjmkbofddbnnaaGreatDoor.posixtzParts_row_tie rfl ⟨rfl, rfl⟩ (by kernel_rfl) rfl
    (fun f fn hf hfn => by
      obtain rfl : f = 3 := Option.some.inj ((show Tryz.prog.funcNamed "zoneinfo/zoneinfolaw09.PosixtzParts" = some 3 by kernel_rfl).symm.trans hf) |>.symm
      obtain rfl : fn = Tryz.f3 := (Option.some.inj (Tryz.func3.symm.trans hfn)).symm
      exact ⟨by kernel_rfl, fun j t ht => by
        rw [Tryz.params3] at ht
        have hm : t ∈ [9, 9, 3, 3, 23, 23] := by simpa using Array.mem_of_getElem? ht
        have hall : ([9, 9, 3, 3, 23, 23].all fun u => !Tryz.prog.wantsStandIn u) = true := by kernel_rfl
        exact (show Tryz.prog.wantsStandIn t = false by simpa using List.all_eq_true.1 hall t hm)⟩)
    (by kernel_rfl)
#print axioms proved
end Go.Proofs.YtjjmkbofddbnnaaGreatDoor.posixtzParts

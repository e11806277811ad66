/-
  The statement Rows.TzevalNamesCardSaid: for every input the law TzevalNames of zoneinfolaw11 returns true and leaves its arguments as they read before. Conditions: none beside the row's own: the listed package-level tables start as the program's text lays them, and the card ties them to that text.
-/
import Derived.Test.YtdhogpcoegfopaaGreatDoorRows
import Derived.Test.YtdhogpcoegfopaaGreatDoorCards
import Derived.Test.YtdhogpcoegfopaaGreatDoorTie
import Derived.Test.YtdhogpcoegfopaaGreatDoorLaw11e
import Derived.WalkKit
import Derived.ProofKit
import Derived.OpenShut
import Derived.ShutString
import Derived.ChangeOld
import Derived.Below
import Derived.Lib.SmallJoins
import Derived.LaidMore
import Derived.Stop.Joined
import Derived.SevenTiedAt
import Derived.Lay
import Derived.MakeChecks
namespace Go.Proofs.YtdhogpcoegfopaaGreatDoor.tzevalNames
open Go.ChangeShapes Go.WideShapes Go.ChangeAt Go.RowKit
open Go.ChangeMaps (open_string shut_string)
set_option linter.unusedVariables false

theorem own : ownKnob Tryz.prog.godebug = none := by kernel_rfl
theorem laidOut : laidOutB Tryz.prog = true := by kernel_rfl
theorem arr17 {cs : Array Value} (h : cs.size = 17) : ∃ c0 c1 c2 c3 c4 c5 c6 c7 c8 c9 c10 c11 c12 c13 c14 c15 c16, cs = #[c0, c1, c2, c3, c4, c5, c6, c7, c8, c9, c10, c11, c12, c13, c14, c15, c16] := by
  obtain ⟨l⟩ := cs
  match l, h with
  | [c0, c1, c2, c3, c4, c5, c6, c7, c8, c9, c10, c11, c12, c13, c14, c15, c16], _ => exact ⟨c0, c1, c2, c3, c4, c5, c6, c7, c8, c9, c10, c11, c12, c13, c14, c15, c16, rfl⟩
section
variable {H : Type} {enc : TypeId × Value → H} {P : Program} {w : World} {base : Nat} {held : Bool}
theorem open_rwv {t e : TypeId} {k : IntKind} {fuel : Nat} {v : Value} {x : DataW H × List MemPlace} (ht : P.underlying t = some (.slice e)) (he : P.underlying e = some (.int k)) (hC : P.cellsOf e = 1)
    (h : DataW.trod enc P w base (fun _ => true) held fuel t [v] = some x) : ∃ a len cap zs, v = .slice a len cap ∧ IsRw k w a len cap zs := by
  rcases open_ints ht he hC h with ⟨hcs, _⟩ | ⟨x, l, c, zs, hcs, _, hl, hm, hz, _, hcell, hwz⟩
  · simp at hcs
    exact ⟨none, 0, 0, [], hcs, .inl ⟨rfl, rfl, rfl, rfl⟩⟩
  · simp at hcs
    exact ⟨_, _, _, zs, hcs, .inr ⟨_, rfl, hl, hm, by simpa using hz, hcell, hwz⟩⟩
theorem open_rw {t e : TypeId} {k : IntKind} {fuel : Nat} {a : Option Addr} {len cap : Nat} {x : DataW H × List MemPlace} (ht : P.underlying t = some (.slice e)) (he : P.underlying e = some (.int k)) (hC : P.cellsOf e = 1)
    (h : DataW.trod enc P w base (fun _ => true) held fuel t [.slice a len cap] = some x) : ∃ zs, IsRw k w a len cap zs := by
  obtain ⟨_, _, _, zs, hv, hz⟩ := open_rwv ht he hC h
  cases hv
  exact ⟨zs, hz⟩
end

set_option maxRecDepth 100000 in
theorem lifted (os : Os) (started : os.Started) (H : Type) (enc : TypeId × Value → H) :
    ReturnsInHanded {} Tryz.checked os 7 .any (fun w args => (Rows.tzevalNamesSpec.pre enc Tryz.prog Tryz.f7 [] false w args ∧ laidMetH Tryz.prog Rows.tzevalNamesRow.laid w) ∧ sizedMet enc Tryz.prog Tryz.f7 (OpenSpec.ofChange Rows.tzevalNamesSpec) false w args) (Rows.tzevalNamesSpec.post enc Tryz.prog Tryz.f7 false true false false) := by
  refine returnsInHanded_of_change_and (C := Tryz.checked) (X := fun w _ => laidMetH Tryz.prog Rows.tzevalNamesRow.laid w) (fun _ _ _ hh h => h.of_heap hh) own started (by kernel_rfl) Tryz.func7
    (ChangeSpec.witness_shaped (enc := enc) (C := Tryz.checked) (os := os) (X := fun w _ => laidMetH Tryz.prog Rows.tzevalNamesRow.laid w) false (World.laidAll Tryz.prog os Rows.tzevalNamesRow.laid) #[.agg #[.string ⟨#[]⟩, .int .i64 0, .bool false, .string ⟨#[]⟩, .int .i64 0, .int .i64 0, .int .i64 0, .int .i64 0, .int .i64 0, .int .i64 0, .int .i64 0, .int .i64 0, .int .i64 0, .int .i64 0, .int .i64 0, .int .i64 0, .int .i64 0], .int .i64 0, .string ⟨#[]⟩, .string ⟨#[]⟩] 8 (World.laidAll_os _ _ _)
      (World.shaped_of_ZipB (by kernel_rfl) (by kernel_rfl)) (by kernel_rfl) (by kernel_rfl) (by kernel_rfl)
      (by rw [MakeChecks.laidMetH_plain _ _ _ (by kernel_rfl)]; exact laidMet_laidAll _ (by kernel_rfl) (by kernel_rfl))) ?_
  intro W base args ds gs before hval0 hW _ _ hL _
  have hval : ∀ (j : Nat) t v, Tryz.f7.params[j]? = some t → args[j]? = some v → Value.okWide Tryz.prog W .any base t v := hval0
  have hW' := hW
  obtain ⟨p, q, hA0, hV, rfl, hfz, hnd⟩ := hW
  have hA : DataW.TrodAll enc Tryz.prog W 0 (fun _ => true) true Tryz.f7.params.toList args.toList ds p := hA0
  rw [Tryz.params7] at hA hval
  obtain ⟨v0, vs0, d0, ds0, p0, q0, hargs, rfl, rfl, h0, r0⟩ := trodAll_cons hA
  obtain ⟨v1, vs1, d1, ds1, p1, q1, rfl, rfl, rfl, h1, r1⟩ := trodAll_cons r0
  obtain ⟨v2, vs2, d2, ds2, p2, q2, rfl, rfl, rfl, h2, r2⟩ := trodAll_cons r1
  obtain ⟨v3, vs3, d3, ds3, p3, q3, rfl, rfl, rfl, h3, r3⟩ := trodAll_cons r2
  obtain ⟨rfl, rfl, rfl⟩ := trodAll_nil r3
  obtain rfl : args = #[v0, v1, v2, v3] := by cases args; simp_all
  obtain ⟨rfl, rfl⟩ := trodVars_none hV
  have k0 := h0
  have lt0 : ∀ x ∈ p0, x.block < W.heap.size := by obtain ⟨m, hm⟩ := k0; exact DataW.trod_lt m _ _ _ hm
  obtain ⟨cs0, rfl, hsz0⟩ := okWide_struct Tryz.underlying25 (hval 0 25 v0 rfl rfl)
  obtain ⟨c0_0, c0_1, c0_2, c0_3, c0_4, c0_5, c0_6, c0_7, c0_8, c0_9, c0_10, c0_11, c0_12, c0_13, c0_14, c0_15, c0_16, rfl⟩ := arr17 (hsz0.trans (by kernel_rfl))
  obtain ⟨fu0, hf0⟩ := h0
  obtain ⟨xs0, n0, _, _, _, hl0, hx0⟩ := DataW.trod_struct Tryz.underlying25 (show DataW.trod enc Tryz.prog W 0 (fun _ => true) true _ 25 [c0_0, c0_1, c0_2, c0_3, c0_4, c0_5, c0_6, c0_7, c0_8, c0_9, c0_10, c0_11, c0_12, c0_13, c0_14, c0_15, c0_16] = some _ from hf0)
  simp at hl0
  obtain ⟨y0_0, ey0_0⟩ : ∃ y, xs0[0]? = some y := ⟨_, List.getElem?_eq_getElem (by omega)⟩
  have g0_0 : DataW.trod enc Tryz.prog W 0 (fun _ => true) true n0 9 [c0_0] = some y0_0 := by rw [← ey0_0]; exact hx0 0 _ rfl
  obtain ⟨a0_0, e0_0, _, w0_0⟩ := DataW.trod_string Tryz.underlying9 g0_0
  simp at e0_0
  subst e0_0
  obtain ⟨y0_1, ey0_1⟩ : ∃ y, xs0[1]? = some y := ⟨_, List.getElem?_eq_getElem (by omega)⟩
  have g0_1 : DataW.trod enc Tryz.prog W 0 (fun _ => true) true n0 3 [c0_1] = some y0_1 := by rw [← ey0_1]; exact hx0 1 _ rfl
  obtain ⟨a0_1, e0_1, rfl, w0_1⟩ := DataW.trod_int Tryz.underlying3 g0_1
  simp at e0_1
  subst e0_1
  obtain ⟨y0_2, ey0_2⟩ : ∃ y, xs0[2]? = some y := ⟨_, List.getElem?_eq_getElem (by omega)⟩
  have g0_2 : DataW.trod enc Tryz.prog W 0 (fun _ => true) true n0 4 [c0_2] = some y0_2 := by rw [← ey0_2]; exact hx0 2 _ rfl
  obtain ⟨a0_2, e0_2, rfl⟩ := DataW.trod_bool Tryz.underlying4 g0_2
  simp at e0_2
  subst e0_2
  obtain ⟨y0_3, ey0_3⟩ : ∃ y, xs0[3]? = some y := ⟨_, List.getElem?_eq_getElem (by omega)⟩
  have g0_3 : DataW.trod enc Tryz.prog W 0 (fun _ => true) true n0 9 [c0_3] = some y0_3 := by rw [← ey0_3]; exact hx0 3 _ rfl
  obtain ⟨a0_3, e0_3, _, w0_3⟩ := DataW.trod_string Tryz.underlying9 g0_3
  simp at e0_3
  subst e0_3
  obtain ⟨y0_4, ey0_4⟩ : ∃ y, xs0[4]? = some y := ⟨_, List.getElem?_eq_getElem (by omega)⟩
  have g0_4 : DataW.trod enc Tryz.prog W 0 (fun _ => true) true n0 3 [c0_4] = some y0_4 := by rw [← ey0_4]; exact hx0 4 _ rfl
  obtain ⟨a0_4, e0_4, rfl, w0_4⟩ := DataW.trod_int Tryz.underlying3 g0_4
  simp at e0_4
  subst e0_4
  obtain ⟨y0_5, ey0_5⟩ : ∃ y, xs0[5]? = some y := ⟨_, List.getElem?_eq_getElem (by omega)⟩
  have g0_5 : DataW.trod enc Tryz.prog W 0 (fun _ => true) true n0 23 [c0_5, c0_6, c0_7, c0_8, c0_9, c0_10] = some y0_5 := by rw [← ey0_5]; exact hx0 5 _ rfl
  obtain ⟨xs0_5, n0_5, _, _, _, hl0_5, hx0_5⟩ := DataW.trod_struct Tryz.underlying23 (show DataW.trod enc Tryz.prog W 0 (fun _ => true) true _ 23 [c0_5, c0_6, c0_7, c0_8, c0_9, c0_10] = some _ from g0_5)
  simp at hl0_5
  obtain ⟨y0_5_0, ey0_5_0⟩ : ∃ y, xs0_5[0]? = some y := ⟨_, List.getElem?_eq_getElem (by omega)⟩
  have g0_5_0 : DataW.trod enc Tryz.prog W 0 (fun _ => true) true n0_5 3 [c0_5] = some y0_5_0 := by rw [← ey0_5_0]; exact hx0_5 0 _ rfl
  obtain ⟨a0_5_0, e0_5_0, rfl, w0_5_0⟩ := DataW.trod_int Tryz.underlying3 g0_5_0
  simp at e0_5_0
  subst e0_5_0
  obtain ⟨y0_5_1, ey0_5_1⟩ : ∃ y, xs0_5[1]? = some y := ⟨_, List.getElem?_eq_getElem (by omega)⟩
  have g0_5_1 : DataW.trod enc Tryz.prog W 0 (fun _ => true) true n0_5 3 [c0_6] = some y0_5_1 := by rw [← ey0_5_1]; exact hx0_5 1 _ rfl
  obtain ⟨a0_5_1, e0_5_1, rfl, w0_5_1⟩ := DataW.trod_int Tryz.underlying3 g0_5_1
  simp at e0_5_1
  subst e0_5_1
  obtain ⟨y0_5_2, ey0_5_2⟩ : ∃ y, xs0_5[2]? = some y := ⟨_, List.getElem?_eq_getElem (by omega)⟩
  have g0_5_2 : DataW.trod enc Tryz.prog W 0 (fun _ => true) true n0_5 3 [c0_7] = some y0_5_2 := by rw [← ey0_5_2]; exact hx0_5 2 _ rfl
  obtain ⟨a0_5_2, e0_5_2, rfl, w0_5_2⟩ := DataW.trod_int Tryz.underlying3 g0_5_2
  simp at e0_5_2
  subst e0_5_2
  obtain ⟨y0_5_3, ey0_5_3⟩ : ∃ y, xs0_5[3]? = some y := ⟨_, List.getElem?_eq_getElem (by omega)⟩
  have g0_5_3 : DataW.trod enc Tryz.prog W 0 (fun _ => true) true n0_5 3 [c0_8] = some y0_5_3 := by rw [← ey0_5_3]; exact hx0_5 3 _ rfl
  obtain ⟨a0_5_3, e0_5_3, rfl, w0_5_3⟩ := DataW.trod_int Tryz.underlying3 g0_5_3
  simp at e0_5_3
  subst e0_5_3
  obtain ⟨y0_5_4, ey0_5_4⟩ : ∃ y, xs0_5[4]? = some y := ⟨_, List.getElem?_eq_getElem (by omega)⟩
  have g0_5_4 : DataW.trod enc Tryz.prog W 0 (fun _ => true) true n0_5 3 [c0_9] = some y0_5_4 := by rw [← ey0_5_4]; exact hx0_5 4 _ rfl
  obtain ⟨a0_5_4, e0_5_4, rfl, w0_5_4⟩ := DataW.trod_int Tryz.underlying3 g0_5_4
  simp at e0_5_4
  subst e0_5_4
  obtain ⟨y0_5_5, ey0_5_5⟩ : ∃ y, xs0_5[5]? = some y := ⟨_, List.getElem?_eq_getElem (by omega)⟩
  have g0_5_5 : DataW.trod enc Tryz.prog W 0 (fun _ => true) true n0_5 3 [c0_10] = some y0_5_5 := by rw [← ey0_5_5]; exact hx0_5 5 _ rfl
  obtain ⟨a0_5_5, e0_5_5, rfl, w0_5_5⟩ := DataW.trod_int Tryz.underlying3 g0_5_5
  simp at e0_5_5
  subst e0_5_5
  obtain ⟨y0_6, ey0_6⟩ : ∃ y, xs0[6]? = some y := ⟨_, List.getElem?_eq_getElem (by omega)⟩
  have g0_6 : DataW.trod enc Tryz.prog W 0 (fun _ => true) true n0 23 [c0_11, c0_12, c0_13, c0_14, c0_15, c0_16] = some y0_6 := by rw [← ey0_6]; exact hx0 6 _ rfl
  obtain ⟨xs0_6, n0_6, _, _, _, hl0_6, hx0_6⟩ := DataW.trod_struct Tryz.underlying23 (show DataW.trod enc Tryz.prog W 0 (fun _ => true) true _ 23 [c0_11, c0_12, c0_13, c0_14, c0_15, c0_16] = some _ from g0_6)
  simp at hl0_6
  obtain ⟨y0_6_0, ey0_6_0⟩ : ∃ y, xs0_6[0]? = some y := ⟨_, List.getElem?_eq_getElem (by omega)⟩
  have g0_6_0 : DataW.trod enc Tryz.prog W 0 (fun _ => true) true n0_6 3 [c0_11] = some y0_6_0 := by rw [← ey0_6_0]; exact hx0_6 0 _ rfl
  obtain ⟨a0_6_0, e0_6_0, rfl, w0_6_0⟩ := DataW.trod_int Tryz.underlying3 g0_6_0
  simp at e0_6_0
  subst e0_6_0
  obtain ⟨y0_6_1, ey0_6_1⟩ : ∃ y, xs0_6[1]? = some y := ⟨_, List.getElem?_eq_getElem (by omega)⟩
  have g0_6_1 : DataW.trod enc Tryz.prog W 0 (fun _ => true) true n0_6 3 [c0_12] = some y0_6_1 := by rw [← ey0_6_1]; exact hx0_6 1 _ rfl
  obtain ⟨a0_6_1, e0_6_1, rfl, w0_6_1⟩ := DataW.trod_int Tryz.underlying3 g0_6_1
  simp at e0_6_1
  subst e0_6_1
  obtain ⟨y0_6_2, ey0_6_2⟩ : ∃ y, xs0_6[2]? = some y := ⟨_, List.getElem?_eq_getElem (by omega)⟩
  have g0_6_2 : DataW.trod enc Tryz.prog W 0 (fun _ => true) true n0_6 3 [c0_13] = some y0_6_2 := by rw [← ey0_6_2]; exact hx0_6 2 _ rfl
  obtain ⟨a0_6_2, e0_6_2, rfl, w0_6_2⟩ := DataW.trod_int Tryz.underlying3 g0_6_2
  simp at e0_6_2
  subst e0_6_2
  obtain ⟨y0_6_3, ey0_6_3⟩ : ∃ y, xs0_6[3]? = some y := ⟨_, List.getElem?_eq_getElem (by omega)⟩
  have g0_6_3 : DataW.trod enc Tryz.prog W 0 (fun _ => true) true n0_6 3 [c0_14] = some y0_6_3 := by rw [← ey0_6_3]; exact hx0_6 3 _ rfl
  obtain ⟨a0_6_3, e0_6_3, rfl, w0_6_3⟩ := DataW.trod_int Tryz.underlying3 g0_6_3
  simp at e0_6_3
  subst e0_6_3
  obtain ⟨y0_6_4, ey0_6_4⟩ : ∃ y, xs0_6[4]? = some y := ⟨_, List.getElem?_eq_getElem (by omega)⟩
  have g0_6_4 : DataW.trod enc Tryz.prog W 0 (fun _ => true) true n0_6 3 [c0_15] = some y0_6_4 := by rw [← ey0_6_4]; exact hx0_6 4 _ rfl
  obtain ⟨a0_6_4, e0_6_4, rfl, w0_6_4⟩ := DataW.trod_int Tryz.underlying3 g0_6_4
  simp at e0_6_4
  subst e0_6_4
  obtain ⟨y0_6_5, ey0_6_5⟩ : ∃ y, xs0_6[5]? = some y := ⟨_, List.getElem?_eq_getElem (by omega)⟩
  have g0_6_5 : DataW.trod enc Tryz.prog W 0 (fun _ => true) true n0_6 3 [c0_16] = some y0_6_5 := by rw [← ey0_6_5]; exact hx0_6 5 _ rfl
  obtain ⟨a0_6_5, e0_6_5, rfl, w0_6_5⟩ := DataW.trod_int Tryz.underlying3 g0_6_5
  simp at e0_6_5
  subst e0_6_5
  have k1 := h1
  have lt1 : ∀ x ∈ p1, x.block < W.heap.size := by obtain ⟨m, hm⟩ := k1; exact DataW.trod_lt m _ _ _ hm
  obtain ⟨a1, rfl, rfl, rfl, w1⟩ := open_int Tryz.underlying2 (hval 1 2 v1 rfl rfl) h1
  have k2 := h2
  have lt2 : ∀ x ∈ p2, x.block < W.heap.size := by obtain ⟨m, hm⟩ := k2; exact DataW.trod_lt m _ _ _ hm
  obtain ⟨a2, rfl, rfl, rfl, w2⟩ := open_string Tryz.underlying9 (hval 2 9 v2 rfl rfl) h2
  have k3 := h3
  have lt3 : ∀ x ∈ p3, x.block < W.heap.size := by obtain ⟨m, hm⟩ := k3; exact DataW.trod_lt m _ _ _ hm
  obtain ⟨a3, rfl, rfl, rfl, w3⟩ := open_string Tryz.underlying9 (hval 3 9 v3 rfl rfl) h3
  clear hA0 hval0
  refine (show Calls Tryz.prog 7 #[.agg #[.string a0_0, .int .i64 a0_1, .bool a0_2, .string a0_3, .int .i64 a0_4, .int .i64 a0_5_0, .int .i64 a0_5_1, .int .i64 a0_5_2, .int .i64 a0_5_3, .int .i64 a0_5_4, .int .i64 a0_5_5, .int .i64 a0_6_0, .int .i64 a0_6_1, .int .i64 a0_6_2, .int .i64 a0_6_3, .int .i64 a0_6_4, .int .i64 a0_6_5], .int .i64 a1, .string a2, .string a3] W fun e w' => e = .returned (.bool true) ∧ Below W.heap.size W w' from l11_.names a0_0 a0_1 a0_2 a0_3 a0_4 a0_5_0 a0_5_1 a0_5_2 a0_5_3 a0_5_4 a0_5_5 a0_6_0 a0_6_1 a0_6_2 a0_6_3 a0_6_4 a0_6_5 a1 a2 a3 W (te_of hL) w0_0 w0_1 w0_3 w0_4 w0_5_0 w0_5_1 w0_5_2 w0_5_3 w0_5_4 w0_5_5 w0_6_0 w0_6_1 w0_6_2 w0_6_3 w0_6_4 w0_6_5 w1 w2 w3).mono fun e W' ⟨he, bel⟩ => ?_
  subst he
  exact ⟨_, rfl, _, _, _, [], _, [], hW', trodAll_mk1 (shut_bool Tryz.underlying4 _), (trodAll_cons_mk (Below.trod laidOut (by kernel_rfl) (of_decide_eq_true (by kernel_rfl)) k0 bel lt0) (trodAll_cons_mk (Below.trod laidOut (by kernel_rfl) (of_decide_eq_true (by kernel_rfl)) k1 bel lt1) (trodAll_cons_mk (Below.trod laidOut (by kernel_rfl) (of_decide_eq_true (by kernel_rfl)) k2 bel lt2) (trodAll_cons_mk (Below.trod laidOut (by kernel_rfl) (of_decide_eq_true (by kernel_rfl)) k3 bel lt3) trodAll_mk0)))), rfl, bel.frame _, fun h => by cases h⟩

theorem over : Rows.tzevalNamesRow.holds Tryz.pinned (OpenSpec.ofChange Rows.tzevalNamesSpec) :=
  OpenClaim.holds_of_wide 7 Tryz.f7 rfl rfl rfl rfl rfl rfl rfl ⟨rfl, rfl, rfl, rfl, rfl⟩ rfl rfl rfl rfl rfl (by kernel_rfl) Tryz.func7 (by kernel_rfl)
    (of_decide_eq_true (by kernel_rfl)) (by unfold Func.isWrapper; first | (rw [if_pos (by decide +kernel)]; kernel_rfl) | (rw [if_neg (by decide +kernel)]; exact ⟨rfl, rfl⟩))
    (fun os started H enc _ => lifted os started H enc)

theorem proved : Rows.TzevalNamesCardSaid :=
  Claim7.holds_tied_plain_at .later [] [.data, .data, .data, .data, .data, .sentinel, .sentinel, .pinned] true (true, "ec24d2e069fd1dbcd94f01cf5985652d3e28b84669051ee262ffd700599f8123") true
    over (fun _ h => by cases h) (by kernel_rfl) (fun _ h => by cases h) Go.Proofs.YtdhogpcoegfopaaGreatDoor.tzevalNames_row_tie rfl ⟨rfl, rfl⟩ (by kernel_rfl) rfl
    (fun f fn hf hfn => by
      obtain rfl : f = 7 := Option.some.inj ((show Tryz.prog.funcNamed "zoneinfo/zoneinfolaw11.TzevalNames" = some 7 by kernel_rfl).symm.trans hf) |>.symm
      obtain rfl : fn = Tryz.f7 := (Option.some.inj (Tryz.func7.symm.trans hfn)).symm
      exact ⟨by kernel_rfl, fun j t ht => by
        rw [Tryz.params7] at ht
        have hm : t ∈ [25, 2, 9, 9] := by simpa using Array.mem_of_getElem? ht
        have hall : ([25, 2, 9, 9].all fun u => !Tryz.prog.wantsStandIn u) = true := by kernel_rfl
        exact (show Tryz.prog.wantsStandIn t = false by simpa using List.all_eq_true.1 hall t hm)⟩)
    (by kernel_rfl)
#print axioms proved
end Go.Proofs.YtdhogpcoegfopaaGreatDoor.tzevalNames

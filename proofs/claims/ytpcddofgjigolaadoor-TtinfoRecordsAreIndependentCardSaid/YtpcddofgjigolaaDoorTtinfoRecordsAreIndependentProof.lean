/-
  The statement Rows.TtinfoRecordsAreIndependentCardSaid: for every input the law TtinfoRecordsAreIndependent of zoneinfolaw16 returns true and leaves its arguments as they read before. Conditions: none beside the row's own: the listed package-level tables start as the program's text lays them, and the card ties them to that text.
-/
import Derived.Test.YtpcddofgjigolaaDoorRows
import Derived.Test.YtpcddofgjigolaaDoorCards
import Derived.Test.YtpcddofgjigolaaDoorTie
import Derived.Test.YtpcddofgjigolaaDoorLaw16d
import Derived.Test.YtpcddofgjigolaaDoorTwO
import Derived.WalkKit
import Derived.ProofKit
import Derived.OpenShut
import Derived.ShutString
import Derived.ChangeOld
import Derived.Below
import Derived.Lib.SmallJoins
import Derived.LaidMore
import Derived.Stop.Joined
import Derived.SevenTiedAt
import Derived.Lay
import Derived.MakeChecks
namespace Go.Proofs.YtpcddofgjigolaaDoor.ttinfoRecordsAreIndependent
open Go.ChangeShapes Go.WideShapes Go.ChangeAt Go.RowKit
open Go.ChangeMaps (open_string shut_string)
set_option linter.unusedVariables false

theorem own : ownKnob Tryd.prog.godebug = none := by kernel_rfl
theorem laidOut : laidOutB Tryd.prog = true := by kernel_rfl
theorem arr3 {cs : Array Value} (h : cs.size = 3) : ∃ c0 c1 c2, cs = #[c0, c1, c2] := by
  obtain ⟨l⟩ := cs
  match l, h with
  | [c0, c1, c2], _ => exact ⟨c0, c1, c2, rfl⟩
section
variable {H : Type} {enc : TypeId × Value → H} {P : Program} {w : World} {base : Nat} {held : Bool}
theorem open_rwv {t e : TypeId} {k : IntKind} {fuel : Nat} {v : Value} {x : DataW H × List MemPlace} (ht : P.underlying t = some (.slice e)) (he : P.underlying e = some (.int k)) (hC : P.cellsOf e = 1)
    (h : DataW.trod enc P w base (fun _ => true) held fuel t [v] = some x) : ∃ a len cap zs, v = .slice a len cap ∧ IsRw k w a len cap zs := by
  rcases open_ints ht he hC h with ⟨hcs, _⟩ | ⟨x, l, c, zs, hcs, _, hl, hm, hz, _, hcell, hwz⟩
  · simp at hcs
    exact ⟨none, 0, 0, [], hcs, .inl ⟨rfl, rfl, rfl, rfl⟩⟩
  · simp at hcs
    exact ⟨_, _, _, zs, hcs, .inr ⟨_, rfl, hl, hm, by simpa using hz, hcell, hwz⟩⟩
theorem open_rw {t e : TypeId} {k : IntKind} {fuel : Nat} {a : Option Addr} {len cap : Nat} {x : DataW H × List MemPlace} (ht : P.underlying t = some (.slice e)) (he : P.underlying e = some (.int k)) (hC : P.cellsOf e = 1)
    (h : DataW.trod enc P w base (fun _ => true) held fuel t [.slice a len cap] = some x) : ∃ zs, IsRw k w a len cap zs := by
  obtain ⟨_, _, _, zs, hv, hz⟩ := open_rwv ht he hC h
  cases hv
  exact ⟨zs, hz⟩
end

/-- the door's own heap meets the condition. -/
theorem door_met (os : Os) (args : Array Value) : laidMetH Tryd.prog Rows.ttinfoRecordsAreIndependentRow.laid ((World.doorLaid Tryd.prog 16 os).forCall (fun _ _ => 0) ⟨#[], args, []⟩).memory :=
  laidMetH_of_parts3 (fuel := 8) (laidMet_of_run' 8 (by kernel_rfl) (by kernel_rfl)) (by kernel_rfl) (by kernel_rfl)

set_option maxRecDepth 100000 in
theorem lifted (os : Os) (started : os.Started) (H : Type) (enc : TypeId × Value → H) :
    ReturnsInHanded {} Tryd.checked os 6 .any (fun w args => (Rows.ttinfoRecordsAreIndependentSpec.pre enc Tryd.prog Tryd.f6 [] false w args ∧ laidMetH Tryd.prog Rows.ttinfoRecordsAreIndependentRow.laid w) ∧ sizedMet enc Tryd.prog Tryd.f6 (OpenSpec.ofChange Rows.ttinfoRecordsAreIndependentSpec) false w args) (Rows.ttinfoRecordsAreIndependentSpec.post enc Tryd.prog Tryd.f6 false true false false) := by
  refine returnsInHanded_of_change_and (C := Tryd.checked) (X := fun w _ => laidMetH Tryd.prog Rows.ttinfoRecordsAreIndependentRow.laid w) (fun _ _ _ hh h => h.of_heap hh) own started (by kernel_rfl) Tryd.func6
    (ChangeSpec.witness_shaped (enc := enc) (C := Tryd.checked) (os := os) (X := fun w _ => laidMetH Tryd.prog Rows.ttinfoRecordsAreIndependentRow.laid w) false (World.doorLaid Tryd.prog 16 os) #[.slice none 0 0, .slice none 0 0, .agg #[.int .i32 0, .bool false, .int .u8 0], .agg #[.int .i32 0, .bool false, .int .u8 0]] 8 rfl (World.shaped_of_RefB (by kernel_rfl) (by kernel_rfl)) (by kernel_rfl) (by kernel_rfl) (by kernel_rfl) (door_met os _)) ?_
  intro W base args ds gs before hval0 hW _ _ hL _
  have hval : ∀ (j : Nat) t v, Tryd.f6.params[j]? = some t → args[j]? = some v → Value.okWide Tryd.prog W .any base t v := hval0
  have hW' := hW
  obtain ⟨p, q, hA0, hV, rfl, hfz, hnd⟩ := hW
  have hA : DataW.TrodAll enc Tryd.prog W 0 (fun _ => true) true Tryd.f6.params.toList args.toList ds p := hA0
  rw [Tryd.params6] at hA hval
  obtain ⟨v0, vs0, d0, ds0, p0, q0, hargs, rfl, rfl, h0, r0⟩ := trodAll_cons hA
  obtain ⟨v1, vs1, d1, ds1, p1, q1, rfl, rfl, rfl, h1, r1⟩ := trodAll_cons r0
  obtain ⟨v2, vs2, d2, ds2, p2, q2, rfl, rfl, rfl, h2, r2⟩ := trodAll_cons r1
  obtain ⟨v3, vs3, d3, ds3, p3, q3, rfl, rfl, rfl, h3, r3⟩ := trodAll_cons r2
  obtain ⟨rfl, rfl, rfl⟩ := trodAll_nil r3
  obtain rfl : args = #[v0, v1, v2, v3] := by cases args; simp_all
  obtain ⟨rfl, rfl⟩ := trodVars_none hV
  have k0 := h0
  have lt0 : ∀ x ∈ p0, x.block < W.heap.size := by obtain ⟨m, hm⟩ := k0; exact DataW.trod_lt m _ _ _ hm
  obtain ⟨a0, len0, cap0, rfl⟩ := okWide_slice Tryd.underlying23 (hval 0 23 v0 rfl rfl)
  obtain ⟨z0, w0⟩ : ∃ ts, IsTw W a0 len0 cap0 ts := by
    obtain ⟨fuel, hf⟩ := h0
    exact open_tw (by simpa [Value.cells] using hf)
  have k1 := h1
  have lt1 : ∀ x ∈ p1, x.block < W.heap.size := by obtain ⟨m, hm⟩ := k1; exact DataW.trod_lt m _ _ _ hm
  obtain ⟨a1, len1, cap1, rfl⟩ := okWide_slice Tryd.underlying23 (hval 1 23 v1 rfl rfl)
  obtain ⟨z1, w1⟩ : ∃ ts, IsTw W a1 len1 cap1 ts := by
    obtain ⟨fuel, hf⟩ := h1
    exact open_tw (by simpa [Value.cells] using hf)
  have k2 := h2
  have lt2 : ∀ x ∈ p2, x.block < W.heap.size := by obtain ⟨m, hm⟩ := k2; exact DataW.trod_lt m _ _ _ hm
  obtain ⟨cs2, rfl, hsz2⟩ := okWide_struct Tryd.underlying35 (hval 2 35 v2 rfl rfl)
  obtain ⟨c2_0, c2_1, c2_2, rfl⟩ := arr3 (hsz2.trans (by kernel_rfl))
  obtain ⟨fu2, hf2⟩ := h2
  obtain ⟨xs2, n2, _, _, _, hl2, hx2⟩ := DataW.trod_struct Tryd.underlying35 (show DataW.trod enc Tryd.prog W 0 (fun _ => true) true _ 35 [c2_0, c2_1, c2_2] = some _ from hf2)
  simp at hl2
  obtain ⟨y2_0, ey2_0⟩ : ∃ y, xs2[0]? = some y := ⟨_, List.getElem?_eq_getElem (by omega)⟩
  have g2_0 : DataW.trod enc Tryd.prog W 0 (fun _ => true) true n2 21 [c2_0] = some y2_0 := by rw [← ey2_0]; exact hx2 0 _ rfl
  obtain ⟨a2_0, e2_0, rfl, w2_0⟩ := DataW.trod_int Tryd.underlying21 g2_0
  simp at e2_0
  subst e2_0
  obtain ⟨y2_1, ey2_1⟩ : ∃ y, xs2[1]? = some y := ⟨_, List.getElem?_eq_getElem (by omega)⟩
  have g2_1 : DataW.trod enc Tryd.prog W 0 (fun _ => true) true n2 4 [c2_1] = some y2_1 := by rw [← ey2_1]; exact hx2 1 _ rfl
  obtain ⟨a2_1, e2_1, rfl⟩ := DataW.trod_bool Tryd.underlying4 g2_1
  simp at e2_1
  subst e2_1
  obtain ⟨y2_2, ey2_2⟩ : ∃ y, xs2[2]? = some y := ⟨_, List.getElem?_eq_getElem (by omega)⟩
  have g2_2 : DataW.trod enc Tryd.prog W 0 (fun _ => true) true n2 5 [c2_2] = some y2_2 := by rw [← ey2_2]; exact hx2 2 _ rfl
  obtain ⟨a2_2, e2_2, rfl, w2_2⟩ := DataW.trod_int Tryd.underlying5 g2_2
  simp at e2_2
  subst e2_2
  have k3 := h3
  have lt3 : ∀ x ∈ p3, x.block < W.heap.size := by obtain ⟨m, hm⟩ := k3; exact DataW.trod_lt m _ _ _ hm
  obtain ⟨cs3, rfl, hsz3⟩ := okWide_struct Tryd.underlying35 (hval 3 35 v3 rfl rfl)
  obtain ⟨c3_0, c3_1, c3_2, rfl⟩ := arr3 (hsz3.trans (by kernel_rfl))
  obtain ⟨fu3, hf3⟩ := h3
  obtain ⟨xs3, n3, _, _, _, hl3, hx3⟩ := DataW.trod_struct Tryd.underlying35 (show DataW.trod enc Tryd.prog W 0 (fun _ => true) true _ 35 [c3_0, c3_1, c3_2] = some _ from hf3)
  simp at hl3
  obtain ⟨y3_0, ey3_0⟩ : ∃ y, xs3[0]? = some y := ⟨_, List.getElem?_eq_getElem (by omega)⟩
  have g3_0 : DataW.trod enc Tryd.prog W 0 (fun _ => true) true n3 21 [c3_0] = some y3_0 := by rw [← ey3_0]; exact hx3 0 _ rfl
  obtain ⟨a3_0, e3_0, rfl, w3_0⟩ := DataW.trod_int Tryd.underlying21 g3_0
  simp at e3_0
  subst e3_0
  obtain ⟨y3_1, ey3_1⟩ : ∃ y, xs3[1]? = some y := ⟨_, List.getElem?_eq_getElem (by omega)⟩
  have g3_1 : DataW.trod enc Tryd.prog W 0 (fun _ => true) true n3 4 [c3_1] = some y3_1 := by rw [← ey3_1]; exact hx3 1 _ rfl
  obtain ⟨a3_1, e3_1, rfl⟩ := DataW.trod_bool Tryd.underlying4 g3_1
  simp at e3_1
  subst e3_1
  obtain ⟨y3_2, ey3_2⟩ : ∃ y, xs3[2]? = some y := ⟨_, List.getElem?_eq_getElem (by omega)⟩
  have g3_2 : DataW.trod enc Tryd.prog W 0 (fun _ => true) true n3 5 [c3_2] = some y3_2 := by rw [← ey3_2]; exact hx3 2 _ rfl
  obtain ⟨a3_2, e3_2, rfl, w3_2⟩ := DataW.trod_int Tryd.underlying5 g3_2
  simp at e3_2
  subst e3_2
  clear hA0 hval0
  refine (show Calls Tryd.prog 6 #[.slice a0 len0 cap0, .slice a1 len1 cap1, .agg #[.int .i32 a2_0, .bool a2_1, .int .u8 a2_2], .agg #[.int .i32 a3_0, .bool a3_1, .int .u8 a3_2]] W fun e w' => e = .returned (.bool true) ∧ Below W.heap.size W w' from l16_.independent a0 len0 cap0 z0 a1 len1 cap1 z1 a2_0 a2_1 a2_2 a3_0 a3_1 a3_2 W (tt_of hL) w0 w1 w2_0 w2_2 w3_0 w3_2).mono fun e W' ⟨he, bel⟩ => ?_
  subst he
  exact ⟨_, rfl, _, _, _, [], _, [], hW', trodAll_mk1 (shut_bool Tryd.underlying4 _), (trodAll_cons_mk (Below.trod laidOut (by kernel_rfl) (of_decide_eq_true (by kernel_rfl)) k0 bel lt0) (trodAll_cons_mk (Below.trod laidOut (by kernel_rfl) (of_decide_eq_true (by kernel_rfl)) k1 bel lt1) (trodAll_cons_mk (Below.trod laidOut (by kernel_rfl) (of_decide_eq_true (by kernel_rfl)) k2 bel lt2) (trodAll_cons_mk (Below.trod laidOut (by kernel_rfl) (of_decide_eq_true (by kernel_rfl)) k3 bel lt3) trodAll_mk0)))), rfl, bel.frame _, fun h => by cases h⟩

theorem over : Rows.ttinfoRecordsAreIndependentRow.holds Tryd.pinned (OpenSpec.ofChange Rows.ttinfoRecordsAreIndependentSpec) :=
  OpenClaim.holds_of_wide 6 Tryd.f6 rfl rfl rfl rfl rfl rfl rfl ⟨rfl, rfl, rfl, rfl, rfl⟩ rfl rfl rfl rfl rfl (by kernel_rfl) Tryd.func6 (by kernel_rfl)
    (of_decide_eq_true (by kernel_rfl)) (by unfold Func.isWrapper; first | (rw [if_pos (by decide +kernel)]; kernel_rfl) | (rw [if_neg (by decide +kernel)]; exact ⟨rfl, rfl⟩))
    (fun os started H enc _ => lifted os started H enc)

theorem proved : Rows.TtinfoRecordsAreIndependentCardSaid :=
  Claim7.holds_tied_plain_at .later [] [.handle] true (true, "3e63b6b5e1f329ce7addf5de6fc7b581e9aa05af54e37d0dee6f47c69842fe20") true
    over (fun _ h => by cases h) (by kernel_rfl) (fun _ h => by cases h) Go.Proofs.YtpcddofgjigolaaDoor.ttinfoRecordsAreIndependent_row_tie rfl ⟨rfl, rfl⟩ (by kernel_rfl) rfl
    (fun f fn hf hfn => by
      obtain rfl : f = 6 := Option.some.inj ((show Tryd.prog.funcNamed "zoneinfo/zoneinfolaw16.TtinfoRecordsAreIndependent" = some 6 by kernel_rfl).symm.trans hf) |>.symm
      obtain rfl : fn = Tryd.f6 := (Option.some.inj (Tryd.func6.symm.trans hfn)).symm
      exact ⟨by kernel_rfl, fun j t ht => by
        rw [Tryd.params6] at ht
        have hm : t ∈ [23, 23, 35, 35] := by simpa using Array.mem_of_getElem? ht
        have hall : ([23, 23, 35, 35].all fun u => !Tryd.prog.wantsStandIn u) = true := by kernel_rfl
        exact (show Tryd.prog.wantsStandIn t = false by simpa using List.all_eq_true.1 hall t hm)⟩)
    (by kernel_rfl)
#print axioms proved
end Go.Proofs.YtpcddofgjigolaaDoor.ttinfoRecordsAreIndependent

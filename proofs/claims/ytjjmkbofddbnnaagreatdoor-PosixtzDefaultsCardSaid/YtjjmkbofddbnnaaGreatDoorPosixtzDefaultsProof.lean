/-
  The statement Rows.PosixtzDefaultsCardSaid: for every input the law PosixtzDefaults of zoneinfolaw09 returns true and leaves its arguments as they read before. Conditions: none beside the row's own: the listed package-level tables start as the program's text lays them, and the card ties them to that text.
-/
import Derived.Test.YtjjmkbofddbnnaaGreatDoorRows
import Derived.Test.YtjjmkbofddbnnaaGreatDoorCards
import Derived.Test.YtjjmkbofddbnnaaGreatDoorTie
import Derived.Test.YtjjmkbofddbnnaaGreatDoorLaw9d
import Derived.WalkKit
import Derived.ProofKit
import Derived.OpenShut
import Derived.ShutString
import Derived.ChangeOld
import Derived.Below
import Derived.Lib.SmallJoins
import Derived.LaidMore
import Derived.Stop.Joined
import Derived.SevenTiedAt
import Derived.Lay
import Derived.MakeChecks
namespace Go.Proofs.YtjjmkbofddbnnaaGreatDoor.posixtzDefaults
open Go.ChangeShapes Go.WideShapes Go.ChangeAt Go.RowKit
open Go.ChangeMaps (open_string shut_string)
set_option linter.unusedVariables false

theorem own : ownKnob Tryz.prog.godebug = none := by kernel_rfl
theorem laidOut : laidOutB Tryz.prog = true := by kernel_rfl
theorem arr6 {cs : Array Value} (h : cs.size = 6) : ∃ c0 c1 c2 c3 c4 c5, cs = #[c0, c1, c2, c3, c4, c5] := by
  obtain ⟨l⟩ := cs
  match l, h with
  | [c0, c1, c2, c3, c4, c5], _ => exact ⟨c0, c1, c2, c3, c4, c5, rfl⟩
section
variable {H : Type} {enc : TypeId × Value → H} {P : Program} {w : World} {base : Nat} {held : Bool}
theorem open_rwv {t e : TypeId} {k : IntKind} {fuel : Nat} {v : Value} {x : DataW H × List MemPlace} (ht : P.underlying t = some (.slice e)) (he : P.underlying e = some (.int k)) (hC : P.cellsOf e = 1)
    (h : DataW.trod enc P w base (fun _ => true) held fuel t [v] = some x) : ∃ a len cap zs, v = .slice a len cap ∧ IsRw k w a len cap zs := by
  rcases open_ints ht he hC h with ⟨hcs, _⟩ | ⟨x, l, c, zs, hcs, _, hl, hm, hz, _, hcell, hwz⟩
  · simp at hcs
    exact ⟨none, 0, 0, [], hcs, .inl ⟨rfl, rfl, rfl, rfl⟩⟩
  · simp at hcs
    exact ⟨_, _, _, zs, hcs, .inr ⟨_, rfl, hl, hm, by simpa using hz, hcell, hwz⟩⟩
theorem open_rw {t e : TypeId} {k : IntKind} {fuel : Nat} {a : Option Addr} {len cap : Nat} {x : DataW H × List MemPlace} (ht : P.underlying t = some (.slice e)) (he : P.underlying e = some (.int k)) (hC : P.cellsOf e = 1)
    (h : DataW.trod enc P w base (fun _ => true) held fuel t [.slice a len cap] = some x) : ∃ zs, IsRw k w a len cap zs := by
  obtain ⟨_, _, _, zs, hv, hz⟩ := open_rwv ht he hC h
  cases hv
  exact ⟨zs, hz⟩
end

set_option maxRecDepth 100000 in
theorem lifted (os : Os) (started : os.Started) (H : Type) (enc : TypeId × Value → H) :
    ReturnsInHanded {} Tryz.checked os 4 .any (fun w args => (Rows.posixtzDefaultsSpec.pre enc Tryz.prog Tryz.f4 [] false w args ∧ laidMetH Tryz.prog Rows.posixtzDefaultsRow.laid w) ∧ sizedMet enc Tryz.prog Tryz.f4 (OpenSpec.ofChange Rows.posixtzDefaultsSpec) false w args) (Rows.posixtzDefaultsSpec.post enc Tryz.prog Tryz.f4 false true false false) := by
  refine returnsInHanded_of_change_and (C := Tryz.checked) (X := fun w _ => laidMetH Tryz.prog Rows.posixtzDefaultsRow.laid w) (fun _ _ _ hh h => h.of_heap hh) own started (by kernel_rfl) Tryz.func4
    (ChangeSpec.witness_shaped (enc := enc) (C := Tryz.checked) (os := os) (X := fun w _ => laidMetH Tryz.prog Rows.posixtzDefaultsRow.laid w) false (World.laidAll Tryz.prog os Rows.posixtzDefaultsRow.laid) #[.string ⟨#[]⟩, .int .i64 0, .agg #[.int .i64 0, .int .i64 0, .int .i64 0, .int .i64 0, .int .i64 0, .int .i64 0], .agg #[.int .i64 0, .int .i64 0, .int .i64 0, .int .i64 0, .int .i64 0, .int .i64 0]] 8 (World.laidAll_os _ _ _)
      (World.shaped_of_ZipB (by kernel_rfl) (by kernel_rfl)) (by kernel_rfl) (by kernel_rfl) (by kernel_rfl)
      (by rw [MakeChecks.laidMetH_plain _ _ _ (by kernel_rfl)]; exact laidMet_laidAll _ (by kernel_rfl) (by kernel_rfl))) ?_
  intro W base args ds gs before hval0 hW _ _ hL _
  have hval : ∀ (j : Nat) t v, Tryz.f4.params[j]? = some t → args[j]? = some v → Value.okWide Tryz.prog W .any base t v := hval0
  have hW' := hW
  obtain ⟨p, q, hA0, hV, rfl, hfz, hnd⟩ := hW
  have hA : DataW.TrodAll enc Tryz.prog W 0 (fun _ => true) true Tryz.f4.params.toList args.toList ds p := hA0
  rw [Tryz.params4] at hA hval
  obtain ⟨v0, vs0, d0, ds0, p0, q0, hargs, rfl, rfl, h0, r0⟩ := trodAll_cons hA
  obtain ⟨v1, vs1, d1, ds1, p1, q1, rfl, rfl, rfl, h1, r1⟩ := trodAll_cons r0
  obtain ⟨v2, vs2, d2, ds2, p2, q2, rfl, rfl, rfl, h2, r2⟩ := trodAll_cons r1
  obtain ⟨v3, vs3, d3, ds3, p3, q3, rfl, rfl, rfl, h3, r3⟩ := trodAll_cons r2
  obtain ⟨rfl, rfl, rfl⟩ := trodAll_nil r3
  obtain rfl : args = #[v0, v1, v2, v3] := by cases args; simp_all
  obtain ⟨rfl, rfl⟩ := trodVars_none hV
  have k0 := h0
  have lt0 : ∀ x ∈ p0, x.block < W.heap.size := by obtain ⟨m, hm⟩ := k0; exact DataW.trod_lt m _ _ _ hm
  obtain ⟨a0, rfl, rfl, rfl, w0⟩ := open_string Tryz.underlying9 (hval 0 9 v0 rfl rfl) h0
  have k1 := h1
  have lt1 : ∀ x ∈ p1, x.block < W.heap.size := by obtain ⟨m, hm⟩ := k1; exact DataW.trod_lt m _ _ _ hm
  obtain ⟨a1, rfl, rfl, rfl, w1⟩ := open_int Tryz.underlying3 (hval 1 3 v1 rfl rfl) h1
  have k2 := h2
  have lt2 : ∀ x ∈ p2, x.block < W.heap.size := by obtain ⟨m, hm⟩ := k2; exact DataW.trod_lt m _ _ _ hm
  obtain ⟨cs2, rfl, hsz2⟩ := okWide_struct Tryz.underlying23 (hval 2 23 v2 rfl rfl)
  obtain ⟨c2_0, c2_1, c2_2, c2_3, c2_4, c2_5, rfl⟩ := arr6 (hsz2.trans (by kernel_rfl))
  obtain ⟨fu2, hf2⟩ := h2
  obtain ⟨xs2, n2, _, _, _, hl2, hx2⟩ := DataW.trod_struct Tryz.underlying23 (show DataW.trod enc Tryz.prog W 0 (fun _ => true) true _ 23 [c2_0, c2_1, c2_2, c2_3, c2_4, c2_5] = some _ from hf2)
  simp at hl2
  obtain ⟨y2_0, ey2_0⟩ : ∃ y, xs2[0]? = some y := ⟨_, List.getElem?_eq_getElem (by omega)⟩
  have g2_0 : DataW.trod enc Tryz.prog W 0 (fun _ => true) true n2 3 [c2_0] = some y2_0 := by rw [← ey2_0]; exact hx2 0 _ rfl
  obtain ⟨a2_0, e2_0, rfl, w2_0⟩ := DataW.trod_int Tryz.underlying3 g2_0
  simp at e2_0
  subst e2_0
  obtain ⟨y2_1, ey2_1⟩ : ∃ y, xs2[1]? = some y := ⟨_, List.getElem?_eq_getElem (by omega)⟩
  have g2_1 : DataW.trod enc Tryz.prog W 0 (fun _ => true) true n2 3 [c2_1] = some y2_1 := by rw [← ey2_1]; exact hx2 1 _ rfl
  obtain ⟨a2_1, e2_1, rfl, w2_1⟩ := DataW.trod_int Tryz.underlying3 g2_1
  simp at e2_1
  subst e2_1
  obtain ⟨y2_2, ey2_2⟩ : ∃ y, xs2[2]? = some y := ⟨_, List.getElem?_eq_getElem (by omega)⟩
  have g2_2 : DataW.trod enc Tryz.prog W 0 (fun _ => true) true n2 3 [c2_2] = some y2_2 := by rw [← ey2_2]; exact hx2 2 _ rfl
  obtain ⟨a2_2, e2_2, rfl, w2_2⟩ := DataW.trod_int Tryz.underlying3 g2_2
  simp at e2_2
  subst e2_2
  obtain ⟨y2_3, ey2_3⟩ : ∃ y, xs2[3]? = some y := ⟨_, List.getElem?_eq_getElem (by omega)⟩
  have g2_3 : DataW.trod enc Tryz.prog W 0 (fun _ => true) true n2 3 [c2_3] = some y2_3 := by rw [← ey2_3]; exact hx2 3 _ rfl
  obtain ⟨a2_3, e2_3, rfl, w2_3⟩ := DataW.trod_int Tryz.underlying3 g2_3
  simp at e2_3
  subst e2_3
  obtain ⟨y2_4, ey2_4⟩ : ∃ y, xs2[4]? = some y := ⟨_, List.getElem?_eq_getElem (by omega)⟩
  have g2_4 : DataW.trod enc Tryz.prog W 0 (fun _ => true) true n2 3 [c2_4] = some y2_4 := by rw [← ey2_4]; exact hx2 4 _ rfl
  obtain ⟨a2_4, e2_4, rfl, w2_4⟩ := DataW.trod_int Tryz.underlying3 g2_4
  simp at e2_4
  subst e2_4
  obtain ⟨y2_5, ey2_5⟩ : ∃ y, xs2[5]? = some y := ⟨_, List.getElem?_eq_getElem (by omega)⟩
  have g2_5 : DataW.trod enc Tryz.prog W 0 (fun _ => true) true n2 3 [c2_5] = some y2_5 := by rw [← ey2_5]; exact hx2 5 _ rfl
  obtain ⟨a2_5, e2_5, rfl, w2_5⟩ := DataW.trod_int Tryz.underlying3 g2_5
  simp at e2_5
  subst e2_5
  have k3 := h3
  have lt3 : ∀ x ∈ p3, x.block < W.heap.size := by obtain ⟨m, hm⟩ := k3; exact DataW.trod_lt m _ _ _ hm
  obtain ⟨cs3, rfl, hsz3⟩ := okWide_struct Tryz.underlying23 (hval 3 23 v3 rfl rfl)
  obtain ⟨c3_0, c3_1, c3_2, c3_3, c3_4, c3_5, rfl⟩ := arr6 (hsz3.trans (by kernel_rfl))
  obtain ⟨fu3, hf3⟩ := h3
  obtain ⟨xs3, n3, _, _, _, hl3, hx3⟩ := DataW.trod_struct Tryz.underlying23 (show DataW.trod enc Tryz.prog W 0 (fun _ => true) true _ 23 [c3_0, c3_1, c3_2, c3_3, c3_4, c3_5] = some _ from hf3)
  simp at hl3
  obtain ⟨y3_0, ey3_0⟩ : ∃ y, xs3[0]? = some y := ⟨_, List.getElem?_eq_getElem (by omega)⟩
  have g3_0 : DataW.trod enc Tryz.prog W 0 (fun _ => true) true n3 3 [c3_0] = some y3_0 := by rw [← ey3_0]; exact hx3 0 _ rfl
  obtain ⟨a3_0, e3_0, rfl, w3_0⟩ := DataW.trod_int Tryz.underlying3 g3_0
  simp at e3_0
  subst e3_0
  obtain ⟨y3_1, ey3_1⟩ : ∃ y, xs3[1]? = some y := ⟨_, List.getElem?_eq_getElem (by omega)⟩
  have g3_1 : DataW.trod enc Tryz.prog W 0 (fun _ => true) true n3 3 [c3_1] = some y3_1 := by rw [← ey3_1]; exact hx3 1 _ rfl
  obtain ⟨a3_1, e3_1, rfl, w3_1⟩ := DataW.trod_int Tryz.underlying3 g3_1
  simp at e3_1
  subst e3_1
  obtain ⟨y3_2, ey3_2⟩ : ∃ y, xs3[2]? = some y := ⟨_, List.getElem?_eq_getElem (by omega)⟩
  have g3_2 : DataW.trod enc Tryz.prog W 0 (fun _ => true) true n3 3 [c3_2] = some y3_2 := by rw [← ey3_2]; exact hx3 2 _ rfl
  obtain ⟨a3_2, e3_2, rfl, w3_2⟩ := DataW.trod_int Tryz.underlying3 g3_2
  simp at e3_2
  subst e3_2
  obtain ⟨y3_3, ey3_3⟩ : ∃ y, xs3[3]? = some y := ⟨_, List.getElem?_eq_getElem (by omega)⟩
  have g3_3 : DataW.trod enc Tryz.prog W 0 (fun _ => true) true n3 3 [c3_3] = some y3_3 := by rw [← ey3_3]; exact hx3 3 _ rfl
  obtain ⟨a3_3, e3_3, rfl, w3_3⟩ := DataW.trod_int Tryz.underlying3 g3_3
  simp at e3_3
  subst e3_3
  obtain ⟨y3_4, ey3_4⟩ : ∃ y, xs3[4]? = some y := ⟨_, List.getElem?_eq_getElem (by omega)⟩
  have g3_4 : DataW.trod enc Tryz.prog W 0 (fun _ => true) true n3 3 [c3_4] = some y3_4 := by rw [← ey3_4]; exact hx3 4 _ rfl
  obtain ⟨a3_4, e3_4, rfl, w3_4⟩ := DataW.trod_int Tryz.underlying3 g3_4
  simp at e3_4
  subst e3_4
  obtain ⟨y3_5, ey3_5⟩ : ∃ y, xs3[5]? = some y := ⟨_, List.getElem?_eq_getElem (by omega)⟩
  have g3_5 : DataW.trod enc Tryz.prog W 0 (fun _ => true) true n3 3 [c3_5] = some y3_5 := by rw [← ey3_5]; exact hx3 5 _ rfl
  obtain ⟨a3_5, e3_5, rfl, w3_5⟩ := DataW.trod_int Tryz.underlying3 g3_5
  simp at e3_5
  subst e3_5
  clear hA0 hval0
  refine (show Calls Tryz.prog 4 #[.string a0, .int .i64 a1, .agg #[.int .i64 a2_0, .int .i64 a2_1, .int .i64 a2_2, .int .i64 a2_3, .int .i64 a2_4, .int .i64 a2_5], .agg #[.int .i64 a3_0, .int .i64 a3_1, .int .i64 a3_2, .int .i64 a3_3, .int .i64 a3_4, .int .i64 a3_5]] W fun e w' => e = .returned (.bool true) ∧ Below W.heap.size W w' from l9_.defaults a0 a1 a2_0 a2_1 a2_2 a2_3 a2_4 a2_5 a3_0 a3_1 a3_2 a3_3 a3_4 a3_5 W  w0 w1 w2_0 w2_1 w2_2 w2_3 w2_4 w2_5 w3_0 w3_1 w3_2 w3_3 w3_4 w3_5).mono fun e W' ⟨he, bel⟩ => ?_
  subst he
  exact ⟨_, rfl, _, _, _, [], _, [], hW', trodAll_mk1 (shut_bool Tryz.underlying4 _), (trodAll_cons_mk (Below.trod laidOut (by kernel_rfl) (of_decide_eq_true (by kernel_rfl)) k0 bel lt0) (trodAll_cons_mk (Below.trod laidOut (by kernel_rfl) (of_decide_eq_true (by kernel_rfl)) k1 bel lt1) (trodAll_cons_mk (Below.trod laidOut (by kernel_rfl) (of_decide_eq_true (by kernel_rfl)) k2 bel lt2) (trodAll_cons_mk (Below.trod laidOut (by kernel_rfl) (of_decide_eq_true (by kernel_rfl)) k3 bel lt3) trodAll_mk0)))), rfl, bel.frame _, fun h => by cases h⟩

theorem over : Rows.posixtzDefaultsRow.holds Tryz.pinned (OpenSpec.ofChange Rows.posixtzDefaultsSpec) :=
  OpenClaim.holds_of_wide 4 Tryz.f4 rfl rfl rfl rfl rfl rfl rfl ⟨rfl, rfl, rfl, rfl, rfl⟩ rfl rfl rfl rfl rfl (by kernel_rfl) Tryz.func4 (by kernel_rfl)
    (of_decide_eq_true (by kernel_rfl)) (by unfold Func.isWrapper; first | (rw [if_pos (by decide +kernel)]; kernel_rfl) | (rw [if_neg (by decide +kernel)]; exact ⟨rfl, rfl⟩))
    (fun os started H enc _ => lifted os started H enc)

theorem proved : Rows.PosixtzDefaultsCardSaid :=
  Claim7.holds_tied_plain_at .later [] [.data, .data, .data, .data, .sentinel, .sentinel, .pinned] true (true, "d26b05d1273d133620931d1bc1aeb35ac24517c8fcd7e3a5089e046e4bae419d") true
    over (fun _ h => by cases h) (by kernel_rfl) (fun _ h => by cases h) Go.Proofs.YtjjmkbofddbnnaaGreatDoor.posixtzDefaults_row_tie rfl ⟨rfl, rfl⟩ (by kernel_rfl) rfl
    (fun f fn hf hfn => by
      obtain rfl : f = 4 := Option.some.inj ((show Tryz.prog.funcNamed "zoneinfo/zoneinfolaw09.PosixtzDefaults" = some 4 by kernel_rfl).symm.trans hf) |>.symm
      obtain rfl : fn = Tryz.f4 := (Option.some.inj (Tryz.func4.symm.trans hfn)).symm
      exact ⟨by kernel_rfl, fun j t ht => by
        rw [Tryz.params4] at ht
        have hm : t ∈ [9, 3, 23, 23] := by simpa using Array.mem_of_getElem? ht
        have hall : ([9, 3, 23, 23].all fun u => !Tryz.prog.wantsStandIn u) = true := by kernel_rfl
        exact (show Tryz.prog.wantsStandIn t = false by simpa using List.all_eq_true.1 hall t hm)⟩)
    (by kernel_rfl)
#print axioms proved
end Go.Proofs.YtjjmkbofddbnnaaGreatDoor.posixtzDefaults

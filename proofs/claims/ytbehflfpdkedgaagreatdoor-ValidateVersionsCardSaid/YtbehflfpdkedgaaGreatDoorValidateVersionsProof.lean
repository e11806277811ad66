/-
  The statement Rows.ValidateVersionsCardSaid: for every input the law ValidateVersions of zoneinfolaw20 returns true and leaves its arguments as they read before. Conditions: none beside the row's own: the listed package-level tables start as the program's text lays them, and the card ties them to that text.
-/
import Derived.Test.YtbehflfpdkedgaaGreatDoorRows
import Derived.Test.YtbehflfpdkedgaaGreatDoorCards
import Derived.Test.YtbehflfpdkedgaaGreatDoorTie
import Derived.Test.YtbehflfpdkedgaaGreatDoorQLaw20b
import Derived.Test.YtbehflfpdkedgaaGreatDoorQBkO
import Derived.Test.YtbehflfpdkedgaaGreatDoorQTbV
import Derived.WalkKit
import Derived.ProofKit
import Derived.OpenShut
import Derived.ShutString
import Derived.ChangeOld
import Derived.Below
import Derived.Lib.SmallJoins
import Derived.LaidMore
import Derived.Stop.Joined
import Derived.SevenTiedAt
import Derived.Lay
import Derived.MakeChecks
namespace Go.Proofs.YtbehflfpdkedgaaGreatDoor.validateVersions
open Go.ChangeShapes Go.WideShapes Go.ChangeAt Go.RowKit
open Go.ChangeMaps (open_string shut_string)
set_option linter.unusedVariables false

theorem own : ownKnob Tryz.prog.godebug = none := by kernel_rfl
theorem laidOut : laidOutB Tryz.prog = true := by kernel_rfl
theorem arr7 {cs : Array Value} (h : cs.size = 7) : ∃ c0 c1 c2 c3 c4 c5 c6, cs = #[c0, c1, c2, c3, c4, c5, c6] := by
  obtain ⟨l⟩ := cs
  match l, h with
  | [c0, c1, c2, c3, c4, c5, c6], _ => exact ⟨c0, c1, c2, c3, c4, c5, c6, rfl⟩
theorem arr16 {cs : Array Value} (h : cs.size = 16) : ∃ c0 c1 c2 c3 c4 c5 c6 c7 c8 c9 c10 c11 c12 c13 c14 c15, cs = #[c0, c1, c2, c3, c4, c5, c6, c7, c8, c9, c10, c11, c12, c13, c14, c15] := by
  obtain ⟨l⟩ := cs
  match l, h with
  | [c0, c1, c2, c3, c4, c5, c6, c7, c8, c9, c10, c11, c12, c13, c14, c15], _ => exact ⟨c0, c1, c2, c3, c4, c5, c6, c7, c8, c9, c10, c11, c12, c13, c14, c15, rfl⟩
section
variable {H : Type} {enc : TypeId × Value → H} {P : Program} {w : World} {base : Nat} {held : Bool}
theorem open_rwv {t e : TypeId} {k : IntKind} {fuel : Nat} {v : Value} {x : DataW H × List MemPlace} (ht : P.underlying t = some (.slice e)) (he : P.underlying e = some (.int k)) (hC : P.cellsOf e = 1)
    (h : DataW.trod enc P w base (fun _ => true) held fuel t [v] = some x) : ∃ a len cap zs, v = .slice a len cap ∧ IsRw k w a len cap zs := by
  rcases open_ints ht he hC h with ⟨hcs, _⟩ | ⟨x, l, c, zs, hcs, _, hl, hm, hz, _, hcell, hwz⟩
  · simp at hcs
    exact ⟨none, 0, 0, [], hcs, .inl ⟨rfl, rfl, rfl, rfl⟩⟩
  · simp at hcs
    exact ⟨_, _, _, zs, hcs, .inr ⟨_, rfl, hl, hm, by simpa using hz, hcell, hwz⟩⟩
theorem open_rw {t e : TypeId} {k : IntKind} {fuel : Nat} {a : Option Addr} {len cap : Nat} {x : DataW H × List MemPlace} (ht : P.underlying t = some (.slice e)) (he : P.underlying e = some (.int k)) (hC : P.cellsOf e = 1)
    (h : DataW.trod enc P w base (fun _ => true) held fuel t [.slice a len cap] = some x) : ∃ zs, IsRw k w a len cap zs := by
  obtain ⟨_, _, _, zs, hv, hz⟩ := open_rwv ht he hC h
  cases hv
  exact ⟨zs, hz⟩
end

set_option maxRecDepth 100000 in
theorem lifted (os : Os) (started : os.Started) (H : Type) (enc : TypeId × Value → H) :
    ReturnsInHanded {} Tryz.checked os 5 .any (fun w args => (Rows.validateVersionsSpec.pre enc Tryz.prog Tryz.f5 [] false w args ∧ laidMetH Tryz.prog Rows.validateVersionsRow.laid w) ∧ sizedMet enc Tryz.prog Tryz.f5 (OpenSpec.ofChange Rows.validateVersionsSpec) false w args) (Rows.validateVersionsSpec.post enc Tryz.prog Tryz.f5 false true false false) := by
  refine returnsInHanded_of_change_and (C := Tryz.checked) (X := fun w _ => laidMetH Tryz.prog Rows.validateVersionsRow.laid w) (fun _ _ _ hh h => h.of_heap hh) own started (by kernel_rfl) Tryz.func5
    (ChangeSpec.witness_shaped (enc := enc) (C := Tryz.checked) (os := os) (X := fun w _ => laidMetH Tryz.prog Rows.validateVersionsRow.laid w) false (World.laidAll Tryz.prog os Rows.validateVersionsRow.laid) #[.agg #[.int .i64 0, .slice none 0 0, .slice none 0 0, .slice none 0 0, .slice none 0 0, .slice none 0 0, .slice none 0 0, .slice none 0 0, .slice none 0 0, .slice none 0 0, .slice none 0 0, .slice none 0 0, .slice none 0 0, .slice none 0 0, .slice none 0 0, .string ⟨#[]⟩], .agg #[.slice none 0 0, .slice none 0 0, .slice none 0 0, .slice none 0 0, .slice none 0 0, .slice none 0 0, .slice none 0 0]] 8 (World.laidAll_os _ _ _)
      (World.shaped_of_ZipB (by kernel_rfl) (by kernel_rfl)) (by kernel_rfl) (by kernel_rfl) (by kernel_rfl)
      (by rw [MakeChecks.laidMetH_plain _ _ _ (by kernel_rfl)]; exact laidMet_laidAll _ (by kernel_rfl) (by kernel_rfl))) ?_
  intro W base args ds gs before hval0 hW _ _ hL _
  have hval : ∀ (j : Nat) t v, Tryz.f5.params[j]? = some t → args[j]? = some v → Value.okWide Tryz.prog W .any base t v := hval0
  have hW' := hW
  obtain ⟨p, q, hA0, hV, rfl, hfz, hnd⟩ := hW
  have hA : DataW.TrodAll enc Tryz.prog W 0 (fun _ => true) true Tryz.f5.params.toList args.toList ds p := hA0
  rw [Tryz.params5] at hA hval
  obtain ⟨v0, vs0, d0, ds0, p0, q0, hargs, rfl, rfl, h0, r0⟩ := trodAll_cons hA
  obtain ⟨v1, vs1, d1, ds1, p1, q1, rfl, rfl, rfl, h1, r1⟩ := trodAll_cons r0
  obtain ⟨rfl, rfl, rfl⟩ := trodAll_nil r1
  obtain rfl : args = #[v0, v1] := by cases args; simp_all
  obtain ⟨rfl, rfl⟩ := trodVars_none hV
  have k0 := h0
  have lt0 : ∀ x ∈ p0, x.block < W.heap.size := by obtain ⟨m, hm⟩ := k0; exact DataW.trod_lt m _ _ _ hm
  obtain ⟨cs0, rfl, hsz0⟩ := okWide_struct Tryz.underlying30 (hval 0 30 v0 rfl rfl)
  obtain ⟨c0_0, c0_1, c0_2, c0_3, c0_4, c0_5, c0_6, c0_7, c0_8, c0_9, c0_10, c0_11, c0_12, c0_13, c0_14, c0_15, rfl⟩ := arr16 (hsz0.trans (by kernel_rfl))
  obtain ⟨fu0, hf0⟩ := h0
  obtain ⟨xs0, n0, _, _, _, hl0, hx0⟩ := DataW.trod_struct Tryz.underlying30 (show DataW.trod enc Tryz.prog W 0 (fun _ => true) true _ 30 [c0_0, c0_1, c0_2, c0_3, c0_4, c0_5, c0_6, c0_7, c0_8, c0_9, c0_10, c0_11, c0_12, c0_13, c0_14, c0_15] = some _ from hf0)
  simp at hl0
  obtain ⟨y0_0, ey0_0⟩ : ∃ y, xs0[0]? = some y := ⟨_, List.getElem?_eq_getElem (by omega)⟩
  have g0_0 : DataW.trod enc Tryz.prog W 0 (fun _ => true) true n0 3 [c0_0] = some y0_0 := by rw [← ey0_0]; exact hx0 0 _ rfl
  obtain ⟨a0_0, e0_0, rfl, w0_0⟩ := DataW.trod_int Tryz.underlying3 g0_0
  simp at e0_0
  subst e0_0
  obtain ⟨y0_1, ey0_1⟩ : ∃ y, xs0[1]? = some y := ⟨_, List.getElem?_eq_getElem (by omega)⟩
  have g0_1 : DataW.trod enc Tryz.prog W 0 (fun _ => true) true n0 28 [c0_1, c0_2, c0_3, c0_4, c0_5, c0_6, c0_7] = some y0_1 := by rw [← ey0_1]; exact hx0 1 _ rfl
  obtain ⟨S0_1, B0_1, rfl, rfl, rfl, rfl, rfl, rfl, rfl, w0_1⟩ := open_bk g0_1
  obtain ⟨y0_2, ey0_2⟩ : ∃ y, xs0[2]? = some y := ⟨_, List.getElem?_eq_getElem (by omega)⟩
  have g0_2 : DataW.trod enc Tryz.prog W 0 (fun _ => true) true n0 28 [c0_8, c0_9, c0_10, c0_11, c0_12, c0_13, c0_14] = some y0_2 := by rw [← ey0_2]; exact hx0 2 _ rfl
  obtain ⟨S0_2, B0_2, rfl, rfl, rfl, rfl, rfl, rfl, rfl, w0_2⟩ := open_bk g0_2
  obtain ⟨y0_3, ey0_3⟩ : ∃ y, xs0[3]? = some y := ⟨_, List.getElem?_eq_getElem (by omega)⟩
  have g0_3 : DataW.trod enc Tryz.prog W 0 (fun _ => true) true n0 9 [c0_15] = some y0_3 := by rw [← ey0_3]; exact hx0 3 _ rfl
  obtain ⟨a0_3, e0_3, _, w0_3⟩ := DataW.trod_string Tryz.underlying9 g0_3
  simp at e0_3
  subst e0_3
  have k1 := h1
  have lt1 : ∀ x ∈ p1, x.block < W.heap.size := by obtain ⟨m, hm⟩ := k1; exact DataW.trod_lt m _ _ _ hm
  obtain ⟨cs1, rfl, hsz1⟩ := okWide_struct Tryz.underlying28 (hval 1 28 v1 rfl rfl)
  obtain ⟨c1_0, c1_1, c1_2, c1_3, c1_4, c1_5, c1_6, rfl⟩ := arr7 (hsz1.trans (by kernel_rfl))
  obtain ⟨fu1, hf1⟩ := h1
  obtain ⟨S1, B1, rfl, rfl, rfl, rfl, rfl, rfl, rfl, w1⟩ := open_bk hf1
  clear hA0 hval0
  refine (show Calls Tryz.prog 5 #[.agg #[.int .i64 a0_0, .slice S0_1.ti.A S0_1.ti.n S0_1.ti.c, .slice S0_1.ix.A S0_1.ix.n S0_1.ix.c, .slice S0_1.ty.A S0_1.ty.n S0_1.ty.c, .slice S0_1.ch.A S0_1.ch.n S0_1.ch.c, .slice S0_1.lp.A S0_1.lp.n S0_1.lp.c, .slice S0_1.sd.A S0_1.sd.n S0_1.sd.c, .slice S0_1.ut.A S0_1.ut.n S0_1.ut.c, .slice S0_2.ti.A S0_2.ti.n S0_2.ti.c, .slice S0_2.ix.A S0_2.ix.n S0_2.ix.c, .slice S0_2.ty.A S0_2.ty.n S0_2.ty.c, .slice S0_2.ch.A S0_2.ch.n S0_2.ch.c, .slice S0_2.lp.A S0_2.lp.n S0_2.lp.c, .slice S0_2.sd.A S0_2.sd.n S0_2.sd.c, .slice S0_2.ut.A S0_2.ut.n S0_2.ut.c, .string a0_3], .agg #[.slice S1.ti.A S1.ti.n S1.ti.c, .slice S1.ix.A S1.ix.n S1.ix.c, .slice S1.ty.A S1.ty.n S1.ty.c, .slice S1.ch.A S1.ch.n S1.ch.c, .slice S1.lp.A S1.lp.n S1.lp.c, .slice S1.sd.A S1.sd.n S1.sd.c, .slice S1.ut.A S1.ut.n S1.ut.c]] W fun e w' => e = .returned (.bool true) ∧ Below W.heap.size W w' from l20_.versions a0_0 S0_1 B0_1 S0_2 B0_2 a0_3 S1 B1 W (tv_of hL) w0_0 w0_1 w0_2 w0_3 w1).mono fun e W' ⟨he, bel⟩ => ?_
  subst he
  exact ⟨_, rfl, _, _, _, [], _, [], hW', trodAll_mk1 (shut_bool Tryz.underlying4 _), (trodAll_cons_mk (Below.trod laidOut (by kernel_rfl) (of_decide_eq_true (by kernel_rfl)) k0 bel lt0) (trodAll_cons_mk (Below.trod laidOut (by kernel_rfl) (of_decide_eq_true (by kernel_rfl)) k1 bel lt1) trodAll_mk0)), rfl, bel.frame _, fun h => by cases h⟩

theorem over : Rows.validateVersionsRow.holds Tryz.pinned (OpenSpec.ofChange Rows.validateVersionsSpec) :=
  OpenClaim.holds_of_wide 5 Tryz.f5 rfl rfl rfl rfl rfl rfl rfl ⟨rfl, rfl, rfl, rfl, rfl⟩ rfl rfl rfl rfl rfl (by kernel_rfl) Tryz.func5 (by kernel_rfl)
    (of_decide_eq_true (by kernel_rfl)) (by unfold Func.isWrapper; first | (rw [if_pos (by decide +kernel)]; kernel_rfl) | (rw [if_neg (by decide +kernel)]; exact ⟨rfl, rfl⟩))
    (fun os started H enc _ => lifted os started H enc)

theorem proved : Rows.ValidateVersionsCardSaid :=
  Claim7.holds_tied_plain_at .later [] [.data, .data, .data, .data, .data, .sentinel, .sentinel, .pinned] true (true, "ad0671a349c8b92627292abadcc4904b96ebd7d67d9aa131589319f43f609fa8") true
    over (fun _ h => by cases h) (by kernel_rfl) (fun _ h => by cases h) Go.Proofs.YtbehflfpdkedgaaGreatDoor.validateVersions_row_tie rfl ⟨rfl, rfl⟩ (by kernel_rfl) rfl
    (fun f fn hf hfn => by
      obtain rfl : f = 5 := Option.some.inj ((show Tryz.prog.funcNamed "zoneinfo/zoneinfolaw20.ValidateVersions" = some 5 by kernel_rfl).symm.trans hf) |>.symm
      obtain rfl : fn = Tryz.f5 := (Option.some.inj (Tryz.func5.symm.trans hfn)).symm
      exact ⟨by kernel_rfl, fun j t ht => by
        rw [Tryz.params5] at ht
        have hm : t ∈ [30, 28] := by simpa using Array.mem_of_getElem? ht
        have hall : ([30, 28].all fun u => !Tryz.prog.wantsStandIn u) = true := by kernel_rfl
        exact (show Tryz.prog.wantsStandIn t = false by simpa using List.all_eq_true.1 hall t hm)⟩)
    (by kernel_rfl)
#print axioms proved
end Go.Proofs.YtbehflfpdkedgaaGreatDoor.validateVersions

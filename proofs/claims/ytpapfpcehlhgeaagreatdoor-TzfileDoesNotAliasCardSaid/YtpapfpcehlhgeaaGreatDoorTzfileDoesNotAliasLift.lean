/-
  The statement Rows.TzfileDoesNotAliasCardSaid: for every input the law TzfileDoesNotAlias of zoneinfolaw21 returns true and leaves its arguments as they read before. Conditions: none beside the row's own: the listed package-level tables start as the program's text lays them, and the card ties them to that text.
-/
import Derived.Test.YtpapfpcehlhgeaaGreatDoorRows
import Derived.Test.YtpapfpcehlhgeaaGreatDoorCards
import Derived.Test.YtpapfpcehlhgeaaGreatDoorTie
import Derived.Test.YtpapfpcehlhgeaaGreatDoorELaw21e
import Derived.Test.YtpapfpcehlhgeaaGreatDoorEBkO
import Derived.Test.YtpapfpcehlhgeaaGreatDoorETbZ
import Derived.WalkKit
import Derived.ProofKit
import Derived.OpenShut
import Derived.ShutString
import Derived.ChangeOld
import Derived.Below
import Derived.Lib.SmallJoins
import Derived.LaidMore
import Derived.Stop.Joined
import Derived.SevenTiedAt
import Derived.Lay
import Derived.MakeChecks
namespace Go.Proofs.YtpapfpcehlhgeaaGreatDoor.tzfileDoesNotAlias
open Go.ChangeShapes Go.WideShapes Go.ChangeAt Go.RowKit
open Go.ChangeMaps (open_string shut_string)
set_option linter.unusedVariables false

theorem own : ownKnob Tryz.prog.godebug = none := by kernel_rfl
theorem laidOut : laidOutB Tryz.prog = true := by kernel_rfl
theorem arr16 {cs : Array Value} (h : cs.size = 16) : ∃ c0 c1 c2 c3 c4 c5 c6 c7 c8 c9 c10 c11 c12 c13 c14 c15, cs = #[c0, c1, c2, c3, c4, c5, c6, c7, c8, c9, c10, c11, c12, c13, c14, c15] := by
  obtain ⟨l⟩ := cs
  match l, h with
  | [c0, c1, c2, c3, c4, c5, c6, c7, c8, c9, c10, c11, c12, c13, c14, c15], _ => exact ⟨c0, c1, c2, c3, c4, c5, c6, c7, c8, c9, c10, c11, c12, c13, c14, c15, rfl⟩
section
variable {H : Type} {enc : TypeId × Value → H} {P : Program} {w : World} {base : Nat} {held : Bool}
theorem open_rwv {t e : TypeId} {k : IntKind} {fuel : Nat} {v : Value} {x : DataW H × List MemPlace} (ht : P.underlying t = some (.slice e)) (he : P.underlying e = some (.int k)) (hC : P.cellsOf e = 1)
    (h : DataW.trod enc P w base (fun _ => true) held fuel t [v] = some x) : ∃ a len cap zs, v = .slice a len cap ∧ IsRw k w a len cap zs := by
  rcases open_ints ht he hC h with ⟨hcs, _⟩ | ⟨x, l, c, zs, hcs, _, hl, hm, hz, _, hcell, hwz⟩
  · simp at hcs
    exact ⟨none, 0, 0, [], hcs, .inl ⟨rfl, rfl, rfl, rfl⟩⟩
  · simp at hcs
    exact ⟨_, _, _, zs, hcs, .inr ⟨_, rfl, hl, hm, by simpa using hz, hcell, hwz⟩⟩
theorem open_rw {t e : TypeId} {k : IntKind} {fuel : Nat} {a : Option Addr} {len cap : Nat} {x : DataW H × List MemPlace} (ht : P.underlying t = some (.slice e)) (he : P.underlying e = some (.int k)) (hC : P.cellsOf e = 1)
    (h : DataW.trod enc P w base (fun _ => true) held fuel t [.slice a len cap] = some x) : ∃ zs, IsRw k w a len cap zs := by
  obtain ⟨_, _, _, zs, hv, hz⟩ := open_rwv ht he hC h
  cases hv
  exact ⟨zs, hz⟩
end

/-- a world in which the listed tables are laid, and the type that a package variable holds. -/
noncomputable def wit0 (os : Os) : World := (World.holding Tryz.prog os ⟨#[], #[], []⟩).setCell ⟨3, 0, none⟩ (.iface 294 (.agg #[typeHandle Tryz.prog 231]))
noncomputable def wit (os : Os) : World := (wit0 os).layVars Tryz.prog (Rows.tzfileDoesNotAliasRow.laid.filter fun x => x.2.handleName?.isNone)
theorem wit_os (os : Os) : (wit os).os = os := (World.layVars_os _ _ _).trans rfl
theorem wit_met (os : Os) (args : Array Value) : laidMetH Tryz.prog Rows.tzfileDoesNotAliasRow.laid ((wit os).forCall (fun _ _ => 0) ⟨#[], args, []⟩).memory := by
  refine laidMetH_of_parts ?_ (by kernel_rfl)
  have e1 : ∀ l : List (String × DataW Unit), (l.filter fun x => (l.map (·.1)).contains x.1) = l := fun l => List.filter_eq_self.2 fun x hx => List.contains_iff_mem.2 (List.mem_map.2 ⟨x, hx, rfl⟩)
  have e2 : ∀ l : List (String × DataW Unit), (l.filter fun x => !(l.map (·.1)).contains x.1) = [] := fun l => List.filter_eq_nil_iff.2 fun x hx => by rw [List.contains_iff_mem.2 (List.mem_map.2 ⟨x, hx, rfl⟩)]; simp
  have h : laidMet Tryz.prog (Rows.tzfileDoesNotAliasRow.laid.filter fun x => x.2.handleName?.isNone) (wit os) := laidMet_layVars (w0 := wit0 os) ((Rows.tzfileDoesNotAliasRow.laid.filter fun x => x.2.handleName?.isNone).map (·.1)) [] (by rw [e1]; rfl) (by rw [e1]; kernel_rfl) (by rw [e1]; kernel_rfl) (by rw [e2]; exact LaidIn.none)
  exact h.of_heap (by simp [World.memory, World.forCall, Input.heap])

set_option maxRecDepth 100000 in
theorem lifted (os : Os) (started : os.Started) (H : Type) (enc : TypeId × Value → H) :
    ReturnsInHanded {} Tryz.checked os 7 .any (fun w args => (Rows.tzfileDoesNotAliasSpec.pre enc Tryz.prog Tryz.f7 [] false w args ∧ laidMetH Tryz.prog Rows.tzfileDoesNotAliasRow.laid w) ∧ sizedMet enc Tryz.prog Tryz.f7 (OpenSpec.ofChange Rows.tzfileDoesNotAliasSpec) false w args) (Rows.tzfileDoesNotAliasSpec.post enc Tryz.prog Tryz.f7 false true false false) := by
  refine returnsInHanded_of_change_and (C := Tryz.checked) (X := fun w _ => laidMetH Tryz.prog Rows.tzfileDoesNotAliasRow.laid w) (fun _ _ _ hh h => h.of_heap hh) own started (by kernel_rfl) Tryz.func7
    (ChangeSpec.witness_shaped (enc := enc) (C := Tryz.checked) (os := os) (X := fun w _ => laidMetH Tryz.prog Rows.tzfileDoesNotAliasRow.laid w) false (wit os) #[.slice none 0 0, .agg #[.int .i64 0, .slice none 0 0, .slice none 0 0, .slice none 0 0, .slice none 0 0, .slice none 0 0, .slice none 0 0, .slice none 0 0, .slice none 0 0, .slice none 0 0, .slice none 0 0, .slice none 0 0, .slice none 0 0, .slice none 0 0, .slice none 0 0, .string ⟨#[]⟩]] 8 (wit_os os)
      (World.shaped_of_ZipB (by kernel_rfl) (by kernel_rfl)) (by kernel_rfl) (by kernel_rfl) (by kernel_rfl)
      (wit_met os _)) ?_
  intro W base args ds gs before hval0 hW _ _ hL _
  have hval : ∀ (j : Nat) t v, Tryz.f7.params[j]? = some t → args[j]? = some v → Value.okWide Tryz.prog W .any base t v := hval0
  have hW' := hW
  obtain ⟨p, q, hA0, hV, rfl, hfz, hnd⟩ := hW
  have hA : DataW.TrodAll enc Tryz.prog W 0 (fun _ => true) true Tryz.f7.params.toList args.toList ds p := hA0
  rw [Tryz.params7] at hA hval
  obtain ⟨v0, vs0, d0, ds0, p0, q0, hargs, rfl, rfl, h0, r0⟩ := trodAll_cons hA
  obtain ⟨v1, vs1, d1, ds1, p1, q1, rfl, rfl, rfl, h1, r1⟩ := trodAll_cons r0
  obtain ⟨rfl, rfl, rfl⟩ := trodAll_nil r1
  obtain rfl : args = #[v0, v1] := by cases args; simp_all
  obtain ⟨rfl, rfl⟩ := trodVars_none hV
  have k0 := h0
  have lt0 : ∀ x ∈ p0, x.block < W.heap.size := by obtain ⟨m, hm⟩ := k0; exact DataW.trod_lt m _ _ _ hm
  obtain ⟨a0, len0, cap0, rfl⟩ := okWide_slice Tryz.underlying22 (hval 0 22 v0 rfl rfl)
  obtain ⟨z0, w0⟩ : ∃ zs, IsRw .u8 W a0 len0 cap0 zs := by
    obtain ⟨fuel, hf⟩ := h0
    exact open_rw Tryz.underlying22 Tryz.underlying5 (by kernel_rfl) (by simpa [Value.cells] using hf)
  have k1 := h1
  have lt1 : ∀ x ∈ p1, x.block < W.heap.size := by obtain ⟨m, hm⟩ := k1; exact DataW.trod_lt m _ _ _ hm
  obtain ⟨cs1, rfl, hsz1⟩ := okWide_struct Tryz.underlying30 (hval 1 30 v1 rfl rfl)
  obtain ⟨c1_0, c1_1, c1_2, c1_3, c1_4, c1_5, c1_6, c1_7, c1_8, c1_9, c1_10, c1_11, c1_12, c1_13, c1_14, c1_15, rfl⟩ := arr16 (hsz1.trans (by kernel_rfl))
  obtain ⟨fu1, hf1⟩ := h1
  obtain ⟨xs1, n1, _, _, _, hl1, hx1⟩ := DataW.trod_struct Tryz.underlying30 (show DataW.trod enc Tryz.prog W 0 (fun _ => true) true _ 30 [c1_0, c1_1, c1_2, c1_3, c1_4, c1_5, c1_6, c1_7, c1_8, c1_9, c1_10, c1_11, c1_12, c1_13, c1_14, c1_15] = some _ from hf1)
  simp at hl1
  obtain ⟨y1_0, ey1_0⟩ : ∃ y, xs1[0]? = some y := ⟨_, List.getElem?_eq_getElem (by omega)⟩
  have g1_0 : DataW.trod enc Tryz.prog W 0 (fun _ => true) true n1 3 [c1_0] = some y1_0 := by rw [← ey1_0]; exact hx1 0 _ rfl
  obtain ⟨a1_0, e1_0, rfl, w1_0⟩ := DataW.trod_int Tryz.underlying3 g1_0
  simp at e1_0
  subst e1_0
  obtain ⟨y1_1, ey1_1⟩ : ∃ y, xs1[1]? = some y := ⟨_, List.getElem?_eq_getElem (by omega)⟩
  have g1_1 : DataW.trod enc Tryz.prog W 0 (fun _ => true) true n1 28 [c1_1, c1_2, c1_3, c1_4, c1_5, c1_6, c1_7] = some y1_1 := by rw [← ey1_1]; exact hx1 1 _ rfl
  obtain ⟨S1_1, B1_1, rfl, rfl, rfl, rfl, rfl, rfl, rfl, w1_1⟩ := open_bk g1_1
  obtain ⟨y1_2, ey1_2⟩ : ∃ y, xs1[2]? = some y := ⟨_, List.getElem?_eq_getElem (by omega)⟩
  have g1_2 : DataW.trod enc Tryz.prog W 0 (fun _ => true) true n1 28 [c1_8, c1_9, c1_10, c1_11, c1_12, c1_13, c1_14] = some y1_2 := by rw [← ey1_2]; exact hx1 2 _ rfl
  obtain ⟨S1_2, B1_2, rfl, rfl, rfl, rfl, rfl, rfl, rfl, w1_2⟩ := open_bk g1_2
  obtain ⟨y1_3, ey1_3⟩ : ∃ y, xs1[3]? = some y := ⟨_, List.getElem?_eq_getElem (by omega)⟩
  have g1_3 : DataW.trod enc Tryz.prog W 0 (fun _ => true) true n1 9 [c1_15] = some y1_3 := by rw [← ey1_3]; exact hx1 3 _ rfl
  obtain ⟨a1_3, e1_3, _, w1_3⟩ := DataW.trod_string Tryz.underlying9 g1_3
  simp at e1_3
  subst e1_3
  clear hA0 hval0
  refine (show Calls Tryz.prog 7 #[.slice a0 len0 cap0, .agg #[.int .i64 a1_0, .slice S1_1.ti.A S1_1.ti.n S1_1.ti.c, .slice S1_1.ix.A S1_1.ix.n S1_1.ix.c, .slice S1_1.ty.A S1_1.ty.n S1_1.ty.c, .slice S1_1.ch.A S1_1.ch.n S1_1.ch.c, .slice S1_1.lp.A S1_1.lp.n S1_1.lp.c, .slice S1_1.sd.A S1_1.sd.n S1_1.sd.c, .slice S1_1.ut.A S1_1.ut.n S1_1.ut.c, .slice S1_2.ti.A S1_2.ti.n S1_2.ti.c, .slice S1_2.ix.A S1_2.ix.n S1_2.ix.c, .slice S1_2.ty.A S1_2.ty.n S1_2.ty.c, .slice S1_2.ch.A S1_2.ch.n S1_2.ch.c, .slice S1_2.lp.A S1_2.lp.n S1_2.lp.c, .slice S1_2.sd.A S1_2.sd.n S1_2.sd.c, .slice S1_2.ut.A S1_2.ut.n S1_2.ut.c, .string a1_3]] W fun e w' => e = .returned (.bool true) ∧ Below W.heap.size W w' from l21_.alias_ a0 len0 cap0 z0 a1_0 S1_1 B1_1 S1_2 B1_2 a1_3 W (tz_of hL) w0 w1_0 w1_1 w1_2 w1_3).mono fun e W' ⟨he, bel⟩ => ?_
  subst he
  exact ⟨_, rfl, _, _, _, [], _, [], hW', trodAll_mk1 (shut_bool Tryz.underlying4 _), (trodAll_cons_mk (Below.trod laidOut (by kernel_rfl) (of_decide_eq_true (by kernel_rfl)) k0 bel lt0) (trodAll_cons_mk (Below.trod laidOut (by kernel_rfl) (of_decide_eq_true (by kernel_rfl)) k1 bel lt1) trodAll_mk0)), rfl, bel.frame _, fun h => by cases h⟩
end Go.Proofs.YtpapfpcehlhgeaaGreatDoor.tzfileDoesNotAlias

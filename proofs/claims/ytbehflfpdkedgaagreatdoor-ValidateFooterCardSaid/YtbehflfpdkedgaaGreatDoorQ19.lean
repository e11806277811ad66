/-
  Texts of mine in one file: RdRef, Mapf, Rv. Their conditions stand in the theorems.
-/
import Derived.Test.YtbehflfpdkedgaaGreatDoorQ02
import Derived.Test.YtbehflfpdkedgaaGreatDoorQ07
import Derived.Test.YtbehflfpdkedgaaGreatDoorQ01
import Derived.Maps.OwnSet
import Derived.Deep.RegionHeld3
import Derived.Deep.DeepCutAuto
namespace Go.Proofs.YtbehflfpdkedgaaGreatDoor
set_option linter.unusedVariables false
set_option linter.unusedSimpArgs false
set_option maxRecDepth 100000
set_option maxHeartbeats 16000000
open Go.ChangeShapes Go.WideShapes Go.ChangeAt Go.RowKit
def vrd (K D M Wk Wd T : Int) : Value := .agg #[.int .i64 K, .int .i64 D, .int .i64 M, .int .i64 Wk, .int .i64 Wd, .int .i64 T]
theorem cells6 {w : World} {g : Nat} {a b c d e f : Value} (h : Bx w g [a, b, c, d, e, f]) : w.cell? ⟨g, 0, none⟩ = some a ∧ w.cell? ⟨g, 1, none⟩ = some b ∧ w.cell? ⟨g, 2, none⟩ = some c ∧ w.cell? ⟨g, 3, none⟩ = some d ∧ w.cell? ⟨g, 4, none⟩ = some e ∧ w.cell? ⟨g, 5, none⟩ = some f :=
 ⟨h.2.1 0 _ rfl, h.2.1 1 _ rfl, h.2.1 2 _ rfl, h.2.1 3 _ rfl, h.2.1 4 _ rfl, h.2.1 5 _ rfl⟩
theorem flip6 {P : Program} {f : FuncId} {a : Array Value} {w : World} {x : Ending} (h : Calls P f a w fun e w' => e = x ∧ w = w') : Calls P f a w fun e w' => e = x ∧ w' = w := h.mono fun _ _ h => ⟨h.1, h.2.symm⟩
namespace r6_
theorem Valid (K D M Wk Wd T : Int) (w : World) : Calls Tryz.prog 114 #[vrd K D M Wk Wd T] w fun e w' => e = .returned (.bool (decide (RdOk K D M Wk Wd T))) ∧ Below w.heap.size w w' := by
 unfold vrd
 go_enter Tryz.func114, Tryz.ntmps114
 go_wp2
 all_goals go_ret
 all_goals
  refine ⟨retb ?_, bl_new _ _⟩
  rw [Bool.eq_iff_iff, decide_eq_true_iff]
  unfold RdOk
  simp_all
  try omega
end r6_
open Go.ChangeShapes Go.WideShapes Go.ChangeAt Go.RowKit Go.Maps
def heldE (v : Value) : Option (DataW Value × List MemPlace) := some (.held v, [])
theorem heldE_inv {v x : Value} {ps : List MemPlace} (h : heldE v = some (.held x, ps)) : v = x := by
 simp only [heldE, Option.some.injEq, Prod.mk.injEq, DataW.held.injEq] at h
 exact h.1
theorem own_below {w w' : World} {P : Program} {k : TypeId} {R : Value → Option (DataW Value × List MemPlace)} {b n : Nat} {D : DataW Value} (h : w.ownsMap P k R b n D) (hb : Below w.heap.size w w') : w'.ownsMap P k R b n D := by
 have hlt := h.lt
 obtain ⟨es, clock, h1, F, hs, hD⟩ := h
 exact ⟨es, clock, (hb.block b hlt).trans h1, F, hs, hD⟩
theorem wpList_insert_held {P : Program} (w : World) {ops : Array Oper} {rest : List Oper} {o : Oper} {a : Act} {Q : Exit → Act → World → Prop}
 (hg : o.guard = none) (m x v : Operand) (t : TypeId) (hop : o.op = Op.insert t m x v)
 (k e : TypeId) (K : Keyed P k) (ht : P.underlying t = some (.map k e)) (b n : Nat) (D : DataW Value)
 (hm : a.eval m = .map (some b)) (hown : w.ownsMap P k heldE b n D) (hn : n < maxLen) (key val : Value) (kl : Lit) (hx : a.eval x = key) (hv : a.eval v = val) (hkey : keyOf P k key = some kl)
 (hK : ∀ w', w'.ownsMap P k heldE b (n + 1) (D.put kl (.held val)) → w.grownBy w' (some b) → wpList P ops Q rest (a.put o.dst undef) w') :
 wpList P ops Q (o :: rest) a w := by
 refine wpList_plain hg fun K' hK' => ?_
 obtain ⟨w', hrun, r1, r2⟩ := hown.update (R := heldE) (val := val) (d := .held val) (ps := []) K ht hn hkey rfl
 unfold Oper.wp
 simp [execOp, hop, hm, hx, hv, hrun, Result.andThen]
 exact hK' _ _ (hK w' r1 r2)
theorem held_look {w : World} {P : Program} {k t e : TypeId} {b n : Nat} {D : DataW Value} (h : w.ownsMap P k heldE b n D) (K : Keyed P k) (ht : P.underlying t = some (.map k e)) (hz : (zeroValue e).run P w = .ok .nilFunc w)
 {key : Value} {kl : Lit} (hkey : keyOf P k key = some kl) {v : Value} (hv : D.atKey kl (.held .nilFunc) = .held v) : (Instr.lookup t (.map (some b)) key false).run P w = .ok v w := by
 obtain ⟨u, ps, hrun, hu⟩ := h.lookup K ht hz rfl hkey
 rw [hv] at hu
 rw [hrun, heldE_inv hu]
theorem held_look_ok {w : World} {P : Program} {k t e : TypeId} {b n : Nat} {D : DataW Value} (h : w.ownsMap P k heldE b n D) (K : Keyed P k) (ht : P.underlying t = some (.map k e)) (hz : (zeroValue e).run P w = .ok .nilFunc w)
 {key : Value} {kl : Lit} (hkey : keyOf P k key = some kl) {v : Value} {ok : Bool} (hv : D.atKey kl (.held .nilFunc) = .held v) (ho : Maps.has D kl = ok) : (Instr.lookup t (.map (some b)) key true).run P w = .ok (.tuple #[v, .bool ok]) w := by
 obtain ⟨u, ps, hrun, hu⟩ := h.look_ok K ht hz rfl hkey
 rw [hv] at hu
 rw [hrun, heldE_inv hu, ho]
def three (f1 f2 f3 : Value) : DataW Value := (((DataW.map []).put (.int .i64 1) (.held f1)).put (.int .i64 2) (.held f2)).put (.int .i64 3) (.held f3)
theorem three_is (f1 f2 f3 : Value) : three f1 f2 f3 = .map [(.int .i64 1, .held f1), (.int .i64 2, .held f2), (.int .i64 3, .held f3)] := by
 simp [three, DataW.put, DataW.insert, Lit.sameKey, Lit.before]
theorem three_1 (f1 f2 f3 : Value) : (three f1 f2 f3).atKey (.int .i64 1) (.held .nilFunc) = .held f1 ∧ Maps.has (three f1 f2 f3) (.int .i64 1) = true := by
 rw [three_is]; simp [DataW.atKey, Lit.sameKey, Maps.has]
theorem three_2 (f1 f2 f3 : Value) : (three f1 f2 f3).atKey (.int .i64 2) (.held .nilFunc) = .held f2 ∧ Maps.has (three f1 f2 f3) (.int .i64 2) = true := by
 rw [three_is]; simp [DataW.atKey, Lit.sameKey, Maps.has]
theorem three_3 (f1 f2 f3 : Value) : (three f1 f2 f3).atKey (.int .i64 3) (.held .nilFunc) = .held f3 ∧ Maps.has (three f1 f2 f3) (.int .i64 3) = true := by
 rw [three_is]; simp [DataW.atKey, Lit.sameKey, Maps.has]
theorem three_no (f1 f2 f3 : Value) {K : Int} (h1 : K ≠ 1) (h2 : K ≠ 2) (h3 : K ≠ 3) : (three f1 f2 f3).atKey (.int .i64 K) (.held .nilFunc) = .held .nilFunc ∧ Maps.has (three f1 f2 f3) (.int .i64 K) = false := by
 have a1 : ¬ (1 : Int) = K := fun e => h1 e.symm
 have a2 : ¬ (2 : Int) = K := fun e => h2 e.symm
 have a3 : ¬ (3 : Int) = K := fun e => h3 e.symm
 rw [three_is]; simp [DataW.atKey, Lit.sameKey, Maps.has, a1, a2, a3]
open Go.ChangeShapes Go.WideShapes Go.ChangeAt Go.RowKit Go.Maps
namespace rd_
theorem between_ (v a b : Int) (w : World) : Calls Tryz.prog 198 #[.int .i64 v, .int .i64 a, .int .i64 b] w fun e w' => e = .returned (.bool (decide (a ≤ v ∧ v ≤ b))) ∧ w = w' := by
 by_cases h : a ≤ v
 all_goals
  go_enter Tryz.func198, Tryz.ntmps198
  go_wp2
  go_ret
  exact ⟨retb (by first | (simp [h]; done) | (simp; omega)), rfl⟩
def fnN (g : Nat) : Value := .func (.func 225) #[] #[.pointer (some ⟨g, 0, none⟩)]
def fnM : Value := .func (.func 210) #[] #[]
theorem numbered_ (n : Int) (w : World) : Calls Tryz.prog 209 #[.int .i64 n] w fun e w' => e = .returned (fnN w.heap.size) ∧ Bx w' w.heap.size [.int .i64 n] ∧ Below w.heap.size w w' := by
 have hmf : ∀ (fn : Fn) (first cap : Array Value) (w : World), (Instr.makeFunc fn first cap).run Tryz.prog w = .ok (.func fn first cap) w := fun _ _ _ _ => rfl
 go_enter Tryz.func209, Tryz.ntmps209
 go_wp2
 go_ret
 exact ⟨rfl, Bx.new w [.int .i64 n] _, bl_new _ _⟩
def Chk (w : World) (B g1 g0 : Nat) : Prop :=
 w.ownsMap Tryz.prog 3 heldE B 3 (three (fnN g1) (fnN g0) fnM) ∧ Bx w g1 [.int .i64 1] ∧ Bx w g0 [.int .i64 0]
theorem Chk.below {w w' : World} {B g1 g0 : Nat} (h : Chk w B g1 g0) (hb : Below w.heap.size w w') : Chk w' B g1 g0 := ⟨own_below h.1 hb, h.2.1.below hb, h.2.2.below hb⟩
theorem law : Keyed Tryz.prog 3 := int_keyed Tryz.underlying3
theorem keyl {K : Int} (h : (Lit.int .i64 K).wf = true) : keyOf Tryz.prog 3 (.int .i64 K) = some (.int .i64 K) := keyOf_int_mk Tryz.underlying3 h
theorem checks_ (w : World) : Calls Tryz.prog 197 #[] w fun e w' => ∃ B g1 g0, e = .returned (.map (some B)) ∧ Chk w' B g1 g0 ∧ Below w.heap.size w w' := by
 have hmm := @run_makeMap Tryz.prog
 have o0 := hide (World.ownsMap_made w Tryz.prog 3 heldE)
 have b0 := hide (bl_new w (.map #[] 0))
 go_enter Tryz.func197, Tryz.ntmps197
 go_wp2_with fail
 refine (numbered_ 1 _).mono ?_
 rintro e w1 ⟨rfl, x1, h1⟩
 replace o0 := hide (own_below o0.out h1)
 replace b0 := hide (bel_next b0.out h1)
 have s1 := h1.size
 have z0 : (w.alloc (.map #[] 0)).heap.size = w.heap.size + 1 := by simp
 rw [z0] at s1 x1
 go_wp2_with (refine wpList_insert_held _ rfl _ _ _ 198 rfl 3 113 law Tryz.underlying198 w.heap.size 0 (.map []) rfl o0.out (by decide) _ (fnN (w.heap.size + 1)) (.int .i64 1) rfl rfl (keyl (by decide)) ?_; intro w2 o2 g2)
 have s2 := g2.size
 replace x1 := hide (x1.grown g2 (by simp))
 replace b0 := hide (b0.out.grown g2 (by omega) (fun j hj => by cases hj; omega))
 clear o0 g2 h1
 replace o2 := hide o2
 refine (numbered_ 0 _).mono ?_
 rintro e w3 ⟨rfl, x3, h3⟩
 have s3 := h3.size
 replace o2 := hide (own_below o2.out h3)
 replace x1 := hide (x1.out.below h3)
 replace b0 := hide (b0.out.trans (h3.mono (by omega)))
 replace x3 := hide x3
 clear h3
 go_wp2_with (first | (refine wpList_insert_held _ rfl _ _ _ 198 rfl 3 113 law Tryz.underlying198 w.heap.size 1 _ rfl o2.out (by decide) _ (fnN w2.heap.size) (.int .i64 2) rfl rfl (keyl (by decide)) ?_; intro w4 o4 g4) | (refine wpList_insert_held _ rfl _ _ _ 198 rfl 3 113 law Tryz.underlying198 w.heap.size 2 _ rfl (hide o4).out (by decide) _ fnM (.int .i64 3) rfl rfl (keyl (by decide)) ?_; intro w5 o5 g5))
 have s4 := g4.size
 have s5 := g5.size
 go_ret
 exact ⟨_, _, _, rfl, ⟨o5, (x1.out.grown g4 (by simp)).grown g5 (by simp), (x3.out.grown g4 (by simp; omega)).grown g5 (by simp; omega)⟩, (b0.out.grown g4 (by omega) (fun j hj => by cases hj; omega)).grown g5 (by omega) (fun j hj => by cases hj; omega)⟩
theorem month_ (K D M Wk Wd T : Int) (w : World) : Calls Tryz.prog 210 #[vrd K D M Wk Wd T] w fun e w' => e = .returned (.bool (decide (1 ≤ M ∧ M ≤ 12 ∧ 1 ≤ Wk ∧ Wk ≤ 5 ∧ 0 ≤ Wd ∧ Wd ≤ 6 ∧ D = 0))) ∧ Below w.heap.size w w' := by
 have A := hide (fun (v a b : Int) w => between_ v a b w)
 unfold vrd
 by_cases h1 : 1 ≤ M ∧ M ≤ 12
 all_goals by_cases h2 : 1 ≤ Wk ∧ Wk ≤ 5
 all_goals by_cases h3 : 0 ≤ Wd ∧ Wd ≤ 6
 all_goals
  go_enter Tryz.func210, Tryz.ntmps210
  go_wp2_with (go_at_call 198; refine (A.out _ _ _ _).mono ?_; rintro e w' ⟨rfl, rfl⟩)
  go_ret
  refine ⟨retb ?_, bl_new _ _⟩
  by_cases h4 : D = 0
  all_goals simp [h1, h2, h3, h4]
  all_goals try omega
theorem closed_ (n K D M Wk Wd T : Int) (w : World) (g : Nat) (hx : Bx w g [.int .i64 n]) : Calls Tryz.prog 225 #[vrd K D M Wk Wd T, .pointer (some ⟨g, 0, none⟩)] w fun e w' => e = .returned (.bool (decide (M = 0 ∧ Wk = 0 ∧ Wd = 0 ∧ n ≤ D ∧ D ≤ 365))) ∧ Below w.heap.size w w' := by
 have A := hide (fun (v a b : Int) w => between_ v a b w)
 unfold vrd
 obtain ⟨p, hp⟩ : ∃ p, p = decide (M = 0 ∧ Wk = 0 ∧ Wd = 0) := ⟨_, rfl⟩
 have hcmp : ∀ w : World, (binOp .eql 49 (.agg #[.int .i64 K, .int .i64 D, .int .i64 M, .int .i64 Wk, .int .i64 Wd, .int .i64 T]) (.agg #[.int .i64 K, .int .i64 D, .int .i64 0, .int .i64 0, .int .i64 0, .int .i64 T])).run Tryz.prog w = .ok (.bool p) w := by
  intro w
  rw [hp]
  simp [go_sem]
  by_cases a : M = 0 <;> by_cases b : Wk = 0 <;> by_cases c : Wd = 0 <;> simp [a, b, c]
 replace hp := hide hp
 have hc : ∀ o1 o2, ((w.alloc o1).alloc o2).cell? ⟨g, 0, none⟩ = some (.int .i64 n) := fun o1 o2 => (hx.alloc o1).alloc o2 |>.2.1 0 _ rfl
 have hb := hide (fun o1 o2 => bl_alloc (bl_new w o1) o2)
 clear hx
 cases p
 all_goals
  go_enter Tryz.func225, Tryz.ntmps225
  go_wp2_with (go_at_call 198; refine (A.out _ _ _ _).mono ?_; rintro e w' ⟨rfl, rfl⟩)
  go_ret
  refine ⟨retb ?_, hb.out _ _⟩
  have h := hp.out
 ·symm at h
  rw [decide_eq_false_iff_not] at h
  symm
  rw [decide_eq_false_iff_not]
  omega
 ·symm at h
  rw [decide_eq_true_iff] at h
  rw [Bool.eq_iff_iff, decide_eq_true_iff, Bool.and_eq_true, decide_eq_true_iff, decide_eq_true_iff]
  omega
theorem Valid1 (D M Wk Wd T : Int) (w : World) : Calls Tryz.prog 191 #[vrd 1 D M Wk Wd T] w fun e w' => e = .returned (.bool (decide (RdOk 1 D M Wk Wd T))) ∧ Below w.heap.size w w' := by
 have A := hide (fun (v a b : Int) w => between_ v a b w)
 have C := hide (fun w => checks_ w)
 have hb := hide (bl_new w (.cells #[.int .i64 1, .int .i64 D, .int .i64 M, .int .i64 Wk, .int .i64 Wd, .int .i64 T] 49))
 have bx := hide (Bx.new w [.int .i64 1, .int .i64 D, .int .i64 M, .int .i64 Wk, .int .i64 Wd, .int .i64 T] 49)
 have bxd := hide (bx.out.drew)
 have hbd := hide (bl_drew hb.out)
 have zf : ∀ w, (zeroValue 113).run Tryz.prog w = .ok .nilFunc w := fun _ => rfl
 unfold vrd
 go_enter Tryz.func191, Tryz.ntmps191
 go_upto_region 1 with fail
 go_region_with (go_at_call 197; refine (C.out _).mono ?_; rintro e w6 ⟨B, g1, g0, rfl, hc, h1'⟩; have hl := held_look_ok hc.1 law Tryz.underlying198 (zf _) (keyl (by decide)) (three_1 _ _ _).1 (three_1 _ _ _).2; simp only [fnN] at hl; obtain ⟨y0, y1, y2, y3, y4, y5⟩ := cells6 (Bx.below bxd.out h1'); have hbf := hide (bel_next hbd.out h1'); have bxf := hide (bxd.out.below h1'); replace hc := hide hc; clear h1')
 all_goals
  clear bx bxd hbd hb
  by_cases hT : -604799 ≤ T ∧ T ≤ 604799
  ·go_wp2_with (first
    | (go_at_call 198; refine (A.out _ _ _ _).mono ?_; rintro e w' ⟨rfl, rfl⟩)
    | (refine (closed_ 1 1 D M Wk Wd T _ _ hc.out.2.1).mono ?_; rintro e w7 ⟨rfl, h7⟩))
   go_ret
   refine ⟨retb ?_, bel_next hbf.out h7⟩
   rw [Bool.eq_iff_iff, decide_eq_true_iff]
   simp only [Bool.and_eq_true, decide_eq_true_eq]
   unfold RdOk
   omega
  ·go_wp2_with (go_at_call 198; refine (A.out _ _ _ _).mono ?_; rintro e w' ⟨rfl, rfl⟩)
   go_ret
   refine ⟨retb ?_, hbf.out⟩
   symm
   rw [decide_eq_false_iff_not]
   unfold RdOk
   omega
theorem Valid2 (D M Wk Wd T : Int) (w : World) : Calls Tryz.prog 191 #[vrd 2 D M Wk Wd T] w fun e w' => e = .returned (.bool (decide (RdOk 2 D M Wk Wd T))) ∧ Below w.heap.size w w' := by
 have A := hide (fun (v a b : Int) w => between_ v a b w)
 have C := hide (fun w => checks_ w)
 have hb := hide (bl_new w (.cells #[.int .i64 2, .int .i64 D, .int .i64 M, .int .i64 Wk, .int .i64 Wd, .int .i64 T] 49))
 have bx := hide (Bx.new w [.int .i64 2, .int .i64 D, .int .i64 M, .int .i64 Wk, .int .i64 Wd, .int .i64 T] 49)
 have bxd := hide (bx.out.drew)
 have hbd := hide (bl_drew hb.out)
 have zf : ∀ w, (zeroValue 113).run Tryz.prog w = .ok .nilFunc w := fun _ => rfl
 unfold vrd
 go_enter Tryz.func191, Tryz.ntmps191
 go_upto_region 1 with fail
 go_region_with (go_at_call 197; refine (C.out _).mono ?_; rintro e w6 ⟨B, g1, g0, rfl, hc, h1'⟩; have hl := held_look_ok hc.1 law Tryz.underlying198 (zf _) (keyl (by decide)) (three_2 _ _ _).1 (three_2 _ _ _).2; simp only [fnN] at hl; obtain ⟨y0, y1, y2, y3, y4, y5⟩ := cells6 (Bx.below bxd.out h1'); have hbf := hide (bel_next hbd.out h1'); have bxf := hide (bxd.out.below h1'); replace hc := hide hc; clear h1')
 all_goals
  clear bx bxd hbd hb
  by_cases hT : -604799 ≤ T ∧ T ≤ 604799
  ·go_wp2_with (first
    | (go_at_call 198; refine (A.out _ _ _ _).mono ?_; rintro e w' ⟨rfl, rfl⟩)
    | (refine (closed_ 0 2 D M Wk Wd T _ _ hc.out.2.2).mono ?_; rintro e w7 ⟨rfl, h7⟩))
   go_ret
   refine ⟨retb ?_, bel_next hbf.out h7⟩
   rw [Bool.eq_iff_iff, decide_eq_true_iff]
   simp only [Bool.and_eq_true, decide_eq_true_eq]
   unfold RdOk
   omega
  ·go_wp2_with (go_at_call 198; refine (A.out _ _ _ _).mono ?_; rintro e w' ⟨rfl, rfl⟩)
   go_ret
   refine ⟨retb ?_, hbf.out⟩
   symm
   rw [decide_eq_false_iff_not]
   unfold RdOk
   omega
theorem Valid3 (D M Wk Wd T : Int) (w : World) : Calls Tryz.prog 191 #[vrd 3 D M Wk Wd T] w fun e w' => e = .returned (.bool (decide (RdOk 3 D M Wk Wd T))) ∧ Below w.heap.size w w' := by
 have A := hide (fun (v a b : Int) w => between_ v a b w)
 have C := hide (fun w => checks_ w)
 have hb := hide (bl_new w (.cells #[.int .i64 3, .int .i64 D, .int .i64 M, .int .i64 Wk, .int .i64 Wd, .int .i64 T] 49))
 have bx := hide (Bx.new w [.int .i64 3, .int .i64 D, .int .i64 M, .int .i64 Wk, .int .i64 Wd, .int .i64 T] 49)
 have bxd := hide (bx.out.drew)
 have hbd := hide (bl_drew hb.out)
 have zf : ∀ w, (zeroValue 113).run Tryz.prog w = .ok .nilFunc w := fun _ => rfl
 unfold vrd
 go_enter Tryz.func191, Tryz.ntmps191
 go_upto_region 1 with fail
 go_region_with (go_at_call 197; refine (C.out _).mono ?_; rintro e w6 ⟨B, g1, g0, rfl, hc, h1'⟩; have hl := held_look_ok hc.1 law Tryz.underlying198 (zf _) (keyl (by decide)) (three_3 _ _ _).1 (three_3 _ _ _).2; simp only [fnM] at hl; obtain ⟨y0, y1, y2, y3, y4, y5⟩ := cells6 (Bx.below bxd.out h1'); have hbf := hide (bel_next hbd.out h1'); have bxf := hide (bxd.out.below h1'); replace hc := hide hc; clear h1')
 all_goals
  clear bx bxd hbd hb
  by_cases hT : -604799 ≤ T ∧ T ≤ 604799
  ·go_wp2_with (first
    | (go_at_call 198; refine (A.out _ _ _ _).mono ?_; rintro e w' ⟨rfl, rfl⟩)
    | (refine (month_ 3 D M Wk Wd T _).mono ?_; rintro e w7 ⟨rfl, h7⟩))
   go_ret
   refine ⟨retb ?_, bel_next hbf.out h7⟩
   rw [Bool.eq_iff_iff, decide_eq_true_iff]
   simp only [Bool.and_eq_true, decide_eq_true_eq]
   unfold RdOk
   omega
  ·go_wp2_with (go_at_call 198; refine (A.out _ _ _ _).mono ?_; rintro e w' ⟨rfl, rfl⟩)
   go_ret
   refine ⟨retb ?_, hbf.out⟩
   symm
   rw [decide_eq_false_iff_not]
   unfold RdOk
   omega
theorem Valid0 (K D M Wk Wd T : Int) (w : World) (hw : (Lit.int .i64 K).wf = true) (n1 : K ≠ 1) (n2 : K ≠ 2) (n3 : K ≠ 3) : Calls Tryz.prog 191 #[vrd K D M Wk Wd T] w fun e w' => e = .returned (.bool (decide (RdOk K D M Wk Wd T))) ∧ Below w.heap.size w w' := by
 have A := hide (fun (v a b : Int) w => between_ v a b w)
 have C := hide (fun w => checks_ w)
 have hb := hide (bl_new w (.cells #[.int .i64 K, .int .i64 D, .int .i64 M, .int .i64 Wk, .int .i64 Wd, .int .i64 T] 49))
 have bx := hide (Bx.new w [.int .i64 K, .int .i64 D, .int .i64 M, .int .i64 Wk, .int .i64 Wd, .int .i64 T] 49)
 have bxd := hide (bx.out.drew)
 have hbd := hide (bl_drew hb.out)
 have zf : ∀ w, (zeroValue 113).run Tryz.prog w = .ok .nilFunc w := fun _ => rfl
 unfold vrd
 go_enter Tryz.func191, Tryz.ntmps191
 go_upto_region 1 with fail
 go_region_with (go_at_call 197; refine (C.out _).mono ?_; rintro e w6 ⟨B, g1, g0, rfl, hc, h1'⟩; have hl := held_look_ok hc.1 law Tryz.underlying198 (zf _) (keyl hw) (three_no _ _ _ n1 n2 n3).1 (three_no _ _ _ n1 n2 n3).2;  obtain ⟨y0, y1, y2, y3, y4, y5⟩ := cells6 (Bx.below bxd.out h1'); have hbf := hide (bel_next hbd.out h1'); have bxf := hide (bxd.out.below h1'); replace hc := hide hc; clear h1')
 all_goals
  clear bx bxd hbd hb
  go_wp2
  go_ret
  refine ⟨retb ?_, hbf.out⟩
  symm
  rw [decide_eq_false_iff_not]
  unfold RdOk
  omega
theorem Valid_ (K D M Wk Wd T : Int) (w : World) (hw : (Lit.int .i64 K).wf = true) : Calls Tryz.prog 191 #[vrd K D M Wk Wd T] w fun e w' => e = .returned (.bool (decide (RdOk K D M Wk Wd T))) ∧ Below w.heap.size w w' := by
 rcases (show K = 1 ∨ K = 2 ∨ K = 3 ∨ (K ≠ 1 ∧ K ≠ 2 ∧ K ≠ 3) by omega) with rfl | rfl | rfl | ⟨n1, n2, n3⟩
 ·exact Valid1 D M Wk Wd T w
 ·exact Valid2 D M Wk Wd T w
 ·exact Valid3 D M Wk Wd T w
 ·exact Valid0 K D M Wk Wd T w hw n1 n2 n3
end rd_
end Go.Proofs.YtbehflfpdkedgaaGreatDoor

/-
  Texts of mine in one file: VdB, Ref10x, RdStep, TeMath, Ref20b, VfM, EqR, But. Their conditions stand in the theorems.
-/
import Derived.Test.YtbehflfpdkedgaaGreatDoorQ14
import Derived.Test.YtbehflfpdkedgaaGreatDoorQ07
import Derived.Test.YtbehflfpdkedgaaGreatDoorQ05
import Derived.Deep.RegionHeld3
import Derived.Deep.DeepCutAuto
import Derived.Test.YtbehflfpdkedgaaGreatDoorQ04
import Derived.Test.YtbehflfpdkedgaaGreatDoorQ08
import Derived.Test.YtbehflfpdkedgaaGreatDoorQ12
import Derived.Test.YtbehflfpdkedgaaGreatDoorQ01
namespace Go.Proofs.YtbehflfpdkedgaaGreatDoor
set_option linter.unusedVariables false
set_option linter.unusedSimpArgs false
set_option maxRecDepth 100000
set_option maxHeartbeats 16000000
open Go.ChangeShapes Go.WideShapes Go.ChangeAt Go.RowKit
@[reducible] def blA (S : BkS) : Array Value := #[.slice S.ti.A S.ti.n S.ti.c, .slice S.ix.A S.ix.n S.ix.c, .slice S.ty.A S.ty.n S.ty.c, .slice S.ch.A S.ch.n S.ch.c, .slice S.lp.A S.lp.n S.lp.c, .slice S.sd.A S.sd.n S.sd.c, .slice S.ut.A S.ut.n S.ut.c]
theorem gr_blk (S : BkS) : Gr Tryz.prog 28 7 (blA S) := ⟨by rw [show (blA S).size = 7 from rfl]; kernel_rfl, rfl, by simp [blA, Value.oneCell']⟩
namespace vd_
theorem rule1 (S : BkS) (b : Bk) (g : Nat) (w : World) (h : IsBk w S b) (hs : S.small) (k : Ro w g (blA S) 28) : Calls Tryz.prog 49 #[.pointer (some ⟨g, 0, none⟩)] w fun e w' => e = .returned (.int .i64 (rq (cntOk b) 6)) ∧ Below w.heap.size w w' := by
 have C := hide (show Calls Tryz.prog 50 #[.agg (blA S)] w fun e w' => e = .returned (.int .i64 (rq (cntOk b) 6)) ∧ Below w.heap.size w w' from by rw [show cntOk b = cntS S from by obtain ⟨l0, l1, l2, l3, _, l5, l6⟩ := h.lens; unfold cntOk cntS; rw [l0, l1, l2, l3, l5, l6]]; exact checkCounts S w)
 have G := gr_blk S
 replace k := hide k
 clear h hs
 generalize blA S = cs at *
 generalize rq (cntOk b) 6 = r at *
 go_enter Tryz.func49, Tryz.ntmps49
 go_wp2_with (refine load_row_g (by rfl) 28 _ rfl _ rfl _ _ _ k.out Tryz.underlying28 rfl G.1 ?_)
 refine C.out.mono ?_
 rintro e w1 ⟨rfl, h1⟩
 clear C k
 go_wp2
 go_ret
 exact ⟨rfl, h1⟩
theorem rule2 (S : BkS) (b : Bk) (g : Nat) (g2 : Nat) (t : Nat) (w : World) (h : IsBk w S b) (hs : S.small) (k : Ro w g (blA S) 28) (k2 : Ro w g2 #[.int .i64 t] 3) (ht : t = 4 ∨ t = 8) : Calls Tryz.prog 51 #[.pointer (some ⟨g, 0, none⟩), .pointer (some ⟨g2, 0, none⟩)] w fun e w' => e = .returned (.int .i64 (rq (fT t b.ti && lfit t b.lp) 18)) ∧ Below w.heap.size w w' := by
 have C := hide (show Calls Tryz.prog 52 #[.agg (blA S), .int .i64 (t : Int)] w _ from checkTimes S b t w ht h hs)
 have G := gr_blk S
 replace k := hide k
 obtain ⟨y0, _⟩ := ro_cf k2 0 _ rfl
 clear k2 ht
 clear h hs
 generalize blA S = cs at *
 generalize rq (fT t b.ti && lfit t b.lp) 18 = r at *
 go_enter Tryz.func51, Tryz.ntmps51
 go_wp2_with (refine load_row_g (by rfl) 28 _ rfl _ rfl _ _ _ k.out Tryz.underlying28 rfl G.1 ?_)
 refine C.out.mono ?_
 rintro e w1 ⟨rfl, h1⟩
 clear C k
 go_wp2
 go_ret
 exact ⟨rfl, h1⟩
theorem rule4 (S : BkS) (b : Bk) (g : Nat) (w : World) (h : IsBk w S b) (hs : S.small) (k : Ro w g (blA S) 28) : Calls Tryz.prog 55 #[.pointer (some ⟨g, 0, none⟩)] w fun e w' => e = .returned (.int .i64 (rq (ixOk b.ty.length b.ix) 8)) ∧ Below w.heap.size w w' := by
 have C := hide (show Calls Tryz.prog 56 #[.agg (blA S)] w _ from checkIndex S b w h hs)
 have G := gr_blk S
 replace k := hide k
 clear h hs
 generalize blA S = cs at *
 generalize rq (ixOk b.ty.length b.ix) 8 = r at *
 go_enter Tryz.func55, Tryz.ntmps55
 go_wp2_with (refine load_row_g (by rfl) 28 _ rfl _ rfl _ _ _ k.out Tryz.underlying28 rfl G.1 ?_)
 refine C.out.mono ?_
 rintro e w1 ⟨rfl, h1⟩
 clear C k
 go_wp2
 go_ret
 exact ⟨rfl, h1⟩
theorem rule3 (S : BkS) (b : Bk) (g : Nat) (w : World) (h : IsBk w S b) (hs : S.small) (k : Ro w g (blA S) 28) : Calls Tryz.prog 53 #[.pointer (some ⟨g, 0, none⟩)] w fun e w' => e = .returned (.int .i64 (rq (decide (desc b.ti < 0)) 7)) ∧ Below w.heap.size w w' := by
 have C := hide (tr_.Descent S.ti.A S.ti.n S.ti.c b.ti w (by have := hs.ti; omega) h.oti.1 h.ti)
 generalize desc b.ti = D at *
 have C2 := hide (fun w => require (decide (D < 0)) 7 w)
 generalize rq (decide (D < 0)) 7 = r at *
 replace k := hide k
 obtain ⟨y0, _⟩ := ro_cf k.out 0 _ rfl
 clear h hs k
 obtain ⟨⟨A0, n0, c0⟩, ⟨A1, n1, c1⟩, ⟨A2, n2, c2⟩, ⟨A3, n3, c3⟩, ⟨A4, n4, c4⟩, ⟨A5, n5, c5⟩, ⟨A6, n6, c6⟩⟩ := S
 dsimp only at y0 C
 go_enter Tryz.func53, Tryz.ntmps53
 go_wp2_with fail
 refine C.out.mono ?_
 rintro e w1 ⟨rfl, h1⟩
 clear C y0
 go_wp2_with fail
 refine (C2.out _).mono ?_
 rintro e w2 ⟨rfl, h2⟩
 have hb := hide (bel_next h1 h2)
 clear C2
 go_wp2
 go_ret
 exact ⟨rfl, hb.out⟩
theorem rule5 (S : BkS) (b : Bk) (g : Nat) (w : World) (h : IsBk w S b) (hs : S.small) (k : Ro w g (blA S) 28) : Calls Tryz.prog 57 #[.pointer (some ⟨g, 0, none⟩)] w fun e w' => e = .returned (.int .i64 (chk b.ty b.ch.length)) ∧ Below w.heap.size w w' := by
 have C := hide (tt_.Check S.ty.A S.ty.n S.ty.c b.ty S.ch.n w (by have := hs.ty; omega) h.oty.1 h.ty h.ok.ty (by have := hs.ch; omega) (by have := hs.ch; omega))
 rw [h.lens.2.2.2.1]
 generalize chk b.ty S.ch.n = D at *
 replace k := hide k
 obtain ⟨y2, _⟩ := ro_cf k.out 2 _ rfl
 obtain ⟨y3, _⟩ := ro_cf k.out 3 _ rfl
 clear h hs k
 obtain ⟨⟨A0, n0, c0⟩, ⟨A1, n1, c1⟩, ⟨A2, n2, c2⟩, ⟨A3, n3, c3⟩, ⟨A4, n4, c4⟩, ⟨A5, n5, c5⟩, ⟨A6, n6, c6⟩⟩ := S
 dsimp only at y2 y3 C
 go_enter Tryz.func57, Tryz.ntmps57
 go_wp2_with fail
 refine C.out.mono ?_
 rintro e w1 ⟨rfl, h1⟩
 clear C y2 y3
 go_wp2
 go_ret
 exact ⟨rfl, h1⟩
theorem rule6 (S : BkS) (b : Bk) (g : Nat) (w : World) (h : IsBk w S b) (hs : S.small) (k : Ro w g (blA S) 28) : Calls Tryz.prog 59 #[.pointer (some ⟨g, 0, none⟩)] w fun e w' => e = .returned (.int .i64 (rq (decide (badL b.ch = -1)) 11)) ∧ Below w.heap.size w w' := by
 have C := hide (ds_.Valid S.ch.A S.ch.n S.ch.c b.ch w h.ch (fun x hx => h.ok.ch.mem x hx) (by have := hs.ch; omega) h.och.2.1 h.och.2.2)
 generalize decide (badL b.ch = -1) = D at *
 have C2 := hide (fun w => require D 11 w)
 generalize rq D 11 = r at *
 replace k := hide k
 obtain ⟨y3, _⟩ := ro_cf k.out 3 _ rfl
 clear h hs k
 obtain ⟨⟨A0, n0, c0⟩, ⟨A1, n1, c1⟩, ⟨A2, n2, c2⟩, ⟨A3, n3, c3⟩, ⟨A4, n4, c4⟩, ⟨A5, n5, c5⟩, ⟨A6, n6, c6⟩⟩ := S
 dsimp only at y3 C
 go_enter Tryz.func59, Tryz.ntmps59
 go_wp2_with fail
 refine C.out.mono ?_
 rintro e w1 ⟨rfl, h1⟩
 clear C y3
 go_wp2_with fail
 refine (C2.out _).mono ?_
 rintro e w2 ⟨rfl, h2⟩
 have hb := hide (bel_next h1 h2)
 clear C2
 go_wp2
 go_ret
 exact ⟨rfl, hb.out⟩
theorem rule7 (S : BkS) (b : Bk) (g : Nat) (g2 : Nat) (v : Int) (four : Bool) (w : World) (h : IsBk w S b) (hs : S.small) (k : Ro w g (blA S) 28) (k2 : Ro w g2 #[.int .i64 v] 3) (hv0 : 1 ≤ v) (hv1 : v ≤ 4) (hf : decide (v = 4) = four) : Calls Tryz.prog 61 #[.pointer (some ⟨g, 0, none⟩), .pointer (some ⟨g2, 0, none⟩)] w fun e w' => e = .returned (.int .i64 (rq (vL b.lp four) 12)) ∧ Below w.heap.size w w' := by
 have C := hide (lp_.Valid S.lp.A S.lp.n S.lp.c b.lp v four w hv0 hv1 hf (by have := hs.lp; omega) ⟨h.olp.1, h.olp.2.1⟩ h.lp h.ok.lp)
 obtain ⟨z0, _⟩ := ro_cf k2 0 _ rfl
 generalize vL b.lp four = D at *
 clear k2 hv0 hv1 hf
 have C2 := hide (fun w => require D 12 w)
 generalize rq D 12 = r at *
 replace k := hide k
 obtain ⟨y4, _⟩ := ro_cf k.out 4 _ rfl
 clear h hs k
 obtain ⟨⟨A0, n0, c0⟩, ⟨A1, n1, c1⟩, ⟨A2, n2, c2⟩, ⟨A3, n3, c3⟩, ⟨A4, n4, c4⟩, ⟨A5, n5, c5⟩, ⟨A6, n6, c6⟩⟩ := S
 dsimp only at y4 C
 go_enter Tryz.func61, Tryz.ntmps61
 go_wp2_with fail
 refine C.out.mono ?_
 rintro e w1 ⟨rfl, h1⟩
 clear C y4
 go_wp2_with fail
 refine (C2.out _).mono ?_
 rintro e w2 ⟨rfl, h2⟩
 have hb := hide (bel_next h1 h2)
 clear C2
 go_wp2
 go_ret
 exact ⟨rfl, hb.out⟩
theorem rule8 (S : BkS) (b : Bk) (g : Nat) (w : World) (h : IsBk w S b) (hs : S.small) (k : Ro w g (blA S) 28) : Calls Tryz.prog 63 #[.pointer (some ⟨g, 0, none⟩)] w fun e w' => e = .returned (.int .i64 (rq (cn b.sd b.ut) 13)) ∧ Below w.heap.size w w' := by
 have C := hide (in_.Consistent S.sd.A S.ut.A S.sd.n S.ut.n S.sd.c S.ut.c b.sd b.ut w trivial (by have := hs.sd; omega) (by have := hs.ut; omega) h.osd.1 h.out_.1 h.osd.2.1 h.out_.2.1 h.osd.2.2 h.out_.2.2 h.sd h.ut)
 generalize cn b.sd b.ut = D at *
 have C2 := hide (fun w => require D 13 w)
 generalize rq D 13 = r at *
 replace k := hide k
 obtain ⟨y5, _⟩ := ro_cf k.out 5 _ rfl
 obtain ⟨y6, _⟩ := ro_cf k.out 6 _ rfl
 clear h hs k
 obtain ⟨⟨A0, n0, c0⟩, ⟨A1, n1, c1⟩, ⟨A2, n2, c2⟩, ⟨A3, n3, c3⟩, ⟨A4, n4, c4⟩, ⟨A5, n5, c5⟩, ⟨A6, n6, c6⟩⟩ := S
 dsimp only at y5 y6 C
 go_enter Tryz.func63, Tryz.ntmps63
 go_wp2_with fail
 refine C.out.mono ?_
 rintro e w1 ⟨rfl, h1⟩
 clear C y5 y6
 go_wp2_with fail
 refine (C2.out _).mono ?_
 rintro e w2 ⟨rfl, h2⟩
 have hb := hide (bel_next h1 h2)
 clear C2
 go_wp2
 go_ret
 exact ⟨rfl, hb.out⟩
def fsB (g g1 g2 : Nat) : List Value := [.func (.func 49) #[] #[.pointer (some ⟨g, 0, none⟩)], .func (.func 51) #[] #[.pointer (some ⟨g, 0, none⟩), .pointer (some ⟨g2, 0, none⟩)], .func (.func 53) #[] #[.pointer (some ⟨g, 0, none⟩)], .func (.func 55) #[] #[.pointer (some ⟨g, 0, none⟩)], .func (.func 57) #[] #[.pointer (some ⟨g, 0, none⟩)], .func (.func 59) #[] #[.pointer (some ⟨g, 0, none⟩)], .func (.func 61) #[] #[.pointer (some ⟨g, 0, none⟩), .pointer (some ⟨g1, 0, none⟩)], .func (.func 63) #[] #[.pointer (some ⟨g, 0, none⟩)]]
theorem ro_2 (w : World) (o : Obj) (vs : Array Value) (T : TypeId) : Ro ((w.alloc o).alloc (.cells vs T)) (w.heap.size + 1) vs T := by
 have := Ro.new (w.alloc o) vs T
 simp only [World.size_alloc] at this
 exact this
theorem blockRules (S : BkS) (v t : Int) (w : World) : Calls Tryz.prog 22 #[.agg (blA S), .int .i64 v, .int .i64 t] w fun e w' => ∃ g g1 g2 gr, e = .returned (.slice (some ⟨gr, 0, none⟩) 8 8) ∧ Rd w' (some ⟨gr, 0, none⟩) 8 (fsB g g1 g2) ∧ Ro w' g (blA S) 28 ∧ Ro w' g1 #[.int .i64 v] 3 ∧ Ro w' g2 #[.int .i64 t] 3 ∧ Below w.heap.size w w' := by
 generalize blA S = cs
 have hb := hide (bl_alloc (bl_alloc (bl_new w (.cells cs 28)) (.cells #[.int .i64 v] 3)) (.cells #[.int .i64 t] 3))
 have k := hide (((Ro.new w cs 28).alloc (.cells #[.int .i64 v] 3)).alloc (.cells #[.int .i64 t] 3))
 have k1 := hide ((ro_2 w (.cells cs 28) #[.int .i64 v] 3).alloc (.cells #[.int .i64 t] 3))
 have k2 := hide (ro_2 (w.alloc (.cells cs 28)) (.cells #[.int .i64 v] 3) #[.int .i64 t] 3)
 simp only [World.size_alloc] at k2
 go_enter Tryz.func22, Tryz.ntmps22
 go_upto_region 1 with fail
 generalize (((w.alloc (.cells cs 28)).alloc (.cells #[.int .i64 v] 3)).alloc (.cells #[.int .i64 t] 3)) = u at *
 generalize w.heap.size + 1 + 1 = g2 at *
 generalize w.heap.size + 1 = g1 at *
 go_wp2
 go_ret
 exact ⟨w.heap.size, g1, g2, _, rfl, Rd.lit u 94 (fsB w.heap.size g1 g2), k.out.alloc _, k1.out.alloc _, k2.out.alloc _, bl_alloc hb.out _⟩
theorem first_ (B n : Nat) (fs : List Value) (es : List Int) (w : World) (hr : Rd w (some ⟨B, 0, none⟩) n fs) (hl : es.length = n) (hn : n ≤ 1000)
 (hF : ∀ i, i < n → (∀ j, j < i → es[j]? = some 0) → ∃ (F : FuncId) (cb : Array Value) (x : Int), fs[i]? = some (.func (.func F) #[] cb) ∧ es[i]? = some x ∧ (∀ args w, (callFunc F args).run Tryz.prog w = .ok (.enter F args) w) ∧ ∀ w', Below w.heap.size w w' → Calls Tryz.prog F cb w' fun e w'' => e = .returned (.int .i64 x) ∧ Below w'.heap.size w' w'') :
 Calls Tryz.prog 21 #[.slice (some ⟨B, 0, none⟩) n n] w fun e w' => e = .returned (.int .i64 (fnz es)) ∧ Below w.heap.size w w' := by
 obtain ⟨r, hrr⟩ : ∃ r, r = fnz es := ⟨_, rfl⟩
 rw [← hrr]
 replace hrr := hide hrr
 replace hF := hide hF
 replace hr := hide hr
 replace hl := hide hl
 go_enter Tryz.func21, Tryz.ntmps21
 go_wp2_with fail
 go_loopw [8] (fun i wr => ∃ k : Nat, k ≤ n ∧ i = .int .i64 (k : Nat) ∧ Hid (∀ j, j < k → es[j]? = some 0) ∧ Hid (Below w.heap.size w wr)) (fun i _ => n - (intOf i).toNat)
 case atStart => exact ⟨0, by omega, rfl, hide (fun j h => by omega), hide (bl_refl w)⟩
 case round =>
  obtain ⟨k, hk, rfl, ha, hw⟩ := hrel
  by_cases hlt : k < n
  ·obtain ⟨F, cb, x, c1, ex, E, C⟩ := hF.out k hlt ha.out
   have m1 := (hr.out.below hw.out).flat0 c1
   have CC := hide (C wr hw.out)
   replace E := hide E
   have hno := hide (fun (hz : x ≠ 0) => fnz_at ha.out ex hz)
   have hyes := hide (fun (hz : x = 0) => show ∀ j, j < k + 1 → es[j]? = some 0 from fun j hj => by
    rcases Nat.lt_succ_iff_lt_or_eq.1 hj with h | rfl
    ·exact ha.out j h
    ·rw [ex, hz])
   clear C c1 ex
   by_cases hx : x = 0
   ·subst hx
    have hy := hide (hyes.out rfl)
    clear hno hyes
    go_wp2_with fail
    rw [E.out, Oper.upon_enter]
    refine CC.out.mono ?_
    rintro e w2 ⟨rfl, h2⟩
    have hb2 := hide (bel_next hw.out h2)
    clear CC hw h2 m1
    go_wp2
    go_roundw
    case rel => exact ⟨k + 1, by omega, by go_num, hy, hb2⟩
    case measure => simp [intOf]; omega
   ·obtain rfl : r = x := by rw [hrr.out]; exact hno.out hx
    have d1 : (r != 0) = true := by simpa using hx
    have d2 : decide (r = 0) = false := decide_eq_false hx
    clear hno hyes
    replace hx := hide hx
    go_wp2_with fail
    rw [E.out, Oper.upon_enter]
    refine CC.out.mono ?_
    rintro e w2 ⟨rfl, h2⟩
    have hb2 := hide (bel_next hw.out h2)
    clear CC hw h2 m1
    go_wp2
    go_ret
    exact ⟨rfl, hb2.out⟩
  ·obtain rfl : k = n := by omega
   obtain rfl : r = 0 := by rw [hrr.out]; exact fnz_all (fun j hj => ha.out j (by rw [← hl.out]; exact hj))
   go_wp2
   go_ret
   exact ⟨rfl, hw.out⟩
theorem Block (S : BkS) (b : Bk) (v : Int) (four : Bool) (k : Nat) (K : Int) (w : World) (hK : K = (k : Int)) (hk : k = 4 ∨ k = 8) (hv0 : 1 ≤ v) (hv1 : v ≤ 4) (hf : decide (v = 4) = four) (h : IsBk w S b) (hs : S.small) :
 Calls Tryz.prog 12 #[bkV S, .int .i64 v, .int .i64 K] w fun e w' => e = .returned (.int .i64 (vB b four k)) ∧ Below w.heap.size w w' := by
 subst hK
 show Calls Tryz.prog 12 #[.agg (blA S), .int .i64 v, .int .i64 k] w _
 have BR := hide (fun w => blockRules S v k w)
 have FV := hide (fun g g1 g2 gr W (hb : Below w.heap.size w W) (hr : Rd W (some ⟨gr, 0, none⟩) 8 (fsB g g1 g2)) (r0 : Ro W g (blA S) 28) (r1 : Ro W g1 #[.int .i64 v] 3) (r2 : Ro W g2 #[.int .i64 k] 3) =>
  first_ gr 8 (fsB g g1 g2) [rq (cntOk b) 6, rq (fT k b.ti && lfit k b.lp) 18, rq (decide (desc b.ti < 0)) 7, rq (ixOk b.ty.length b.ix) 8, chk b.ty b.ch.length, rq (decide (badL b.ch = -1)) 11, rq (vL b.lp four) 12, rq (cn b.sd b.ut) 13] W hr rfl (by decide) (fun i hi _ => by
   rcases (show i = 0 ∨ i = 1 ∨ i = 2 ∨ i = 3 ∨ i = 4 ∨ i = 5 ∨ i = 6 ∨ i = 7 by omega) with rfl | rfl | rfl | rfl | rfl | rfl | rfl | rfl
   ·exact ⟨_, _, _, rfl, rfl, lp_.enters Tryz.func49 (by kernel_rfl) (by kernel_rfl), fun W' hW => rule1 S b g W' ((h.below hb).below hW) hs (r0.below hW)⟩
   ·exact ⟨_, _, _, rfl, rfl, lp_.enters Tryz.func51 (by kernel_rfl) (by kernel_rfl), fun W' hW => rule2 S b g g2 k W' ((h.below hb).below hW) hs (r0.below hW) (r2.below hW) hk⟩
   ·exact ⟨_, _, _, rfl, rfl, lp_.enters Tryz.func53 (by kernel_rfl) (by kernel_rfl), fun W' hW => rule3 S b g W' ((h.below hb).below hW) hs (r0.below hW)⟩
   ·exact ⟨_, _, _, rfl, rfl, lp_.enters Tryz.func55 (by kernel_rfl) (by kernel_rfl), fun W' hW => rule4 S b g W' ((h.below hb).below hW) hs (r0.below hW)⟩
   ·exact ⟨_, _, _, rfl, rfl, lp_.enters Tryz.func57 (by kernel_rfl) (by kernel_rfl), fun W' hW => rule5 S b g W' ((h.below hb).below hW) hs (r0.below hW)⟩
   ·exact ⟨_, _, _, rfl, rfl, lp_.enters Tryz.func59 (by kernel_rfl) (by kernel_rfl), fun W' hW => rule6 S b g W' ((h.below hb).below hW) hs (r0.below hW)⟩
   ·exact ⟨_, _, _, rfl, rfl, lp_.enters Tryz.func61 (by kernel_rfl) (by kernel_rfl), fun W' hW => rule7 S b g g1 v four W' ((h.below hb).below hW) hs (r0.below hW) (r1.below hW) hv0 hv1 hf⟩
   ·exact ⟨_, _, _, rfl, rfl, lp_.enters Tryz.func63 (by kernel_rfl) (by kernel_rfl), fun W' hW => rule8 S b g W' ((h.below hb).below hW) hs (r0.below hW)⟩)
 )
 rw [← vB_fnz] at FV
 generalize vB b four k = r at *
 have G := gr_blk S
 have k3 := hide (Ro.new w (blA S) 28)
 have hb := hide (bl_new w (.cells (blA S) 28))
 clear h hs hk hv0 hv1 hf
 generalize blA S = cs at *
 go_enter Tryz.func12, Tryz.ntmps12
 go_upto_region 1 with fail
 generalize (w.alloc (.cells cs 28)) = u at *
 go_wp2_with (refine load_row_g (by rfl) 28 _ rfl _ rfl _ _ _ k3.out Tryz.underlying28 rfl G.1 ?_)
 refine (BR.out _).mono ?_
 rintro e w1 ⟨g, g1, g2, gr, rfl, hr, r0, r1, r2, h1⟩
 replace hb := hide (bel_next hb.out h1)
 have FC := hide (FV.out g g1 g2 gr w1 hb.out hr r0 r1 r2)
 clear FV BR hr r0 r1 r2 h1 k3
 go_wp2_with fail
 refine FC.out.mono ?_
 rintro e w2 ⟨rfl, h1⟩
 replace hb := hide (bel_next hb.out h1)
 clear h1 FC
 go_wp2
 go_ret
 exact ⟨rfl, hb.out⟩
end vd_
def lateD (d : RD) : Bool := decide (d.2.2.2.2.2 < 0 ∨ 86400 < d.2.2.2.2.2)
namespace r10_
theorem late (d : RD) (w : World) : Calls Tryz.prog 84 #[vday d] w fun e w' => e = .returned (.bool (decide (d.2.2.2.2.2 < 0 ∨ 86400 < d.2.2.2.2.2))) ∧ Below w.heap.size w w' := by
 obtain ⟨K, D, M, Wk, Wd, T⟩ := d
 unfold vday
 simp only
 go_enter Tryz.func84, Tryz.ntmps84
 go_wp2
 all_goals go_ret
 all_goals exact ⟨retb (by simp_all), bl_new _ _⟩
theorem Extended (std : ByteArray) (so : Int) (hd : Bool) (dst : ByteArray) (dof : Int) (st en : RD) (w : World) :
 Calls Tryz.prog 35 #[vrule std so hd dst dof st en] w fun e w' => e = .returned (.bool (hd && (lateD st || lateD en))) ∧ Below w.heap.size w w' := by
 have LS := hide (fun w => late st w)
 have LE := hide (fun w => late en w)
 unfold vrule
 unfold vday at LS LE
 obtain ⟨a, ha⟩ : ∃ a, lateD st = a := ⟨_, rfl⟩
 obtain ⟨b, hbb⟩ : ∃ b, lateD en = b := ⟨_, rfl⟩
 unfold lateD at ha hbb
 rw [ha] at LS
 rw [hbb] at LE
 have hres := hide (show (hd && (lateD st || lateD en)) = (hd && (a || b)) by unfold lateD; rw [ha, hbb])
 rw [hres.out]
 clear ha hbb hres
 cases hd
 ·go_enter Tryz.func35, Tryz.ntmps35
  go_wp2
  go_ret
  exact ⟨rfl, bl_new _ _⟩
 ·have hb := hide (bl_new w (.cells #[.string std, .int .i64 so, .bool true, .string dst, .int .i64 dof, .int .i64 st.1, .int .i64 st.2.1, .int .i64 st.2.2.1, .int .i64 st.2.2.2.1, .int .i64 st.2.2.2.2.1, .int .i64 st.2.2.2.2.2, .int .i64 en.1, .int .i64 en.2.1, .int .i64 en.2.2.1, .int .i64 en.2.2.2.1, .int .i64 en.2.2.2.2.1, .int .i64 en.2.2.2.2.2] 51))
  have hB := hide (Ro.new w #[.string std, .int .i64 so, .bool true, .string dst, .int .i64 dof, .int .i64 st.1, .int .i64 st.2.1, .int .i64 st.2.2.1, .int .i64 st.2.2.2.1, .int .i64 st.2.2.2.2.1, .int .i64 st.2.2.2.2.2, .int .i64 en.1, .int .i64 en.2.1, .int .i64 en.2.2.1, .int .i64 en.2.2.2.1, .int .i64 en.2.2.2.2.1, .int .i64 en.2.2.2.2.2] 51)
  go_enter Tryz.func35, Tryz.ntmps35
  go_wp2_with fail
  refine (LS.out _).mono ?_
  rintro e w1 ⟨rfl, h1⟩
  replace hB := hide (hB.out.below h1)
  replace hb := hide (bel_next hb.out h1)
  clear h1
  cases a
  ·obtain ⟨x11, _⟩ := ro_cf hB.out 11 _ rfl; obtain ⟨x12, _⟩ := ro_cf hB.out 12 _ rfl; obtain ⟨x13, _⟩ := ro_cf hB.out 13 _ rfl; obtain ⟨x14, _⟩ := ro_cf hB.out 14 _ rfl; obtain ⟨x15, _⟩ := ro_cf hB.out 15 _ rfl; obtain ⟨x16, _⟩ := ro_cf hB.out 16 _ rfl
   go_wp2_with fail
   refine (LE.out _).mono ?_
   rintro e w2 ⟨rfl, h1⟩
   replace hb := hide (bel_next hb.out h1)
   clear h1
   go_wp2
   go_ret
   exact ⟨rfl, hb.out⟩
  ·go_wp2
   go_ret
   exact ⟨rfl, hb.out⟩
end r10_
theorem ylen_leap (y : Int) : ylen y = 365 + (if leap y = true then 1 else 0) := by unfold ylen; split <;> rfl
theorem month_start (y : Int) (k : Nat) : days y ((k : Int) + 1) 1 = ystart y + cum y k := by
 unfold days yday
 rw [show ((k : Int) + 1 - 1).toNat = k by omega]
 omega
theorem start_step (y : Int) (k : Nat) : ystart (y + 1) + cum (y + 1) k - (ystart y + cum y k) = 365 ∨ ystart (y + 1) + cum (y + 1) k - (ystart y + cum y k) = 366 := by
 have h1 := ystart_succ y
 have h2 := ylen_leap y
 have h3 := cum_leap y k
 have h4 := cum_leap (y + 1) k
 rw [h1, h2, h3, h4]
 by_cases hk : 2 ≤ k <;> cases leap y <;> cases leap (y + 1) <;> simp [hk] <;> omega
theorem rdm_step (y M wk wd : Int) (hM : 1 ≤ M) (hM2 : M ≤ 12) (h0 : 0 ≤ wd) (h1 : wd ≤ 6) (h2 : 1 ≤ wk) (h3 : wk ≤ 5) : rdm (y + 1) M wk wd - rdm y M wk wd = 364 ∨ rdm (y + 1) M wk wd - rdm y M wk wd = 371 := by
 obtain ⟨k, rfl⟩ : ∃ k : Nat, M = (k : Int) + 1 := ⟨(M - 1).toNat, by omega⟩
 have s1 := start_step y k
 have s2 := start_step y (k + 1)
 have m1 := month_start y k
 have m2 := month_start (y + 1) k
 have c1 : cum y (k + 1) = cum y k + mdays y ((k : Int) + 1) := rfl
 have c2 : cum (y + 1) (k + 1) = cum (y + 1) k + mdays (y + 1) ((k : Int) + 1) := rfl
 have l1 := mdays_bd y ((k : Int) + 1)
 have l2 := mdays_bd (y + 1) ((k : Int) + 1)
 rw [c1, c2] at s2
 replace s2 : (ystart (y + 1) + cum (y + 1) k) + mdays (y + 1) ((k : Int) + 1) - ((ystart y + cum y k) + mdays y ((k : Int) + 1)) = 365 ∨ (ystart (y + 1) + cum (y + 1) k) + mdays (y + 1) ((k : Int) + 1) - ((ystart y + cum y k) + mdays y ((k : Int) + 1)) = 366 := by omega
 unfold rdm rfirst
 rw [m1, m2]
 generalize ystart y + cum y k = a at *
 generalize ystart (y + 1) + cum (y + 1) k = b at *
 generalize mdays y ((k : Int) + 1) = la at *
 generalize mdays (y + 1) ((k : Int) + 1) = lb at *
 clear m1 m2 c1 c2
 by_cases h : wk ≤ 4
 ·rw [if_pos h, if_pos h]
  omega
 ·rw [if_neg h, if_neg h]
  split <;> split <;> omega
theorem rdj_step (y D : Int) : rdj (y + 1) D - rdj y D = 365 ∨ rdj (y + 1) D - rdj y D = 366 := by
 have h1 := ystart_succ y
 have h2 := ylen_leap y
 unfold rdj
 rw [h1, h2]
 by_cases h : 60 ≤ D <;> cases leap y <;> cases leap (y + 1) <;> simp [h] <;> omega
def rdD (d : RD) (y : Int) : Int := rday d.1 d.2.1 d.2.2.1 d.2.2.2.1 d.2.2.2.2.1 y
def chI (d : RD) (o : Int) (y : Int) : Int := rdD d y * 86400 + d.2.2.2.2.2 - o
theorem rdD_step {d : RD} (h : rdOk d) (y : Int) : 364 ≤ rdD d (y + 1) - rdD d y ∧ rdD d (y + 1) - rdD d y ≤ 371 := by
 obtain ⟨K, D, M, Wk, Wd, T⟩ := d
 obtain ⟨_, _, hk⟩ := h
 unfold rdD rday
 simp only at hk ⊢
 rcases hk with ⟨rfl, _⟩ | ⟨rfl, _⟩ | ⟨rfl, _, h2, h3, h4, h5, h6, h7⟩
 ·have := rdj_step y D
  simp only [show ¬ (1 : Int) = 2 by decide, if_false, if_true]
  omega
 ·have := ystart_succ y
  have := ylen_bd y
  simp only [if_true]
  omega
 ·have := rdm_step y M Wk Wd h2 h3 h6 h7 h4 h5
  simp only [show ¬ (3 : Int) = 2 by decide, show ¬ (3 : Int) = 1 by decide, if_false]
  omega
theorem chI_step {d : RD} (h : rdOk d) (o y : Int) : 31449600 ≤ chI d o (y + 1) - chI d o y ∧ chI d o (y + 1) - chI d o y ≤ 32054400 := by
 have := rdD_step h y
 unfold chI
 omega
theorem chI_add {d : RD} (h : rdOk d) (o y : Int) (k : Nat) : 31449600 * (k : Int) ≤ chI d o (y + k) - chI d o y ∧ chI d o (y + k) - chI d o y ≤ 32054400 * (k : Int) := by
 induction k with
 | zero => simp
 | succ k ih =>
   have := chI_step h o (y + k)
   rw [show y + ((k + 1 : Nat) : Int) = y + k + 1 by omega]
   omega
theorem chI_lt {d : RD} (h : rdOk d) (o : Int) {y z : Int} (hz : y < z) : chI d o y < chI d o z := by
 have := chI_add h o y (z - y).toNat
 rw [show y + ((z - y).toNat : Int) = z by omega] at this
 omega
theorem chI_le {d : RD} (h : rdOk d) (o : Int) {y z : Int} : chI d o y ≤ chI d o z ↔ y ≤ z := by
 refine ⟨fun hh => ?_, fun hh => ?_⟩
 ·by_cases hc : y ≤ z
  ·exact hc
  ·have := chI_lt h o (show z < y by omega); omega
 ·rcases Int.lt_or_eq_of_le hh with hl | rfl
  ·exact Int.le_of_lt (chI_lt h o hl)
  ·exact Int.le_refl _
theorem chI_ex {d : RD} (h : rdOk d) (o t : Int) : ∃ y, chI d o y ≤ t ∧ t < chI d o (y + 1) := by
 -- a year far enough below
 have hlow : ∃ y0, chI d o y0 ≤ t := by
  by_cases h0 : chI d o 0 ≤ t
  ·exact ⟨0, h0⟩
  ·have := chI_add h o (-((chI d o 0 - t).toNat : Int)) (chI d o 0 - t).toNat
   rw [show -((chI d o 0 - t).toNat : Int) + ((chI d o 0 - t).toNat : Int) = 0 by omega] at this
   exact ⟨-((chI d o 0 - t).toNat : Int), by omega⟩
 obtain ⟨y0, h0⟩ := hlow
 have key : ∀ (k : Nat) (y : Int), chI d o y ≤ t → t < chI d o y + 31449600 * (k : Int) → ∃ y, chI d o y ≤ t ∧ t < chI d o (y + 1) := by
  intro k
  induction k with
  | zero => intro y h1 h2; omega
  | succ k ih =>
    intro y h1 h2
    by_cases h3 : t < chI d o (y + 1)
    ·exact ⟨y, h1, h3⟩
    ·have := chI_step h o y
     exact ih (y + 1) (by omega) (by omega)
 exact key ((t - chI d o y0).toNat + 1) y0 h0 (by omega)
theorem chI_uniq {d : RD} (h : rdOk d) (o : Int) {t y z : Int} (h1 : chI d o y ≤ t) (h2 : t < chI d o (y + 1)) (h3 : chI d o z ≤ t) : z ≤ y := by
 by_cases hc : z ≤ y
 ·exact hc
 ·have := (chI_le h o).2 (show y + 1 ≤ z by omega); omega
def onS (st en : RD) (so dof t : Int) : Prop := ∃ y, chI st so y ≤ t ∧ ∀ z, chI en dof z ≤ t → chI en dof z ≤ chI st so y
theorem onS_iff {st en : RD} (hs : rdOk st) (he : rdOk en) {so dof t ya yb : Int} (a1 : chI st so ya ≤ t) (a2 : t < chI st so (ya + 1)) (b1 : chI en dof yb ≤ t) (b2 : t < chI en dof (yb + 1)) :
 onS st en so dof t ↔ chI en dof yb ≤ chI st so ya := by
 refine ⟨fun ⟨y, h1, h2⟩ => ?_, fun h => ⟨ya, a1, fun z hz => ?_⟩⟩
 ·have := h2 yb b1
  have := (chI_le hs so).2 (chI_uniq hs so a1 a2 h1)
  omega
 ·have := (chI_le he dof).2 (chI_uniq he dof b1 b2 hz)
  omega
theorem cum_pos {y M : Int} (h0 : 1 ≤ M) (h1 : M ≤ 12) : ystart y ≤ days y M 1 ∧ days y M 1 + mdays y M ≤ ystart (y + 1) := by
 have e : days y M 1 = ystart y + cum y (M - 1).toNat := by unfold days yday; omega
 have h2 := cum_bd y (M - 1).toNat
 have h3 : cum y ((M - 1).toNat + 1) = cum y (M - 1).toNat + mdays y M := by
  show cum y (M - 1).toNat + mdays y (((M - 1).toNat : Int) + 1) = _
  rw [show ((M - 1).toNat : Int) + 1 = M by omega]
 have h4 := cum_mono y (show (M - 1).toNat + 1 ≤ 12 by omega)
 rw [cum12] at h4
 have := ystart_succ y
 omega
theorem rdD_bd {d : RD} (h : rdOk d) (y : Int) : ystart y ≤ rdD d y ∧ rdD d y ≤ ystart (y + 1) := by
 obtain ⟨K, D, M, Wk, Wd, T⟩ := d
 obtain ⟨_, _, hk⟩ := h
 have hs := ystart_succ y
 have hl := ylen_leap y
 unfold rdD rday
 simp only at hk ⊢
 rcases hk with ⟨rfl, h1, h2, _⟩ | ⟨rfl, h1, h2, _⟩ | ⟨rfl, _, h2, h3, h4, h5, h6, h7⟩
 ·simp only [show ¬ (1 : Int) = 2 by decide, if_false, if_true]
  unfold rdj
  cases hy : leap y
  ·rw [hy] at hl
   simp at hl ⊢
   omega
  ·rw [hy] at hl
   simp at hl ⊢
   split <;> omega
 ·simp only [if_true]
  cases hy : leap y
  ·rw [hy] at hl; simp at hl; omega
  ·rw [hy] at hl; simp at hl; omega
 ·simp only [show ¬ (3 : Int) = 2 by decide, show ¬ (3 : Int) = 1 by decide, if_false]
  have := rdm_bd y M Wk Wd h6 h7 h4 h5
  have := cum_pos (y := y) h2 h3
  omega
theorem chI_bd {d : RD} (h : rdOk d) {o : Int} (ho : -89999 ≤ o ∧ o ≤ 89999) (y : Int) : ystart y * 86400 - 694798 ≤ chI d o y ∧ chI d o y ≤ ystart (y + 1) * 86400 + 694798 := by
 have h1 := rdD_bd h y
 have h2 := h.1
 have h3 := h.2.1
 unfold chI
 omega
theorem ystart_gap {a b : Int} (h : a < b) : ystart a + 365 ≤ ystart b := by
 have := ystart_succ a
 have := ylen_bd a
 have := ystart_mono (show a + 1 ≤ b by omega)
 omega
theorem chI_win {d : RD} (h : rdOk d) {o t Y y : Int} (ho : -89999 ≤ o ∧ o ≤ 89999) (t0 : ystart Y * 86400 ≤ t) (t1 : t < ystart (Y + 1) * 86400) (h1 : chI d o y ≤ t) (h2 : t < chI d o (y + 1)) : Y - 2 ≤ y ∧ y ≤ Y + 1 := by
 have b1 := chI_bd h ho y
 have b2 := chI_bd h ho (y + 1)
 constructor
 ·by_cases hc : Y - 2 ≤ y
  ·exact hc
  ·have := ystart_gap (show y + 1 + 1 < Y by omega)
   omega
 ·by_cases hc : y ≤ Y + 1
  ·exact hc
  ·have := ystart_gap (show Y + 1 < y by omega)
   omega
def ruleS (hd : Bool) (st en : RD) (so dof t : Int) : Prop := hd = true ∧ onS st en so dof t
theorem ruleS_no {st en : RD} {so dof t : Int} : ¬ ruleS false st en so dof t := fun h => by cases h.1
def satM (t c : Int) : Int := if 0 < c ∧ t < -9223372036854775808 + c then -9223372036854775808 else if c < 0 ∧ 9223372036854775807 + c < t then 9223372036854775807 else t - c
theorem satM_bd {t c : Int} (h0 : -9223372036854775808 ≤ t) (h1 : t < 9223372036854775808) : -9223372036854775808 ≤ satM t c ∧ satM t c < 9223372036854775808 := by
 unfold satM
 split
 ·omega
 ·split <;> omega
@[reducible] def tres (x : TT) (nm : ByteArray) : Value := .agg #[.bool true, .int .i64 x.1, .bool x.2.1, .string nm]
namespace r20_
theorem Minus (t c : Int) (w : World) (h0 : -9223372036854775808 ≤ t) (h1 : t < 9223372036854775808) (c0 : -2147483648 ≤ c) (c1 : c ≤ 2147483647) :
 Calls Tryz.prog 36 #[.int .i64 t, .int .i64 c] w fun e w' => e = .returned (.int .i64 (satM t c)) ∧ w = w' := by
 obtain ⟨r, hr⟩ : ∃ r, r = satM t c := ⟨_, rfl⟩
 rw [← hr]
 unfold satM at hr
 have i1 : 0 < c → IntKind.i64.wrap (-9223372036854775808 + c) = -9223372036854775808 + c := fun h => by rw [IntKind.wrap_i64]; omega
 have i2 : c < 0 → IntKind.i64.wrap (9223372036854775807 + c) = 9223372036854775807 + c := fun h => by rw [IntKind.wrap_i64]; omega
 by_cases p : 0 < c
 ·have j1 := i1 p
  have n1 : ¬ c < 0 := by omega
  by_cases q : t < -9223372036854775808 + c
  ·obtain rfl : r = -9223372036854775808 := by rw [hr, if_pos ⟨p, q⟩]
   clear hr i1 i2
   go_enter Tryz.func36, Tryz.ntmps36
   go_wp2
   go_ret
   exact ⟨rfl, rfl⟩
  ·obtain rfl : r = t - c := by rw [hr, if_neg (fun h => q h.2), if_neg (fun h => n1 h.1)]
   have j2 : IntKind.i64.wrap (t - c) = t - c := by rw [IntKind.wrap_i64]; omega
   clear hr i1 i2
   go_enter Tryz.func36, Tryz.ntmps36
   go_wp2
   go_ret
   exact ⟨rfl, rfl⟩
 ·by_cases m : c < 0
  ·have j1 := i2 m
   by_cases q : 9223372036854775807 + c < t
   ·obtain rfl : r = 9223372036854775807 := by rw [hr, if_neg (fun h => p h.1), if_pos ⟨m, q⟩]
    clear hr i1 i2
    go_enter Tryz.func36, Tryz.ntmps36
    go_wp2
    go_ret
    exact ⟨rfl, rfl⟩
   ·obtain rfl : r = t - c := by rw [hr, if_neg (fun h => p h.1), if_neg (fun h => q h.2)]
    have j2 : IntKind.i64.wrap (t - c) = t - c := by rw [IntKind.wrap_i64]; omega
    clear hr i1 i2
    go_enter Tryz.func36, Tryz.ntmps36
    go_wp2
    go_ret
    exact ⟨rfl, rfl⟩
  ·obtain rfl : c = 0 := by omega
   obtain rfl : r = t := by rw [hr]; simp
   clear hr i1 i2
   have j2 : IntKind.i64.wrap (r - 0) = r := by rw [IntKind.wrap_i64]; omega
   go_enter Tryz.func36, Tryz.ntmps36
   go_wp2
   go_ret
   exact ⟨rfl, rfl⟩
theorem TypeResult (S : BkS) (b : Bk) (i q : Nat) (t : TT) (w : World) (h : IsBk w S b) (hi : b.ty[i]? = some t) (hq : t.2.2 = (q : Int)) (hn : q < S.ch.n) (hc : S.ch.n ≤ 1000000) :
 Calls Tryz.prog 39 #[bkV S, .int .i64 i] w fun e w' => e = .returned (tres t (bS (nameL b.ch q))) ∧ Below w.heap.size w w' := by
 have hl := h.lens
 have hR := hide (fun W (hb : Below w.heap.size w W) => h.below hb)
 have hok := h.ok.ty t (List.mem_of_getElem? hi)
 have hit : i < b.ty.length := (List.getElem?_eq_some_iff.1 hi).1
 have hchb := hide (fun x hx => h.ok.ch.mem x hx)
 obtain ⟨⟨A0, n0, c0⟩, ⟨A1, n1, c1⟩, ⟨A2, n2, c2⟩, ⟨A3, n3, c3⟩, ⟨A4, n4, c4⟩, ⟨A5, n5, c5⟩, ⟨A6, n6, c6⟩⟩ := S
 dsimp only at hl hR hn hc ⊢
 obtain ⟨l0, l1, l2, l3, l4, l5, l6⟩ := hl
 rw [l2] at hit
 clear l0 l1 l2 l3 l4 l5 l6 h
 show Calls Tryz.prog 39 #[.agg #[.slice A0 n0 c0, .slice A1 n1 c1, .slice A2 n2 c2, .slice A3 n3 c3, .slice A4 n4 c4, .slice A5 n5 c5, .slice A6 n6 c6], .int .i64 i] w _
 obtain ⟨t1, t2, t3⟩ := t
 dsimp only at hq hok ⊢
 subst hq
 obtain ⟨o0, o1, o2, o3⟩ := hok
 dsimp only at o0 o1
 have N := hide (fun W (hb : Below w.heap.size w W) => r12_.Name A3 n3 c3 b.ch q W (hR.out W hb).ch hchb.out hc hn)
 generalize bS (nameL b.ch q) = nm at *
 have k3 := hide ((Ro.new w #[.slice A0 n0 c0, .slice A1 n1 c1, .slice A2 n2 c2, .slice A3 n3 c3, .slice A4 n4 c4, .slice A5 n5 c5, .slice A6 n6 c6] 28).alloc (.cells #[.bool false, .int .i64 0, .bool false, .string ⟨#[]⟩] 79))
 go_enter Tryz.func39, Tryz.ntmps39
 go_upto_region 1 with fail
 have hb := hide (bl_alloc (bl_new w (.cells #[.slice A0 n0 c0, .slice A1 n1 c1, .slice A2 n2 c2, .slice A3 n3 c3, .slice A4 n4 c4, .slice A5 n5 c5, .slice A6 n6 c6] 28)) (.cells #[.bool false, .int .i64 0, .bool false, .string ⟨#[]⟩] 79))
 have kr := hide (show Ro ((w.alloc (.cells #[.slice A0 n0 c0, .slice A1 n1 c1, .slice A2 n2 c2, .slice A3 n3 c3, .slice A4 n4 c4, .slice A5 n5 c5, .slice A6 n6 c6] 28)).alloc (.cells #[.bool false, .int .i64 0, .bool false, .string ⟨#[]⟩] 79)) (w.heap.size + 1) #[.bool false, .int .i64 0, .bool false, .string ⟨#[]⟩] 79 from by have := Ro.new (w.alloc (.cells #[.slice A0 n0 c0, .slice A1 n1 c1, .slice A2 n2 c2, .slice A3 n3 c3, .slice A4 n4 c4, .slice A5 n5 c5, .slice A6 n6 c6] 28)) #[.bool false, .int .i64 0, .bool false, .string ⟨#[]⟩] 79; simp only [World.size_alloc] at this; exact this)
 generalize (w.alloc (.cells #[.slice A0 n0 c0, .slice A1 n1 c1, .slice A2 n2 c2, .slice A3 n3 c3, .slice A4 n4 c4, .slice A5 n5 c5, .slice A6 n6 c6] 28)).alloc (.cells #[.bool false, .int .i64 0, .bool false, .string ⟨#[]⟩] 79) = u at *
 obtain ⟨ad, t', e1, ht', f0, f1, f2⟩ := (hR.out u hb.out).ty.tt hit
 rw [hi] at ht'
 obtain rfl := Option.some.inj ht'
 subst e1
 dsimp only at f0 f1 f2
 clear ht' hi
 obtain ⟨y2, _⟩ := ro_cf k3.out 2 _ rfl
 have wi := hide hb.out.size
 go_upto_region 2 with fail
 have kx := hide (Ro.new u #[.int .i32 t1, .bool t2, .int .u8 (q : Int)] 57)
 have hbx := hide (bl_alloc hb.out (.cells #[.int .i32 t1, .bool t2, .int .u8 (q : Int)] 57))
 have k3x := hide (k3.out.alloc (.cells #[.int .i32 t1, .bool t2, .int .u8 (q : Int)] 57))
 have krx := hide (kr.out.alloc (.cells #[.int .i32 t1, .bool t2, .int .u8 (q : Int)] 57))
 clear f0 f1 f2 y2 k3 kr hb
 generalize u.heap.size = gx at *
 generalize u.alloc (.cells #[.int .i32 t1, .bool t2, .int .u8 (q : Int)] 57) = u2 at *
 obtain ⟨y3, _⟩ := ro_cf k3x.out 3 _ rfl
 obtain ⟨z2, _⟩ := ro_cf kx.out 2 _ rfl
 have j1 : IntKind.i64.wrap (q : Int) = (q : Int) := by rw [IntKind.wrap_i64]; omega
 have j2 : IntKind.i64.wrap t1 = t1 := by rw [IntKind.wrap_i64]; omega
 go_wp2_with fail
 refine (N.out _ hbx.out).mono ?_
 rintro e w' ⟨rfl, h1⟩
 replace kx := hide (kx.out.below h1)
 replace krx := hide (krx.out.below h1)
 replace hbx := hide (bel_next hbx.out h1)
 clear h1
 clear y3 z2
 obtain ⟨z0, _⟩ := ro_cf kx.out 0 _ rfl
 obtain ⟨z1, _⟩ := ro_cf kx.out 1 _ rfl
 obtain ⟨r0, v0⟩ := ro_cf krx.out 0 _ rfl
 obtain ⟨r1, v1⟩ := ro_cf krx.out 1 _ rfl
 obtain ⟨r2, v2⟩ := ro_cf krx.out 2 _ rfl
 obtain ⟨r3, v3⟩ := ro_cf krx.out 3 _ rfl
 go_wp2_with fail
 have kz := ro_set4' (x0 := .bool true) (x1 := .int .i64 t1) (x2 := .bool t2) (x3 := .string nm) krx.out
 have s0 := (ro_cf kz 0 _ rfl).1
 have s1 := (ro_cf kz 1 _ rfl).1
 have s2 := (ro_cf kz 2 _ rfl).1
 have s3 := (ro_cf kz 3 _ rfl).1
 exact bodyPost_ret (v := .agg #[.bool true, .int .i64 t1, .bool t2, .string nm]) (by simp [results, Tryz.results39, go_sem, s0, s1, s2, s3]) rfl ⟨rfl, bl_setx4 hbx.out (by omega)⟩
end r20_
def lastT (b : Bk) : Int := (b.ti[b.ti.length - 1]?).getD 0
def lastX (b : Bk) : TT := (b.ty[((b.ix[b.ti.length - 1]?).getD 0).toNat]?).getD (0, false, 0)
noncomputable def onB (r : PR) (u : Int) : Bool := by
 classical exact decide (ruleS r.2.2.1 r.2.2.2.2.2.1 r.2.2.2.2.2.2 r.2.1 r.2.2.2.2.1 u)
theorem onB_iff (r : PR) (u : Int) : onB r u = true ↔ ruleS r.2.2.1 r.2.2.2.2.2.1 r.2.2.2.2.2.2 r.2.1 r.2.2.2.2.1 u := by
 unfold onB
 simp
def sameR (b : Bool) (so dof : Int) (std dst : ByteArray) (x : TT) (nm : ByteArray) : Bool :=
 decide ((if b then dof else so) = x.1) && decide (b = x.2.1) && decide ((if b then dst else std) = nm)
noncomputable def agB (r : PR) (b : Bk) : Bool :=
 sameR (onB r (satM (lastT b) (cr b.lp (lastT b)))) r.2.1 r.2.2.2.2.1 (mkS r.1) (mkS r.2.2.2.1) (lastX b) (bS (nameL b.ch (lastX b).2.2.toNat))
def exR (r : PR) : Bool := r.2.2.1 && (lateD r.2.2.2.2.2.1 || lateD r.2.2.2.2.2.2)
noncomputable def vFr (r : PR) (v : Int) (b : Bk) : Int :=
 if v = 2 ∧ exR r = true then 16 else if b.ti.length = 0 then 0 else if agB r b = true then 0 else 15
noncomputable def vF (l : List UInt8) (v : Int) (b : Bk) : Int × Int :=
 if l = [] then (0, 0) else match ptParse l with
 | .error x => (14, (x : Int))
 | .ok r => (vFr r v b, 0)
def zB (b : Bk) : Bool := decide (b.ti.length + b.ix.length + b.ty.length + b.ch.length + b.lp.length + b.sd.length + b.ut.length = 0)
theorem zB_eq (b : Bk) : zB b = beqB b Bk.zero := by
 unfold zB
 rw [Bool.eq_iff_iff, decide_eq_true_iff, beqB_iff]
 obtain ⟨a1, a2, a3, a4, a5, a6, a7⟩ := b
 constructor
 ·intro h
  dsimp only at h
  simp only [Bk.zero, Bk.mk.injEq]
  refine ⟨?_, ?_, ?_, ?_, ?_, ?_, ?_⟩
  all_goals exact List.length_eq_zero_iff.1 (by omega)
 ·intro h
  simp only [Bk.zero, Bk.mk.injEq] at h
  obtain ⟨rfl, rfl, rfl, rfl, rfl, rfl, rfl⟩ := h
  rfl
noncomputable def vFile (v : Int) (a b : Bk) (l : List UInt8) : Int :=
 if v < 1 ∨ 4 < v then 4 else if vB a (decide (v = 4)) 4 ≠ 0 then vB a (decide (v = 4)) 4 else if v = 1 then (if l = [] ∧ zB b = true then 0 else 18)
 else if vB b (decide (v = 4)) 8 ≠ 0 then vB b (decide (v = 4)) 8 else (vF l v b).1
theorem vF_up {l : List UInt8} {v : Int} {b : Bk} (h : (vF l v b).1 = 0) : (vF l (v + 1) b).1 = 0 ∨ v + 1 = 2 := by
 by_cases hv : v + 1 = 2
 ·exact .inr hv
 refine .inl ?_
 unfold vF at h ⊢
 split
 ·rfl
 ·rename_i hl
  rw [if_neg hl] at h
  cases hp : ptParse l with
  | error x => rw [hp] at h; exact absurd h (by simp)
  | ok r =>
    rw [hp] at h
    dsimp only at h ⊢
    unfold vFr at h ⊢
    rw [if_neg (fun q => hv q.1)]
    split at h
    ·cases h
    ·exact h
theorem vB_up {b : Bk} {v : Int} {k : Nat} (hv : v ≠ 4) (h : vB b (decide (v = 4)) k = 0) (v' : Int) : vB b (decide (v' = 4)) k = 0 := by
 rw [decide_eq_false hv] at h
 exact (vB_iff _ _ _).2 (((vB_iff _ _ _).1 h).le4 _)
theorem vFile_up {v : Int} {a b : Bk} {l : List UInt8} (h0 : 2 ≤ v) (h1 : v < 4) (h : vFile v a b l = 0) : vFile (v + 1) a b l = 0 := by
 unfold vFile at h ⊢
 rw [if_neg (by omega)] at h
 rw [if_neg (by omega)]
 by_cases e1 : vB a (decide (v = 4)) 4 = 0
 ·rw [if_neg (fun q => q e1), if_neg (by omega)] at h
  rw [if_neg (fun q => q (vB_up (by omega) e1 _)), if_neg (by omega)]
  by_cases e2 : vB b (decide (v = 4)) 8 = 0
  ·rw [if_neg (fun q => q e2)] at h
   rw [if_neg (fun q => q (vB_up (by omega) e2 _))]
   rcases vF_up h with h | h
   ·exact h
   ·omega
  ·rw [if_pos e2] at h; exact absurd h e2
 ·rw [if_pos e1] at h; exact absurd h e1
theorem cr_bd {ts : List LP} (h : ∀ t ∈ ts, lpOk t) (t : Int) : -2147483648 ≤ cr ts t ∧ cr ts t ≤ 2147483647 := by
 have key : ∀ n, -2147483648 ≤ crN ts t n ∧ crN ts t n ≤ 2147483647 := by
  intro n
  induction n with
  | zero => simp [crN]
  | succ n ih =>
    unfold crN
    split
    ·unfold lr
     cases hx : ts[n]? with
     | none => simp
     | some x =>
       have := h x (List.mem_of_getElem? hx)
       unfold lpOk at this
       simp
       omega
    ·exact ih
 exact key _
theorem chk_lt {ts : List TT} {n : Int} (h : chk ts n = 0) {t : TT} (ht : t ∈ ts) : t.2.2 < n := by
 unfold chk at h
 split at h
 ·cases h
 ·split at h
  ·cases h
  ·rename_i h2
   rw [Bool.not_eq_true, List.any_eq_false] at h2
   have := h2 t ht
   simp at this
   exact this
theorem BOk.last {b : Bk} {four : Bool} {k : Nat} (h : BOk b four k) (hb : b.ok) (hn : b.ti.length ≠ 0) :
 ∃ (j q : Nat), b.ti[b.ti.length - 1]? = some (lastT b) ∧ b.ix[b.ti.length - 1]? = some (j : Int) ∧ b.ty[j]? = some (lastX b) ∧ j < b.ty.length ∧ (lastX b).2.2 = (q : Int) ∧ q < b.ch.length ∧ b.ix.length = b.ti.length ∧ ttOk (lastX b) ∧ I64 (lastT b) := by
 have hc := h.cnt
 unfold cntOk at hc
 simp only [Bool.and_eq_true, decide_eq_true_eq] at hc
 have hl : b.ix.length = b.ti.length := hc.1.1.1.1
 have e1 : b.ti[b.ti.length - 1]? = some (lastT b) := by
  unfold lastT
  rw [List.getElem?_eq_getElem (by omega)]
  rfl
 obtain ⟨v, e2⟩ : ∃ v, b.ix[b.ti.length - 1]? = some v := ⟨_, List.getElem?_eq_getElem (by omega)⟩
 have hm := List.mem_of_getElem? e2
 have hv := List.all_eq_true.1 h.ix v hm
 simp at hv
 have hv0 := hb.ix.mem v hm
 obtain ⟨j, rfl⟩ : ∃ j : Nat, v = (j : Int) := ⟨v.toNat, by omega⟩
 have hj : j < b.ty.length := by omega
 have e3 : b.ty[j]? = some (lastX b) := by
  unfold lastX
  rw [e2]
  simp only [Option.getD_some, Int.toNat_natCast]
  rw [List.getElem?_eq_getElem hj]
  rfl
 have ht := hb.ty _ (List.mem_of_getElem? e3)
 have hq := chk_lt h.ty (List.mem_of_getElem? e3)
 have hq0 : 0 ≤ (lastX b).2.2 := ht.2.2.1
 exact ⟨j, (lastX b).2.2.toNat, e1, e2, e3, hj, by omega, by omega, hl, ht, hb.ti _ (List.mem_of_getElem? e1)⟩
theorem eqR (w : World) (a a' : Int) (b b' : Bool) (s s' : ByteArray) : (binOp .eql 79 (.agg #[.bool true, .int .i64 a, .bool b, .string s]) (.agg #[.bool true, .int .i64 a', .bool b', .string s'])).run Tryz.prog w = .ok (.bool (decide (a = a') && decide (b = b') && decide (s = s'))) w := by
 have e : (s.toList = s'.toList) ↔ s = s' := by
  constructor
  ·intro h
   rw [ByteArray.toList_eq, ByteArray.toList_eq] at h
   exact ByteArray.ext (Array.toList_inj.1 h)
  ·rintro rfl; rfl
 simp only [← e]
 simp [go_sem]
 by_cases h1 : a = a' <;> by_cases h2 : b = b' <;> by_cases h3 : s.toList = s'.toList <;> simp [h1, h2, h3]
theorem neR (w : World) (a a' : Int) (b b' : Bool) (s s' : ByteArray) : (binOp .neq 79 (.agg #[.bool true, .int .i64 a, .bool b, .string s]) (.agg #[.bool true, .int .i64 a', .bool b', .string s'])).run Tryz.prog w = .ok (.bool !(decide (a = a') && decide (b = b') && decide (s = s'))) w := by
 have e : (s.toList = s'.toList) ↔ s = s' := by
  constructor
  ·intro h
   rw [ByteArray.toList_eq, ByteArray.toList_eq] at h
   exact ByteArray.ext (Array.toList_inj.1 h)
  ·rintro rfl; rfl
 simp only [← e]
 simp [go_sem]
 by_cases h1 : a = a' <;> by_cases h2 : b = b' <;> by_cases h3 : s.toList = s'.toList <;> simp [h1, h2, h3]
structure But (b : Nat) (w w' : World) : Prop where
 os : w'.os = w.os
 tape : w'.tape = w.tape
 output : w'.output = w.output
 size : w.heap.size ≤ w'.heap.size
 block : ∀ k, k < w.heap.size → k ≠ b → w'.heap[k]? = w.heap[k]?
theorem But.refl (b : Nat) (w : World) : But b w w := ⟨rfl, rfl, rfl, Nat.le_refl _, fun _ _ _ => rfl⟩
theorem But.trans {b : Nat} {w w1 w2 : World} (h : But b w w1) (k : But b w1 w2) : But b w w2 :=
 ⟨k.os.trans h.os, k.tape.trans h.tape, k.output.trans h.output, Nat.le_trans h.size k.size, fun i hi hn => (k.block i (Nat.lt_of_lt_of_le hi h.size) hn).trans (h.block i hi hn)⟩
theorem But.of {b : Nat} {w w1 : World} (h : Below w.heap.size w w1) : But b w w1 := ⟨h.os, h.tape, h.output, h.size, fun k hk _ => h.block k hk⟩
theorem But.next {b : Nat} {w w1 w2 : World} (h : But b w w1) (k : Below w1.heap.size w1 w2) : But b w w2 := h.trans (.of k)
theorem But.set {b o : Nat} {w w1 : World} (h : But b w w1) (v : Value) : But b w (w1.setCell ⟨b, o, none⟩ v) :=
 h.trans ⟨rfl, rfl, rfl, by simp [World.setCell], fun k hk hn => Below.heap_setCell w1 ⟨b, o, none⟩ v k hn⟩
theorem But.setNew {b g o : Nat} {w w1 : World} (h : But b w w1) (hg : w.heap.size ≤ g) (v : Value) : But b w (w1.setCell ⟨g, o, none⟩ v) :=
 ⟨h.os, h.tape, h.output, by have := h.size; simpa [World.setCell] using this, fun k hk hn => (Below.heap_setCell w1 ⟨g, o, none⟩ v k (by show k ≠ g; omega)).trans (h.block k hk hn)⟩
theorem But.alloc {b : Nat} {w w1 : World} (h : But b w w1) (o : Obj) : But b w (w1.alloc o) := h.next (bl_new _ _)
theorem But.below {b B : Nat} {w w1 : World} (h : But b w w1) (hB : B ≤ b) (hb : b < w.heap.size) : Below B w w1 := ⟨h.os, h.tape, h.output, h.size, fun k hk => h.block k (by omega) (by omega)⟩
theorem Bx.but {b g : Nat} {w w1 : World} {vs : List Value} (h : Bx w g vs) (hb : But b w w1) (hne : g ≠ b) : Bx w1 g vs := by
 have e := hb.block g h.1 hne
 exact ⟨Nat.lt_of_lt_of_le h.1 hb.size, fun j v hj => by rw [World.cell?_of_block (w := w) (a := ⟨g, j, none⟩) e]; exact h.2.1 j v hj, fun j => by rw [World.frozen?_of_block (w := w) (a := ⟨g, j, none⟩) e]; exact h.2.2 j⟩
end Go.Proofs.YtbehflfpdkedgaaGreatDoor

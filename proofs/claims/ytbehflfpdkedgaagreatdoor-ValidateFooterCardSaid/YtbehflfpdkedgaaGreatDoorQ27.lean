/-
  Texts of mine in one file: Dt, TeMg. Their conditions stand in the theorems.
-/
import Derived.Test.YtbehflfpdkedgaaGreatDoorQ23
import Derived.Test.YtbehflfpdkedgaaGreatDoorQ03
import Derived.Deep.RegionHeld3
import Derived.Deep.DeepCutAuto
import Derived.Test.YtbehflfpdkedgaaGreatDoorQ15
namespace Go.Proofs.YtbehflfpdkedgaaGreatDoor
set_option linter.unusedVariables false
set_option linter.unusedSimpArgs false
set_option maxRecDepth 100000
set_option maxHeartbeats 16000000
open Go.ChangeShapes Go.WideShapes Go.ChangeAt Go.RowKit
theorem Bx.store7 {w : World} {g : Nat} {a b c d e f k a' b' c' d' e' f' k' : Value} (h : Bx w g [a', b', c', d', e', f', k']) :
 Bx (((((((w.setCell ⟨g, 0, none⟩ a).setCell ⟨g, 1, none⟩ b).setCell ⟨g, 2, none⟩ c).setCell ⟨g, 3, none⟩ d).setCell ⟨g, 4, none⟩ e).setCell ⟨g, 5, none⟩ f).setCell ⟨g, 6, none⟩ k) g [a, b, c, d, e, f, k] :=
 ((((((h.set 0 a (by simp)).set 1 b (by simp)).set 2 c (by simp)).set 3 d (by simp)).set 4 e (by simp)).set 5 f (by simp)).set 6 k (by simp)
theorem bl_set7 {w0 w : World} {a b c d e f k : Value} (h : Below w0.heap.size w0 w) {g : Nat} (hg : w0.heap.size ≤ g) :
 Below w0.heap.size w0 (((((((w.setCell ⟨g, 0, none⟩ a).setCell ⟨g, 1, none⟩ b).setCell ⟨g, 2, none⟩ c).setCell ⟨g, 3, none⟩ d).setCell ⟨g, 4, none⟩ e).setCell ⟨g, 5, none⟩ f).setCell ⟨g, 6, none⟩ k) :=
 bl_set (bl_set (bl_set (bl_set (bl_set (bl_set (bl_set h hg _) hg _) hg _) hg _) hg _) hg _) hg _
namespace dt_
theorem Split_ (t : Int) (w : World) (h0 : -9223372036854775808 ≤ t) (h1 : t < 9223372036854775808) :
 Calls Tryz.prog 160 #[.int .i64 t] w fun e w' => e = .returned (.tuple #[.int .i64 (t / 86400), .int .i64 (t % 86400)]) ∧ w = w' := by
 by_cases hp : 0 ≤ t
 ·go_enter Tryz.func160, Tryz.ntmps160
  go_wp2
  go_ret2
  exact ⟨ret2i (by omega) rfl, rfl⟩
 ·obtain ⟨z, hz⟩ : ∃ z : Nat, t = -(z : Int) := ⟨(-t).toNat, by omega⟩
  have hzb : (z : Int) ≤ 9223372036854775808 := by omega
  have e1 : t.tmod 86400 = -((z : Int) % 86400) := by rw [hz, Int.neg_tmod, Int.tmod_eq_emod_of_nonneg (by omega)]
  have e2 : t.tdiv 86400 = -((z : Int) / 86400) := by rw [hz, Int.neg_tdiv, Int.tdiv_eq_ediv_of_nonneg (by omega)]
  rcases (show 0 < (z : Int) % 86400 ∨ (z : Int) % 86400 = 0 by omega) with hz2 | hz2
  ·have Z := hide hz
   clear hz
   go_enter Tryz.func160, Tryz.ntmps160
   go_wp2
   go_ret2
   exact ⟨ret2i (by have := Z.out; omega) (by have := Z.out; omega), rfl⟩
  ·rw [hz2, Int.neg_zero] at e1
   have Z := hide (And.intro hz hz2)
   clear hz hz2
   go_enter Tryz.func160, Tryz.ntmps160
   go_wp2
   go_ret2
   exact ⟨ret2i (by have := Z.out; omega) (by have := Z.out; omega), rfl⟩
theorem compose_ (n s Y M D : Int) (w : World) (hT : Tb w) (h0 : loDay ≤ n) (h1 : n ≤ hiDay) (hs0 : 0 ≤ s) (hs1 : s < 86400) (hd : IsDate n Y M D) :
 Calls Tryz.prog 181 #[.int .i64 n, .int .i64 s] w fun e w' => e = .returned (vdt Y M D (s / 3600) (s % 3600 / 60) (s % 60) ((n + 4) % 7)) ∧ Below w.heap.size w w' := by
 have C1 := hide (fun w hT => cv_.Date n Y M D w hT h0 h1 hd)
 have C2 := hide (fun w hT => cv_.Weekday n w hT h0 h1)
 have hm : Hid (s / 60 % 60 = s % 3600 / 60) := hide (by omega)
 clear h0 h1 hd
 obtain ⟨wd, hwd⟩ : ∃ x, x = (n + 4) % 7 := ⟨_, rfl⟩
 rw [← hwd] at C2 ⊢
 clear hwd
 have hb := hide (bl_new w (.cells #[.int .i64 0, .int .i64 0, .int .i64 0, .int .i64 0, .int .i64 0, .int .i64 0, .int .i64 0] 119))
 have HT := hide (hT.below hb.out)
 have bx := hide (Bx.new w [.int .i64 0, .int .i64 0, .int .i64 0, .int .i64 0, .int .i64 0, .int .i64 0, .int .i64 0] 119)
 clear hT
 go_enter Tryz.func181, Tryz.ntmps181
 go_wp2_with fail
 refine (C1.out _ HT.out).mono ?_
 rintro e w1 ⟨rfl, h1⟩
 replace HT := hide (HT.out.below h1)
 replace hb := hide (bel_next hb.out h1)
 replace bx := hide (bx.out.below h1)
 clear h1
 go_wp2_with fail
 refine (C2.out _ HT.out).mono ?_
 rintro e w2 ⟨rfl, h1⟩
 replace HT := hide (HT.out.below h1)
 replace hb := hide (bel_next hb.out h1)
 replace bx := hide (bx.out.below h1)
 clear h1
 obtain ⟨x0, x1, x2, x3, x4, x5, x6⟩ := cells7 bx.out
 have hlt := bx.out.lt
 have hfr := bx.out.fr
 go_wp2
 obtain ⟨y0, y1, y2, y3, y4, y5, y6⟩ := cells7 (bx.out.store7 (a := .int .i64 Y) (b := .int .i64 M) (c := .int .i64 D) (d := .int .i64 (s / 3600)) (e := .int .i64 (s / 60 % 60)) (f := .int .i64 (s % 60)) (k := .int .i64 wd))
 refine bodyPost_ret (v := vdt Y M D (s / 3600) (s / 60 % 60) (s % 60) wd) (by simp [results, Tryz.results181, go_sem, vdt, y0, y1, y2, y3, y4, y5, y6]) rfl ⟨by rw [hm.out], bl_set7 hb.out (Nat.le_refl _)⟩
theorem Of (t Y M D : Int) (w : World) (hT : Tb w) (h0 : -9223372036854775808 ≤ t) (h1 : t < 9223372036854775808) (hd : IsDate (t / 86400) Y M D) :
 Calls Tryz.prog 161 #[.int .i64 t] w fun e w' => e = .returned (vof t Y M D) ∧ Below w.heap.size w w' := by
 have C1 := hide (fun w => Split_ t w h0 h1)
 have C2 := hide (fun w hT => compose_ (t / 86400) (t % 86400) Y M D w hT (by unfold loDay ystart; omega) (by unfold hiDay ystart; omega) (by omega) (by omega) hd)
 unfold vof
 clear hd
 unfold vdt at *
 generalize t / 86400 = n at *
 generalize t % 86400 = s at *
 generalize s / 3600 = s1 at *
 generalize s % 3600 / 60 = s2 at *
 generalize s % 60 = s3 at *
 generalize (n + 4) % 7 = s4 at *
 have hb := hide (bl_new w (.cells #[.int .i64 0, .int .i64 0, .int .i64 0, .int .i64 0, .int .i64 0, .int .i64 0, .int .i64 0] 119))
 have HT := hide (hT.below hb.out)
 have bx := hide (Bx.new w [.int .i64 0, .int .i64 0, .int .i64 0, .int .i64 0, .int .i64 0, .int .i64 0, .int .i64 0] 119)
 clear hT
 go_enter Tryz.func161, Tryz.ntmps161
 go_wp2_with fail
 refine (C1.out _).mono ?_
 rintro e w1 ⟨rfl, rfl⟩
 go_wp2_with fail
 refine (C2.out _ HT.out).mono ?_
 rintro e w2 ⟨rfl, h1⟩
 replace HT := hide (HT.out.below h1)
 replace hb := hide (bel_next hb.out h1)
 replace bx := hide (bx.out.below h1)
 clear h1
 obtain ⟨x0, x1, x2, x3, x4, x5, x6⟩ := cells7 bx.out
 have hlt := bx.out.lt
 have hfr := bx.out.fr
 go_wp2
 obtain ⟨y0, y1, y2, y3, y4, y5, y6⟩ := cells7 (bx.out.store7 (a := .int .i64 Y) (b := .int .i64 M) (c := .int .i64 D) (d := .int .i64 s1) (e := .int .i64 s2) (f := .int .i64 s3) (k := .int .i64 s4))
 refine bodyPost_ret (v := vdt Y M D s1 s2 s3 s4) (by simp [results, Tryz.results161, go_sem, vdt, y0, y1, y2, y3, y4, y5, y6]) rfl ⟨rfl, bl_set7 hb.out (Nat.le_refl _)⟩
theorem YearOf (t Y M D : Int) (w : World) (hT : Tb w) (h0 : -9223372036854775808 ≤ t) (h1 : t < 9223372036854775808) (hd : IsDate (t / 86400) Y M D) :
 Calls Tryz.prog 132 #[.int .i64 t] w fun e w' => e = .returned (.int .i64 Y) ∧ Below w.heap.size w w' := by
 have C1 := hide (Of t Y M D w hT h0 h1 hd)
 unfold vof vdt at C1
 clear hd
 generalize t % 86400 / 3600 = s1 at *
 generalize t % 86400 % 3600 / 60 = s2 at *
 generalize t % 86400 % 60 = s3 at *
 generalize (t / 86400 + 4) % 7 = s4 at *
 have hfld : ∀ w : World, (Instr.field 119 (.agg #[.int .i64 Y, .int .i64 M, .int .i64 D, .int .i64 s1, .int .i64 s2, .int .i64 s3, .int .i64 s4]) 0).run Tryz.prog w = .ok (.int .i64 Y) w := fun _ => rfl
 go_enter Tryz.func132, Tryz.ntmps132
 go_wp2_with fail
 refine (C1.out).mono ?_
 rintro e w1 ⟨rfl, h1⟩
 have hb := hide h1
 clear h1
 go_wp2
 go_ret
 exact ⟨rfl, hb.out⟩
end dt_
def lastSt (pre : List (Int × Bool)) : Bool := (pre.getLast?.map (·.2)).getD false
theorem lastSt_snoc (pre : List (Int × Bool)) (x : Int × Bool) : lastSt (pre ++ [x]) = x.2 := by simp [lastSt]
inductive Mg (st en : RD) (so dof lo hi : Int) : List (Int × Bool) → Int → Int → Prop
 | nil : Mg st en so dof lo hi [] lo lo
 | a {pre ys ye} : Mg st en so dof lo hi pre ys ye → ys ≤ hi → ye ≤ hi → chI st so ys < chI en dof ye → Mg st en so dof lo hi (pre ++ [(chI st so ys, true)]) (ys + 1) ye
 | ab {pre ys ye} : Mg st en so dof lo hi pre ys ye → ys ≤ hi → ye ≤ hi → chI st so ys = chI en dof ye → Mg st en so dof lo hi (pre ++ [(chI st so ys, true)]) (ys + 1) (ye + 1)
 | b {pre ys ye} : Mg st en so dof lo hi pre ys ye → ys ≤ hi → ye ≤ hi → chI en dof ye < chI st so ys → Mg st en so dof lo hi (pre ++ [(chI en dof ye, false)]) ys (ye + 1)
structure MgI (st en : RD) (so dof lo hi : Int) (pre : List (Int × Bool)) (ys ye : Int) : Prop where
 l1 : lo ≤ ys
 l2 : lo ≤ ye
 h1 : ys ≤ max lo (hi + 1)
 h2 : ye ≤ max lo (hi + 1)
 c1 : lo < ye → chI en dof (ye - 1) < chI st so ys
 c2 : lo < ys → chI st so (ys - 1) < chI en dof ye
 s : lastSt pre = true ↔ lo < ys ∧ (ye = lo ∨ chI en dof (ye - 1) ≤ chI st so (ys - 1))
 m1 : lo < ys → ∃ x ∈ pre, x.1 = chI st so (ys - 1)
 m2 : lo < ye → ∃ x ∈ pre, x.1 = chI en dof (ye - 1)
section
variable {st en : RD} {so dof lo hi : Int} {pre : List (Int × Bool)} {ys ye : Int}
theorem Mg.inv (hs : rdOk st) (he : rdOk en) (h : Mg st en so dof lo hi pre ys ye) : MgI st en so dof lo hi pre ys ye := by
 induction h with
 | nil => exact ⟨by omega, by omega, by omega, by omega, by omega, by omega, by simp [lastSt], by omega, by omega⟩
 | a hm h1 h2 hc ih =>
   rename_i pre ys ye
   have := chI_step hs so ys
   have l1 := ih.l1
   have l2 := ih.l2
   have e : ys + 1 - 1 = ys := by omega
   refine ⟨by omega, by omega, by omega, by omega, fun hl => ?_, fun _ => by rw [e]; exact hc, ?_, fun _ => ⟨(chI st so ys, true), by simp, by rw [e]⟩, fun hl => ?_⟩
   ·have := ih.c1 hl; omega
   ·rw [lastSt_snoc, e]
    refine ⟨fun _ => ⟨by omega, ?_⟩, fun _ => rfl⟩
    by_cases hl : ye = lo
    ·exact .inl hl
    ·have := ih.c1 (by omega); exact .inr (by omega)
   ·obtain ⟨x, hx, hv⟩ := ih.m2 hl
    exact ⟨x, by simp [hx], hv⟩
 | ab hm h1 h2 hc ih =>
   rename_i pre ys ye
   have := chI_step hs so ys
   have := chI_step he dof ye
   have l1 := ih.l1
   have l2 := ih.l2
   have e : ys + 1 - 1 = ys := by omega
   have e2 : ye + 1 - 1 = ye := by omega
   refine ⟨by omega, by omega, by omega, by omega, fun hl => by rw [e2]; omega, fun _ => by rw [e]; omega, ?_, fun _ => ⟨(chI st so ys, true), by simp, by rw [e]⟩, fun _ => ⟨(chI st so ys, true), by simp, by rw [e2, ← hc]⟩⟩
   rw [lastSt_snoc, e, e2]
   exact ⟨fun _ => ⟨by omega, .inr (by omega)⟩, fun _ => rfl⟩
 | b hm h1 h2 hc ih =>
   rename_i pre ys ye
   have := chI_step he dof ye
   have l1 := ih.l1
   have l2 := ih.l2
   have e2 : ye + 1 - 1 = ye := by omega
   refine ⟨by omega, by omega, by omega, by omega, fun hl => by rw [e2]; omega, fun hl => ?_, ?_, fun hl => ?_, fun _ => ⟨(chI en dof ye, false), by simp, by rw [e2]⟩⟩
   ·have := ih.c2 hl; omega
   ·rw [lastSt_snoc, e2]
    refine ⟨fun h => (by cases h), fun ⟨h1, h2⟩ => ?_⟩
    have := ih.c2 h1
    omega
   ·obtain ⟨x, hx, hv⟩ := ih.m1 hl
    exact ⟨x, by simp [hx], hv⟩
theorem Mg.back {x : Int × Bool} {y z : Int} (h : Mg st en so dof lo hi (pre ++ [x]) y z) : ∃ ys ye, Mg st en so dof lo hi pre ys ye ∧ x.1 ≤ chI st so ys ∧ x.1 ≤ chI en dof ye ∧
 ((x = (chI st so ys, true) ∧ y = ys + 1 ∧ z = ye ∧ chI st so ys < chI en dof ye) ∨ (x = (chI st so ys, true) ∧ y = ys + 1 ∧ z = ye + 1 ∧ chI st so ys = chI en dof ye) ∨ (x = (chI en dof ye, false) ∧ y = ys ∧ z = ye + 1 ∧ chI en dof ye < chI st so ys)) := by
 generalize hq : pre ++ [x] = q at h
 cases h with
 | nil => simp at hq
 | a hm h1 h2 hc =>
   obtain ⟨rfl, hx⟩ := List.append_inj' hq rfl
   cases hx
   exact ⟨_, _, hm, by simp, by simp; omega, .inl ⟨rfl, rfl, rfl, hc⟩⟩
 | ab hm h1 h2 hc =>
   obtain ⟨rfl, hx⟩ := List.append_inj' hq rfl
   cases hx
   exact ⟨_, _, hm, by simp, by simp; omega, .inr (.inl ⟨rfl, rfl, rfl, hc⟩)⟩
 | b hm h1 h2 hc =>
   obtain ⟨rfl, hx⟩ := List.append_inj' hq rfl
   cases hx
   exact ⟨_, _, hm, by simp; omega, by simp, .inr (.inr ⟨rfl, rfl, rfl, hc⟩)⟩
theorem Mg.on (hs : rdOk st) (he : rdOk en) (h : Mg st en so dof lo hi pre ys ye) {u : Int} (hy : lo < ys) (hz : lo < ye) (a1 : chI st so (ys - 1) ≤ u) (a2 : u < chI st so ys) (b1 : chI en dof (ye - 1) ≤ u) (b2 : u < chI en dof ye) :
 onS st en so dof u ↔ lastSt pre = true := by
 have hi := h.inv hs he
 have e1 : ys - 1 + 1 = ys := by omega
 have e2 : ye - 1 + 1 = ye := by omega
 rw [onS_iff hs he a1 (by rw [e1]; exact a2) b1 (by rw [e2]; exact b2), hi.s]
 omega
end
theorem chI_early {d : RD} (h : rdOk d) {o t Y : Int} (ho : -89999 ≤ o ∧ o ≤ 89999) (t0 : ystart Y * 86400 ≤ t) : chI d o (Y - 2) ≤ t := by
 have b := chI_bd h ho (Y - 2)
 have := ystart_gap (show Y - 2 + 1 < Y by omega)
 omega
theorem chI_late {d : RD} (h : rdOk d) {o t Y : Int} (ho : -89999 ≤ o ∧ o ≤ 89999) (t1 : t < ystart (Y + 1) * 86400) : t < chI d o (Y + 2) := by
 have b := chI_bd h ho (Y + 2)
 have := ystart_gap (show Y + 1 < Y + 2 by omega)
 omega
section
variable {st en : RD} {so dof t Y : Int} {pre : List (Int × Bool)}
theorem mg_day (hs : rdOk st) (he : rdOk en) (so0 : -89999 ≤ so ∧ so ≤ 89999) (do0 : -89999 ≤ dof ∧ dof ≤ 89999) (t0 : ystart Y * 86400 ≤ t) {hi y z : Int} {x : Int × Bool}
 (h : Mg st en so dof (Y - 2) hi (pre ++ [x]) y z) (hp : ∀ c ∈ pre, c.1 ≤ t) (hx : t < x.1) : onS st en so dof t ↔ lastSt pre = true := by
 obtain ⟨ys, ye, hm, x1, x2, _⟩ := h.back
 have iv := hm.inv hs he
 have e1 := chI_early hs so0 t0
 have e2 := chI_early he do0 t0
 have l1 : Y - 2 < ys := by
  have := iv.l1
  by_cases hc : ys = Y - 2
  ·rw [hc] at x1; omega
  ·omega
 have l2 : Y - 2 < ye := by
  have := iv.l2
  by_cases hc : ye = Y - 2
  ·rw [hc] at x2; omega
  ·omega
 obtain ⟨p, hp1, hp2⟩ := iv.m1 l1
 obtain ⟨q, hq1, hq2⟩ := iv.m2 l2
 have := hp p hp1
 have := hp q hq1
 exact hm.on hs he l1 l2 (by omega) (by omega) (by omega) (by omega)
theorem mg_day_end (hs : rdOk st) (he : rdOk en) (so0 : -89999 ≤ so ∧ so ≤ 89999) (do0 : -89999 ≤ dof ∧ dof ≤ 89999) (t1 : t < ystart (Y + 1) * 86400) {y z : Int}
 (h : Mg st en so dof (Y - 2) (Y + 2) pre y z) (hd : Y + 2 < y ∨ Y + 2 < z) (hp : ∀ c ∈ pre, c.1 ≤ t) : False := by
 have iv := h.inv hs he
 have h1 := iv.h1
 have h2 := iv.h2
 rcases hd with hd | hd
 ·obtain ⟨p, hp1, hp2⟩ := iv.m1 (by omega)
  have := hp p hp1
  have := chI_late hs so0 t1
  rw [show y - 1 = Y + 2 by omega] at hp2
  omega
 ·obtain ⟨p, hp1, hp2⟩ := iv.m2 (by omega)
  have := hp p hp1
  have := chI_late he do0 t1
  rw [show z - 1 = Y + 2 by omega] at hp2
  omega
inductive Kp (t last : Int) : List (Int × Bool) → Prop
 | nil : Kp t last []
 | snoc {pre x} : Kp t last pre → x.1 ≤ last → (t < x.1 → x.2 = lastSt pre) → Kp t last (pre ++ [x])
theorem Kp.back {last : Int} {x : Int × Bool} (h : Kp t last (pre ++ [x])) : Kp t last pre ∧ x.1 ≤ last ∧ (t < x.1 → x.2 = lastSt pre) := by
 generalize hq : pre ++ [x] = q at h
 cases h with
 | nil => simp at hq
 | snoc h1 h2 h3 =>
   obtain ⟨rfl, hx⟩ := List.append_inj' hq rfl
   cases hx
   exact ⟨h1, h2, h3⟩
theorem Kp.all {last : Int} (h : Kp t last pre) : ∀ c ∈ pre, c.1 ≤ last := by
 induction h with
 | nil => simp
 | snoc h1 h2 h3 ih =>
   intro c hc
   rcases List.mem_append.1 hc with hc | hc
   ·exact ih c hc
   ·simp at hc; subst hc; exact h2
end
end Go.Proofs.YtbehflfpdkedgaaGreatDoor

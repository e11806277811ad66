/-
  Texts of mine in one file: Lp, In. Their conditions stand in the theorems.
-/
import Derived.Test.YtbehflfpdkedgaaGreatDoorQ12
import Derived.Test.YtbehflfpdkedgaaGreatDoorQ04
import Derived.Test.YtbehflfpdkedgaaGreatDoorQ07
import Derived.Test.YtbehflfpdkedgaaGreatDoorQ09
import Derived.Deep.RegionHeld3
import Derived.Deep.DeepCutAuto
import Derived.Deep.RegionLaw
import Derived.Laws.EntriesVeiled
import Derived.Test.YtbehflfpdkedgaaGreatDoorQ01
import Derived.Test.YtbehflfpdkedgaaGreatDoorRows
import Derived.Lib.LaidTab
import Derived.MakeChecks
import Derived.LaidHandle
namespace Go.Proofs.YtbehflfpdkedgaaGreatDoor
set_option linter.unusedVariables false
set_option linter.unusedSimpArgs false
set_option maxRecDepth 100000
set_option maxHeartbeats 16000000
open Go.ChangeShapes Go.WideShapes Go.ChangeAt Go.RowKit
namespace lp_
theorem enters {P : Program} {f : FuncId} {fn : Func} (hf : P.funcs[f]? = some fn) (hname : (fn.name == "runtime.NumGoroutine") = false) (hb : fn.body.isSome = true) (args : Array Value) (w : World) : (callFunc f args).run P w = .ok (.enter f args) w := by
 have h1 : fn.name ≠ "runtime.NumGoroutine" := by simpa using hname
 obtain ⟨c, hc⟩ := Option.isSome_iff_exists.1 hb
 simp [callFunc, hf, h1, hc]
theorem hasExpiration (A : Option Addr) (n c : Nat) (ts : List LP) (w : World) (hn : n ≤ 100000) (hr : Rk 2 w A n (lcs ts)) :
 Calls Tryz.prog 178 #[.slice A n c] w fun e w' => e = .returned (.bool (exL ts)) ∧ Below w.heap.size w w' := by
 have hl : ts.length = n := by have := hr.len; rw [lcs_len] at this; omega
 by_cases h2 : 2 ≤ n
 ·obtain ⟨ad, t, rfl, ht, f0, f1⟩ := hr.lp (i := n - 1) (by omega)
  obtain ⟨ad', u, e, hu, g0, g1⟩ := hr.lp (i := n - 2) (by omega)
  cases e
  have hx : exL ts = decide (t.2 = u.2) := by
   unfold exL lr
   rw [hl, decide_eq_true (by omega), Bool.true_and, ht, hu]
   rfl
  rw [hx]
  have i1 : IntKind.i64.wrap ((n : Int) - 1) = ((n - 1 : Nat) : Int) := by rw [IntKind.wrap_i64]; omega
  have i2 : IntKind.i64.wrap ((n : Int) - 2) = ((n - 2 : Nat) : Int) := by rw [IntKind.wrap_i64]; omega
  have l1 : n - 1 < n := by omega
  have l2 : n - 2 < n := by omega
  clear hx ht hu hl hr g0 f0
  generalize n - 1 = P at *
  generalize n - 2 = p at *
  have d1 : decide ((1 : Int) < (n : Int)) = true := decide_eq_true (by omega)
  have d2 : decide (1 < n) = true := decide_eq_true (by omega)
  have hq : (t.2 == u.2) = decide (t.2 = u.2) := rfl
  generalize decide (t.2 = u.2) = b at *
  go_enter Tryz.func178, Tryz.ntmps178
  go_wp2
  go_quiet (fail)
  go_wp2
  go_ret
  exact ⟨rfl, bel_drewN (bl_refl _) _⟩
 ·have hx : exL ts = false := by unfold exL; rw [hl, decide_eq_false h2, Bool.false_and]
  rw [hx]
  have d1 : decide ((1 : Int) < (n : Int)) = false := decide_eq_false (by omega)
  have d2 : decide (1 < n) = false := decide_eq_false (by omega)
  clear hx hl hr
  go_enter Tryz.func178, Tryz.ntmps178
  go_wp2
  go_quiet (fail)
  go_wp2
  go_ret
  exact ⟨rfl, bel_drewN (bl_refl _) _⟩
theorem search_ (F : FuncId) (cb : Array Value) (p : Nat → Bool) (n : Nat) (w : World) (hn : n < 4611686018427387904) (hC : ∀ args w, (callFunc F args).run Tryz.prog w = .ok (.enter F args) w)
 (hf : ∀ i w', i < n → Below w.heap.size w w' → Calls Tryz.prog F (#[.int .i64 (i : Nat)] ++ cb) w' fun e w'' => e = .returned (.bool (p i)) ∧ Below w'.heap.size w' w'') :
 Calls Tryz.prog 107 #[.int .i64 n, .func (.func F) #[] cb] w fun e w' => ∃ h : Nat, h ≤ n ∧ e = .returned (.int .i64 h) ∧ (h = 0 ∨ p (h - 1) = false) ∧ (h = n ∨ p h = true) ∧ Below w.heap.size w w' := by
 have HF := hide hf
 have HC := hide hC
 clear hf hC
 go_enter Tryz.func107, Tryz.ntmps107
 go_wp2
 go_loopw [5, 6] (fun s5 s6 wr => ∃ lo hi : Nat, s5 = .int .i64 lo ∧ s6 = .int .i64 hi ∧ lo ≤ hi ∧ hi ≤ n ∧ Hid (lo = 0 ∨ p (lo - 1) = false) ∧ Hid (hi = n ∨ p hi = true) ∧ Hid (Below w.heap.size w wr)) (fun s5 s6 _ => (intOf s6 - intOf s5).toNat)
 case atStart => exact ⟨0, n, rfl, rfl, Nat.zero_le _, Nat.le_refl _, hide (.inl rfl), hide (.inl rfl), hide (bl_refl _)⟩
 case round =>
  obtain ⟨lo, hi, rfl, rfl, hlh, hin, h1, h2, hw⟩ := hrel
  by_cases hlt : lo < hi
  ·have hc := HF.out ((lo + hi) / 2) wr (by omega) hw.out
   rw [show (((lo + hi) / 2 : Nat) : Int) = ((lo : Int) + (hi : Int)) / 2 by omega] at hc
   cases hp : p ((lo + hi) / 2) <;> rw [hp] at hc
   ·replace hp := hide hp
    replace hc := hide hc
    go_wp2_with fail
    rw [HC.out, Oper.upon_enter]
    refine hc.out.mono ?_
    rintro e w1 ⟨rfl, h3⟩
    have hw1 := hide (bel_next hw.out h3)
    clear hw h3 hc
    go_wp2
    go_roundw
    case rel => exact ⟨(lo + hi) / 2 + 1, hi, by rw [show ((lo : Int) + (hi : Int)) / 2 + 1 = (((lo + hi) / 2 + 1 : Nat) : Int) by omega], rfl, by omega, hin, hide (.inr (by simpa using hp.out)), h2, hw1⟩
    case measure => simp [intOf]; omega
   ·replace hp := hide hp
    replace hc := hide hc
    go_wp2_with fail
    rw [HC.out, Oper.upon_enter]
    refine hc.out.mono ?_
    rintro e w1 ⟨rfl, h3⟩
    have hw1 := hide (bel_next hw.out h3)
    clear hw h3 hc
    go_wp2
    go_roundw
    case rel => exact ⟨lo, (lo + hi) / 2, rfl, by rw [show ((lo : Int) + (hi : Int)) / 2 = (((lo + hi) / 2 : Nat) : Int) by omega], by omega, by omega, h1, hide (.inr hp.out), hw1⟩
    case measure => simp [intOf]; omega
  ·obtain rfl : hi = lo := by omega
   go_wp2
   go_ret
   exact ⟨hi, hin, rfl, h1.out, h2.out, hw.out⟩
theorem later (ga gt : Nat) (A : Option Addr) (n c : Nat) (ts : List LP) (t : Int) (i : Nat) (w : World) (hi : i < n) (hr : Rk 2 w A n (lcs ts)) (ha : w.cell? ⟨ga, 0, none⟩ = some (.slice A n c)) (ht : w.cell? ⟨gt, 0, none⟩ = some (.int .i64 t)) :
 Calls Tryz.prog 108 (#[.int .i64 (i : Nat)] ++ #[.pointer (some ⟨ga, 0, none⟩), .pointer (some ⟨gt, 0, none⟩)]) w fun e w' => e = .returned (.bool (decide (t < la ts i))) ∧ Below w.heap.size w w' := by
 obtain ⟨ad, x, rfl, hx, f0, f1⟩ := hr.lp hi
 rw [(la_some hx).1]
 clear hr hx f1
 go_enter Tryz.func108, Tryz.ntmps108
 go_wp2
 go_quiet (fail)
 go_wp2
 go_ret
 exact ⟨rfl, bel_drewN (bl_refl _) _⟩
theorem Correction (A : Option Addr) (n c : Nat) (ts : List LP) (t : Int) (w : World) (hv : vL ts true = true) (hn : n ≤ 100000) (hA : A = none → n = 0 ∧ c = 0) (hr : Rk 2 w A n (lcs ts)) (hok : ∀ t ∈ ts, lpOk t) (h0 : -9223372036854775808 ≤ t) (h1 : t < 9223372036854775808) :
 Calls Tryz.prog 77 #[.slice A n c, .int .i64 t] w fun e w' => e = .returned (.int .i64 (cr ts t)) ∧ Below w.heap.size w w' := by
 have hl : ts.length = n := by have := hr.len; rw [lcs_len] at this; omega
 have hcr := hide (fun (h : Nat) (hh : h ≤ n) (a : h = 0 ∨ decide (t < la ts (h - 1)) = false) (b : h = n ∨ decide (t < la ts h) = true) => (show cr ts t = if h = 0 then 0 else lr ts (h - 1) from cr_cut (by omega)
  (fun i hi => by
    rcases a with a | a
    ·omega
    ·have := la_mono hv (show i ≤ h - 1 by omega) (by omega)
     have := of_decide_eq_false a
     omega)
  (fun i hi h2 => by
    rcases b with b | b
    ·omega
    ·have := la_mono hv hi h2
     have := of_decide_eq_true b
     omega)))
 have HL := hide hl
 have HO := hide hok
 obtain ⟨W, hW⟩ : ∃ W : World, W = (w.alloc (.cells #[.slice A n c] 25)).alloc (.cells #[.int .i64 t] 2) := ⟨_, rfl⟩
 have hb0 : Below w.heap.size w W := by rw [hW]; exact bl_alloc (bl_new _ _) _
 have ca : W.cell? ⟨w.heap.size, 0, none⟩ = some (.slice A n c) := by rw [hW]; simp
 have ct : W.cell? ⟨w.heap.size + 1, 0, none⟩ = some (.int .i64 t) := by rw [hW]; simp
 have hrW := hr.below hb0
 have C := hide (search_ 108 #[.pointer (some ⟨w.heap.size, 0, none⟩), .pointer (some ⟨w.heap.size + 1, 0, none⟩)] (fun i => decide (t < la ts i)) n W (by omega) (enters Tryz.func108 (by kernel_rfl) (by kernel_rfl))
  (fun i w' hi hb => later w.heap.size (w.heap.size + 1) A n c ts t i w' hi (hrW.below hb) (cellE hb ca) (cellE hb ct)))
 rw [hW] at C
 clear hW hrW ca ct hb0 W
 generalize cr ts t = r at *
 clear hv hok hl
 go_enter Tryz.func77, Tryz.ntmps77
 go_wp2_with fail
 refine C.out.mono ?_
 rintro e w1 ⟨h, hh, rfl, ha, hb, h2⟩
 have e1 := hcr.out h hh ha hb
 have hb0 : Below w.heap.size w ((w.alloc (.cells #[.slice A n c] 25)).alloc (.cells #[.int .i64 t] 2)) := bl_alloc (bl_new _ _) _
 have ca : ((w.alloc (.cells #[.slice A n c] 25)).alloc (.cells #[.int .i64 t] 2)).cell? ⟨w.heap.size, 0, none⟩ = some (.slice A n c) := by simp
 have ca1 := cellE h2 ca
 have hb1 := hide (bel_next hb0 h2)
 clear C hcr ha hb ca h2 hb0
 by_cases hz : h = 0
 ·subst hz
  rw [if_pos rfl] at e1
  subst e1
  go_wp2
  go_ret
  exact ⟨rfl, hb1.out⟩
 ·rw [if_neg hz] at e1
  obtain ⟨ad, x, rfl, hx, f0, f1⟩ := (hr.below hb1.out).lp (i := h - 1) (by omega)
  rw [(la_some hx).2] at e1
  subst e1
  obtain ⟨_, _, z0, z1⟩ := HO.out _ (List.mem_of_getElem? hx)
  have hcv : ∀ w : World, (convert 21 3 (.int .i32 x.2)).run Tryz.prog w = .ok (.int .i64 x.2) w := fun w => by simp [go_sem]; rw [IntKind.wrap_i64]; omega
  have i1 : IntKind.i64.wrap ((h : Int) - 1) = ((h - 1 : Nat) : Int) := by rw [IntKind.wrap_i64]; omega
  have l1 : h - 1 < n := by omega
  have hz' : ((h : Int) == 0) = false := by simp; omega
  clear hx f0 z0 z1 hr
  generalize h - 1 = P at *
  go_wp2
  go_ret
  exact ⟨rfl, hb1.out⟩
theorem startsLate (A : Option Addr) (n c : Nat) (ts : List LP) (v : Int) (w : World) (h0 : 0 < n) (hr : Rk 2 w A n (lcs ts)) :
 Calls Tryz.prog 152 #[.slice A n c, .int .i64 v] w fun e w' => e = .returned (.bool (decide (0 ≤ la ts 0))) ∧ Below w.heap.size w w' := by
 obtain ⟨ad, x, rfl, hx, f0, f1⟩ := hr.lp h0
 rw [(la_some hx).1]
 rw [show ad.add (0 * 2) = ad by simp [Addr.add]] at f0
 clear hr hx f1
 by_cases h : 0 ≤ x.1
 all_goals
  first | rw [decide_eq_true h] | rw [decide_eq_false h]
  first | have hd : decide (0 ≤ x.1) = true := decide_eq_true h | have hd : decide (0 ≤ x.1) = false := decide_eq_false h
  go_enter Tryz.func152, Tryz.ntmps152
  go_wp2
  go_ret
  exact ⟨rfl, bl_refl _⟩
theorem startsBySecond (A : Option Addr) (n c : Nat) (ts : List LP) (v : Int) (four : Bool) (w : World) (hf : decide (v = 4) = four) (h0 : 0 < n) (hr : Rk 2 w A n (lcs ts)) :
 Calls Tryz.prog 154 #[.slice A n c, .int .i64 v] w fun e w' => e = .returned (.bool (stB ts four)) ∧ Below w.heap.size w w' := by
 obtain ⟨ad, x, rfl, hx, f0, f1⟩ := hr.lp h0
 have e0 := (la_some hx).2
 rw [show ad.add (0 * 2) = ad by simp [Addr.add]] at f1
 unfold stB
 rw [e0]
 clear hr hx f0 e0
 by_cases hv : v = 4
 ·subst hv
  rw [decide_eq_true rfl] at hf
  subst hf
  go_enter Tryz.func154, Tryz.ntmps154
  go_wp2
  go_ret
  exact ⟨rfl, bl_refl _⟩
 ·have hv' : (v == 4) = false := by simpa using hv
  rw [decide_eq_false hv] at hf
  subst hf
  obtain ⟨y, hy⟩ : ∃ y, y = x.2 := ⟨_, rfl⟩
  rw [← hy] at f1 ⊢
  clear hy hv
  rcases (show y = 1 ∨ y = -1 ∨ ((y == 1) = false ∧ (y == -1) = false ∧ (false || decide (y = 1) || decide (y = -1)) = false) by by_cases a : y = 1 <;> by_cases b : y = -1 <;> simp [a, b]) with rfl | rfl | ⟨n1, n2, e⟩
  ·go_enter Tryz.func154, Tryz.ntmps154
   go_wp2
   go_ret
   exact ⟨rfl, bl_refl _⟩
  ·go_enter Tryz.func154, Tryz.ntmps154
   go_wp2
   go_ret
   exact ⟨rfl, bl_refl _⟩
  ·rw [e]
   clear e
   go_enter Tryz.func154, Tryz.ntmps154
   go_wp2
   go_ret
   exact ⟨rfl, bl_refl _⟩
theorem isSpaced (A : Option Addr) (n c : Nat) (ts : List LP) (v : Int) (w : World) (h0 : 0 < n) (hn : n ≤ 100000) (hr : Rk 2 w A n (lcs ts)) (hok : ∀ t ∈ ts, lpOk t) :
 Calls Tryz.prog 153 #[.slice A n c, .int .i64 v] w fun e w' => e = .returned (.bool (spB ts n)) ∧ Below w.heap.size w w' := by
 have HO := hide hok
 obtain ⟨b, hb⟩ : ∃ b, b = spB ts n := ⟨_, rfl⟩
 rw [← hb]
 replace hb := hide hb
 clear hok
 go_enter Tryz.func153, Tryz.ntmps153
 go_wp2
 go_loopw [5] (fun i wr => ∃ k : Nat, 1 ≤ k ∧ k ≤ n ∧ i = .int .i64 (k : Nat) ∧ Hid (spB ts k = true) ∧ Hid (Below w.heap.size w wr)) (fun i _ => n - (intOf i).toNat)
 case atStart => exact ⟨1, by omega, by omega, rfl, hide (spB_one ts), hide (bl_refl _)⟩
 case round =>
  obtain ⟨k, hk1, hk, rfl, ha, hw⟩ := hrel
  by_cases hlt : k < n
  ·obtain ⟨ad, t, rfl, ht, f0, f1⟩ := (hr.below hw.out).lp (i := k - 1) (by omega)
   obtain ⟨ad', u, e, hu, g0, g1⟩ := (hr.below hw.out).lp hlt
   cases e
   obtain ⟨x0, x1, _, _⟩ := HO.out _ (List.mem_of_getElem? ht)
   obtain ⟨y0, y1, _, _⟩ := HO.out _ (List.mem_of_getElem? hu)
   have e1 := (la_some ht).1
   have e2 := (la_some hu).1
   have hst := spB_step ts k (by omega)
   have hno := hide (fun h => spB_no (ts := ts) (i := k) (n := n) (by omega) hlt h)
   rw [ha.out, Bool.true_and, e1, e2] at hst
   rw [e1, e2] at hno
   have i1 : IntKind.i64.wrap ((k : Int) - 1) = ((k - 1 : Nat) : Int) := by rw [IntKind.wrap_i64]; omega
   have l1 : k - 1 < n := by omega
   clear e1 e2 ht hu f1 g1 ha
   generalize k - 1 = P at *
   generalize t.1 = x at *
   generalize u.1 = y at *
   have hst' := hide hst
   clear hst
   have cv1 : ∀ w : World, (convert 2 98 (.int .i64 x)).run Tryz.prog w = .ok (.int .u64 (u64 x)) w := fun w => by simp [go_sem, u64, IntKind.wrap_u64]
   have cv2 : ∀ w : World, (convert 2 98 (.int .i64 y)).run Tryz.prog w = .ok (.int .u64 (u64 y)) w := fun w => by simp [go_sem, u64, IntKind.wrap_u64]
   by_cases hle : y ≤ x
   ·have d1 : decide (y ≤ x) = true := decide_eq_true hle
    have hf := hno.out (by omega)
    have e := hb.out
    rw [hf] at e
    subst e
    clear hf hno hst'
    go_wp2
    go_quiet (fail)
    go_wp2
    go_ret
    exact ⟨rfl, bel_drewN hw.out _⟩
   ·have d1 : decide (y ≤ x) = false := decide_eq_false hle
    have is : IntKind.u64.wrap (u64 y - u64 x) = y - x := by rw [IntKind.wrap_u64]; unfold u64; omega
    by_cases hlt2 : y - x < 2419199
    ·have d2 : decide (y - x < 2419199) = true := decide_eq_true hlt2
     have hf := hno.out (by omega)
     have e := hb.out
     rw [hf] at e
     subst e
     clear hf hno hst'
     generalize y - x = z at *
     go_wp2
     go_quiet (fail)
     go_wp2
     go_ret
     exact ⟨rfl, bel_drewN hw.out _⟩
    ·have d2 : decide (y - x < 2419199) = false := decide_eq_false hlt2
     have hs := hide (show spB ts (k + 1) = true by rw [hst'.out]; exact decide_eq_true (by omega))
     clear hno hst'
     generalize y - x = z at *
     go_wp2
     go_quiet (fail)
     go_wp2
     go_roundw
     case rel => exact ⟨k + 1, by omega, by omega, by go_num, hs, hide (bel_drewN hw.out _)⟩
     case measure => simp [intOf]; omega
  ·obtain rfl : k = n := by omega
   have e := hb.out
   rw [ha.out] at e
   subst e
   go_wp2
   go_ret
   exact ⟨rfl, hw.out⟩
theorem goesBySeconds (A : Option Addr) (n c : Nat) (ts : List LP) (v : Int) (four : Bool) (w : World) (hf : decide (v = 4) = four) (h0 : 0 < n) (hn : n ≤ 100000) (hcap : n ≤ c) (hr : Rk 2 w A n (lcs ts)) (hok : ∀ t ∈ ts, lpOk t) :
 Calls Tryz.prog 155 #[.slice A n c, .int .i64 v] w fun e w' => e = .returned (.bool (gsB ts (gsN ts four))) ∧ Below w.heap.size w w' := by
 have HO := hide hok
 have hl : ts.length = n := by have := hr.len; rw [lcs_len] at this; omega
 have C := hide (hasExpiration A n c ts w hn hr)
 have hx2 : exL ts = true → 2 ≤ n := fun hx => by unfold exL at hx; simp at hx; omega
 obtain ⟨N, hN⟩ : ∃ N, N = gsN ts four := ⟨_, rfl⟩
 have hN2 : N = if (four && exL ts) = true then n - 1 else n := by rw [hN]; unfold gsN; rw [hl]
 rw [← hN]
 obtain ⟨b, hb⟩ : ∃ b, b = gsB ts N := ⟨_, rfl⟩
 rw [← hb]
 replace hb := hide hb
 obtain ⟨ad, e, hc⟩ := hr.2 (show 0 < n by omega)
 subst e
 generalize exL ts = x at *
 have V : (v == 4) = four := by rw [← hf]; rfl
 have hN1 : 1 ≤ N ∧ N ≤ n ∧ (four = true → x = true → N = n - 1) ∧ (four = false ∨ x = false → N = n) := by
  rw [hN2]
  cases four <;> cases x
  all_goals simp at hx2 ⊢
  all_goals omega
 obtain ⟨hN1, hNn, hNy, hNo⟩ := hN1
 have hrN := hide (fun (i : Nat) (h : i < N) => hr.lp (i := i) (by omega))
 clear hok hl hx2 hN hN2 hf hc
 have i0 : IntKind.i64.wrap ((n : Int) - 1) = ((n - 1 : Nat) : Int) := by rw [IntKind.wrap_i64]; omega
 cases four <;> cases x
 all_goals
  first
  | (obtain rfl : N = n := hNo (.inl rfl))
  | (obtain rfl : N = n := hNo (.inr rfl))
  | (obtain e : n - 1 = N := (hNy rfl rfl).symm
     rw [e] at i0)
  clear hNo hNy
  go_enter Tryz.func155, Tryz.ntmps155
  go_wp2_with (go_at_call 178; refine C.out.mono ?_; rintro e w1 ⟨rfl, h1⟩)
 all_goals
  clear i0
  go_loopw [5] (fun i wr => ∃ k : Nat, 1 ≤ k ∧ k ≤ N ∧ i = .int .i64 (k : Nat) ∧ Hid (gsB ts k = true) ∧ Hid (Below w.heap.size w wr)) (fun i _ => N - (intOf i).toNat)
  case atStart => exact ⟨1, by omega, by omega, rfl, hide (gsB_one ts), hide (by first | exact h1 | exact bl_refl _)⟩
  case round =>
   try clear h1
   obtain ⟨k, hk1, hk, rfl, ha, hw⟩ := hrel
   by_cases hlt : k < N
   ·obtain ⟨ad0, t, e0, ht, _, f1⟩ := hrN.out (k - 1) (by omega)
    cases e0
    obtain ⟨ad1, u, e1, hu, _, g1⟩ := hrN.out k hlt
    cases e1
    replace f1 := cellE hw.out f1
    replace g1 := cellE hw.out g1
    obtain ⟨_, _, x0, x1⟩ := HO.out _ (List.mem_of_getElem? ht)
    obtain ⟨_, _, y0, y1⟩ := HO.out _ (List.mem_of_getElem? hu)
    have e1 := (la_some ht).2
    have e2 := (la_some hu).2
    have hst := gsB_step ts k (by omega)
    have hno := hide (fun h h' => gsB_no (ts := ts) (i := k) (n := N) (by omega) hlt h h')
    rw [ha.out, Bool.true_and, e1, e2] at hst
    rw [e1, e2] at hno
    have i1 : IntKind.i64.wrap ((k : Int) - 1) = ((k - 1 : Nat) : Int) := by rw [IntKind.wrap_i64]; omega
    have l1 : k - 1 < N := by omega
    clear e1 e2 ht hu ha
    generalize k - 1 = P at *
    generalize t.2 = x at *
    generalize u.2 = y at *
    have hst' := hide hst
    clear hst
    have cv1 : ∀ w : World, (convert 21 2 (.int .i32 x)).run Tryz.prog w = .ok (.int .i64 x) w := fun w => by simp [go_sem]; rw [IntKind.wrap_i64]; omega
    have cv2 : ∀ w : World, (convert 21 2 (.int .i32 y)).run Tryz.prog w = .ok (.int .i64 y) w := fun w => by simp [go_sem]; rw [IntKind.wrap_i64]; omega
    obtain ⟨z, hz⟩ : ∃ z, y - x = z := ⟨_, rfl⟩
    have is : wrap64 (y - x) = z := by rw [← hz]; unfold wrap64; omega
    rw [hz] at hst' hno
    clear hz
    clear x0 x1 y0 y1
    by_cases z1 : z = 1
    ·have hs := hide (show gsB ts (k + 1) = true by rw [hst'.out, decide_eq_true z1]; rfl)
     subst z1
     clear hno hst'
     go_wp2
     go_quiet (fail)
     go_wp2
     go_roundw
     case rel => exact ⟨k + 1, by omega, by omega, by go_num, hs, hide (bel_drewN hw.out _)⟩
     case measure => simp [intOf]; omega
    ·have c1 : (z != 1) = true := by simp [z1]
     by_cases z2 : z = -1
     ·have hs := hide (show gsB ts (k + 1) = true by rw [hst'.out, decide_eq_true z2, Bool.or_true])
      subst z2
      clear hno hst'
      go_wp2
      go_quiet (fail)
      go_wp2
      go_roundw
      case rel => exact ⟨k + 1, by omega, by omega, by go_num, hs, hide (bel_drewN hw.out _)⟩
      case measure => simp [intOf]; omega
     ·have c2 : (z != -1) = true := by simp [z2]
      have hf := hno.out z1 z2
      have e := hb.out
      rw [hf] at e
      subst e
      clear hf hno hst'
      go_wp2
      go_quiet (fail)
      go_wp2
      go_ret
      exact ⟨rfl, bel_drewN hw.out _⟩
   ·obtain rfl : k = N := by omega
    have e := hb.out
    rw [ha.out] at e
    subst e
    go_wp2
    go_ret
    exact ⟨rfl, hw.out⟩
def RuleAt (cells : List Value) (i : Nat) (F : FuncId) : Prop := ∃ s : ByteArray, cells[i * 2]? = some (.string s) ∧ cells[i * 2 + 1]? = some (.func (.func F) #[] #[]) ∧ s.toList.isEmpty = false
theorem rules (w : World) : Calls Tryz.prog 129 #[] w fun e w' => ∃ ad cells, e = .returned (.slice (some ad) 4 4) ∧ Rk 2 w' (some ad) 4 cells ∧ RuleAt cells 0 152 ∧ RuleAt cells 1 153 ∧ RuleAt cells 2 154 ∧ RuleAt cells 3 155 ∧ Below w.heap.size w w' := by
 go_enter Tryz.func129, Tryz.ntmps129
 go_wp2
 go_ret
 refine ⟨_, _, rfl, (Ok.lit 2 w 159 [_, _, _, _, _, _, _, _] 4 rfl (by simp [maxLen])).rd, ⟨_, rfl, rfl, ?_⟩, ⟨_, rfl, rfl, ?_⟩, ⟨_, rfl, rfl, ?_⟩, ⟨_, rfl, rfl, ?_⟩, bl_new _ _⟩
 all_goals (rw [ByteArray.toList_eq]; rfl)
theorem broken (A : Option Addr) (n c : Nat) (ts : List LP) (v : Int) (four : Bool) (w : World) (hf : decide (v = 4) = four) (hn : n ≤ 100000) (hcap : n ≤ c) (hr : Rk 2 w A n (lcs ts)) (hok : ∀ t ∈ ts, lpOk t) :
 Calls Tryz.prog 101 #[.slice A n c, .int .i64 v] w fun e w' => ∃ s : ByteArray, e = .returned (.string s) ∧ s.toList.isEmpty = vL ts four ∧ Below w.heap.size w w' := by
 have hl : ts.length = n := by have := hr.len; rw [lcs_len] at this; omega
 by_cases h0 : n = 0
 ·subst h0
  have : ts = [] := List.length_eq_zero_iff.1 hl
  subst this
  clear hr hok hl hf
  go_enter Tryz.func101, Tryz.ntmps101
  go_wp2
  go_ret
  exact ⟨⟨#[]⟩, rfl, by rw [ByteArray.toList_eq]; rfl, bl_refl _⟩
 have hp : 0 < n := by omega
 have hv := vL_parts (ts := ts) (by omega) four
 rw [hl] at hv
 have hz : ((n : Int) == 0) = false := by simp; omega
 obtain ⟨H, hH⟩ : ∃ H : Nat → Bool, H 0 = decide (0 ≤ la ts 0) ∧ H 1 = spB ts n ∧ H 2 = stB ts four ∧ H 3 = gsB ts (gsN ts four) :=
  ⟨fun i => if i = 0 then decide (0 ≤ la ts 0) else if i = 1 then spB ts n else if i = 2 then stB ts four else gsB ts (gsN ts four), rfl, rfl, rfl, rfl⟩
 obtain ⟨H0, H1, H2, H3⟩ := hH
 have F0 := hide (fun (w : World) (h : Rk 2 w A n (lcs ts)) => startsLate A n c ts v w hp h)
 have F1 := hide (fun (w : World) (h : Rk 2 w A n (lcs ts)) => isSpaced A n c ts v w hp hn h hok)
 have F2 := hide (fun (w : World) (h : Rk 2 w A n (lcs ts)) => startsBySecond A n c ts v four w hf hp h)
 have F3 := hide (fun (w : World) (h : Rk 2 w A n (lcs ts)) => goesBySeconds A n c ts v four w hf hp hn hcap h hok)
 rw [← H0] at F0
 rw [← H1] at F1
 rw [← H2] at F2
 rw [← H3] at F3
 have E0 := enters Tryz.func152 (by kernel_rfl) (by kernel_rfl)
 have E1 := enters Tryz.func153 (by kernel_rfl) (by kernel_rfl)
 have E2 := enters Tryz.func154 (by kernel_rfl) (by kernel_rfl)
 have E3 := enters Tryz.func155 (by kernel_rfl) (by kernel_rfl)
 obtain ⟨r, hrr⟩ : ∃ r, r = vL ts four := ⟨_, rfl⟩
 rw [← hrr]
 have hR := hide (show r = (H 0 && H 1 && H 2 && H 3) by rw [hrr, hv, H0, H1, H2, H3])
 clear hrr hv H0 H1 H2 H3 hf hok hl hcap hn
 have R := hide (rules w)
 go_enter Tryz.func101, Tryz.ntmps101
 go_wp2_with fail
 refine R.out.mono ?_
 rintro e w1 ⟨ad, cells, rfl, hc, r0, r1, r2, r3, hb⟩
 have hall : ∀ i, i < 4 → ∃ (F : FuncId) (s : ByteArray), cells[i * 2]? = some (.string s) ∧ cells[i * 2 + 1]? = some (.func (.func F) #[] #[]) ∧ s.toList.isEmpty = false ∧ (∀ args w, (callFunc F args).run Tryz.prog w = .ok (.enter F args) w) ∧ (∀ w : World, Rk 2 w A n (lcs ts) → Calls Tryz.prog F #[.slice A n c, .int .i64 v] w fun e w' => e = .returned (.bool (H i)) ∧ Below w.heap.size w w') := by
  intro i hi
  rcases (show i = 0 ∨ i = 1 ∨ i = 2 ∨ i = 3 by omega) with rfl | rfl | rfl | rfl
  ·obtain ⟨s, a, b, d⟩ := r0; exact ⟨_, s, a, b, d, E0, F0.out⟩
  ·obtain ⟨s, a, b, d⟩ := r1; exact ⟨_, s, a, b, d, E1, F1.out⟩
  ·obtain ⟨s, a, b, d⟩ := r2; exact ⟨_, s, a, b, d, E2, F2.out⟩
  ·obtain ⟨s, a, b, d⟩ := r3; exact ⟨_, s, a, b, d, E3, F3.out⟩
 replace hall := hide hall
 replace hc := hide hc
 replace hb := hide hb
 clear r0 r1 r2 r3 E0 E1 E2 E3 F0 F1 F2 F3 R
 go_wp2_with fail
 go_loopw [12] (fun i wr => ∃ k : Nat, k ≤ 4 ∧ i = .int .i64 (k : Nat) ∧ Hid (∀ j, j < k → H j = true) ∧ Hid (Rk 2 wr (some ad) 4 cells) ∧ Hid (Below w.heap.size w wr)) (fun i _ => 4 - (intOf i).toNat)
 case atStart => exact ⟨0, by omega, rfl, hide (fun j h => by omega), hc, hb⟩
 case round =>
  clear hc hb
  obtain ⟨k, hk, rfl, ha, hc, hw⟩ := hrel
  by_cases hlt : k < 4
  ·obtain ⟨F, s, c0, c1, hs, E, C⟩ := hall.out k hlt
   obtain ⟨_, e0, m0⟩ := hc.out.at_ (i := k) (j := 0) hlt (by omega) c0
   cases e0
   obtain ⟨_, e1, m1⟩ := hc.out.at_ (i := k) (j := 1) hlt (by omega) c1
   cases e1
   rw [Nat.add_zero] at m0
   replace m1 : wr.cell? ⟨(ad.add (k * 2)).block, (ad.add (k * 2)).off + 1, none⟩ = some (.func (.func F) #[] #[]) := by rw [← addr_add] at m1; exact m1
   have hb1 := hide (bl_alloc hw.out (.cells #[.string s, .func (.func F) #[] #[]] 159))
   have hc1 := hide (hc.out.alloc (.cells #[.string s, .func (.func F) #[] #[]] 159))
   have bx := hide (Bx.new wr [.string s, .func (.func F) #[] #[]] 159)
   have CC := hide (C (wr.alloc (.cells #[.string s, .func (.func F) #[] #[]] 159)) (hr.below hb1.out))
   replace E := hide E
   clear C c0 c1 hc hw
   cases hk' : H k <;> rw [hk'] at CC
   ·have hrf : r = false := by
     rw [hR.out]
     rcases (show k = 0 ∨ k = 1 ∨ k = 2 ∨ k = 3 by omega) with rfl | rfl | rfl | rfl
     all_goals rw [hk']
     all_goals simp
    subst hrf
    clear hk'
    go_wp2_with fail
    rw [E.out, Oper.upon_enter]
    refine CC.out.mono ?_
    rintro e w2 ⟨rfl, h2⟩
    have b0 := (bx.out.below h2).2.1 0 _ rfl
    have hb2 := hide (bel_next hb1.out h2)
    clear CC hb1 hc1 bx h2 m0 m1
    go_wp2
    go_ret
    exact ⟨s, rfl, hs, hb2.out⟩
   ·have ha1 := hide (show ∀ j, j < k + 1 → H j = true from fun j hj => by
     rcases Nat.lt_succ_iff_lt_or_eq.1 hj with h | rfl
     ·exact ha.out j h
     ·exact hk')
    clear hk'
    go_wp2_with fail
    rw [E.out, Oper.upon_enter]
    refine CC.out.mono ?_
    rintro e w2 ⟨rfl, h2⟩
    have hb2 := hide (bel_next hb1.out h2)
    have hc2 := hide (hc1.out.below h2)
    clear CC hb1 hc1 bx h2 m0 m1
    go_wp2
    go_roundw
    case rel => exact ⟨k + 1, by omega, by go_num, ha1, hc2, hb2⟩
    case measure => simp [intOf]; omega
  ·obtain rfl : k = 4 := by omega
   have hrt : r = true := by rw [hR.out, ha.out 0 (by omega), ha.out 1 (by omega), ha.out 2 (by omega), ha.out 3 (by omega)]; rfl
   subst hrt
   go_wp2
   go_ret
   exact ⟨⟨#[]⟩, rfl, by rw [ByteArray.toList_eq]; rfl, hw.out⟩
theorem Valid (A : Option Addr) (n c : Nat) (ts : List LP) (v : Int) (four : Bool) (w : World) (hv0 : 1 ≤ v) (hv1 : v ≤ 4) (hf : decide (v = 4) = four) (hn : n ≤ 100000) (hA : (A = none → n = 0 ∧ c = 0) ∧ n ≤ c) (hr : Rk 2 w A n (lcs ts)) (hok : ∀ t ∈ ts, lpOk t) :
 Calls Tryz.prog 62 #[.slice A n c, .int .i64 v] w fun e w' => e = .returned (.bool (vL ts four)) ∧ Below w.heap.size w w' := by
 have C := hide (broken A n c ts v four w hf hn hA.2 hr hok)
 generalize vL ts four = r at *
 clear hA hr hok hf hv0 hv1 hn
 go_enter Tryz.func62, Tryz.ntmps62
 go_wp2_with fail
 refine C.out.mono ?_
 rintro e w1 ⟨s, rfl, hs, h1⟩
 subst hs
 go_wp2
 go_ret
 exact ⟨rfl, h1⟩
end lp_
def Ti (_ : World) : Prop := True
theorem Ti.below {w w' : World} (_ : Ti w) (_ : Below w.heap.size w w') : Ti w' := trivial
namespace in_
theorem Consistent (A A' : Option Addr) (n n' c c' : Nat) (s u : List Bool) (w : World) (hT : Ti w) (hn : n ≤ 100000) (hn' : n' ≤ 100000) (hA : A = none → n = 0 ∧ c = 0) (hA' : A' = none → n' = 0 ∧ c' = 0) (hc : n ≤ c) (hc' : n' ≤ c') (hcm : c ≤ 9223372036854775807) (hcm' : c' ≤ 9223372036854775807) (hr : Rd w A n (bls s)) (hr' : Rd w A' n' (bls u)) :
 Calls Tryz.prog 64 #[.slice A n c, .slice A' n' c'] w fun e w' => e = .returned (.bool (cn s u)) ∧ Below w.heap.size w w' := by
 have hl : s.length = n := by have := hr.len; simpa using this
 have hl' : u.length = n' := by have := hr'.len; simpa using this
 obtain ⟨b, hb⟩ : ∃ b, b = cn s u := ⟨_, rfl⟩
 rw [← hb]
 have HB := hide hb
 have HL := hide hl
 have HL' := hide hl'
 have hrf := hide (bl_refl w)
 clear hb hl hl' hT hc hc' hcm hcm' hA hA'
 go_enter Tryz.func64, Tryz.ntmps64
 go_wp2
 go_loop [9] (fun i => ∃ k : Nat, k ≤ n' ∧ i = .int .i64 (k : Nat) ∧ Hid (cnN s u k = true)) (fun i => n' - (intOf i).toNat)
 case atStart => exact ⟨0, by omega, rfl, hide rfl⟩
 case round =>
  obtain ⟨k, hk, rfl, hc⟩ := hrel
  by_cases hlt : k < n'
  ·have hkn : (k : Int) < (n' : Int) := by omega
   obtain ⟨ad', y, e2, hy, g0⟩ := rb_at hr' hlt
   subst e2
   have hby := bg_at hy
   by_cases hks : k < n
   ·have dk : decide ((n : Int) ≤ (k : Int)) = false := by simp; omega
    have dk2 : (k : Int) < (n : Int) := by omega
    obtain ⟨ad, x, e1, hx, f0⟩ := rb_at hr hks
    subst e1
    have hbx := bg_at hx
    have hst := cnN_step s u k
    rw [hc.out, hby, hbx, Bool.true_and] at hst
    have hno := hide (fun (h1 : y = true) (h2 : x = false) => show b = false by rw [HB.out]; exact cn_no (by rw [HL'.out]; exact hlt) (hby.trans h1) (hbx.trans h2))
    replace hst := hide hst
    clear hx hy hbx hby
    cases y
    ·clear hno
     go_wp2
     go_round
     case rel => exact ⟨k + 1, by omega, by go_num, by rw [hst.out]; exact hide rfl⟩
     case measure => simp [intOf]; omega
    ·cases x
     ·obtain rfl := hno.out rfl rfl
      go_wp2
      go_ret
      exact ⟨rfl, hrf.out⟩
     ·clear hno
      go_wp2
      go_round
      case rel => exact ⟨k + 1, by omega, by go_num, by rw [hst.out]; exact hide rfl⟩
      case measure => simp [intOf]; omega
   ·have dk : decide ((n : Int) ≤ (k : Int)) = true := by simp; omega
    have hbx : bg s k = false := bg_out (by rw [HL.out]; omega)
    have hst := cnN_step s u k
    rw [hc.out, hby, hbx, Bool.true_and, Bool.or_false] at hst
    have hno := hide (fun (h1 : y = true) => show b = false by rw [HB.out]; exact cn_no (by rw [HL'.out]; exact hlt) (hby.trans h1) hbx)
    replace hst := hide hst
    clear hy hbx hby
    cases y
    ·clear hno
     go_wp2
     go_round
     case rel => exact ⟨k + 1, by omega, by go_num, by rw [hst.out]; exact hide rfl⟩
     case measure => simp [intOf]; omega
    ·obtain rfl := hno.out rfl
     go_wp2
     go_ret
     exact ⟨rfl, hrf.out⟩
  ·obtain rfl : k = n' := by omega
   obtain rfl : b = true := by rw [HB.out]; unfold cn; rw [HL'.out]; exact hc.out
   go_wp2
   go_ret
   exact ⟨rfl, hrf.out⟩
end in_
end Go.Proofs.YtbehflfpdkedgaaGreatDoor

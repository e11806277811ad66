/-
  CONTRACTS OF PACKAGE zoneinforef16 (the reference of layer 16). Conditions: at most 100,000 bytes or types.
-/
import Derived.Test.YtbajdlgcajeldaaGreatDoorRef1
import Derived.Test.YtbajdlgcajeldaaGreatDoorBlM
import Derived.Test.YtbajdlgcajeldaaGreatDoorOwk
import Derived.Test.YtbajdlgcajeldaaGreatDoorStr
import Derived.Deep.RegionHeld3
import Derived.Deep.DeepCutAuto
import Derived.Deep.RegionLaw
namespace Go.Proofs.YtbajdlgcajeldaaGreatDoor
open Go.ChangeShapes Go.WideShapes Go.ChangeAt Go.RowKit
set_option linter.unusedVariables false
set_option maxRecDepth 100000
theorem elTT : ElS Tryz.prog 30 49 3 8 := ⟨Tryz.underlying30, .agg #[.int .i32 0, .bool false, .int .u8 0], by kernel_rfl, rfl⟩
/-- the three cells of the i-th type. -/
theorem Rk.tt {w : World} {A : Option Addr} {n : Nat} {ts : List TT} (h : Rk 3 w A n (tcs ts)) {i : Nat} (hi : i < n) : ∃ ad t, A = some ad ∧ ts[i]? = some t ∧ w.cell? (ad.add (i * 3)) = some (.int .i32 t.1) ∧ w.cell? ⟨(ad.add (i * 3)).block, (ad.add (i * 3)).off + 1, none⟩ = some (.bool t.2.1) ∧ w.cell? ⟨(ad.add (i * 3)).block, (ad.add (i * 3)).off + 2, none⟩ = some (.int .u8 t.2.2) := by
  have hl : ts.length = n := by have := h.len; rw [tcs_len] at this; omega
  obtain ⟨ad, e, hc⟩ := h.2 (by omega)
  have ht : ts[i]? = some (ts[i]'(by omega)) := List.getElem?_eq_getElem (by omega)
  have g := tcs_get ht
  have h1 := hc _ _ g.2.1
  have h2 := hc _ _ g.2.2
  rw [← addr_add] at h1 h2
  exact ⟨ad, _, e, ht, hc _ _ g.1, h1, h2⟩
theorem any_step {α : Type} (p : α → Bool) {ts : List α} {k : Nat} {t : α} (h : ts[k]? = some t) : (ts.take (k + 1)).any p = ((ts.take k).any p || p t) := by
  have hl := (List.getElem?_eq_some_iff.1 h).1
  rw [List.getElem?_eq_getElem hl] at h
  injection h with h
  rw [List.take_succ_eq_append_getElem hl, List.any_append, h]
  simp
theorem any_at {α : Type} (p : α → Bool) {ts : List α} {k : Nat} {t : α} (h : ts[k]? = some t) (hp : p t = true) : ts.any p = true := List.any_eq_true.2 ⟨t, List.mem_of_getElem? h, hp⟩
namespace r16_
theorem tt_ne (t u : TT) (w : World) : (binOp .neq 49 (.agg #[.int .i32 t.1, .bool t.2.1, .int .u8 t.2.2]) (.agg #[.int .i32 u.1, .bool u.2.1, .int .u8 u.2.2])).run Tryz.prog w = .ok (.bool (!decide (t = u))) w := by
  obtain ⟨a, b, c⟩ := t
  obtain ⟨a', b', c'⟩ := u
  simp only [Prod.mk.injEq]
  by_cases h1 : a = a' <;> by_cases h2 : b = b' <;> by_cases h3 : c = c' <;> simp [go_sem, h1, h2, h3]
set_option maxHeartbeats 1000000 in
theorem Same (A A' : Option Addr) (n n' c c' : Nat) (l l' : List TT) (w : World) (hn : n ≤ 9223372036854775807) (hn' : n' ≤ 9223372036854775807) (hr : Rk 3 w A n (tcs l)) (hr' : Rk 3 w A' n' (tcs l')) :
    Calls Tryz.prog 34 #[.slice A n c, .slice A' n' c'] w fun e w' => e = .returned (.bool (decide (l = l'))) ∧ Below w.heap.size w w' := by
  have hl : l.length = n := by have := hr.len; rw [tcs_len] at this; omega
  have hl' : l'.length = n' := by have := hr'.len; rw [tcs_len] at this; omega
  obtain ⟨b, hb⟩ : ∃ b, b = decide (l = l') := ⟨_, rfl⟩
  rw [← hb]
  by_cases hnn : n = n'
  rotate_left
  · have : b = false := by rw [hb]; exact decide_eq_false fun h => hnn (by rw [← hl, ← hl', h])
    subst this
    have hne : ((n : Int) != n') = true := by simp; omega
    clear hb hl hl' hr hr'
    go_enter Tryz.func34, Tryz.ntmps34
    go_wp2
    go_ret
    exact ⟨rfl, bl_refl _⟩
  subst hnn
  have HB := hide hb
  have HL := hide hl
  have HL' := hide hl'
  clear hb hl hl'
  go_enter Tryz.func34, Tryz.ntmps34
  go_wp2
  go_loopw [5] (fun i wr => ∃ k : Nat, k ≤ n ∧ i = .int .i64 (k : Nat) ∧ Hid (l.take k = l'.take k) ∧ Hid (Below w.heap.size w wr)) (fun i _ => n - (intOf i).toNat)
  case atStart => exact ⟨0, by omega, rfl, hide rfl, hide (bl_refl _)⟩
  case round =>
    obtain ⟨k, hk, rfl, ht, hw⟩ := hrel
    by_cases hlt : k < n
    · obtain ⟨ad, t, e1, x1, f0, f1, f2⟩ := (hr.below hw.out).tt hlt
      obtain ⟨ad', u, e2, x2, g0, g1, g2⟩ := (hr'.below hw.out).tt hlt
      subst e1 e2
      have hq := fun w => tt_ne t u w
      by_cases hxy : t = u
      · have hs := hide (show l.take (k + 1) = l'.take (k + 1) by rw [List.take_add_one, List.take_add_one, ht.out, x1, x2, hxy])
        rw [decide_eq_true hxy] at hq
        clear x1 x2 hxy
        go_wp2
        go_quiet (fail)
        go_wp2
        go_roundw
        case rel => exact ⟨k + 1, by omega, by go_num, hs, hide (bel_drewN hw.out _)⟩
        case measure => simp [intOf]; omega
      · have hne : b = false := by
          rw [HB.out]
          exact decide_eq_false (fun h => by rw [h, x2] at x1; injection x1 with x1; exact hxy x1.symm)
        subst hne
        rw [decide_eq_false hxy] at hq
        clear x1 x2 hxy
        go_wp2
        go_quiet (fail)
        go_wp2
        go_ret
        exact ⟨rfl, bel_drewN hw.out _⟩
    · obtain rfl : k = n := by omega
      have hne : b = true := by
        rw [HB.out]
        refine decide_eq_true ?_
        have := ht.out
        rwa [List.take_of_length_le (by rw [HL.out]; omega), List.take_of_length_le (by rw [HL'.out]; omega)] at this
      subst hne
      go_wp2
      go_ret
      exact ⟨rfl, hw.out⟩
set_option maxHeartbeats 2000000 in
theorem Encode (A : Option Addr) (n c m : Nat) (ts : List TT) (w : World) (hn : n ≤ 100000) (hm : m = n * 6) (hA : A = none → n = 0 ∧ c = 0) (hr : Rk 3 w A n (tcs ts)) (hok : ∀ t ∈ ts, ttOk t) :
    Calls Tryz.prog 50 #[.slice A n c] w fun e w' => ∃ A' c', e = .returned (.slice A' m c') ∧ Ow w' w.heap.size 5 A' m c' ((eTT ts).map (Value.int .u8)) ∧ Below w.heap.size w w' := by
  subst hm
  have hl : ts.length = n := by have := hr.len; rw [tcs_len] at this; omega
  have HL := hide hl
  have HO := hide hok
  have C := hide (fun A n c l' v w h1 h2 h3 h4 h5 => r1_.Append A n c l' 4 v w (by omega) h1 h2 h3 h4 h5)
  clear hl hok
  go_enter Tryz.func50, Tryz.ntmps50
  go_wp2
  go_loopw [3, 4] (fun o i wr => ∃ (q : Nat) (A' : Option Addr) (c' : Nat), q ≤ n ∧ i = .int .i64 (q : Nat) ∧ o = .slice A' (q * 6) c' ∧ Hid (Ow wr w.heap.size 5 A' (q * 6) c' ((eTT (ts.take q)).map (Value.int .u8))) ∧ Hid (Below w.heap.size w wr)) (fun _ i _ => n - (intOf i).toNat)
  case atStart => exact ⟨0, none, 0, by omega, rfl, rfl, hide (Ow.nil (Nat.le_refl _) _), hide (bl_refl _)⟩
  case round =>
    obtain ⟨q, A', c', hq, rfl, rfl, ho, hw⟩ := hrel
    by_cases hlt : q < n
    · obtain ⟨ad, ⟨o, d, x⟩, rfl, ht, h0, h1, h2⟩ := (hr.below hw.out).tt hlt
      obtain ⟨z0, z1, z2, z3⟩ := HO.out _ (List.mem_of_getElem? ht)
      dsimp only at h0 h1 h2 z0 z1 z2 z3
      have hu := u64_bd o
      have hcv1 : ∀ w : World, (convert 21 2 (.int .i32 o)).run Tryz.prog w = .ok (.int .i64 o) w := fun w => by simp [go_sem]; rw [IntKind.wrap_i64]; omega
      have hcv : ∀ w : World, (convert 2 56 (.int .i64 o)).run Tryz.prog w = .ok (.int .u64 (u64 o)) w := fun w => by simp [go_sem, u64, IntKind.wrap_u64]
      have hs := hide hw.out.size
      have hq6 : q * 6 ≤ 600000 := by omega
      cases d with
      | true =>
        have hst := hide (show eTT (ts.take (q + 1)) = eTT (ts.take q) ++ be 4 (u64 o) ++ [1, x] by rw [show eTT (ts.take (q + 1)) = eTT (ts.take q) ++ e6 (o, true, x) from fm_step ts q _ ht, List.append_assoc]; rfl)
        clear ht
        go_wp2_with fail
        refine (C.out _ _ _ _ _ _ (by omega) ho.out.nilcap ho.out.rd hu.1 hu.2).mono ?_
        rintro e w1 ⟨A2, c2, rfl, o2, h2'⟩
        rw [show (4 : Int).toNat = 4 from rfl] at o2
        have g1 := cellE h2' h1
        have g2 := cellE h2' h2
        have o3 := hide (o2.mono hs.out)
        replace hw := hide (bel_next hw.out h2')
        have rl := hide (show Rd (w1.alloc (.cells #[.int .u8 1, .int .u8 x] 5)) (some ⟨w1.heap.size, 0, none⟩) 2 (([1, x] : List Int).map (Value.int .u8)) from Rd.lit w1 5 [.int .u8 1, .int .u8 x])
        have o4 := hide (o3.out.alloc (.cells #[.int .u8 1, .int .u8 x] 5))
        have hw4 := hide (bl_alloc hw.out (.cells #[.int .u8 1, .int .u8 x] 5))
        have m1 := hide (oneCells .u8 [1, x])
        clear o2 h2' ho hu h0 h1 h2
        go_wp2_with (at_builtin; refine apA elU8 o4.out hw4.out (Nat.le_refl _) rl.out (.tmp 26) (.tmp 33) rfl rfl rfl rfl (fun h => by cases h) m1.out (by simp [maxLen]; omega) (by omega) ?_; intro A5 c5 w5 ho5 hb5 _; rw [← List.map_append, ← hst.out, show q * 6 + 4 + 2 = (q + 1) * 6 by omega] at ho5; rw [show q * 6 + 4 + 2 = (q + 1) * 6 by omega]; replace ho5 := hide ho5; replace hb5 := hide hb5)
        go_roundw
        case rel => exact ⟨q + 1, A5, c5, by omega, by go_num, rfl, ho5, hb5⟩
        case measure => simp [intOf]; omega
      | false =>
        have hst := hide (show eTT (ts.take (q + 1)) = eTT (ts.take q) ++ be 4 (u64 o) ++ [0, x] by rw [show eTT (ts.take (q + 1)) = eTT (ts.take q) ++ e6 (o, false, x) from fm_step ts q _ ht, List.append_assoc]; rfl)
        clear ht
        go_wp2_with fail
        refine (C.out _ _ _ _ _ _ (by omega) ho.out.nilcap ho.out.rd hu.1 hu.2).mono ?_
        rintro e w1 ⟨A2, c2, rfl, o2, h2'⟩
        rw [show (4 : Int).toNat = 4 from rfl] at o2
        have g1 := cellE h2' h1
        have g2 := cellE h2' h2
        have o3 := hide (o2.mono hs.out)
        replace hw := hide (bel_next hw.out h2')
        have rl := hide (show Rd (w1.alloc (.cells #[.int .u8 0, .int .u8 x] 5)) (some ⟨w1.heap.size, 0, none⟩) 2 (([0, x] : List Int).map (Value.int .u8)) from Rd.lit w1 5 [.int .u8 0, .int .u8 x])
        have o4 := hide (o3.out.alloc (.cells #[.int .u8 0, .int .u8 x] 5))
        have hw4 := hide (bl_alloc hw.out (.cells #[.int .u8 0, .int .u8 x] 5))
        have m1 := hide (oneCells .u8 [0, x])
        clear o2 h2' ho hu h0 h1 h2
        go_wp2_with (at_builtin; refine apA elU8 o4.out hw4.out (Nat.le_refl _) rl.out (.tmp 26) (.tmp 33) rfl rfl rfl rfl (fun h => by cases h) m1.out (by simp [maxLen]; omega) (by omega) ?_; intro A5 c5 w5 ho5 hb5 _; rw [← List.map_append, ← hst.out, show q * 6 + 4 + 2 = (q + 1) * 6 by omega] at ho5; rw [show q * 6 + 4 + 2 = (q + 1) * 6 by omega]; replace ho5 := hide ho5; replace hb5 := hide hb5)
        go_roundw
        case rel => exact ⟨q + 1, A5, c5, by omega, by go_num, rfl, ho5, hb5⟩
        case measure => simp [intOf]; omega
    · obtain rfl : q = n := by omega
      go_wp2
      go_ret
      have := ho.out
      rw [List.take_of_length_le (by rw [HL.out]; omega)] at this
      exact ⟨_, _, rfl, this, hw.out⟩
set_option maxHeartbeats 4000000 in
theorem Decode (A : Option Addr) (n c m : Nat) (l : List Int) (w : World) (hn : n ≤ 100000) (hm : n = m * 6) (hA : A = none → n = 0 ∧ c = 0) (hc : n ≤ c) (hcm : c ≤ 9223372036854775807) (hr : Rd w A n (l.map (Value.int .u8))) (hl : Bytes l) :
    Calls Tryz.prog 30 #[.slice A n c] w fun e w' => ((fl6 l m = true ∧ ∃ A' c', e = .returned (.tuple #[.slice A' m c', .bool true]) ∧ Ok 3 w' w.heap.size 49 A' m c' (tcs (dTT l m))) ∨ (fl6 l m = false ∧ e = .returned (.tuple #[.slice none 0 0, .bool false]))) ∧ Below w.heap.size w w' := by
  have hlen : l.length = n := by have := hr.len; simpa using this
  have HL := hide hlen
  have HB := hide hl
  have hq1 : (n : Int).tdiv 6 = (m : Int) := by rw [Int.tdiv_eq_ediv_of_nonneg (by omega)]; omega
  have hq2 : (n : Int) / 6 = (m : Int) := by omega
  have hq3 : n / 6 = m := by omega
  have HM := hide hm
  have I := hide (fun (off : Nat) (w : World) (h1 : Rd w A n (l.map (Value.int .u8))) (h2 : off + 4 ≤ n) => r1_.Int_yes A n c l off 4 w (by omega) (by omega) (by omega) (by omega) h1 hl)
  clear hlen hl hm
  go_enter Tryz.func30, Tryz.ntmps30
  go_wp2
  go_loopw [4] (fun i wr => ∃ q : Nat, q ≤ m ∧ i = .int .i64 (q : Nat) ∧ Hid (fl6 l q = true) ∧ Hid (Below w.heap.size w wr)) (fun i _ => m - (intOf i).toNat)
  case atStart => exact ⟨0, by omega, rfl, hide rfl, hide (bl_refl _)⟩
  case round =>
    obtain ⟨q, hqm, rfl, ha, hw⟩ := hrel
    by_cases hlt : q < m
    · obtain ⟨P, hP⟩ : ∃ P : Nat, P = q * 6 := ⟨_, rfl⟩
      obtain ⟨P4, hP4⟩ : ∃ P4 : Nat, P4 = P + 4 := ⟨_, rfl⟩
      have hPn : P4 < n := by rw [HM.out]; omega
      have i1 : IntKind.i64.wrap (6 * (q : Int)) = (P : Int) := by rw [IntKind.wrap_i64]; omega
      have i2 : IntKind.i64.wrap ((P : Int) + 4) = (P4 : Int) := by rw [IntKind.wrap_i64]; omega
      obtain ⟨ad, e1, hcl⟩ := (hr.below hw.out).int hPn
      subst e1
      have hst := fl6_step l q
      rw [ha.out, Bool.true_and, ← hP, ← hP4] at hst
      have hno := fun h : 1 < l[P4]?.getD 0 => fl6_no (l := l) (m := m) (i := q) hlt (by rw [← hP, ← hP4]; exact h)
      generalize l[P4]?.getD 0 = x at *
      clear hP hP4
      by_cases hx : 1 < x
      · have hf := hide (hno hx)
        clear hst hno
        go_wp2
        go_ret2
        exact ⟨.inr ⟨hf.out, rfl⟩, hw.out⟩
      · have hs := hide (show fl6 l (q + 1) = true by rw [hst]; exact decide_eq_true (by omega))
        clear hst hno
        go_wp2
        go_roundw
        case rel => exact ⟨q + 1, by omega, by go_num, hs, hw⟩
        case measure => simp [intOf]; omega
    · obtain rfl : q = m := by omega
      go_wp2
      go_loopw [5, 6] (fun o i w2 => ∃ (k : Nat) (A' : Option Addr) (c' : Nat), k ≤ q ∧ i = .int .i64 (k : Nat) ∧ o = .slice A' k c' ∧ Hid (Ok 3 w2 w.heap.size 49 A' k c' (tcs (dTT l k))) ∧ Hid (Below w.heap.size w w2)) (fun _ i _ => q - (intOf i).toNat)
      case atStart => exact ⟨0, none, 0, by omega, rfl, rfl, hide (Ok.nil hw.out.size _ _), hw⟩
      case round =>
        clear hw
        obtain ⟨k, A', c', hkq, rfl, rfl, ho, hw⟩ := hrel
        by_cases hlt : k < q
        · obtain ⟨P, hP⟩ : ∃ P : Nat, P = k * 6 := ⟨_, rfl⟩
          obtain ⟨P4, hP4⟩ : ∃ P4 : Nat, P4 = P + 4 := ⟨_, rfl⟩
          obtain ⟨P5, hP5⟩ : ∃ P5 : Nat, P5 = P + 5 := ⟨_, rfl⟩
          have hPn : P5 < n := by rw [HM.out]; omega
          have hPn4 : P4 < n := by omega
          have i1 : IntKind.i64.wrap (6 * (k : Int)) = (P : Int) := by rw [IntKind.wrap_i64]; omega
          have i2 : IntKind.i64.wrap ((P : Int) + 4) = (P4 : Int) := by rw [IntKind.wrap_i64]; omega
          have i3 : IntKind.i64.wrap ((P : Int) + 5) = (P5 : Int) := by rw [IntKind.wrap_i64]; omega
          obtain ⟨ad, e1, c4⟩ := (hr.below hw.out).int hPn4
          subst e1
          obtain ⟨_, e1, c5⟩ := (hr.below hw.out).int hPn
          cases e1
          have hok := d6_ok l HB.out k (by rw [HL.out, HM.out]; omega)
          have hst := dTT_step l k
          have hd6 : d6 l k = (sgn 4 (uval (fld l P 4)), decide (l[P4]?.getD 0 = 1), l[P5]?.getD 0) := by rw [hP4, hP5, hP]; rfl
          have C := hide (I.out P wr (hr.below hw.out) (by omega))
          rw [show ((P : Nat) : Int).toNat = P from rfl, show (4 : Int).toNat = 4 from rfl] at C
          have hdd : (l[P4]?.getD 0 == 1) = decide (l[P4]?.getD 0 = 1) := rfl
          generalize hx : sgn 4 (uval (fld l P 4)) = x at *
          obtain ⟨d, hd⟩ : ∃ d, d = decide (l[P4]?.getD 0 = 1) := ⟨_, rfl⟩
          rw [← hd] at hd6 hdd
          generalize l[P4]?.getD 0 = b4 at *
          generalize l[P5]?.getD 0 = y at *
          rw [hd6] at hst hok
          obtain ⟨z0, z1, z2, z3⟩ := hok
          dsimp only at z0 z1 z2 z3
          have hcv : ∀ w : World, (convert 2 21 (.int .i64 x)).run Tryz.prog w = .ok (.int .i32 x) w := fun w => by simp [go_sem]; rw [IntKind.wrap_i32]; omega
          have hoL := hide ((ho.out.alloc (.cells #[.int .i32 x, .bool d, .int .u8 y] 49)).drew)
          have hwL := hide (bl_drew (bl_alloc hw.out (.cells #[.int .i32 x, .bool d, .int .u8 y] 49)))
          have hrL := hide (show Rk 3 (wr.alloc (.cells #[.int .i32 x, .bool d, .int .u8 y] 49)).drew (some ⟨wr.heap.size, 0, none⟩) 1 (tc (x, d, y)) from (Ok.lit 3 wr 49 (tc (x, d, y)) 1 rfl (by simp [maxLen])).rd.drew)
          have h1L := hide (tcs_cells [(x, d, y)])
          rw [tcs_one] at h1L
          have hs1 := hide hst
          have x1 := hide (show k + 1 ≤ maxLen by simp [maxLen]; omega)
          have x2 := hide (show (k + 1) * 8 ≤ 140737488355328 by omega)
          clear hst hd6 hx hd hP hP4 hP5 hA
          go_wp2_with fail
          refine C.out.mono ?_
          rintro e w1 ⟨rfl, rfl⟩
          go_upto_region 11 with fail
          go_region_law (first
            | (refine step_apK elTT (by decide) hoL.out hwL.out (Nat.le_refl _) hrL.out (.tmp 37) (.tmp 54) rfl rfl rfl rfl (fun h => by cases h) h1L.out x1.out x2.out ?_; intro A9 c9 w9 ho9 h9 _; replace ho9 := hide ho9; replace h9 := hide h9))
          all_goals
            go_wp2_with fail
            have ho10 := hide (show Ok 3 w9 w.heap.size 49 A9 (k + 1) c9 (tcs (dTT l (k + 1))) by rw [hs1.out, tcs_app, tcs_one]; exact ho9.out)
            clear ho9
            go_roundw
            case rel => exact ⟨k + 1, A9, c9, by omega, by go_num, rfl, ho10, h9⟩
            case measure => simp [intOf]; omega
        · obtain rfl : k = q := by omega
          go_wp2
          go_ret2
          exact ⟨.inl ⟨ha.out, _, _, rfl, ho.out⟩, hw.out⟩
end r16_
end Go.Proofs.YtbajdlgcajeldaaGreatDoor

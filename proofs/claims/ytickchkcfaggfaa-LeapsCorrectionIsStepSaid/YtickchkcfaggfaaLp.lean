/-
  CONTRACTS OF PACKAGE leaps for time sizes 4 and 8 and versions 1 to 4. Conditions: at most 100,000 bytes or records (Encode: 10,000); Correction and Expiry: a list that is valid for version 4.
-/
import Derived.Test.YtickchkcfaggfaaLpB
import Derived.Test.YtickchkcfaggfaaOwk
import Derived.Test.YtickchkcfaggfaaOwM
import Derived.Test.YtickchkcfaggfaaBe
import Derived.Test.YtickchkcfaggfaaRef17
import Derived.Deep.RegionHeld3
import Derived.Deep.DeepCutAuto
import Derived.Deep.RegionLaw
import Derived.Laws.EntriesVeiled
namespace Go.Proofs.Ytickchkcfaggfaa
open Go.ChangeShapes Go.WideShapes Go.ChangeAt Go.RowKit
set_option linter.unusedVariables false
set_option maxRecDepth 100000
namespace lp_
theorem enters {P : Program} {f : FuncId} {fn : Func} (hf : P.funcs[f]? = some fn) (hname : (fn.name == "runtime.NumGoroutine") = false) (hb : fn.body.isSome = true) (args : Array Value) (w : World) : (callFunc f args).run P w = .ok (.enter f args) w := by
  have h1 : fn.name ≠ "runtime.NumGoroutine" := by simpa using hname
  obtain ⟨c, hc⟩ := Option.isSome_iff_exists.1 hb
  simp [callFunc, hf, h1, hc]
theorem recordSize (K : Int) (w : World) (h : K = 4 ∨ K = 8) : Calls Try.prog 24 #[.int .i64 K] w fun e w' => e = .returned (.tuple #[.int .i64 (K + 4), .bool true]) ∧ w = w' := by
  rcases h with rfl | rfl
  all_goals
    go_enter Try.func24, Try.ntmps24
    go_wp2
    go_ret2
    exact ⟨rfl, rfl⟩
set_option maxHeartbeats 2000000 in
theorem Decode (A : Option Addr) (n c m : Nat) (l : List Int) (k : Nat) (K : Int) (w : World) (hK : K = (k : Int)) (hk : k = 4 ∨ k = 8) (hn : n ≤ 100000) (hm : n = m * (k + 4)) (hA : A = none → n = 0 ∧ c = 0) (hc : n ≤ c) (hcm : c ≤ 9223372036854775807) (hr : Rd w A n (l.map (Value.int .u8))) (hl : Bytes l) :
    Calls Try.prog 10 #[.slice A n c, .int .i64 K] w fun e w' => ∃ A' c', e = .returned (.slice A' m c') ∧ Ok 2 w' w.heap.size 38 A' m c' (lcs (dLP k l m)) ∧ Below w.heap.size w w' := by
  subst hK
  have hlen : l.length = n := by have := hr.len; simpa using this
  obtain ⟨s, hs⟩ : ∃ s, s = k + 4 := ⟨_, rfl⟩
  rw [← hs] at hm
  have hk8 : k ≤ 8 := by omega
  have hk1 : 1 ≤ k := by omega
  have hsz : ((s : Int) == 0) = false := by simp; omega
  have hs1 : 1 ≤ s := by omega
  have hq : (n : Int).tdiv (s : Int) = (m : Int) := by
    rw [hm, Int.natCast_mul, Int.mul_tdiv_cancel _ (by omega)]
  have mn : m ≤ n := by rw [hm]; exact Nat.le_mul_of_pos_right m (by omega)
  have R := hide (fun w => recordSize (k : Int) w (by omega))
  rw [show (k : Int) + 4 = (s : Int) by omega] at R
  have I := hide (fun (q : Nat) (w : World) (h1 : (q : Int) + k ≤ n) (h2 : Rd w A n (l.map (Value.int .u8))) => be_.Int_yes A n c l q k w (by omega) (by omega) (by omega) h1 h2 hl)
  have I4 := hide (fun (q : Nat) (w : World) (h1 : (q : Int) + 4 ≤ n) (h2 : Rd w A n (l.map (Value.int .u8))) => be_.Int_yes A n c l q 4 w (by omega) (by omega) (by omega) h1 h2 hl)
  have HS := hide hs
  have HM := hide hm
  have HD := hide (fun (q : Nat) (h : q * (k + 4) + (k + 4) ≤ l.length) => dL_ok hk l hl q h)
  have HL := hide hlen
  clear hlen hl hk hm hs
  have im : IntKind.i64.wrap (m : Int) = (m : Int) := by rw [IntKind.wrap_i64]; omega
  go_enter Try.func10, Try.ntmps10
  go_wp2_with (first
    | (go_at_call 24; refine (R.out _).mono ?_; rintro e w' ⟨rfl, rfl⟩)
    | (refine mkO (α := LP) (s := 2) (by_ := 16) (n := m) lc (0, 0) lc_len (by decide) Try.underlying23 (.agg #[.int .i64 0, .int .i32 0]) (by kernel_rfl) rfl (Below.refl w.heap.size _) (Nat.le_refl _) (Nat.le_refl _) rfl (.tmp 23) (.tmp 23) rfl .i64 .i64 _ _ rfl rfl rfl rfl (by omega) (by simp [maxLen]; omega) ?_; intro w1 ho1 hb1))
  have h0 : (List.replicate m (0, 0)).flatMap lc = lcs (rowLP k l m 0) := by simp [rowLP, dLP, lcs]
  rw [h0] at ho1
  clear h0
  go_loopw [27] (fun i wr => ∃ (q : Nat), q ≤ m ∧ i = .int .i64 (q : Nat) ∧ Hid (Ok 2 wr w.heap.size 38 (some ⟨w.heap.size, 0, none⟩) m m (lcs (rowLP k l m q))) ∧ Hid (Below w.heap.size w wr)) (fun i _ => m - (intOf i).toNat)
  case atStart => exact ⟨0, by omega, rfl, hide ho1, hide hb1⟩
  case round =>
    clear ho1 hb1
    obtain ⟨q, hqm, rfl, ho, hw⟩ := hrel
    by_cases hlt : q < m
    · obtain ⟨P, hP⟩ : ∃ P : Nat, P = q * s := ⟨_, rfl⟩
      have hPn : P + s ≤ n := by
        have := Nat.mul_le_mul_right s (show q + 1 ≤ m by omega)
        rw [Nat.add_mul, Nat.one_mul, ← hP, ← HM.out] at this
        exact this
      obtain ⟨P2, hP2⟩ : ∃ P2 : Nat, P2 = P + k := ⟨_, rfl⟩
      have hPn2 : P2 + 4 ≤ n := by have := HS.out; omega
      have i1 : IntKind.i64.wrap ((q : Int) * (s : Int)) = (P : Int) := by rw [← Int.natCast_mul, ← hP, IntKind.wrap_i64]; omega
      have i2 : IntKind.i64.wrap ((P : Int) + (k : Int)) = (P2 : Int) := by rw [IntKind.wrap_i64]; omega
      have hd := (HD.out q (by rw [HL.out, ← HS.out, ← hP]; exact hPn)).1
      have hset := hide (rowLP_set k l hlt)
      have hat := hide (rowLP_at k l hlt)
      have hx := hide (show dL k l q = (sgn k (uval (fld l P k)), sgn 4 (uval (fld l P2 4))) by unfold dL; rw [← HS.out, ← hP, ← hP2])
      have C := hide (I.out P wr (by omega) (hr.below hw.out))
      have C4 := hide (I4.out P2 wr (by omega) (hr.below hw.out))
      rw [Int.toNat_natCast, Int.toNat_natCast] at C
      rw [Int.toNat_natCast, show (4 : Int).toNat = 4 from rfl] at C4
      rw [hx.out] at hd hset
      generalize sgn k (uval (fld l P k)) = x at *
      generalize sgn 4 (uval (fld l P2 4)) = y at *
      obtain ⟨_, _, y0, y1⟩ := hd
      dsimp only at y0 y1
      have hcv : ∀ w : World, (convert 2 21 (.int .i64 y)).run Try.prog w = .ok (.int .i32 y) w := fun w => by simp [go_sem]; rw [IntKind.wrap_i32]; omega
      obtain ⟨g0, g1⟩ := lcs_get hat.out
      have p0 := ho.out.cell (q * 2) (by omega)
      have p1 := ho.out.cell (q * 2 + 1) (by omega)
      rw [g0] at p0
      rw [g1] at p1
      have z0 := ho.out.frozen (q * 2)
      have z1 := ho.out.frozen (q * 2 + 1)
      have hst := (ho.out.set (q * 2) (.int .i64 x)).set (q * 2 + 1) (.int .i32 y)
      rw [lcs_put (x, y), hset.out] at hst
      have hbs := hide (bl_set (bl_set (g := w.heap.size) (o := q * 2) hw.out (Nat.le_refl _) (.int .i64 x)) (g := w.heap.size) (o := q * 2 + 1) (Nat.le_refl _) (.int .i32 y))
      replace hst := hide hst
      clear hP hP2 ho hw hset hat g0 g1 hx y0 y1
      go_wp2_with fail
      refine C.out.mono ?_
      rintro e w1 ⟨rfl, rfl⟩
      go_wp2_with fail
      refine C4.out.mono ?_
      rintro e w1 ⟨rfl, rfl⟩
      go_wp2
      go_roundw
      case rel => exact ⟨q + 1, by omega, by go_num, hst, hbs⟩
      case measure => simp [intOf]; omega
    · obtain rfl : q = m := by omega
      have e0 : rowLP k l q q = dLP k l q := by simp [rowLP]
      have := ho.out
      rw [e0] at this
      go_wp2
      go_ret
      exact ⟨_, _, rfl, this, hw.out⟩
set_option maxHeartbeats 2000000 in
theorem Encode (A : Option Addr) (n c m : Nat) (ts : List LP) (k : Nat) (K : Int) (w : World) (hK : K = (k : Int)) (hk : k = 4 ∨ k = 8) (hn : n ≤ 10000) (hm : m = n * (k + 4)) (hA : A = none → n = 0 ∧ c = 0) (hr : Rk 2 w A n (lcs ts)) (hok : ∀ t ∈ ts, lpOk t) :
    Calls Try.prog 13 #[.slice A n c, .int .i64 K] w fun e w' => ∃ A' c', e = .returned (.slice A' m c') ∧ Ow w' w.heap.size 5 A' m c' ((eLP k ts).map (Value.int .u8)) ∧ Below w.heap.size w w' := by
  subst hK
  have hl : ts.length = n := by have := hr.len; rw [lcs_len] at this; omega
  obtain ⟨s, hs⟩ : ∃ s, s = k + 4 := ⟨_, rfl⟩
  rw [← hs] at hm
  have hk8 : k ≤ 8 := by omega
  have hs12 : s ≤ 12 := by omega
  have R := hide (fun w => recordSize (k : Int) w (by omega))
  rw [show (k : Int) + 4 = (s : Int) by omega] at R
  have P := hide (fun v w h4 h5 => be_.Append none 0 0 [] k v w (by omega) (by omega) (Rd.none_ w) h4 h5)
  have P4 := hide (fun v w h4 h5 => be_.Append none 0 0 [] 4 v w (by omega) (by omega) (Rd.none_ w) h4 h5)
  have hmB : m ≤ 120000 := by rw [hm]; exact Nat.le_trans (Nat.mul_le_mul hn hs12) (by omega)
  have i0 : IntKind.i64.wrap ((n : Int) * (s : Int)) = (m : Int) := by rw [show (n : Int) * (s : Int) = (m : Int) by rw [hm, Int.natCast_mul], IntKind.wrap_i64]; omega
  have HM := hide hm
  have HS := hide hs
  have HL := hide hl
  have HO := hide hok
  clear hl hok hk hm hs
  go_enter Try.func13, Try.ntmps13
  go_wp2_with (first
    | (go_at_call 24; refine (R.out _).mono ?_; rintro e w' ⟨rfl, rfl⟩)
    | (refine mk (n := 0) (k := m) elU8 (Below.refl w.heap.size _) (Nat.le_refl _) (Nat.le_refl _) rfl (.const (.int .i64 0)) (.tmp 20) rfl .i64 .i64 _ _ rfl rfl rfl rfl (by omega) (by omega) (by simp [maxLen]; omega) ?_; intro w1 ho1 hb1))
  go_loopw [7, 24] (fun o i wr => ∃ (q Q : Nat) (A' : Option Addr) (c' : Nat), q ≤ n ∧ i = .int .i64 (q : Nat) ∧ Hid (Q = q * s) ∧ o = .slice A' Q c' ∧ Hid (Ow wr w.heap.size 5 A' Q c' ((eLP k (ts.take q)).map (Value.int .u8))) ∧ Hid (Below w.heap.size w wr)) (fun _ i _ => n - (intOf i).toNat)
  case atStart => exact ⟨0, 0, _, _, by omega, rfl, hide (by simp), rfl, hide ho1, hide hb1⟩
  case round =>
    clear ho1 hb1
    obtain ⟨q, Q, A', c', hq, rfl, hQ, rfl, ho, hw⟩ := hrel
    by_cases hlt : q < n
    · obtain ⟨ad, ⟨a, x⟩, rfl, ht, h0, h1⟩ := (hr.below hw.out).lp hlt
      obtain ⟨z0, z1, z2, z3⟩ := HO.out _ (List.mem_of_getElem? ht)
      dsimp only at h0 h1 z0 z1 z2 z3
      have hst := hide (eLP_step k ts q _ ht)
      have hu := u64_bd a
      have hv := u64_bd x
      have cv1 : ∀ w : World, (convert 2 46 (.int .i64 a)).run Try.prog w = .ok (.int .u64 (u64 a)) w := fun w => by simp [go_sem, u64, IntKind.wrap_u64]
      have cv2 : ∀ w : World, (convert 21 46 (.int .i32 x)).run Try.prog w = .ok (.int .u64 (u64 x)) w := fun w => by simp [go_sem, u64, IntKind.wrap_u64]
      have hQB : Q ≤ 120000 := by rw [hQ.out]; exact Nat.le_trans (Nat.mul_le_mul (Nat.le_of_lt hlt) (Nat.le_refl s)) (Nat.le_trans (Nat.mul_le_mul hn hs12) (by omega))
      have hQ2 := hide (show Q + k + 4 = (q + 1) * s by rw [Nat.add_mul, Nat.one_mul, ← hQ.out]; have := HS.out; omega)
      have C := hide (P.out (u64 a) (wr.alloc (.cells #[.int .i64 a, .int .i32 x] 38)) hu.1 hu.2)
      have bx := hide (Bx.new wr [.int .i64 a, .int .i32 x] 38)
      have ho2 := hide (ho.out.alloc (.cells #[.int .i64 a, .int .i32 x] 38))
      have hw2 := hide (bl_alloc hw.out (.cells #[.int .i64 a, .int .i32 x] 38))
      have hdj := hide (show oB A' ≠ some wr.heap.size from fun h => by have := (ho.out.blk h).2; omega)
      clear ht hu ho hw hQ z0 z1 z2 z3
      go_wp2_with fail
      refine C.out.mono ?_
      rintro e w1 ⟨A2, c2, rfl, o2, h2'⟩
      rw [Int.toNat_natCast, Nat.zero_add] at o2 ⊢
      rw [List.nil_append] at o2
      replace bx := hide (bx.out.below h2')
      have ho3 := hide (ho2.out.below h2')
      have hw3 := hide (bel_next hw2.out h2')
      have hr2 := hide o2.rd
      have hn2 := hide o2.nilcap
      have h1c := hide (oneCells .u8 (be k (u64 a)))
      clear o2 h2' ho2 hw2 C h0 h1
      go_upto_region 9 with (at_builtin; refine apA elU8 ho3.out hw3.out (Nat.le_refl _) hr2.out (.tmp 28) (.tmp 33) rfl rfl rfl rfl hn2.out h1c.out (by simp [maxLen]; omega) (by omega) ?_; intro A3 c3 w3 ho4 hb4 hg4; replace ho4 := hide ho4; replace hb4 := hide hb4)
      replace bx := hide (hg4.bx bx.out hdj.out)
      clear ho3 hw3 hr2 hn2 h1c hdj hg4
      rw [← List.map_append] at ho4
      have b1 := bx.out.2.1 1 _ rfl
      have C4 := hide (P4.out (u64 x) w3 hv.1 hv.2)
      clear hv
      go_wp2_with fail
      refine C4.out.mono ?_
      rintro e w5 ⟨A5, c5, rfl, o5, h5⟩
      rw [show (4 : Int).toNat = 4 from rfl, Nat.zero_add] at o5 ⊢
      rw [List.nil_append] at o5
      have ho6 := ho4.out.below h5
      have hw6 := bel_next hb4.out h5
      have hr6 := o5.rd
      have hn6 := o5.nilcap
      have h1d := hide (oneCells .u8 (be 4 (u64 x)))
      clear o5 h5 ho4 hb4 C4 bx b1
      go_wp2_with (at_builtin; refine apA elU8 ho6 hw6 (Nat.le_refl _) hr6 (.tmp 35) (.tmp 39) rfl rfl rfl rfl hn6 h1d.out (by simp [maxLen]; omega) (by omega) ?_; intro A7 c7 w7 ho7 hb7 hg7)
      rw [← List.map_append, ← hst.out] at ho7
      replace ho7 := hide ho7
      replace hb7 := hide hb7
      clear hg7 ho6 hw6 hr6 hn6
      go_roundw
      case rel => exact ⟨q + 1, Q + k + 4, A7, c7, by omega, by go_num, hQ2, rfl, ho7, hb7⟩
      case measure => simp [intOf]; omega
    · obtain rfl : q = n := by omega
      go_wp2
      go_ret
      have := ho.out
      rw [List.take_of_length_le (by rw [HL.out]; omega)] at this
      rw [HM.out, ← hQ.out]
      exact ⟨_, _, rfl, this, hw.out⟩
set_option maxHeartbeats 1000000 in
theorem hasExpiration (A : Option Addr) (n c : Nat) (ts : List LP) (w : World) (hn : n ≤ 100000) (hr : Rk 2 w A n (lcs ts)) :
    Calls Try.prog 30 #[.slice A n c] w fun e w' => e = .returned (.bool (exL ts)) ∧ Below w.heap.size w w' := by
  have hl : ts.length = n := by have := hr.len; rw [lcs_len] at this; omega
  by_cases h2 : 2 ≤ n
  · obtain ⟨ad, t, rfl, ht, f0, f1⟩ := hr.lp (i := n - 1) (by omega)
    obtain ⟨ad', u, e, hu, g0, g1⟩ := hr.lp (i := n - 2) (by omega)
    cases e
    have hx : exL ts = decide (t.2 = u.2) := by
      unfold exL lr
      rw [hl, decide_eq_true (by omega), Bool.true_and, ht, hu]
      rfl
    rw [hx]
    have i1 : IntKind.i64.wrap ((n : Int) - 1) = ((n - 1 : Nat) : Int) := by rw [IntKind.wrap_i64]; omega
    have i2 : IntKind.i64.wrap ((n : Int) - 2) = ((n - 2 : Nat) : Int) := by rw [IntKind.wrap_i64]; omega
    have l1 : n - 1 < n := by omega
    have l2 : n - 2 < n := by omega
    clear hx ht hu hl hr g0 f0
    generalize n - 1 = P at *
    generalize n - 2 = p at *
    have d1 : decide ((1 : Int) < (n : Int)) = true := decide_eq_true (by omega)
    have d2 : decide (1 < n) = true := decide_eq_true (by omega)
    have hq : (t.2 == u.2) = decide (t.2 = u.2) := rfl
    generalize decide (t.2 = u.2) = b at *
    go_enter Try.func30, Try.ntmps30
    go_wp2
    go_quiet (fail)
    go_wp2
    go_ret
    exact ⟨rfl, bel_drewN (bl_refl _) _⟩
  · have hx : exL ts = false := by unfold exL; rw [hl, decide_eq_false h2, Bool.false_and]
    rw [hx]
    have d1 : decide ((1 : Int) < (n : Int)) = false := decide_eq_false (by omega)
    have d2 : decide (1 < n) = false := decide_eq_false (by omega)
    clear hx hl hr
    go_enter Try.func30, Try.ntmps30
    go_wp2
    go_quiet (fail)
    go_wp2
    go_ret
    exact ⟨rfl, bel_drewN (bl_refl _) _⟩
theorem Expiry (A : Option Addr) (n c : Nat) (ts : List LP) (w : World) (hv : vL ts true = true) (hn : n ≤ 100000) (hA : A = none → n = 0 ∧ c = 0) (hr : Rk 2 w A n (lcs ts)) (hok : ∀ t ∈ ts, lpOk t) :
    Calls Try.prog 19 #[.slice A n c] w fun e w' => e = .returned (.tuple #[.int .i64 (if exL ts then la ts (ts.length - 1) else 0), .bool (exL ts)]) ∧ Below w.heap.size w w' := by
  have hl : ts.length = n := by have := hr.len; rw [lcs_len] at this; omega
  have C := hide (hasExpiration A n c ts w hn hr)
  by_cases hx : exL ts = true
  · have h2 : 2 ≤ n := by unfold exL at hx; simp at hx; omega
    rw [hx] at C ⊢
    obtain ⟨ad, t, rfl, ht, f0, f1⟩ := hr.lp (i := n - 1) (by omega)
    have ha : la ts (ts.length - 1) = t.1 := by unfold la; rw [hl, ht]; rfl
    rw [if_pos rfl, ha]
    have i1 : IntKind.i64.wrap ((n : Int) - 1) = ((n - 1 : Nat) : Int) := by rw [IntKind.wrap_i64]; omega
    have l1 : n - 1 < n := by omega
    have hf : ∀ w', Below w.heap.size w w' → w'.cell? (ad.add ((n - 1) * 2)) = some (.int .i64 t.1) := fun w' hb => cellE hb f0
    replace hf := hide hf
    clear hx ha ht hl hr f0 f1 hv hA hok
    generalize n - 1 = P at *
    go_enter Try.func19, Try.ntmps19
    go_wp2_with fail
    refine C.out.mono ?_
    rintro e w1 ⟨rfl, h1⟩
    have f := hf.out _ h1
    go_wp2
    go_ret2
    exact ⟨rfl, h1⟩
  · have hx' : exL ts = false := by simpa using hx
    rw [hx'] at C ⊢
    rw [if_neg (by decide)]
    clear hx hx' hl hr hv hA hok
    go_enter Try.func19, Try.ntmps19
    go_wp2_with fail
    refine C.out.mono ?_
    rintro e w1 ⟨rfl, h1⟩
    go_wp2
    go_ret2
    exact ⟨rfl, h1⟩
set_option maxHeartbeats 1000000 in
/-- the search by halves of a function value that only makes memory: the answer's two sides. -/
theorem search_ (F : FuncId) (cb : Array Value) (p : Nat → Bool) (n : Nat) (w : World) (hn : n < 4611686018427387904) (hC : ∀ args w, (callFunc F args).run Try.prog w = .ok (.enter F args) w)
    (hf : ∀ i w', i < n → Below w.heap.size w w' → Calls Try.prog F (#[.int .i64 (i : Nat)] ++ cb) w' fun e w'' => e = .returned (.bool (p i)) ∧ Below w'.heap.size w' w'') :
    Calls Try.prog 31 #[.int .i64 n, .func (.func F) #[] cb] w fun e w' => ∃ h : Nat, h ≤ n ∧ e = .returned (.int .i64 h) ∧ (h = 0 ∨ p (h - 1) = false) ∧ (h = n ∨ p h = true) ∧ Below w.heap.size w w' := by
  have HF := hide hf
  have HC := hide hC
  clear hf hC
  go_enter Try.func31, Try.ntmps31
  go_wp2
  go_loopw [5, 6] (fun s5 s6 wr => ∃ lo hi : Nat, s5 = .int .i64 lo ∧ s6 = .int .i64 hi ∧ lo ≤ hi ∧ hi ≤ n ∧ Hid (lo = 0 ∨ p (lo - 1) = false) ∧ Hid (hi = n ∨ p hi = true) ∧ Hid (Below w.heap.size w wr)) (fun s5 s6 _ => (intOf s6 - intOf s5).toNat)
  case atStart => exact ⟨0, n, rfl, rfl, Nat.zero_le _, Nat.le_refl _, hide (.inl rfl), hide (.inl rfl), hide (bl_refl _)⟩
  case round =>
    obtain ⟨lo, hi, rfl, rfl, hlh, hin, h1, h2, hw⟩ := hrel
    by_cases hlt : lo < hi
    · have hc := HF.out ((lo + hi) / 2) wr (by omega) hw.out
      rw [show (((lo + hi) / 2 : Nat) : Int) = ((lo : Int) + (hi : Int)) / 2 by omega] at hc
      cases hp : p ((lo + hi) / 2) <;> rw [hp] at hc
      · replace hp := hide hp
        replace hc := hide hc
        go_wp2_with fail
        rw [HC.out, Oper.upon_enter]
        refine hc.out.mono ?_
        rintro e w1 ⟨rfl, h3⟩
        have hw1 := hide (bel_next hw.out h3)
        clear hw h3 hc
        go_wp2
        go_roundw
        case rel => exact ⟨(lo + hi) / 2 + 1, hi, by rw [show ((lo : Int) + (hi : Int)) / 2 + 1 = (((lo + hi) / 2 + 1 : Nat) : Int) by omega], rfl, by omega, hin, hide (.inr (by simpa using hp.out)), h2, hw1⟩
        case measure => simp [intOf]; omega
      · replace hp := hide hp
        replace hc := hide hc
        go_wp2_with fail
        rw [HC.out, Oper.upon_enter]
        refine hc.out.mono ?_
        rintro e w1 ⟨rfl, h3⟩
        have hw1 := hide (bel_next hw.out h3)
        clear hw h3 hc
        go_wp2
        go_roundw
        case rel => exact ⟨lo, (lo + hi) / 2, rfl, by rw [show ((lo : Int) + (hi : Int)) / 2 = (((lo + hi) / 2 : Nat) : Int) by omega], by omega, by omega, h1, hide (.inr hp.out), hw1⟩
        case measure => simp [intOf]; omega
    · obtain rfl : hi = lo := by omega
      go_wp2
      go_ret
      exact ⟨hi, hin, rfl, h1.out, h2.out, hw.out⟩
/-- the closure that Correction hands to the search: its list and its time lie in boxes. -/
theorem later (ga gt : Nat) (A : Option Addr) (n c : Nat) (ts : List LP) (t : Int) (i : Nat) (w : World) (hi : i < n) (hr : Rk 2 w A n (lcs ts)) (ha : w.cell? ⟨ga, 0, none⟩ = some (.slice A n c)) (ht : w.cell? ⟨gt, 0, none⟩ = some (.int .i64 t)) :
    Calls Try.prog 32 (#[.int .i64 (i : Nat)] ++ #[.pointer (some ⟨ga, 0, none⟩), .pointer (some ⟨gt, 0, none⟩)]) w fun e w' => e = .returned (.bool (decide (t < la ts i))) ∧ Below w.heap.size w w' := by
  obtain ⟨ad, x, rfl, hx, f0, f1⟩ := hr.lp hi
  rw [(la_some hx).1]
  clear hr hx f1
  go_enter Try.func32, Try.ntmps32
  go_wp2
  go_quiet (fail)
  go_wp2
  go_ret
  exact ⟨rfl, bel_drewN (bl_refl _) _⟩
set_option maxHeartbeats 1000000 in
theorem Correction (A : Option Addr) (n c : Nat) (ts : List LP) (t : Int) (w : World) (hv : vL ts true = true) (hn : n ≤ 100000) (hA : A = none → n = 0 ∧ c = 0) (hr : Rk 2 w A n (lcs ts)) (hok : ∀ t ∈ ts, lpOk t) (h0 : -9223372036854775808 ≤ t) (h1 : t < 9223372036854775808) :
    Calls Try.prog 21 #[.slice A n c, .int .i64 t] w fun e w' => e = .returned (.int .i64 (cr ts t)) ∧ Below w.heap.size w w' := by
  have hl : ts.length = n := by have := hr.len; rw [lcs_len] at this; omega
  have hcr := hide (fun (h : Nat) (hh : h ≤ n) (a : h = 0 ∨ decide (t < la ts (h - 1)) = false) (b : h = n ∨ decide (t < la ts h) = true) => (show cr ts t = if h = 0 then 0 else lr ts (h - 1) from cr_cut (by omega)
    (fun i hi => by
      rcases a with a | a
      · omega
      · have := la_mono hv (show i ≤ h - 1 by omega) (by omega)
        have := of_decide_eq_false a
        omega)
    (fun i hi h2 => by
      rcases b with b | b
      · omega
      · have := la_mono hv hi h2
        have := of_decide_eq_true b
        omega)))
  have HL := hide hl
  have HO := hide hok
  obtain ⟨W, hW⟩ : ∃ W : World, W = (w.alloc (.cells #[.slice A n c] 23)).alloc (.cells #[.int .i64 t] 2) := ⟨_, rfl⟩
  have hb0 : Below w.heap.size w W := by rw [hW]; exact bl_alloc (bl_new _ _) _
  have ca : W.cell? ⟨w.heap.size, 0, none⟩ = some (.slice A n c) := by rw [hW]; simp
  have ct : W.cell? ⟨w.heap.size + 1, 0, none⟩ = some (.int .i64 t) := by rw [hW]; simp
  have hrW := hr.below hb0
  have C := hide (search_ 32 #[.pointer (some ⟨w.heap.size, 0, none⟩), .pointer (some ⟨w.heap.size + 1, 0, none⟩)] (fun i => decide (t < la ts i)) n W (by omega) (enters Try.func32 (by kernel_rfl) (by kernel_rfl))
    (fun i w' hi hb => later w.heap.size (w.heap.size + 1) A n c ts t i w' hi (hrW.below hb) (cellE hb ca) (cellE hb ct)))
  rw [hW] at C
  clear hW hrW ca ct hb0 W
  generalize cr ts t = r at *
  clear hv hok hl
  go_enter Try.func21, Try.ntmps21
  go_wp2_with fail
  refine C.out.mono ?_
  rintro e w1 ⟨h, hh, rfl, ha, hb, h2⟩
  have e1 := hcr.out h hh ha hb
  have hb0 : Below w.heap.size w ((w.alloc (.cells #[.slice A n c] 23)).alloc (.cells #[.int .i64 t] 2)) := bl_alloc (bl_new _ _) _
  have ca : ((w.alloc (.cells #[.slice A n c] 23)).alloc (.cells #[.int .i64 t] 2)).cell? ⟨w.heap.size, 0, none⟩ = some (.slice A n c) := by simp
  have ca1 := cellE h2 ca
  have hb1 := hide (bel_next hb0 h2)
  clear C hcr ha hb ca h2 hb0
  by_cases hz : h = 0
  · subst hz
    rw [if_pos rfl] at e1
    subst e1
    go_wp2
    go_ret
    exact ⟨rfl, hb1.out⟩
  · rw [if_neg hz] at e1
    obtain ⟨ad, x, rfl, hx, f0, f1⟩ := (hr.below hb1.out).lp (i := h - 1) (by omega)
    rw [(la_some hx).2] at e1
    subst e1
    obtain ⟨_, _, z0, z1⟩ := HO.out _ (List.mem_of_getElem? hx)
    have hcv : ∀ w : World, (convert 21 3 (.int .i32 x.2)).run Try.prog w = .ok (.int .i64 x.2) w := fun w => by simp [go_sem]; rw [IntKind.wrap_i64]; omega
    have i1 : IntKind.i64.wrap ((h : Int) - 1) = ((h - 1 : Nat) : Int) := by rw [IntKind.wrap_i64]; omega
    have l1 : h - 1 < n := by omega
    have hz' : ((h : Int) == 0) = false := by simp; omega
    clear hx f0 z0 z1 hr
    generalize h - 1 = P at *
    go_wp2
    go_ret
    exact ⟨rfl, hb1.out⟩
theorem startsLate (A : Option Addr) (n c : Nat) (ts : List LP) (v : Int) (w : World) (h0 : 0 < n) (hr : Rk 2 w A n (lcs ts)) :
    Calls Try.prog 40 #[.slice A n c, .int .i64 v] w fun e w' => e = .returned (.bool (decide (0 ≤ la ts 0))) ∧ Below w.heap.size w w' := by
  obtain ⟨ad, x, rfl, hx, f0, f1⟩ := hr.lp h0
  rw [(la_some hx).1]
  rw [show ad.add (0 * 2) = ad by simp [Addr.add]] at f0
  clear hr hx f1
  by_cases h : 0 ≤ x.1
  all_goals
    first | rw [decide_eq_true h] | rw [decide_eq_false h]
    first | have hd : decide (0 ≤ x.1) = true := decide_eq_true h | have hd : decide (0 ≤ x.1) = false := decide_eq_false h
    go_enter Try.func40, Try.ntmps40
    go_wp2
    go_ret
    exact ⟨rfl, bl_refl _⟩
theorem startsBySecond (A : Option Addr) (n c : Nat) (ts : List LP) (v : Int) (four : Bool) (w : World) (hf : decide (v = 4) = four) (h0 : 0 < n) (hr : Rk 2 w A n (lcs ts)) :
    Calls Try.prog 42 #[.slice A n c, .int .i64 v] w fun e w' => e = .returned (.bool (stB ts four)) ∧ Below w.heap.size w w' := by
  obtain ⟨ad, x, rfl, hx, f0, f1⟩ := hr.lp h0
  have e0 := (la_some hx).2
  rw [show ad.add (0 * 2) = ad by simp [Addr.add]] at f1
  unfold stB
  rw [e0]
  clear hr hx f0 e0
  by_cases hv : v = 4
  · subst hv
    rw [decide_eq_true rfl] at hf
    subst hf
    go_enter Try.func42, Try.ntmps42
    go_wp2
    go_ret
    exact ⟨rfl, bl_refl _⟩
  · have hv' : (v == 4) = false := by simpa using hv
    rw [decide_eq_false hv] at hf
    subst hf
    obtain ⟨y, hy⟩ : ∃ y, y = x.2 := ⟨_, rfl⟩
    rw [← hy] at f1 ⊢
    clear hy hv
    rcases (show y = 1 ∨ y = -1 ∨ ((y == 1) = false ∧ (y == -1) = false ∧ (false || decide (y = 1) || decide (y = -1)) = false) by by_cases a : y = 1 <;> by_cases b : y = -1 <;> simp [a, b]) with rfl | rfl | ⟨n1, n2, e⟩
    · go_enter Try.func42, Try.ntmps42
      go_wp2
      go_ret
      exact ⟨rfl, bl_refl _⟩
    · go_enter Try.func42, Try.ntmps42
      go_wp2
      go_ret
      exact ⟨rfl, bl_refl _⟩
    · rw [e]
      clear e
      go_enter Try.func42, Try.ntmps42
      go_wp2
      go_ret
      exact ⟨rfl, bl_refl _⟩
set_option maxHeartbeats 2000000 in
theorem isSpaced (A : Option Addr) (n c : Nat) (ts : List LP) (v : Int) (w : World) (h0 : 0 < n) (hn : n ≤ 100000) (hr : Rk 2 w A n (lcs ts)) (hok : ∀ t ∈ ts, lpOk t) :
    Calls Try.prog 41 #[.slice A n c, .int .i64 v] w fun e w' => e = .returned (.bool (spB ts n)) ∧ Below w.heap.size w w' := by
  have HO := hide hok
  obtain ⟨b, hb⟩ : ∃ b, b = spB ts n := ⟨_, rfl⟩
  rw [← hb]
  replace hb := hide hb
  clear hok
  go_enter Try.func41, Try.ntmps41
  go_wp2
  go_loopw [5] (fun i wr => ∃ k : Nat, 1 ≤ k ∧ k ≤ n ∧ i = .int .i64 (k : Nat) ∧ Hid (spB ts k = true) ∧ Hid (Below w.heap.size w wr)) (fun i _ => n - (intOf i).toNat)
  case atStart => exact ⟨1, by omega, by omega, rfl, hide (spB_one ts), hide (bl_refl _)⟩
  case round =>
    obtain ⟨k, hk1, hk, rfl, ha, hw⟩ := hrel
    by_cases hlt : k < n
    · obtain ⟨ad, t, rfl, ht, f0, f1⟩ := (hr.below hw.out).lp (i := k - 1) (by omega)
      obtain ⟨ad', u, e, hu, g0, g1⟩ := (hr.below hw.out).lp hlt
      cases e
      obtain ⟨x0, x1, _, _⟩ := HO.out _ (List.mem_of_getElem? ht)
      obtain ⟨y0, y1, _, _⟩ := HO.out _ (List.mem_of_getElem? hu)
      have e1 := (la_some ht).1
      have e2 := (la_some hu).1
      have hst := spB_step ts k (by omega)
      have hno := hide (fun h => spB_no (ts := ts) (i := k) (n := n) (by omega) hlt h)
      rw [ha.out, Bool.true_and, e1, e2] at hst
      rw [e1, e2] at hno
      have i1 : IntKind.i64.wrap ((k : Int) - 1) = ((k - 1 : Nat) : Int) := by rw [IntKind.wrap_i64]; omega
      have l1 : k - 1 < n := by omega
      clear e1 e2 ht hu f1 g1 ha
      generalize k - 1 = P at *
      generalize t.1 = x at *
      generalize u.1 = y at *
      have hst' := hide hst
      clear hst
      have cv1 : ∀ w : World, (convert 2 46 (.int .i64 x)).run Try.prog w = .ok (.int .u64 (u64 x)) w := fun w => by simp [go_sem, u64, IntKind.wrap_u64]
      have cv2 : ∀ w : World, (convert 2 46 (.int .i64 y)).run Try.prog w = .ok (.int .u64 (u64 y)) w := fun w => by simp [go_sem, u64, IntKind.wrap_u64]
      by_cases hle : y ≤ x
      · have d1 : decide (y ≤ x) = true := decide_eq_true hle
        have hf := hno.out (by omega)
        have e := hb.out
        rw [hf] at e
        subst e
        clear hf hno hst'
        go_wp2
        go_quiet (fail)
        go_wp2
        go_ret
        exact ⟨rfl, bel_drewN hw.out _⟩
      · have d1 : decide (y ≤ x) = false := decide_eq_false hle
        have is : IntKind.u64.wrap (u64 y - u64 x) = y - x := by rw [IntKind.wrap_u64]; unfold u64; omega
        by_cases hlt2 : y - x < 2419199
        · have d2 : decide (y - x < 2419199) = true := decide_eq_true hlt2
          have hf := hno.out (by omega)
          have e := hb.out
          rw [hf] at e
          subst e
          clear hf hno hst'
          generalize y - x = z at *
          go_wp2
          go_quiet (fail)
          go_wp2
          go_ret
          exact ⟨rfl, bel_drewN hw.out _⟩
        · have d2 : decide (y - x < 2419199) = false := decide_eq_false hlt2
          have hs := hide (show spB ts (k + 1) = true by rw [hst'.out]; exact decide_eq_true (by omega))
          clear hno hst'
          generalize y - x = z at *
          go_wp2
          go_quiet (fail)
          go_wp2
          go_roundw
          case rel => exact ⟨k + 1, by omega, by omega, by go_num, hs, hide (bel_drewN hw.out _)⟩
          case measure => simp [intOf]; omega
    · obtain rfl : k = n := by omega
      have e := hb.out
      rw [ha.out] at e
      subst e
      go_wp2
      go_ret
      exact ⟨rfl, hw.out⟩
set_option maxHeartbeats 4000000 in
theorem goesBySeconds (A : Option Addr) (n c : Nat) (ts : List LP) (v : Int) (four : Bool) (w : World) (hf : decide (v = 4) = four) (h0 : 0 < n) (hn : n ≤ 100000) (hcap : n ≤ c) (hr : Rk 2 w A n (lcs ts)) (hok : ∀ t ∈ ts, lpOk t) :
    Calls Try.prog 43 #[.slice A n c, .int .i64 v] w fun e w' => e = .returned (.bool (gsB ts (gsN ts four))) ∧ Below w.heap.size w w' := by
  have HO := hide hok
  have hl : ts.length = n := by have := hr.len; rw [lcs_len] at this; omega
  have C := hide (hasExpiration A n c ts w hn hr)
  have hx2 : exL ts = true → 2 ≤ n := fun hx => by unfold exL at hx; simp at hx; omega
  obtain ⟨N, hN⟩ : ∃ N, N = gsN ts four := ⟨_, rfl⟩
  have hN2 : N = if (four && exL ts) = true then n - 1 else n := by rw [hN]; unfold gsN; rw [hl]
  rw [← hN]
  obtain ⟨b, hb⟩ : ∃ b, b = gsB ts N := ⟨_, rfl⟩
  rw [← hb]
  replace hb := hide hb
  obtain ⟨ad, e, hc⟩ := hr.2 (show 0 < n by omega)
  subst e
  generalize exL ts = x at *
  have V : (v == 4) = four := by rw [← hf]; rfl
  have hN1 : 1 ≤ N ∧ N ≤ n ∧ (four = true → x = true → N = n - 1) ∧ (four = false ∨ x = false → N = n) := by
    rw [hN2]
    cases four <;> cases x
    all_goals simp at hx2 ⊢
    all_goals omega
  obtain ⟨hN1, hNn, hNy, hNo⟩ := hN1
  have hrN := hide (fun (i : Nat) (h : i < N) => hr.lp (i := i) (by omega))
  clear hok hl hx2 hN hN2 hf hc
  have i0 : IntKind.i64.wrap ((n : Int) - 1) = ((n - 1 : Nat) : Int) := by rw [IntKind.wrap_i64]; omega
  cases four <;> cases x
  all_goals
    first
    | (obtain rfl : N = n := hNo (.inl rfl))
    | (obtain rfl : N = n := hNo (.inr rfl))
    | (obtain e : n - 1 = N := (hNy rfl rfl).symm
       rw [e] at i0)
    clear hNo hNy
    go_enter Try.func43, Try.ntmps43
    go_wp2_with (go_at_call 30; refine C.out.mono ?_; rintro e w1 ⟨rfl, h1⟩)
  all_goals
    clear i0
    go_loopw [5] (fun i wr => ∃ k : Nat, 1 ≤ k ∧ k ≤ N ∧ i = .int .i64 (k : Nat) ∧ Hid (gsB ts k = true) ∧ Hid (Below w.heap.size w wr)) (fun i _ => N - (intOf i).toNat)
    case atStart => exact ⟨1, by omega, by omega, rfl, hide (gsB_one ts), hide (by first | exact h1 | exact bl_refl _)⟩
    case round =>
      try clear h1
      obtain ⟨k, hk1, hk, rfl, ha, hw⟩ := hrel
      by_cases hlt : k < N
      · obtain ⟨ad0, t, e0, ht, _, f1⟩ := hrN.out (k - 1) (by omega)
        cases e0
        obtain ⟨ad1, u, e1, hu, _, g1⟩ := hrN.out k hlt
        cases e1
        replace f1 := cellE hw.out f1
        replace g1 := cellE hw.out g1
        obtain ⟨_, _, x0, x1⟩ := HO.out _ (List.mem_of_getElem? ht)
        obtain ⟨_, _, y0, y1⟩ := HO.out _ (List.mem_of_getElem? hu)
        have e1 := (la_some ht).2
        have e2 := (la_some hu).2
        have hst := gsB_step ts k (by omega)
        have hno := hide (fun h h' => gsB_no (ts := ts) (i := k) (n := N) (by omega) hlt h h')
        rw [ha.out, Bool.true_and, e1, e2] at hst
        rw [e1, e2] at hno
        have i1 : IntKind.i64.wrap ((k : Int) - 1) = ((k - 1 : Nat) : Int) := by rw [IntKind.wrap_i64]; omega
        have l1 : k - 1 < N := by omega
        clear e1 e2 ht hu ha
        generalize k - 1 = P at *
        generalize t.2 = x at *
        generalize u.2 = y at *
        have hst' := hide hst
        clear hst
        have cv1 : ∀ w : World, (convert 21 2 (.int .i32 x)).run Try.prog w = .ok (.int .i64 x) w := fun w => by simp [go_sem]; rw [IntKind.wrap_i64]; omega
        have cv2 : ∀ w : World, (convert 21 2 (.int .i32 y)).run Try.prog w = .ok (.int .i64 y) w := fun w => by simp [go_sem]; rw [IntKind.wrap_i64]; omega
        obtain ⟨z, hz⟩ : ∃ z, y - x = z := ⟨_, rfl⟩
        have is : wrap64 (y - x) = z := by rw [← hz]; unfold wrap64; omega
        rw [hz] at hst' hno
        clear hz
        clear x0 x1 y0 y1
        by_cases z1 : z = 1
        · have hs := hide (show gsB ts (k + 1) = true by rw [hst'.out, decide_eq_true z1]; rfl)
          subst z1
          clear hno hst'
          go_wp2
          go_quiet (fail)
          go_wp2
          go_roundw
          case rel => exact ⟨k + 1, by omega, by omega, by go_num, hs, hide (bel_drewN hw.out _)⟩
          case measure => simp [intOf]; omega
        · have c1 : (z != 1) = true := by simp [z1]
          by_cases z2 : z = -1
          · have hs := hide (show gsB ts (k + 1) = true by rw [hst'.out, decide_eq_true z2, Bool.or_true])
            subst z2
            clear hno hst'
            go_wp2
            go_quiet (fail)
            go_wp2
            go_roundw
            case rel => exact ⟨k + 1, by omega, by omega, by go_num, hs, hide (bel_drewN hw.out _)⟩
            case measure => simp [intOf]; omega
          · have c2 : (z != -1) = true := by simp [z2]
            have hf := hno.out z1 z2
            have e := hb.out
            rw [hf] at e
            subst e
            clear hf hno hst'
            go_wp2
            go_quiet (fail)
            go_wp2
            go_ret
            exact ⟨rfl, bel_drewN hw.out _⟩
      · obtain rfl : k = N := by omega
        have e := hb.out
        rw [ha.out] at e
        subst e
        go_wp2
        go_ret
        exact ⟨rfl, hw.out⟩
/-- a rule's cells: a name that is not empty, a function. -/
def RuleAt (cells : List Value) (i : Nat) (F : FuncId) : Prop := ∃ s : ByteArray, cells[i * 2]? = some (.string s) ∧ cells[i * 2 + 1]? = some (.func (.func F) #[] #[]) ∧ s.toList.isEmpty = false
theorem rules (w : World) : Calls Try.prog 38 #[] w fun e w' => ∃ ad cells, e = .returned (.slice (some ad) 4 4) ∧ Rk 2 w' (some ad) 4 cells ∧ RuleAt cells 0 40 ∧ RuleAt cells 1 41 ∧ RuleAt cells 2 42 ∧ RuleAt cells 3 43 ∧ Below w.heap.size w w' := by
  go_enter Try.func38, Try.ntmps38
  go_wp2
  go_ret
  refine ⟨_, _, rfl, (Ok.lit 2 w 57 [_, _, _, _, _, _, _, _] 4 rfl (by simp [maxLen])).rd, ⟨_, rfl, rfl, ?_⟩, ⟨_, rfl, rfl, ?_⟩, ⟨_, rfl, rfl, ?_⟩, ⟨_, rfl, rfl, ?_⟩, bl_new _ _⟩
  all_goals (rw [ByteArray.toList_eq]; rfl)
set_option maxHeartbeats 4000000 in
theorem broken (A : Option Addr) (n c : Nat) (ts : List LP) (v : Int) (four : Bool) (w : World) (hf : decide (v = 4) = four) (hn : n ≤ 100000) (hcap : n ≤ c) (hr : Rk 2 w A n (lcs ts)) (hok : ∀ t ∈ ts, lpOk t) :
    Calls Try.prog 29 #[.slice A n c, .int .i64 v] w fun e w' => ∃ s : ByteArray, e = .returned (.string s) ∧ s.toList.isEmpty = vL ts four ∧ Below w.heap.size w w' := by
  have hl : ts.length = n := by have := hr.len; rw [lcs_len] at this; omega
  by_cases h0 : n = 0
  · subst h0
    have : ts = [] := List.length_eq_zero_iff.1 hl
    subst this
    clear hr hok hl hf
    go_enter Try.func29, Try.ntmps29
    go_wp2
    go_ret
    exact ⟨⟨#[]⟩, rfl, by rw [ByteArray.toList_eq]; rfl, bl_refl _⟩
  have hp : 0 < n := by omega
  have hv := vL_parts (ts := ts) (by omega) four
  rw [hl] at hv
  have hz : ((n : Int) == 0) = false := by simp; omega
  obtain ⟨H, hH⟩ : ∃ H : Nat → Bool, H 0 = decide (0 ≤ la ts 0) ∧ H 1 = spB ts n ∧ H 2 = stB ts four ∧ H 3 = gsB ts (gsN ts four) :=
    ⟨fun i => if i = 0 then decide (0 ≤ la ts 0) else if i = 1 then spB ts n else if i = 2 then stB ts four else gsB ts (gsN ts four), rfl, rfl, rfl, rfl⟩
  obtain ⟨H0, H1, H2, H3⟩ := hH
  have F0 := hide (fun (w : World) (h : Rk 2 w A n (lcs ts)) => startsLate A n c ts v w hp h)
  have F1 := hide (fun (w : World) (h : Rk 2 w A n (lcs ts)) => isSpaced A n c ts v w hp hn h hok)
  have F2 := hide (fun (w : World) (h : Rk 2 w A n (lcs ts)) => startsBySecond A n c ts v four w hf hp h)
  have F3 := hide (fun (w : World) (h : Rk 2 w A n (lcs ts)) => goesBySeconds A n c ts v four w hf hp hn hcap h hok)
  rw [← H0] at F0
  rw [← H1] at F1
  rw [← H2] at F2
  rw [← H3] at F3
  have E0 := enters Try.func40 (by kernel_rfl) (by kernel_rfl)
  have E1 := enters Try.func41 (by kernel_rfl) (by kernel_rfl)
  have E2 := enters Try.func42 (by kernel_rfl) (by kernel_rfl)
  have E3 := enters Try.func43 (by kernel_rfl) (by kernel_rfl)
  obtain ⟨r, hrr⟩ : ∃ r, r = vL ts four := ⟨_, rfl⟩
  rw [← hrr]
  have hR := hide (show r = (H 0 && H 1 && H 2 && H 3) by rw [hrr, hv, H0, H1, H2, H3])
  clear hrr hv H0 H1 H2 H3 hf hok hl hcap hn
  have R := hide (rules w)
  go_enter Try.func29, Try.ntmps29
  go_wp2_with fail
  refine R.out.mono ?_
  rintro e w1 ⟨ad, cells, rfl, hc, r0, r1, r2, r3, hb⟩
  have hall : ∀ i, i < 4 → ∃ (F : FuncId) (s : ByteArray), cells[i * 2]? = some (.string s) ∧ cells[i * 2 + 1]? = some (.func (.func F) #[] #[]) ∧ s.toList.isEmpty = false ∧ (∀ args w, (callFunc F args).run Try.prog w = .ok (.enter F args) w) ∧ (∀ w : World, Rk 2 w A n (lcs ts) → Calls Try.prog F #[.slice A n c, .int .i64 v] w fun e w' => e = .returned (.bool (H i)) ∧ Below w.heap.size w w') := by
    intro i hi
    rcases (show i = 0 ∨ i = 1 ∨ i = 2 ∨ i = 3 by omega) with rfl | rfl | rfl | rfl
    · obtain ⟨s, a, b, d⟩ := r0; exact ⟨_, s, a, b, d, E0, F0.out⟩
    · obtain ⟨s, a, b, d⟩ := r1; exact ⟨_, s, a, b, d, E1, F1.out⟩
    · obtain ⟨s, a, b, d⟩ := r2; exact ⟨_, s, a, b, d, E2, F2.out⟩
    · obtain ⟨s, a, b, d⟩ := r3; exact ⟨_, s, a, b, d, E3, F3.out⟩
  replace hall := hide hall
  replace hc := hide hc
  replace hb := hide hb
  clear r0 r1 r2 r3 E0 E1 E2 E3 F0 F1 F2 F3 R
  go_wp2_with fail
  go_loopw [12] (fun i wr => ∃ k : Nat, k ≤ 4 ∧ i = .int .i64 (k : Nat) ∧ Hid (∀ j, j < k → H j = true) ∧ Hid (Rk 2 wr (some ad) 4 cells) ∧ Hid (Below w.heap.size w wr)) (fun i _ => 4 - (intOf i).toNat)
  case atStart => exact ⟨0, by omega, rfl, hide (fun j h => by omega), hc, hb⟩
  case round =>
    clear hc hb
    obtain ⟨k, hk, rfl, ha, hc, hw⟩ := hrel
    by_cases hlt : k < 4
    · obtain ⟨F, s, c0, c1, hs, E, C⟩ := hall.out k hlt
      obtain ⟨_, e0, m0⟩ := hc.out.at_ (i := k) (j := 0) hlt (by omega) c0
      cases e0
      obtain ⟨_, e1, m1⟩ := hc.out.at_ (i := k) (j := 1) hlt (by omega) c1
      cases e1
      rw [Nat.add_zero] at m0
      replace m1 : wr.cell? ⟨(ad.add (k * 2)).block, (ad.add (k * 2)).off + 1, none⟩ = some (.func (.func F) #[] #[]) := by rw [← addr_add] at m1; exact m1
      have hb1 := hide (bl_alloc hw.out (.cells #[.string s, .func (.func F) #[] #[]] 57))
      have hc1 := hide (hc.out.alloc (.cells #[.string s, .func (.func F) #[] #[]] 57))
      have bx := hide (Bx.new wr [.string s, .func (.func F) #[] #[]] 57)
      have CC := hide (C (wr.alloc (.cells #[.string s, .func (.func F) #[] #[]] 57)) (hr.below hb1.out))
      replace E := hide E
      clear C c0 c1 hc hw
      cases hk' : H k <;> rw [hk'] at CC
      · have hrf : r = false := by
          rw [hR.out]
          rcases (show k = 0 ∨ k = 1 ∨ k = 2 ∨ k = 3 by omega) with rfl | rfl | rfl | rfl
          all_goals rw [hk']
          all_goals simp
        subst hrf
        clear hk'
        go_wp2_with fail
        rw [E.out, Oper.upon_enter]
        refine CC.out.mono ?_
        rintro e w2 ⟨rfl, h2⟩
        have b0 := (bx.out.below h2).2.1 0 _ rfl
        have hb2 := hide (bel_next hb1.out h2)
        clear CC hb1 hc1 bx h2 m0 m1
        go_wp2
        go_ret
        exact ⟨s, rfl, hs, hb2.out⟩
      · have ha1 := hide (show ∀ j, j < k + 1 → H j = true from fun j hj => by
          rcases Nat.lt_succ_iff_lt_or_eq.1 hj with h | rfl
          · exact ha.out j h
          · exact hk')
        clear hk'
        go_wp2_with fail
        rw [E.out, Oper.upon_enter]
        refine CC.out.mono ?_
        rintro e w2 ⟨rfl, h2⟩
        have hb2 := hide (bel_next hb1.out h2)
        have hc2 := hide (hc1.out.below h2)
        clear CC hb1 hc1 bx h2 m0 m1
        go_wp2
        go_roundw
        case rel => exact ⟨k + 1, by omega, by go_num, ha1, hc2, hb2⟩
        case measure => simp [intOf]; omega
    · obtain rfl : k = 4 := by omega
      have hrt : r = true := by rw [hR.out, ha.out 0 (by omega), ha.out 1 (by omega), ha.out 2 (by omega), ha.out 3 (by omega)]; rfl
      subst hrt
      go_wp2
      go_ret
      exact ⟨⟨#[]⟩, rfl, by rw [ByteArray.toList_eq]; rfl, hw.out⟩
theorem Valid (A : Option Addr) (n c : Nat) (ts : List LP) (v : Int) (four : Bool) (w : World) (hv0 : 1 ≤ v) (hv1 : v ≤ 4) (hf : decide (v = 4) = four) (hn : n ≤ 100000) (hA : (A = none → n = 0 ∧ c = 0) ∧ n ≤ c) (hr : Rk 2 w A n (lcs ts)) (hok : ∀ t ∈ ts, lpOk t) :
    Calls Try.prog 15 #[.slice A n c, .int .i64 v] w fun e w' => e = .returned (.bool (vL ts four)) ∧ Below w.heap.size w w' := by
  have C := hide (broken A n c ts v four w hf hn hA.2 hr hok)
  generalize vL ts four = r at *
  clear hA hr hok hf hv0 hv1 hn
  go_enter Try.func15, Try.ntmps15
  go_wp2_with fail
  refine C.out.mono ?_
  rintro e w1 ⟨s, rfl, hs, h1⟩
  subst hs
  go_wp2
  go_ret
  exact ⟨rfl, h1⟩
theorem NeedsV4 (A : Option Addr) (n c : Nat) (ts : List LP) (w : World) (hn : n ≤ 100000) (hA : (A = none → n = 0 ∧ c = 0) ∧ n ≤ c) (hr : Rk 2 w A n (lcs ts)) (hok : ∀ t ∈ ts, lpOk t) :
    Calls Try.prog 17 #[.slice A n c] w fun e w' => e = .returned (.bool (!vL ts false && vL ts true)) ∧ Below w.heap.size w w' := by
  have C3 := hide (fun w h => Valid A n c ts 3 false w (by decide) (by decide) rfl hn hA h hok)
  have C4 := hide (fun w h => Valid A n c ts 4 true w (by decide) (by decide) rfl hn hA h hok)
  generalize vL ts false = a at *
  generalize vL ts true = b at *
  replace hr := hide hr
  clear hok hA
  cases a <;> cases b
  all_goals
    go_enter Try.func17, Try.ntmps17
    go_wp2_with (go_at_call 15; first | (with_reducible refine (C4.out _ hr.out).mono ?_; rintro e w1 ⟨rfl, h1⟩) | (refine (C3.out _ (hr.out.below h1)).mono ?_; rintro e w2 ⟨rfl, h2⟩))
    go_ret
    first
      | exact ⟨rfl, h1⟩
      | exact ⟨rfl, bel_next h1 h2⟩
end lp_
end Go.Proofs.Ytickchkcfaggfaa

/-
  CONTRACTS OF PACKAGE leaps for time sizes 4 and 8 and versions 1 to 4. Conditions: at most 100,000 bytes or records (Encode: 10,000); Correction and Expiry: a list that is valid for version 4.
-/
import Derived.Test.YtbajdlgcajeldaaGreatDoorLpB
import Derived.Test.YtbajdlgcajeldaaGreatDoorOwk
import Derived.Test.YtbajdlgcajeldaaGreatDoorOwM
import Derived.Test.YtbajdlgcajeldaaGreatDoorBe
import Derived.Test.YtbajdlgcajeldaaGreatDoorRef17
import Derived.Deep.RegionHeld3
import Derived.Deep.DeepCutAuto
import Derived.Deep.RegionLaw
import Derived.Laws.EntriesVeiled
namespace Go.Proofs.YtbajdlgcajeldaaGreatDoor
open Go.ChangeShapes Go.WideShapes Go.ChangeAt Go.RowKit
set_option linter.unusedVariables false
set_option maxRecDepth 100000
namespace lp_
theorem enters {P : Program} {f : FuncId} {fn : Func} (hf : P.funcs[f]? = some fn) (hname : (fn.name == "runtime.NumGoroutine") = false) (hb : fn.body.isSome = true) (args : Array Value) (w : World) : (callFunc f args).run P w = .ok (.enter f args) w := by
  have h1 : fn.name ≠ "runtime.NumGoroutine" := by simpa using hname
  obtain ⟨c, hc⟩ := Option.isSome_iff_exists.1 hb
  simp [callFunc, hf, h1, hc]
theorem recordSize (K : Int) (w : World) (h : K = 4 ∨ K = 8) : Calls Tryz.prog 67 #[.int .i64 K] w fun e w' => e = .returned (.tuple #[.int .i64 (K + 4), .bool true]) ∧ w = w' := by
  rcases h with rfl | rfl
  all_goals
    go_enter Tryz.func67, Tryz.ntmps67
    go_wp2
    go_ret2
    exact ⟨rfl, rfl⟩
set_option maxHeartbeats 2000000 in
theorem Decode (A : Option Addr) (n c m : Nat) (l : List Int) (k : Nat) (K : Int) (w : World) (hK : K = (k : Int)) (hk : k = 4 ∨ k = 8) (hn : n ≤ 100000) (hm : n = m * (k + 4)) (hA : A = none → n = 0 ∧ c = 0) (hc : n ≤ c) (hcm : c ≤ 9223372036854775807) (hr : Rd w A n (l.map (Value.int .u8))) (hl : Bytes l) :
    Calls Tryz.prog 60 #[.slice A n c, .int .i64 K] w fun e w' => ∃ A' c', e = .returned (.slice A' m c') ∧ Ok 2 w' w.heap.size 78 A' m c' (lcs (dLP k l m)) ∧ Below w.heap.size w w' := by
  subst hK
  have hlen : l.length = n := by have := hr.len; simpa using this
  obtain ⟨s, hs⟩ : ∃ s, s = k + 4 := ⟨_, rfl⟩
  rw [← hs] at hm
  have hk8 : k ≤ 8 := by omega
  have hk1 : 1 ≤ k := by omega
  have hsz : ((s : Int) == 0) = false := by simp; omega
  have hs1 : 1 ≤ s := by omega
  have hq : (n : Int).tdiv (s : Int) = (m : Int) := by
    rw [hm, Int.natCast_mul, Int.mul_tdiv_cancel _ (by omega)]
  have mn : m ≤ n := by rw [hm]; exact Nat.le_mul_of_pos_right m (by omega)
  have R := hide (fun w => recordSize (k : Int) w (by omega))
  rw [show (k : Int) + 4 = (s : Int) by omega] at R
  have I := hide (fun (q : Nat) (w : World) (h1 : (q : Int) + k ≤ n) (h2 : Rd w A n (l.map (Value.int .u8))) => be_.Int_yes A n c l q k w (by omega) (by omega) (by omega) h1 h2 hl)
  have I4 := hide (fun (q : Nat) (w : World) (h1 : (q : Int) + 4 ≤ n) (h2 : Rd w A n (l.map (Value.int .u8))) => be_.Int_yes A n c l q 4 w (by omega) (by omega) (by omega) h1 h2 hl)
  have HS := hide hs
  have HM := hide hm
  have HD := hide (fun (q : Nat) (h : q * (k + 4) + (k + 4) ≤ l.length) => dL_ok hk l hl q h)
  have HL := hide hlen
  clear hlen hl hk hm hs
  have im : IntKind.i64.wrap (m : Int) = (m : Int) := by rw [IntKind.wrap_i64]; omega
  go_enter Tryz.func60, Tryz.ntmps60
  go_wp2_with (first
    | (go_at_call 67; refine (R.out _).mono ?_; rintro e w' ⟨rfl, rfl⟩)
    | (refine mkO (α := LP) (s := 2) (by_ := 16) (n := m) lc (0, 0) lc_len (by decide) Tryz.underlying31 (.agg #[.int .i64 0, .int .i32 0]) (by kernel_rfl) rfl (Below.refl w.heap.size _) (Nat.le_refl _) (Nat.le_refl _) rfl (.tmp 23) (.tmp 23) rfl .i64 .i64 _ _ rfl rfl rfl rfl (by omega) (by simp [maxLen]; omega) ?_; intro w1 ho1 hb1))
  have h0 : (List.replicate m (0, 0)).flatMap lc = lcs (rowLP k l m 0) := by simp [rowLP, dLP, lcs]
  rw [h0] at ho1
  clear h0
  go_loopw [27] (fun i wr => ∃ (q : Nat), q ≤ m ∧ i = .int .i64 (q : Nat) ∧ Hid (Ok 2 wr w.heap.size 78 (some ⟨w.heap.size, 0, none⟩) m m (lcs (rowLP k l m q))) ∧ Hid (Below w.heap.size w wr)) (fun i _ => m - (intOf i).toNat)
  case atStart => exact ⟨0, by omega, rfl, hide ho1, hide hb1⟩
  case round =>
    clear ho1 hb1
    obtain ⟨q, hqm, rfl, ho, hw⟩ := hrel
    by_cases hlt : q < m
    · obtain ⟨P, hP⟩ : ∃ P : Nat, P = q * s := ⟨_, rfl⟩
      have hPn : P + s ≤ n := by
        have := Nat.mul_le_mul_right s (show q + 1 ≤ m by omega)
        rw [Nat.add_mul, Nat.one_mul, ← hP, ← HM.out] at this
        exact this
      obtain ⟨P2, hP2⟩ : ∃ P2 : Nat, P2 = P + k := ⟨_, rfl⟩
      have hPn2 : P2 + 4 ≤ n := by have := HS.out; omega
      have i1 : IntKind.i64.wrap ((q : Int) * (s : Int)) = (P : Int) := by rw [← Int.natCast_mul, ← hP, IntKind.wrap_i64]; omega
      have i2 : IntKind.i64.wrap ((P : Int) + (k : Int)) = (P2 : Int) := by rw [IntKind.wrap_i64]; omega
      have hd := (HD.out q (by rw [HL.out, ← HS.out, ← hP]; exact hPn)).1
      have hset := hide (rowLP_set k l hlt)
      have hat := hide (rowLP_at k l hlt)
      have hx := hide (show dL k l q = (sgn k (uval (fld l P k)), sgn 4 (uval (fld l P2 4))) by unfold dL; rw [← HS.out, ← hP, ← hP2])
      have C := hide (I.out P wr (by omega) (hr.below hw.out))
      have C4 := hide (I4.out P2 wr (by omega) (hr.below hw.out))
      rw [Int.toNat_natCast, Int.toNat_natCast] at C
      rw [Int.toNat_natCast, show (4 : Int).toNat = 4 from rfl] at C4
      rw [hx.out] at hd hset
      generalize sgn k (uval (fld l P k)) = x at *
      generalize sgn 4 (uval (fld l P2 4)) = y at *
      obtain ⟨_, _, y0, y1⟩ := hd
      dsimp only at y0 y1
      have hcv : ∀ w : World, (convert 2 21 (.int .i64 y)).run Tryz.prog w = .ok (.int .i32 y) w := fun w => by simp [go_sem]; rw [IntKind.wrap_i32]; omega
      obtain ⟨g0, g1⟩ := lcs_get hat.out
      have p0 := ho.out.cell (q * 2) (by omega)
      have p1 := ho.out.cell (q * 2 + 1) (by omega)
      rw [g0] at p0
      rw [g1] at p1
      have z0 := ho.out.frozen (q * 2)
      have z1 := ho.out.frozen (q * 2 + 1)
      have hst := (ho.out.set (q * 2) (.int .i64 x)).set (q * 2 + 1) (.int .i32 y)
      rw [lcs_put (x, y), hset.out] at hst
      have hbs := hide (bl_set (bl_set (g := w.heap.size) (o := q * 2) hw.out (Nat.le_refl _) (.int .i64 x)) (g := w.heap.size) (o := q * 2 + 1) (Nat.le_refl _) (.int .i32 y))
      replace hst := hide hst
      clear hP hP2 ho hw hset hat g0 g1 hx y0 y1
      go_wp2_with fail
      refine C.out.mono ?_
      rintro e w1 ⟨rfl, rfl⟩
      go_wp2_with fail
      refine C4.out.mono ?_
      rintro e w1 ⟨rfl, rfl⟩
      go_wp2
      go_roundw
      case rel => exact ⟨q + 1, by omega, by go_num, hst, hbs⟩
      case measure => simp [intOf]; omega
    · obtain rfl : q = m := by omega
      have e0 : rowLP k l q q = dLP k l q := by simp [rowLP]
      have := ho.out
      rw [e0] at this
      go_wp2
      go_ret
      exact ⟨_, _, rfl, this, hw.out⟩
set_option maxHeartbeats 2000000 in
theorem Encode (A : Option Addr) (n c m : Nat) (ts : List LP) (k : Nat) (K : Int) (w : World) (hK : K = (k : Int)) (hk : k = 4 ∨ k = 8) (hn : n ≤ 10000) (hm : m = n * (k + 4)) (hA : A = none → n = 0 ∧ c = 0) (hr : Rk 2 w A n (lcs ts)) (hok : ∀ t ∈ ts, lpOk t) :
    Calls Tryz.prog 47 #[.slice A n c, .int .i64 K] w fun e w' => ∃ A' c', e = .returned (.slice A' m c') ∧ Ow w' w.heap.size 5 A' m c' ((eLP k ts).map (Value.int .u8)) ∧ Below w.heap.size w w' := by
  subst hK
  have hl : ts.length = n := by have := hr.len; rw [lcs_len] at this; omega
  obtain ⟨s, hs⟩ : ∃ s, s = k + 4 := ⟨_, rfl⟩
  rw [← hs] at hm
  have hk8 : k ≤ 8 := by omega
  have hs12 : s ≤ 12 := by omega
  have R := hide (fun w => recordSize (k : Int) w (by omega))
  rw [show (k : Int) + 4 = (s : Int) by omega] at R
  have P := hide (fun v w h4 h5 => be_.Append none 0 0 [] k v w (by omega) (by omega) (Rd.none_ w) h4 h5)
  have P4 := hide (fun v w h4 h5 => be_.Append none 0 0 [] 4 v w (by omega) (by omega) (Rd.none_ w) h4 h5)
  have hmB : m ≤ 120000 := by rw [hm]; exact Nat.le_trans (Nat.mul_le_mul hn hs12) (by omega)
  have i0 : IntKind.i64.wrap ((n : Int) * (s : Int)) = (m : Int) := by rw [show (n : Int) * (s : Int) = (m : Int) by rw [hm, Int.natCast_mul], IntKind.wrap_i64]; omega
  have HM := hide hm
  have HS := hide hs
  have HL := hide hl
  have HO := hide hok
  clear hl hok hk hm hs
  go_enter Tryz.func47, Tryz.ntmps47
  go_wp2_with (first
    | (go_at_call 67; refine (R.out _).mono ?_; rintro e w' ⟨rfl, rfl⟩)
    | (refine mk (n := 0) (k := m) elU8 (Below.refl w.heap.size _) (Nat.le_refl _) (Nat.le_refl _) rfl (.const (.int .i64 0)) (.tmp 20) rfl .i64 .i64 _ _ rfl rfl rfl rfl (by omega) (by omega) (by simp [maxLen]; omega) ?_; intro w1 ho1 hb1))
  go_loopw [7, 24] (fun o i wr => ∃ (q Q : Nat) (A' : Option Addr) (c' : Nat), q ≤ n ∧ i = .int .i64 (q : Nat) ∧ Hid (Q = q * s) ∧ o = .slice A' Q c' ∧ Hid (Ow wr w.heap.size 5 A' Q c' ((eLP k (ts.take q)).map (Value.int .u8))) ∧ Hid (Below w.heap.size w wr)) (fun _ i _ => n - (intOf i).toNat)
  case atStart => exact ⟨0, 0, _, _, by omega, rfl, hide (by simp), rfl, hide ho1, hide hb1⟩
  case round =>
    clear ho1 hb1
    obtain ⟨q, Q, A', c', hq, rfl, hQ, rfl, ho, hw⟩ := hrel
    by_cases hlt : q < n
    · obtain ⟨ad, ⟨a, x⟩, rfl, ht, h0, h1⟩ := (hr.below hw.out).lp hlt
      obtain ⟨z0, z1, z2, z3⟩ := HO.out _ (List.mem_of_getElem? ht)
      dsimp only at h0 h1 z0 z1 z2 z3
      have hst := hide (eLP_step k ts q _ ht)
      have hu := u64_bd a
      have hv := u64_bd x
      have cv1 : ∀ w : World, (convert 2 56 (.int .i64 a)).run Tryz.prog w = .ok (.int .u64 (u64 a)) w := fun w => by simp [go_sem, u64, IntKind.wrap_u64]
      have cv2 : ∀ w : World, (convert 21 56 (.int .i32 x)).run Tryz.prog w = .ok (.int .u64 (u64 x)) w := fun w => by simp [go_sem, u64, IntKind.wrap_u64]
      have hQB : Q ≤ 120000 := by rw [hQ.out]; exact Nat.le_trans (Nat.mul_le_mul (Nat.le_of_lt hlt) (Nat.le_refl s)) (Nat.le_trans (Nat.mul_le_mul hn hs12) (by omega))
      have hQ2 := hide (show Q + k + 4 = (q + 1) * s by rw [Nat.add_mul, Nat.one_mul, ← hQ.out]; have := HS.out; omega)
      have C := hide (P.out (u64 a) (wr.alloc (.cells #[.int .i64 a, .int .i32 x] 78)) hu.1 hu.2)
      have bx := hide (Bx.new wr [.int .i64 a, .int .i32 x] 78)
      have ho2 := hide (ho.out.alloc (.cells #[.int .i64 a, .int .i32 x] 78))
      have hw2 := hide (bl_alloc hw.out (.cells #[.int .i64 a, .int .i32 x] 78))
      have hdj := hide (show oB A' ≠ some wr.heap.size from fun h => by have := (ho.out.blk h).2; omega)
      clear ht hu ho hw hQ z0 z1 z2 z3
      go_wp2_with fail
      refine C.out.mono ?_
      rintro e w1 ⟨A2, c2, rfl, o2, h2'⟩
      rw [Int.toNat_natCast, Nat.zero_add] at o2 ⊢
      rw [List.nil_append] at o2
      replace bx := hide (bx.out.below h2')
      have ho3 := hide (ho2.out.below h2')
      have hw3 := hide (bel_next hw2.out h2')
      have hr2 := hide o2.rd
      have hn2 := hide o2.nilcap
      have h1c := hide (oneCells .u8 (be k (u64 a)))
      clear o2 h2' ho2 hw2 C h0 h1
      go_upto_region 9 with (at_builtin; refine apA elU8 ho3.out hw3.out (Nat.le_refl _) hr2.out (.tmp 28) (.tmp 33) rfl rfl rfl rfl hn2.out h1c.out (by simp [maxLen]; omega) (by omega) ?_; intro A3 c3 w3 ho4 hb4 hg4; replace ho4 := hide ho4; replace hb4 := hide hb4)
      replace bx := hide (hg4.bx bx.out hdj.out)
      clear ho3 hw3 hr2 hn2 h1c hdj hg4
      rw [← List.map_append] at ho4
      have b1 := bx.out.2.1 1 _ rfl
      have C4 := hide (P4.out (u64 x) w3 hv.1 hv.2)
      clear hv
      go_wp2_with fail
      refine C4.out.mono ?_
      rintro e w5 ⟨A5, c5, rfl, o5, h5⟩
      rw [show (4 : Int).toNat = 4 from rfl, Nat.zero_add] at o5 ⊢
      rw [List.nil_append] at o5
      have ho6 := ho4.out.below h5
      have hw6 := bel_next hb4.out h5
      have hr6 := o5.rd
      have hn6 := o5.nilcap
      have h1d := hide (oneCells .u8 (be 4 (u64 x)))
      clear o5 h5 ho4 hb4 C4 bx b1
      go_wp2_with (at_builtin; refine apA elU8 ho6 hw6 (Nat.le_refl _) hr6 (.tmp 35) (.tmp 39) rfl rfl rfl rfl hn6 h1d.out (by simp [maxLen]; omega) (by omega) ?_; intro A7 c7 w7 ho7 hb7 hg7)
      rw [← List.map_append, ← hst.out] at ho7
      replace ho7 := hide ho7
      replace hb7 := hide hb7
      clear hg7 ho6 hw6 hr6 hn6
      go_roundw
      case rel => exact ⟨q + 1, Q + k + 4, A7, c7, by omega, by go_num, hQ2, rfl, ho7, hb7⟩
      case measure => simp [intOf]; omega
    · obtain rfl : q = n := by omega
      go_wp2
      go_ret
      have := ho.out
      rw [List.take_of_length_le (by rw [HL.out]; omega)] at this
      rw [HM.out, ← hQ.out]
      exact ⟨_, _, rfl, this, hw.out⟩
end lp_
end Go.Proofs.YtbajdlgcajeldaaGreatDoor

/-
  CONTRACTS of zoneinforef12 (the reference of layer 12): Build. Conditions: at most 1000 names of at most 1000 bytes, in a slice that can be read.
-/
import Derived.Test.YtahldefkhhbdhaaRef12p
import Derived.Test.YtahldefkhhbdhaaDsMath2
import Derived.Test.YtahldefkhhbdhaaBase2
import Derived.Deep.RegionHeld3
import Derived.Deep.DeepCutAuto
namespace Go.Proofs.Ytahldefkhhbdhaa
open Go.ChangeShapes Go.WideShapes Go.ChangeAt Go.RowKit
set_option linter.unusedVariables false
abbrev ints (xs : List Int) : List Value := xs.map (Value.int .i64)
theorem elU8_ : ElT Try.prog 22 5 (.int .u8 0) 1 := ⟨Try.underlying22, by kernel_rfl, rfl⟩
theorem elInt_ : ElT Try.prog 30 3 (.int .i64 0) 8 := ⟨Try.underlying30, by kernel_rfl, rfl⟩
theorem bys_snoc (xs : List Int) (x : Int) : bys xs ++ [.int .u8 x] = bys (xs ++ [x]) := by simp
theorem ints_snoc (xs : List Int) (x : Int) : ints xs ++ [.int .i64 x] = ints (xs ++ [x]) := by simp
def atV (o : Option Int) : Int := match o with | some y => y | none => -1
theorem ow_i {w : World} {b n c : Nat} {e : TypeId} {A : Option Addr} {xs : List Int} (h : Ow w b e A n c (ints xs)) {i : Nat} (hi : i < n) : ∃ g x, A = some ⟨g, 0, none⟩ ∧ xs[i]? = some x ∧ w.cell? ⟨g, i, none⟩ = some (.int .i64 x) := by
  have hl := h.len
  simp at hl
  obtain ⟨g, rfl, _, _⟩ := h.form (by omega)
  have hx : xs[i]? = some (xs[i]'(by omega)) := List.getElem?_eq_getElem (by omega)
  exact ⟨g, _, rfl, hx, by rw [h.cell i hi, List.getElem?_map, hx]; rfl⟩
namespace r12_
set_option maxRecDepth 100000 in
set_option maxHeartbeats 8000000 in
theorem Build (A : Option Addr) (n c : Nat) (ss : List ByteArray) (w : World) (hr : Rd w A n (strs ss)) (hn : n ≤ 1000) (hsz : ∀ s ∈ ss, s.size ≤ 1000) :
    Calls Try.prog 17 #[.slice A n c] w fun e w' => ∃ (A1 : Option Addr) (n1 c1 : Nat) (A2 : Option Addr) (n2 c2 : Nat), e = .returned (.tuple #[.slice A1 n1 c1, .slice A2 n2 c2]) ∧ Ow w' w.heap.size 5 A1 n1 c1 (bys (bldT ss)) ∧ Ow w' w.heap.size 3 A2 n2 c2 (ints (bldX ss)) ∧ Dj A1 A2 ∧ Below w.heap.size w w' := by
  have hlen : ss.length = n := by have := hr.len; simpa using this
  have hR := hide hr
  have hZ := hide hsz
  have hl' := hide hlen
  have BT := hide (fun i (h : i ≤ n) => bld_take ss i (by omega))
  clear hr hsz hlen
  go_enter Try.func17, Try.ntmps17
  go_wp2_with fail
  go_loopw [4, 5, 6] (fun tv xv iv wr => ∃ (i : Nat) (A1 : Option Addr) (n1 c1 : Nat) (A2 : Option Addr) (c2 : Nat), tv = .slice A1 n1 c1 ∧ xv = .slice A2 i c2 ∧ iv = .int .i64 i ∧ i ≤ n ∧ n1 ≤ 1001 * i ∧ Ow wr w.heap.size 5 A1 n1 c1 (bys (bld (ss.take i)).2.1) ∧ Ow wr w.heap.size 3 A2 i c2 (ints (bld (ss.take i)).2.2) ∧ Dj A1 A2 ∧ Below w.heap.size w wr) (fun _ _ iv _ => n + 1 - (intOf iv).toNat)
  case atStart => exact ⟨0, none, 0, 0, none, 0, rfl, rfl, rfl, Nat.zero_le _, by omega, Ow.nil (Nat.le_refl _) _, Ow.nil (Nat.le_refl _) _, Dj.none_ _, bl_refl _⟩
  case round =>
    obtain ⟨i, A1, n1, c1, A2, c2, rfl, rfl, rfl, hi, hn1, hO1, hO2, hD, hb⟩ := hrel
    obtain ⟨hs1, hs2, hs3⟩ := BT.out i hi
    obtain ⟨T, hT⟩ : ∃ T, (bld (ss.take i)).2.1 = T := ⟨_, rfl⟩
    obtain ⟨X, hX⟩ : ∃ X, (bld (ss.take i)).2.2 = X := ⟨_, rfl⟩
    rw [hT] at hO1
    rw [hX] at hO2 hs2 hs3
    replace hO1 := hide hO1
    replace hO2 := hide hO2
    replace hD := hide hD
    replace hb := hide hb
    by_cases hlt : i < n
    · have dl : decide ((i : Int) < (n : Int)) = true := by simpa using hlt
      have dl2 : (i : Int) < (n : Int) := by omega
      obtain ⟨ad, s, rfl, hx, _⟩ := rs_at (hR.out.below hb.out) hlt
      have hss := hZ.out s (List.mem_of_getElem? hx)
      have hstep := hide (show bld (ss.take (i + 1)) = match firstAt (ss.take i) X s with | some y => (ss.take i ++ [s], T, X ++ [y]) | none => (ss.take i ++ [s], T ++ (bIx s ++ [0]), X ++ [(T.length : Int)]) by
        rw [take_snoc hx, bld_snoc]
        unfold bstep
        rw [hs1, hX, hT]
        cases firstAt (ss.take i) X s <;> rfl)
      have hXl : X.length = i := by rw [hs2, List.length_take]; have := hl'.out; omega
      have hTl : T.length = n1 := by have := hO1.out.len; simpa using this
      clear hs1 hs2 hT hX
      replace hx := hide hx
      replace hs3 := hide hs3
      replace hXl := hide hXl
      replace hTl := hide hTl
      go_wp2_with fail
      go_loopw [7, 8] (fun av kv wr => ∃ k : Nat, k ≤ i ∧ kv = .int .i64 k ∧ av = .int .i64 (atV (firstAt (ss.take k) (X.take k) s)) ∧ Ow wr w.heap.size 5 A1 n1 c1 (bys T) ∧ Ow wr w.heap.size 3 A2 i c2 (ints X) ∧ Below w.heap.size w wr) (fun _ kv _ => n + 1 - (intOf kv).toNat)
      case atStart => exact ⟨0, Nat.zero_le _, rfl, by simp [firstAt, atV], hO1.out, hO2.out, hb.out⟩
      case round =>
        clear hO1 hO2 hb
        obtain ⟨k, hk, rfl, rfl, hO1, hO2, hb⟩ := hrel
        replace hO1 := hide hO1
        replace hO2 := hide hO2
        replace hb := hide hb
        by_cases hki : k < i
        · have dk : decide ((k : Int) < (i : Int)) = true := by simpa using hki
          have dk2 : (k : Int) < (i : Int) := by omega
          have dk3 : (k : Int) < (n : Int) := by omega
          have hRw := hR.out.below hb.out
          obtain ⟨_, s', e', hx', hc'⟩ := rs_at hRw (show k < n by omega)
          cases e'
          obtain ⟨_, s'', e', hx'', hc⟩ := rs_at hRw hlt
          cases e'
          have : s'' = s := by have := hx.out; rw [this] at hx''; cases hx''; rfl
          subst this
          obtain ⟨g, y, rfl, hy, hcy⟩ := ow_i hO2.out hki
          have hy0 : 0 ≤ y := hs3.out y (List.mem_of_getElem? hy)
          have hsn : firstAt (ss.take (k + 1)) (X.take (k + 1)) s'' = match firstAt (ss.take k) (X.take k) s'' with | some z => some z | none => if s' = s'' then some y else none := by
            rw [take_snoc hx', show X.take (k + 1) = X.take k ++ [y] by rw [List.take_add_one, hy]; rfl, firstAt_snoc (by have := hXl.out; have := hl'.out; simp; omega)]
            cases firstAt (ss.take k) (X.take k) s'' <;> rfl
          replace hsn := hide hsn
          have hpos := hide (show ∀ z, firstAt (ss.take k) (X.take k) s'' = some z → 0 ≤ z from fun z hz => by
            obtain ⟨j, _, hj⟩ := firstAt_mem hz
            exact hs3.out z (List.mem_of_mem_take (List.mem_of_getElem? hj)))
          clear hRw hx' hx'' hy
          generalize firstAt (ss.take k) (X.take k) s'' = fo at *
          rcases (show (∃ z, fo = some z) ∨ fo = none by cases fo <;> simp) with ⟨z, rfl⟩ | rfl
          · have hz : 0 ≤ z := hpos.out z rfl
            simp only [atV] at hsn ⊢
            have dz : decide (z < 0) = false := by simp; omega
            by_cases he : s' = s''
            · have q : (s'.toList == s''.toList) = true := seq_eq he
              go_upto_region 10 with fail
              go_quiet (fail)
              go_wp2_with fail
              go_roundw
              case rel => exact ⟨k + 1, by omega, by go_num, by rw [hsn.out], hO1.out, hO2.out, bel_drewN hb.out _⟩
              case measure => simp [intOf]; omega
            · have q : (s'.toList == s''.toList) = false := seq_ne he
              go_upto_region 10 with fail
              go_quiet (fail)
              go_wp2_with fail
              go_roundw
              case rel => exact ⟨k + 1, by omega, by go_num, by rw [hsn.out], hO1.out, hO2.out, bel_drewN hb.out _⟩
              case measure => simp [intOf]; omega
          · simp only [atV] at hsn ⊢
            by_cases he : s' = s''
            · have q : (s'.toList == s''.toList) = true := seq_eq he
              simp only [if_pos he] at hsn
              go_upto_region 10 with fail
              go_quiet (fail)
              go_wp2_with fail
              go_roundw
              case rel => exact ⟨k + 1, by omega, by go_num, by rw [hsn.out], hO1.out, hO2.out, bel_drewN hb.out _⟩
              case measure => simp [intOf]; omega
            · have q : (s'.toList == s''.toList) = false := seq_ne he
              simp only [if_neg he] at hsn
              go_upto_region 10 with fail
              go_quiet (fail)
              go_wp2_with fail
              go_roundw
              case rel => exact ⟨k + 1, by omega, by go_num, by rw [hsn.out], hO1.out, hO2.out, bel_drewN hb.out _⟩
              case measure => simp [intOf]; omega
        · obtain rfl : k = i := by omega
          have dk : decide ((k : Int) < (k : Int)) = false := by simp
          have hXt : X.take k = X := List.take_of_length_le (by have := hXl.out; omega)
          rw [hXt]
          clear hXt
          have hpos := hide (show ∀ z, firstAt (ss.take k) X s = some z → 0 ≤ z from fun z hz => by
            obtain ⟨j, _, hj⟩ := firstAt_mem hz
            exact hs3.out z (List.mem_of_getElem? hj))
          generalize firstAt (ss.take k) X s = fo at *
          rcases (show (∃ z, fo = some z) ∨ fo = none by cases fo <;> simp) with ⟨z, rfl⟩ | rfl
          · have hz : 0 ≤ z := hpos.out z rfl
            simp only [atV] at hstep ⊢
            have dz : decide (z < 0) = false := by simp; omega
            go_wp2_with (at_builtin; refine ap1A elInt_ hO2.out hb.out (Nat.le_refl _) (.tmp 63) (.tmp 65) (.int .i64 z) rfl rfl rfl rfl rfl (by simp [maxLen]; omega) (by omega) ?_; intro A' c' w6 hO2' hb6 hg6)
            rw [ints_snoc] at hO2'
            go_roundw
            case rel => exact ⟨k + 1, A1, n1, c1, A', c', rfl, by go_num, by go_num, by omega, by omega, by rw [hstep.out]; exact hg6.ow (hO1.out.alloc _) hD.out, by rw [hstep.out]; exact hO2', hg6.dj (hO1.out.alloc _) hD.out, hb6⟩
            case measure => simp [intOf]; omega
          · simp only [atV] at hstep ⊢
            go_wp2_with fail
            go_loopw [4, 9] (fun tv kv wr => ∃ (m : Nat) (B1 : Option Addr) (d1 : Nat), tv = .slice B1 (n1 + m) d1 ∧ kv = .int .i64 m ∧ m ≤ s.size ∧ Ow wr w.heap.size 5 B1 (n1 + m) d1 (bys (T ++ (bIx s).take m)) ∧ Ow wr w.heap.size 3 A2 k c2 (ints X) ∧ Dj A2 B1 ∧ Below w.heap.size w wr) (fun _ kv _ => s.size + 1 - (intOf kv).toNat)
            case atStart => exact ⟨0, A1, c1, rfl, rfl, Nat.zero_le _, by simpa using hO1.out, hO2.out, hD.out.symm, hb.out⟩
            case round =>
              clear hO1 hO2 hb
              obtain ⟨m, B1, d1, rfl, rfl, hm, hO1, hO2, hDD, hb⟩ := hrel
              replace hO1 := hide hO1
              replace hO2 := hide hO2
              replace hDD := hide hDD
              replace hb := hide hb
              obtain ⟨_, s'', e', hx'', hc⟩ := rs_at (hR.out.below hb.out) hlt
              cases e'
              have : s'' = s := by have := hx.out; rw [this] at hx''; cases hx''; rfl
              subst this
              clear hx''
              by_cases hms : m < s''.size
              · have dm : decide ((m : Int) < (s''.size : Int)) = true := by simpa using hms
                have dm2 : (m : Int) < (s''.size : Int) := by omega
                have hby := hide (bIx_get s'' m hms)
                obtain ⟨v, hv⟩ : ∃ v : Int, (s''[m].toNat : Int) = v := ⟨_, rfl⟩
                rw [hv] at hby
                go_wp2_with (at_builtin; refine ap1A elU8_ hO1.out hb.out (Nat.le_refl _) (.tmp 51) (.tmp 58) (.int .u8 v) rfl rfl rfl rfl rfl (by simp [maxLen]; omega) (by omega) ?_; intro A' c' w6 hO1' hb6 hg6)
                rw [bys_snoc] at hO1'
                go_roundw
                case rel => exact ⟨m + 1, A', c', rfl, by go_num, by omega, by rw [show T ++ (bIx s'').take (m + 1) = T ++ (bIx s'').take m ++ [v] by rw [List.take_add_one, hby.out]; simp]; exact hO1', hg6.ow (hO2.out.alloc _) hDD.out, hg6.dj (hO2.out.alloc _) hDD.out, hb6⟩
                case measure => simp [intOf]; omega
              · obtain rfl : m = s''.size := by omega
                have dm : decide ((s''.size : Int) < (s''.size : Int)) = false := by simp
                have hfull : (bIx s'').take s''.size = bIx s'' := List.take_of_length_le (by rw [bIx_len]; exact Nat.le_refl _)
                rw [hfull] at hO1
                clear hfull
                go_wp2_with (first
                  | (at_builtin; refine ap1A elU8_ hO1.out hb.out (Nat.le_refl _) (.tmp 60) (.tmp 61) (.int .u8 0) rfl rfl rfl rfl rfl (by simp [maxLen]; omega) (by omega) ?_; intro A' c' w6 hO1' hb6 hg6; rw [bys_snoc] at hO1'; have hD6 := hg6.dj (hO2.out.alloc _) hDD.out; have hO26 := hg6.ow (hO2.out.alloc _) hDD.out; replace hO1' := hide hO1'; replace hb6 := hide hb6; replace hD6 := hide hD6; replace hO26 := hide hO26; clear hg6)
                  | (at_builtin; refine ap1A elInt_ hO26.out hb6.out (Nat.le_refl _) (.tmp 63) (.tmp 65) (.int .i64 (n1 : Int)) rfl rfl rfl rfl rfl (by simp [maxLen]; omega) (by omega) ?_; intro A2' c2' w7 hO2' hb7 hg7))
                rw [ints_snoc] at hO2'
                go_roundw
                case rel => exact ⟨k + 1, A', _, c', A2', c2', rfl, by go_num, by go_num, by omega, by omega, by rw [hstep.out]; rw [show T ++ (bIx s'' ++ [0]) = T ++ bIx s'' ++ [0] by simp]; exact hg7.ow (hO1'.out.alloc _) hD6.out.symm, by rw [hstep.out]; rw [show ((T.length : Nat) : Int) = (n1 : Int) by rw [hTl.out]]; exact hO2', hg7.dj (hO1'.out.alloc _) hD6.out.symm, hb7⟩
                case measure => simp [intOf]; omega
    · obtain rfl : i = n := by omega
      have dl : decide ((i : Int) < (i : Int)) = false := by simp
      have hts : ss.take i = ss := List.take_of_length_le (by have := hl'.out; omega)
      rw [hts] at hT hX
      have hTl : T.length = n1 := by have := hO1.out.len; simpa using this
      have hx2 := hide (show bldX ss = X from hX)
      have hT' := hide hT
      clear hs1 hs2 hs3 hT hX hts
      by_cases h0 : n1 = 0
      · subst h0
        have hT0 : T = [] := List.eq_nil_of_length_eq_zero hTl
        have hbt := hide (show bldT ss = [0] by unfold bldT; rw [hT'.out, hT0]; rfl)
        subst hT0
        clear hTl
        go_wp2_with (at_builtin; refine ap1A elU8_ hO1.out hb.out (Nat.le_refl _) (.tmp 70) (.tmp 71) (.int .u8 0) rfl rfl rfl rfl rfl (by simp [maxLen]) (by omega) ?_; intro A' c' w6 hO1' hb6 hg6)
        go_ret2
        exact ⟨A', _, c', A2, _, c2, rfl, by rw [hbt.out]; exact hO1', by rw [hx2.out]; exact hg6.ow (hO2.out.alloc _) hD.out.symm, (hg6.dj (hO2.out.alloc _) hD.out.symm).symm, hb6⟩
      · have hbt := hide (show bldT ss = T by unfold bldT; rw [hT'.out, if_neg (by intro e; rw [e] at hTl; simp at hTl; omega)])
        have d0 : ((n1 : Int) == 0) = false := by simp; omega
        clear hTl
        go_wp2_with fail
        go_ret2
        exact ⟨A1, _, c1, A2, _, c2, rfl, by rw [hbt.out]; exact hO1.out, by rw [hx2.out]; exact hO2.out, hD.out, hb.out⟩
end r12_
end Go.Proofs.Ytahldefkhhbdhaa

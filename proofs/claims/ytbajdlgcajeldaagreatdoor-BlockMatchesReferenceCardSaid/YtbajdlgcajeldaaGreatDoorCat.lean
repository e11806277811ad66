/-
  CONTRACTS OF slices.Grow (of a slice that is nil) and slices.Concat, at bytes. Conditions: at most 1,000,000 bytes in all.
-/
import Derived.Test.YtbajdlgcajeldaaGreatDoorApz
import Derived.Test.YtbajdlgcajeldaaGreatDoorRows
import Derived.Test.YtbajdlgcajeldaaGreatDoorBlW
import Derived.Test.YtbajdlgcajeldaaGreatDoorBase2
namespace Go.Proofs.YtbajdlgcajeldaaGreatDoor
open Go.ChangeShapes Go.WideShapes Go.ChangeAt Go.RowKit
set_option linter.unusedVariables false
set_option maxRecDepth 100000
/-- a slice as a value. -/
def slvC (s : Sl) : Value := .slice s.A s.n s.c
theorem ow_zero {w : World} {b : Nat} {e : TypeId} {A : Option Addr} {n c : Nat} {xs : List Value} (h : Ow w b e A n c xs) : Ow w b e A 0 c [] := by
  refine ⟨h.1, by simp, ?_⟩
  rcases h.2.2 with ⟨h0, _⟩ | ⟨g, cap, cur, h1, h2, h3, h4, h5, h6, h7⟩
  · cases h0
    exact .inl ⟨rfl, rfl⟩
  · cases h1
    exact .inr ⟨g, c, cur, rfl, h2, h3, Nat.zero_le _, h5, h6, by simp⟩
/-- parts that can be read, one after another. -/
def RdP (w : World) (Ss : List Sl) (Ls : List (List Int)) : Prop := ∀ (j : Nat) (s : Sl), Ss[j]? = some s → ∃ l, Ls[j]? = some l ∧ Rd w s.A s.n (l.map (Value.int .u8)) ∧ (s.A = none → s.n = 0 ∧ s.c = 0)
theorem RdP.below {w w' : World} {Ss : List Sl} {Ls : List (List Int)} (h : RdP w Ss Ls) (hb : Below w.heap.size w w') : RdP w' Ss Ls := fun j s hj => by
  obtain ⟨l, h1, h2, h3⟩ := h j s hj
  exact ⟨l, h1, h2.below hb, h3⟩
theorem flat_take {Ls : List (List Int)} {k : Nat} {l : List Int} (h : Ls[k]? = some l) : (Ls.take (k + 1)).flatten = (Ls.take k).flatten ++ l := by
  rw [List.take_add_one, h]
  simp
theorem flat_le (Ls : List (List Int)) (k : Nat) : (Ls.take k).flatten.length ≤ Ls.flatten.length := by
  conv => rhs; rw [← List.take_append_drop k Ls]
  rw [List.flatten_append, List.length_append]
  omega
theorem elU8c : ElT Tryz.prog 22 5 (.int .u8 0) 1 := ⟨Tryz.underlying22, by kernel_rfl, rfl⟩
namespace sl_
set_option maxHeartbeats 1000000 in
theorem Grow (n : Nat) (w : World) (hn : n ≤ 1000000) :
    Calls Tryz.prog 63 #[.slice none 0 0, .int .i64 (n : Int)] w fun e w' => ∃ A' c', e = .returned (.slice A' 0 c') ∧ Ow w' w.heap.size 5 A' 0 c' [] ∧ Below w.heap.size w w' := by
  rcases Nat.eq_zero_or_pos n with rfl | h0
  · go_enter Tryz.func63, Tryz.ntmps63
    go_wp2
    go_ret
    exact ⟨none, 0, rfl, Ow.nil (Nat.le_refl _) _, bl_refl _⟩
  · have h1 : decide ((0 : Int) < (n : Int)) = true := by simp; omega
    have h2 : (0 : Int) < (n : Int) := by omega
    have ho := hide (Ow.nil (w := w) (b := w.heap.size) (Nat.le_refl _) 5)
    have hb := hide (bl_refl w)
    go_enter Tryz.func63, Tryz.ntmps63
    go_wp2_with (at_builtin; refine apZ elU8c (kn := .i64) Tryz.underlying3 rfl ho.out hb.out (Nat.le_refl _) (.tmp 20) (.tmp 21) .i64 n rfl rfl rfl rfl h0 (by simp [maxLen]; omega) (by omega) ?_; intro A2 c2 w3 ho3 hb3 _)
    go_ret
    exact ⟨A2, c2, by simp, ow_zero ho3, hb3⟩
set_option maxHeartbeats 2000000 in
theorem Concat (A : Option Addr) (m c N : Nat) (Ss : List Sl) (Ls : List (List Int)) (w : World) (hr : Rd w A m (Ss.map slvC)) (hl : Ls.length = m) (hp : RdP w Ss Ls) (hN : N = Ls.flatten.length) (hm : N ≤ 1000000) (hmm : m ≤ 1000000) :
    Calls Tryz.prog 44 #[.slice A m c] w fun e w' => ∃ A' c', e = .returned (.slice A' N c') ∧ Ow w' w.heap.size 5 A' N c' (Ls.flatten.map (Value.int .u8)) ∧ Below w.heap.size w w' := by
  have hs : Ss.length = m := by have := hr.len; simpa using this
  have HL := hide hl
  have HN := hide hN
  have HP := hide hp
  have G := hide (fun w => Grow N w hm)
  clear hl hp hN
  go_enter Tryz.func44, Tryz.ntmps44
  go_wp2
  go_loopw [3, 11] (fun z i wr => ∃ k q : Nat, k ≤ m ∧ i = .int .i64 (k : Nat) ∧ z = .int .i64 (q : Nat) ∧ Hid (q = (Ls.take k).flatten.length) ∧ Hid (Below w.heap.size w wr)) (fun _ i _ => m - (intOf i).toNat)
  case atStart => exact ⟨0, 0, by omega, rfl, rfl, hide rfl, hide (bl_refl w)⟩
  case round =>
    obtain ⟨k, q, hk, rfl, rfl, hq, hw⟩ := hrel
    by_cases hlt : k < m
    · obtain ⟨ad, v, rfl, hv, f0⟩ := (hr.below hw.out).at_ hlt
      rw [List.getElem?_map] at hv
      obtain ⟨s, hs', rfl⟩ := Option.map_eq_some_iff.1 hv
      obtain ⟨l, hl, hrl, _⟩ := HP.out k s hs'
      have hln : l.length = s.n := by have := hrl.len; simpa using this
      have hq1 := hide (show q + s.n = (Ls.take (k + 1)).flatten.length by rw [flat_take hl, List.length_append, hq.out, hln])
      have hle : q + s.n ≤ 1000000 := by
        have := flat_le Ls (k + 1)
        have h1 := hq1.out
        have h2 := HN.out
        omega
      obtain ⟨As, ns, cs⟩ := s
      unfold slvC at f0
      dsimp only at f0 hq1 hle
      clear hv hs' hl hrl hln hq
      go_wp2
      go_roundw
      case rel => exact ⟨k + 1, q + ns, by omega, by go_num, by go_num, hq1, hw⟩
      case measure => simp [intOf]; omega
    · obtain rfl : k = m := by omega
      have hqN : q = N := by rw [HN.out, hq.out, List.take_of_length_le (by rw [HL.out]; exact Nat.le_refl _)]
      subst hqN
      go_wp2_with fail
      refine (G.out _).mono ?_
      rintro e w2 ⟨A2, c2, rfl, o2, h2⟩
      have hw2 := hide (bel_next hw.out h2)
      have ho2 := hide (o2.mono hw.out.size)
      clear hw hq o2 h2 G
      go_wp2
      go_loopw [6, 27] (fun z i wr => ∃ (k' q' : Nat) (A' : Option Addr) (c' : Nat), k' ≤ k ∧ i = .int .i64 (k' : Nat) ∧ z = .slice A' q' c' ∧ Hid (q' = (Ls.take k').flatten.length) ∧ Hid (Ow wr w.heap.size 5 A' q' c' ((Ls.take k').flatten.map (Value.int .u8))) ∧ Hid (Below w.heap.size w wr)) (fun _ i _ => k - (intOf i).toNat)
      case atStart => exact ⟨0, 0, A2, c2, by omega, rfl, rfl, hide rfl, ho2, hw2⟩
      case round =>
        clear hw2 ho2
        obtain ⟨k', q', A', c', hk', rfl, rfl, hq, ho, hw⟩ := hrel
        by_cases hlt : k' < k
        · obtain ⟨ad, v, rfl, hv, f0⟩ := (hr.below hw.out).at_ hlt
          rw [List.getElem?_map] at hv
          obtain ⟨s, hs', rfl⟩ := Option.map_eq_some_iff.1 hv
          obtain ⟨l, hl, hrl, hnil⟩ := (HP.out.below hw.out) k' s hs'
          have hln : l.length = s.n := by have := hrl.len; simpa using this
          have hft := flat_take hl
          have hq1 := hide (show q' + s.n = (Ls.take (k' + 1)).flatten.length by rw [hft, List.length_append, hq.out, hln])
          have hle : q' + s.n ≤ 1000000 := by
            have := flat_le Ls (k' + 1)
            have h1 := hq1.out
            have h2 := HN.out
            omega
          have hft' := hide (show (Ls.take (k' + 1)).flatten.map (Value.int .u8) = (Ls.take k').flatten.map (Value.int .u8) ++ l.map (Value.int .u8) by rw [hft, List.map_append])
          have h1c := hide (oneCells .u8 l)
          obtain ⟨As, ns, cs⟩ := s
          unfold slvC at f0
          dsimp only at f0 hq1 hle hrl hnil
          have hrl := hide hrl
          have hnil := hide hnil
          clear hv hs' hl hln hq hft
          go_wp2_with (at_builtin; refine apn elU8c ho.out hw.out (Nat.le_refl _) hrl.out (.tmp 31) (.tmp 32) rfl rfl rfl rfl hnil.out h1c.out (by simp [maxLen]; omega) (by omega) ?_; intro A3 c3 w3 ho3 hb3; replace ho3 := hide ho3; replace hb3 := hide hb3)
          go_roundw
          case rel => exact ⟨k' + 1, q' + ns, A3, c3, by omega, by go_num, rfl, hq1, hide (by rw [hft'.out]; exact ho3.out), hb3⟩
          case measure => simp [intOf]; omega
        · obtain rfl : k' = k := by omega
          have hts : Ls.take k' = Ls := List.take_of_length_le (by rw [HL.out]; exact Nat.le_refl _)
          rw [hts] at ho hq
          have hqN : q' = q := by rw [HN.out, hq.out]
          subst hqN
          go_wp2
          go_ret
          exact ⟨_, _, rfl, ho.out, hw.out⟩
end sl_
end Go.Proofs.YtbajdlgcajeldaaGreatDoor

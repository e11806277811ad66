/-
  CONTRACTS of zoneinforef12 (the reference of layer 12): Plain. Conditions: a slice of strings that can be read.
-/
import Derived.Test.YtahldefkhhbdhaaRef12
namespace Go.Proofs.Ytahldefkhhbdhaa
open Go.ChangeShapes Go.WideShapes Go.ChangeAt Go.RowKit
set_option linter.unusedVariables false
abbrev strs (ss : List ByteArray) : List Value := ss.map Value.string
theorem rs_at {w : World} {A : Option Addr} {n : Nat} {ss : List ByteArray} (h : Rd w A n (strs ss)) {i : Nat} (hi : i < n) : ∃ ad x, A = some ad ∧ ss[i]? = some x ∧ w.cell? (ad.add i) = some (.string x) := by
  obtain ⟨ad, v, h1, h2, h3⟩ := h.at_ hi
  rw [List.getElem?_map] at h2
  cases hx : ss[i]? with
  | none => rw [hx] at h2; simp at h2
  | some x => rw [hx] at h2; simp at h2; subst h2; exact ⟨ad, x, h1, rfl, h3⟩
def dsB (c : UInt8) : Bool := dsA c.toNat
/-- a short name of allowed bytes. -/
def okN (s : ByteArray) : Bool := decide (s.size ≤ 300) && (byt s).all dsB
def plainL (ss : List ByteArray) : Bool := ss.all okN && decide (ss.length ≤ 60)
theorem tws_facts (p : ByteArray → Bool) (xs : List ByteArray) : ∃ q, (xs.all p = decide (q = xs.length)) ∧ q ≤ xs.length ∧ (∀ k x, k < q → xs[k]? = some x → p x = true) ∧ (∀ x, xs[q]? = some x → p x = false) := by
  induction xs with
  | nil => exact ⟨0, rfl, Nat.le_refl _, fun k x h => by omega, fun x h => by simp at h⟩
  | cons a l ih =>
    obtain ⟨q, h1, h2, h3, h4⟩ := ih
    by_cases ha : p a = true
    · refine ⟨q + 1, by simp [ha, h1], by simp; omega, fun k x hk hx => ?_, fun x hx => h4 x (by simpa using hx)⟩
      cases k with
      | zero => simp at hx; subst hx; exact ha
      | succ k => exact h3 k x (by omega) (by simpa using hx)
    · refine ⟨0, by simp [ha], by simp, fun k x hk => by omega, fun x hx => ?_⟩
      simp at hx
      subst hx
      simpa using ha
theorem pre_facts_ (p : UInt8 → Bool) (s : ByteArray) : ∃ n, ((byt s).all p = decide (n = s.size)) ∧ n ≤ s.size ∧ (∀ k (h : k < s.size), k < n → p s[k] = true) ∧ (∀ h : n < s.size, p s[n] = false) := by
  have hle := tw_le p (byt s)
  rw [len_byt] at hle
  refine ⟨((byt s).takeWhile p).length, by rw [all_tw, len_byt], hle, fun k h hk => ?_, fun h => ?_⟩
  · rw [← get_byt s k h]
    exact tw_lt hk _
  · rw [← get_byt s _ h]
    exact tw_at (by rw [len_byt]; exact h)
namespace r12_
set_option maxHeartbeats 4000000 in
theorem Plain (A : Option Addr) (n c : Nat) (ss : List ByteArray) (w : World) (hr : Rd w A n (strs ss)) (hn : n ≤ 9223372036854775807) (hsz : ∀ s ∈ ss, s.size ≤ 9223372036854775807) :
    Calls Try.prog 15 #[.slice A n c] w fun e w' => e = .returned (.bool (plainL ss)) ∧ w = w' := by
  have hlen : ss.length = n := by have := hr.len; simpa using this
  obtain ⟨q, h1, h2, h3, h4⟩ := tws_facts okN ss
  have hpl := hide (show plainL ss = (decide (q = n) && decide (n ≤ 60)) by unfold plainL; rw [h1, hlen])
  generalize plainL ss = z at *
  have Al := hide (fun x w h0 h1 => Allowed x w h0 h1)
  have hR := hide hr
  have h3' := hide h3
  have h4' := hide h4
  have hZ := hide hsz
  rw [hlen] at h2
  clear h1 h3 h4 hr hlen hsz
  go_enter Try.func15, Try.ntmps15
  go_wp2
  go_loop [3] (fun iv => ∃ i : Nat, iv = .int .i64 i ∧ i ≤ q) (fun iv => n + 1 - (intOf iv).toNat)
  case atStart => exact ⟨0, rfl, Nat.zero_le _⟩
  case round =>
    obtain ⟨i, rfl, hi⟩ := hrel
    by_cases hlt : i < n
    · have dl : decide ((i : Int) < (n : Int)) = true := by simpa using hlt
      have dl2 : (i : Int) < (n : Int) := by omega
      obtain ⟨ad, s, rfl, hx, hc⟩ := rs_at hR.out hlt
      have hs := hZ.out s (List.mem_of_getElem? hx)
      obtain ⟨m, g1, g2, g3, g4⟩ := pre_facts_ dsB s
      have hok := hide (show okN s = (decide (s.size ≤ 300) && decide (m = s.size)) by unfold okN; rw [g1])
      have g3' := hide g3
      have g4' := hide g4
      have hx' := hide hx
      clear g1 g3 g4 hx
      by_cases h300 : s.size ≤ 300
      · have d3 : decide (300 < (s.size : Int)) = false := by simp; omega
        go_wp2_with fail
        go_loop [4] (fun kv => ∃ k : Nat, kv = .int .i64 k ∧ k ≤ m) (fun kv => s.size + 1 - (intOf kv).toNat)
        case atStart => exact ⟨0, rfl, Nat.zero_le _⟩
        case round =>
          obtain ⟨k, rfl, hk⟩ := hrel
          by_cases hks : k < s.size
          · have dk : decide ((k : Int) < (s.size : Int)) = true := by simpa using hks
            have dk2 : (k : Int) < (s.size : Int) := by omega
            have hcl := (s[k]).toNat_lt
            obtain ⟨x, hxx⟩ : ∃ x : Int, (s[k].toNat : Int) = x := ⟨_, rfl⟩
            have Ax := hide (fun w => Al.out x w (by omega) (by omega))
            by_cases hkm : k < m
            · have hg : dsA x = true := by rw [← hxx]; exact g3'.out k hks hkm
              rw [hg] at Ax
              clear hg hcl
              go_wp2_with fail
              refine (Ax.out _).mono ?_
              rintro e w' ⟨rfl, rfl⟩
              go_wp2_with fail
              go_round
              case rel => exact ⟨k + 1, by go_num, by omega⟩
              case measure => simp [intOf]; omega
            · obtain rfl : k = m := by omega
              have hg : dsA x = false := by rw [← hxx]; exact g4'.out hks
              rw [hg] at Ax
              clear hg hcl
              have hbad : okN s = false := by rw [hok.out]; simp; omega
              have hz : z = false := by
                rw [hpl.out]
                have : ¬ q = n := fun e => by
                  have := h3'.out i s (by omega) hx'.out
                  rw [hbad] at this
                  cases this
                simp [this]
              subst hz
              go_wp2_with fail
              refine (Ax.out _).mono ?_
              rintro e w' ⟨rfl, rfl⟩
              go_wp2_with fail
              go_ret
              exact ⟨rfl, rfl⟩
          · have dk : decide ((k : Int) < (s.size : Int)) = false := by simp; omega
            have hgood : okN s = true := by rw [hok.out]; simp; omega
            have hiq : i < q := by
              refine Classical.byContradiction fun hc => ?_
              obtain rfl : i = q := by omega
              have := h4'.out s hx'.out
              rw [hgood] at this
              cases this
            clear hgood
            go_wp2_with fail
            go_round
            case rel => exact ⟨i + 1, by go_num, by omega⟩
            case measure => simp [intOf]; omega
      · have d3 : decide (300 < (s.size : Int)) = true := by simp; omega
        have hbad : okN s = false := by rw [hok.out]; simp; omega
        have hz : z = false := by
          rw [hpl.out]
          have : ¬ q = n := fun e => by
            have := h3'.out i s (by omega) hx'.out
            rw [hbad] at this
            cases this
          simp [this]
        subst hz
        go_wp2_with fail
        go_ret
        exact ⟨rfl, rfl⟩
    · obtain rfl : i = n := by omega
      obtain rfl : i = q := by omega
      have dl : decide ((i : Int) < (i : Int)) = false := by simp
      go_wp2_with fail
      go_ret
      exact ⟨retb (by rw [hpl.out, Bool.eq_iff_iff]; simp; try omega), rfl⟩
end r12_
end Go.Proofs.Ytahldefkhhbdhaa

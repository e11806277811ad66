/-
  PLAIN MATHEMATICS of designations (layer 7), and CONTRACTS OF PACKAGE zoneinforef07.
-/
import Derived.Test.YtdhogpcoegfopaaGreatDoorRows
import Derived.Test.YtdhogpcoegfopaaGreatDoorStr
namespace Go.Proofs.YtdhogpcoegfopaaGreatDoor
open Go.ChangeShapes Go.WideShapes Go.ChangeAt Go.RowKit
set_option linter.unusedVariables false
set_option maxRecDepth 100000
def alphaI (x : Int) : Bool := (decide (65 ≤ x) && decide (x ≤ 90)) || (decide (97 ≤ x) && decide (x ≤ 122))
def alpha (c : UInt8) : Bool := alphaI c.toNat
def nameI (x : Int) : Bool := alphaI x || (decide (48 ≤ x) && decide (x ≤ 57)) || decide (x = 43) || decide (x = 45)
def nameB (c : UInt8) : Bool := nameI c.toNat
def nameOk (l : List UInt8) : Bool := decide (3 ≤ l.length) && decide (l.length ≤ 255) && l.all nameB
def letters (l : List UInt8) : Nat := (l.takeWhile alpha).length
/-- what Format gives. -/
def tnFmt (l : List UInt8) : List UInt8 := if letters l = l.length then l else 60 :: (l ++ [62])
def not62 (c : UInt8) : Bool := decide (¬ (c.toNat : Int) = 62)
/-- what Parse gives: the designation, and how much it takes. -/
def tnParse (l : List UInt8) : Option (List UInt8 × Nat) :=
  match l with
  | [] => none
  | a :: t =>
    if a.toNat = 60 then
      let q := t.takeWhile not62
      if q.length < t.length ∧ nameOk q then some (q, q.length + 2) else none
    else
      let q := l.takeWhile alpha
      if nameOk q then some (q, q.length) else none
def tnRes (r : Option (List UInt8 × Nat)) : Value :=
  match r with
  | none => .tuple #[.string ⟨#[]⟩, .int .i64 0, .bool false]
  | some (q, n) => .tuple #[.string (mkS q), .int .i64 n, .bool true]
theorem retV {a b : Value} (h : a = b) : Ending.returned a = .returned b := by rw [h]
theorem retS {a b : ByteArray} (h : a = b) : Ending.returned (.string a) = .returned (.string b) := by rw [h]
namespace r7_
theorem IsAlpha (x : Int) (w : World) (h0 : 0 ≤ x) (h1 : x < 256) : Calls Tryz.prog 41 #[.int .u8 x] w fun e w' => e = .returned (.bool (alphaI x)) ∧ w = w' := by
  go_enter Tryz.func41, Tryz.ntmps41
  go_wp2
  all_goals go_ret
  all_goals
    refine ⟨retb ?_, rfl⟩
    unfold alphaI
    rw [Bool.eq_iff_iff]
    simp
    try omega
set_option maxHeartbeats 2000000 in
theorem Valid (s : ByteArray) (w : World) (hs : s.size ≤ maxLen) : Calls Tryz.prog 18 #[.string s] w fun e w' => e = .returned (.bool (nameOk (byt s))) ∧ w = w' := by
  unfold maxLen at hs
  obtain ⟨q, hq⟩ : ∃ q, q = ((byt s).takeWhile nameB).length := ⟨_, rfl⟩
  have hql : q ≤ s.size := by have := tw_le nameB (byt s); rw [len_byt] at this; rw [hq]; exact this
  have h1 : ∀ k (hk : k < q) (hs : k < s.size), nameB s[k] = true := fun k hk hs => by
    rw [← get_byt s k hs]
    exact tw_lt (by rw [hq] at hk; exact hk) _
  have h2 : ∀ h : q < s.size, nameB s[q] = false := fun h => by
    subst hq
    rw [← get_byt s _ h]
    exact tw_at (by rw [len_byt]; exact h)
  have hf := hide (show nameOk (byt s) = (decide (3 ≤ s.size) && decide (s.size ≤ 255) && decide (q = s.size)) by
    unfold nameOk
    rw [all_tw, len_byt, hq])
  have H1 := hide h1
  have H2 := hide h2
  rw [hf.out]
  clear hq h1 h2 hf
  go_enter Tryz.func18, Tryz.ntmps18
  go_wp2
  go_loop [3] (fun n => ∃ k : Nat, k ≤ q ∧ n = .int .i64 k) (fun n => q + 1 - (intOf n).toNat)
  case atStart => exact ⟨0, Nat.zero_le _, rfl⟩
  case round =>
    obtain ⟨k, hk, rfl⟩ := hrel
    by_cases hlt : k < q
    · have hks : k < s.size := by omega
      have ha := H1.out k hlt hks
      have hc := (s[k]).toNat_lt
      unfold nameB at ha
      obtain ⟨x, hx⟩ : ∃ x : Int, (s[k].toNat : Int) = x := ⟨_, rfl⟩
      rw [hx] at ha
      have x0 : 0 ≤ x := by omega
      have x1 : x < 256 := by omega
      have C := hide (fun w => IsAlpha x w x0 x1)
      have ha' : alphaI x = true ∨ (alphaI x = false ∧ 48 ≤ x ∧ x ≤ 57) ∨ (alphaI x = false ∧ x = 43) ∨ (alphaI x = false ∧ x = 45) := by
        unfold nameI at ha
        cases h : alphaI x <;> simp [h] at ha ⊢ <;> omega
      clear ha hc
      rcases ha' with h | ⟨h, a1, a2⟩ | ⟨h, rfl⟩ | ⟨h, rfl⟩
      all_goals
        rw [h] at C
        clear h
        go_wp2_with fail
        refine (C.out _).mono ?_
        rintro e w' ⟨rfl, rfl⟩
        go_wp2
        go_round
        case rel => exact ⟨k + 1, by omega, by go_num⟩
        case measure => simp [intOf]; omega
    · obtain rfl : k = q := by omega
      by_cases hks : k < s.size
      · have ha := H2.out hks
        have hc := (s[k]).toNat_lt
        unfold nameB at ha
        obtain ⟨x, hx⟩ : ∃ x : Int, (s[k].toNat : Int) = x := ⟨_, rfl⟩
        rw [hx] at ha
        have x0 : 0 ≤ x := by omega
        have x1 : x < 256 := by omega
        have C := hide (fun w => IsAlpha x w x0 x1)
        have ha' : alphaI x = false ∧ (x < 48 ∨ 57 < x) ∧ ¬ x = 43 ∧ ¬ x = 45 := by
          unfold nameI at ha
          cases h : alphaI x <;> simp [h] at ha ⊢ <;> omega
        clear ha hc
        obtain ⟨h, a1, a2, a3⟩ := ha'
        have n2 : (x != 43) = true := by simpa using a2
        have n3 : (x != 45) = true := by simpa using a3
        clear a2 a3
        rw [h] at C
        clear h
        have e : (decide (3 ≤ s.size) && decide (s.size ≤ 255) && decide (k = s.size)) = false := by simp; omega
        have E := hide e
        clear e
        rcases a1 with a1 | a1
        all_goals
          go_wp2_with fail
          refine (C.out _).mono ?_
          rintro e w' ⟨rfl, rfl⟩
          go_wp2
          go_ret
          exact ⟨retb E.out.symm, rfl⟩
      · obtain rfl : k = s.size := by omega
        go_wp2
        all_goals go_ret
        all_goals
          refine ⟨retb ?_, rfl⟩
          rw [Bool.eq_iff_iff]; simp; omega
end r7_
end Go.Proofs.YtdhogpcoegfopaaGreatDoor

/-
  CONTRACTS OF posixtz's PARSER: a rule as a whole, of the code that landed at 120e3cd. Condition: a text of at most 1,000,000 bytes.
-/
import Derived.Test.YtjjmkbofddbnnaaGreatDoorPs6
namespace Go.Proofs.YtjjmkbofddbnnaaGreatDoor
open Go.ChangeShapes Go.WideShapes Go.ChangeAt Go.RowKit
set_option linter.unusedVariables false
set_option maxRecDepth 100000
theorem rst_end {s : ByteArray} {k : Nat} (h : k = s.size) : mkS (rst s k) = ⟨#[]⟩ := by
  rw [show rst s k = [] from List.length_eq_zero_iff.1 (by rw [rst_len]; omega)]
  rfl
theorem rst_more {s : ByteArray} {k : Nat} (h : k < s.size) : (mkS (rst s k)).toList.isEmpty = false := by
  have hne : ¬ mkS (rst s k) = ⟨#[]⟩ := by intro e; have := congrArg ByteArray.size e; rw [size_mk, rst_len] at this; change s.size - k = 0 at this; omega
  have hne2 := seq_ne hne
  rcases q : (mkS (rst s k)).toList with _ | _
  · rw [q, show (⟨#[]⟩ : ByteArray).toList = [] by simp] at hne2; exact absurd hne2 (by decide)
  · rfl
namespace po_
section
variable {s : ByteArray} {b k : Nat} (hs : s.size ≤ 1000000) (hk : k ≤ s.size)
include hs hk
theorem des_yes {q : List UInt8} {n : Nat} (h : tnParse (rst s k) = some (q, n)) (w : World) (hp : Pz w b s (k : Int)) :
    Calls Tryz.prog 28 #[.pointer (some ⟨b, 0, none⟩)] w fun e w' => e = .returned (.string (mkS q)) ∧ Pz w' b s ((k + n : Nat) : Int) ∧ But b w w' :=
  (designation_yes s k b q n w hs hk hp h).mono fun e w' h => ⟨h.1, h.2.1.cast (by omega), h.2.2⟩
theorem des_no (h : tnParse (rst s k) = none) (w : World) (hp : Pz w b s (k : Int)) :
    Calls Tryz.prog 28 #[.pointer (some ⟨b, 0, none⟩)] w fun e w' => e = fail (k : Int) ∧ But b w w' :=
  (designation_no s k b w hs hk hp h).mono fun e w' h => ⟨h.1, .of h.2⟩
theorem off_yes {v : Int} {n : Nat} (h : hmsParse (rst s k) = some (v, n)) (ho : offOk v) (w : World) (hp : Pz w b s (k : Int)) :
    Calls Tryz.prog 29 #[.pointer (some ⟨b, 0, none⟩)] w fun e w' => e = .returned (.int .i64 (-v)) ∧ Pz w' b s ((k + n : Nat) : Int) ∧ But b w w' :=
  (offset_yes s k b v n w hs hk hp h ho).mono fun e w' h => ⟨h.1, h.2.1.cast (by omega), h.2.2⟩
theorem off_no (h : hmsParse (rst s k) = none ∨ ∃ v n, hmsParse (rst s k) = some (v, n) ∧ ¬ offOk v) (w : World) (hp : Pz w b s (k : Int)) :
    Calls Tryz.prog 29 #[.pointer (some ⟨b, 0, none⟩)] w fun e w' => e = fail (k : Int) ∧ But b w w' :=
  (offset_no s k b w hs hk hp h).mono fun e w' h => ⟨h.1, .of h.2⟩
theorem com_yes {t : List UInt8} (h : rst s k = 44 :: t) (w : World) (hp : Pz w b s (k : Int)) :
    Calls Tryz.prog 43 #[.pointer (some ⟨b, 0, none⟩), .string ⟨#[44]⟩] w fun e w' => e = .returned (.tuple #[]) ∧ Pz w' b s ((k + 1 : Nat) : Int) ∧ But b w w' :=
  (expect_yes s k b 44 t w hs hk hp h).mono fun e w' h => ⟨h.1, h.2.1.cast (by omega), h.2.2⟩
theorem com_no (h : (rst s k).head? ≠ some 44) (w : World) (hp : Pz w b s (k : Int)) :
    Calls Tryz.prog 43 #[.pointer (some ⟨b, 0, none⟩), .string ⟨#[44]⟩] w fun e w' => e = fail (k : Int) ∧ But b w w' :=
  (expect_no s k b 44 w hs hk hp h).mono fun e w' h => ⟨h.1, .of h.2⟩
end
/-- a comma and a day: both end, or one of them fails. -/
def ComOk (s : ByteArray) (b k c : Nat) (d : RD) : Prop :=
  (∀ w, Pz w b s (k : Int) → Calls Tryz.prog 43 #[.pointer (some ⟨b, 0, none⟩), .string ⟨#[44]⟩] w fun e w' => e = .returned (.tuple #[]) ∧ Pz w' b s ((k + 1 : Nat) : Int) ∧ But b w w') ∧
  (∀ w, Pz w b s ((k + 1 : Nat) : Int) → Calls Tryz.prog 44 #[.pointer (some ⟨b, 0, none⟩)] w fun e w' => e = .returned (.agg (rdc d)) ∧ Pz w' b s (c : Int) ∧ But b w w') ∧ c ≤ s.size
def ComNo (s : ByteArray) (b k x : Nat) : Prop :=
  (∀ w, Pz w b s (k : Int) → Calls Tryz.prog 43 #[.pointer (some ⟨b, 0, none⟩), .string ⟨#[44]⟩] w fun e w' => e = fail (x : Int) ∧ But b w w') ∨
  (∀ w, Pz w b s (k : Int) → Calls Tryz.prog 43 #[.pointer (some ⟨b, 0, none⟩), .string ⟨#[44]⟩] w fun e w' => e = .returned (.tuple #[]) ∧ Pz w' b s ((k + 1 : Nat) : Int) ∧ But b w w') ∧
  (∀ w, Pz w b s ((k + 1 : Nat) : Int) → Calls Tryz.prog 44 #[.pointer (some ⟨b, 0, none⟩)] w fun e w' => e = fail (x : Int) ∧ But b w w')
theorem com_ (s : ByteArray) (b k : Nat) (hs : s.size ≤ 1000000) (hk : k ≤ s.size) :
    match ptComma (byt s) k with
    | .error x => ComNo s b k x
    | .ok (d, c) => ComOk s b k c d := by
  have hl := rst_len s k
  have A := rst_add s k
  unfold ptComma
  rcases hr : (byt s).drop k with _ | ⟨c, t⟩ <;> (have hr : rst s k = _ := hr)
  · exact Or.inl (com_no hs hk (by rw [hr]; simp))
  · rw [hr] at A
    rw [hr, List.length_cons] at hl
    have A1 : rst s (k + 1) = t := by rw [A]; rfl
    dsimp only
    by_cases h44 : (c.toNat : Int) = 44
    · have hc : c = 44 := u8_of h44
      subst hc
      simp only [h44, if_true]
      rcases hd : ptDay t with _ | ⟨⟨a, e, m, z, f, v⟩, n⟩
      · exact Or.inr ⟨com_yes hs hk hr, fun w hp => change_no s (k + 1) b w hs (by omega) hp (by rw [A1]; exact hd)⟩
      · have hb := ptDay_some hd
        exact ⟨com_yes hs hk hr, fun w hp => change_yes s (k + 1) b w hs (by omega) hp a e m z f v n (by rw [A1]; exact hd) (by omega), by omega⟩
    · simp only [h44, if_false]
      exact Or.inl (com_no hs hk (by rw [hr]; intro e; apply h44; simp at e; rw [e]; rfl))
def rowF (std : ByteArray) (so : Int) : Array Value := #[.string std, .int .i64 so, .bool false, .string ⟨#[]⟩, .int .i64 0, .int .i64 0, .int .i64 0, .int .i64 0, .int .i64 0, .int .i64 0, .int .i64 0, .int .i64 0, .int .i64 0, .int .i64 0, .int .i64 0, .int .i64 0, .int .i64 0]
theorem days_ (s std dst : ByteArray) (so dof : Int) (b k0 k1 k2 : Nat) (hs : s.size ≤ 1000000) (hk2 : k2 ≤ s.size) (stl dsl : List UInt8)
    (H0 : ∀ w, Pz w b s (k0 : Int) → Calls Tryz.prog 28 #[.pointer (some ⟨b, 0, none⟩)] w fun e w' => e = .returned (.string dst) ∧ Pz w' b s (k1 : Int) ∧ But b w w')
    (H1 : ∀ w, Pz w b s (k1 : Int) → Calls Tryz.prog 42 #[.pointer (some ⟨b, 0, none⟩), .int .i64 so] w fun e w' => e = .returned (.int .i64 dof) ∧ Pz w' b s (k2 : Int) ∧ But b w w') :
    (∃ x : Nat, (∀ g w, Pz w b s (k0 : Int) → Ro w g (rowF std so) 29 → b ≠ g → Calls Tryz.prog 31 #[.pointer (some ⟨b, 0, none⟩), .pointer (some ⟨g, 0, none⟩)] w fun e w' => e = fail (x : Int) ∧ But2 b g w w') ∧ ptDays (byt s) k2 stl so dsl dof = .error x) ∨
    (∃ (st en : RD) (c : Nat), (∀ g w, Pz w b s (k0 : Int) → Ro w g (rowF std so) 29 → b ≠ g → Calls Tryz.prog 31 #[.pointer (some ⟨b, 0, none⟩), .pointer (some ⟨g, 0, none⟩)] w fun e w' => e = .returned (.tuple #[]) ∧ Pz w' b s (c : Int) ∧ Ro w' g (crule std so true dst dof st en) 29 ∧ But2 b g w w') ∧ c ≤ s.size ∧
      ptDays (byt s) k2 stl so dsl dof = if c = s.size ∧ offOk dof then .ok (stl, so, true, dsl, dof, st, en) else .error c) := by
  have C1 := com_ s b k2 hs hk2
  unfold ptDays
  rcases h1 : ptComma (byt s) k2 with x | ⟨⟨s1, s2, s3, s4, s5, s6⟩, c1⟩
  · rw [h1] at C1
    rcases C1 with C1 | ⟨C1, C2⟩
    · exact .inl ⟨x, fun g w hp hg hne => dayl_2 s std dst so dof b g k0 k1 k2 0 0 0 0 x 0 0 0 0 0 0 0 0 0 0 0 0 w hp hg hne H0 H1 C1, rfl⟩
    · exact .inl ⟨x, fun g w hp hg hne => dayl_3 s std dst so dof b g k0 k1 k2 (k2 + 1) 0 0 0 x 0 0 0 0 0 0 0 0 0 0 0 0 w hp hg hne H0 H1 C1 C2, rfl⟩
  · rw [h1] at C1
    obtain ⟨C1, C2, hc1⟩ := C1
    have D1 := com_ s b c1 hs hc1
    dsimp only
    rcases h2 : ptComma (byt s) c1 with x | ⟨⟨e1, e2, e3, e4, e5, e6⟩, c2⟩
    · rw [h2] at D1
      rcases D1 with D1 | ⟨D1, D2⟩
      · exact .inl ⟨x, fun g w hp hg hne => dayl_4 s std dst so dof b g k0 k1 k2 (k2 + 1) c1 0 0 x s1 s2 s3 s4 s5 s6 0 0 0 0 0 0 w hp hg hne H0 H1 C1 C2 D1, rfl⟩
      · exact .inl ⟨x, fun g w hp hg hne => dayl_5 s std dst so dof b g k0 k1 k2 (k2 + 1) c1 (c1 + 1) 0 x s1 s2 s3 s4 s5 s6 0 0 0 0 0 0 w hp hg hne H0 H1 C1 C2 D1 D2, rfl⟩
    · rw [h2] at D1
      obtain ⟨D1, D2, hc2⟩ := D1
      exact .inr ⟨(s1, s2, s3, s4, s5, s6), (e1, e2, e3, e4, e5, e6), c2, fun g w hp hg hne => dayl_ok s std dst so dof b g k0 k1 k2 (k2 + 1) c1 (c1 + 1) c2 0 s1 s2 s3 s4 s5 s6 e1 e2 e3 e4 e5 e6 w hp hg hne H0 H1 C1 C2 D1 D2, hc2, by dsimp only; rw [len_byt]⟩
end po_
end Go.Proofs.YtjjmkbofddbnnaaGreatDoor

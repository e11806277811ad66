/-
  CONTRACTS OF posixtz's PARSER: a date as a whole, of the code that landed at 120e3cd. Condition: a text of at most 1,000,000 bytes.
-/
import Derived.Test.YtjjmkbofddbnnaaGreatDoorPs
namespace Go.Proofs.YtjjmkbofddbnnaaGreatDoor
open Go.ChangeShapes Go.WideShapes Go.ChangeAt Go.RowKit
set_option linter.unusedVariables false
set_option maxRecDepth 100000
/-- the cells of a rule day. -/
def rdc (d : RD) : Array Value := #[.int .i64 d.1, .int .i64 d.2.1, .int .i64 d.2.2.1, .int .i64 d.2.2.2.1, .int .i64 d.2.2.2.2.1, .int .i64 d.2.2.2.2.2]
theorem vday_c (d : RD) : vday d = .agg (rdc d) := rfl
theorem u8_of {c d : UInt8} (h : (c.toNat : Int) = (d.toNat : Int)) : c = d := UInt8.toNat_inj.1 (by omega)
theorem rst_add (s : ByteArray) (k j : Nat) : rst s (k + j) = (rst s k).drop j := by rw [List.drop_drop]
theorem rst_len (s : ByteArray) (k : Nat) : (rst s k).length = s.size - k := by rw [List.length_drop, len_byt]
namespace po_
def DateOk (s : ByteArray) (k b : Nat) (w : World) (d : RD) (n : Nat) : Prop :=
  (Calls Tryz.prog 33 #[.pointer (some ⟨b, 0, none⟩)] w fun e w' => e = .returned (.agg (rdc d)) ∧ Pz w' b s ((k + n : Nat) : Int) ∧ But b w w') ∧ k + n ≤ s.size
theorem date_ (s : ByteArray) (k b : Nat) (w : World) (hs : s.size ≤ 1000000) (hk : k ≤ s.size) (hp : Pz w b s k) :
    match ptHead (rst s k) with
    | none => Calls Tryz.prog 33 #[.pointer (some ⟨b, 0, none⟩)] w fun e w' => ∃ q : Int, e = fail q ∧ But b w w'
    | some (h, n) => DateOk s k b w (ptMk h 7200) n := by
  have hl := rst_len s k
  have A := rst_add s k
  rcases hr : rst s k with _ | ⟨c, t⟩
  · exact date_Z1 s k b w hs hk hp (by rw [hr]; simp) (by rw [hr]; simp) (by rw [hr]; rfl)
  · rw [hr] at hl A
    simp only [List.length_cons] at hl
    have A1 : rst s (k + 1) = t := by rw [A]; rfl
    have A2 : ∀ j, rst s (k + 1 + j) = t.drop j := fun j => by rw [rst_add, A1]
    simp only [ptHead]
    by_cases h74 : (c.toNat : Int) = 74
    · have hc : c = 74 := u8_of h74
      simp only [h74, if_true]
      subst hc
      rcases hn : ptNum t with _ | ⟨v, n⟩
      · exact date_J1 s k b w hs hk hp t hr (by rw [A1]; exact hn)
      · have hb := ptNum_some hn
        have hz : k + 1 + n ≤ s.size := by omega
        have := date_J s k b w hs hk hp t v n hr (by rw [A1]; exact hn) hz
        exact ⟨by rw [show k + (1 + n) = k + 1 + n by omega]; exact this, by omega⟩
    · have hc : (rst s k).head? ≠ some 74 := by rw [hr]; intro e; apply h74; simp at e; rw [e]; rfl
      simp only [h74, if_false]
      by_cases h77 : (c.toNat : Int) = 77
      · have hd : c = 77 := u8_of h77
        simp only [h77, if_true]
        subst hd
        have hx : ∀ (j : Nat) (T : List UInt8), t.drop j = T → T ≠ [] → k + 1 + j < s.size := by
          intro j T e ne
          have := congrArg List.length e
          rw [List.length_drop] at this
          have : T.length ≠ 0 := fun z => ne (List.length_eq_zero_iff.1 z)
          omega
        simp only [ptNumP]
        rcases h1 : ptNum t with _ | ⟨m, i⟩
        · exact date_M1 s k b w hs hk hp t hc hr (by rw [A1]; exact h1)
        have b1 := ptNum_some h1
        rcases h2 : t.drop i with _ | ⟨c2, t2⟩
        · simp only [h2]
          exact date_M2 s k b w hs hk hp t hc hr m i (by rw [A1]; exact h1) (by omega) (by rw [A2, h2]; simp)
        simp only [h2]
        have z2 := hx i _ h2 (by simp)
        by_cases h46 : (c2.toNat : Int) = 46
        rotate_left
        · simp only [h46, if_false]
          exact date_M2 s k b w hs hk hp t hc hr m i (by rw [A1]; exact h1) (by omega) (by rw [A2, h2]; intro e; apply h46; simp at e; rw [e]; rfl)
        have e46 : c2 = 46 := u8_of h46
        subst e46
        simp only [h46, if_true]
        have A3 : ∀ j, rst s (k + 1 + i + 1 + j) = (t.drop (i + 1)).drop j := fun j => by rw [show k + 1 + i + 1 + j = k + 1 + (i + 1 + j) by omega, A2, List.drop_drop]
        rcases h3 : ptNum (t.drop (i + 1)) with _ | ⟨y, j⟩
        · exact date_M3 s k b w hs hk hp t hc hr m i (by rw [A1]; exact h1) (by omega) t2 (by rw [A2, h2]) (by omega) (by have := A3 0; simp only [Nat.add_zero, List.drop_zero] at this; rw [this]; exact h3)
        have b3 := ptNum_some h3
        rw [List.length_drop] at b3
        have e3 : ptNum (rst s (k + 1 + i + 1)) = some (y, j) := by have := A3 0; simp only [Nat.add_zero, List.drop_zero] at this; rw [this]; exact h3
        rcases h4 : (t.drop (i + 1)).drop j with _ | ⟨c4, t4⟩
        · simp only [h4]
          exact date_M4 s k b w hs hk hp t hc hr m i (by rw [A1]; exact h1) (by omega) t2 (by rw [A2, h2]) (by omega) y j e3 (by omega) (by rw [A3, h4]; simp)
        simp only [h4]
        have z4 := hx (i + 1 + j) (c4 :: t4) (by rw [← List.drop_drop]; exact h4) (by simp)
        by_cases h46' : (c4.toNat : Int) = 46
        rotate_left
        · simp only [h46', if_false]
          exact date_M4 s k b w hs hk hp t hc hr m i (by rw [A1]; exact h1) (by omega) t2 (by rw [A2, h2]) (by omega) y j e3 (by omega) (by rw [A3, h4]; intro e; apply h46'; simp at e; rw [e]; rfl)
        have e46' : c4 = 46 := u8_of h46'
        subst e46'
        simp only [h46', if_true]
        have A5 : rst s (k + 1 + i + 1 + j + 1) = t.drop (i + 1 + (j + 1)) := by rw [show k + 1 + i + 1 + j + 1 = k + 1 + (i + 1 + (j + 1)) by omega, A2]
        rcases h5 : ptNum (t.drop (i + 1 + (j + 1))) with _ | ⟨x, n⟩
        · exact date_M5 s k b w hs hk hp t hc hr m i (by rw [A1]; exact h1) (by omega) t2 (by rw [A2, h2]) (by omega) y j e3 (by omega) t4 (by rw [A3, h4]) (by omega) (by rw [A5]; exact h5)
        have b5 := ptNum_some h5
        rw [List.length_drop] at b5
        have := date_M s k b w hs hk hp t hc hr m i (by rw [A1]; exact h1) (by omega) t2 (by rw [A2, h2]) (by omega) y j e3 (by omega) t4 (by rw [A3, h4]) (by omega) x n (by rw [A5]; exact h5) (by omega)
        exact ⟨by rw [show k + (1 + (i + 1 + (j + 1)) + n) = k + 1 + i + 1 + j + 1 + n by omega]; exact this, by omega⟩
      · have hd : (rst s k).head? ≠ some 77 := by rw [hr]; intro e; apply h77; simp at e; rw [e]; rfl
        simp only [h77, if_false]
        rcases hn : ptNum (c :: t) with _ | ⟨v, n⟩
        · exact date_Z1 s k b w hs hk hp hc hd (by rw [hr]; exact hn)
        · have hb := ptNum_some hn
          simp only [List.length_cons] at hb
          have := date_Z s k b w hs hk hp v n hc hd (by rw [hr]; exact hn) (by omega)
          exact ⟨this, by omega⟩
end po_
end Go.Proofs.YtjjmkbofddbnnaaGreatDoor

/-
  CONTRACT OF header.Decode, of the code that landed at fefc8ef. Condition: an input of at most 1,000,000 bytes.
-/
import Derived.Test.YtakimiiggemfiaaDoorHdG
namespace Go.Proofs.YtakimiiggemfiaaDoor
open Go.ChangeShapes Go.WideShapes Go.ChangeAt Go.RowKit
set_option linter.unusedVariables false
theorem diff_is : ∀ (a b : List Int), a.length = b.length → a ≠ b → diffAt a b < b.length ∧ (∀ j, j < diffAt a b → a[j]?.getD 0 = b[j]?.getD 0) ∧ a[diffAt a b]?.getD 0 ≠ b[diffAt a b]?.getD 0 := by
  intro a
  induction a with
  | nil => intro b hl hne; cases b with
    | nil => exact absurd rfl hne
    | cons y b => simp at hl
  | cons x a ih => intro b hl hne; cases b with
    | nil => simp at hl
    | cons y b =>
      by_cases e : x = y
      · subst e
        have := ih b (by simpa using hl) (fun h => hne (by rw [h]))
        obtain ⟨h1, h2, h3⟩ := this
        have hd : diffAt (x :: a) (x :: b) = diffAt a b + 1 := by unfold diffAt; simp
        rw [hd]
        refine ⟨by simpa using h1, fun j hj => ?_, by simpa using h3⟩
        cases j with
        | zero => rfl
        | succ j => simpa using h2 j (by omega)
      · have hd : diffAt (x :: a) (y :: b) = 0 := by unfold diffAt; simp [e]
        rw [hd]
        exact ⟨by simp, fun j hj => absurd hj (by omega), by simpa using e⟩
namespace hd_
theorem ver_tab {x : Int} (h : ¬ verOf x = 0) : ∃ m : Nat, m < 4 ∧ vtab[m]? = some x ∧ verOf x = (m : Int) + 1 := by
  unfold verOf at h ⊢
  by_cases h0 : x = 0
  · subst h0; exact ⟨0, by omega, rfl, rfl⟩
  by_cases h1 : x = 50
  · subst h1; exact ⟨1, by omega, rfl, rfl⟩
  by_cases h2 : x = 51
  · subst h2; exact ⟨2, by omega, rfl, rfl⟩
  by_cases h3 : x = 52
  · subst h3; exact ⟨3, by omega, rfl, rfl⟩
  · simp [h0, h1, h2, h3] at h
theorem ver_tabn {x : Int} (h : verOf x = 0) : (x == 0) = false ∧ (x == 50) = false ∧ (x == 51) = false ∧ (x == 52) = false := by
  unfold verOf at h
  by_cases h0 : x = 0
  · subst h0; simp at h
  by_cases h1 : x = 50
  · subst h1; simp at h
  by_cases h2 : x = 51
  · subst h2; simp at h
  by_cases h3 : x = 52
  · subst h3; simp at h
  · simp [h0, h1, h2, h3]
section
variable {A : Option Addr} {n c : Nat} {xs : List Int} {w : World}
theorem ver_err {p x a : Int} (hx : x ≠ 0) (hr : Rd w A n (xs.map (Value.int .u8))) (w1 : World) (hT : Th w1) (hb : Below w.heap.size w w1) :
    Calls Tryd.prog 17 #[cu A n c p x a] w1 fun e w' => e = .returned (.tuple #[.int .i64 1, cu A n c p x a]) ∧ Below w1.heap.size w1 w' :=
  ver_yes A n c p x a 0 p x a 0 w1 hT (fun w2 h2 => cu_.Uint_err A n c xs p x a 1 w2 hx (hr.below (bel_next hb h2))) (by omega) rfl
/-- an error of the first three parts stays. -/
theorem Decode_e1 {p : Nat} {p1 e1 a1 : Int} (hr : Rd w A n (xs.map (Value.int .u8))) (hT : Th w) (he : e1 ≠ 0)
    (E1 : ∀ w1, Below w.heap.size w w1 → ∀ B d, Rd w1 B 4 (magicL.map (Value.int .u8)) → Calls Tryd.prog 16 #[cu A n c p 0 0, .slice B 4 d, .int .i64 3] w1 fun e w' => e = .returned (cu A n c p1 e1 a1) ∧ Below w1.heap.size w1 w') :
    Calls Tryd.prog 10 #[cu A n c p 0 0] w fun z w' => z = .returned (.tuple #[Hd0.val, cu A n c p1 e1 a1]) ∧ Below w.heap.size w w' :=
  Decode_gen A n c p p1 e1 a1 1 p1 e1 a1 (fun _ => 0) (fun _ => p1) (fun _ => e1) (fun _ => a1) 0 0 0 0 0 0 p1 e1 a1 p1 e1 a1 Hd0 w hT E1
    (fun w1 h1 => ver_err he hr w1 (hT.below h1) h1)
    (fun w1 h1 B d _ => cu_.Expect_err A n c p1 e1 a1 5 B 15 d w1 he)
    (fun i hi w1 h1 => cu_.Uint_err A n c xs p1 e1 a1 4 w1 he (hr.below h1))
    (fun i hi => ⟨by omega, by omega⟩) _ rfl ⟨rfl, rfl, rfl, rfl, rfl, rfl, rfl, rfl, rfl⟩ (.inr (.inr ⟨he, rfl, rfl, rfl, rfl⟩))
theorem Decode_e2 {p : Nat} {p1 v p2 e2 a2 : Int} (hr : Rd w A n (xs.map (Value.int .u8))) (hT : Th w) (he : e2 ≠ 0)
    (E1 : ∀ w1, Below w.heap.size w w1 → ∀ B d, Rd w1 B 4 (magicL.map (Value.int .u8)) → Calls Tryd.prog 16 #[cu A n c p 0 0, .slice B 4 d, .int .i64 3] w1 fun e w' => e = .returned (cu A n c p1 0 0) ∧ Below w1.heap.size w1 w')
    (E2 : ∀ w1, Below w.heap.size w w1 → Calls Tryd.prog 17 #[cu A n c p1 0 0] w1 fun e w' => e = .returned (.tuple #[.int .i64 v, cu A n c p2 e2 a2]) ∧ Below w1.heap.size w1 w') :
    Calls Tryd.prog 10 #[cu A n c p 0 0] w fun z w' => z = .returned (.tuple #[Hd0.val, cu A n c p2 e2 a2]) ∧ Below w.heap.size w w' :=
  Decode_gen A n c p p1 0 0 v p2 e2 a2 (fun _ => 0) (fun _ => p2) (fun _ => e2) (fun _ => a2) 0 0 0 0 0 0 p2 e2 a2 p2 e2 a2 Hd0 w hT E1 E2
    (fun w1 h1 B d _ => cu_.Expect_err A n c p2 e2 a2 5 B 15 d w1 he)
    (fun i hi w1 h1 => cu_.Uint_err A n c xs p2 e2 a2 4 w1 he (hr.below h1))
    (fun i hi => ⟨by omega, by omega⟩) _ rfl ⟨rfl, rfl, rfl, rfl, rfl, rfl, rfl, rfl, rfl⟩ (.inr (.inr ⟨he, rfl, rfl, rfl, rfl⟩))
theorem Decode_e3 {p : Nat} {p1 v p2 p3 e3 a3 : Int} (hr : Rd w A n (xs.map (Value.int .u8))) (hT : Th w) (he : e3 ≠ 0)
    (E1 : ∀ w1, Below w.heap.size w w1 → ∀ B d, Rd w1 B 4 (magicL.map (Value.int .u8)) → Calls Tryd.prog 16 #[cu A n c p 0 0, .slice B 4 d, .int .i64 3] w1 fun e w' => e = .returned (cu A n c p1 0 0) ∧ Below w1.heap.size w1 w')
    (E2 : ∀ w1, Below w.heap.size w w1 → Calls Tryd.prog 17 #[cu A n c p1 0 0] w1 fun e w' => e = .returned (.tuple #[.int .i64 v, cu A n c p2 0 0]) ∧ Below w1.heap.size w1 w')
    (E3 : ∀ w1, Below w.heap.size w w1 → ∀ B d, Rd w1 B 15 (zeroL.map (Value.int .u8)) → Calls Tryd.prog 16 #[cu A n c p2 0 0, .slice B 15 d, .int .i64 5] w1 fun e w' => e = .returned (cu A n c p3 e3 a3) ∧ Below w1.heap.size w1 w') :
    Calls Tryd.prog 10 #[cu A n c p 0 0] w fun z w' => z = .returned (.tuple #[Hd0.val, cu A n c p3 e3 a3]) ∧ Below w.heap.size w w' :=
  Decode_gen A n c p p1 0 0 v p2 0 0 (fun _ => 0) (fun _ => p3) (fun _ => e3) (fun _ => a3) 0 0 0 0 0 0 p3 e3 a3 p3 e3 a3 Hd0 w hT E1 E2 E3
    (fun i hi w1 h1 => cu_.Uint_err A n c xs p3 e3 a3 4 w1 he (hr.below h1))
    (fun i hi => ⟨by omega, by omega⟩) _ rfl ⟨rfl, rfl, rfl, rfl, rfl, rfl, rfl, rfl, rfl⟩ (.inr (.inr ⟨he, rfl, rfl, rfl, rfl⟩))
end
theorem Decode (A : Option Addr) (n c p : Nat) (xs : List Int) (w : World) (hT : Th w) {h : Hd} {q e a : Int} (hr : Rd w A n (xs.map (Value.int .u8))) (hB : Bytes xs) (hA : A = none → n = 0 ∧ c = 0) (hn : n ≤ c) (hc : c ≤ 9223372036854775807) (hN : n ≤ 1000000) (hp : p ≤ n) (hd : decH xs p = (h, q, e, a)) :
    Calls Tryd.prog 10 #[cu A n c p 0 0] w fun z w' => z = .returned (.tuple #[h.val, cu A n c q e a]) ∧ Below w.heap.size w w' := by
  have hl : xs.length = n := by have := hr.len; simpa using this
  unfold decH at hd
  rw [hl] at hd
  split at hd
  · rename_i h4
    simp only [Prod.mk.injEq] at hd; obtain ⟨rfl, rfl, rfl, rfl⟩ := hd
    exact Decode_e1 hr hT (by omega) (fun w1 h1 B d _ => cu_.Expect_no A n c p 0 3 B 4 d w1 (by omega) (by omega) (by omega) (by omega))
  rename_i h4
  split at hd
  · rename_i hm
    simp only [Prod.mk.injEq] at hd; obtain ⟨rfl, rfl, rfl, rfl⟩ := hd
    obtain ⟨d1, d2, d3⟩ := diff_is (fld xs p 4) magicL (fld_len xs p 4 (by omega)) hm
    exact Decode_e1 hr hT (by omega) (fun w1 h1 B d hm' => cu_.Expect_differ A n c xs p 3 B 4 d magicL (diffAt (fld xs p 4) magicL) w1 hn hc (by omega) (hr.below h1) hm' d1 (by omega) d2 d3)
  rename_i hm
  have hm := Decidable.not_not.1 hm
  have E1 := fun (w1 : World) (h1 : Below w.heap.size w w1) (B : Option Addr) (d : Nat) (hm' : Rd w1 B 4 (magicL.map (Value.int .u8))) => cu_.Expect_yes A n c xs p 3 B 4 d w1 hn hc (by omega) (hr.below h1) (by rw [hm]; exact hm')
  split at hd
  · rename_i h5
    simp only [Prod.mk.injEq] at hd; obtain ⟨rfl, rfl, rfl, rfl⟩ := hd
    exact Decode_e2 hr hT (by omega) E1 (fun w1 h1 => ver_yes A n c _ 0 0 0 _ 1 n 0 w1 (hT.below h1) (fun w2 h2 => cu_.Uint_no A n c xs _ 1 w2 (by omega) (by omega) (by omega) (hr.below (bel_next h1 h2))) (by omega) rfl)
  rename_i h5
  have hx : uval (fld xs (p + 4) 1) = xs[p + 4]?.getD 0 := fld_one xs _ (by omega)
  have U4 : ∀ w1 w2, Below w.heap.size w w1 → Below w1.heap.size w1 w2 → Calls Tryd.prog 22 #[cu A n c ((p + 4 : Nat) : Int) 0 0, .int .i64 1] w2 fun e w' => e = .returned (.tuple #[.int .u64 (xs[p + 4]?.getD 0), cu A n c ((p + 5 : Nat) : Int) 0 0]) ∧ Below w2.heap.size w2 w' := by
    intro w1 w2 h1 h2
    have := cu_.Uint_yes A n c xs ((p + 4 : Nat) : Int) 1 w2 (by omega) (by omega) (by omega) (by omega) (hr.below (bel_next h1 h2)) hB
    rw [Int.toNat_natCast, show (1 : Int).toNat = 1 from rfl, hx, show ((p + 4 : Nat) : Int) + 1 = ((p + 5 : Nat) : Int) by omega] at this
    exact this
  split at hd
  · rename_i hv
    simp only [Prod.mk.injEq] at hd; obtain ⟨rfl, rfl, rfl, rfl⟩ := hd
    obtain ⟨v0, v1, v2, v3⟩ := ver_tabn hv
    exact Decode_e2 hr hT (by omega) E1 (fun w1 h1 => ver_no A n c _ 0 _ _ _ _ w1 (hT.below h1) (fun w2 h2 => U4 w1 w2 h1 h2) v0 v1 v2 v3)
  rename_i hv
  obtain ⟨m, hm4, hmt, hmv⟩ := ver_tab hv
  have E2 := fun (w1 : World) (h1 : Below w.heap.size w w1) => ver_yes A n c _ 0 0 _ _ 0 0 m w1 (hT.below h1) (fun w2 h2 => U4 w1 w2 h1 h2) hm4 hmt
  split at hd
  · rename_i h20
    simp only [Prod.mk.injEq] at hd; obtain ⟨rfl, rfl, rfl, rfl⟩ := hd
    exact Decode_e3 hr hT (by omega) E1 E2 (fun w1 h1 B d _ => cu_.Expect_no A n c _ 0 5 B 15 d w1 (by omega) (by omega) (by omega) (by omega))
  rename_i h20
  split at hd
  · rename_i hz
    simp only [Prod.mk.injEq] at hd; obtain ⟨rfl, rfl, rfl, rfl⟩ := hd
    obtain ⟨d1, d2, d3⟩ := diff_is (fld xs (p + 5) 15) zeroL (fld_len xs (p + 5) 15 (by omega)) hz
    exact Decode_e3 hr hT (by omega) E1 E2 (fun w1 h1 B d hm' => cu_.Expect_differ A n c xs (p + 5) 5 B 15 d zeroL (diffAt (fld xs (p + 5) 15) zeroL) w1 hn hc (by omega) (hr.below h1) hm' d1 (by omega) d2 d3)
  rename_i hz
  have hz := Decidable.not_not.1 hz
  have E3 := fun (w1 : World) (h1 : Below w.heap.size w w1) (B : Option Addr) (d : Nat) (hm' : Rd w1 B 15 (zeroL.map (Value.int .u8))) => cu_.Expect_yes A n c xs (p + 5) 5 B 15 d w1 hn hc (by omega) (hr.below h1) (by rw [hz]; exact hm')
  have hu : ∀ o, o + 4 ≤ n → U32 (uval (fld xs o 4)) := fun o ho => uval4_bd (fld_bytes hB o 4) (fld_len xs o 4 (by omega))
  have UY : ∀ (o : Nat) (w1 : World), o + 4 ≤ n → Below w.heap.size w w1 → Calls Tryd.prog 22 #[cu A n c (o : Int) 0 0, .int .i64 4] w1 fun e w' => e = .returned (.tuple #[.int .u64 (uval (fld xs o 4)), cu A n c ((o + 4 : Nat) : Int) 0 0]) ∧ Below w1.heap.size w1 w' := by
    intro o w1 ho h1
    have := cu_.Uint_yes A n c xs (o : Int) 4 w1 (by omega) (by omega) (by omega) (by omega) (hr.below h1) hB
    rw [Int.toNat_natCast, show (4 : Int).toNat = 4 from rfl, show (o : Int) + 4 = ((o + 4 : Nat) : Int) by omega] at this
    exact this
  split at hd
  · rename_i h44
    simp only [Prod.mk.injEq] at hd; obtain ⟨rfl, rfl, rfl, rfl⟩ := hd
    obtain ⟨k, hk⟩ : ∃ k, k = (n - p - 20) / 4 := ⟨_, rfl⟩
    rw [show (n - p - 20) / 4 * 4 = 4 * k by omega]
    refine Decode_gen A n c p _ 0 0 _ _ 0 0 (fun i => if i < k then uval (fld xs (p + 20 + 4 * i) 4) else 0) (fun i => ((p + 20 + 4 * min i k : Nat) : Int)) (fun i => if i ≤ k then 0 else 1) (fun i => if i ≤ k then 0 else (n : Int)) _ _ _ _ _ _ _ _ _ _ _ _ Hd0 w hT E1 E2 E3 ?_ ?_ _ rfl ⟨rfl, rfl, rfl, rfl, rfl, rfl, rfl, rfl, rfl⟩ (.inr (.inr ⟨?_, rfl, ?_, ?_, ?_⟩))
    · intro i hi w1 h1
      by_cases hik : i < k
      · have := UY (p + 20 + 4 * i) w1 (by omega) h1
        rw [if_pos hik, if_pos (by omega), if_pos (by omega), if_pos (by omega), if_pos (by omega), show min i k = i by omega, show min (i + 1) k = i + 1 by omega]
        exact this
      · rw [if_neg hik, show min i k = k by omega, show min (i + 1) k = k by omega]
        by_cases hik2 : i ≤ k
        · rw [if_pos hik2, if_pos hik2, if_neg (by omega), if_neg (by omega)]
          exact cu_.Uint_no A n c xs _ 4 w1 (by omega) (by omega) (by omega) (hr.below h1)
        · rw [if_neg hik2, if_neg hik2, if_neg (by omega), if_neg (by omega)]
          exact cu_.Uint_err A n c xs _ 1 n 4 w1 (by omega) (hr.below h1)
    · intro i hi
      split
      · exact hu _ (by omega)
      · exact ⟨by omega, by omega⟩
    · rw [if_neg (by omega)]; omega
    · show ((p + 20 + 4 * k : Nat) : Int) = ((p + 20 + 4 * min 6 k : Nat) : Int)
      rw [show min 6 k = k by omega]
    · rw [if_neg (by omega)]
    · rw [if_neg (by omega)]
  rename_i h44
  have G : ∀ (H : Hd) (pf ef af : Int) (hcase : ((0 : Int) = 0 ∧ (decHd xs p).con = true ∧ H = decHd xs p ∧ pf = ((p + 44 : Nat) : Int) ∧ ef = 0 ∧ af = 0) ∨ ((0 : Int) = 0 ∧ (decHd xs p).con = false ∧ H = Hd0 ∧ pf = ((p + 44 : Nat) : Int) ∧ ef = 6 ∧ af = (p : Int)) ∨ ((0 : Int) ≠ 0 ∧ H = Hd0 ∧ pf = ((p + 44 : Nat) : Int) ∧ ef = 0 ∧ af = 0)),
      Calls Tryd.prog 10 #[cu A n c p 0 0] w fun z w' => z = .returned (.tuple #[H.val, cu A n c pf ef af]) ∧ Below w.heap.size w w' := by
    intro H pf ef af hcase
    have hmv' : decHd xs p = ⟨(m : Int) + 1, uval (fld xs (p + 20) 4), uval (fld xs (p + 24) 4), uval (fld xs (p + 28) 4), uval (fld xs (p + 32) 4), uval (fld xs (p + 36) 4), uval (fld xs (p + 40) 4)⟩ := by unfold decHd; rw [hmv]
    rw [hmv'] at hcase
    exact Decode_gen A n c p _ 0 0 _ _ 0 0 (fun i => uval (fld xs (p + 20 + 4 * i) 4)) (fun i => ((p + 20 + 4 * i : Nat) : Int)) (fun i => 0) (fun i => 0) _ _ _ _ _ _ _ 0 0 pf ef af H w hT E1 E2 E3 (fun i hi w1 h1 => UY (p + 20 + 4 * i) w1 (by omega) h1) (fun i hi => hu _ (by omega)) _ rfl ⟨rfl, rfl, rfl, rfl, rfl, rfl, rfl, rfl, rfl⟩ hcase
  split at hd
  · rename_i hcn
    simp only [Prod.mk.injEq] at hd; obtain ⟨rfl, rfl, rfl, rfl⟩ := hd
    exact G _ _ _ _ (.inl ⟨rfl, hcn, rfl, rfl, rfl, rfl⟩)
  · rename_i hcn
    simp only [Prod.mk.injEq] at hd; obtain ⟨rfl, rfl, rfl, rfl⟩ := hd
    exact G _ _ _ _ (.inr (.inl ⟨rfl, by simpa using hcn, rfl, rfl, rfl, rfl⟩))
end hd_
end Go.Proofs.YtakimiiggemfiaaDoor

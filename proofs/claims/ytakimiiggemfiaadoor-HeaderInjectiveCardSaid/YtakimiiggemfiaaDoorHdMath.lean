/-
  PLAIN MATHEMATICS of headers (layer 13): the encoding, what decoding reads. No program.
-/
import Derived.Test.YtakimiiggemfiaaDoorBeMath
namespace Go.Proofs.YtakimiiggemfiaaDoor
open Go.RowKit
set_option linter.unusedVariables false
def magicL : List Int := [84, 90, 105, 102]
def zeroL : List Int := [0, 0, 0, 0, 0, 0, 0, 0, 0, 0, 0, 0, 0, 0, 0]
def verB (v : Int) : Int := if v = 1 then 0 else 48 + v
def verOf (x : Int) : Int := if x = 0 then 1 else if x = 50 then 2 else if x = 51 then 3 else if x = 52 then 4 else 0
structure Hd where
  ver : Int
  ut : Int
  sd : Int
  lp : Int
  tm : Int
  ty : Int
  ch : Int
def Hd0 : Hd := ⟨0, 0, 0, 0, 0, 0, 0⟩
def U32 (x : Int) : Prop := 0 ≤ x ∧ x < 4294967296
structure Hd.ok (h : Hd) : Prop where
  v0 : 1 ≤ h.ver
  v1 : h.ver ≤ 4
  a : U32 h.ut
  b : U32 h.sd
  c : U32 h.lp
  d : U32 h.tm
  e : U32 h.ty
  f : U32 h.ch
def Hd.con (h : Hd) : Bool := decide (¬ h.ty = 0 ∧ ¬ h.ch = 0 ∧ (h.ut = 0 ∨ h.ut = h.ty) ∧ (h.sd = 0 ∨ h.sd = h.ty))
@[reducible] def Hd.val (h : Hd) : Value := .agg #[.int .i64 h.ver, .int .u32 h.ut, .int .u32 h.sd, .int .u32 h.lp, .int .u32 h.tm, .int .u32 h.ty, .int .u32 h.ch]
def encH (h : Hd) : List Int := magicL ++ (verB h.ver :: (zeroL ++ (be 4 h.ut ++ (be 4 h.sd ++ (be 4 h.lp ++ (be 4 h.tm ++ (be 4 h.ty ++ be 4 h.ch)))))))
theorem encH_len (h : Hd) : (encH h).length = 44 := rfl
/-- where two lists part. -/
def diffAt (a b : List Int) : Nat := ((a.zip b).takeWhile (fun p => p.1 == p.2)).length
theorem diffAt_le (a b : List Int) : diffAt a b ≤ b.length := by
  have h := (List.takeWhile_sublist (l := a.zip b) (fun p => p.1 == p.2)).length_le
  rw [List.length_zip] at h
  unfold diffAt
  omega
def decHd (xs : List Int) (p : Nat) : Hd := ⟨verOf (xs[p + 4]?.getD 0), uval (fld xs (p + 20) 4), uval (fld xs (p + 24) 4), uval (fld xs (p + 28) 4), uval (fld xs (p + 32) 4), uval (fld xs (p + 36) 4), uval (fld xs (p + 40) 4)⟩
/-- the header (zero with an error), the position, the error and its offset. -/
def decH (xs : List Int) (p : Nat) : Hd × Int × Int × Int :=
  if xs.length < p + 4 then (Hd0, p, 1, xs.length)
  else if ¬ fld xs p 4 = magicL then (Hd0, p, 3, p + diffAt (fld xs p 4) magicL)
  else if xs.length < p + 5 then (Hd0, p + 4, 1, xs.length)
  else if verOf (xs[p + 4]?.getD 0) = 0 then (Hd0, p + 4, 4, p + 4)
  else if xs.length < p + 20 then (Hd0, p + 5, 1, xs.length)
  else if ¬ fld xs (p + 5) 15 = zeroL then (Hd0, p + 5, 5, p + 5 + diffAt (fld xs (p + 5) 15) zeroL)
  else if xs.length < p + 44 then (Hd0, p + 20 + ((xs.length - p - 20) / 4 * 4 : Nat), 1, xs.length)
  else if (decHd xs p).con then (decHd xs p, p + 44, 0, 0)
  else (Hd0, p + 44, 6, p)
theorem be_uval4 {l : List Int} (h : Bytes l) (hl : l.length = 4) : be 4 (uval l) = l := by
  match l, hl with
  | [a, b, c, d], _ =>
    have h0 := h 0
    have h1 := h 1
    have h2 := h 2
    have h3 := h 3
    simp at h0 h1 h2 h3
    have e : uval [a, b, c, d] = ((a * 256 + b) * 256 + c) * 256 + d := by simp [uval]
    rw [e]
    show [_, _, _, _] = _
    simp
    omega
theorem uval_be4 {x : Int} (h : U32 x) : uval (be 4 x) = x := by
  rw [uval_be]
  obtain ⟨h0, h1⟩ := h
  show x % 4294967296 = x
  omega
theorem uval4_bd {l : List Int} (h : Bytes l) (hl : l.length = 4) : U32 (uval l) := by
  have := uval_bd l h
  rw [hl] at this
  exact this
theorem verOf_B {v : Int} (h0 : 1 ≤ v) (h1 : v ≤ 4) : verOf (verB v) = v := by
  rcases (show v = 1 ∨ v = 2 ∨ v = 3 ∨ v = 4 by omega) with rfl | rfl | rfl | rfl <;> rfl
theorem verB_Of {x : Int} (h : ¬ verOf x = 0) : verB (verOf x) = x ∧ 1 ≤ verOf x ∧ verOf x ≤ 4 := by
  unfold verOf at *
  split
  · subst x; decide
  · split
    · subst x; decide
    · split
      · subst x; decide
      · split
        · subst x; decide
        · rename_i a b c d; rw [if_neg a, if_neg b, if_neg c, if_neg d] at h; exact absurd rfl h
theorem fld_shift (f m : List Int) (i k : Nat) : fld (f ++ m) (f.length + i) k = fld m i k := by
  unfold fld
  rw [← List.drop_drop, List.drop_left]
theorem fld_split (xs : List Int) (p a b : Nat) : fld xs p (a + b) = fld xs p a ++ fld xs (p + a) b := by
  unfold fld
  rw [List.take_add, List.drop_drop]
theorem get_shift (f m : List Int) (i : Nat) : (f ++ m)[f.length + i]? = m[i]? := by
  rw [List.getElem?_append_right (by omega)]
  congr 1
  omega
theorem dec_enc (f t : List Int) (h : Hd) (hok : h.ok) : decH (f ++ (encH h ++ t)) f.length = if h.con then (h, (f.length : Int) + 44, 0, 0) else (Hd0, (f.length : Int) + 44, 6, (f.length : Int)) := by
  have hl : (f ++ (encH h ++ t)).length = f.length + 44 + t.length := by rw [List.length_append, List.length_append, encH_len]; omega
  have e0 : fld (f ++ (encH h ++ t)) f.length 4 = magicL := by rw [show f.length = f.length + 0 from rfl, fld_shift]; rfl
  have e1 : (f ++ (encH h ++ t))[f.length + 4]? = some (verB h.ver) := by rw [get_shift]; rfl
  have e2 : fld (f ++ (encH h ++ t)) (f.length + 5) 15 = zeroL := by rw [fld_shift]; rfl
  have c1 : uval (fld (f ++ (encH h ++ t)) (f.length + 20) 4) = h.ut := by rw [fld_shift, show fld (encH h ++ t) 20 4 = be 4 h.ut from rfl, uval_be4 hok.a]
  have c2 : uval (fld (f ++ (encH h ++ t)) (f.length + 24) 4) = h.sd := by rw [fld_shift, show fld (encH h ++ t) 24 4 = be 4 h.sd from rfl, uval_be4 hok.b]
  have c3 : uval (fld (f ++ (encH h ++ t)) (f.length + 28) 4) = h.lp := by rw [fld_shift, show fld (encH h ++ t) 28 4 = be 4 h.lp from rfl, uval_be4 hok.c]
  have c4 : uval (fld (f ++ (encH h ++ t)) (f.length + 32) 4) = h.tm := by rw [fld_shift, show fld (encH h ++ t) 32 4 = be 4 h.tm from rfl, uval_be4 hok.d]
  have c5 : uval (fld (f ++ (encH h ++ t)) (f.length + 36) 4) = h.ty := by rw [fld_shift, show fld (encH h ++ t) 36 4 = be 4 h.ty from rfl, uval_be4 hok.e]
  have c6 : uval (fld (f ++ (encH h ++ t)) (f.length + 40) 4) = h.ch := by rw [fld_shift, show fld (encH h ++ t) 40 4 = be 4 h.ch from rfl, uval_be4 hok.f]
  have ed : decHd (f ++ (encH h ++ t)) f.length = h := by
    unfold decHd
    rw [e1, c1, c2, c3, c4, c5, c6]
    show Hd.mk (verOf (verB h.ver)) _ _ _ _ _ _ = _
    rw [verOf_B hok.v0 hok.v1]
  have hv : ¬ verOf ((f ++ (encH h ++ t))[f.length + 4]?.getD 0) = 0 := by
    rw [e1]
    show ¬ verOf (verB h.ver) = 0
    rw [verOf_B hok.v0 hok.v1]
    have := hok.v0
    omega
  unfold decH
  rw [ed, if_neg (by omega), if_neg (not_not_intro e0), if_neg (by omega), if_neg hv, if_neg (by omega), if_neg (not_not_intro e2), if_neg (by omega)]
theorem dec_cases {xs : List Int} {p : Nat} (hB : Bytes xs) (hp : p ≤ xs.length) {h : Hd} {q e a : Int} (hd : decH xs p = (h, q, e, a)) :
    (e = 0 ∧ q = (p : Int) + 44 ∧ a = 0 ∧ p + 44 ≤ xs.length ∧ fld xs p 44 = encH h ∧ h.ok ∧ h.con = true) ∨ (1 ≤ e ∧ e ≤ 6 ∧ h = Hd0 ∧ 0 ≤ a ∧ a ≤ xs.length ∧ 0 ≤ q ∧ q ≤ xs.length) := by
  unfold decH at hd
  split at hd
  · simp only [Prod.mk.injEq] at hd; obtain ⟨rfl, rfl, rfl, rfl⟩ := hd; exact .inr (by refine ⟨by omega, by omega, rfl, by omega, by omega, by omega, by omega⟩)
  rename_i h4
  split at hd
  · have := diffAt_le (fld xs p 4) magicL
    have e4 : magicL.length = 4 := rfl
    simp only [Prod.mk.injEq] at hd; obtain ⟨rfl, rfl, rfl, rfl⟩ := hd; exact .inr (by refine ⟨by omega, by omega, rfl, by omega, by omega, by omega, by omega⟩)
  rename_i hm
  split at hd
  · simp only [Prod.mk.injEq] at hd; obtain ⟨rfl, rfl, rfl, rfl⟩ := hd; exact .inr (by refine ⟨by omega, by omega, rfl, by omega, by omega, by omega, by omega⟩)
  rename_i h5
  split at hd
  · simp only [Prod.mk.injEq] at hd; obtain ⟨rfl, rfl, rfl, rfl⟩ := hd; exact .inr (by refine ⟨by omega, by omega, rfl, by omega, by omega, by omega, by omega⟩)
  rename_i hv
  split at hd
  · simp only [Prod.mk.injEq] at hd; obtain ⟨rfl, rfl, rfl, rfl⟩ := hd; exact .inr (by refine ⟨by omega, by omega, rfl, by omega, by omega, by omega, by omega⟩)
  rename_i h20
  split at hd
  · have := diffAt_le (fld xs (p + 5) 15) zeroL
    have e4 : zeroL.length = 15 := rfl
    simp only [Prod.mk.injEq] at hd; obtain ⟨rfl, rfl, rfl, rfl⟩ := hd; exact .inr (by refine ⟨by omega, by omega, rfl, by omega, by omega, by omega, by omega⟩)
  rename_i hz
  split at hd
  · simp only [Prod.mk.injEq] at hd; obtain ⟨rfl, rfl, rfl, rfl⟩ := hd; exact .inr (by refine ⟨by omega, by omega, rfl, by omega, by omega, by omega, by omega⟩)
  rename_i h44
  split at hd
  · rename_i hc
    simp only [Prod.mk.injEq] at hd
    obtain ⟨rfl, rfl, rfl, rfl⟩ := hd
    refine .inl ⟨rfl, rfl, rfl, by omega, ?_, ?_, hc⟩
    · have hm := Decidable.not_not.1 hm
      have hz := Decidable.not_not.1 hz
      have hx : xs[p + 4]? = some xs[p + 4] := List.getElem?_eq_getElem (by omega)
      have hone : fld xs (p + 4) 1 = [xs[p + 4]] := by
        unfold fld
        rw [List.drop_eq_getElem_cons (by omega)]
        rfl
      have f4 : ∀ o, o + 4 ≤ xs.length → be 4 (uval (fld xs o 4)) = fld xs o 4 := fun o ho => be_uval4 (fld_bytes hB o 4) (fld_len xs o 4 ho)
      rw [show (44 : Nat) = 4 + (1 + (15 + (4 + (4 + (4 + (4 + (4 + 4))))))) from rfl]
      rw [fld_split, fld_split, fld_split, fld_split, fld_split, fld_split, fld_split, fld_split, hm, hone, hz]
      unfold encH decHd
      rw [hx] at hv
      simp only [hx, Option.getD_some] at hv ⊢
      rw [(verB_Of hv).1, f4 _ (by omega), f4 _ (by omega), f4 _ (by omega), f4 _ (by omega), f4 _ (by omega), f4 _ (by omega)]
      rfl
    · have f4 : ∀ o, o + 4 ≤ xs.length → U32 (uval (fld xs o 4)) := fun o ho => uval4_bd (fld_bytes hB o 4) (fld_len xs o 4 ho)
      obtain ⟨_, v0, v1⟩ := verB_Of hv
      exact ⟨v0, v1, f4 _ (by omega), f4 _ (by omega), f4 _ (by omega), f4 _ (by omega), f4 _ (by omega), f4 _ (by omega)⟩
  · simp only [Prod.mk.injEq] at hd; obtain ⟨rfl, rfl, rfl, rfl⟩ := hd; exact .inr (by refine ⟨by omega, by omega, rfl, by omega, by omega, by omega, by omega⟩)
theorem dec_trunc (h : Hd) (hok : h.ok) {k : Nat} (hk : k < 44) : ∃ q : Int, decH ((encH h).take k) 0 = (Hd0, q, 1, (k : Int)) ∧ 0 ≤ q ∧ q ≤ k := by
  have hl : ((encH h).take k).length = k := by rw [List.length_take, encH_len]; omega
  have hf : ∀ o j, o + j ≤ k → fld ((encH h).take k) o j = fld (encH h) o j := by
    intro o j hj
    unfold fld
    rw [List.drop_take, List.take_take]
    congr 1
    omega
  unfold decH
  rw [hl]
  by_cases h4 : k < 0 + 4
  · rw [if_pos h4]; exact ⟨_, rfl, by omega, by omega⟩
  rw [if_neg h4, if_neg (not_not_intro (by rw [hf _ _ (by omega)]; rfl))]
  by_cases h5 : k < 0 + 5
  · rw [if_pos h5]; exact ⟨_, rfl, by omega, by omega⟩
  rw [if_neg h5, if_neg (by
    rw [List.getElem?_take, if_pos (by omega), show (encH h)[0 + 4]? = some (verB h.ver) from rfl]
    show ¬ verOf (verB h.ver) = 0
    rw [verOf_B hok.v0 hok.v1]
    have := hok.v0
    omega)]
  by_cases h20 : k < 0 + 20
  · rw [if_pos h20]; exact ⟨_, rfl, by omega, by omega⟩
  rw [if_neg h20, if_neg (not_not_intro (by rw [hf _ _ (by omega)]; rfl)), if_pos (by omega)]
  exact ⟨_, rfl, by omega, by omega⟩
theorem enc_inj {h g : Hd} (hh : h.ok) (hg : g.ok) (e : encH h = encH g) : h = g := by
  have key : ∀ o j, fld (encH h) o j = fld (encH g) o j := fun o j => by rw [e]
  have k0 : (encH h)[4]? = (encH g)[4]? := by rw [e]
  have k0 : verB h.ver = verB g.ver := by injection (show some (verB h.ver) = some (verB g.ver) from k0)
  have v : h.ver = g.ver := by rw [← verOf_B hh.v0 hh.v1, k0, verOf_B hg.v0 hg.v1]
  have c1 : h.ut = g.ut := by rw [← uval_be4 hh.a, ← uval_be4 hg.a]; exact congrArg uval (key 20 4)
  have c2 : h.sd = g.sd := by rw [← uval_be4 hh.b, ← uval_be4 hg.b]; exact congrArg uval (key 24 4)
  have c3 : h.lp = g.lp := by rw [← uval_be4 hh.c, ← uval_be4 hg.c]; exact congrArg uval (key 28 4)
  have c4 : h.tm = g.tm := by rw [← uval_be4 hh.d, ← uval_be4 hg.d]; exact congrArg uval (key 32 4)
  have c5 : h.ty = g.ty := by rw [← uval_be4 hh.e, ← uval_be4 hg.e]; exact congrArg uval (key 36 4)
  have c6 : h.ch = g.ch := by rw [← uval_be4 hh.f, ← uval_be4 hg.f]; exact congrArg uval (key 40 4)
  cases h
  cases g
  simp only at *
  subst v c1 c2 c3 c4 c5 c6
  rfl
theorem encH_bytes {h : Hd} (hok : h.ok) : Bytes (encH h) := by
  refine bytes_of_mem fun x hx => ?_
  have hb : ∀ v, x ∈ be 4 v → 0 ≤ x ∧ x < 256 := fun v => (be_bytes 4 v).mem x
  unfold encH at hx
  simp only [List.mem_append, List.mem_cons] at hx
  have v0 := hok.v0
  have v1 := hok.v1
  rcases hx with hx | rfl | hx | hx | hx | hx | hx | hx | hx
  · simp [magicL] at hx; omega
  · unfold verB; split <;> omega
  · simp [zeroL] at hx; omega
  all_goals exact hb _ hx
end Go.Proofs.YtakimiiggemfiaaDoor

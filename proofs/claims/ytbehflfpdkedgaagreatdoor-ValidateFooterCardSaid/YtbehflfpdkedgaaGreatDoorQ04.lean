/-
  Texts of mine in one file: BlM, Owk, BlW, TwO, LwO, BwO. Their conditions stand in the theorems.
-/
import Derived.Test.YtbehflfpdkedgaaGreatDoorQ01
import Derived.Test.YtbehflfpdkedgaaGreatDoorRows
import Derived.ChangeSlices
import Derived.DataReads
import Derived.Deep.Grids
namespace Go.Proofs.YtbehflfpdkedgaaGreatDoor
set_option linter.unusedVariables false
set_option linter.unusedSimpArgs false
set_option maxRecDepth 100000
set_option maxHeartbeats 16000000
open Go.ChangeShapes Go.WideShapes Go.ChangeAt Go.RowKit
section
variable {α β : Type} {f : α → List β} {K : Nat}
theorem fm_len (h : ∀ a, (f a).length = K) : ∀ ts : List α, (ts.flatMap f).length = ts.length * K
 | [] => by simp
 | a :: t => by
   have := fm_len h t
   rw [List.flatMap_cons, List.length_append, h, this, List.length_cons, Nat.add_mul]
   omega
theorem fm_drop (h : ∀ a, (f a).length = K) (ts : List α) (i : Nat) : (ts.flatMap f).drop (i * K) = (ts.drop i).flatMap f := by
 induction i generalizing ts with
 | zero => simp
 | succ i ih =>
   cases ts with
   | nil => simp
   | cons a t =>
     rw [List.drop_succ_cons, List.flatMap_cons, ← ih t, Nat.add_mul, Nat.one_mul, Nat.add_comm, ← List.drop_drop, List.drop_append_of_le_length (by rw [h]; omega), show (f a).drop K = [] from List.drop_of_length_le (by rw [h]; omega), List.nil_append]
theorem fm_take (h : ∀ a, (f a).length = K) (ts : List α) (i : Nat) : (ts.flatMap f).take (i * K) = (ts.take i).flatMap f := by
 induction i generalizing ts with
 | zero => simp
 | succ i ih =>
   cases ts with
   | nil => simp
   | cons a t =>
     rw [List.take_succ_cons, List.flatMap_cons, List.flatMap_cons, ← ih t, Nat.add_mul, Nat.one_mul, Nat.add_comm, List.take_append]
     rw [h, List.take_of_length_le (by rw [h]; omega), Nat.add_sub_cancel_left]
theorem fm_get (h : ∀ a, (f a).length = K) (ts : List α) (i j : Nat) (a : α) (hi : ts[i]? = some a) (hj : j < K) : (ts.flatMap f)[i * K + j]? = (f a)[j]? := by
 have hl := (List.getElem?_eq_some_iff.1 hi).1
 have e : ts.drop i = a :: ts.drop (i + 1) := by
  rw [List.drop_eq_getElem_cons hl]
  rw [List.getElem?_eq_getElem hl] at hi
  injection hi with hi
  rw [hi]
 rw [← List.getElem?_drop, fm_drop h, e, List.flatMap_cons, List.getElem?_append_left (by rw [h]; exact hj)]
end
def u64 (v : Int) : Int := v % 18446744073709551616
def eT (k : Nat) (ts : List Int) : List Int := ts.flatMap fun v => be k (u64 v)
def fT (k : Nat) (ts : List Int) : Bool := ts.all fun v => fitsB k v
theorem fT_8 (ts : List Int) : fT 8 ts = true := by unfold fT fitsB; rw [List.all_eq_true]; intro v _; simp
def dsF : Nat → List Int → Int
 | i, a :: b :: t => if b ≤ a then (i : Int) else dsF (i + 1) (b :: t)
 | _, _ => -1
def desc (ts : List Int) : Int := dsF 1 ts
def Asc (ts : List Int) : Prop := ∀ i, i + 1 < ts.length → ts[i]?.getD 0 < ts[i + 1]?.getD 0
theorem dsF_spec : ∀ (ts : List Int) (i : Nat), (dsF i ts = -1 ∧ Asc ts) ∨ (∃ j, dsF i ts = (i + j : Nat) ∧ j + 1 < ts.length ∧ ts[j + 1]?.getD 0 ≤ ts[j]?.getD 0 ∧ ∀ q, q < j → ts[q]?.getD 0 < ts[q + 1]?.getD 0)
 | [], i => .inl ⟨rfl, fun j h => by simp at h⟩
 | [a], i => .inl ⟨rfl, fun j h => by simp at h⟩
 | a :: b :: t, i => by
   unfold dsF
   by_cases h : b ≤ a
   ·rw [if_pos h]
    exact .inr ⟨0, rfl, by simp, by simpa using h, fun q hq => by omega⟩
   ·rw [if_neg h]
    rcases dsF_spec (b :: t) (i + 1) with ⟨e, ha⟩ | ⟨j, e, hj, hd, ha⟩
    ·refine .inl ⟨e, fun q hq => ?_⟩
     cases q with
     | zero => simp; omega
     | succ q => simpa using ha q (by simpa using hq)
    ·refine .inr ⟨j + 1, by rw [e]; congr 1; omega, by simpa using hj, by simpa using hd, fun q hq => ?_⟩
     cases q with
     | zero => simp; omega
     | succ q => simpa using ha q (by omega)
theorem desc_spec (ts : List Int) : (desc ts = -1 ∧ Asc ts) ∨ (∃ j : Nat, desc ts = ((j + 1 : Nat) : Int) ∧ j + 1 < ts.length ∧ ts[j + 1]?.getD 0 ≤ ts[j]?.getD 0 ∧ ∀ q, q < j → ts[q]?.getD 0 < ts[q + 1]?.getD 0) := by
 rcases dsF_spec ts 1 with h | ⟨j, e, h⟩
 ·exact .inl h
 ·exact .inr ⟨j, by unfold desc; rw [e, Nat.add_comm], h⟩
theorem desc_asc {ts : List Int} (h : Asc ts) : desc ts = -1 := by
 rcases desc_spec ts with ⟨e, _⟩ | ⟨j, _, hj, hd, _⟩
 ·exact e
 ·have := h j hj
  omega
theorem desc_at {ts : List Int} {j : Nat} (hj : j + 1 < ts.length) (hd : ts[j + 1]?.getD 0 ≤ ts[j]?.getD 0) (ha : ∀ q, q < j → ts[q]?.getD 0 < ts[q + 1]?.getD 0) : desc ts = ((j + 1 : Nat) : Int) := by
 rcases desc_spec ts with ⟨_, h⟩ | ⟨i, e, hi, hd', ha'⟩
 ·have := h j hj
  omega
 ·rcases Nat.lt_trichotomy i j with h | rfl | h
  ·have := ha i h; omega
  ·exact e
  ·have := ha' j h; omega
theorem asc_of_desc {ts : List Int} (h : desc ts = -1) : Asc ts := by
 rcases desc_spec ts with ⟨_, h'⟩ | ⟨i, e, _⟩
 ·exact h'
 ·rw [e] at h; omega
theorem asc_take {ts : List Int} (h : Asc ts) (k : Nat) : Asc (ts.take k) := by
 intro i hi
 rw [List.length_take] at hi
 rw [List.getElem?_take, List.getElem?_take, if_pos (by omega), if_pos (by omega)]
 exact h i (by omega)
abbrev LP := Int × Int
def lpOk (t : LP) : Prop := -9223372036854775808 ≤ t.1 ∧ t.1 < 9223372036854775808 ∧ -2147483648 ≤ t.2 ∧ t.2 < 2147483648
def lc (t : LP) : List Value := [.int .i64 t.1, .int .i32 t.2]
def lcs (ts : List LP) : List Value := ts.flatMap lc
theorem lc_len (t : LP) : (lc t).length = 2 := rfl
theorem lcs_len (ts : List LP) : (lcs ts).length = ts.length * 2 := fm_len lc_len ts
theorem lcs_get {ts : List LP} {i : Nat} {t : LP} (h : ts[i]? = some t) : (lcs ts)[i * 2]? = some (.int .i64 t.1) ∧ (lcs ts)[i * 2 + 1]? = some (.int .i32 t.2) :=
 ⟨fm_get lc_len ts i 0 t h (by omega), fm_get lc_len ts i 1 t h (by omega)⟩
theorem lcs_app (a b : List LP) : lcs (a ++ b) = lcs a ++ lcs b := List.flatMap_append
theorem lcs_take (ts : List LP) (i : Nat) : (lcs ts).take (i * 2) = lcs (ts.take i) := fm_take lc_len ts i
theorem lcs_one (t : LP) : lcs [t] = lc t := by simp [lcs]
def lfit (k : Nat) (ts : List LP) : Bool := ts.all fun t => fitsB k t.1
def la (ts : List LP) (i : Nat) : Int := (ts[i]?.getD (0, 0)).1
def lr (ts : List LP) (i : Nat) : Int := (ts[i]?.getD (0, 0)).2
def okL (ts : List LP) (four : Bool) : Nat → Bool
 | 0 => decide (0 ≤ la ts 0) && (four || decide (lr ts 0 = 1) || decide (lr ts 0 = -1))
 | j + 1 => decide (la ts j + 2419199 ≤ la ts (j + 1)) && (decide (lr ts (j + 1) - lr ts j = 1) || decide (lr ts (j + 1) - lr ts j = -1) || (decide (lr ts (j + 1) - lr ts j = 0) && four && decide (j + 2 = ts.length)))
def vL (ts : List LP) (four : Bool) : Bool := (List.range ts.length).all (okL ts four)
theorem vL_at {ts : List LP} {four : Bool} (h : vL ts four = true) {i : Nat} (hi : i < ts.length) : okL ts four i = true := List.all_eq_true.1 h i (List.mem_range.2 hi)
theorem vL_of {ts : List LP} {four : Bool} (h : ∀ i, i < ts.length → okL ts four i = true) : vL ts four = true := List.all_eq_true.2 fun i hi => h i (List.mem_range.1 hi)
theorem vL_no {ts : List LP} {four : Bool} {i : Nat} (hi : i < ts.length) (h : okL ts four i = false) : vL ts four = false := by
 rw [← Bool.not_eq_true]
 intro e
 rw [vL_at e hi] at h
 cases h
theorem vL_34 {ts : List LP} (h : vL ts false = true) : vL ts true = true := vL_of fun i hi => by
 have := vL_at h hi
 cases i with
 | zero => simp [okL] at this ⊢; exact this.1
 | succ j => simp [okL] at this ⊢; exact ⟨this.1, .inl this.2⟩
theorem la_take {ts : List LP} {k i : Nat} (h : i < k) : la (ts.take k) i = la ts i := by unfold la; rw [List.getElem?_take, if_pos h]
theorem lr_take {ts : List LP} {k i : Nat} (h : i < k) : lr (ts.take k) i = lr ts i := by unfold lr; rw [List.getElem?_take, if_pos h]
theorem vL_take {ts : List LP} (h : vL ts true = true) {k : Nat} (hk : k < ts.length) : vL (ts.take k) true = true := vL_of fun i hi => by
 rw [List.length_take] at hi
 have hik : i < k := by omega
 have := vL_at h (show i < ts.length by omega)
 cases i with
 | zero => simp only [okL] at this ⊢; rw [la_take hik, lr_take hik]; exact this
 | succ j =>
   simp only [okL] at this ⊢
   rw [la_take hik, lr_take hik, la_take (by omega), lr_take (by omega)]
   simp at this ⊢
   refine ⟨this.1, ?_⟩
   rcases this.2 with h2 | h2
   ·exact .inl h2
   ·omega
theorem la_step {ts : List LP} {four : Bool} (h : vL ts four = true) {j : Nat} (hj : j + 1 < ts.length) : la ts j + 2419199 ≤ la ts (j + 1) := by
 have := vL_at h hj
 simp [okL] at this
 exact this.1
theorem la_lt {ts : List LP} {four : Bool} (h : vL ts four = true) {i : Nat} : ∀ d : Nat, i + d + 1 < ts.length → la ts i < la ts (i + d + 1)
 | 0, hd => by
   have := la_step h (j := i) (by omega)
   rw [Nat.add_zero]
   omega
 | d + 1, hd => by
   have h1 := la_lt h (i := i) d (by omega)
   have h2 := la_step h (j := i + d + 1) (by omega)
   rw [show i + (d + 1) + 1 = i + d + 1 + 1 by omega]
   omega
theorem la_lt' {ts : List LP} {four : Bool} (h : vL ts four = true) {i j : Nat} (hij : i < j) (hj : j < ts.length) : la ts i < la ts j := by
 have := la_lt h (i := i) (j - i - 1) (by omega)
 rwa [show i + (j - i - 1) + 1 = j by omega] at this
def crN (ts : List LP) (t : Int) : Nat → Int
 | 0 => 0
 | n + 1 => if la ts n ≤ t then lr ts n else crN ts t n
def cr (ts : List LP) (t : Int) : Int := crN ts t ts.length
theorem crN_later {ts : List LP} {t : Int} {i : Nat} : ∀ d : Nat, (∀ j, i ≤ j → j < i + d → t < la ts j) → crN ts t (i + d) = crN ts t i
 | 0, _ => rfl
 | d + 1, h => by
   show crN ts t (i + d + 1) = _
   rw [crN, if_neg (by have := h (i + d) (by omega) (by omega); omega)]
   exact crN_later d fun j h1 h2 => h j h1 (by omega)
def exL (ts : List LP) : Bool := decide (2 ≤ ts.length) && decide (lr ts (ts.length - 1) = lr ts (ts.length - 2))
abbrev TT := Int × Bool × Int
def ttOk (t : TT) : Prop := -2147483648 ≤ t.1 ∧ t.1 < 2147483648 ∧ 0 ≤ t.2.2 ∧ t.2.2 < 256
def tc (t : TT) : List Value := [.int .i32 t.1, .bool t.2.1, .int .u8 t.2.2]
def tcs (ts : List TT) : List Value := ts.flatMap tc
theorem tc_len (t : TT) : (tc t).length = 3 := rfl
theorem tcs_len (ts : List TT) : (tcs ts).length = ts.length * 3 := fm_len tc_len ts
theorem tcs_get {ts : List TT} {i : Nat} {t : TT} (h : ts[i]? = some t) : (tcs ts)[i * 3]? = some (.int .i32 t.1) ∧ (tcs ts)[i * 3 + 1]? = some (.bool t.2.1) ∧ (tcs ts)[i * 3 + 2]? = some (.int .u8 t.2.2) :=
 ⟨fm_get tc_len ts i 0 t h (by omega), fm_get tc_len ts i 1 t h (by omega), fm_get tc_len ts i 2 t h (by omega)⟩
theorem tcs_app (a b : List TT) : tcs (a ++ b) = tcs a ++ tcs b := List.flatMap_append
theorem tcs_one (t : TT) : tcs [t] = tc t := by simp [tcs]
def e6 (t : TT) : List Int := be 4 (u64 t.1) ++ [if t.2.1 then 1 else 0, t.2.2]
def d6 (l : List Int) (i : Nat) : TT := (sgn 4 (uval (fld l (i * 6) 4)), decide (l[i * 6 + 4]?.getD 0 = 1), l[i * 6 + 5]?.getD 0)
def chk (ts : List TT) (n : Int) : Int := if ts.any (fun t => decide (t.1 = -2147483648)) then 9 else if ts.any (fun t => decide (n ≤ t.2.2)) then 8 else 0
abbrev bls (bs : List Bool) : List Value := bs.map Value.bool
def bg (l : List Bool) (i : Nat) : Bool := l[i]?.getD false
theorem bg_at {l : List Bool} {i : Nat} {b : Bool} (h : l[i]? = some b) : bg l i = b := by unfold bg; rw [h]; rfl
theorem bg_out {l : List Bool} {i : Nat} (h : l.length ≤ i) : bg l i = false := by unfold bg; rw [List.getElem?_eq_none h]; rfl
def cnN (std ut : List Bool) (n : Nat) : Bool := (List.range n).all fun i => !bg ut i || bg std i
def cn (std ut : List Bool) : Bool := cnN std ut ut.length
theorem cnN_step (std ut : List Bool) (n : Nat) : cnN std ut (n + 1) = (cnN std ut n && (!bg ut n || bg std n)) := by unfold cnN; rw [List.range_succ, List.all_append]; simp
theorem cn_iff (std ut : List Bool) : cn std ut = true ↔ ∀ i, bg ut i = true → bg std i = true := by
 unfold cn cnN
 rw [List.all_eq_true]
 constructor
 ·intro h i hi
  have hl : i < ut.length := by
   rcases Nat.lt_or_ge i ut.length with h' | h'
   ·exact h'
   ·rw [bg_out h'] at hi; cases hi
  have := h i (List.mem_range.2 hl)
  rw [hi] at this
  simpa using this
 ·intro h i _
  cases hb : bg ut i
  ·rfl
  ·rw [h i hb]; rfl
theorem cn_no {std ut : List Bool} {n : Nat} (hn : n < ut.length) (hu : bg ut n = true) (hs : bg std n = false) : cn std ut = false := by
 rw [← Bool.not_eq_true, cn_iff]
 intro h
 rw [h n hu] at hs
 cases hs
def IsBw (w : World) (a : Option Addr) (len cap : Nat) (bs : List Bool) : Prop :=
 (a = none → len = 0 ∧ cap = 0) ∧ len ≤ cap ∧ cap ≤ 9223372036854775807 ∧ Rd w a len (bls bs)
theorem IsBw.len {w : World} {a : Option Addr} {len cap : Nat} {bs : List Bool} (h : IsBw w a len cap bs) : bs.length = len := by have := h.2.2.2.len; simpa using this
theorem rb_at {w : World} {A : Option Addr} {n : Nat} {xs : List Bool} (h : Rd w A n (bls xs)) {i : Nat} (hi : i < n) : ∃ ad x, A = some ad ∧ xs[i]? = some x ∧ w.cell? (ad.add i) = some (.bool x) := by
 obtain ⟨ad, v, h1, h2, h3⟩ := h.at_ hi
 rw [List.getElem?_map] at h2
 cases hx : xs[i]? with
 | none => rw [hx] at h2; simp at h2
 | some x => rw [hx] at h2; simp at h2; subst h2; exact ⟨ad, x, h1, rfl, h3⟩
structure Bk where
 ti : List Int
 ix : List Int
 ty : List TT
 ch : List Int
 lp : List LP
 sd : List Bool
 ut : List Bool
def Bk.zero : Bk := ⟨[], [], [], [], [], [], []⟩
def I64 (v : Int) : Prop := -9223372036854775808 ≤ v ∧ v < 9223372036854775808
structure Bk.ok (b : Bk) : Prop where
 ti : ∀ v ∈ b.ti, -9223372036854775808 ≤ v ∧ v < 9223372036854775808
 ix : Bytes b.ix
 ty : ∀ t ∈ b.ty, ttOk t
 ch : Bytes b.ch
 lp : ∀ t ∈ b.lp, lpOk t
theorem Bk.zero_ok : Bk.zero.ok := ⟨fun v h => by simp [Bk.zero] at h, bytes_of_mem (by simp [Bk.zero]), fun v h => by simp [Bk.zero] at h, bytes_of_mem (by simp [Bk.zero]), fun v h => by simp [Bk.zero] at h⟩
def beqB (a b : Bk) : Bool := decide (a.ti = b.ti) && decide (a.ix = b.ix) && decide (a.ty = b.ty) && decide (a.ch = b.ch) && decide (a.lp = b.lp) && decide (a.sd = b.sd) && decide (a.ut = b.ut)
theorem beqB_iff (a b : Bk) : beqB a b = true ↔ a = b := by
 obtain ⟨a1, a2, a3, a4, a5, a6, a7⟩ := a
 obtain ⟨b1, b2, b3, b4, b5, b6, b7⟩ := b
 simp [beqB, and_assoc]
def sec (k a b c d x y : Nat) (l : List Int) (p i : Nat) : List Int := match i with
 | 0 => fld l p (k * d)
 | 1 => fld l (p + k * d) d
 | 2 => fld l (p + k * d + d) (x * 6)
 | 3 => fld l (p + k * d + d + x * 6) y
 | 4 => fld l (p + k * d + d + x * 6 + y) (c * (k + 4))
 | 5 => fld l (p + k * d + d + x * 6 + y + c * (k + 4)) b
 | _ => fld l (p + k * d + d + x * 6 + y + c * (k + 4) + b) a
def Rk (s : Nat) (w : World) (A : Option Addr) (n : Nat) (xs : List Value) : Prop :=
 xs.length = n * s ∧ (0 < n → ∃ ad, A = some ad ∧ ∀ i v, xs[i]? = some v → w.cell? (ad.add i) = some v)
section
variable {s : Nat} {w w' : World} {A : Option Addr} {n : Nat} {xs : List Value}
theorem Rk.len (h : Rk s w A n xs) : xs.length = n * s := h.1
theorem Rk.none_ (s : Nat) (w : World) : Rk s w none 0 [] := ⟨by simp, fun h => absurd h (by omega)⟩
theorem Rk.keep (h : Rk s w A n xs) (hk : ∀ p : Addr, p.block < w.heap.size → w'.cell? p = w.cell? p) : Rk s w' A n xs :=
 ⟨h.1, fun hn => by
  obtain ⟨ad, e, hc⟩ := h.2 hn
  exact ⟨ad, e, fun i v hi => by have := hc i v hi; rw [hk _ (cell_lt this)]; exact this⟩⟩
theorem Rk.below (h : Rk s w A n xs) (hb : Below w.heap.size w w') : Rk s w' A n xs := h.keep fun _ hp => hb.cell hp
theorem Rk.alloc (h : Rk s w A n xs) (o : Obj) : Rk s (w.alloc o) A n xs := h.below (bl_new w o)
theorem Rk.drew (h : Rk s w A n xs) : Rk s w.drew A n xs := h
theorem Rk.take (h : Rk s w A n xs) {k : Nat} (hk : k ≤ n) : Rk s w A k (xs.take (k * s)) := by
 have hle : k * s ≤ n * s := Nat.mul_le_mul_right s hk
 refine ⟨by rw [List.length_take, h.1]; omega, fun hn => ?_⟩
 obtain ⟨ad, e, hcell⟩ := h.2 (by omega)
 refine ⟨ad, e, fun i v hi => hcell i v ?_⟩
 rw [List.getElem?_take] at hi
 split at hi
 ·exact hi
 ·cases hi
theorem Rk.cut (h : Rk s w A n xs) {k cap : Nat} (hk : k ≤ n) (hc : n ≤ cap) : Rk s w (if cap = k then A else A.map (·.add (k * s))) (n - k) (xs.drop (k * s)) := by
 refine ⟨by rw [List.length_drop, h.1, Nat.sub_mul], fun hn => ?_⟩
 obtain ⟨ad, rfl, hcell⟩ := h.2 (by omega)
 rw [if_neg (by omega)]
 refine ⟨ad.add (k * s), rfl, fun i v hi => ?_⟩
 rw [addr_add]
 exact hcell _ v (by rw [← hi, List.getElem?_drop])
theorem Rk.at_ (h : Rk s w A n xs) {i j : Nat} (hi : i < n) (hj : j < s) {v : Value} (hv : xs[i * s + j]? = some v) : ∃ ad, A = some ad ∧ w.cell? (ad.add (i * s + j)) = some v := by
 obtain ⟨ad, e, hc⟩ := h.2 (by omega)
 exact ⟨ad, e, hc _ v hv⟩
end
def Ok (s : Nat) (w : World) (b : Nat) (e : TypeId) (A : Option Addr) (n c : Nat) (xs : List Value) : Prop :=
 b ≤ w.heap.size ∧ w.ownsRow b e s (.slice A n c) n xs
section
variable {s : Nat} {w w' : World} {b : Nat} {e : TypeId} {A : Option Addr} {n c : Nat} {xs : List Value}
theorem Ok.len (h : Ok s w b e A n c xs) : xs.length = n * s := h.2.1
theorem Ok.nil (hb : b ≤ w.heap.size) (s : Nat) (e : TypeId) : Ok s w b e none 0 0 [] := ⟨hb, World.ownsRow_nil _ _ _ _⟩
theorem Ok.cap (h : Ok s w b e A n c xs) : n ≤ c := by
 rcases h.2.2 with ⟨h', rfl⟩ | ⟨g, cap, cur, h', _, _, hn, _⟩
 ·omega
 ·injection h' with _ _ h3
  omega
theorem Ok.capMax (h : Ok s w b e A n c xs) : c ≤ maxLen := by
 rcases h.2.2 with ⟨h', rfl⟩ | ⟨g, cap, cur, h', _, _, hn, hm, _⟩
 ·injection h' with _ _ h3
  omega
 ·injection h' with _ _ h3
  omega
theorem Ok.nilcap (h : Ok s w b e A n c xs) (hA : A = none) : n = 0 ∧ c = 0 := by
 subst hA
 rcases h.2.2 with ⟨h', rfl⟩ | ⟨g, cap, cur, h', _⟩
 ·injection h' with _ _ h3
  exact ⟨rfl, h3⟩
 ·injection h' with h'
  cases h'
theorem Ok.lit (s : Nat) (w : World) (e : TypeId) (xs : List Value) (n : Nat) (hn : xs.length = n * s) (hm : n ≤ maxLen) : Ok s (w.alloc (.cells xs.toArray e)) w.heap.size e (some ⟨w.heap.size, 0, none⟩) n n xs :=
 ⟨by simp, by
  have := World.ownsRow_lit (size := s) (base := w.heap.size) (e := e) w xs.toArray n (Nat.le_refl _) hm (by simpa using hn)
  simpa using this⟩
theorem Ok.drew (h : Ok s w b e A n c xs) : Ok s w.drew b e A n c xs := ⟨h.1, h.2.drew⟩
theorem Ok.alloc (h : Ok s w b e A n c xs) (o : Obj) : Ok s (w.alloc o) b e A n c xs := ⟨by have := h.1; simp; omega, h.2.alloc o⟩
theorem Ok.lt (h : Ok s w b e A n c xs) : ∀ k, (Value.slice A n c).ownBlock = some k → b ≤ k ∧ k < w.heap.size := h.2.lt
theorem Ok.mono (h : Ok s w b e A n c xs) {b' : Nat} (hb : b' ≤ b) : Ok s w b' e A n c xs :=
 ⟨Nat.le_trans hb h.1, h.2.1, h.2.2.imp id fun ⟨g, cap, cur, e1, e2, e3⟩ => ⟨g, cap, cur, e1, Nat.le_trans hb e2, e3⟩⟩
theorem Ok.below (h : Ok s w b e A n c xs) (hb : Below w.heap.size w w') : Ok s w' b e A n c xs := by
 refine ⟨Nat.le_trans h.1 hb.size, h.2.1, ?_⟩
 rcases h.2.2 with h' | ⟨g, cap, cur, e1, e2, e3, e4⟩
 ·exact .inl h'
 ·refine .inr ⟨g, cap, cur, e1, e2, ?_, e4⟩
  have hg : g < w.heap.size := (h.2.lt g (by rw [e1]; rfl)).2
  exact (hb.block g hg).trans e3
theorem Ok.form (h : Ok s w b e A n c xs) (hn : 0 < n) : ∃ g, A = some ⟨g, 0, none⟩ ∧ b ≤ g ∧ g < w.heap.size := by
 rcases h.2.2 with ⟨_, h'⟩ | ⟨g, cap, cur, e1, e2, e3, e4⟩
 ·omega
 ·have hg : g < w.heap.size := (h.2.lt g (by rw [e1]; rfl)).2
  injection e1 with e1
  exact ⟨g, e1, e2, hg⟩
theorem Ok.rd (h : Ok s w b e A n c xs) : Rk s w A n xs := by
 refine ⟨h.len, fun hn => ?_⟩
 obtain ⟨g, rfl, _, _⟩ := h.form hn
 exact ⟨_, rfl, h.2.cells (g := g) rfl⟩
theorem Ok.cell {g : Nat} (h : Ok s w b e (some ⟨g, 0, none⟩) n c xs) (j : Nat) (hj : j < n * s) : w.cell? ⟨g, j, none⟩ = xs[j]? := h.2.cellAt j hj
theorem Ok.frozen {g : Nat} (h : Ok s w b e (some ⟨g, 0, none⟩) n c xs) (j : Nat) : w.frozen? ⟨g, j, none⟩ = false := h.2.frozenAt j
theorem Ok.set {g : Nat} (h : Ok s w b e (some ⟨g, 0, none⟩) n c xs) (j : Nat) (u : Value) : Ok s (w.setCell ⟨g, j, none⟩ u) b e (some ⟨g, 0, none⟩) n c (xs.set j u) :=
 ⟨by have := h.1; simpa [World.setCell] using this, (h.2.stored j u).1⟩
theorem Ok.setLow (h : Ok s w b e A n c xs) {g : Nat} (o : Nat) (hg : g < b) (u : Value) : Ok s (w.setCell ⟨g, o, none⟩ u) b e A n c xs :=
 ⟨by have := h.1; simpa [World.setCell] using this, ownsRow_setCell_below h.2 (a := ⟨g, o, none⟩) hg u⟩
theorem Ok.blk (h : Ok s w b e A n c xs) {g : Nat} (hg : oB A = some g) : b ≤ g ∧ g < w.heap.size := h.lt g (by rw [oB_own]; exact hg)
theorem Gw.ok {A A' A2 : Option Addr} (h : Gw w w' A A') (ho : Ok s w b e A2 n c xs) (hd : Dj A2 A) : Ok s w' b e A2 n c xs := by
 refine ⟨Nat.le_trans ho.1 h.size, ho.2.kept h.g ?_⟩
 rw [oB_own]
 rcases hA : oB A2 with _ | g
 ·exact .inl rfl
 ·exact .inr fun h' => hd g hA h'.symm
end
section
variable {P : Program} {t e : TypeId} {s by_ : Nat} {ops : Array Oper} {rest : List Oper} {o : Oper} {a : Act} {Q : Exit → Act → World → Prop}
end
structure Sl where
 A : Option Addr
 n : Nat
 c : Nat
structure BkS where
 ti : Sl
 ix : Sl
 ty : Sl
 ch : Sl
 lp : Sl
 sd : Sl
 ut : Sl
@[reducible] def bkV (S : BkS) : Value := .agg #[.slice S.ti.A S.ti.n S.ti.c, .slice S.ix.A S.ix.n S.ix.c, .slice S.ty.A S.ty.n S.ty.c, .slice S.ch.A S.ch.n S.ch.c, .slice S.lp.A S.lp.n S.lp.c, .slice S.sd.A S.sd.n S.sd.c, .slice S.ut.A S.ut.n S.ut.c]
def Sl.ok (s : Sl) : Prop := (s.A = none → s.n = 0 ∧ s.c = 0) ∧ s.n ≤ s.c ∧ s.c ≤ 9223372036854775807
structure IsBk (w : World) (S : BkS) (b : Bk) : Prop where
 oti : S.ti.ok
 oix : S.ix.ok
 oty : S.ty.ok
 och : S.ch.ok
 olp : S.lp.ok
 osd : S.sd.ok
 out_ : S.ut.ok
 ti : Rd w S.ti.A S.ti.n (b.ti.map (Value.int .i64))
 ix : Rd w S.ix.A S.ix.n (b.ix.map (Value.int .u8))
 ty : Rk 3 w S.ty.A S.ty.n (tcs b.ty)
 ch : Rd w S.ch.A S.ch.n (b.ch.map (Value.int .u8))
 lp : Rk 2 w S.lp.A S.lp.n (lcs b.lp)
 sd : Rd w S.sd.A S.sd.n (bls b.sd)
 ut : Rd w S.ut.A S.ut.n (bls b.ut)
 ok : b.ok
section
variable {w w' : World} {S : BkS} {b : Bk}
theorem IsBk.below (h : IsBk w S b) (hb : Below w.heap.size w w') : IsBk w' S b :=
 ⟨h.oti, h.oix, h.oty, h.och, h.olp, h.osd, h.out_, h.ti.below hb, h.ix.below hb, h.ty.below hb, h.ch.below hb, h.lp.below hb, h.sd.below hb, h.ut.below hb, h.ok⟩
theorem IsBk.alloc (h : IsBk w S b) (o : Obj) : IsBk (w.alloc o) S b := h.below (bl_new w o)
theorem IsBk.drew (h : IsBk w S b) : IsBk w.drew S b := h.below (bl_drew (bl_refl w))
theorem IsBk.lens (h : IsBk w S b) : b.ti.length = S.ti.n ∧ b.ix.length = S.ix.n ∧ b.ty.length = S.ty.n ∧ b.ch.length = S.ch.n ∧ b.lp.length = S.lp.n ∧ b.sd.length = S.sd.n ∧ b.ut.length = S.ut.n := by
 refine ⟨?_, ?_, ?_, ?_, ?_, ?_, ?_⟩
 ·have := h.ti.len; simpa using this
 ·have := h.ix.len; simpa using this
 ·have := h.ty.len; rw [tcs_len] at this; omega
 ·have := h.ch.len; simpa using this
 ·have := h.lp.len; rw [lcs_len] at this; omega
 ·have := h.sd.len; simpa using this
 ·have := h.ut.len; simpa using this
end
def BkS.zero : BkS := ⟨⟨none, 0, 0⟩, ⟨none, 0, 0⟩, ⟨none, 0, 0⟩, ⟨none, 0, 0⟩, ⟨none, 0, 0⟩, ⟨none, 0, 0⟩, ⟨none, 0, 0⟩⟩
def IsTw (w : World) (a : Option Addr) (len cap : Nat) (ts : List TT) : Prop :=
 (a = none → len = 0 ∧ cap = 0) ∧ len ≤ cap ∧ cap ≤ 9223372036854775807 ∧ Rk 3 w a len (tcs ts) ∧ ∀ t ∈ ts, ttOk t
theorem IsTw.len {w : World} {a : Option Addr} {len cap : Nat} {ts : List TT} (h : IsTw w a len cap ts) : ts.length = len := by have := h.2.2.2.1.len; rw [tcs_len] at this; omega
section
variable {H : Type} {enc : TypeId × Value → H} {w : World} {base : Nat} {held : Bool} {spare : Nat → Bool}
theorem open_tt {fuel : Nat} {c0 c1 c2 : Value} {x : DataW H × List MemPlace} (h : DataW.trod enc Tryz.prog w base spare held fuel 57 [c0, c1, c2] = some x) : ∃ t : TT, ttOk t ∧ c0 = .int .i32 t.1 ∧ c1 = .bool t.2.1 ∧ c2 = .int .u8 t.2.2 := by
 obtain ⟨xs, n, _, _, _, hl, hx⟩ := DataW.trod_struct Tryz.underlying57 h
 simp at hl
 obtain ⟨y0, e0⟩ : ∃ y, xs[0]? = some y := ⟨_, List.getElem?_eq_getElem (by omega)⟩
 obtain ⟨y1, e1⟩ : ∃ y, xs[1]? = some y := ⟨_, List.getElem?_eq_getElem (by omega)⟩
 obtain ⟨y2, e2⟩ : ∃ y, xs[2]? = some y := ⟨_, List.getElem?_eq_getElem (by omega)⟩
 have g0 : DataW.trod enc Tryz.prog w base spare held n 21 [c0] = some y0 := by rw [← e0]; exact hx 0 _ rfl
 have g1 : DataW.trod enc Tryz.prog w base spare held n 4 [c1] = some y1 := by rw [← e1]; exact hx 1 _ rfl
 have g2 : DataW.trod enc Tryz.prog w base spare held n 5 [c2] = some y2 := by rw [← e2]; exact hx 2 _ rfl
 obtain ⟨a0, q0, _, w0⟩ := DataW.trod_int Tryz.underlying21 g0
 obtain ⟨a1, q1, _⟩ := DataW.trod_bool Tryz.underlying4 g1
 obtain ⟨a2, q2, _, w2⟩ := DataW.trod_int Tryz.underlying5 g2
 simp at q0 q1 q2
 refine ⟨(a0, a1, a2), ?_, q0, q1, q2⟩
 simp [Lit.wf, IntKind.min, IntKind.max, IntKind.signed, IntKind.bits] at w0 w2
 unfold ttOk
 dsimp only
 omega
theorem open_tw {fuel : Nat} {a : Option Addr} {len cap : Nat} {x : DataW H × List MemPlace} (h : DataW.trod enc Tryz.prog w base spare held fuel 24 [.slice a len cap] = some x) : ∃ ts, IsTw w a len cap ts := by
 rcases DataW.trod_slice Tryz.underlying24 h with ⟨hcs, _⟩ | ⟨ad, l, c, elems, rest, n, _, hcs, _, _, hl, hm, hlen, hel, _, _⟩
 ·simp at hcs
  obtain ⟨rfl, rfl, rfl⟩ := hcs
  exact ⟨[], fun _ => ⟨rfl, rfl⟩, Nat.le_refl _, by decide, Rk.none_ 3 w, by simp⟩
 ·simp at hcs
  obtain ⟨rfl, rfl, rfl⟩ := hcs
  have hC : Program.cellsOf Tryz.prog 57 = 3 := by kernel_rfl
  rw [hC] at hel
  have one : ∀ i, i < len → ∃ t : TT, ttOk t ∧ ∀ j v, (tc t)[j]? = some v → w.cell? (ad.add (i * 3 + j)) = some v := by
   intro i hi
   have e := hel i hi
   rw [List.getElem?_eq_getElem (by omega), Option.bind_eq_some_iff] at e
   obtain ⟨cs, hcs, hy⟩ := e
   obtain ⟨_, hn, hc⟩ := World.cells?_some hcs
   match cs, hn with
   | [c0, c1, c2], _ =>
     obtain ⟨t, ht, rfl, rfl, rfl⟩ := open_tt hy
     refine ⟨t, ht, fun j v hj => ?_⟩
     have hj3 : j < 3 := (List.getElem?_eq_some_iff.1 hj).1
     have := hc j hj3
     rw [addr_add] at this
     rw [this]
     exact hj
  have hall : ∀ k, k ≤ len → ∃ ts : List TT, ts.length = k ∧ (∀ t ∈ ts, ttOk t) ∧ ∀ i v, (tcs ts)[i]? = some v → w.cell? (ad.add i) = some v := by
   intro k
   induction k with
   | zero => exact fun _ => ⟨[], rfl, by simp, by simp [tcs]⟩
   | succ k ih =>
     intro hk
     obtain ⟨ts, h1, h2, h3⟩ := ih (by omega)
     obtain ⟨t, ht, hc⟩ := one k (by omega)
     refine ⟨ts ++ [t], by simp [h1], ?_, ?_⟩
     ·intro u hu
      rcases List.mem_append.1 hu with hu | hu
      ·exact h2 u hu
      ·rw [List.mem_singleton] at hu
       rw [hu]
       exact ht
     ·intro i v hi
      rw [tcs_app, tcs_one] at hi
      by_cases hlt : i < (tcs ts).length
      ·rw [List.getElem?_append_left hlt] at hi
       exact h3 i v hi
      ·rw [List.getElem?_append_right (by omega)] at hi
       rw [tcs_len, h1] at hlt hi
       have := hc (i - k * 3) v hi
       rwa [show k * 3 + (i - k * 3) = i by omega] at this
  obtain ⟨ts, h1, h2, h3⟩ := hall len (Nat.le_refl _)
  have hm' : cap ≤ 9223372036854775807 := by simp [maxLen] at hm; omega
  exact ⟨ts, (fun h => nomatch h), hl, hm', ⟨by rw [tcs_len, h1], fun _ => ⟨ad, rfl, h3⟩⟩, h2⟩
end
def IsLw (w : World) (a : Option Addr) (len cap : Nat) (ts : List LP) : Prop :=
 (a = none → len = 0 ∧ cap = 0) ∧ len ≤ cap ∧ cap ≤ 9223372036854775807 ∧ Rk 2 w a len (lcs ts) ∧ ∀ t ∈ ts, lpOk t
theorem IsLw.len {w : World} {a : Option Addr} {len cap : Nat} {ts : List LP} (h : IsLw w a len cap ts) : ts.length = len := by have := h.2.2.2.1.len; rw [lcs_len] at this; omega
section
variable {H : Type} {enc : TypeId × Value → H} {w : World} {base : Nat} {held : Bool} {spare : Nat → Bool}
theorem open_lp {fuel : Nat} {c0 c1 : Value} {x : DataW H × List MemPlace} (h : DataW.trod enc Tryz.prog w base spare held fuel 64 [c0, c1] = some x) : ∃ t : LP, lpOk t ∧ c0 = .int .i64 t.1 ∧ c1 = .int .i32 t.2 := by
 obtain ⟨xs, n, _, _, _, hl, hx⟩ := DataW.trod_struct Tryz.underlying64 h
 simp at hl
 obtain ⟨y0, e0⟩ : ∃ y, xs[0]? = some y := ⟨_, List.getElem?_eq_getElem (by omega)⟩
 obtain ⟨y1, e1⟩ : ∃ y, xs[1]? = some y := ⟨_, List.getElem?_eq_getElem (by omega)⟩
 have g0 : DataW.trod enc Tryz.prog w base spare held n 2 [c0] = some y0 := by rw [← e0]; exact hx 0 _ rfl
 have g1 : DataW.trod enc Tryz.prog w base spare held n 21 [c1] = some y1 := by rw [← e1]; exact hx 1 _ rfl
 obtain ⟨a0, q0, _, w0⟩ := DataW.trod_int Tryz.underlying2 g0
 obtain ⟨a1, q1, _, w1⟩ := DataW.trod_int Tryz.underlying21 g1
 simp at q0 q1
 refine ⟨(a0, a1), ?_, q0, q1⟩
 simp [Lit.wf, IntKind.min, IntKind.max, IntKind.signed, IntKind.bits] at w0 w1
 unfold lpOk
 dsimp only
 omega
theorem open_lw {fuel : Nat} {a : Option Addr} {len cap : Nat} {x : DataW H × List MemPlace} (h : DataW.trod enc Tryz.prog w base spare held fuel 25 [.slice a len cap] = some x) : ∃ ts, IsLw w a len cap ts := by
 rcases DataW.trod_slice Tryz.underlying25 h with ⟨hcs, _⟩ | ⟨ad, l, c, elems, rest, n, _, hcs, _, _, hl, hm, hlen, hel, _, _⟩
 ·simp at hcs
  obtain ⟨rfl, rfl, rfl⟩ := hcs
  exact ⟨[], fun _ => ⟨rfl, rfl⟩, Nat.le_refl _, by decide, Rk.none_ 2 w, by simp⟩
 ·simp at hcs
  obtain ⟨rfl, rfl, rfl⟩ := hcs
  have hC : Program.cellsOf Tryz.prog 64 = 2 := by kernel_rfl
  rw [hC] at hel
  have one : ∀ i, i < len → ∃ t : LP, lpOk t ∧ ∀ j v, (lc t)[j]? = some v → w.cell? (ad.add (i * 2 + j)) = some v := by
   intro i hi
   have e := hel i hi
   rw [List.getElem?_eq_getElem (by omega), Option.bind_eq_some_iff] at e
   obtain ⟨cs, hcs, hy⟩ := e
   obtain ⟨_, hn, hc⟩ := World.cells?_some hcs
   match cs, hn with
   | [c0, c1], _ =>
     obtain ⟨t, ht, rfl, rfl⟩ := open_lp hy
     refine ⟨t, ht, fun j v hj => ?_⟩
     have hj2 : j < 2 := (List.getElem?_eq_some_iff.1 hj).1
     have := hc j hj2
     rw [addr_add] at this
     rw [this]
     exact hj
  have hall : ∀ k, k ≤ len → ∃ ts : List LP, ts.length = k ∧ (∀ t ∈ ts, lpOk t) ∧ ∀ i v, (lcs ts)[i]? = some v → w.cell? (ad.add i) = some v := by
   intro k
   induction k with
   | zero => exact fun _ => ⟨[], rfl, by simp, by simp [lcs]⟩
   | succ k ih =>
     intro hk
     obtain ⟨ts, h1, h2, h3⟩ := ih (by omega)
     obtain ⟨t, ht, hc⟩ := one k (by omega)
     refine ⟨ts ++ [t], by simp [h1], ?_, ?_⟩
     ·intro u hu
      rcases List.mem_append.1 hu with hu | hu
      ·exact h2 u hu
      ·rw [List.mem_singleton] at hu
       rw [hu]
       exact ht
     ·intro i v hi
      rw [lcs_app, lcs_one] at hi
      by_cases hlt : i < (lcs ts).length
      ·rw [List.getElem?_append_left hlt] at hi
       exact h3 i v hi
      ·rw [List.getElem?_append_right (by omega)] at hi
       rw [lcs_len, h1] at hlt hi
       have := hc (i - k * 2) v hi
       rwa [show k * 2 + (i - k * 2) = i by omega] at this
  obtain ⟨ts, h1, h2, h3⟩ := hall len (Nat.le_refl _)
  have hm' : cap ≤ 9223372036854775807 := by simp [maxLen] at hm; omega
  exact ⟨ts, (fun h => nomatch h), hl, hm', ⟨by rw [lcs_len, h1], fun _ => ⟨ad, rfl, h3⟩⟩, h2⟩
end
open Go.ChangeShapes Go.WideShapes Go.ChangeAt Go.RowKit Go.Deep
section
variable {H : Type} {enc : TypeId × Value → H} {P : Program} {w : World} {base : Nat} {held : Bool}
theorem open_bw {t e : TypeId} {fuel : Nat} {a : Option Addr} {len cap : Nat} {x : DataW H × List MemPlace} (ht : P.underlying t = some (.slice e)) (he : P.underlying e = some .bool) (hC : P.cellsOf e = 1)
 (h : DataW.trod enc P w base (fun _ => true) held fuel t [.slice a len cap] = some x) : ∃ bs, IsBw w a len cap bs := by
 rcases open_bools ht he hC h with ⟨hcs, _⟩ | ⟨ad, l, c, B, hcs, _, hl, hm, _, hcell⟩
 ·simp at hcs
  obtain ⟨rfl, rfl, rfl⟩ := hcs
  exact ⟨[], fun _ => ⟨rfl, rfl⟩, Nat.le_refl _, by decide, Rd.none_ w⟩
 ·simp at hcs
  obtain ⟨rfl, rfl, rfl⟩ := hcs
  have hm' : cap ≤ 9223372036854775807 := by simp [maxLen] at hm; omega
  refine ⟨(List.range len).map B, (fun h => nomatch h), hl, hm', by simp, fun _ => ⟨ad, rfl, fun i v hi => ?_⟩⟩
  have hlt : i < len := by have := (List.getElem?_eq_some_iff.1 hi).1; simpa using this
  rw [List.getElem?_map, List.getElem?_map, List.getElem?_range hlt] at hi
  simp at hi
  rw [hcell i (by omega), hi]
end
end Go.Proofs.YtbehflfpdkedgaaGreatDoor

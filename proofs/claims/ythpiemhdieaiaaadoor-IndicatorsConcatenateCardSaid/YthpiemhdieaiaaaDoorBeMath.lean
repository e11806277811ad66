/-
  PLAIN MATHEMATICS of big-endian fields: values of byte lists, the bytes of a value, signed values. No program.
-/
import Derived.Test.YthpiemhdieaiaaaDoorBase
namespace Go.Proofs.YthpiemhdieaiaaaDoor
open Go.RowKit
set_option linter.unusedVariables false

def uval (l : List Int) : Int := l.foldl (fun a x => a * 256 + x) 0
def Bytes (l : List Int) : Prop := ∀ i : Nat, 0 ≤ l[i]?.getD 0 ∧ l[i]?.getD 0 < 256
theorem bytes_of_mem {l : List Int} (h : ∀ x ∈ l, 0 ≤ x ∧ x < 256) : Bytes l := by
  intro i
  cases hx : l[i]? with
  | none => simp
  | some x => simpa using h x (List.mem_of_getElem? hx)
theorem Bytes.mem {l : List Int} (h : Bytes l) : ∀ x ∈ l, 0 ≤ x ∧ x < 256 := by
  intro x hx
  obtain ⟨i, hi, rfl⟩ := List.getElem_of_mem hx
  have := h i
  simpa [List.getElem?_eq_getElem hi] using this
theorem Bytes.app {l m : List Int} (h : Bytes l) (h' : Bytes m) : Bytes (l ++ m) := bytes_of_mem fun x hx => by
  rcases List.mem_append.1 hx with hx | hx
  · exact h.mem x hx
  · exact h'.mem x hx
theorem Bytes.take {l : List Int} (h : Bytes l) (k : Nat) : Bytes (l.take k) := bytes_of_mem fun x hx => h.mem x (List.mem_of_mem_take hx)
theorem Bytes.drop {l : List Int} (h : Bytes l) (k : Nat) : Bytes (l.drop k) := bytes_of_mem fun x hx => h.mem x (List.mem_of_mem_drop hx)

theorem uval_snoc (l : List Int) (x : Int) : uval (l ++ [x]) = uval l * 256 + x := by simp [uval]
theorem uval_bd (l : List Int) (h : Bytes l) : 0 ≤ uval l ∧ uval l < 256 ^ l.length := by
  have key : ∀ (l : List Int), (∀ x ∈ l, 0 ≤ x ∧ x < 256) → ∀ a k : Int, 0 ≤ a → a < k → 0 ≤ l.foldl (fun a x => a * 256 + x) a ∧ l.foldl (fun a x => a * 256 + x) a < k * 256 ^ l.length := by
    intro l
    induction l with
    | nil => intro _ a k h0 h1; simpa using ⟨h0, h1⟩
    | cons x l ih =>
      intro hx a k h0 h1
      have hxx := hx x (by simp)
      have := ih (fun y hy => hx y (by simp [hy])) (a * 256 + x) (k * 256) (by omega) (by omega)
      rw [List.foldl_cons, List.length_cons, Int.pow_succ, Int.mul_comm (256 ^ l.length) 256, ← Int.mul_assoc]
      exact this
  have := key l h.mem 0 1 (by omega) (by omega)
  simpa [uval] using this
theorem uval_bd8 (l : List Int) (h : Bytes l) (hl : l.length ≤ 8) : 0 ≤ uval l ∧ uval l < 18446744073709551616 := by
  have h1 := uval_bd l h
  refine ⟨h1.1, Int.lt_of_lt_of_le h1.2 ?_⟩
  match l.length, hl with
  | 0, _ => decide
  | 1, _ => decide
  | 2, _ => decide
  | 3, _ => decide
  | 4, _ => decide
  | 5, _ => decide
  | 6, _ => decide
  | 7, _ => decide
  | 8, _ => decide
theorem uval_bd7 (l : List Int) (h : Bytes l) (hl : l.length ≤ 7) : 0 ≤ uval l ∧ uval l < 72057594037927936 := by
  have h1 := uval_bd l h
  refine ⟨h1.1, Int.lt_of_lt_of_le h1.2 ?_⟩
  match l.length, hl with
  | 0, _ => decide
  | 1, _ => decide
  | 2, _ => decide
  | 3, _ => decide
  | 4, _ => decide
  | 5, _ => decide
  | 6, _ => decide
  | 7, _ => decide
/-- the field of k bytes at off. -/
def fld (l : List Int) (off k : Nat) : List Int := (l.drop off).take k
theorem fld_len (l : List Int) (off k : Nat) (h : off + k ≤ l.length) : (fld l off k).length = k := by simp [fld]; omega
theorem fld_bytes {l : List Int} (h : Bytes l) (off k : Nat) : Bytes (fld l off k) := (h.drop off).take k
theorem fld_step (l : List Int) (off k : Nat) (h : off + k < l.length) : fld l off (k + 1) = fld l off k ++ [l[off + k]?.getD 0] := by
  unfold fld
  rw [List.take_succ_eq_append_getElem (by simp; omega)]
  simp [List.getElem?_eq_getElem h]
theorem fld_zero (l : List Int) (off : Nat) : fld l off 0 = [] := by simp [fld]

theorem shl_or (u b : Int) (h0 : 0 ≤ u) (h1 : u < 72057594037927936) (b0 : 0 ≤ b) (b1 : b < 256) :
    bits .or .u64 (u * 256) b = u * 256 + b := by
  rw [u64_or _ _ (by omega) (by omega) (by omega) (by omega)]
  obtain ⟨x, rfl⟩ := Int.eq_ofNat_of_zero_le h0
  obtain ⟨y, rfl⟩ := Int.eq_ofNat_of_zero_le b0
  have e : ((x : Int) * 256).toNat = x * 256 := by omega
  rw [e, Int.toNat_natCast, nat_join 8 (x * 256) y (by omega) (by omega)]
  omega

/-- the low k bytes of v. -/
def be (k : Nat) (v : Int) : List Int := (List.range k).map fun i => v / 2 ^ (8 * (k - 1 - i)) % 256
theorem be_len (k : Nat) (v : Int) : (be k v).length = k := by simp [be]
theorem be_step (k : Nat) (v : Int) (i : Nat) (h : i < k) : (be k v).take (i + 1) = (be k v).take i ++ [v / 2 ^ (8 * (k - 1 - i)) % 256] := by
  rw [List.take_succ_eq_append_getElem (by simpa [be] using h)]
  simp [be]
theorem be_bytes (k : Nat) (v : Int) : Bytes (be k v) := bytes_of_mem fun x hx => by
  obtain ⟨i, _, rfl⟩ := List.mem_map.1 hx
  omega
theorem app_step (l : List Int) (k : Nat) (v : Int) (i : Nat) (h : i < k) :
    (l ++ (be k v).take i).map (Value.int .u8) ++ [.int .u8 (v / 2 ^ (8 * (k - 1 - i)) % 256)] = (l ++ (be k v).take (i + 1)).map (Value.int .u8) := by
  rw [be_step k v i h]; simp
/-- one digit ahead: the bytes of v are those of v / 256, and its last. -/
theorem be_succ (k : Nat) (v : Int) : be (k + 1) v = be k (v / 256) ++ [v % 256] := by
  unfold be
  rw [List.range_succ, List.map_append]
  congr 1
  · apply List.map_congr_left
    intro i hi
    have hi' : i < k := by simpa using hi
    have e : 8 * (k + 1 - 1 - i) = 8 + 8 * (k - 1 - i) := by omega
    rw [e, Int.pow_add, ← Int.ediv_ediv_of_nonneg (by decide)]
    rfl
  · simp
theorem be_cons (k : Nat) (v : Int) : be (k + 1) v = (v / 2 ^ (8 * k) % 256) :: be k v := by
  unfold be
  rw [List.range_succ_eq_map, List.map_cons, List.map_map]
  congr 1
  apply List.map_congr_left
  intro i hi
  simp only [Function.comp]
  have : k + 1 - 1 - (i + 1) = k - 1 - i := by omega
  rw [Nat.succ_eq_add_one, this]
theorem uval_be (k : Nat) : ∀ v : Int, uval (be k v) = v % 256 ^ k := by
  induction k with
  | zero => intro v; simp [be, uval, Int.emod_one]
  | succ k ih =>
    intro v
    rw [be_succ, uval_snoc, ih, Int.pow_succ]
    have hp : (0 : Int) < 256 ^ k := Int.pow_pos (by decide)
    generalize (256 : Int) ^ k = p at hp
    have h2 := Int.emod_add_mul_ediv (v / 256) p
    have q0 := Int.emod_nonneg (v / 256) (Int.ne_of_gt hp)
    have q1 := Int.emod_lt_of_pos (v / 256) hp
    have h3 : 256 * p * (v / 256 / p) = 256 * (p * (v / 256 / p)) := Int.mul_assoc _ _ _
    have hv : v = (v / 256 % p * 256 + v % 256) + (256 * p) * (v / 256 / p) := by omega
    have e : v % (256 * p) = (v / 256 % p * 256 + v % 256) % (256 * p) := by
      have := Int.add_mul_emod_self_left (v / 256 % p * 256 + v % 256) (256 * p) (v / 256 / p)
      rw [← hv] at this
      exact this
    rw [Int.mul_comm p 256, e]
    exact (Int.emod_eq_of_lt (by omega) (by omega)).symm
theorem oneCells (k : IntKind) (l : List Int) : ∀ u ∈ l.map (Value.int k), u.oneCell' = true := by
  intro u hu
  obtain ⟨x, _, rfl⟩ := List.mem_map.1 hu
  rfl
theorem map_at (k : IntKind) (l : List Int) (i : Nat) (h : i < l.length) : (l.map (Value.int k))[i]? = some (.int k (l[i]?.getD 0)) := by
  simp [List.getElem?_eq_getElem h]
theorem Rd.int {w : World} {A : Option Addr} {n : Nat} {k : IntKind} {l : List Int} (h : Rd w A n (l.map (Value.int k))) {i : Nat} (hi : i < n) : ∃ ad, A = some ad ∧ w.cell? (ad.add i) = some (.int k (l[i]?.getD 0)) := by
  obtain ⟨ad, v, e, hv, hc⟩ := h.at_ hi
  have hl : i < l.length := by have := h.len; simp at this; omega
  rw [map_at k l i hl] at hv
  injection hv with hv
  exact ⟨ad, e, by rw [hv]; exact hc⟩
theorem Rd.lit (w : World) (e : TypeId) (xs : List Value) : Rd (w.alloc (.cells xs.toArray e)) (some ⟨w.heap.size, 0, none⟩) xs.length xs := by
  refine ⟨rfl, fun _ => ⟨_, rfl, fun i v hi => ?_⟩⟩
  rw [addr_flat, Nat.zero_add, cell_of_row _ w.heap.size i xs.toArray e (0, 0) (heap_alloc_new w _)]
  simpa using hi

theorem Rd.ints (w : World) (e : TypeId) (k : IntKind) (l : List Int) (n : Nat) {g : Nat} (hn : l.length = n) (hg : w.heap.size = g) : Rd (w.alloc (.cells (l.map (Value.int k)).toArray e)) (some ⟨g, 0, none⟩) n (l.map (Value.int k)) := by
  subst hn
  subst hg
  have := Rd.lit w e (l.map (Value.int k))
  rw [List.length_map] at this
  exact this
theorem fld_app (l m : List Int) (n k : Nat) (hn : l.length = n) (hk : m.length = k) : fld (l ++ m) n k = m := by
  subst hn
  subst hk
  simp [fld]
theorem fld_one (l : List Int) (i : Nat) (h : i < l.length) : uval (fld l i 1) = l[i]?.getD 0 := by
  have := fld_step l i 0 (by omega)
  rw [this, fld_zero]
  simp [uval]
theorem map_set (k : IntKind) (l : List Int) (j : Nat) (x : Int) : (l.map (Value.int k)).set j (.int k x) = (l.set j x).map (Value.int k) := by rw [List.map_set]
theorem Bytes.set {l : List Int} (h : Bytes l) (j : Nat) {x : Int} (h0 : 0 ≤ x) (h1 : x < 256) : Bytes (l.set j x) := bytes_of_mem fun y hy => by
  rcases List.mem_or_eq_of_mem_set hy with hy | rfl
  · exact h.mem y hy
  · exact ⟨h0, h1⟩
/-- the lower m bytes of v are less than those of u. -/
def ltD (v u : Int) (m : Nat) : Bool := decide (v % 256 ^ m < u % 256 ^ m)
theorem ltD_zero (v u : Int) : ltD v u 0 = false := by simp [ltD, Int.emod_one]
theorem emod_pow_succ (v : Int) (m : Nat) : v % 256 ^ (m + 1) = v / 256 ^ m % 256 * 256 ^ m + v % 256 ^ m := by
  have hp : (0 : Int) < 256 ^ m := Int.pow_pos (by decide)
  rw [Int.pow_succ]
  generalize (256 : Int) ^ m = p at hp
  have h1 := Int.emod_add_mul_ediv v p
  have h2 := Int.emod_add_mul_ediv (v / p) 256
  have q0 := Int.emod_nonneg v (Int.ne_of_gt hp)
  have q1 := Int.emod_lt_of_pos v hp
  have r0 : 0 ≤ v / p % 256 ∧ v / p % 256 < 256 := by omega
  have e1 : p * (v / p) = v / p % 256 * p + (p * 256) * (v / p / 256) := by
    rw [Int.mul_assoc, ← Int.mul_comm p (v / p % 256), ← Int.mul_add, h2]
  have hv : v = (v / p % 256 * p + v % p) + (p * 256) * (v / p / 256) := by omega
  have hlo : 0 ≤ v / p % 256 * p := Int.mul_nonneg r0.1 (by omega)
  have hhi : v / p % 256 * p ≤ 255 * p := Int.mul_le_mul_of_nonneg_right (by omega) (by omega)
  have e : v % (p * 256) = (v / p % 256 * p + v % p) % (p * 256) := by
    have := Int.add_mul_emod_self_left (v / p % 256 * p + v % p) (p * 256) (v / p / 256)
    rw [← hv] at this
    exact this
  rw [e]
  exact Int.emod_eq_of_lt (by omega) (by omega)
theorem ltD_eq (v u : Int) (m : Nat) (h : v / 256 ^ m % 256 = u / 256 ^ m % 256) : ltD v u (m + 1) = ltD v u m := by
  unfold ltD
  rw [emod_pow_succ, emod_pow_succ, h, decide_eq_decide]
  omega
theorem ltD_ne (v u : Int) (m : Nat) (h : v / 256 ^ m % 256 ≠ u / 256 ^ m % 256) : ltD v u (m + 1) = decide (v / 256 ^ m % 256 < u / 256 ^ m % 256) := by
  unfold ltD
  rw [emod_pow_succ, emod_pow_succ, decide_eq_decide]
  have hp : (0 : Int) < 256 ^ m := Int.pow_pos (by decide)
  have q0 := Int.emod_nonneg v (Int.ne_of_gt hp)
  have q1 := Int.emod_lt_of_pos v hp
  have q2 := Int.emod_nonneg u (Int.ne_of_gt hp)
  have q3 := Int.emod_lt_of_pos u hp
  generalize v / 256 ^ m % 256 = x at *
  generalize u / 256 ^ m % 256 = y at *
  generalize v % 256 ^ m = a at *
  generalize u % 256 ^ m = b at *
  generalize (256 : Int) ^ m = p at *
  rcases Int.lt_or_lt_of_ne h with h | h
  · have : (x + 1) * p ≤ y * p := Int.mul_le_mul_of_nonneg_right (by omega) (by omega)
    rw [Int.add_mul, Int.one_mul] at this
    exact ⟨fun _ => h, fun _ => by omega⟩
  · have : (y + 1) * p ≤ x * p := Int.mul_le_mul_of_nonneg_right (by omega) (by omega)
    rw [Int.add_mul, Int.one_mul] at this
    exact ⟨fun _ => by omega, fun _ => by omega⟩
theorem be_get (k : Nat) (v : Int) (q : Nat) (h : q < k) : (be k v)[q]?.getD 0 = v / 256 ^ (k - 1 - q) % 256 := by
  unfold be
  rw [List.getElem?_map, List.getElem?_range h]
  simp [Int.pow_mul]
/-- reading the field of k bytes at off comes to v and b. -/
def Fe (l : List Int) (n : Nat) (off k v : Int) (b : Bool) : Prop := (b = true ∧ 0 ≤ off ∧ off + k ≤ n ∧ uval (fld l off.toNat k.toNat) = v) ∨ (b = false ∧ (off < 0 ∨ (n : Int) < off + k) ∧ v = 0)
theorem Fe.ex (l : List Int) (n : Nat) (off k : Int) : ∃ v b, Fe l n off k v b := by
  by_cases h : 0 ≤ off ∧ off + k ≤ n
  · exact ⟨_, true, .inl ⟨rfl, h.1, h.2, rfl⟩⟩
  · exact ⟨0, false, .inr ⟨rfl, by omega, rfl⟩⟩
theorem Fe.yes {l : List Int} {n : Nat} {off k v : Int} {b : Bool} (h : Fe l n off k v b) (hb : b = true) : 0 ≤ off ∧ off + k ≤ n ∧ uval (fld l off.toNat k.toNat) = v := by
  rcases h with ⟨_, h⟩ | ⟨h, _⟩
  · exact h
  · rw [hb] at h; cases h
theorem Fe.no {l : List Int} {n : Nat} {off k v : Int} {b : Bool} (h : Fe l n off k v b) (hb : b = false) : (off < 0 ∨ (n : Int) < off + k) ∧ v = 0 := by
  rcases h with ⟨h, _⟩ | ⟨_, h⟩
  · rw [hb] at h; cases h
  · exact h
/-- the signed value of the low k bytes of u. -/
def sgn (k u : Int) : Int :=
  if k = 1 then (if u % 256 < 128 then u % 256 else u % 256 - 256)
  else if k = 4 then (if u % 4294967296 < 2147483648 then u % 4294967296 else u % 4294967296 - 4294967296)
  else (if u % 18446744073709551616 < 9223372036854775808 then u % 18446744073709551616 else u % 18446744073709551616 - 18446744073709551616)
theorem sgn_lo (k u : Int) (h : k = 1 ∨ k = 4 ∨ k = 8) (h0 : 0 ≤ u) (h1 : u < if k = 1 then 128 else if k = 4 then 2147483648 else 9223372036854775808) : sgn k u = u := by
  unfold sgn
  rcases h with rfl | rfl | rfl <;> simp at h1 ⊢ <;> omega
def fitsB (k v : Int) : Bool := decide (k = 8 ∨ (k = 4 ∧ -2147483648 ≤ v ∧ v < 2147483648) ∨ (k = 1 ∧ -128 ≤ v ∧ v < 128))
theorem sgn_mod (k s : Int) (h : k = 1 ∨ k = 4 ∨ k = 8) (h0 : -9223372036854775808 ≤ s) (h1 : s < 9223372036854775808) :
    (sgn k (s % 18446744073709551616 % 256 ^ k.toNat) == s) = fitsB k s ∧ fitsB k (sgn k (s % 18446744073709551616 % 256 ^ k.toNat)) = true ∧
    -9223372036854775808 ≤ sgn k (s % 18446744073709551616 % 256 ^ k.toNat) ∧ sgn k (s % 18446744073709551616 % 256 ^ k.toNat) < 9223372036854775808 := by
  rw [Bool.eq_iff_iff, beq_iff_eq]
  unfold fitsB
  simp only [decide_eq_true_eq]
  rcases h with rfl | rfl | rfl
  · simp [sgn, show (1 : Int).toNat = 1 from rfl]; omega
  · simp [sgn, show (4 : Int).toNat = 4 from rfl]; omega
  · simp [sgn, show (8 : Int).toNat = 8 from rfl]; omega
end Go.Proofs.YthpiemhdieaiaaaDoor

/-
  WORDS ON SLICES AND WORLDS, over no program: 'Rd' (a slice reads as a list of cells), 'Ow' (a slice of the call's own), and laws of append, make and copy for them. Plain theorems; no condition beyond what each states.
  PLAIN MATHEMATICS of big-endian fields: values of byte lists, the bytes of a value, signed values. No program.
  MORE WORDS ON SLICES: appending to one slice of the call's own beside others ('Gw', 'Dj'): the others stay, and stay apart. Plain theorems; no condition beyond what each states.
-/
import Derived.WalkKit
import Derived.ProofKit
import Derived.OpenShut
import Derived.ShutString
import Derived.ChangeOld
import Derived.Below
import Derived.BigQuiet
import Derived.Deep.QuietTactic
import Derived.Deep.Draws
import Derived.Deep.AppendLies
import Derived.Maps.AppendAt
import Derived.OwnWalk
import Derived.Laws.OwnMore
import Derived.Laws.CopyOwn
import Derived.Laws.AppendOwnNone
import Derived.Laws.BitsAllLaws
namespace Go.Proofs.Ytgbojkbhkjameaa
open Go.RowKit
set_option linter.unusedVariables false
set_option maxRecDepth 100000

theorem hide {p : Prop} (h : p) : Hid p := h
theorem retb {a b : Bool} (h : a = b) : Ending.returned (.bool a) = .returned (.bool b) := by rw [h]
theorem reti {k : IntKind} {a b : Int} (h : a = b) : Ending.returned (.int k a) = .returned (.int k b) := by rw [h]
theorem retib {k : IntKind} {a b : Int} {p q : Bool} (h : a = b) (h' : p = q) : Ending.returned (.tuple #[.int k a, .bool p]) = .returned (.tuple #[.int k b, .bool q]) := by rw [h, h']

/-! ### addresses -/
theorem addr_block (a : Addr) (n : Nat) : (a.add n).block = a.block := by
  unfold Addr.add
  split <;> rfl
theorem addr_add (a : Addr) (i j : Nat) : (a.add i).add j = a.add (i + j) := by
  unfold Addr.add
  by_cases hi : i = 0 <;> by_cases hj : j = 0 <;> simp [hi, hj, Nat.add_assoc]
theorem addr_flat (g o j : Nat) : (⟨g, o, none⟩ : Addr).add j = ⟨g, o + j, none⟩ := by
  unfold Addr.add
  split
  · rename_i h
    have : j = 0 := by simpa using h
    subst this
    rfl
  · rfl
theorem cell_lt {w : World} {p : Addr} {v : Value} (h : w.cell? p = some v) : p.block < w.heap.size := by
  rcases Nat.lt_or_ge p.block w.heap.size with hlt | hge
  · exact hlt
  · unfold World.cell? at h
    rw [Array.getElem?_eq_none hge] at h
    simp at h

theorem bel_drewN {B : Nat} {a w : World} (h : Below B a w) (n : Nat) : Below B a (w.drewN n) := ⟨h.os, h.tape, h.output, h.size, h.block⟩
/-- a later call's part: below the first world's size. -/
theorem bel_next {w w1 w2 : World} (h : Below w.heap.size w w1) (h2 : Below w1.heap.size w1 w2) : Below w.heap.size w w2 := h.trans (h2.mono h.size)

theorem bl_refl (w : World) : Below w.heap.size w w := Below.refl _ _
theorem bl_alloc {a w : World} (h : Below a.heap.size a w) (o : Obj) : Below a.heap.size a (w.alloc o) := h.alloc h.size o
theorem bl_new (w : World) (o : Obj) : Below w.heap.size w (w.alloc o) := bl_alloc (Below.refl _ _) o

/-! ### what a slice reads as -/
def Rd (w : World) (A : Option Addr) (n : Nat) (xs : List Value) : Prop :=
  xs.length = n ∧ (0 < n → ∃ ad, A = some ad ∧ ∀ i v, xs[i]? = some v → w.cell? (ad.add i) = some v)

section
variable {w w' : World} {A : Option Addr} {n : Nat} {xs : List Value}
theorem Rd.len (h : Rd w A n xs) : xs.length = n := h.1
theorem Rd.none_ (w : World) : Rd w none 0 [] := ⟨rfl, fun h => absurd h (by omega)⟩
theorem Rd.at_ (h : Rd w A n xs) {i : Nat} (hi : i < n) : ∃ ad v, A = some ad ∧ xs[i]? = some v ∧ w.cell? (ad.add i) = some v := by
  obtain ⟨ad, e, hc⟩ := h.2 (by omega)
  have hl : i < xs.length := by have := h.1; omega
  exact ⟨ad, xs[i], e, List.getElem?_eq_getElem hl, hc i _ (List.getElem?_eq_getElem hl)⟩
theorem Rd.flat {g o : Nat} (h : Rd w (some ⟨g, o, none⟩) n xs) {i : Nat} {v : Value} (hv : xs[i]? = some v) : w.cell? ⟨g, o + i, none⟩ = some v := by
  have hi : i < n := by
    have := (List.getElem?_eq_some_iff.1 hv).1
    have := h.1
    omega
  obtain ⟨ad, e, hc⟩ := h.2 (by omega)
  cases e
  have := hc i v hv
  rwa [addr_flat] at this
theorem Rd.flat0 {g : Nat} (h : Rd w (some ⟨g, 0, none⟩) n xs) {i : Nat} {v : Value} (hv : xs[i]? = some v) : w.cell? ⟨g, i, none⟩ = some v := by
  have := h.flat hv
  rwa [Nat.zero_add] at this
theorem Rd.keep (h : Rd w A n xs) (hk : ∀ p : Addr, p.block < w.heap.size → w'.cell? p = w.cell? p) : Rd w' A n xs :=
  ⟨h.1, fun hn => by
    obtain ⟨ad, e, hc⟩ := h.2 hn
    exact ⟨ad, e, fun i v hi => by have := hc i v hi; rw [hk _ (cell_lt this)]; exact this⟩⟩
theorem Rd.below (h : Rd w A n xs) (hb : Below w.heap.size w w') : Rd w' A n xs := h.keep fun _ hp => hb.cell hp
theorem Rd.alloc (h : Rd w A n xs) (o : Obj) : Rd (w.alloc o) A n xs := h.below (bl_new w o)
theorem Rd.drew (h : Rd w A n xs) : Rd w.drew A n xs := h
theorem Rd.drewN (h : Rd w A n xs) (k : Nat) : Rd (w.drewN k) A n xs := h
theorem Rd.cut (h : Rd w A n xs) {k cap : Nat} (hk : k ≤ n) (hc : n ≤ cap) : Rd w (if cap = k then A else A.map (·.add k)) (n - k) (xs.drop k) := by
  refine ⟨by rw [List.length_drop, h.1], fun hn => ?_⟩
  obtain ⟨ad, rfl, hcell⟩ := h.2 (by omega)
  rw [if_neg (by omega)]
  refine ⟨ad.add k, rfl, fun i v hi => ?_⟩
  rw [addr_add]
  exact hcell _ v (by rw [← hi, List.getElem?_drop])
theorem Rd.take (h : Rd w A n xs) {k : Nat} (hk : k ≤ n) : Rd w A k (xs.take k) := by
  refine ⟨by rw [List.length_take, h.1]; omega, fun hn => ?_⟩
  obtain ⟨ad, e, hcell⟩ := h.2 (by omega)
  refine ⟨ad, e, fun i v hi => hcell i v ?_⟩
  rw [List.getElem?_take] at hi
  split at hi
  · exact hi
  · cases hi
end

/-- what a slice of integers that came in is: the shells' own words. -/
def IsRw (k : IntKind) (w : World) (a : Option Addr) (len cap : Nat) (zs : List Int) : Prop :=
  (a = none ∧ len = 0 ∧ cap = 0 ∧ zs = []) ∨
  ∃ x, a = some x ∧ len ≤ cap ∧ cap ≤ maxLen ∧ zs.length = cap ∧ (∀ i, i < zs.length → w.cell? (x.add i) = some (.int k (zs.getD i 0))) ∧ ∀ n ∈ zs, (Lit.int k n).wf = true
theorem IsRw.nil {k : IntKind} {w : World} {a : Option Addr} {len cap : Nat} {zs : List Int} (h : IsRw k w a len cap zs) : a = none → len = 0 ∧ cap = 0 := by
  rintro rfl
  rcases h with ⟨_, h1, h2, _⟩ | ⟨x, h, _⟩
  · exact ⟨h1, h2⟩
  · cases h
theorem IsRw.cap {k : IntKind} {w : World} {a : Option Addr} {len cap : Nat} {zs : List Int} (h : IsRw k w a len cap zs) : len ≤ cap ∧ cap ≤ 9223372036854775807 := by
  rcases h with ⟨_, h1, h2, _⟩ | ⟨x, h, h1, h2, _⟩
  · omega
  · exact ⟨h1, by simpa [maxLen] using h2⟩
theorem IsRw.rd {k : IntKind} {w : World} {a : Option Addr} {len cap : Nat} {zs : List Int} (h : IsRw k w a len cap zs) : Rd w a len ((zs.take len).map (Value.int k)) := by
  rcases h with ⟨rfl, rfl, rfl, rfl⟩ | ⟨x, rfl, h1, h2, h3, h4, _⟩
  · exact Rd.none_ w
  · refine ⟨by simp; omega, fun _ => ⟨x, rfl, fun i v hi => ?_⟩⟩
    have hl : i < len := by
      have := (List.getElem?_eq_some_iff.1 hi).1
      simp at this
      omega
    rw [List.getElem?_map, List.getElem?_take, if_pos hl] at hi
    rw [h4 i (by omega)]
    rw [List.getElem?_eq_getElem (by omega)] at hi
    simp at hi
    rw [← hi, List.getD_eq_getElem?_getD, List.getElem?_eq_getElem (by omega)]
    rfl
theorem IsRw.wf {k : IntKind} {w : World} {a : Option Addr} {len cap : Nat} {zs : List Int} (h : IsRw k w a len cap zs) : ∀ n ∈ zs.take len, (Lit.int k n).wf = true := by
  intro n hn
  rcases h with ⟨rfl, rfl, rfl, rfl⟩ | ⟨x, rfl, h1, h2, h3, h4, h5⟩
  · simp at hn
  · exact h5 n (List.mem_of_mem_take hn)
theorem wf_u8 {n : Int} (h : (Lit.int .u8 n).wf = true) : 0 ≤ n ∧ n < 256 := by simp [Lit.wf, IntKind.min, IntKind.max, IntKind.signed, IntKind.bits] at h; omega
theorem wf_u64 {n : Int} (h : (Lit.int .u64 n).wf = true) : 0 ≤ n ∧ n < 18446744073709551616 := by simp [Lit.wf, IntKind.min, IntKind.max, IntKind.signed, IntKind.bits] at h; omega
theorem wf_i64 {n : Int} (h : (Lit.int .i64 n).wf = true) : -9223372036854775808 ≤ n ∧ n < 9223372036854775808 := by simp [Lit.wf, IntKind.min, IntKind.max, IntKind.signed, IntKind.bits] at h; omega

/-! ### a slice of the call's own -/
def Ow (w : World) (b : Nat) (e : TypeId) (A : Option Addr) (n c : Nat) (xs : List Value) : Prop :=
  b ≤ w.heap.size ∧ w.ownsRow b e 1 (.slice A n c) n xs

section
variable {w w' : World} {b : Nat} {e : TypeId} {A : Option Addr} {n c : Nat} {xs : List Value}
theorem Ow.len (h : Ow w b e A n c xs) : xs.length = n := by have := h.2.1; omega
theorem Ow.base (h : Ow w b e A n c xs) : b ≤ w.heap.size := h.1
theorem Ow.nil (hb : b ≤ w.heap.size) (e : TypeId) : Ow w b e none 0 0 [] := ⟨hb, World.ownsRow_nil _ _ _ _⟩
theorem Ow.cap (h : Ow w b e A n c xs) : n ≤ c := by
  rcases h.2.2 with ⟨h', rfl⟩ | ⟨g, cap, cur, h', _, _, hn, _⟩
  · omega
  · injection h' with _ _ h3
    omega
theorem Ow.capMax (h : Ow w b e A n c xs) : c ≤ maxLen := by
  rcases h.2.2 with ⟨h', rfl⟩ | ⟨g, cap, cur, h', _, _, hn, hm, _⟩
  · injection h' with _ _ h3
    omega
  · injection h' with _ _ h3
    omega
theorem Ow.nilcap (h : Ow w b e A n c xs) (hA : A = none) : n = 0 ∧ c = 0 := by
  subst hA
  rcases h.2.2 with ⟨h', rfl⟩ | ⟨g, cap, cur, h', _⟩
  · injection h' with _ _ h3
    exact ⟨rfl, h3⟩
  · injection h' with h'
    cases h'
theorem Ow.lit (w : World) (e : TypeId) (xs : List Value) (hm : xs.length ≤ maxLen) : Ow (w.alloc (.cells xs.toArray e)) w.heap.size e (some ⟨w.heap.size, 0, none⟩) xs.length xs.length xs :=
  ⟨by simp, by simpa using World.ownsRow_lit (size := 1) (e := e) w xs.toArray xs.length (Nat.le_refl _) hm (by simp)⟩
theorem Ow.drew (h : Ow w b e A n c xs) : Ow w.drew b e A n c xs := ⟨h.1, h.2.drew⟩
theorem Ow.alloc (h : Ow w b e A n c xs) (o : Obj) : Ow (w.alloc o) b e A n c xs := ⟨by have := h.1; simp; omega, h.2.alloc o⟩
theorem Ow.mono (h : Ow w b e A n c xs) {b' : Nat} (hb : b' ≤ b) : Ow w b' e A n c xs :=
  ⟨Nat.le_trans hb h.1, h.2.1, h.2.2.imp id fun ⟨g, cap, cur, e1, e2, e3⟩ => ⟨g, cap, cur, e1, Nat.le_trans hb e2, e3⟩⟩
theorem Ow.lt (h : Ow w b e A n c xs) : ∀ k, (Value.slice A n c).ownBlock = some k → b ≤ k ∧ k < w.heap.size := h.2.lt
theorem Ow.below (h : Ow w b e A n c xs) (hb : Below w.heap.size w w') : Ow w' b e A n c xs := by
  refine ⟨Nat.le_trans h.1 hb.size, h.2.1, ?_⟩
  rcases h.2.2 with h' | ⟨g, cap, cur, e1, e2, e3, e4⟩
  · exact .inl h'
  · refine .inr ⟨g, cap, cur, e1, e2, ?_, e4⟩
    have hg : g < w.heap.size := (h.2.lt g (by rw [e1]; rfl)).2
    exact (hb.block g hg).trans e3
theorem Ow.form (h : Ow w b e A n c xs) (hn : 0 < n) : ∃ g, A = some ⟨g, 0, none⟩ ∧ b ≤ g ∧ g < w.heap.size := by
  rcases h.2.2 with ⟨_, h'⟩ | ⟨g, cap, cur, e1, e2, e3, e4⟩
  · omega
  · have hg : g < w.heap.size := (h.2.lt g (by rw [e1]; rfl)).2
    injection e1 with e1
    exact ⟨g, e1, e2, hg⟩
theorem Ow.rd (h : Ow w b e A n c xs) : Rd w A n xs := by
  refine ⟨h.len, fun hn => ?_⟩
  obtain ⟨g, rfl, _, _⟩ := h.form hn
  exact ⟨_, rfl, h.2.cells (g := g) rfl⟩
theorem Ow.cell {g : Nat} (h : Ow w b e (some ⟨g, 0, none⟩) n c xs) (j : Nat) (hj : j < n) : w.cell? ⟨g, j, none⟩ = xs[j]? := h.2.cellAt j (by omega)
theorem Ow.frozen {g : Nat} (h : Ow w b e (some ⟨g, 0, none⟩) n c xs) (j : Nat) : w.frozen? ⟨g, j, none⟩ = false := h.2.frozenAt j
theorem Ow.set {g : Nat} (h : Ow w b e (some ⟨g, 0, none⟩) n c xs) (j : Nat) (u : Value) : Ow (w.setCell ⟨g, j, none⟩ u) b e (some ⟨g, 0, none⟩) n c (xs.set j u) :=
  ⟨by have := h.1; simpa [World.setCell] using this, (h.2.stored j u).1⟩
end

theorem Ow.setLow {w : World} {b : Nat} {e : TypeId} {A : Option Addr} {n c : Nat} {xs : List Value} (h : Ow w b e A n c xs) {g : Nat} (o : Nat) (hg : g < b) (u : Value) : Ow (w.setCell ⟨g, o, none⟩ u) b e A n c xs :=
  ⟨by have := h.1; simpa [World.setCell] using this, ownsRow_setCell_below h.2 (a := ⟨g, o, none⟩) hg u⟩

/-! ### a struct in a block of its own -/
theorem bcell {W w1 : World} (hb : Below W.heap.size W w1) : (∀ b o, b < W.heap.size → w1.cell? ⟨b, o, none⟩ = W.cell? ⟨b, o, none⟩) ∧ (∀ b o, b < W.heap.size → w1.frozen? ⟨b, o, none⟩ = W.frozen? ⟨b, o, none⟩) :=
  ⟨fun b o h => hb.cell (p := ⟨b, o, none⟩) h, fun b o h => hb.frozen (p := ⟨b, o, none⟩) h⟩
theorem bl_set {a w : World} (h : Below a.heap.size a w) {g o : Nat} (hg : a.heap.size ≤ g) (v : Value) : Below a.heap.size a (w.setCell ⟨g, o, none⟩ v) := h.setCell hg v
theorem bl_drew {a w : World} (h : Below a.heap.size a w) : Below a.heap.size a w.drew := bel_drewN h 1
def Bx (w : World) (g : Nat) (vs : List Value) : Prop :=
  g < w.heap.size ∧ (∀ j v, vs[j]? = some v → w.cell? ⟨g, j, none⟩ = some v) ∧ ∀ j, w.frozen? ⟨g, j, none⟩ = false
section
variable {w w' : World} {g : Nat} {vs : List Value}
theorem Bx.new (w : World) (vs : List Value) (T : TypeId) : Bx (w.alloc (.cells vs.toArray T)) w.heap.size vs :=
  ⟨by simp, fun j v h => by rw [World.cell?_alloc_new]; simpa using h, fun j => World.frozen?_alloc_new _ _ _ _⟩
theorem Bx.new4 (w : World) (a b c d : Value) (T : TypeId) : Bx (w.alloc (.cells #[a, b, c, d] T)) w.heap.size [a, b, c, d] := Bx.new w [a, b, c, d] T
theorem Bx.snd4 (w : World) (o : Obj) (a b c d : Value) (T : TypeId) : Bx ((w.alloc o).alloc (.cells #[a, b, c, d] T)) (w.heap.size + 1) [a, b, c, d] := by
  have := Bx.new4 (w.alloc o) a b c d T
  simpa using this
theorem Bx.new4d (w : World) (o : Obj) (a b c d : Value) (T : TypeId) : Bx (((w.alloc o).drew).alloc (.cells #[a, b, c, d] T)) (w.heap.size + 1) [a, b, c, d] := by
  have := Bx.new4 ((w.alloc o).drew) a b c d T
  rwa [show ((w.alloc o).drew).heap.size = w.heap.size + 1 from (show (w.alloc o).heap.size = _ by simp)] at this
theorem Bx.lt (h : Bx w g vs) : g < w.heap.size := h.1
theorem Bx.below (h : Bx w g vs) (hb : Below w.heap.size w w') : Bx w' g vs :=
  ⟨Nat.lt_of_lt_of_le h.1 hb.size, fun j v hj => by rw [hb.cell (p := ⟨g, j, none⟩) h.1]; exact h.2.1 j v hj, fun j => by rw [hb.frozen (p := ⟨g, j, none⟩) h.1]; exact h.2.2 j⟩
theorem Bx.alloc (h : Bx w g vs) (o : Obj) : Bx (w.alloc o) g vs := h.below (bl_new w o)
theorem Bx.drew (h : Bx w g vs) : Bx w.drew g vs := h
theorem Bx.set_ne (h : Bx w g vs) {g' : Nat} (o : Nat) (hne : g' ≠ g) (u : Value) : Bx (w.setCell ⟨g', o, none⟩ u) g vs :=
  ⟨by have := h.1; simpa [World.setCell] using this, fun j v hj => by rw [World.cell?_setCell_other _ _ _ _ (by intro e; injection e with e; exact hne e)]; exact h.2.1 j v hj, fun j => by rw [World.frozen?_setCell]; exact h.2.2 j⟩
theorem Bx.set (h : Bx w g vs) (o : Nat) (u : Value) (ho : o < vs.length) : Bx (w.setCell ⟨g, o, none⟩ u) g (vs.set o u) := by
  refine ⟨by have := h.1; simpa [World.setCell] using this, fun j v hj => ?_, fun j => by rw [World.frozen?_setCell]; exact h.2.2 j⟩
  by_cases hjo : o = j
  · subst hjo
    rw [List.getElem?_set_self ho] at hj
    cases hj
    exact World.cell?_setCell_same _ _ _ (h.2.1 o (vs[o]) (List.getElem?_eq_getElem ho))
  · rw [List.getElem?_set_ne hjo] at hj
    rw [World.cell?_setCell_other _ _ _ _ (by intro e; injection e with _ e; exact hjo e)]
    exact h.2.1 j v hj
theorem Bx.store4 {a b c d a' b' c' d' : Value} (h : Bx w g [a', b', c', d']) : Bx ((((w.setCell ⟨g, 0, none⟩ a).setCell ⟨g, 1, none⟩ b).setCell ⟨g, 2, none⟩ c).setCell ⟨g, 3, none⟩ d) g [a, b, c, d] :=
  (((h.set 0 a (by simp)).set 1 b (by simp)).set 2 c (by simp)).set 3 d (by simp)
theorem Bx.away4 {a b c d : Value} (h : Bx w g vs) {g' : Nat} (hne : g' ≠ g) : Bx ((((w.setCell ⟨g', 0, none⟩ a).setCell ⟨g', 1, none⟩ b).setCell ⟨g', 2, none⟩ c).setCell ⟨g', 3, none⟩ d) g vs :=
  (((h.set_ne 0 hne a).set_ne 1 hne b).set_ne 2 hne c).set_ne 3 hne d
theorem bl_set4 {w0 w : World} {a b c d : Value} (h : Below w0.heap.size w0 w) {g : Nat} (hg : w0.heap.size ≤ g) : Below w0.heap.size w0 ((((w.setCell ⟨g, 0, none⟩ a).setCell ⟨g, 1, none⟩ b).setCell ⟨g, 2, none⟩ c).setCell ⟨g, 3, none⟩ d) :=
  bl_set (bl_set (bl_set (bl_set h hg _) hg _) hg _) hg _
theorem Bx.grown {row : Option Nat} (h : Bx w g vs) (hg : w.grownBy w' row) (hne : some g ≠ row) : Bx w' g vs :=
  ⟨Nat.lt_of_lt_of_le h.1 hg.size, fun j v hj => by rw [hg.cell_far ⟨g, j, none⟩ h.1 hne]; exact h.2.1 j v hj, fun j => by rw [hg.frozen_far ⟨g, j, none⟩ h.1 hne]; exact h.2.2 j⟩
theorem Bx.cells4 {a b c d : Value} (h : Bx w g [a, b, c, d]) : w.cell? ⟨g, 0, none⟩ = some a ∧ w.cell? ⟨g, 1, none⟩ = some b ∧ w.cell? ⟨g, 2, none⟩ = some c ∧ w.cell? ⟨g, 3, none⟩ = some d :=
  ⟨h.2.1 0 _ rfl, h.2.1 1 _ rfl, h.2.1 2 _ rfl, h.2.1 3 _ rfl⟩
theorem Bx.fr (h : Bx w g vs) (j : Nat) : w.frozen? ⟨g, j, none⟩ = false := h.2.2 j
end

theorem cellE {W w1 : World} (hb : Below W.heap.size W w1) {a : Addr} {v : Value} (h : W.cell? a = some v) : w1.cell? a = some v := by
  rw [hb.cell (cell_lt h)]
  exact h
theorem cellA {W : World} {a : Addr} {v : Value} {o : Obj} (h : W.cell? a = some v) : (W.alloc o).cell? a = some v := cellE (bl_new W o) h
theorem hidBx {W w1 : World} {g : Nat} {vs : List Value} (h : Hid (Bx W g vs)) (hb : Below W.heap.size W w1) : Hid (Bx w1 g vs) := hide (h.out.below hb)
theorem hidOw {W w1 : World} {b : Nat} {e : TypeId} {A : Option Addr} {n c : Nat} {xs : List Value} (h : Hid (Ow W b e A n c xs)) (hb : Below W.heap.size W w1) : Hid (Ow w1 b e A n c xs) := hide (h.out.below hb)
theorem ow_ne {w : World} {b : Nat} {e : TypeId} {A : Option Addr} {n c : Nat} {xs : List Value} (h : Ow w b e A n c xs) {g : Nat} (hg : g < b ∨ w.heap.size ≤ g) : some g ≠ (Value.slice A n c).ownBlock := by
  intro h'
  have := h.lt g h'.symm
  omega
theorem ow_away4 {w : World} {b : Nat} {e : TypeId} {A : Option Addr} {n k : Nat} {xs : List Value} (h : Ow w b e A n k xs) {g : Nat} (hg : some g ≠ (Value.slice A n k).ownBlock) (p q r t : Value) :
    Ow ((((w.setCell ⟨g, 0, none⟩ p).setCell ⟨g, 1, none⟩ q).setCell ⟨g, 2, none⟩ r).setCell ⟨g, 3, none⟩ t) b e A n k xs := by
  have one : ∀ {w : World} (h : Ow w b e A n k xs) (o : Nat) (u : Value), Ow (w.setCell ⟨g, o, none⟩ u) b e A n k xs := fun h o u =>
    ⟨by have := h.1; simpa [World.setCell] using this, ownsRow_setCell_other h.2 (a := ⟨g, o, none⟩) (fun h' => hg h'.symm) u⟩
  exact one (one (one (one h 0 p) 1 q) 2 r) 3 t

/-! ### the facts of a slice type -/
def ElT (P : Program) (t e : TypeId) (z : Value) (by_ : Nat) : Prop :=
  P.underlying t = some (.slice e) ∧ (P.info? e).map (fun i => (i.zero, i.size, i.bytes)) = some (some z, 1, by_) ∧ z.cells = #[z]

section
variable {P : Program} {t e : TypeId} {z : Value} {by_ : Nat} {ops : Array Oper} {rest : List Oper} {o : Oper} {a : Act} {Q : Exit → Act → World → Prop}

/-- 'append(out, x)' of one element: the element has just been laid in a block of its own. -/
theorem ap1 (E : ElT P t e z by_) {W w0 : World} {b B : Nat} {A : Option Addr} {n c : Nat} {xs : List Value} (hown : Ow W b e A n c xs) (hB : Below B w0 W) (hBb : B ≤ b)
    (s x : Operand) (u : Value) (hgd : o.guard = none) (ho : o.op = .call { callee := .builtin .append, args := #[s, x], argTypes := #[t, t] })
    (hs : a.eval s = .slice A n c) (hx : a.eval x = .slice (some ⟨W.heap.size, 0, none⟩) 1 1) (h1 : u.oneCell' = true) (hm : n + 1 ≤ maxLen) (hby : (n + 1) * by_ ≤ 140737488355328)
    (h : ∀ A' c' w', Ow w' b e A' (n + 1) c' (xs ++ [u]) → Below B w0 w' → wpList P ops Q rest (a.put o.dst (.slice A' (n + 1) c')) w') :
    wpList P ops Q (o :: rest) a (W.alloc (.cells #[u] e)) := by
  obtain ⟨i, hi, hz, hsz, hbb⟩ := info_parts E.2.1
  refine wpList_append_own _ hgd s x t ho b e i z 1 by_ E.1 hi hz hsz hbb (by rw [E.2.2]; rfl) (by omega) (.slice A n c) n xs hs (hown.alloc _).2 ⟨W.heap.size, 0, none⟩ 1 1 [u] hx rfl ?_ ?_ hm hby (hown.alloc _).1 ?_
  · intro j v hj
    match j, hj with
    | 0, hj => simp at hj; subst hj; simp [Addr.add]
  · intro v hv
    simp at hv
    subst hv
    exact h1
  · intro v' w' hown' hg _
    have hsz := hown.1
    have hlt := hown.lt
    have hB' : Below B w0 w' := (hB.alloc (by omega) _).grown hg (by simp; omega) (fun k hk => by have := (hlt k hk).1; omega)
    have hb' : b ≤ w'.heap.size := by have := hg.size; simp at this; omega
    rcases hown'.2 with ⟨_, h0⟩ | ⟨g, cap, cur, rfl, _⟩
    · omega
    · exact h _ _ _ ⟨hb', hown'⟩ hB'

/-- 'append(out, xs...)', the source read, whatever its address. -/
theorem apn (E : ElT P t e z by_) {W w0 : World} {b B : Nat} {A : Option Addr} {n c : Nat} {xs : List Value} (hown : Ow W b e A n c xs) (hB : Below B w0 W) (hBb : B ≤ b)
    {S : Option Addr} {m d : Nat} {news : List Value} (hr : Rd W S m news)
    (s x : Operand) (hgd : o.guard = none) (ho : o.op = .call { callee := .builtin .append, args := #[s, x], argTypes := #[t, t] })
    (hs : a.eval s = .slice A n c) (hx : a.eval x = .slice S m d) (hS : S = none → m = 0 ∧ d = 0) (h1 : ∀ u ∈ news, u.oneCell' = true) (hm : n + m ≤ maxLen) (hby : (n + m) * by_ ≤ 140737488355328)
    (h : ∀ A' c' w', Ow w' b e A' (n + m) c' (xs ++ news) → Below B w0 w' → wpList P ops Q rest (a.put o.dst (.slice A' (n + m) c')) w') :
    wpList P ops Q (o :: rest) a W := by
  obtain ⟨i, hi, hz, hsz, hbb⟩ := info_parts E.2.1
  rcases S with _ | ad
  · obtain ⟨rfl, rfl⟩ := hS rfl
    have hn : news = [] := List.eq_nil_of_length_eq_zero (by have := hr.len; omega)
    subst hn
    refine wpList_append_own_none hgd s x t ho b e i 1 E.1 hi (.slice A n c) n xs hs hown.2 hx ?_
    have := h A c W (by simpa using hown) hB
    simpa using this
  · refine wpList_append_own _ hgd s x t ho b e i z 1 by_ E.1 hi hz hsz hbb (by rw [E.2.2]; rfl) (by omega) (.slice A n c) n xs hs hown.2 ad m d news hx (by have := hr.len; omega) ?_ h1 hm hby hown.1 ?_
    · intro j v hj
      have hl : j < m := by
        have := hr.len
        have := (List.getElem?_eq_some_iff.1 hj).1
        omega
      obtain ⟨ad', e', hc⟩ := hr.2 (by omega)
      cases e'
      exact hc j v hj
    · intro v' w' hown' hg hnil
      have hsz := hown.1
      have hlt := hown.lt
      have hB' : Below B w0 w' := hB.grown hg (by omega) (fun k hk => by have := (hlt k hk).1; omega)
      have hb' : b ≤ w'.heap.size := by have := hg.size; omega
      rcases hown'.2 with ⟨rfl, h0⟩ | ⟨g, cap, cur, rfl, _⟩
      · have e0 : n + m = 0 := h0
        have := h none 0 w' ⟨hb', by rw [e0] at hown' ⊢; exact hown'⟩ hB'
        rw [e0] at this
        exact this
      · exact h _ _ _ ⟨hb', hown'⟩ hB'

/-- 'apn', and every struct in a block of its own that is not the slice's stays. -/
theorem apnK (E : ElT P t e z by_) {W w0 : World} {b B : Nat} {A : Option Addr} {n c : Nat} {xs : List Value} (hown : Ow W b e A n c xs) (hB : Below B w0 W) (hBb : B ≤ b)
    {S : Option Addr} {m d : Nat} {news : List Value} (hr : Rd W S m news)
    (s x : Operand) (hgd : o.guard = none) (ho : o.op = .call { callee := .builtin .append, args := #[s, x], argTypes := #[t, t] })
    (hs : a.eval s = .slice A n c) (hx : a.eval x = .slice S m d) (hS : S = none → m = 0 ∧ d = 0) (h1 : ∀ u ∈ news, u.oneCell' = true) (hm : n + m ≤ maxLen) (hby : (n + m) * by_ ≤ 140737488355328)
    (h : ∀ A' c' w', Ow w' b e A' (n + m) c' (xs ++ news) → Below B w0 w' → (∀ g vs, Bx W g vs → some g ≠ (Value.slice A n c).ownBlock → Bx w' g vs) → wpList P ops Q rest (a.put o.dst (.slice A' (n + m) c')) w') :
    wpList P ops Q (o :: rest) a W := by
  obtain ⟨i, hi, hz, hsz, hbb⟩ := info_parts E.2.1
  rcases S with _ | ad
  · obtain ⟨rfl, rfl⟩ := hS rfl
    have hn : news = [] := List.eq_nil_of_length_eq_zero (by have := hr.len; omega)
    subst hn
    refine wpList_append_own_none hgd s x t ho b e i 1 E.1 hi (.slice A n c) n xs hs hown.2 hx ?_
    have := h A c W (by simpa using hown) hB (fun _ _ h _ => h)
    simpa using this
  · refine wpList_append_own _ hgd s x t ho b e i z 1 by_ E.1 hi hz hsz hbb (by rw [E.2.2]; rfl) (by omega) (.slice A n c) n xs hs hown.2 ad m d news hx (by have := hr.len; omega) ?_ h1 hm hby hown.1 ?_
    · intro j v hj
      have hl : j < m := by
        have := hr.len
        have := (List.getElem?_eq_some_iff.1 hj).1
        omega
      obtain ⟨ad', e', hc⟩ := hr.2 (by omega)
      cases e'
      exact hc j v hj
    · intro v' w' hown' hg hnil
      have hsz := hown.1
      have hlt := hown.lt
      have hB' : Below B w0 w' := hB.grown hg (by omega) (fun k hk => by have := (hlt k hk).1; omega)
      have hb' : b ≤ w'.heap.size := by have := hg.size; omega
      rcases hown'.2 with ⟨rfl, h0⟩ | ⟨g, cap, cur, rfl, _⟩
      · have e0 : n + m = 0 := h0
        have := h none 0 w' ⟨hb', by rw [e0] at hown' ⊢; exact hown'⟩ hB' (fun _ _ h hne => h.grown hg hne)
        rw [e0] at this
        exact this
      · exact h _ _ _ ⟨hb', hown'⟩ hB' (fun _ _ h hne => h.grown hg hne)

/-- 'make([]T, n, k)'. -/
theorem mk (E : ElT P t e z by_) {W w0 : World} {b B : Nat} (hB : Below B w0 W) (hBb : B ≤ b) (hb : b ≤ W.heap.size)
    (hgd : o.guard = none) (l c : Operand) (hop : o.op = Op.makeSlice t l c) (kl kc : IntKind) (L C : Int) (n k : Nat) (hl : a.eval l = .int kl L) (hc : a.eval c = .int kc C) (hL : L = (n : Int)) (hC : C = (k : Int))
    (hnk : n ≤ k) (b2 : by_ * k ≤ 281474976710656) (b3 : k ≤ maxLen)
    (h : ∀ w', Ow w' b e (some ⟨W.heap.size, 0, none⟩) n k (List.replicate n z) → Below B w0 w' → wpList P ops Q rest (a.put o.dst (.slice (some ⟨W.heap.size, 0, none⟩) n k)) w') :
    wpList P ops Q (o :: rest) a W := by
  obtain ⟨i, hi, hz, hsz, hbb⟩ := info_parts E.2.1
  have b3' : (k : Int) ≤ 9223372036854775807 := by simp [maxLen] at b3; omega
  have b2' : (i.bytes : Int) * (k : Int) ≤ 281474976710656 := by
    have h : ((i.bytes * k : Nat) : Int) ≤ 281474976710656 := by rw [hbb]; omega
    rwa [Int.natCast_mul] at h
  have hr := run_make (P := P) W t e i z E.1 hi hz kl kc n k (by omega) (by omega) b2' b3'
  simp only [Int.toNat_natCast] at hr
  subst hL
  subst hC
  refine wpList_plain hgd fun K hK' => ?_
  unfold Oper.wp
  simp [execOp, hop, hl, hc, hr, Result.andThen]
  refine hK' _ _ (h _ ⟨by simp; omega, ?_⟩ (hB.alloc (by omega) _))
  have hm : (madeCells z.cells (k * i.size)).toList = List.replicate k z := by rw [hsz, Nat.mul_one, E.2.2]; exact toList_madeCells_one z k
  refine ⟨by simp, .inr ⟨W.heap.size, k, _, rfl, hb, heap_alloc_new W _, hnk, b3, by rw [size_madeCells, hsz], ?_⟩⟩
  rw [hm, List.take_replicate]
  congr 1
  omega

/-- 'copy(out, src)', out the call's own and as long as the source at least. -/
theorem cp (E : ElT P t e z by_) {W w0 : World} {b B : Nat} {A : Option Addr} {n c : Nat} {xs : List Value} (hown : Ow W b e A n c xs) (hB : Below B w0 W) (hBb : B ≤ b)
    {S : Option Addr} {m k : Nat} {news : List Value} (hr : Rd W S m news) (hmn : m ≤ n)
    (d s : Operand) (hgd : o.guard = none) (ho : o.op = .call { callee := .builtin .copy, args := #[d, s], argTypes := #[t, t] })
    (hd : a.eval d = .slice A n c) (hs : a.eval s = .slice S m k) (h1 : ∀ u ∈ news, u.oneCell' = true)
    (h : ∀ w', Ow w' b e A n c (news ++ xs.drop m) → Below B w0 w' → wpList P ops Q rest (a.put o.dst (goInt m)) w') :
    wpList P ops Q (o :: rest) a W := by
  obtain ⟨i, hi, hz, hsz, hbb⟩ := info_parts E.2.1
  have hsz' : (P.info? e).map (·.size) = some 1 := by rw [hi]; simp [hsz]
  rcases Nat.eq_zero_or_pos m with h0 | h0
  · subst h0
    have hn : news = [] := List.eq_nil_of_length_eq_zero hr.len
    subst hn
    refine wpList_copy_nothing hgd d s t t ho e E.1 hsz' A S n c 0 k hd hs (by simp) ?_
    exact h W (by simpa using hown) hB
  · obtain ⟨g, rfl, hbg, hg⟩ := hown.form (by omega)
    obtain ⟨ad, rfl, hsrc⟩ := hr.2 h0
    rcases hown.2.2 with ⟨_, h'⟩ | ⟨g', cap, cur, e1, e2, e3, e4, e5, e6, e7⟩
    · omega
    · injection e1 with e1 _ ec
      injection e1 with e1
      injection e1 with e1
      subst e1
      subst ec
      have hlen := hr.len
      simp only [Nat.mul_one] at e6 e7
      refine wpList_copy_splice hgd d s t t ho e E.1 hsz' _ _ n c m k hd hs g 0 cur.toList e (by simpa using e3) news (by rw [hlen]; exact (Nat.min_eq_left hmn).symm)
        (fun _ => ⟨rfl, ad, rfl, hsrc⟩) (by simp; omega) h1 B w0 hB (by omega) ?_
      intro w' hh hB'
      have hh' := hh.out
      have hsplice : (splice cur.toList 0 news).length = c := by rw [length_splice _ _ _ (by simp; omega)]; simpa using e6
      have hgl : g < w'.heap.size := by
        rcases Nat.lt_or_ge g w'.heap.size with hlt | hge
        · exact hlt
        · rw [Array.getElem?_eq_none hge] at hh'; cases hh'
      rw [hlen]
      refine h w' ⟨by omega, ⟨?_, .inr ⟨g, c, _, rfl, e2, hh', e4, e5, by simpa using hsplice, ?_⟩⟩⟩ hB'
      · simp; have := hown.len; omega
      · have : (splice cur.toList 0 news) = news ++ cur.toList.drop m := by simp [splice, hlen]
        simp only [this, Nat.mul_one]
        rw [List.take_append, hlen, List.take_of_length_le (by omega), ← e7, List.take_drop]
        congr 3
        omega
end
end Go.Proofs.Ytgbojkbhkjameaa
namespace Go.Proofs.Ytgbojkbhkjameaa
open Go.RowKit
set_option linter.unusedVariables false

def uval (l : List Int) : Int := l.foldl (fun a x => a * 256 + x) 0
def Bytes (l : List Int) : Prop := ∀ i : Nat, 0 ≤ l[i]?.getD 0 ∧ l[i]?.getD 0 < 256
theorem bytes_of_mem {l : List Int} (h : ∀ x ∈ l, 0 ≤ x ∧ x < 256) : Bytes l := by
  intro i
  cases hx : l[i]? with
  | none => simp
  | some x => simpa using h x (List.mem_of_getElem? hx)
theorem Bytes.mem {l : List Int} (h : Bytes l) : ∀ x ∈ l, 0 ≤ x ∧ x < 256 := by
  intro x hx
  obtain ⟨i, hi, rfl⟩ := List.getElem_of_mem hx
  have := h i
  simpa [List.getElem?_eq_getElem hi] using this
theorem Bytes.app {l m : List Int} (h : Bytes l) (h' : Bytes m) : Bytes (l ++ m) := bytes_of_mem fun x hx => by
  rcases List.mem_append.1 hx with hx | hx
  · exact h.mem x hx
  · exact h'.mem x hx
theorem Bytes.take {l : List Int} (h : Bytes l) (k : Nat) : Bytes (l.take k) := bytes_of_mem fun x hx => h.mem x (List.mem_of_mem_take hx)
theorem Bytes.drop {l : List Int} (h : Bytes l) (k : Nat) : Bytes (l.drop k) := bytes_of_mem fun x hx => h.mem x (List.mem_of_mem_drop hx)

theorem uval_snoc (l : List Int) (x : Int) : uval (l ++ [x]) = uval l * 256 + x := by simp [uval]
theorem uval_bd (l : List Int) (h : Bytes l) : 0 ≤ uval l ∧ uval l < 256 ^ l.length := by
  have key : ∀ (l : List Int), (∀ x ∈ l, 0 ≤ x ∧ x < 256) → ∀ a k : Int, 0 ≤ a → a < k → 0 ≤ l.foldl (fun a x => a * 256 + x) a ∧ l.foldl (fun a x => a * 256 + x) a < k * 256 ^ l.length := by
    intro l
    induction l with
    | nil => intro _ a k h0 h1; simpa using ⟨h0, h1⟩
    | cons x l ih =>
      intro hx a k h0 h1
      have hxx := hx x (by simp)
      have := ih (fun y hy => hx y (by simp [hy])) (a * 256 + x) (k * 256) (by omega) (by omega)
      rw [List.foldl_cons, List.length_cons, Int.pow_succ, Int.mul_comm (256 ^ l.length) 256, ← Int.mul_assoc]
      exact this
  have := key l h.mem 0 1 (by omega) (by omega)
  simpa [uval] using this
theorem uval_bd8 (l : List Int) (h : Bytes l) (hl : l.length ≤ 8) : 0 ≤ uval l ∧ uval l < 18446744073709551616 := by
  have h1 := uval_bd l h
  refine ⟨h1.1, Int.lt_of_lt_of_le h1.2 ?_⟩
  match l.length, hl with
  | 0, _ => decide
  | 1, _ => decide
  | 2, _ => decide
  | 3, _ => decide
  | 4, _ => decide
  | 5, _ => decide
  | 6, _ => decide
  | 7, _ => decide
  | 8, _ => decide
theorem uval_bd7 (l : List Int) (h : Bytes l) (hl : l.length ≤ 7) : 0 ≤ uval l ∧ uval l < 72057594037927936 := by
  have h1 := uval_bd l h
  refine ⟨h1.1, Int.lt_of_lt_of_le h1.2 ?_⟩
  match l.length, hl with
  | 0, _ => decide
  | 1, _ => decide
  | 2, _ => decide
  | 3, _ => decide
  | 4, _ => decide
  | 5, _ => decide
  | 6, _ => decide
  | 7, _ => decide
/-- the field of k bytes at off. -/
def fld (l : List Int) (off k : Nat) : List Int := (l.drop off).take k
theorem fld_len (l : List Int) (off k : Nat) (h : off + k ≤ l.length) : (fld l off k).length = k := by simp [fld]; omega
theorem fld_bytes {l : List Int} (h : Bytes l) (off k : Nat) : Bytes (fld l off k) := (h.drop off).take k
theorem fld_step (l : List Int) (off k : Nat) (h : off + k < l.length) : fld l off (k + 1) = fld l off k ++ [l[off + k]?.getD 0] := by
  unfold fld
  rw [List.take_succ_eq_append_getElem (by simp; omega)]
  simp [List.getElem?_eq_getElem h]
theorem fld_zero (l : List Int) (off : Nat) : fld l off 0 = [] := by simp [fld]

theorem shl_or (u b : Int) (h0 : 0 ≤ u) (h1 : u < 72057594037927936) (b0 : 0 ≤ b) (b1 : b < 256) :
    bits .or .u64 (u * 256) b = u * 256 + b := by
  rw [u64_or _ _ (by omega) (by omega) (by omega) (by omega)]
  obtain ⟨x, rfl⟩ := Int.eq_ofNat_of_zero_le h0
  obtain ⟨y, rfl⟩ := Int.eq_ofNat_of_zero_le b0
  have e : ((x : Int) * 256).toNat = x * 256 := by omega
  rw [e, Int.toNat_natCast, nat_join 8 (x * 256) y (by omega) (by omega)]
  omega

/-- the low k bytes of v. -/
def be (k : Nat) (v : Int) : List Int := (List.range k).map fun i => v / 2 ^ (8 * (k - 1 - i)) % 256
theorem be_len (k : Nat) (v : Int) : (be k v).length = k := by simp [be]
theorem be_step (k : Nat) (v : Int) (i : Nat) (h : i < k) : (be k v).take (i + 1) = (be k v).take i ++ [v / 2 ^ (8 * (k - 1 - i)) % 256] := by
  rw [List.take_succ_eq_append_getElem (by simpa [be] using h)]
  simp [be]
theorem be_bytes (k : Nat) (v : Int) : Bytes (be k v) := bytes_of_mem fun x hx => by
  obtain ⟨i, _, rfl⟩ := List.mem_map.1 hx
  omega
theorem app_step (l : List Int) (k : Nat) (v : Int) (i : Nat) (h : i < k) :
    (l ++ (be k v).take i).map (Value.int .u8) ++ [.int .u8 (v / 2 ^ (8 * (k - 1 - i)) % 256)] = (l ++ (be k v).take (i + 1)).map (Value.int .u8) := by
  rw [be_step k v i h]; simp
/-- one digit ahead: the bytes of v are those of v / 256, and its last. -/
theorem be_succ (k : Nat) (v : Int) : be (k + 1) v = be k (v / 256) ++ [v % 256] := by
  unfold be
  rw [List.range_succ, List.map_append]
  congr 1
  · apply List.map_congr_left
    intro i hi
    have hi' : i < k := by simpa using hi
    have e : 8 * (k + 1 - 1 - i) = 8 + 8 * (k - 1 - i) := by omega
    rw [e, Int.pow_add, ← Int.ediv_ediv_of_nonneg (by decide)]
    rfl
  · simp
theorem be_cons (k : Nat) (v : Int) : be (k + 1) v = (v / 2 ^ (8 * k) % 256) :: be k v := by
  unfold be
  rw [List.range_succ_eq_map, List.map_cons, List.map_map]
  congr 1
  apply List.map_congr_left
  intro i hi
  simp only [Function.comp]
  have : k + 1 - 1 - (i + 1) = k - 1 - i := by omega
  rw [Nat.succ_eq_add_one, this]
theorem uval_be (k : Nat) : ∀ v : Int, uval (be k v) = v % 256 ^ k := by
  induction k with
  | zero => intro v; simp [be, uval, Int.emod_one]
  | succ k ih =>
    intro v
    rw [be_succ, uval_snoc, ih, Int.pow_succ]
    have hp : (0 : Int) < 256 ^ k := Int.pow_pos (by decide)
    generalize (256 : Int) ^ k = p at hp
    have h2 := Int.emod_add_mul_ediv (v / 256) p
    have q0 := Int.emod_nonneg (v / 256) (Int.ne_of_gt hp)
    have q1 := Int.emod_lt_of_pos (v / 256) hp
    have h3 : 256 * p * (v / 256 / p) = 256 * (p * (v / 256 / p)) := Int.mul_assoc _ _ _
    have hv : v = (v / 256 % p * 256 + v % 256) + (256 * p) * (v / 256 / p) := by omega
    have e : v % (256 * p) = (v / 256 % p * 256 + v % 256) % (256 * p) := by
      have := Int.add_mul_emod_self_left (v / 256 % p * 256 + v % 256) (256 * p) (v / 256 / p)
      rw [← hv] at this
      exact this
    rw [Int.mul_comm p 256, e]
    exact (Int.emod_eq_of_lt (by omega) (by omega)).symm
theorem oneCells (k : IntKind) (l : List Int) : ∀ u ∈ l.map (Value.int k), u.oneCell' = true := by
  intro u hu
  obtain ⟨x, _, rfl⟩ := List.mem_map.1 hu
  rfl
theorem map_at (k : IntKind) (l : List Int) (i : Nat) (h : i < l.length) : (l.map (Value.int k))[i]? = some (.int k (l[i]?.getD 0)) := by
  simp [List.getElem?_eq_getElem h]
theorem Rd.int {w : World} {A : Option Addr} {n : Nat} {k : IntKind} {l : List Int} (h : Rd w A n (l.map (Value.int k))) {i : Nat} (hi : i < n) : ∃ ad, A = some ad ∧ w.cell? (ad.add i) = some (.int k (l[i]?.getD 0)) := by
  obtain ⟨ad, v, e, hv, hc⟩ := h.at_ hi
  have hl : i < l.length := by have := h.len; simp at this; omega
  rw [map_at k l i hl] at hv
  injection hv with hv
  exact ⟨ad, e, by rw [hv]; exact hc⟩
theorem Rd.lit (w : World) (e : TypeId) (xs : List Value) : Rd (w.alloc (.cells xs.toArray e)) (some ⟨w.heap.size, 0, none⟩) xs.length xs := by
  refine ⟨rfl, fun _ => ⟨_, rfl, fun i v hi => ?_⟩⟩
  rw [addr_flat, Nat.zero_add, cell_of_row _ w.heap.size i xs.toArray e (0, 0) (heap_alloc_new w _)]
  simpa using hi

theorem Rd.ints (w : World) (e : TypeId) (k : IntKind) (l : List Int) (n : Nat) {g : Nat} (hn : l.length = n) (hg : w.heap.size = g) : Rd (w.alloc (.cells (l.map (Value.int k)).toArray e)) (some ⟨g, 0, none⟩) n (l.map (Value.int k)) := by
  subst hn
  subst hg
  have := Rd.lit w e (l.map (Value.int k))
  rw [List.length_map] at this
  exact this
theorem fld_app (l m : List Int) (n k : Nat) (hn : l.length = n) (hk : m.length = k) : fld (l ++ m) n k = m := by
  subst hn
  subst hk
  simp [fld]
theorem fld_one (l : List Int) (i : Nat) (h : i < l.length) : uval (fld l i 1) = l[i]?.getD 0 := by
  have := fld_step l i 0 (by omega)
  rw [this, fld_zero]
  simp [uval]
theorem map_set (k : IntKind) (l : List Int) (j : Nat) (x : Int) : (l.map (Value.int k)).set j (.int k x) = (l.set j x).map (Value.int k) := by rw [List.map_set]
theorem Bytes.set {l : List Int} (h : Bytes l) (j : Nat) {x : Int} (h0 : 0 ≤ x) (h1 : x < 256) : Bytes (l.set j x) := bytes_of_mem fun y hy => by
  rcases List.mem_or_eq_of_mem_set hy with hy | rfl
  · exact h.mem y hy
  · exact ⟨h0, h1⟩
/-- the lower m bytes of v are less than those of u. -/
def ltD (v u : Int) (m : Nat) : Bool := decide (v % 256 ^ m < u % 256 ^ m)
theorem ltD_zero (v u : Int) : ltD v u 0 = false := by simp [ltD, Int.emod_one]
theorem emod_pow_succ (v : Int) (m : Nat) : v % 256 ^ (m + 1) = v / 256 ^ m % 256 * 256 ^ m + v % 256 ^ m := by
  have hp : (0 : Int) < 256 ^ m := Int.pow_pos (by decide)
  rw [Int.pow_succ]
  generalize (256 : Int) ^ m = p at hp
  have h1 := Int.emod_add_mul_ediv v p
  have h2 := Int.emod_add_mul_ediv (v / p) 256
  have q0 := Int.emod_nonneg v (Int.ne_of_gt hp)
  have q1 := Int.emod_lt_of_pos v hp
  have r0 : 0 ≤ v / p % 256 ∧ v / p % 256 < 256 := by omega
  have e1 : p * (v / p) = v / p % 256 * p + (p * 256) * (v / p / 256) := by
    rw [Int.mul_assoc, ← Int.mul_comm p (v / p % 256), ← Int.mul_add, h2]
  have hv : v = (v / p % 256 * p + v % p) + (p * 256) * (v / p / 256) := by omega
  have hlo : 0 ≤ v / p % 256 * p := Int.mul_nonneg r0.1 (by omega)
  have hhi : v / p % 256 * p ≤ 255 * p := Int.mul_le_mul_of_nonneg_right (by omega) (by omega)
  have e : v % (p * 256) = (v / p % 256 * p + v % p) % (p * 256) := by
    have := Int.add_mul_emod_self_left (v / p % 256 * p + v % p) (p * 256) (v / p / 256)
    rw [← hv] at this
    exact this
  rw [e]
  exact Int.emod_eq_of_lt (by omega) (by omega)
theorem ltD_eq (v u : Int) (m : Nat) (h : v / 256 ^ m % 256 = u / 256 ^ m % 256) : ltD v u (m + 1) = ltD v u m := by
  unfold ltD
  rw [emod_pow_succ, emod_pow_succ, h, decide_eq_decide]
  omega
theorem ltD_ne (v u : Int) (m : Nat) (h : v / 256 ^ m % 256 ≠ u / 256 ^ m % 256) : ltD v u (m + 1) = decide (v / 256 ^ m % 256 < u / 256 ^ m % 256) := by
  unfold ltD
  rw [emod_pow_succ, emod_pow_succ, decide_eq_decide]
  have hp : (0 : Int) < 256 ^ m := Int.pow_pos (by decide)
  have q0 := Int.emod_nonneg v (Int.ne_of_gt hp)
  have q1 := Int.emod_lt_of_pos v hp
  have q2 := Int.emod_nonneg u (Int.ne_of_gt hp)
  have q3 := Int.emod_lt_of_pos u hp
  generalize v / 256 ^ m % 256 = x at *
  generalize u / 256 ^ m % 256 = y at *
  generalize v % 256 ^ m = a at *
  generalize u % 256 ^ m = b at *
  generalize (256 : Int) ^ m = p at *
  rcases Int.lt_or_lt_of_ne h with h | h
  · have : (x + 1) * p ≤ y * p := Int.mul_le_mul_of_nonneg_right (by omega) (by omega)
    rw [Int.add_mul, Int.one_mul] at this
    exact ⟨fun _ => h, fun _ => by omega⟩
  · have : (y + 1) * p ≤ x * p := Int.mul_le_mul_of_nonneg_right (by omega) (by omega)
    rw [Int.add_mul, Int.one_mul] at this
    exact ⟨fun _ => by omega, fun _ => by omega⟩
theorem be_get (k : Nat) (v : Int) (q : Nat) (h : q < k) : (be k v)[q]?.getD 0 = v / 256 ^ (k - 1 - q) % 256 := by
  unfold be
  rw [List.getElem?_map, List.getElem?_range h]
  simp [Int.pow_mul]
/-- reading the field of k bytes at off comes to v and b. -/
def Fe (l : List Int) (n : Nat) (off k v : Int) (b : Bool) : Prop := (b = true ∧ 0 ≤ off ∧ off + k ≤ n ∧ uval (fld l off.toNat k.toNat) = v) ∨ (b = false ∧ (off < 0 ∨ (n : Int) < off + k) ∧ v = 0)
theorem Fe.ex (l : List Int) (n : Nat) (off k : Int) : ∃ v b, Fe l n off k v b := by
  by_cases h : 0 ≤ off ∧ off + k ≤ n
  · exact ⟨_, true, .inl ⟨rfl, h.1, h.2, rfl⟩⟩
  · exact ⟨0, false, .inr ⟨rfl, by omega, rfl⟩⟩
theorem Fe.yes {l : List Int} {n : Nat} {off k v : Int} {b : Bool} (h : Fe l n off k v b) (hb : b = true) : 0 ≤ off ∧ off + k ≤ n ∧ uval (fld l off.toNat k.toNat) = v := by
  rcases h with ⟨_, h⟩ | ⟨h, _⟩
  · exact h
  · rw [hb] at h; cases h
theorem Fe.no {l : List Int} {n : Nat} {off k v : Int} {b : Bool} (h : Fe l n off k v b) (hb : b = false) : (off < 0 ∨ (n : Int) < off + k) ∧ v = 0 := by
  rcases h with ⟨h, _⟩ | ⟨_, h⟩
  · rw [hb] at h; cases h
  · exact h
/-- the signed value of the low k bytes of u. -/
def sgn (k u : Int) : Int :=
  if k = 1 then (if u % 256 < 128 then u % 256 else u % 256 - 256)
  else if k = 4 then (if u % 4294967296 < 2147483648 then u % 4294967296 else u % 4294967296 - 4294967296)
  else (if u % 18446744073709551616 < 9223372036854775808 then u % 18446744073709551616 else u % 18446744073709551616 - 18446744073709551616)
theorem sgn_lo (k u : Int) (h : k = 1 ∨ k = 4 ∨ k = 8) (h0 : 0 ≤ u) (h1 : u < if k = 1 then 128 else if k = 4 then 2147483648 else 9223372036854775808) : sgn k u = u := by
  unfold sgn
  rcases h with rfl | rfl | rfl <;> simp at h1 ⊢ <;> omega
def fitsB (k v : Int) : Bool := decide (k = 8 ∨ (k = 4 ∧ -2147483648 ≤ v ∧ v < 2147483648) ∨ (k = 1 ∧ -128 ≤ v ∧ v < 128))
theorem sgn_mod (k s : Int) (h : k = 1 ∨ k = 4 ∨ k = 8) (h0 : -9223372036854775808 ≤ s) (h1 : s < 9223372036854775808) :
    (sgn k (s % 18446744073709551616 % 256 ^ k.toNat) == s) = fitsB k s ∧ fitsB k (sgn k (s % 18446744073709551616 % 256 ^ k.toNat)) = true ∧
    -9223372036854775808 ≤ sgn k (s % 18446744073709551616 % 256 ^ k.toNat) ∧ sgn k (s % 18446744073709551616 % 256 ^ k.toNat) < 9223372036854775808 := by
  rw [Bool.eq_iff_iff, beq_iff_eq]
  unfold fitsB
  simp only [decide_eq_true_eq]
  rcases h with rfl | rfl | rfl
  · simp [sgn, show (1 : Int).toNat = 1 from rfl]; omega
  · simp [sgn, show (4 : Int).toNat = 4 from rfl]; omega
  · simp [sgn, show (8 : Int).toNat = 8 from rfl]; omega
end Go.Proofs.Ytgbojkbhkjameaa
namespace Go.Proofs.Ytgbojkbhkjameaa
open Go.RowKit
set_option linter.unusedVariables false

/-- the block that a slice begins in. -/
def oB (A : Option Addr) : Option Nat := A.map (·.block)
theorem oB_own (A : Option Addr) (n c : Nat) : (Value.slice A n c).ownBlock = oB A := by cases A <;> rfl
/-- two slices lie in different blocks, or one is nil. -/
def Dj (A A2 : Option Addr) : Prop := ∀ g, oB A = some g → oB A2 ≠ some g
theorem Dj.symm {A A2 : Option Addr} (h : Dj A A2) : Dj A2 A := fun g h1 h2 => h g h2 h1
theorem Dj.none_ (A : Option Addr) : Dj none A := fun g h => by cases h
theorem Dj.none' (A : Option Addr) : Dj A none := (Dj.none_ A).symm
/-- the world behind an append to the slice at A, which lies at A' now. -/
structure Gw (W w' : World) (A A' : Option Addr) : Prop where
  g : W.grownBy w' (oB A)
  at_ : oB A' = oB A ∨ oB A' = some W.heap.size
section
variable {W w' : World} {A A' A2 : Option Addr} {b n c : Nat} {e : TypeId} {xs : List Value}
theorem Ow.blk (h : Ow W b e A n c xs) {g : Nat} (hg : oB A = some g) : b ≤ g ∧ g < W.heap.size := h.lt g (by rw [oB_own]; exact hg)
theorem Gw.size (h : Gw W w' A A') : W.heap.size ≤ w'.heap.size := h.g.size
theorem Gw.ow (h : Gw W w' A A') (ho : Ow W b e A2 n c xs) (hd : Dj A2 A) : Ow w' b e A2 n c xs := by
  refine ⟨Nat.le_trans ho.1 h.size, ho.2.kept h.g ?_⟩
  rw [oB_own]
  rcases hA : oB A2 with _ | g
  · exact .inl rfl
  · exact .inr fun h' => hd g hA h'.symm
theorem Gw.dj (h : Gw W w' A A') (ho : Ow W b e A2 n c xs) (hd : Dj A2 A) : Dj A2 A' := by
  intro g hg hg'
  rcases h.at_ with h' | h'
  · exact hd g hg (by rw [← h']; exact hg')
  · have := (ho.blk hg).2
    rw [h'] at hg'
    cases hg'
    omega
theorem Gw.cell (h : Gw W w' A A') {p : Addr} {v : Value} (hc : W.cell? p = some v) (hd : oB A ≠ some p.block) : w'.cell? p = some v := h.g.cell hc (fun h' => hd h'.symm)
theorem Gw.rd (h : Gw W w' A A') (hr : Rd W A2 n xs) (hd : Dj A2 A) : Rd w' A2 n xs :=
  ⟨hr.1, fun hn => by
    obtain ⟨ad, e, hc⟩ := hr.2 hn
    subst e
    exact ⟨ad, rfl, fun i v hi => h.cell (hc i v hi) (by rw [addr_block]; exact fun h' => hd ad.block rfl h')⟩⟩
theorem Gw.bx (h : Gw W w' A A') {g : Nat} {vs : List Value} (hb : Bx W g vs) (hd : oB A ≠ some g) : Bx w' g vs := hb.grown h.g (fun h' => hd h'.symm)
/-- a slice of a later base lies apart from one below it. -/
theorem Dj.low {b2 n2 c2 : Nat} {e2 : TypeId} {xs2 : List Value} {w2 : World} (h : Ow W b e A n c xs) (h2 : Ow w2 b2 e2 A2 n2 c2 xs2) (hb : W.heap.size ≤ b2) : Dj A A2 := by
  intro g hg hg2
  have := (h.blk hg).2
  have := (h2.blk hg2).1
  omega
end

section
variable {P : Program} {t e : TypeId} {z : Value} {by_ : Nat} {ops : Array Oper} {rest : List Oper} {o : Oper} {a : Act} {Q : Exit → Act → World → Prop}
/-- 'append(out, xs...)', the source read, whatever its address: and all that lies apart stays. -/
theorem apA (E : ElT P t e z by_) {W w0 : World} {b B : Nat} {A : Option Addr} {n c : Nat} {xs : List Value} (hown : Ow W b e A n c xs) (hB : Below B w0 W) (hBb : B ≤ b)
    {S : Option Addr} {m d : Nat} {news : List Value} (hr : Rd W S m news)
    (s x : Operand) (hgd : o.guard = none) (ho : o.op = .call { callee := .builtin .append, args := #[s, x], argTypes := #[t, t] })
    (hs : a.eval s = .slice A n c) (hx : a.eval x = .slice S m d) (hS : S = none → m = 0 ∧ d = 0) (h1 : ∀ u ∈ news, u.oneCell' = true) (hm : n + m ≤ maxLen) (hby : (n + m) * by_ ≤ 140737488355328)
    (h : ∀ A' c' w', Ow w' b e A' (n + m) c' (xs ++ news) → Below B w0 w' → Gw W w' A A' → wpList P ops Q rest (a.put o.dst (.slice A' (n + m) c')) w') :
    wpList P ops Q (o :: rest) a W := by
  obtain ⟨i, hi, hz, hsz, hbb⟩ := info_parts E.2.1
  rcases S with _ | ad
  · obtain ⟨rfl, rfl⟩ := hS rfl
    have hn : news = [] := List.eq_nil_of_length_eq_zero (by have := hr.len; omega)
    subst hn
    refine wpList_append_own_none hgd s x t ho b e i 1 E.1 hi (.slice A n c) n xs hs hown.2 hx ?_
    have := h A c W (by simpa using hown) hB ⟨⟨rfl, rfl, rfl, Nat.le_refl _, fun _ _ _ => rfl⟩, .inl rfl⟩
    simpa using this
  · refine wpList_append_own_at (w := W) hgd s x t ho b e i z 1 by_ E.1 hi hz hsz hbb (by rw [E.2.2]; rfl) (by omega) (.slice A n c) n xs hs hown.2 ad m d news hx (by have := hr.len; omega) ?_ h1 hm hby hown.1 ?_
    · intro j v hj
      have hl : j < m := by
        have := hr.len
        have := (List.getElem?_eq_some_iff.1 hj).1
        omega
      obtain ⟨ad', e', hc⟩ := hr.2 (by omega)
      cases e'
      exact hc j v hj
    · intro v' w' hown' hg hnil hat
      rw [oB_own] at hg hat
      have hsz := hown.1
      have hB' : Below B w0 w' := hB.grown hg (by omega) (fun k hk => by have := (hown.blk hk).1; omega)
      have hb' : b ≤ w'.heap.size := by have := hg.size; omega
      rcases hown'.2 with ⟨rfl, h0⟩ | ⟨g, cap, cur, rfl, _⟩
      · have e0 : n + m = 0 := h0
        have := h none 0 w' ⟨hb', by rw [e0] at hown' ⊢; exact hown'⟩ hB' ⟨hg, hat⟩
        rw [e0] at this
        exact this
      · exact h _ _ _ ⟨hb', hown'⟩ hB' ⟨hg, hat⟩
/-- the same as one step of a region that draws ('go_region_law'). -/
theorem step_apA (E : ElT P t e z by_) {EE : Prop} {K : Act → World → Prop} {W w0 : World} {b B : Nat} {A : Option Addr} {n c : Nat} {xs : List Value} (hown : Ow W b e A n c xs) (hB : Below B w0 W) (hBb : B ≤ b)
    {S : Option Addr} {m d : Nat} {news : List Value} (hr : Rd W S m news)
    (s x : Operand) (hgd : o.guard = none) (ho : o.op = .call { callee := .builtin .append, args := #[s, x], argTypes := #[t, t] })
    (hs : a.eval s = .slice A n c) (hx : a.eval x = .slice S m d) (hS : S = none → m = 0 ∧ d = 0) (h1 : ∀ u ∈ news, u.oneCell' = true) (hm : n + m ≤ maxLen) (hby : (n + m) * by_ ≤ 140737488355328)
    (h : ∀ A' c' w', Ow w' b e A' (n + m) c' (xs ++ news) → Below B w0 w' → W.grownBy w' (oB A) → K (a.put o.dst (.slice A' (n + m) c')) w') :
    if Region.wanted o (yielded ops a.tmps) = true then Oper.wp P o a W K Q else EE := by
  obtain ⟨i, hi, hz, hsz, hbb⟩ := info_parts E.2.1
  have hw : Region.wanted o (yielded ops a.tmps) = true := by simp [Region.wanted, hgd]
  rw [if_pos hw]
  rcases S with _ | ad
  · obtain ⟨rfl, rfl⟩ := hS rfl
    have hn : news = [] := List.eq_nil_of_length_eq_zero (by have := hr.len; omega)
    subst hn
    have hrun := run_append_owned_none (P := P) (w := W) b t o.type e i 1 E.1 hi (.slice A n c) n xs hown.2
    unfold Oper.wp
    simp [execOp, ho, resolve, invoke, builtin, hs, hx, hrun, Result.andThen]
    have key := h A c W (by simpa using hown) hB ⟨rfl, rfl, rfl, Nat.le_refl _, fun _ _ _ => rfl⟩
    rw [Nat.add_zero] at key
    exact key
  · obtain ⟨v', w', hrun, hown', hg, hnil⟩ := run_append_own (P := P) W b t o.type e i z 1 by_ E.1 hi hz hsz hbb (by rw [E.2.2]; rfl) (by omega) (.slice A n c) n xs hown.2 ad m d news (by have := hr.len; omega)
      (fun j v hj => by
        have hl : j < m := by
          have := hr.len
          have := (List.getElem?_eq_some_iff.1 hj).1
          omega
        obtain ⟨ad', e', hc⟩ := hr.2 (by omega)
        cases e'
        exact hc j v hj) h1 hm hby hown.1
    rw [oB_own] at hg
    have hsz' := hown.1
    have hB' : Below B w0 w' := hB.grown hg (by omega) (fun k hk => by have := (hown.blk hk).1; omega)
    have hb' : b ≤ w'.heap.size := by have := hg.size; omega
    unfold Oper.wp
    simp [execOp, ho, resolve, invoke, builtin, hs, hx, hrun, Result.andThen]
    rcases hown'.2 with ⟨rfl, h0⟩ | ⟨g, cap, cur, rfl, _⟩
    · have e0 : n + m = 0 := h0
      have := h none 0 w' ⟨hb', by rw [e0] at hown' ⊢; exact hown'⟩ hB' hg
      rw [e0] at this
      exact this
    · exact h _ _ _ ⟨hb', hown'⟩ hB' hg
/-- the same at the operation itself, whatever its guard. -/
theorem wp_apA (E : ElT P t e z by_) {K : Act → World → Prop} {W w0 : World} {b B : Nat} {A : Option Addr} {n c : Nat} {xs : List Value} (hown : Ow W b e A n c xs) (hB : Below B w0 W) (hBb : B ≤ b)
    {S : Option Addr} {m d : Nat} {news : List Value} (hr : Rd W S m news)
    (s x : Operand) (ho : o.op = .call { callee := .builtin .append, args := #[s, x], argTypes := #[t, t] })
    (hs : a.eval s = .slice A n c) (hx : a.eval x = .slice S m d) (hS : S = none → m = 0 ∧ d = 0) (h1 : ∀ u ∈ news, u.oneCell' = true) (hm : n + m ≤ maxLen) (hby : (n + m) * by_ ≤ 140737488355328)
    (h : ∀ A' c' w', Ow w' b e A' (n + m) c' (xs ++ news) → Below B w0 w' → W.grownBy w' (oB A) → K (a.put o.dst (.slice A' (n + m) c')) w') :
    Oper.wp P o a W K Q := by
  obtain ⟨i, hi, hz, hsz, hbb⟩ := info_parts E.2.1
  rcases S with _ | ad
  · obtain ⟨rfl, rfl⟩ := hS rfl
    have hn : news = [] := List.eq_nil_of_length_eq_zero (by have := hr.len; omega)
    subst hn
    have hrun := run_append_owned_none (P := P) (w := W) b t o.type e i 1 E.1 hi (.slice A n c) n xs hown.2
    unfold Oper.wp
    simp [execOp, ho, resolve, invoke, builtin, hs, hx, hrun, Result.andThen]
    have key := h A c W (by simpa using hown) hB ⟨rfl, rfl, rfl, Nat.le_refl _, fun _ _ _ => rfl⟩
    rw [Nat.add_zero] at key
    exact key
  · obtain ⟨v', w', hrun, hown', hg, hnil⟩ := run_append_own (P := P) W b t o.type e i z 1 by_ E.1 hi hz hsz hbb (by rw [E.2.2]; rfl) (by omega) (.slice A n c) n xs hown.2 ad m d news (by have := hr.len; omega)
      (fun j v hj => by
        have hl : j < m := by
          have := hr.len
          have := (List.getElem?_eq_some_iff.1 hj).1
          omega
        obtain ⟨ad', e', hc⟩ := hr.2 (by omega)
        cases e'
        exact hc j v hj) h1 hm hby hown.1
    rw [oB_own] at hg
    have hsz' := hown.1
    have hB' : Below B w0 w' := hB.grown hg (by omega) (fun k hk => by have := (hown.blk hk).1; omega)
    have hb' : b ≤ w'.heap.size := by have := hg.size; omega
    unfold Oper.wp
    simp [execOp, ho, resolve, invoke, builtin, hs, hx, hrun, Result.andThen]
    rcases hown'.2 with ⟨rfl, h0⟩ | ⟨g, cap, cur, rfl, _⟩
    · have e0 : n + m = 0 := h0
      have := h none 0 w' ⟨hb', by rw [e0] at hown' ⊢; exact hown'⟩ hB' hg
      rw [e0] at this
      exact this
    · exact h _ _ _ ⟨hb', hown'⟩ hB' hg
/-- 'append(out, x)' of one element, which has just been laid in a block of its own. -/
theorem ap1A (E : ElT P t e z by_) {W w0 : World} {b B : Nat} {A : Option Addr} {n c : Nat} {xs : List Value} (hown : Ow W b e A n c xs) (hB : Below B w0 W) (hBb : B ≤ b)
    (s x : Operand) (u : Value) (hgd : o.guard = none) (ho : o.op = .call { callee := .builtin .append, args := #[s, x], argTypes := #[t, t] })
    (hs : a.eval s = .slice A n c) (hx : a.eval x = .slice (some ⟨W.heap.size, 0, none⟩) 1 1) (h1 : u.oneCell' = true) (hm : n + 1 ≤ maxLen) (hby : (n + 1) * by_ ≤ 140737488355328)
    (h : ∀ A' c' w', Ow w' b e A' (n + 1) c' (xs ++ [u]) → Below B w0 w' → Gw (W.alloc (.cells #[u] e)) w' A A' → wpList P ops Q rest (a.put o.dst (.slice A' (n + 1) c')) w') :
    wpList P ops Q (o :: rest) a (W.alloc (.cells #[u] e)) := by
  refine apA E (hown.alloc (.cells #[u] e)) (hB.alloc (by have := hown.1; omega) _) hBb (S := some ⟨W.heap.size, 0, none⟩) (m := 1) (d := 1) (news := [u]) ?_ s x hgd ho hs hx (fun h => by cases h) (by simpa using h1) hm hby h
  refine ⟨rfl, fun _ => ⟨_, rfl, fun i v hi => ?_⟩⟩
  match i, hi with
  | 0, hi =>
    simp at hi
    subst hi
    simp [Addr.add]
/-- 'append(out, x)' of one element, behind a guard that holds. -/
theorem ap1G (E : ElT P t e z by_) {W w0 : World} {b B : Nat} {A : Option Addr} {n c : Nat} {xs : List Value} (hown : Ow W b e A n c xs) (hB : Below B w0 W) (hBb : B ≤ b)
    (s x : Operand) (u : Value) (hw : Region.wanted o (yielded ops a.tmps) = true) (ho : o.op = .call { callee := .builtin .append, args := #[s, x], argTypes := #[t, t] })
    (hs : a.eval s = .slice A n c) (hx : a.eval x = .slice (some ⟨W.heap.size, 0, none⟩) 1 1) (h1 : u.oneCell' = true) (hm : n + 1 ≤ maxLen) (hby : (n + 1) * by_ ≤ 140737488355328)
    (h : ∀ A' c' w', Ow w' b e A' (n + 1) c' (xs ++ [u]) → Below B w0 w' → wpList P ops Q rest (a.put o.dst (.slice A' (n + 1) c')) w') :
    wpList P ops Q (o :: rest) a (W.alloc (.cells #[u] e)) := wpList_step fun K hK => by
  rw [if_pos hw]
  refine wp_apA E (hown.alloc (.cells #[u] e)) (hB.alloc (by have := hown.1; omega) _) hBb (S := some ⟨W.heap.size, 0, none⟩) (m := 1) (d := 1) (news := [u]) ?_ s x ho hs hx (fun h => by cases h) (by simpa using h1) hm hby (fun A' c' w' h2 h3 _ => hK _ _ (h A' c' w' h2 h3))
  refine ⟨rfl, fun _ => ⟨_, rfl, fun i v hi => ?_⟩⟩
  match i, hi with
  | 0, hi =>
    simp at hi
    subst hi
    simp [Addr.add]
/-- 'append([]T{}, xs...)': the empty literal has just been laid. -/
theorem ap0 (E : ElT P t e z by_) {W : World} {S : Option Addr} {m d : Nat} {news : List Value} (hr : Rd W S m news)
    (s x : Operand) (hgd : o.guard = none) (ho : o.op = .call { callee := .builtin .append, args := #[s, x], argTypes := #[t, t] })
    (hs : a.eval s = .slice (some ⟨W.heap.size, 0, none⟩) 0 0) (hx : a.eval x = .slice S m d) (hS : S = none → m = 0 ∧ d = 0) (h1 : ∀ u ∈ news, u.oneCell' = true) (hm : m ≤ maxLen) (hby : m * by_ ≤ 140737488355328)
    (h : ∀ A' c' w', Ow w' W.heap.size e A' m c' news → Below W.heap.size W w' → wpList P ops Q rest (a.put o.dst (.slice A' m c')) w') :
    wpList P ops Q (o :: rest) a (W.alloc (.cells #[] e)) := by
  refine apA E (b := W.heap.size) (B := W.heap.size) (Ow.lit W e [] (by simp)) (bl_new W _) (Nat.le_refl _) (hr.alloc _) s x hgd ho hs hx hS h1 (by simpa using hm) (by simpa using hby) ?_
  intro A' c' w' h2 h3 _
  have := h A' c' w' (by simpa using h2) h3
  simpa using this
end
end Go.Proofs.Ytgbojkbhkjameaa

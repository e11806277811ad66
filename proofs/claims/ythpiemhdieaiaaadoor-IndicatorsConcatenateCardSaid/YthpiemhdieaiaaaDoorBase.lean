/-
  WORDS ON SLICES AND WORLDS, over no program: 'Rd' (a slice reads as a list of cells), 'Ow' (a slice of the call's own), and laws of append, make and copy for them. Plain theorems; no condition beyond what each states.
-/
import Derived.WalkKit
import Derived.ProofKit
import Derived.OpenShut
import Derived.ShutString
import Derived.ChangeOld
import Derived.Below
import Derived.BigQuiet
import Derived.Deep.QuietTactic
import Derived.Deep.Draws
import Derived.Deep.AppendLies
import Derived.Maps.AppendAt
import Derived.OwnWalk
import Derived.Laws.OwnMore
import Derived.Laws.CopyOwn
import Derived.Laws.AppendOwnNone
import Derived.Laws.BitsAllLaws
namespace Go.Proofs.YthpiemhdieaiaaaDoor
open Go.RowKit
set_option linter.unusedVariables false
set_option maxRecDepth 100000

theorem hide {p : Prop} (h : p) : Hid p := h
theorem retb {a b : Bool} (h : a = b) : Ending.returned (.bool a) = .returned (.bool b) := by rw [h]
theorem reti {k : IntKind} {a b : Int} (h : a = b) : Ending.returned (.int k a) = .returned (.int k b) := by rw [h]
theorem retib {k : IntKind} {a b : Int} {p q : Bool} (h : a = b) (h' : p = q) : Ending.returned (.tuple #[.int k a, .bool p]) = .returned (.tuple #[.int k b, .bool q]) := by rw [h, h']

/-! ### addresses -/
theorem addr_block (a : Addr) (n : Nat) : (a.add n).block = a.block := by
  unfold Addr.add
  split <;> rfl
theorem addr_add (a : Addr) (i j : Nat) : (a.add i).add j = a.add (i + j) := by
  unfold Addr.add
  by_cases hi : i = 0 <;> by_cases hj : j = 0 <;> simp [hi, hj, Nat.add_assoc]
theorem addr_flat (g o j : Nat) : (⟨g, o, none⟩ : Addr).add j = ⟨g, o + j, none⟩ := by
  unfold Addr.add
  split
  · rename_i h
    have : j = 0 := by simpa using h
    subst this
    rfl
  · rfl
theorem cell_lt {w : World} {p : Addr} {v : Value} (h : w.cell? p = some v) : p.block < w.heap.size := by
  rcases Nat.lt_or_ge p.block w.heap.size with hlt | hge
  · exact hlt
  · unfold World.cell? at h
    rw [Array.getElem?_eq_none hge] at h
    simp at h

theorem bel_drewN {B : Nat} {a w : World} (h : Below B a w) (n : Nat) : Below B a (w.drewN n) := ⟨h.os, h.tape, h.output, h.size, h.block⟩
/-- a later call's part: below the first world's size. -/
theorem bel_next {w w1 w2 : World} (h : Below w.heap.size w w1) (h2 : Below w1.heap.size w1 w2) : Below w.heap.size w w2 := h.trans (h2.mono h.size)

theorem bl_refl (w : World) : Below w.heap.size w w := Below.refl _ _
theorem bl_alloc {a w : World} (h : Below a.heap.size a w) (o : Obj) : Below a.heap.size a (w.alloc o) := h.alloc h.size o
theorem bl_new (w : World) (o : Obj) : Below w.heap.size w (w.alloc o) := bl_alloc (Below.refl _ _) o

/-! ### what a slice reads as -/
def Rd (w : World) (A : Option Addr) (n : Nat) (xs : List Value) : Prop :=
  xs.length = n ∧ (0 < n → ∃ ad, A = some ad ∧ ∀ i v, xs[i]? = some v → w.cell? (ad.add i) = some v)

section
variable {w w' : World} {A : Option Addr} {n : Nat} {xs : List Value}
theorem Rd.len (h : Rd w A n xs) : xs.length = n := h.1
theorem Rd.none_ (w : World) : Rd w none 0 [] := ⟨rfl, fun h => absurd h (by omega)⟩
theorem Rd.at_ (h : Rd w A n xs) {i : Nat} (hi : i < n) : ∃ ad v, A = some ad ∧ xs[i]? = some v ∧ w.cell? (ad.add i) = some v := by
  obtain ⟨ad, e, hc⟩ := h.2 (by omega)
  have hl : i < xs.length := by have := h.1; omega
  exact ⟨ad, xs[i], e, List.getElem?_eq_getElem hl, hc i _ (List.getElem?_eq_getElem hl)⟩
theorem Rd.flat {g o : Nat} (h : Rd w (some ⟨g, o, none⟩) n xs) {i : Nat} {v : Value} (hv : xs[i]? = some v) : w.cell? ⟨g, o + i, none⟩ = some v := by
  have hi : i < n := by
    have := (List.getElem?_eq_some_iff.1 hv).1
    have := h.1
    omega
  obtain ⟨ad, e, hc⟩ := h.2 (by omega)
  cases e
  have := hc i v hv
  rwa [addr_flat] at this
theorem Rd.flat0 {g : Nat} (h : Rd w (some ⟨g, 0, none⟩) n xs) {i : Nat} {v : Value} (hv : xs[i]? = some v) : w.cell? ⟨g, i, none⟩ = some v := by
  have := h.flat hv
  rwa [Nat.zero_add] at this
theorem Rd.keep (h : Rd w A n xs) (hk : ∀ p : Addr, p.block < w.heap.size → w'.cell? p = w.cell? p) : Rd w' A n xs :=
  ⟨h.1, fun hn => by
    obtain ⟨ad, e, hc⟩ := h.2 hn
    exact ⟨ad, e, fun i v hi => by have := hc i v hi; rw [hk _ (cell_lt this)]; exact this⟩⟩
theorem Rd.below (h : Rd w A n xs) (hb : Below w.heap.size w w') : Rd w' A n xs := h.keep fun _ hp => hb.cell hp
theorem Rd.alloc (h : Rd w A n xs) (o : Obj) : Rd (w.alloc o) A n xs := h.below (bl_new w o)
theorem Rd.drew (h : Rd w A n xs) : Rd w.drew A n xs := h
theorem Rd.drewN (h : Rd w A n xs) (k : Nat) : Rd (w.drewN k) A n xs := h
theorem Rd.cut (h : Rd w A n xs) {k cap : Nat} (hk : k ≤ n) (hc : n ≤ cap) : Rd w (if cap = k then A else A.map (·.add k)) (n - k) (xs.drop k) := by
  refine ⟨by rw [List.length_drop, h.1], fun hn => ?_⟩
  obtain ⟨ad, rfl, hcell⟩ := h.2 (by omega)
  rw [if_neg (by omega)]
  refine ⟨ad.add k, rfl, fun i v hi => ?_⟩
  rw [addr_add]
  exact hcell _ v (by rw [← hi, List.getElem?_drop])
theorem Rd.take (h : Rd w A n xs) {k : Nat} (hk : k ≤ n) : Rd w A k (xs.take k) := by
  refine ⟨by rw [List.length_take, h.1]; omega, fun hn => ?_⟩
  obtain ⟨ad, e, hcell⟩ := h.2 (by omega)
  refine ⟨ad, e, fun i v hi => hcell i v ?_⟩
  rw [List.getElem?_take] at hi
  split at hi
  · exact hi
  · cases hi
end

/-- what a slice of integers that came in is: the shells' own words. -/
def IsRw (k : IntKind) (w : World) (a : Option Addr) (len cap : Nat) (zs : List Int) : Prop :=
  (a = none ∧ len = 0 ∧ cap = 0 ∧ zs = []) ∨
  ∃ x, a = some x ∧ len ≤ cap ∧ cap ≤ maxLen ∧ zs.length = cap ∧ (∀ i, i < zs.length → w.cell? (x.add i) = some (.int k (zs.getD i 0))) ∧ ∀ n ∈ zs, (Lit.int k n).wf = true
theorem IsRw.nil {k : IntKind} {w : World} {a : Option Addr} {len cap : Nat} {zs : List Int} (h : IsRw k w a len cap zs) : a = none → len = 0 ∧ cap = 0 := by
  rintro rfl
  rcases h with ⟨_, h1, h2, _⟩ | ⟨x, h, _⟩
  · exact ⟨h1, h2⟩
  · cases h
theorem IsRw.cap {k : IntKind} {w : World} {a : Option Addr} {len cap : Nat} {zs : List Int} (h : IsRw k w a len cap zs) : len ≤ cap ∧ cap ≤ 9223372036854775807 := by
  rcases h with ⟨_, h1, h2, _⟩ | ⟨x, h, h1, h2, _⟩
  · omega
  · exact ⟨h1, by simpa [maxLen] using h2⟩
theorem IsRw.rd {k : IntKind} {w : World} {a : Option Addr} {len cap : Nat} {zs : List Int} (h : IsRw k w a len cap zs) : Rd w a len ((zs.take len).map (Value.int k)) := by
  rcases h with ⟨rfl, rfl, rfl, rfl⟩ | ⟨x, rfl, h1, h2, h3, h4, _⟩
  · exact Rd.none_ w
  · refine ⟨by simp; omega, fun _ => ⟨x, rfl, fun i v hi => ?_⟩⟩
    have hl : i < len := by
      have := (List.getElem?_eq_some_iff.1 hi).1
      simp at this
      omega
    rw [List.getElem?_map, List.getElem?_take, if_pos hl] at hi
    rw [h4 i (by omega)]
    rw [List.getElem?_eq_getElem (by omega)] at hi
    simp at hi
    rw [← hi, List.getD_eq_getElem?_getD, List.getElem?_eq_getElem (by omega)]
    rfl
theorem IsRw.wf {k : IntKind} {w : World} {a : Option Addr} {len cap : Nat} {zs : List Int} (h : IsRw k w a len cap zs) : ∀ n ∈ zs.take len, (Lit.int k n).wf = true := by
  intro n hn
  rcases h with ⟨rfl, rfl, rfl, rfl⟩ | ⟨x, rfl, h1, h2, h3, h4, h5⟩
  · simp at hn
  · exact h5 n (List.mem_of_mem_take hn)
theorem wf_u8 {n : Int} (h : (Lit.int .u8 n).wf = true) : 0 ≤ n ∧ n < 256 := by simp [Lit.wf, IntKind.min, IntKind.max, IntKind.signed, IntKind.bits] at h; omega
theorem wf_u64 {n : Int} (h : (Lit.int .u64 n).wf = true) : 0 ≤ n ∧ n < 18446744073709551616 := by simp [Lit.wf, IntKind.min, IntKind.max, IntKind.signed, IntKind.bits] at h; omega
theorem wf_i64 {n : Int} (h : (Lit.int .i64 n).wf = true) : -9223372036854775808 ≤ n ∧ n < 9223372036854775808 := by simp [Lit.wf, IntKind.min, IntKind.max, IntKind.signed, IntKind.bits] at h; omega

/-! ### a slice of the call's own -/
def Ow (w : World) (b : Nat) (e : TypeId) (A : Option Addr) (n c : Nat) (xs : List Value) : Prop :=
  b ≤ w.heap.size ∧ w.ownsRow b e 1 (.slice A n c) n xs

section
variable {w w' : World} {b : Nat} {e : TypeId} {A : Option Addr} {n c : Nat} {xs : List Value}
theorem Ow.len (h : Ow w b e A n c xs) : xs.length = n := by have := h.2.1; omega
theorem Ow.base (h : Ow w b e A n c xs) : b ≤ w.heap.size := h.1
theorem Ow.nil (hb : b ≤ w.heap.size) (e : TypeId) : Ow w b e none 0 0 [] := ⟨hb, World.ownsRow_nil _ _ _ _⟩
theorem Ow.cap (h : Ow w b e A n c xs) : n ≤ c := by
  rcases h.2.2 with ⟨h', rfl⟩ | ⟨g, cap, cur, h', _, _, hn, _⟩
  · omega
  · injection h' with _ _ h3
    omega
theorem Ow.capMax (h : Ow w b e A n c xs) : c ≤ maxLen := by
  rcases h.2.2 with ⟨h', rfl⟩ | ⟨g, cap, cur, h', _, _, hn, hm, _⟩
  · injection h' with _ _ h3
    omega
  · injection h' with _ _ h3
    omega
theorem Ow.nilcap (h : Ow w b e A n c xs) (hA : A = none) : n = 0 ∧ c = 0 := by
  subst hA
  rcases h.2.2 with ⟨h', rfl⟩ | ⟨g, cap, cur, h', _⟩
  · injection h' with _ _ h3
    exact ⟨rfl, h3⟩
  · injection h' with h'
    cases h'
theorem Ow.lit (w : World) (e : TypeId) (xs : List Value) (hm : xs.length ≤ maxLen) : Ow (w.alloc (.cells xs.toArray e)) w.heap.size e (some ⟨w.heap.size, 0, none⟩) xs.length xs.length xs :=
  ⟨by simp, by simpa using World.ownsRow_lit (size := 1) (e := e) w xs.toArray xs.length (Nat.le_refl _) hm (by simp)⟩
theorem Ow.drew (h : Ow w b e A n c xs) : Ow w.drew b e A n c xs := ⟨h.1, h.2.drew⟩
theorem Ow.alloc (h : Ow w b e A n c xs) (o : Obj) : Ow (w.alloc o) b e A n c xs := ⟨by have := h.1; simp; omega, h.2.alloc o⟩
theorem Ow.mono (h : Ow w b e A n c xs) {b' : Nat} (hb : b' ≤ b) : Ow w b' e A n c xs :=
  ⟨Nat.le_trans hb h.1, h.2.1, h.2.2.imp id fun ⟨g, cap, cur, e1, e2, e3⟩ => ⟨g, cap, cur, e1, Nat.le_trans hb e2, e3⟩⟩
theorem Ow.lt (h : Ow w b e A n c xs) : ∀ k, (Value.slice A n c).ownBlock = some k → b ≤ k ∧ k < w.heap.size := h.2.lt
theorem Ow.below (h : Ow w b e A n c xs) (hb : Below w.heap.size w w') : Ow w' b e A n c xs := by
  refine ⟨Nat.le_trans h.1 hb.size, h.2.1, ?_⟩
  rcases h.2.2 with h' | ⟨g, cap, cur, e1, e2, e3, e4⟩
  · exact .inl h'
  · refine .inr ⟨g, cap, cur, e1, e2, ?_, e4⟩
    have hg : g < w.heap.size := (h.2.lt g (by rw [e1]; rfl)).2
    exact (hb.block g hg).trans e3
theorem Ow.form (h : Ow w b e A n c xs) (hn : 0 < n) : ∃ g, A = some ⟨g, 0, none⟩ ∧ b ≤ g ∧ g < w.heap.size := by
  rcases h.2.2 with ⟨_, h'⟩ | ⟨g, cap, cur, e1, e2, e3, e4⟩
  · omega
  · have hg : g < w.heap.size := (h.2.lt g (by rw [e1]; rfl)).2
    injection e1 with e1
    exact ⟨g, e1, e2, hg⟩
theorem Ow.rd (h : Ow w b e A n c xs) : Rd w A n xs := by
  refine ⟨h.len, fun hn => ?_⟩
  obtain ⟨g, rfl, _, _⟩ := h.form hn
  exact ⟨_, rfl, h.2.cells (g := g) rfl⟩
theorem Ow.cell {g : Nat} (h : Ow w b e (some ⟨g, 0, none⟩) n c xs) (j : Nat) (hj : j < n) : w.cell? ⟨g, j, none⟩ = xs[j]? := h.2.cellAt j (by omega)
theorem Ow.frozen {g : Nat} (h : Ow w b e (some ⟨g, 0, none⟩) n c xs) (j : Nat) : w.frozen? ⟨g, j, none⟩ = false := h.2.frozenAt j
theorem Ow.set {g : Nat} (h : Ow w b e (some ⟨g, 0, none⟩) n c xs) (j : Nat) (u : Value) : Ow (w.setCell ⟨g, j, none⟩ u) b e (some ⟨g, 0, none⟩) n c (xs.set j u) :=
  ⟨by have := h.1; simpa [World.setCell] using this, (h.2.stored j u).1⟩
end

theorem Ow.setLow {w : World} {b : Nat} {e : TypeId} {A : Option Addr} {n c : Nat} {xs : List Value} (h : Ow w b e A n c xs) {g : Nat} (o : Nat) (hg : g < b) (u : Value) : Ow (w.setCell ⟨g, o, none⟩ u) b e A n c xs :=
  ⟨by have := h.1; simpa [World.setCell] using this, ownsRow_setCell_below h.2 (a := ⟨g, o, none⟩) hg u⟩

/-! ### a struct in a block of its own -/
theorem bcell {W w1 : World} (hb : Below W.heap.size W w1) : (∀ b o, b < W.heap.size → w1.cell? ⟨b, o, none⟩ = W.cell? ⟨b, o, none⟩) ∧ (∀ b o, b < W.heap.size → w1.frozen? ⟨b, o, none⟩ = W.frozen? ⟨b, o, none⟩) :=
  ⟨fun b o h => hb.cell (p := ⟨b, o, none⟩) h, fun b o h => hb.frozen (p := ⟨b, o, none⟩) h⟩
theorem bl_set {a w : World} (h : Below a.heap.size a w) {g o : Nat} (hg : a.heap.size ≤ g) (v : Value) : Below a.heap.size a (w.setCell ⟨g, o, none⟩ v) := h.setCell hg v
theorem bl_drew {a w : World} (h : Below a.heap.size a w) : Below a.heap.size a w.drew := bel_drewN h 1
def Bx (w : World) (g : Nat) (vs : List Value) : Prop :=
  g < w.heap.size ∧ (∀ j v, vs[j]? = some v → w.cell? ⟨g, j, none⟩ = some v) ∧ ∀ j, w.frozen? ⟨g, j, none⟩ = false
section
variable {w w' : World} {g : Nat} {vs : List Value}
theorem Bx.new (w : World) (vs : List Value) (T : TypeId) : Bx (w.alloc (.cells vs.toArray T)) w.heap.size vs :=
  ⟨by simp, fun j v h => by rw [World.cell?_alloc_new]; simpa using h, fun j => World.frozen?_alloc_new _ _ _ _⟩
theorem Bx.new4 (w : World) (a b c d : Value) (T : TypeId) : Bx (w.alloc (.cells #[a, b, c, d] T)) w.heap.size [a, b, c, d] := Bx.new w [a, b, c, d] T
theorem Bx.snd4 (w : World) (o : Obj) (a b c d : Value) (T : TypeId) : Bx ((w.alloc o).alloc (.cells #[a, b, c, d] T)) (w.heap.size + 1) [a, b, c, d] := by
  have := Bx.new4 (w.alloc o) a b c d T
  simpa using this
theorem Bx.new4d (w : World) (o : Obj) (a b c d : Value) (T : TypeId) : Bx (((w.alloc o).drew).alloc (.cells #[a, b, c, d] T)) (w.heap.size + 1) [a, b, c, d] := by
  have := Bx.new4 ((w.alloc o).drew) a b c d T
  rwa [show ((w.alloc o).drew).heap.size = w.heap.size + 1 from (show (w.alloc o).heap.size = _ by simp)] at this
theorem Bx.lt (h : Bx w g vs) : g < w.heap.size := h.1
theorem Bx.below (h : Bx w g vs) (hb : Below w.heap.size w w') : Bx w' g vs :=
  ⟨Nat.lt_of_lt_of_le h.1 hb.size, fun j v hj => by rw [hb.cell (p := ⟨g, j, none⟩) h.1]; exact h.2.1 j v hj, fun j => by rw [hb.frozen (p := ⟨g, j, none⟩) h.1]; exact h.2.2 j⟩
theorem Bx.alloc (h : Bx w g vs) (o : Obj) : Bx (w.alloc o) g vs := h.below (bl_new w o)
theorem Bx.drew (h : Bx w g vs) : Bx w.drew g vs := h
theorem Bx.set_ne (h : Bx w g vs) {g' : Nat} (o : Nat) (hne : g' ≠ g) (u : Value) : Bx (w.setCell ⟨g', o, none⟩ u) g vs :=
  ⟨by have := h.1; simpa [World.setCell] using this, fun j v hj => by rw [World.cell?_setCell_other _ _ _ _ (by intro e; injection e with e; exact hne e)]; exact h.2.1 j v hj, fun j => by rw [World.frozen?_setCell]; exact h.2.2 j⟩
theorem Bx.set (h : Bx w g vs) (o : Nat) (u : Value) (ho : o < vs.length) : Bx (w.setCell ⟨g, o, none⟩ u) g (vs.set o u) := by
  refine ⟨by have := h.1; simpa [World.setCell] using this, fun j v hj => ?_, fun j => by rw [World.frozen?_setCell]; exact h.2.2 j⟩
  by_cases hjo : o = j
  · subst hjo
    rw [List.getElem?_set_self ho] at hj
    cases hj
    exact World.cell?_setCell_same _ _ _ (h.2.1 o (vs[o]) (List.getElem?_eq_getElem ho))
  · rw [List.getElem?_set_ne hjo] at hj
    rw [World.cell?_setCell_other _ _ _ _ (by intro e; injection e with _ e; exact hjo e)]
    exact h.2.1 j v hj
theorem Bx.store4 {a b c d a' b' c' d' : Value} (h : Bx w g [a', b', c', d']) : Bx ((((w.setCell ⟨g, 0, none⟩ a).setCell ⟨g, 1, none⟩ b).setCell ⟨g, 2, none⟩ c).setCell ⟨g, 3, none⟩ d) g [a, b, c, d] :=
  (((h.set 0 a (by simp)).set 1 b (by simp)).set 2 c (by simp)).set 3 d (by simp)
theorem Bx.away4 {a b c d : Value} (h : Bx w g vs) {g' : Nat} (hne : g' ≠ g) : Bx ((((w.setCell ⟨g', 0, none⟩ a).setCell ⟨g', 1, none⟩ b).setCell ⟨g', 2, none⟩ c).setCell ⟨g', 3, none⟩ d) g vs :=
  (((h.set_ne 0 hne a).set_ne 1 hne b).set_ne 2 hne c).set_ne 3 hne d
theorem bl_set4 {w0 w : World} {a b c d : Value} (h : Below w0.heap.size w0 w) {g : Nat} (hg : w0.heap.size ≤ g) : Below w0.heap.size w0 ((((w.setCell ⟨g, 0, none⟩ a).setCell ⟨g, 1, none⟩ b).setCell ⟨g, 2, none⟩ c).setCell ⟨g, 3, none⟩ d) :=
  bl_set (bl_set (bl_set (bl_set h hg _) hg _) hg _) hg _
theorem Bx.grown {row : Option Nat} (h : Bx w g vs) (hg : w.grownBy w' row) (hne : some g ≠ row) : Bx w' g vs :=
  ⟨Nat.lt_of_lt_of_le h.1 hg.size, fun j v hj => by rw [hg.cell_far ⟨g, j, none⟩ h.1 hne]; exact h.2.1 j v hj, fun j => by rw [hg.frozen_far ⟨g, j, none⟩ h.1 hne]; exact h.2.2 j⟩
theorem Bx.cells4 {a b c d : Value} (h : Bx w g [a, b, c, d]) : w.cell? ⟨g, 0, none⟩ = some a ∧ w.cell? ⟨g, 1, none⟩ = some b ∧ w.cell? ⟨g, 2, none⟩ = some c ∧ w.cell? ⟨g, 3, none⟩ = some d :=
  ⟨h.2.1 0 _ rfl, h.2.1 1 _ rfl, h.2.1 2 _ rfl, h.2.1 3 _ rfl⟩
theorem Bx.fr (h : Bx w g vs) (j : Nat) : w.frozen? ⟨g, j, none⟩ = false := h.2.2 j
end

theorem cellE {W w1 : World} (hb : Below W.heap.size W w1) {a : Addr} {v : Value} (h : W.cell? a = some v) : w1.cell? a = some v := by
  rw [hb.cell (cell_lt h)]
  exact h
theorem cellA {W : World} {a : Addr} {v : Value} {o : Obj} (h : W.cell? a = some v) : (W.alloc o).cell? a = some v := cellE (bl_new W o) h
theorem hidBx {W w1 : World} {g : Nat} {vs : List Value} (h : Hid (Bx W g vs)) (hb : Below W.heap.size W w1) : Hid (Bx w1 g vs) := hide (h.out.below hb)
theorem hidOw {W w1 : World} {b : Nat} {e : TypeId} {A : Option Addr} {n c : Nat} {xs : List Value} (h : Hid (Ow W b e A n c xs)) (hb : Below W.heap.size W w1) : Hid (Ow w1 b e A n c xs) := hide (h.out.below hb)
theorem ow_ne {w : World} {b : Nat} {e : TypeId} {A : Option Addr} {n c : Nat} {xs : List Value} (h : Ow w b e A n c xs) {g : Nat} (hg : g < b ∨ w.heap.size ≤ g) : some g ≠ (Value.slice A n c).ownBlock := by
  intro h'
  have := h.lt g h'.symm
  omega
theorem ow_away4 {w : World} {b : Nat} {e : TypeId} {A : Option Addr} {n k : Nat} {xs : List Value} (h : Ow w b e A n k xs) {g : Nat} (hg : some g ≠ (Value.slice A n k).ownBlock) (p q r t : Value) :
    Ow ((((w.setCell ⟨g, 0, none⟩ p).setCell ⟨g, 1, none⟩ q).setCell ⟨g, 2, none⟩ r).setCell ⟨g, 3, none⟩ t) b e A n k xs := by
  have one : ∀ {w : World} (h : Ow w b e A n k xs) (o : Nat) (u : Value), Ow (w.setCell ⟨g, o, none⟩ u) b e A n k xs := fun h o u =>
    ⟨by have := h.1; simpa [World.setCell] using this, ownsRow_setCell_other h.2 (a := ⟨g, o, none⟩) (fun h' => hg h'.symm) u⟩
  exact one (one (one (one h 0 p) 1 q) 2 r) 3 t

/-! ### the facts of a slice type -/
def ElT (P : Program) (t e : TypeId) (z : Value) (by_ : Nat) : Prop :=
  P.underlying t = some (.slice e) ∧ (P.info? e).map (fun i => (i.zero, i.size, i.bytes)) = some (some z, 1, by_) ∧ z.cells = #[z]

section
variable {P : Program} {t e : TypeId} {z : Value} {by_ : Nat} {ops : Array Oper} {rest : List Oper} {o : Oper} {a : Act} {Q : Exit → Act → World → Prop}

/-- 'append(out, x)' of one element: the element has just been laid in a block of its own. -/
theorem ap1 (E : ElT P t e z by_) {W w0 : World} {b B : Nat} {A : Option Addr} {n c : Nat} {xs : List Value} (hown : Ow W b e A n c xs) (hB : Below B w0 W) (hBb : B ≤ b)
    (s x : Operand) (u : Value) (hgd : o.guard = none) (ho : o.op = .call { callee := .builtin .append, args := #[s, x], argTypes := #[t, t] })
    (hs : a.eval s = .slice A n c) (hx : a.eval x = .slice (some ⟨W.heap.size, 0, none⟩) 1 1) (h1 : u.oneCell' = true) (hm : n + 1 ≤ maxLen) (hby : (n + 1) * by_ ≤ 140737488355328)
    (h : ∀ A' c' w', Ow w' b e A' (n + 1) c' (xs ++ [u]) → Below B w0 w' → wpList P ops Q rest (a.put o.dst (.slice A' (n + 1) c')) w') :
    wpList P ops Q (o :: rest) a (W.alloc (.cells #[u] e)) := by
  obtain ⟨i, hi, hz, hsz, hbb⟩ := info_parts E.2.1
  refine wpList_append_own _ hgd s x t ho b e i z 1 by_ E.1 hi hz hsz hbb (by rw [E.2.2]; rfl) (by omega) (.slice A n c) n xs hs (hown.alloc _).2 ⟨W.heap.size, 0, none⟩ 1 1 [u] hx rfl ?_ ?_ hm hby (hown.alloc _).1 ?_
  · intro j v hj
    match j, hj with
    | 0, hj => simp at hj; subst hj; simp [Addr.add]
  · intro v hv
    simp at hv
    subst hv
    exact h1
  · intro v' w' hown' hg _
    have hsz := hown.1
    have hlt := hown.lt
    have hB' : Below B w0 w' := (hB.alloc (by omega) _).grown hg (by simp; omega) (fun k hk => by have := (hlt k hk).1; omega)
    have hb' : b ≤ w'.heap.size := by have := hg.size; simp at this; omega
    rcases hown'.2 with ⟨_, h0⟩ | ⟨g, cap, cur, rfl, _⟩
    · omega
    · exact h _ _ _ ⟨hb', hown'⟩ hB'

/-- 'append(out, xs...)', the source read, whatever its address. -/
theorem apn (E : ElT P t e z by_) {W w0 : World} {b B : Nat} {A : Option Addr} {n c : Nat} {xs : List Value} (hown : Ow W b e A n c xs) (hB : Below B w0 W) (hBb : B ≤ b)
    {S : Option Addr} {m d : Nat} {news : List Value} (hr : Rd W S m news)
    (s x : Operand) (hgd : o.guard = none) (ho : o.op = .call { callee := .builtin .append, args := #[s, x], argTypes := #[t, t] })
    (hs : a.eval s = .slice A n c) (hx : a.eval x = .slice S m d) (hS : S = none → m = 0 ∧ d = 0) (h1 : ∀ u ∈ news, u.oneCell' = true) (hm : n + m ≤ maxLen) (hby : (n + m) * by_ ≤ 140737488355328)
    (h : ∀ A' c' w', Ow w' b e A' (n + m) c' (xs ++ news) → Below B w0 w' → wpList P ops Q rest (a.put o.dst (.slice A' (n + m) c')) w') :
    wpList P ops Q (o :: rest) a W := by
  obtain ⟨i, hi, hz, hsz, hbb⟩ := info_parts E.2.1
  rcases S with _ | ad
  · obtain ⟨rfl, rfl⟩ := hS rfl
    have hn : news = [] := List.eq_nil_of_length_eq_zero (by have := hr.len; omega)
    subst hn
    refine wpList_append_own_none hgd s x t ho b e i 1 E.1 hi (.slice A n c) n xs hs hown.2 hx ?_
    have := h A c W (by simpa using hown) hB
    simpa using this
  · refine wpList_append_own _ hgd s x t ho b e i z 1 by_ E.1 hi hz hsz hbb (by rw [E.2.2]; rfl) (by omega) (.slice A n c) n xs hs hown.2 ad m d news hx (by have := hr.len; omega) ?_ h1 hm hby hown.1 ?_
    · intro j v hj
      have hl : j < m := by
        have := hr.len
        have := (List.getElem?_eq_some_iff.1 hj).1
        omega
      obtain ⟨ad', e', hc⟩ := hr.2 (by omega)
      cases e'
      exact hc j v hj
    · intro v' w' hown' hg hnil
      have hsz := hown.1
      have hlt := hown.lt
      have hB' : Below B w0 w' := hB.grown hg (by omega) (fun k hk => by have := (hlt k hk).1; omega)
      have hb' : b ≤ w'.heap.size := by have := hg.size; omega
      rcases hown'.2 with ⟨rfl, h0⟩ | ⟨g, cap, cur, rfl, _⟩
      · have e0 : n + m = 0 := h0
        have := h none 0 w' ⟨hb', by rw [e0] at hown' ⊢; exact hown'⟩ hB'
        rw [e0] at this
        exact this
      · exact h _ _ _ ⟨hb', hown'⟩ hB'

/-- 'apn', and every struct in a block of its own that is not the slice's stays. -/
theorem apnK (E : ElT P t e z by_) {W w0 : World} {b B : Nat} {A : Option Addr} {n c : Nat} {xs : List Value} (hown : Ow W b e A n c xs) (hB : Below B w0 W) (hBb : B ≤ b)
    {S : Option Addr} {m d : Nat} {news : List Value} (hr : Rd W S m news)
    (s x : Operand) (hgd : o.guard = none) (ho : o.op = .call { callee := .builtin .append, args := #[s, x], argTypes := #[t, t] })
    (hs : a.eval s = .slice A n c) (hx : a.eval x = .slice S m d) (hS : S = none → m = 0 ∧ d = 0) (h1 : ∀ u ∈ news, u.oneCell' = true) (hm : n + m ≤ maxLen) (hby : (n + m) * by_ ≤ 140737488355328)
    (h : ∀ A' c' w', Ow w' b e A' (n + m) c' (xs ++ news) → Below B w0 w' → (∀ g vs, Bx W g vs → some g ≠ (Value.slice A n c).ownBlock → Bx w' g vs) → wpList P ops Q rest (a.put o.dst (.slice A' (n + m) c')) w') :
    wpList P ops Q (o :: rest) a W := by
  obtain ⟨i, hi, hz, hsz, hbb⟩ := info_parts E.2.1
  rcases S with _ | ad
  · obtain ⟨rfl, rfl⟩ := hS rfl
    have hn : news = [] := List.eq_nil_of_length_eq_zero (by have := hr.len; omega)
    subst hn
    refine wpList_append_own_none hgd s x t ho b e i 1 E.1 hi (.slice A n c) n xs hs hown.2 hx ?_
    have := h A c W (by simpa using hown) hB (fun _ _ h _ => h)
    simpa using this
  · refine wpList_append_own _ hgd s x t ho b e i z 1 by_ E.1 hi hz hsz hbb (by rw [E.2.2]; rfl) (by omega) (.slice A n c) n xs hs hown.2 ad m d news hx (by have := hr.len; omega) ?_ h1 hm hby hown.1 ?_
    · intro j v hj
      have hl : j < m := by
        have := hr.len
        have := (List.getElem?_eq_some_iff.1 hj).1
        omega
      obtain ⟨ad', e', hc⟩ := hr.2 (by omega)
      cases e'
      exact hc j v hj
    · intro v' w' hown' hg hnil
      have hsz := hown.1
      have hlt := hown.lt
      have hB' : Below B w0 w' := hB.grown hg (by omega) (fun k hk => by have := (hlt k hk).1; omega)
      have hb' : b ≤ w'.heap.size := by have := hg.size; omega
      rcases hown'.2 with ⟨rfl, h0⟩ | ⟨g, cap, cur, rfl, _⟩
      · have e0 : n + m = 0 := h0
        have := h none 0 w' ⟨hb', by rw [e0] at hown' ⊢; exact hown'⟩ hB' (fun _ _ h hne => h.grown hg hne)
        rw [e0] at this
        exact this
      · exact h _ _ _ ⟨hb', hown'⟩ hB' (fun _ _ h hne => h.grown hg hne)

/-- 'make([]T, n, k)'. -/
theorem mk (E : ElT P t e z by_) {W w0 : World} {b B : Nat} (hB : Below B w0 W) (hBb : B ≤ b) (hb : b ≤ W.heap.size)
    (hgd : o.guard = none) (l c : Operand) (hop : o.op = Op.makeSlice t l c) (kl kc : IntKind) (L C : Int) (n k : Nat) (hl : a.eval l = .int kl L) (hc : a.eval c = .int kc C) (hL : L = (n : Int)) (hC : C = (k : Int))
    (hnk : n ≤ k) (b2 : by_ * k ≤ 281474976710656) (b3 : k ≤ maxLen)
    (h : ∀ w', Ow w' b e (some ⟨W.heap.size, 0, none⟩) n k (List.replicate n z) → Below B w0 w' → wpList P ops Q rest (a.put o.dst (.slice (some ⟨W.heap.size, 0, none⟩) n k)) w') :
    wpList P ops Q (o :: rest) a W := by
  obtain ⟨i, hi, hz, hsz, hbb⟩ := info_parts E.2.1
  have b3' : (k : Int) ≤ 9223372036854775807 := by simp [maxLen] at b3; omega
  have b2' : (i.bytes : Int) * (k : Int) ≤ 281474976710656 := by
    have h : ((i.bytes * k : Nat) : Int) ≤ 281474976710656 := by rw [hbb]; omega
    rwa [Int.natCast_mul] at h
  have hr := run_make (P := P) W t e i z E.1 hi hz kl kc n k (by omega) (by omega) b2' b3'
  simp only [Int.toNat_natCast] at hr
  subst hL
  subst hC
  refine wpList_plain hgd fun K hK' => ?_
  unfold Oper.wp
  simp [execOp, hop, hl, hc, hr, Result.andThen]
  refine hK' _ _ (h _ ⟨by simp; omega, ?_⟩ (hB.alloc (by omega) _))
  have hm : (madeCells z.cells (k * i.size)).toList = List.replicate k z := by rw [hsz, Nat.mul_one, E.2.2]; exact toList_madeCells_one z k
  refine ⟨by simp, .inr ⟨W.heap.size, k, _, rfl, hb, heap_alloc_new W _, hnk, b3, by rw [size_madeCells, hsz], ?_⟩⟩
  rw [hm, List.take_replicate]
  congr 1
  omega

/-- 'copy(out, src)', out the call's own and as long as the source at least. -/
theorem cp (E : ElT P t e z by_) {W w0 : World} {b B : Nat} {A : Option Addr} {n c : Nat} {xs : List Value} (hown : Ow W b e A n c xs) (hB : Below B w0 W) (hBb : B ≤ b)
    {S : Option Addr} {m k : Nat} {news : List Value} (hr : Rd W S m news) (hmn : m ≤ n)
    (d s : Operand) (hgd : o.guard = none) (ho : o.op = .call { callee := .builtin .copy, args := #[d, s], argTypes := #[t, t] })
    (hd : a.eval d = .slice A n c) (hs : a.eval s = .slice S m k) (h1 : ∀ u ∈ news, u.oneCell' = true)
    (h : ∀ w', Ow w' b e A n c (news ++ xs.drop m) → Below B w0 w' → wpList P ops Q rest (a.put o.dst (goInt m)) w') :
    wpList P ops Q (o :: rest) a W := by
  obtain ⟨i, hi, hz, hsz, hbb⟩ := info_parts E.2.1
  have hsz' : (P.info? e).map (·.size) = some 1 := by rw [hi]; simp [hsz]
  rcases Nat.eq_zero_or_pos m with h0 | h0
  · subst h0
    have hn : news = [] := List.eq_nil_of_length_eq_zero hr.len
    subst hn
    refine wpList_copy_nothing hgd d s t t ho e E.1 hsz' A S n c 0 k hd hs (by simp) ?_
    exact h W (by simpa using hown) hB
  · obtain ⟨g, rfl, hbg, hg⟩ := hown.form (by omega)
    obtain ⟨ad, rfl, hsrc⟩ := hr.2 h0
    rcases hown.2.2 with ⟨_, h'⟩ | ⟨g', cap, cur, e1, e2, e3, e4, e5, e6, e7⟩
    · omega
    · injection e1 with e1 _ ec
      injection e1 with e1
      injection e1 with e1
      subst e1
      subst ec
      have hlen := hr.len
      simp only [Nat.mul_one] at e6 e7
      refine wpList_copy_splice hgd d s t t ho e E.1 hsz' _ _ n c m k hd hs g 0 cur.toList e (by simpa using e3) news (by rw [hlen]; exact (Nat.min_eq_left hmn).symm)
        (fun _ => ⟨rfl, ad, rfl, hsrc⟩) (by simp; omega) h1 B w0 hB (by omega) ?_
      intro w' hh hB'
      have hh' := hh.out
      have hsplice : (splice cur.toList 0 news).length = c := by rw [length_splice _ _ _ (by simp; omega)]; simpa using e6
      have hgl : g < w'.heap.size := by
        rcases Nat.lt_or_ge g w'.heap.size with hlt | hge
        · exact hlt
        · rw [Array.getElem?_eq_none hge] at hh'; cases hh'
      rw [hlen]
      refine h w' ⟨by omega, ⟨?_, .inr ⟨g, c, _, rfl, e2, hh', e4, e5, by simpa using hsplice, ?_⟩⟩⟩ hB'
      · simp; have := hown.len; omega
      · have : (splice cur.toList 0 news) = news ++ cur.toList.drop m := by simp [splice, hlen]
        simp only [this, Nat.mul_one]
        rw [List.take_append, hlen, List.take_of_length_le (by omega), ← e7, List.take_drop]
        congr 3
        omega
end
end Go.Proofs.YthpiemhdieaiaaaDoor

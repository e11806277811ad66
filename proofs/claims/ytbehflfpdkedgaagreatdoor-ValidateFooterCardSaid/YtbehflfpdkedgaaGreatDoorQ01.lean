/-
  Texts of mine in one file: Base2, CvMath. Their conditions stand in the theorems.
-/
import Derived.WalkKit
import Derived.ProofKit
import Derived.OpenShut
import Derived.ShutString
import Derived.ChangeOld
import Derived.Below
import Derived.BigQuiet
import Derived.Deep.QuietTactic
import Derived.Deep.Draws
import Derived.Deep.AppendLies
import Derived.Maps.AppendAt
import Derived.OwnWalk
import Derived.Laws.OwnMore
import Derived.Laws.CopyOwn
import Derived.Laws.AppendOwnNone
import Derived.Laws.BitsAllLaws
namespace Go.Proofs.YtbehflfpdkedgaaGreatDoor
set_option linter.unusedVariables false
set_option linter.unusedSimpArgs false
set_option maxRecDepth 100000
set_option maxHeartbeats 16000000
open Go.ChangeShapes Go.WideShapes Go.ChangeAt Go.RowKit
theorem sI1 {α : Type} (l : List α) (i : Nat) (a : α) : l.toArray.setIfInBounds i a = (l.set i a).toArray := List.setIfInBounds_toArray l i a
theorem sI2 {α : Type} (x : α) (xs : List α) (a : α) : (x :: xs).set 0 a = a :: xs := rfl
theorem sI3 {α : Type} (x : α) (xs : List α) (n : Nat) (a : α) : (x :: xs).set (n + 1) a = x :: xs.set n a := rfl
theorem hide {p : Prop} (h : p) : Hid p := h
theorem retb {a b : Bool} (h : a = b) : Ending.returned (.bool a) = .returned (.bool b) := by rw [h]
theorem reti {k : IntKind} {a b : Int} (h : a = b) : Ending.returned (.int k a) = .returned (.int k b) := by rw [h]
theorem addr_block (a : Addr) (n : Nat) : (a.add n).block = a.block := by
 unfold Addr.add
 split <;> rfl
theorem addr_add (a : Addr) (i j : Nat) : (a.add i).add j = a.add (i + j) := by
 unfold Addr.add
 by_cases hi : i = 0 <;> by_cases hj : j = 0 <;> simp [hi, hj, Nat.add_assoc]
theorem addr_flat (g o j : Nat) : (⟨g, o, none⟩ : Addr).add j = ⟨g, o + j, none⟩ := by
 unfold Addr.add
 split
 ·rename_i h
  have : j = 0 := by simpa using h
  subst this
  rfl
 ·rfl
theorem cell_lt {w : World} {p : Addr} {v : Value} (h : w.cell? p = some v) : p.block < w.heap.size := by
 rcases Nat.lt_or_ge p.block w.heap.size with hlt | hge
 ·exact hlt
 ·unfold World.cell? at h
  rw [Array.getElem?_eq_none hge] at h
  simp at h
theorem bel_drewN {B : Nat} {a w : World} (h : Below B a w) (n : Nat) : Below B a (w.drewN n) := ⟨h.os, h.tape, h.output, h.size, h.block⟩
theorem bel_next {w w1 w2 : World} (h : Below w.heap.size w w1) (h2 : Below w1.heap.size w1 w2) : Below w.heap.size w w2 := h.trans (h2.mono h.size)
theorem bl_refl (w : World) : Below w.heap.size w w := Below.refl _ _
theorem bl_alloc {a w : World} (h : Below a.heap.size a w) (o : Obj) : Below a.heap.size a (w.alloc o) := h.alloc h.size o
theorem bl_new (w : World) (o : Obj) : Below w.heap.size w (w.alloc o) := bl_alloc (Below.refl _ _) o
def Rd (w : World) (A : Option Addr) (n : Nat) (xs : List Value) : Prop :=
 xs.length = n ∧ (0 < n → ∃ ad, A = some ad ∧ ∀ i v, xs[i]? = some v → w.cell? (ad.add i) = some v)
section
variable {w w' : World} {A : Option Addr} {n : Nat} {xs : List Value}
theorem Rd.len (h : Rd w A n xs) : xs.length = n := h.1
theorem Rd.none_ (w : World) : Rd w none 0 [] := ⟨rfl, fun h => absurd h (by omega)⟩
theorem Rd.at_ (h : Rd w A n xs) {i : Nat} (hi : i < n) : ∃ ad v, A = some ad ∧ xs[i]? = some v ∧ w.cell? (ad.add i) = some v := by
 obtain ⟨ad, e, hc⟩ := h.2 (by omega)
 have hl : i < xs.length := by have := h.1; omega
 exact ⟨ad, xs[i], e, List.getElem?_eq_getElem hl, hc i _ (List.getElem?_eq_getElem hl)⟩
theorem Rd.flat {g o : Nat} (h : Rd w (some ⟨g, o, none⟩) n xs) {i : Nat} {v : Value} (hv : xs[i]? = some v) : w.cell? ⟨g, o + i, none⟩ = some v := by
 have hi : i < n := by
  have := (List.getElem?_eq_some_iff.1 hv).1
  have := h.1
  omega
 obtain ⟨ad, e, hc⟩ := h.2 (by omega)
 cases e
 have := hc i v hv
 rwa [addr_flat] at this
theorem Rd.flat0 {g : Nat} (h : Rd w (some ⟨g, 0, none⟩) n xs) {i : Nat} {v : Value} (hv : xs[i]? = some v) : w.cell? ⟨g, i, none⟩ = some v := by
 have := h.flat hv
 rwa [Nat.zero_add] at this
theorem Rd.keep (h : Rd w A n xs) (hk : ∀ p : Addr, p.block < w.heap.size → w'.cell? p = w.cell? p) : Rd w' A n xs :=
 ⟨h.1, fun hn => by
  obtain ⟨ad, e, hc⟩ := h.2 hn
  exact ⟨ad, e, fun i v hi => by have := hc i v hi; rw [hk _ (cell_lt this)]; exact this⟩⟩
theorem Rd.below (h : Rd w A n xs) (hb : Below w.heap.size w w') : Rd w' A n xs := h.keep fun _ hp => hb.cell hp
theorem Rd.alloc (h : Rd w A n xs) (o : Obj) : Rd (w.alloc o) A n xs := h.below (bl_new w o)
theorem Rd.drew (h : Rd w A n xs) : Rd w.drew A n xs := h
theorem Rd.drewN (h : Rd w A n xs) (k : Nat) : Rd (w.drewN k) A n xs := h
theorem Rd.cut (h : Rd w A n xs) {k cap : Nat} (hk : k ≤ n) (hc : n ≤ cap) : Rd w (if cap = k then A else A.map (·.add k)) (n - k) (xs.drop k) := by
 refine ⟨by rw [List.length_drop, h.1], fun hn => ?_⟩
 obtain ⟨ad, rfl, hcell⟩ := h.2 (by omega)
 rw [if_neg (by omega)]
 refine ⟨ad.add k, rfl, fun i v hi => ?_⟩
 rw [addr_add]
 exact hcell _ v (by rw [← hi, List.getElem?_drop])
theorem Rd.take (h : Rd w A n xs) {k : Nat} (hk : k ≤ n) : Rd w A k (xs.take k) := by
 refine ⟨by rw [List.length_take, h.1]; omega, fun hn => ?_⟩
 obtain ⟨ad, e, hcell⟩ := h.2 (by omega)
 refine ⟨ad, e, fun i v hi => hcell i v ?_⟩
 rw [List.getElem?_take] at hi
 split at hi
 ·exact hi
 ·cases hi
end
def IsRw (k : IntKind) (w : World) (a : Option Addr) (len cap : Nat) (zs : List Int) : Prop :=
 (a = none ∧ len = 0 ∧ cap = 0 ∧ zs = []) ∨
 ∃ x, a = some x ∧ len ≤ cap ∧ cap ≤ maxLen ∧ zs.length = cap ∧ (∀ i, i < zs.length → w.cell? (x.add i) = some (.int k (zs.getD i 0))) ∧ ∀ n ∈ zs, (Lit.int k n).wf = true
theorem IsRw.nil {k : IntKind} {w : World} {a : Option Addr} {len cap : Nat} {zs : List Int} (h : IsRw k w a len cap zs) : a = none → len = 0 ∧ cap = 0 := by
 rintro rfl
 rcases h with ⟨_, h1, h2, _⟩ | ⟨x, h, _⟩
 ·exact ⟨h1, h2⟩
 ·cases h
theorem IsRw.cap {k : IntKind} {w : World} {a : Option Addr} {len cap : Nat} {zs : List Int} (h : IsRw k w a len cap zs) : len ≤ cap ∧ cap ≤ 9223372036854775807 := by
 rcases h with ⟨_, h1, h2, _⟩ | ⟨x, h, h1, h2, _⟩
 ·omega
 ·exact ⟨h1, by simpa [maxLen] using h2⟩
theorem IsRw.rd {k : IntKind} {w : World} {a : Option Addr} {len cap : Nat} {zs : List Int} (h : IsRw k w a len cap zs) : Rd w a len ((zs.take len).map (Value.int k)) := by
 rcases h with ⟨rfl, rfl, rfl, rfl⟩ | ⟨x, rfl, h1, h2, h3, h4, _⟩
 ·exact Rd.none_ w
 ·refine ⟨by simp; omega, fun _ => ⟨x, rfl, fun i v hi => ?_⟩⟩
  have hl : i < len := by
   have := (List.getElem?_eq_some_iff.1 hi).1
   simp at this
   omega
  rw [List.getElem?_map, List.getElem?_take, if_pos hl] at hi
  rw [h4 i (by omega)]
  rw [List.getElem?_eq_getElem (by omega)] at hi
  simp at hi
  rw [← hi, List.getD_eq_getElem?_getD, List.getElem?_eq_getElem (by omega)]
  rfl
theorem IsRw.wf {k : IntKind} {w : World} {a : Option Addr} {len cap : Nat} {zs : List Int} (h : IsRw k w a len cap zs) : ∀ n ∈ zs.take len, (Lit.int k n).wf = true := by
 intro n hn
 rcases h with ⟨rfl, rfl, rfl, rfl⟩ | ⟨x, rfl, h1, h2, h3, h4, h5⟩
 ·simp at hn
 ·exact h5 n (List.mem_of_mem_take hn)
theorem wf_u8 {n : Int} (h : (Lit.int .u8 n).wf = true) : 0 ≤ n ∧ n < 256 := by simp [Lit.wf, IntKind.min, IntKind.max, IntKind.signed, IntKind.bits] at h; omega
theorem wf_i64 {n : Int} (h : (Lit.int .i64 n).wf = true) : -9223372036854775808 ≤ n ∧ n < 9223372036854775808 := by simp [Lit.wf, IntKind.min, IntKind.max, IntKind.signed, IntKind.bits] at h; omega
def Ow (w : World) (b : Nat) (e : TypeId) (A : Option Addr) (n c : Nat) (xs : List Value) : Prop :=
 b ≤ w.heap.size ∧ w.ownsRow b e 1 (.slice A n c) n xs
section
variable {w w' : World} {b : Nat} {e : TypeId} {A : Option Addr} {n c : Nat} {xs : List Value}
theorem Ow.len (h : Ow w b e A n c xs) : xs.length = n := by have := h.2.1; omega
theorem Ow.nil (hb : b ≤ w.heap.size) (e : TypeId) : Ow w b e none 0 0 [] := ⟨hb, World.ownsRow_nil _ _ _ _⟩
theorem Ow.cap (h : Ow w b e A n c xs) : n ≤ c := by
 rcases h.2.2 with ⟨h', rfl⟩ | ⟨g, cap, cur, h', _, _, hn, _⟩
 ·omega
 ·injection h' with _ _ h3
  omega
theorem Ow.capMax (h : Ow w b e A n c xs) : c ≤ maxLen := by
 rcases h.2.2 with ⟨h', rfl⟩ | ⟨g, cap, cur, h', _, _, hn, hm, _⟩
 ·injection h' with _ _ h3
  omega
 ·injection h' with _ _ h3
  omega
theorem Ow.nilcap (h : Ow w b e A n c xs) (hA : A = none) : n = 0 ∧ c = 0 := by
 subst hA
 rcases h.2.2 with ⟨h', rfl⟩ | ⟨g, cap, cur, h', _⟩
 ·injection h' with _ _ h3
  exact ⟨rfl, h3⟩
 ·injection h' with h'
  cases h'
theorem Ow.lit (w : World) (e : TypeId) (xs : List Value) (hm : xs.length ≤ maxLen) : Ow (w.alloc (.cells xs.toArray e)) w.heap.size e (some ⟨w.heap.size, 0, none⟩) xs.length xs.length xs :=
 ⟨by simp, by simpa using World.ownsRow_lit (size := 1) (e := e) w xs.toArray xs.length (Nat.le_refl _) hm (by simp)⟩
theorem Ow.drew (h : Ow w b e A n c xs) : Ow w.drew b e A n c xs := ⟨h.1, h.2.drew⟩
theorem Ow.alloc (h : Ow w b e A n c xs) (o : Obj) : Ow (w.alloc o) b e A n c xs := ⟨by have := h.1; simp; omega, h.2.alloc o⟩
theorem Ow.mono (h : Ow w b e A n c xs) {b' : Nat} (hb : b' ≤ b) : Ow w b' e A n c xs :=
 ⟨Nat.le_trans hb h.1, h.2.1, h.2.2.imp id fun ⟨g, cap, cur, e1, e2, e3⟩ => ⟨g, cap, cur, e1, Nat.le_trans hb e2, e3⟩⟩
theorem Ow.lt (h : Ow w b e A n c xs) : ∀ k, (Value.slice A n c).ownBlock = some k → b ≤ k ∧ k < w.heap.size := h.2.lt
theorem Ow.below (h : Ow w b e A n c xs) (hb : Below w.heap.size w w') : Ow w' b e A n c xs := by
 refine ⟨Nat.le_trans h.1 hb.size, h.2.1, ?_⟩
 rcases h.2.2 with h' | ⟨g, cap, cur, e1, e2, e3, e4⟩
 ·exact .inl h'
 ·refine .inr ⟨g, cap, cur, e1, e2, ?_, e4⟩
  have hg : g < w.heap.size := (h.2.lt g (by rw [e1]; rfl)).2
  exact (hb.block g hg).trans e3
theorem Ow.form (h : Ow w b e A n c xs) (hn : 0 < n) : ∃ g, A = some ⟨g, 0, none⟩ ∧ b ≤ g ∧ g < w.heap.size := by
 rcases h.2.2 with ⟨_, h'⟩ | ⟨g, cap, cur, e1, e2, e3, e4⟩
 ·omega
 ·have hg : g < w.heap.size := (h.2.lt g (by rw [e1]; rfl)).2
  injection e1 with e1
  exact ⟨g, e1, e2, hg⟩
theorem Ow.rd (h : Ow w b e A n c xs) : Rd w A n xs := by
 refine ⟨h.len, fun hn => ?_⟩
 obtain ⟨g, rfl, _, _⟩ := h.form hn
 exact ⟨_, rfl, h.2.cells (g := g) rfl⟩
theorem Ow.cell {g : Nat} (h : Ow w b e (some ⟨g, 0, none⟩) n c xs) (j : Nat) (hj : j < n) : w.cell? ⟨g, j, none⟩ = xs[j]? := h.2.cellAt j (by omega)
theorem Ow.frozen {g : Nat} (h : Ow w b e (some ⟨g, 0, none⟩) n c xs) (j : Nat) : w.frozen? ⟨g, j, none⟩ = false := h.2.frozenAt j
theorem Ow.set {g : Nat} (h : Ow w b e (some ⟨g, 0, none⟩) n c xs) (j : Nat) (u : Value) : Ow (w.setCell ⟨g, j, none⟩ u) b e (some ⟨g, 0, none⟩) n c (xs.set j u) :=
 ⟨by have := h.1; simpa [World.setCell] using this, (h.2.stored j u).1⟩
end
theorem Ow.setLow {w : World} {b : Nat} {e : TypeId} {A : Option Addr} {n c : Nat} {xs : List Value} (h : Ow w b e A n c xs) {g : Nat} (o : Nat) (hg : g < b) (u : Value) : Ow (w.setCell ⟨g, o, none⟩ u) b e A n c xs :=
 ⟨by have := h.1; simpa [World.setCell] using this, ownsRow_setCell_below h.2 (a := ⟨g, o, none⟩) hg u⟩
theorem bl_set {a w : World} (h : Below a.heap.size a w) {g o : Nat} (hg : a.heap.size ≤ g) (v : Value) : Below a.heap.size a (w.setCell ⟨g, o, none⟩ v) := h.setCell hg v
theorem bl_drew {a w : World} (h : Below a.heap.size a w) : Below a.heap.size a w.drew := bel_drewN h 1
def Bx (w : World) (g : Nat) (vs : List Value) : Prop :=
 g < w.heap.size ∧ (∀ j v, vs[j]? = some v → w.cell? ⟨g, j, none⟩ = some v) ∧ ∀ j, w.frozen? ⟨g, j, none⟩ = false
section
variable {w w' : World} {g : Nat} {vs : List Value}
theorem Bx.new (w : World) (vs : List Value) (T : TypeId) : Bx (w.alloc (.cells vs.toArray T)) w.heap.size vs :=
 ⟨by simp, fun j v h => by rw [World.cell?_alloc_new]; simpa using h, fun j => World.frozen?_alloc_new _ _ _ _⟩
theorem Bx.lt (h : Bx w g vs) : g < w.heap.size := h.1
theorem Bx.below (h : Bx w g vs) (hb : Below w.heap.size w w') : Bx w' g vs :=
 ⟨Nat.lt_of_lt_of_le h.1 hb.size, fun j v hj => by rw [hb.cell (p := ⟨g, j, none⟩) h.1]; exact h.2.1 j v hj, fun j => by rw [hb.frozen (p := ⟨g, j, none⟩) h.1]; exact h.2.2 j⟩
theorem Bx.alloc (h : Bx w g vs) (o : Obj) : Bx (w.alloc o) g vs := h.below (bl_new w o)
theorem Bx.drew (h : Bx w g vs) : Bx w.drew g vs := h
theorem Bx.set_ne (h : Bx w g vs) {g' : Nat} (o : Nat) (hne : g' ≠ g) (u : Value) : Bx (w.setCell ⟨g', o, none⟩ u) g vs :=
 ⟨by have := h.1; simpa [World.setCell] using this, fun j v hj => by rw [World.cell?_setCell_other _ _ _ _ (by intro e; injection e with e; exact hne e)]; exact h.2.1 j v hj, fun j => by rw [World.frozen?_setCell]; exact h.2.2 j⟩
theorem Bx.set (h : Bx w g vs) (o : Nat) (u : Value) (ho : o < vs.length) : Bx (w.setCell ⟨g, o, none⟩ u) g (vs.set o u) := by
 refine ⟨by have := h.1; simpa [World.setCell] using this, fun j v hj => ?_, fun j => by rw [World.frozen?_setCell]; exact h.2.2 j⟩
 by_cases hjo : o = j
 ·subst hjo
  rw [List.getElem?_set_self ho] at hj
  cases hj
  exact World.cell?_setCell_same _ _ _ (h.2.1 o (vs[o]) (List.getElem?_eq_getElem ho))
 ·rw [List.getElem?_set_ne hjo] at hj
  rw [World.cell?_setCell_other _ _ _ _ (by intro e; injection e with _ e; exact hjo e)]
  exact h.2.1 j v hj
theorem Bx.grown {row : Option Nat} (h : Bx w g vs) (hg : w.grownBy w' row) (hne : some g ≠ row) : Bx w' g vs :=
 ⟨Nat.lt_of_lt_of_le h.1 hg.size, fun j v hj => by rw [hg.cell_far ⟨g, j, none⟩ h.1 hne]; exact h.2.1 j v hj, fun j => by rw [hg.frozen_far ⟨g, j, none⟩ h.1 hne]; exact h.2.2 j⟩
theorem Bx.fr (h : Bx w g vs) (j : Nat) : w.frozen? ⟨g, j, none⟩ = false := h.2.2 j
end
theorem cellE {W w1 : World} (hb : Below W.heap.size W w1) {a : Addr} {v : Value} (h : W.cell? a = some v) : w1.cell? a = some v := by
 rw [hb.cell (cell_lt h)]
 exact h
def ElT (P : Program) (t e : TypeId) (z : Value) (by_ : Nat) : Prop :=
 P.underlying t = some (.slice e) ∧ (P.info? e).map (fun i => (i.zero, i.size, i.bytes)) = some (some z, 1, by_) ∧ z.cells = #[z]
section
variable {P : Program} {t e : TypeId} {z : Value} {by_ : Nat} {ops : Array Oper} {rest : List Oper} {o : Oper} {a : Act} {Q : Exit → Act → World → Prop}
theorem mk (E : ElT P t e z by_) {W w0 : World} {b B : Nat} (hB : Below B w0 W) (hBb : B ≤ b) (hb : b ≤ W.heap.size)
 (hgd : o.guard = none) (l c : Operand) (hop : o.op = Op.makeSlice t l c) (kl kc : IntKind) (L C : Int) (n k : Nat) (hl : a.eval l = .int kl L) (hc : a.eval c = .int kc C) (hL : L = (n : Int)) (hC : C = (k : Int))
 (hnk : n ≤ k) (b2 : by_ * k ≤ 281474976710656) (b3 : k ≤ maxLen)
 (h : ∀ w', Ow w' b e (some ⟨W.heap.size, 0, none⟩) n k (List.replicate n z) → Below B w0 w' → wpList P ops Q rest (a.put o.dst (.slice (some ⟨W.heap.size, 0, none⟩) n k)) w') :
 wpList P ops Q (o :: rest) a W := by
 obtain ⟨i, hi, hz, hsz, hbb⟩ := info_parts E.2.1
 have b3' : (k : Int) ≤ 9223372036854775807 := by simp [maxLen] at b3; omega
 have b2' : (i.bytes : Int) * (k : Int) ≤ 281474976710656 := by
  have h : ((i.bytes * k : Nat) : Int) ≤ 281474976710656 := by rw [hbb]; omega
  rwa [Int.natCast_mul] at h
 have hr := run_make (P := P) W t e i z E.1 hi hz kl kc n k (by omega) (by omega) b2' b3'
 simp only [Int.toNat_natCast] at hr
 subst hL
 subst hC
 refine wpList_plain hgd fun K hK' => ?_
 unfold Oper.wp
 simp [execOp, hop, hl, hc, hr, Result.andThen]
 refine hK' _ _ (h _ ⟨by simp; omega, ?_⟩ (hB.alloc (by omega) _))
 have hm : (madeCells z.cells (k * i.size)).toList = List.replicate k z := by rw [hsz, Nat.mul_one, E.2.2]; exact toList_madeCells_one z k
 refine ⟨by simp, .inr ⟨W.heap.size, k, _, rfl, hb, heap_alloc_new W _, hnk, b3, by rw [size_madeCells, hsz], ?_⟩⟩
 rw [hm, List.take_replicate]
 congr 1
 omega
end
def uval (l : List Int) : Int := l.foldl (fun a x => a * 256 + x) 0
def Bytes (l : List Int) : Prop := ∀ i : Nat, 0 ≤ l[i]?.getD 0 ∧ l[i]?.getD 0 < 256
theorem bytes_of_mem {l : List Int} (h : ∀ x ∈ l, 0 ≤ x ∧ x < 256) : Bytes l := by
 intro i
 cases hx : l[i]? with
 | none => simp
 | some x => simpa using h x (List.mem_of_getElem? hx)
theorem Bytes.mem {l : List Int} (h : Bytes l) : ∀ x ∈ l, 0 ≤ x ∧ x < 256 := by
 intro x hx
 obtain ⟨i, hi, rfl⟩ := List.getElem_of_mem hx
 have := h i
 simpa [List.getElem?_eq_getElem hi] using this
theorem Bytes.take {l : List Int} (h : Bytes l) (k : Nat) : Bytes (l.take k) := bytes_of_mem fun x hx => h.mem x (List.mem_of_mem_take hx)
theorem Bytes.drop {l : List Int} (h : Bytes l) (k : Nat) : Bytes (l.drop k) := bytes_of_mem fun x hx => h.mem x (List.mem_of_mem_drop hx)
def fld (l : List Int) (off k : Nat) : List Int := (l.drop off).take k
def be (k : Nat) (v : Int) : List Int := (List.range k).map fun i => v / 2 ^ (8 * (k - 1 - i)) % 256
theorem oneCells (k : IntKind) (l : List Int) : ∀ u ∈ l.map (Value.int k), u.oneCell' = true := by
 intro u hu
 obtain ⟨x, _, rfl⟩ := List.mem_map.1 hu
 rfl
theorem map_at (k : IntKind) (l : List Int) (i : Nat) (h : i < l.length) : (l.map (Value.int k))[i]? = some (.int k (l[i]?.getD 0)) := by
 simp [List.getElem?_eq_getElem h]
theorem Rd.int {w : World} {A : Option Addr} {n : Nat} {k : IntKind} {l : List Int} (h : Rd w A n (l.map (Value.int k))) {i : Nat} (hi : i < n) : ∃ ad, A = some ad ∧ w.cell? (ad.add i) = some (.int k (l[i]?.getD 0)) := by
 obtain ⟨ad, v, e, hv, hc⟩ := h.at_ hi
 have hl : i < l.length := by have := h.len; simp at this; omega
 rw [map_at k l i hl] at hv
 injection hv with hv
 exact ⟨ad, e, by rw [hv]; exact hc⟩
theorem Rd.lit (w : World) (e : TypeId) (xs : List Value) : Rd (w.alloc (.cells xs.toArray e)) (some ⟨w.heap.size, 0, none⟩) xs.length xs := by
 refine ⟨rfl, fun _ => ⟨_, rfl, fun i v hi => ?_⟩⟩
 rw [addr_flat, Nat.zero_add, cell_of_row _ w.heap.size i xs.toArray e (0, 0) (heap_alloc_new w _)]
 simpa using hi
theorem Rd.ints (w : World) (e : TypeId) (k : IntKind) (l : List Int) (n : Nat) {g : Nat} (hn : l.length = n) (hg : w.heap.size = g) : Rd (w.alloc (.cells (l.map (Value.int k)).toArray e)) (some ⟨g, 0, none⟩) n (l.map (Value.int k)) := by
 subst hn
 subst hg
 have := Rd.lit w e (l.map (Value.int k))
 rw [List.length_map] at this
 exact this
theorem map_set (k : IntKind) (l : List Int) (j : Nat) (x : Int) : (l.map (Value.int k)).set j (.int k x) = (l.set j x).map (Value.int k) := by rw [List.map_set]
theorem Bytes.set {l : List Int} (h : Bytes l) (j : Nat) {x : Int} (h0 : 0 ≤ x) (h1 : x < 256) : Bytes (l.set j x) := bytes_of_mem fun y hy => by
 rcases List.mem_or_eq_of_mem_set hy with hy | rfl
 ·exact h.mem y hy
 ·exact ⟨h0, h1⟩
def sgn (k u : Int) : Int :=
 if k = 1 then (if u % 256 < 128 then u % 256 else u % 256 - 256)
 else if k = 4 then (if u % 4294967296 < 2147483648 then u % 4294967296 else u % 4294967296 - 4294967296)
 else (if u % 18446744073709551616 < 9223372036854775808 then u % 18446744073709551616 else u % 18446744073709551616 - 18446744073709551616)
def fitsB (k v : Int) : Bool := decide (k = 8 ∨ (k = 4 ∧ -2147483648 ≤ v ∧ v < 2147483648) ∨ (k = 1 ∧ -128 ≤ v ∧ v < 128))
def oB (A : Option Addr) : Option Nat := A.map (·.block)
theorem oB_own (A : Option Addr) (n c : Nat) : (Value.slice A n c).ownBlock = oB A := by cases A <;> rfl
def Dj (A A2 : Option Addr) : Prop := ∀ g, oB A = some g → oB A2 ≠ some g
theorem Dj.symm {A A2 : Option Addr} (h : Dj A A2) : Dj A2 A := fun g h1 h2 => h g h2 h1
structure Gw (W w' : World) (A A' : Option Addr) : Prop where
 g : W.grownBy w' (oB A)
 at_ : oB A' = oB A ∨ oB A' = some W.heap.size
section
variable {W w' : World} {A A' A2 : Option Addr} {b n c : Nat} {e : TypeId} {xs : List Value}
theorem Ow.blk (h : Ow W b e A n c xs) {g : Nat} (hg : oB A = some g) : b ≤ g ∧ g < W.heap.size := h.lt g (by rw [oB_own]; exact hg)
theorem Gw.size (h : Gw W w' A A') : W.heap.size ≤ w'.heap.size := h.g.size
theorem Gw.cell (h : Gw W w' A A') {p : Addr} {v : Value} (hc : W.cell? p = some v) (hd : oB A ≠ some p.block) : w'.cell? p = some v := h.g.cell hc (fun h' => hd h'.symm)
theorem Gw.rd (h : Gw W w' A A') (hr : Rd W A2 n xs) (hd : Dj A2 A) : Rd w' A2 n xs :=
 ⟨hr.1, fun hn => by
  obtain ⟨ad, e, hc⟩ := hr.2 hn
  subst e
  exact ⟨ad, rfl, fun i v hi => h.cell (hc i v hi) (by rw [addr_block]; exact fun h' => hd ad.block rfl h')⟩⟩
end
section
variable {P : Program} {t e : TypeId} {z : Value} {by_ : Nat} {ops : Array Oper} {rest : List Oper} {o : Oper} {a : Act} {Q : Exit → Act → World → Prop}
theorem apA (E : ElT P t e z by_) {W w0 : World} {b B : Nat} {A : Option Addr} {n c : Nat} {xs : List Value} (hown : Ow W b e A n c xs) (hB : Below B w0 W) (hBb : B ≤ b)
 {S : Option Addr} {m d : Nat} {news : List Value} (hr : Rd W S m news)
 (s x : Operand) (hgd : o.guard = none) (ho : o.op = .call { callee := .builtin .append, args := #[s, x], argTypes := #[t, t] })
 (hs : a.eval s = .slice A n c) (hx : a.eval x = .slice S m d) (hS : S = none → m = 0 ∧ d = 0) (h1 : ∀ u ∈ news, u.oneCell' = true) (hm : n + m ≤ maxLen) (hby : (n + m) * by_ ≤ 140737488355328)
 (h : ∀ A' c' w', Ow w' b e A' (n + m) c' (xs ++ news) → Below B w0 w' → Gw W w' A A' → wpList P ops Q rest (a.put o.dst (.slice A' (n + m) c')) w') :
 wpList P ops Q (o :: rest) a W := by
 obtain ⟨i, hi, hz, hsz, hbb⟩ := info_parts E.2.1
 rcases S with _ | ad
 ·obtain ⟨rfl, rfl⟩ := hS rfl
  have hn : news = [] := List.eq_nil_of_length_eq_zero (by have := hr.len; omega)
  subst hn
  refine wpList_append_own_none hgd s x t ho b e i 1 E.1 hi (.slice A n c) n xs hs hown.2 hx ?_
  have := h A c W (by simpa using hown) hB ⟨⟨rfl, rfl, rfl, Nat.le_refl _, fun _ _ _ => rfl⟩, .inl rfl⟩
  simpa using this
 ·refine wpList_append_own_at (w := W) hgd s x t ho b e i z 1 by_ E.1 hi hz hsz hbb (by rw [E.2.2]; rfl) (by omega) (.slice A n c) n xs hs hown.2 ad m d news hx (by have := hr.len; omega) ?_ h1 hm hby hown.1 ?_
  ·intro j v hj
   have hl : j < m := by
    have := hr.len
    have := (List.getElem?_eq_some_iff.1 hj).1
    omega
   obtain ⟨ad', e', hc⟩ := hr.2 (by omega)
   cases e'
   exact hc j v hj
  ·intro v' w' hown' hg hnil hat
   rw [oB_own] at hg hat
   have hsz := hown.1
   have hB' : Below B w0 w' := hB.grown hg (by omega) (fun k hk => by have := (hown.blk hk).1; omega)
   have hb' : b ≤ w'.heap.size := by have := hg.size; omega
   rcases hown'.2 with ⟨rfl, h0⟩ | ⟨g, cap, cur, rfl, _⟩
   ·have e0 : n + m = 0 := h0
    have := h none 0 w' ⟨hb', by rw [e0] at hown' ⊢; exact hown'⟩ hB' ⟨hg, hat⟩
    rw [e0] at this
    exact this
   ·exact h _ _ _ ⟨hb', hown'⟩ hB' ⟨hg, hat⟩
theorem ap0 (E : ElT P t e z by_) {W : World} {S : Option Addr} {m d : Nat} {news : List Value} (hr : Rd W S m news)
 (s x : Operand) (hgd : o.guard = none) (ho : o.op = .call { callee := .builtin .append, args := #[s, x], argTypes := #[t, t] })
 (hs : a.eval s = .slice (some ⟨W.heap.size, 0, none⟩) 0 0) (hx : a.eval x = .slice S m d) (hS : S = none → m = 0 ∧ d = 0) (h1 : ∀ u ∈ news, u.oneCell' = true) (hm : m ≤ maxLen) (hby : m * by_ ≤ 140737488355328)
 (h : ∀ A' c' w', Ow w' W.heap.size e A' m c' news → Below W.heap.size W w' → wpList P ops Q rest (a.put o.dst (.slice A' m c')) w') :
 wpList P ops Q (o :: rest) a (W.alloc (.cells #[] e)) := by
 refine apA E (b := W.heap.size) (B := W.heap.size) (Ow.lit W e [] (by simp)) (bl_new W _) (Nat.le_refl _) (hr.alloc _) s x hgd ho hs hx hS h1 (by simpa using hm) (by simpa using hby) ?_
 intro A' c' w' h2 h3 _
 have := h A' c' w' (by simpa using h2) h3
 simpa using this
end
def leap (y : Int) : Bool := decide (y % 400 = 0) || (decide (y % 4 = 0) && decide (y % 100 ≠ 0))
theorem leap_iff (y : Int) : leap y = true ↔ y % 400 = 0 ∨ (y % 4 = 0 ∧ y % 100 ≠ 0) := by simp [leap]
theorem leap_not (y : Int) : leap y = false ↔ ¬ (y % 400 = 0 ∨ (y % 4 = 0 ∧ y % 100 ≠ 0)) := by rw [← leap_iff]; simp
def ylen (y : Int) : Int := if leap y then 366 else 365
def mdays (y m : Int) : Int := if m = 2 then (if leap y then 29 else 28) else if m = 4 ∨ m = 6 ∨ m = 9 ∨ m = 11 then 30 else 31
def cum (y : Int) : Nat → Int
 | 0 => 0
 | k + 1 => cum y k + mdays y ((k : Int) + 1)
def ystart (y : Int) : Int := 365 * y + ((y - 1) / 4 - (y - 1) / 100 + (y - 1) / 400) - 719527
def yday (y m d : Int) : Int := cum y (m - 1).toNat + d - 1
def days (y m d : Int) : Int := ystart y + yday y m d
def DateOk (y m d : Int) : Prop := 1 ≤ m ∧ m ≤ 12 ∧ 1 ≤ d ∧ d ≤ mdays y m
def IsDate (n y m d : Int) : Prop := DateOk y m d ∧ days y m d = n
def Vd (y m d : Int) : Prop := -1099511627776 ≤ y ∧ y ≤ 1099511627776 ∧ DateOk y m d
instance (y m d : Int) : Decidable (Vd y m d) := by unfold Vd DateOk; infer_instance
def loDay : Int := ystart (-1099511627776)
def hiDay : Int := ystart 1099511627777 - 1
theorem ylen_bd (y : Int) : 365 ≤ ylen y ∧ ylen y ≤ 366 := by unfold ylen; split <;> omega
theorem ystart_succ (y : Int) : ystart (y + 1) = ystart y + ylen y := by
 unfold ystart ylen
 split
 ·rename_i h; rw [leap_iff] at h; omega
 ·rename_i h; rw [Bool.not_eq_true, leap_not] at h; omega
theorem leap_per (y k : Int) : leap (y + 400 * k) = leap y := by
 unfold leap
 rw [show (y + 400 * k) % 400 = y % 400 by omega, show (y + 400 * k) % 4 = y % 4 by omega, show (y + 400 * k) % 100 = y % 100 by omega]
theorem leap_2000 (y : Int) : leap (2000 + y) = leap y := by rw [Int.add_comm, show (2000 : Int) = 400 * 5 from rfl, leap_per]
theorem ylen_per (y k : Int) : ylen (y + 400 * k) = ylen y := by unfold ylen; rw [leap_per]
theorem mdays_per (y k m : Int) : mdays (y + 400 * k) m = mdays y m := by unfold mdays; rw [leap_per]
theorem cum_per (y k : Int) (m : Nat) : cum (y + 400 * k) m = cum y m := by
 induction m with
 | zero => rfl
 | succ m ih => simp only [cum, ih, mdays_per]
theorem ystart_per (y k : Int) : ystart (y + 400 * k) = ystart y + 146097 * k := by unfold ystart; omega
theorem mdays_bd (y m : Int) : 28 ≤ mdays y m ∧ mdays y m ≤ 31 := by
 unfold mdays
 split
 ·split <;> omega
 ·split <;> omega
theorem cum12 (y : Int) : cum y 12 = ylen y := by
 cases h : leap y <;> simp [cum, mdays, ylen, h]
theorem cum_mono (y : Int) {j k : Nat} (h : j ≤ k) : cum y j ≤ cum y k := by
 induction k with
 | zero => rw [Nat.le_zero.1 h]; exact Int.le_refl _
 | succ k ih =>
   rcases Nat.lt_or_ge k j with hk | hk
   ·rw [show j = k + 1 by omega]; exact Int.le_refl _
   ·have h1 := ih hk
    have h2 := mdays_bd y ((k : Int) + 1)
    simp only [cum]
    omega
theorem cum_bd (y : Int) (k : Nat) : 0 ≤ cum y k ∧ cum y k ≤ 31 * k := by
 induction k with
 | zero => exact ⟨Int.le_refl _, by simp [cum]⟩
 | succ k ih =>
   have h2 := mdays_bd y ((k : Int) + 1)
   simp only [cum]
   omega
theorem yday_bd {y m d : Int} (h : DateOk y m d) : 0 ≤ yday y m d ∧ yday y m d < ylen y := by
 obtain ⟨h1, h2, h3, h4⟩ := h
 obtain ⟨k, rfl⟩ : ∃ k : Nat, m = (k : Int) + 1 := ⟨(m - 1).toNat, by omega⟩
 have e : ((k : Int) + 1 - 1).toNat = k := by omega
 have h5 : cum y (k + 1) ≤ cum y 12 := cum_mono y (by omega)
 have h6 := (cum_bd y k).1
 rw [cum12] at h5
 simp only [cum] at h5
 unfold yday
 rw [e]
 omega
theorem ystart_mono {a b : Int} (h : a ≤ b) : ystart a ≤ ystart b := by unfold ystart; omega
theorem ystart_lt {a b : Int} (h : a < b) : ystart (a + 1) ≤ ystart b := ystart_mono (by omega)
theorem IsDate.year {n y m d : Int} (h : IsDate n y m d) : ystart y ≤ n ∧ n < ystart (y + 1) := by
 have h1 := yday_bd h.1
 have h2 := ystart_succ y
 have h3 := h.2
 unfold days at h3
 omega
theorem IsDate.month {n y m d : Int} (h : IsDate n y m d) : cum y (m - 1).toNat ≤ n - ystart y ∧ n - ystart y < cum y ((m - 1).toNat + 1) ∧ d = n - ystart y - cum y (m - 1).toNat + 1 := by
 obtain ⟨⟨h1, h2, h3, h4⟩, h5⟩ := h
 have e : (((m - 1).toNat : Nat) : Int) + 1 = m := by omega
 unfold days yday at h5
 simp only [cum, e]
 omega
theorem IsDate.mk {n y : Int} {k : Nat} (h1 : ystart y ≤ n) (hk : k ≤ 11) (h3 : cum y k ≤ n - ystart y) (h4 : n - ystart y < cum y (k + 1)) : IsDate n y ((k : Int) + 1) (n - ystart y - cum y k + 1) := by
 refine ⟨⟨by omega, by omega, by omega, ?_⟩, ?_⟩
 ·simp only [cum] at h4
  omega
 ·unfold days yday
  rw [show ((k : Int) + 1 - 1).toNat = k by omega]
  omega
theorem month_ex (y r : Int) (h0 : 0 ≤ r) : ∀ K : Nat, r < cum y K → ∃ k : Nat, k < K ∧ cum y k ≤ r ∧ r < cum y (k + 1)
 | 0, h => by simp [cum] at h; omega
 | K + 1, h => by
   by_cases hk : r < cum y K
   ·obtain ⟨k, h1, h2⟩ := month_ex y r h0 K hk
    exact ⟨k, by omega, h2⟩
   ·exact ⟨K, by omega, by omega, h⟩
theorem year_ex (n : Int) : ∃ y, ystart y ≤ n ∧ n < ystart (y + 1) := by
 have up : ∀ K : Nat, ∀ y : Int, ystart y ≤ n → n < ystart (y + K) → ∃ y, ystart y ≤ n ∧ n < ystart (y + 1) := by
  intro K
  induction K with
  | zero => intro y h1 h2; simp at h2; omega
  | succ K ih =>
    intro y h1 h2
    by_cases h : n < ystart (y + 1)
    ·exact ⟨y, h1, h⟩
    ·refine ih (y + 1) (by omega) ?_
     rw [show y + 1 + (K : Int) = y + ((K + 1 : Nat) : Int) by omega]
     exact h2
 obtain ⟨q, hq⟩ : ∃ q, q = (n - ystart 0) / 146097 := ⟨_, rfl⟩
 have e1 := ystart_per 0 q
 have e2 := ystart_per 0 (q + 1)
 refine up 400 (0 + 400 * q) ?_ ?_
 ·omega
 ·rw [show 0 + 400 * q + ((400 : Nat) : Int) = 0 + 400 * (q + 1) by omega]
  omega
theorem IsDate.ex (n : Int) : ∃ y m d, IsDate n y m d := by
 obtain ⟨y, h1, h2⟩ := year_ex n
 have h3 := ystart_succ y
 obtain ⟨k, h4, h5, h6⟩ := month_ex y (n - ystart y) (by omega) 12 (by rw [cum12]; omega)
 exact ⟨y, _, _, IsDate.mk h1 (by omega) h5 h6⟩
theorem days_first (y : Int) : days y 1 1 = ystart y := by
 unfold days yday
 rw [show ((1 : Int) - 1).toNat = 0 from rfl]
 simp [cum]
theorem IsDate.of {y m d : Int} (h : DateOk y m d) : IsDate (days y m d) y m d := ⟨h, rfl⟩
theorem Vd.day {y m d : Int} (h : Vd y m d) : loDay ≤ days y m d ∧ days y m d ≤ hiDay := by
 obtain ⟨h1, h2, h3⟩ := h
 obtain ⟨a, b⟩ := (IsDate.of h3).year
 have := ystart_mono h1
 have := ystart_mono (show y + 1 ≤ 1099511627777 by omega)
 unfold loDay hiDay
 omega
theorem IsDate.era {n Y M D k r : Int} (h : IsDate n Y M D) (hk : n - 10957 = 146097 * k + r) (h0 : 0 ≤ r) (h1 : r < 146097) :
 ∃ (q mm : Nat) (yd : Int), Y = 2000 + 400 * k + q ∧ q < 400 ∧ M = (mm : Int) + 1 ∧ mm ≤ 11 ∧ r - (ystart (2000 + q) - 10957) = yd ∧ 0 ≤ yd ∧ yd < ylen q ∧ cum q mm ≤ yd ∧ yd < cum q (mm + 1) ∧ D = yd - cum q mm + 1 := by
 obtain ⟨a, b⟩ := h.year
 have e1 := ystart_per 2000 k
 have e2 := ystart_per 2000 (k + 1)
 have e0 : ystart 2000 = 10957 := rfl
 rw [e0] at e1 e2
 have hq0 : 2000 + 400 * k ≤ Y := by
  rcases Int.lt_or_le Y (2000 + 400 * k) with h | h
  ·have := ystart_lt h; omega
  ·exact h
 have hq1 : Y < 2000 + 400 * (k + 1) := by
  rcases Int.lt_or_le Y (2000 + 400 * (k + 1)) with h | h
  ·exact h
  ·have := ystart_mono h; omega
 obtain ⟨q, rfl⟩ : ∃ q : Nat, Y = 2000 + 400 * k + q := ⟨(Y - (2000 + 400 * k)).toNat, by omega⟩
 have hM := h.1.1
 have hM2 := h.1.2.1
 obtain ⟨mm, rfl⟩ : ∃ mm : Nat, M = (mm : Int) + 1 := ⟨(M - 1).toNat, by omega⟩
 obtain ⟨c1, c2, c3⟩ := h.month
 rw [show ((mm : Int) + 1 - 1).toNat = mm by omega] at c1 c2 c3
 have hs := ystart_succ (2000 + 400 * k + q)
 have ec : ∀ m, cum (2000 + 400 * k + q) m = cum q m := fun m => by
  rw [show (2000 + 400 * k + (q : Int)) = q + 400 * (5 + k) by omega, cum_per]
 have el : ylen (2000 + 400 * k + q) = ylen q := by rw [show (2000 + 400 * k + (q : Int)) = q + 400 * (5 + k) by omega, ylen_per]
 have es : ystart (2000 + 400 * k + q) = ystart (2000 + q) + 146097 * k := by
  rw [show (2000 + 400 * k + (q : Int)) = 2000 + q + 400 * k by omega, ystart_per]
 rw [ec] at c1 c2 c3
 rw [el] at hs
 refine ⟨q, mm, r - (ystart (2000 + q) - 10957), rfl, by omega, rfl, by omega, rfl, by omega, by omega, by omega, by omega, by omega⟩
end Go.Proofs.YtbehflfpdkedgaaGreatDoor

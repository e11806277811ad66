/-
  WORDS ON A STATE BEHIND A POINTER (the parser of posixtz): 'But' (nothing turns but one block), 'fail' (the step's own panic); contracts of the parser's small steps, of the code that landed at 120e3cd. Condition: a text of at most 1,000,000 bytes.
-/
import Derived.Test.YtjeclakdgmjbjaaGreatDoorPoW
import Derived.Test.YtjeclakdgmjbjaaGreatDoorHp
import Derived.Test.YtjeclakdgmjbjaaGreatDoorTz
import Derived.Test.YtjeclakdgmjbjaaGreatDoorRv
import Derived.Test.YtjeclakdgmjbjaaGreatDoorRow2
import Derived.WalkLawsBesides
namespace Go.Proofs.YtjeclakdgmjbjaaGreatDoor
open Go.ChangeShapes Go.WideShapes Go.ChangeAt Go.RowKit
set_option linter.unusedVariables false
set_option maxRecDepth 100000
/-- but for the block b the world w' holds what w held. -/
structure But (b : Nat) (w w' : World) : Prop where
  os : w'.os = w.os
  tape : w'.tape = w.tape
  output : w'.output = w.output
  size : w.heap.size ≤ w'.heap.size
  block : ∀ k, k < w.heap.size → k ≠ b → w'.heap[k]? = w.heap[k]?
theorem But.refl (b : Nat) (w : World) : But b w w := ⟨rfl, rfl, rfl, Nat.le_refl _, fun _ _ _ => rfl⟩
theorem But.trans {b : Nat} {w w1 w2 : World} (h : But b w w1) (k : But b w1 w2) : But b w w2 :=
  ⟨k.os.trans h.os, k.tape.trans h.tape, k.output.trans h.output, Nat.le_trans h.size k.size, fun i hi hn => (k.block i (Nat.lt_of_lt_of_le hi h.size) hn).trans (h.block i hi hn)⟩
theorem But.of {b : Nat} {w w1 : World} (h : Below w.heap.size w w1) : But b w w1 := ⟨h.os, h.tape, h.output, h.size, fun k hk _ => h.block k hk⟩
theorem But.next {b : Nat} {w w1 w2 : World} (h : But b w w1) (k : Below w1.heap.size w1 w2) : But b w w2 := h.trans (.of k)
theorem But.set {b o : Nat} {w w1 : World} (h : But b w w1) (v : Value) : But b w (w1.setCell ⟨b, o, none⟩ v) :=
  h.trans ⟨rfl, rfl, rfl, by simp [World.setCell], fun k hk hn => Below.heap_setCell w1 ⟨b, o, none⟩ v k hn⟩
theorem But.setNew {b g o : Nat} {w w1 : World} (h : But b w w1) (hg : w.heap.size ≤ g) (v : Value) : But b w (w1.setCell ⟨g, o, none⟩ v) :=
  ⟨h.os, h.tape, h.output, by have := h.size; simpa [World.setCell] using this, fun k hk hn => (Below.heap_setCell w1 ⟨g, o, none⟩ v k (by show k ≠ g; omega)).trans (h.block k hk hn)⟩
theorem But.alloc {b : Nat} {w w1 : World} (h : But b w w1) (o : Obj) : But b w (w1.alloc o) := h.next (bl_new _ _)
theorem But.below {b B : Nat} {w w1 : World} (h : But b w w1) (hB : B ≤ b) (hb : b < w.heap.size) : Below B w w1 := ⟨h.os, h.tape, h.output, h.size, fun k hk => h.block k (by omega) (by omega)⟩
theorem But.down {b : Nat} {w w0 w1 : World} (h0 : Below w.heap.size w w0) (hb : w.heap.size ≤ b) (h : But b w0 w1) : Below w.heap.size w w1 :=
  ⟨h.os.trans h0.os, h.tape.trans h0.tape, h.output.trans h0.output, Nat.le_trans h0.size h.size, fun k hk => (h.block k (Nat.lt_of_lt_of_le hk h0.size) (by omega)).trans (h0.block k hk)⟩
theorem Bx.but {b g : Nat} {w w1 : World} {vs : List Value} (h : Bx w g vs) (hb : But b w w1) (hne : g ≠ b) : Bx w1 g vs := by
  have e := hb.block g h.1 hne
  exact ⟨Nat.lt_of_lt_of_le h.1 hb.size, fun j v hj => by rw [World.cell?_of_block (w := w) (a := ⟨g, j, none⟩) e]; exact h.2.1 j v hj, fun j => by rw [World.frozen?_of_block (w := w) (a := ⟨g, j, none⟩) e]; exact h.2.2 j⟩
theorem Ro.but {b g : Nat} {w w1 : World} {vs : Array Value} {T : TypeId} (h : Ro w g vs T) (hb : But b w w1) (hne : g ≠ b) : Ro w1 g vs T := (hb.block g h.lt hne).trans h
/-- the parser: its text and its position. -/
def Pz (w : World) (b : Nat) (s : ByteArray) (k : Int) : Prop := Bx w b [.string s, .int .i64 k]
theorem Pz.cells {w : World} {b : Nat} {s : ByteArray} {k : Int} (h : Pz w b s k) : b < w.heap.size ∧ w.cell? ⟨b, 0, none⟩ = some (.string s) ∧ w.cell? ⟨b, 1, none⟩ = some (.int .i64 k) ∧ w.frozen? ⟨b, 1, none⟩ = false := ⟨h.1, h.2.1 0 _ rfl, h.2.1 1 _ rfl, h.2.2 1⟩
theorem Pz.below {w w1 : World} {b : Nat} {s : ByteArray} {k : Int} (h : Pz w b s k) (hb : Below w.heap.size w w1) : Pz w1 b s k := Bx.below h hb
theorem Pz.set {w : World} {b : Nat} {s : ByteArray} {k : Int} (h : Pz w b s k) (j : Int) : Pz (w.setCell ⟨b, 1, none⟩ (.int .i64 j)) b s j := Bx.set h 1 _ (by simp)
/-- a step's own panic. -/
def fail (q : Int) : Ending := .panicked [{ v := .iface 81 (.int .i64 q), recovered := false }]
/-- what is left of the text. -/
abbrev rst (s : ByteArray) (k : Nat) : List UInt8 := (byt s).drop k
theorem rst_mk (s : ByteArray) (k : Nat) : s.extract k s.size = mkS (rst s k) := by
  rw [← byt_inj, byt_extract, byt_mk, List.take_of_length_le (by rw [len_byt]; exact Nat.le_refl _)]
theorem rst_size (s : ByteArray) (k : Nat) : (mkS (rst s k)).size ≤ s.size := by rw [size_mk, List.length_drop, len_byt]; omega
namespace po_
theorem rest_ (s : ByteArray) (k b : Nat) (w : World) (hs : s.size ≤ 1000000) (hk : k ≤ s.size) (hp : Pz w b s k) :
    Calls Tryz.prog 54 #[.pointer (some ⟨b, 0, none⟩)] w fun e w' => e = .returned (.string (mkS (rst s k))) ∧ Below w.heap.size w w' := by
  have hR := hide (rst_mk s k)
  obtain ⟨h0, h1, h2, h3⟩ := hp.cells
  clear hp
  go_enter Tryz.func54, Tryz.ntmps54
  go_wp2_with fail
  go_region
  go_wp2
  go_ret
  exact ⟨retS2 hR.out, bl_drew (bl_refl _)⟩
theorem require_yes (b : Nat) (w : World) : Calls Tryz.prog 56 #[.pointer (some ⟨b, 0, none⟩), .bool true] w fun e w' => e = .returned (.tuple #[]) ∧ w = w' := by
  go_enter Tryz.func56, Tryz.ntmps56
  go_wp2
  go_end0
  exact ⟨rfl, rfl⟩
theorem require_no (s : ByteArray) (k : Int) (b : Nat) (w : World) (hp : Pz w b s k) : Calls Tryz.prog 56 #[.pointer (some ⟨b, 0, none⟩), .bool false] w fun e w' => e = fail k ∧ w = w' := by
  obtain ⟨h0, h1, h2, h3⟩ := hp.cells
  clear hp
  go_enter Tryz.func56, Tryz.ntmps56
  go_wp2
  exact ⟨rfl, rfl, rfl⟩
theorem HasPre_ (l : List UInt8) (c : UInt8) (w : World) (hl : l.length ≤ 1000000) : Calls Tryz.prog 92 #[.string (mkS l), .string ⟨#[c]⟩] w fun e w' => e = .returned (.bool (decide (l.head? = some c))) ∧ w = w' := by
  obtain ⟨s, hs⟩ : ∃ s, s = mkS l := ⟨_, rfl⟩
  have hz : s.size = l.length := by rw [hs, size_mk]
  rw [← hs]
  cases l with
  | nil =>
    have e : s = ⟨#[]⟩ := by rw [hs]; rfl
    subst e
    clear hs hz
    go_enter Tryz.func92, Tryz.ntmps92
    go_wp2
    go_ret
    exact ⟨rfl, rfl⟩
  | cons a t =>
    have hx : s.extract 0 1 = ⟨#[a]⟩ := by
      apply byt_inj.1
      rw [byt_extract, hs, byt_mk]
      simp [byt]
    have i1 : (1 : Int) ≤ (s.size : Int) := by rw [hz]; simp; omega
    have hn : s.size ≤ 1000000 := by omega
    clear hs hz
    by_cases h1 : a = c
    · subst h1
      have q1 : ((s.extract 0 1).toList == (⟨#[a]⟩ : ByteArray).toList) = true := seq_eq hx
      go_enter Tryz.func92, Tryz.ntmps92
      go_wp2
      go_ret
      exact ⟨retb (by simp), rfl⟩
    · have q1 : ((s.extract 0 1).toList == (⟨#[c]⟩ : ByteArray).toList) = false := seq_ne (by rw [hx]; intro e; apply h1; simpa using e)
      go_enter Tryz.func92, Tryz.ntmps92
      go_wp2
      go_ret
      exact ⟨retb (by simp [h1]), rfl⟩
theorem HasPre (l : List UInt8) (c : UInt8) (w : World) (hl : l.length ≤ 1000000) : Calls Tryz.prog 76 #[.string (mkS l), .string ⟨#[c]⟩] w fun e w' => e = .returned (.bool (decide (l.head? = some c))) ∧ w = w' := by
  have C := hide (fun w => HasPre_ l c w hl)
  go_enter Tryz.func76, Tryz.ntmps76
  go_wp2_with (refine (C.out _).mono ?_; rintro e w' ⟨rfl, rfl⟩)
  go_ret
  exact ⟨rfl, rfl⟩
theorem skip_yes (s : ByteArray) (k b : Nat) (c : UInt8) (t : List UInt8) (w : World) (hs : s.size ≤ 1000000) (hk : k ≤ s.size) (hp : Pz w b s k) (hc : rst s k = c :: t) :
    Calls Tryz.prog 59 #[.pointer (some ⟨b, 0, none⟩), .string ⟨#[c]⟩] w fun e w' => e = .returned (.bool true) ∧ Pz w' b s ((k : Int) + 1) ∧ But b w w' := by
  have R := hide (fun w hp => rest_ s k b w hs hk hp)
  have H := hide (fun w => HasPre (rst s k) c w (by have := rst_size s k; rw [size_mk] at this; omega))
  have hd : decide ((rst s k).head? = some c) = true := by rw [hc]; simp
  generalize decide ((rst s k).head? = some c) = d at H hd
  clear hc
  subst hd
  have P := hide hp
  clear hp
  go_enter Tryz.func59, Tryz.ntmps59
  go_wp2_with fail
  refine (R.out _ P.out).mono ?_
  rintro e w1 ⟨rfl, hb⟩
  have P1 := hide (P.out.below hb)
  go_wp2_with fail
  refine (H.out _).mono ?_
  rintro e w' ⟨rfl, rfl⟩
  have B1 := hide (But.of (b := b) hb)
  obtain ⟨h0, h1, h2, h3⟩ := P1.out.cells
  clear P hb
  go_wp2
  go_ret
  exact ⟨rfl, P1.out.set _, B1.out.set _⟩
theorem skip_no (s : ByteArray) (k b : Nat) (c : UInt8) (w : World) (hs : s.size ≤ 1000000) (hk : k ≤ s.size) (hp : Pz w b s k) (hc : (rst s k).head? ≠ some c) :
    Calls Tryz.prog 59 #[.pointer (some ⟨b, 0, none⟩), .string ⟨#[c]⟩] w fun e w' => e = .returned (.bool false) ∧ Below w.heap.size w w' := by
  have R := hide (fun w hp => rest_ s k b w hs hk hp)
  have H := hide (fun w => HasPre (rst s k) c w (by have := rst_size s k; rw [size_mk] at this; omega))
  rw [decide_eq_false hc] at H
  have P := hide hp
  clear hp hc
  go_enter Tryz.func59, Tryz.ntmps59
  go_wp2_with fail
  refine (R.out _ P.out).mono ?_
  rintro e w1 ⟨rfl, hb⟩
  go_wp2_with fail
  refine (H.out _).mono ?_
  rintro e w' ⟨rfl, rfl⟩
  go_wp2
  go_ret
  exact ⟨rfl, hb⟩
theorem expect_yes (s : ByteArray) (k b : Nat) (c : UInt8) (t : List UInt8) (w : World) (hs : s.size ≤ 1000000) (hk : k ≤ s.size) (hp : Pz w b s k) (hc : rst s k = c :: t) :
    Calls Tryz.prog 73 #[.pointer (some ⟨b, 0, none⟩), .string ⟨#[c]⟩] w fun e w' => e = .returned (.tuple #[]) ∧ Pz w' b s ((k : Int) + 1) ∧ But b w w' := by
  have R := hide (skip_yes s k b c t w hs hk hp hc)
  have Q := hide (fun w => require_yes b w)
  clear hp hc
  go_enter Tryz.func73, Tryz.ntmps73
  go_wp2_with fail
  refine R.out.mono ?_
  rintro e w1 ⟨rfl, hp, hb⟩
  go_wp2_with fail
  refine (Q.out _).mono ?_
  rintro e w' ⟨rfl, rfl⟩
  go_wp2
  go_end0
  exact ⟨rfl, hp, hb⟩
theorem expect_no (s : ByteArray) (k b : Nat) (c : UInt8) (w : World) (hs : s.size ≤ 1000000) (hk : k ≤ s.size) (hp : Pz w b s k) (hc : (rst s k).head? ≠ some c) :
    Calls Tryz.prog 73 #[.pointer (some ⟨b, 0, none⟩), .string ⟨#[c]⟩] w fun e w' => e = fail k ∧ Below w.heap.size w w' := by
  have R := hide (skip_no s k b c w hs hk hp hc)
  have Q := hide (fun w hp => require_no s k b w hp)
  have P := hide hp
  clear hp hc
  go_enter Tryz.func73, Tryz.ntmps73
  go_wp2_with fail
  refine R.out.mono ?_
  rintro e w1 ⟨rfl, hb⟩
  have P1 := hide (P.out.below hb)
  go_wp2_with fail
  refine (Q.out _ P1.out).mono ?_
  rintro e w' ⟨rfl, rfl⟩
  unfold fail
  go_wp2
  exact ⟨rfl, rfl, hb⟩
end po_
end Go.Proofs.YtjeclakdgmjbjaaGreatDoor

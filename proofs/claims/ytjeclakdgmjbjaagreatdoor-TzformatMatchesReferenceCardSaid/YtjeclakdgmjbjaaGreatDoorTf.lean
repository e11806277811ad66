/-
  A strings.Builder EMBEDDED IN A STRUCT IN A BLOCK OF ITS OWN: contracts of copyCheck, WriteByte, WriteString, String over it (the kit's shelf has them for a Builder that is the whole block). Condition: at most 1,000,000 bytes are written.
  THE WRITER OF PACKAGE tzformat, of the code that landed at 02cca4b. Conditions: each theorem's own (valid rules and days; texts of at most 1,000,000 bytes), and the table of powers of ten that strconv reads.
  THE WRITER OF PACKAGE tzformat: daylight, rule. Conditions: valid rules, and the table of powers of ten that strconv reads.
  CONTRACTS OF PACKAGE tzformat, of the code that landed at 02cca4b. Conditions: each theorem's own (valid rules and days; texts of at most 1,000,000 bytes), and the table of powers of ten that strconv reads.
-/
import Derived.Test.YtjeclakdgmjbjaaGreatDoorPoW
import Derived.Test.YtjeclakdgmjbjaaGreatDoorRow
import Derived.Lib.Builder
import Derived.Lib.AppendStr
import Derived.Lib.UnsafeStr
import Derived.Laws.Externs
import Derived.Laws.IdiomCopy
import Derived.Test.YtjeclakdgmjbjaaGreatDoorRef10f
import Derived.Test.YtjeclakdgmjbjaaGreatDoorHs
import Derived.Test.YtjeclakdgmjbjaaGreatDoorTz
import Derived.Test.YtjeclakdgmjbjaaGreatDoorRef10c
import Derived.Test.YtjeclakdgmjbjaaGreatDoorPo
namespace Go.Proofs.YtjeclakdgmjbjaaGreatDoor
open Go.ChangeShapes Go.WideShapes Go.ChangeAt Go.RowKit
set_option linter.unusedVariables false
set_option maxRecDepth 100000
/-- every block but b, and but the rows of bytes, is as it was. -/
structure Bt (b : Nat) (w w' : World) : Prop where
  size : w.heap.size ≤ w'.heap.size
  block : ∀ k, k < w.heap.size → k ≠ b → (∀ cs fr, w.heap[k]? ≠ some (.cells cs 5 fr)) → w'.heap[k]? = w.heap[k]?
theorem Bt.refl (b : Nat) (w : World) : Bt b w w := ⟨Nat.le_refl _, fun _ _ _ _ => rfl⟩
theorem Bt.trans {b : Nat} {w w1 w2 : World} (h : Bt b w w1) (k : Bt b w1 w2) : Bt b w w2 :=
  ⟨Nat.le_trans h.size k.size, fun i hi hn hr => by
    have e := h.block i hi hn hr
    exact (k.block i (Nat.lt_of_lt_of_le hi h.size) hn (fun cs fr => by rw [e]; exact hr cs fr)).trans e⟩
theorem Bt.of {b : Nat} {w w1 : World} (h : Below w.heap.size w w1) : Bt b w w1 := ⟨h.size, fun k hk _ _ => h.block k hk⟩
theorem Bt.next {b : Nat} {w w1 w2 : World} (h : Bt b w w1) (k : Below w1.heap.size w1 w2) : Bt b w w2 := h.trans (.of k)
theorem Bt.undrew {b : Nat} {w w1 : World} (h : Bt b w.drew w1) : Bt b w w1 := ⟨h.size, h.block⟩
theorem Bt.set (b o : Nat) (w : World) (v : Value) : Bt b w (w.setCell ⟨b, o, none⟩ v) :=
  ⟨by simp [World.setCell], fun k hk hn _ => Below.heap_setCell w ⟨b, o, none⟩ v k hn⟩
theorem Bt.row {b g : Nat} {w w1 : World} {vs : Array Value} {T : TypeId} (h : Ro w g vs T) (k : Bt b w w1) (hne : g ≠ b) (hT : T ≠ 5) : Ro w1 g vs T :=
  (k.block g h.lt hne (fun cs fr e => by rw [show w.heap[g]? = _ from h] at e; injection e with e; injection e with _ e; exact hT e)).trans h
theorem Bt.grown {b : Nat} {w w1 : World} {row : Option Nat} (hg : w.grownBy w1 row) (hr : ∀ g, row = some g → ∃ cs fr, w.heap[g]? = some (.cells cs 5 fr)) : Bt b w w1 :=
  ⟨hg.size, fun k hk _ hn => hg.block k hk (fun e => by obtain ⟨cs, fr, e2⟩ := hr k e.symm; exact hn cs fr e2)⟩
/-- THE WRITER AT BLOCK b holds the bytes l; the world has turned nothing that was there in w0. -/
def Wr (w0 : World) (b : Nat) (l : List UInt8) (w : World) : Prop :=
  Below w0.heap.size w0 w ∧ Lib.IsBuilder 51 5 w0.heap.size b (Lib.byteCells l) w
section
variable {w0 w w1 : World} {b : Nat} {l : List UInt8}
theorem at_below {T e : TypeId} {B b : Nat} {p : Value} {bs : List Value} (h : Lib.BuilderAt T e B b p bs w) (hb : Below w.heap.size w w1) : Lib.BuilderAt T e B b p bs w1 := by
  have hlt := h.lt
  obtain ⟨hB, v, hbk, hown, hne⟩ := h
  refine ⟨hB, v, (hb.block b hlt).trans hbk, ⟨hown.1, ?_⟩, hne⟩
  rcases hown.2 with h' | ⟨g, cap, cur, e1, e2, e3, e4⟩
  · exact .inl h'
  · exact .inr ⟨g, cap, cur, e1, e2, (hb.block g (hown.lt g (by rw [e1]; rfl)).2).trans e3, e4⟩
theorem Wr.bel (h : Wr w0 b l w) : Below w0.heap.size w0 w := h.1
theorem Wr.lt (h : Wr w0 b l w) : b < w.heap.size ∧ w0.heap.size ≤ b := by
  rcases h.2 with h | h <;> exact ⟨h.lt, h.1⟩
theorem Wr.below (h : Wr w0 b l w) (hb : Below w.heap.size w w1) : Wr w0 b l w1 := ⟨bel_next h.1 hb, h.2.imp (at_below · hb) (at_below · hb)⟩
theorem Wr.alloc (h : Wr w0 b l w) (o : Obj) : Wr w0 b l (w.alloc o) := h.below (bl_new w o)
theorem Wr.drew (h : Wr w0 b l w) : Wr w0 b l w.drew := h.below (bl_drew (bl_refl w))
theorem Wr.new (w0 w : World) (h : Below w0.heap.size w0 w) : Wr w0 w.heap.size [] (w.alloc (.cells #[.pointer none, .slice none 0 0] 51)) :=
  ⟨bl_alloc h _, .inl ⟨h.size, .slice none 0 0, heap_alloc_new w _, World.ownsRow_nil _ _ _ _, by simp [Value.ownBlock]⟩⟩
end
namespace bu_
theorem szB : (Tryz.prog.info? 49).map (·.size) = some 2 := by kernel_rfl
theorem lies : liesAt Tryz.prog Tryz.prog.depth 51 (2 / Tryz.prog.cellsOf 51) 0 49 1 = true := by kernel_rfl
theorem infoByte : (Tryz.prog.info? 5).map (fun i => (i.zero, i.size, i.bytes)) = some (some (.int .u8 0), 1, 1) := by kernel_rfl
theorem cellsByte : Tryz.prog.cellsOf 5 = 1 := by kernel_rfl
theorem check_used (b : Nat) (w : World) (h0 : w.cell? ⟨b, 0, none⟩ = some (.pointer (some ⟨b, 0, none⟩))) :
    Calls Tryz.prog 66 #[.pointer (some ⟨b, 0, none⟩)] w fun e w' => e = .returned (.tuple #[]) ∧ w' = w := by
  obtain ⟨j, hj, _⟩ := Option.map_eq_some_iff.1 szB
  go_enter Tryz.func66, Tryz.ntmps66
  go_wp2
  rw [Lib.run_neq_ptr_same w _ Tryz.underlying46 hj]
  go_wp2
  go_end0
  exact ⟨rfl, rfl⟩
theorem check_fresh (b : Nat) (w : World) (h0 : w.cell? ⟨b, 0, none⟩ = some (.pointer none)) (hsh : w.shape? b = some (51, 2)) (hfz : w.frozen? ⟨b, 0, none⟩ = false) :
    Calls Tryz.prog 66 #[.pointer (some ⟨b, 0, none⟩)] w fun e w' => e = .returned (.tuple #[]) ∧ w' = w.setCell ⟨b, 0, none⟩ (.pointer (some ⟨b, 0, none⟩)) := by
  obtain ⟨j, hj, hjs⟩ := Option.map_eq_some_iff.1 szB
  go_enter Tryz.func66, Tryz.ntmps66
  go_wp2
  rw [Lib.run_to_unsafe w ⟨b, 0, none⟩ Tryz.underlying46 Tryz.underlying97 hj (by rw [hjs]; decide) hsh (Nat.zero_lt_succ 1)]
  simp only [Result.andThen]
  rw [Oper.upon_value]
  go_wp2
  rw [run_callFunc_extern Tryz.func79 (by kernel_rfl) (by kernel_rfl) (by kernel_rfl) (e := Extern.AbiNoEscape.same) (by kernel_rfl)]
  rw [Lib.run_noEscape]
  simp only [Result.andThen]
  rw [Oper.upon_value]
  go_wp2
  rw [Lib.run_from_unsafe w ⟨b, 0, none⟩ Tryz.underlying97 Tryz.underlying46 hj hsh lies]
  simp only [Result.andThen]
  rw [Oper.upon_value]
  go_wp2
  go_end0
  exact ⟨rfl, rfl⟩
theorem check (B b : Nat) (bs : List Value) (w : World) (h : Lib.IsBuilder 51 5 B b bs w) :
    Calls Tryz.prog 66 #[.pointer (some ⟨b, 0, none⟩)] w fun e w' => e = .returned (.tuple #[]) ∧ Lib.BuilderAt 51 5 B b (.pointer (some ⟨b, 0, none⟩)) bs w' ∧ Below B w w' ∧ Bt b w w' := by
  rcases h with h | h
  · refine (check_fresh b w h.cell0 h.shape h.frozen0).mono ?_
    rintro e w' ⟨rfl, rfl⟩
    exact ⟨rfl, h.used _, (Below.refl B w).setCell (p := ⟨b, 0, none⟩) h.1 _, Bt.set b 0 w _⟩
  · refine (check_used b w h.cell0).mono ?_
    rintro e w' ⟨rfl, rfl⟩
    exact ⟨rfl, h, Below.refl B _, Bt.refl b _⟩
set_option maxHeartbeats 2000000 in
theorem WriteByte (w0 : World) (b : Nat) (l : List UInt8) (c : UInt8) (w : World) (h : Wr w0 b l w) (hlen : l.length ≤ 1000000) :
    Calls Tryz.prog 42 #[.pointer (some ⟨b, 0, none⟩), .int .u8 c.toNat] w fun e w' => e = .returned .nilIface ∧ Wr w0 b (l ++ [c]) w' ∧ Bt b w w' := by
  obtain ⟨i0, hi, hz0, hz1, hz2⟩ := info_parts infoByte
  have hbw := h.1.size
  have hb0 := hide h.1
  have C := hide (check _ b _ w h.2)
  have hN := hide (Lib.byteCells_length l)
  clear h
  go_enter Tryz.func42, Tryz.ntmps42
  go_wp2_with (refine C.out.mono ?_)
  rintro e w1 ⟨rfl, h1, hb1, ht1⟩
  have hT1 := hide ht1
  clear ht1 C
  obtain ⟨hB, v, hbk, hown, hne⟩ := h1
  have c0 : w1.cell? ⟨b, 0, none⟩ = some (.pointer (some ⟨b, 0, none⟩)) := by rw [Lib.cell_of_heap hbk]; rfl
  have c1 : w1.cell? ⟨b, 1, none⟩ = some v := by rw [Lib.cell_of_heap hbk]; rfl
  go_wp2_with (at_builtin; refine wpList_append_own _ rfl _ _ 47 rfl w0.heap.size 5 i0 (.int .u8 0) 1 1 Tryz.underlying47 hi hz0 hz1 hz2 rfl (by decide) _ _ _ rfl (hown.alloc _) ⟨w1.heap.size, 0, none⟩ 1 1 [.int .u8 c.toNat] rfl rfl ?c1 ?c2 ?c3 ?c4 ?c5 ?_)
  case c1 =>
    intro j u hj
    match j, hj with
    | 0, hj => simp at hj; subst hj; simp [Addr.add]
  case c2 => intro u hu; simp at hu; subst hu; rfl
  case c3 => have := hN.out; unfold maxLen; omega
  case c4 => have := hN.out; omega
  case c5 => have := hb1.size; simp; omega
  intro v' w2 hown' hgrow _
  have hlt : b < w1.heap.size := by
    rcases Nat.lt_or_ge b w1.heap.size with h' | h'
    · exact h'
    · simp [Array.getElem?_eq_none h'] at hbk
  have hb2 : w2.heap[b]? = some (.cells #[.pointer (some ⟨b, 0, none⟩), v] 51 (0, 0)) := by
    rw [hgrow.block b (by simp; omega) (fun e => hne e.symm), Lib.alloc_old w1 _ b hlt]
    exact hbk
  have d0 : w2.cell? ⟨b, 0, none⟩ = some (.pointer (some ⟨b, 0, none⟩)) := by rw [Lib.cell_of_heap hb2]; rfl
  have d1 : w2.cell? ⟨b, 1, none⟩ = some v := by rw [Lib.cell_of_heap hb2]; rfl
  have f1 : w2.frozen? ⟨b, 1, none⟩ = false := Lib.frozen_of_heap hb2 1
  have tB : Bt b w1 w2 := (Bt.of (bl_new w1 _)).trans (Bt.grown hgrow (fun g hg => by
    rcases hown.2 with ⟨rfl, _⟩ | ⟨g', cap, cur, rfl, _, hg', _⟩
    · cases hg
    · injection hg with hg
      subst hg
      have hl : g' < w1.heap.size := (hown.lt g' rfl).2
      exact ⟨_, _, (Lib.alloc_old w1 _ g' hl).trans hg'⟩))
  have hB2 : Below w0.heap.size w w2 := (hb1.alloc (by have := hb1.size; omega) _).grown hgrow (by have := hb1.size; simp; omega) (fun k hk => (hown.lt k hk).1)
  obtain ⟨g, cap, rfl⟩ : ∃ g cap, v' = .slice (some ⟨g, 0, none⟩) ((Lib.byteCells l).length + 1) cap := by
    rcases hown'.2 with ⟨_, h0⟩ | ⟨g, cap, cur, hv, _⟩
    · omega
    · exact ⟨g, cap, hv⟩
  clear hgrow
  go_wp2
  go_ret
  refine ⟨rfl, ⟨hb0.out.trans (hB2.setCell (p := ⟨b, 1, none⟩) hB _), .inr ?_⟩, hT1.out.trans (tB.trans (Bt.set b 1 w2 _))⟩
  rw [Lib.byteCells_append]
  exact Lib.BuilderAt.put (T := 51) (e := 5) hB hb2 (bs' := Lib.byteCells l ++ [.int .u8 c.toNat]) (by simpa using hown') (by decide)
set_option maxHeartbeats 2000000 in
theorem WriteString (w0 : World) (b : Nat) (l : List UInt8) (s : ByteArray) (w : World) (h : Wr w0 b l w) (hlen : l.length + s.size ≤ 1000000) :
    Calls Tryz.prog 43 #[.pointer (some ⟨b, 0, none⟩), .string s] w fun e w' => e = .returned (.tuple #[.int .i64 s.size, .nilIface]) ∧ Wr w0 b (l ++ byt s) w' ∧ Bt b w w' := by
  obtain ⟨i0, hi, hz0, hz1, hz2⟩ := info_parts infoByte
  have hbw := h.1.size
  have hb0 := hide h.1
  have C := hide (check _ b _ w h.2)
  have hN := hide (Lib.byteCells_length l)
  clear h
  go_enter Tryz.func43, Tryz.ntmps43
  go_wp2_with (refine C.out.mono ?_)
  rintro e w1 ⟨rfl, h1, hb1, ht1⟩
  have hT1 := hide ht1
  clear ht1 C
  obtain ⟨hB, v, hbk, hown, hne⟩ := h1
  have c0 : w1.cell? ⟨b, 0, none⟩ = some (.pointer (some ⟨b, 0, none⟩)) := by rw [Lib.cell_of_heap hbk]; rfl
  have c1 : w1.cell? ⟨b, 1, none⟩ = some v := by rw [Lib.cell_of_heap hbk]; rfl
  go_wp2_with (at_builtin; refine Lib.wpList_append_own_string _ rfl _ _ 47 9 rfl w0.heap.size 5 i0 Tryz.underlying47 Tryz.underlying9 hi hz0 hz1 hz2 _ _ _ rfl hown s rfl ?c3 ?c4 ?c5 ?_)
  case c3 => have := hN.out; unfold maxLen; omega
  case c4 => have := hN.out; omega
  case c5 => have := hb1.size; omega
  intro v' w2 hown' hgrow _
  have hlt : b < w1.heap.size := by
    rcases Nat.lt_or_ge b w1.heap.size with h' | h'
    · exact h'
    · simp [Array.getElem?_eq_none h'] at hbk
  have hb2 : w2.heap[b]? = some (.cells #[.pointer (some ⟨b, 0, none⟩), v] 51 (0, 0)) := by
    rw [hgrow.block b hlt (fun e => hne e.symm)]
    exact hbk
  have d0 : w2.cell? ⟨b, 0, none⟩ = some (.pointer (some ⟨b, 0, none⟩)) := by rw [Lib.cell_of_heap hb2]; rfl
  have d1 : w2.cell? ⟨b, 1, none⟩ = some v := by rw [Lib.cell_of_heap hb2]; rfl
  have f1 : w2.frozen? ⟨b, 1, none⟩ = false := Lib.frozen_of_heap hb2 1
  have tB : Bt b w1 w2 := Bt.grown hgrow (fun g hg => by
    rcases hown.2 with ⟨rfl, _⟩ | ⟨g', cap, cur, rfl, _, hg', _⟩
    · cases hg
    · injection hg with hg
      subst hg
      exact ⟨_, _, hg'⟩)
  have hB2 : Below w0.heap.size w w2 := hb1.grown hgrow (by have := hb1.size; omega) (fun k hk => (hown.lt k hk).1)
  obtain ⟨ao, n', cap, rfl⟩ : ∃ ao n' cap, v' = .slice ao n' cap := by
    rcases hown'.2 with ⟨hv, _⟩ | ⟨g, cap, cur, hv, _⟩
    · exact ⟨_, _, _, hv⟩
    · exact ⟨_, _, _, hv⟩
  clear hgrow
  go_wp2
  go_ret2
  refine ⟨rfl, ⟨hb0.out.trans (hB2.setCell (p := ⟨b, 1, none⟩) hB _), .inr ?_⟩, hT1.out.trans (tB.trans (Bt.set b 1 w2 _))⟩
  rw [Lib.byteCells_append]
  exact Lib.BuilderAt.put (T := 51) (e := 5) hB hb2 (bs' := Lib.byteCells l ++ Lib.strCells s) (by simpa [Lib.strCells_length] using hown') (by decide)
set_option maxHeartbeats 2000000 in
/-- the string of a builder that holds a byte at least. -/
theorem String_ (w0 : World) (b : Nat) (l : List UInt8) (w : World) (h : Wr w0 b l w) (h0 : l ≠ []) :
    Calls Tryz.prog 23 #[.pointer (some ⟨b, 0, none⟩)] w fun e w' => e = .returned (.string (mkS l)) ∧ Below w0.heap.size w0 w' := by
  have hb0 := hide h.1
  obtain ⟨p, hB, v, hbk, hown, hne⟩ : ∃ p, Lib.BuilderAt 51 5 w0.heap.size b p (Lib.byteCells l) w := by
    rcases h.2 with h | h
    · exact ⟨_, h⟩
    · exact ⟨_, h⟩
  have hl0 : l.length ≠ 0 := by simpa using h0
  rw [Lib.byteCells_length] at hown
  obtain ⟨g, cap, cur, rfl, hbg, hg, hnc, hcm, hcs, htake⟩ : ∃ g cap cur, v = .slice (some ⟨g, 0, none⟩) l.length cap ∧ w0.heap.size ≤ g ∧ w.heap[g]? = some (.cells cur 5 (0, 0)) ∧ l.length ≤ cap ∧ cap ≤ maxLen ∧ cur.size = cap * 1 ∧ cur.toList.take (l.length * 1) = Lib.byteCells l := by
    rcases hown.2 with ⟨_, hz⟩ | ⟨g, cap, cur, hv, r⟩
    · exact absurd hz hl0
    · exact ⟨g, cap, cur, hv, r⟩
  have c1 : w.drew.cell? ⟨b, 1, none⟩ = some (.slice (some ⟨g, 0, none⟩) l.length cap) := by
    have : w.drew.heap[b]? = some (.cells #[p, .slice (some ⟨g, 0, none⟩) l.length cap] 51 (0, 0)) := hbk
    rw [Lib.cell_of_heap this]; rfl
  have hSD : (Builtin.unsafeSliceData_ #[47] 76 #[.slice (some ⟨g, 0, none⟩) l.length cap]).run Tryz.prog w.drew = .ok (.pointer (some ⟨g, 0, none⟩)) w.drew :=
    Lib.run_unsafeSliceData_row _ _ _ _ _ _ (by omega)
  have hUS : (Builtin.unsafeString_ #[76, 3] 9 #[.pointer (some ⟨g, 0, none⟩), .int .i64 l.length]).run Tryz.prog w.drew = .ok (.string ⟨l.toArray⟩) (w.drew.freeze ⟨g, 0, none⟩ l.length) := by
    refine Lib.run_unsafeString_row w.drew 76 3 9 5 Tryz.underlying76 cellsByte g cur.size (by have hg' : w.drew.heap[g]? = some (.cells cur 5 (0, 0)) := hg; simp [World.shape?, hg']) l h0 (by omega) (by unfold maxLen at hcm; omega) ?_
    intro j x hx
    have := hown.cells (g := g) rfl j (.int .u8 x.toNat) (by simp [Lib.byteCells, hx])
    exact this
  clear htake hcs hown h
  go_enter Tryz.func23, Tryz.ntmps23
  go_wp2
  go_region
  all_goals (go_wp2; go_ret; exact ⟨rfl, Lib.below_freeze (Below.drew hb0.out) (p := ⟨g, 0, none⟩) hbg _⟩)
end bu_
end Go.Proofs.YtjeclakdgmjbjaaGreatDoor
namespace Go.Proofs.YtjeclakdgmjbjaaGreatDoor
open Go.ChangeShapes Go.WideShapes Go.ChangeAt Go.RowKit
set_option linter.unusedVariables false
set_option maxRecDepth 100000
theorem itoa_dec : ∀ n : Fin 1000, Lib.itoa (n.val : Int) = decF (n.val : Int) := by
  intro ⟨n, hn⟩
  have e : Lib.itoa (n : Int) = Lib.decDigits n := by unfold Lib.itoa; rw [if_neg (by omega)]; rfl
  show Lib.itoa (n : Int) = decF (n : Int)
  rw [e]
  by_cases h10 : n < 10
  · rw [Lib.decDigits, dif_pos h10]
    unfold decF dg
    rw [if_pos (by omega)]
    show [UInt8.ofNat (48 + n)] = [UInt8.ofNat (48 + (n : Int)).toNat]
    rw [show (48 + (n : Int)).toNat = 48 + n by omega]
  by_cases h100 : n < 100
  · rw [Lib.decDigits, dif_neg h10, Lib.decDigits, dif_pos (by omega)]
    unfold decF dg
    rw [if_neg (by omega), if_pos (by omega)]
    show [UInt8.ofNat (48 + n / 10), UInt8.ofNat (48 + n % 10)] = [UInt8.ofNat (48 + (n : Int) / 10).toNat, UInt8.ofNat (48 + (n : Int) % 10).toNat]
    rw [show (48 + (n : Int) % 10).toNat = 48 + n % 10 by omega, show (48 + (n : Int) / 10).toNat = 48 + n / 10 by omega]
  · rw [Lib.decDigits, dif_neg h10, Lib.decDigits, dif_neg (by omega), Lib.decDigits, dif_pos (by omega)]
    unfold decF dg
    rw [if_neg (by omega), if_neg (by omega)]
    show [UInt8.ofNat (48 + n / 10 / 10), UInt8.ofNat (48 + n / 10 % 10), UInt8.ofNat (48 + n % 10)] = [UInt8.ofNat (48 + (n : Int) / 100).toNat, UInt8.ofNat (48 + (n : Int) / 10 % 10).toNat, UInt8.ofNat (48 + (n : Int) % 10).toNat]
    rw [show (48 + (n : Int) % 10).toNat = 48 + n % 10 by omega, show (48 + (n : Int) / 10 % 10).toNat = 48 + n / 10 % 10 by omega, show (48 + (n : Int) / 100).toNat = 48 + n / 10 / 10 by omega]
namespace tf_
theorem Itoa (n : Int) (w : World) (hT : Tp w) (h0 : 0 ≤ n) (h1 : n ≤ 999) : Calls Tryz.prog 67 #[.int .i64 n] w fun e w' => e = .returned (.string (mkS (decF n))) ∧ Below w.heap.size w w' := by
  refine (Any.strconv_Itoa Tryz.laysItoa n (by omega) (by omega) w hT).mono ?_
  rintro e w' ⟨rfl, k, os, rfl⟩
  have e := itoa_dec ⟨n.toNat, by omega⟩
  rw [show ((n.toNat : Nat) : Int) = n by omega] at e
  rw [e]
  exact ⟨rfl, bl_grow _ _ _⟩
theorem designation (w0 : World) (b : Nat) (l : List UInt8) (s : ByteArray) (w : World) (h : Wr w0 b l w) (hl : l.length ≤ 900000) (hn : nameOk (byt s) = true) :
    Calls Tryz.prog 47 #[.pointer (some ⟨b, 0, none⟩), .string s] w fun e w' => e = .returned (.tuple #[]) ∧ Wr w0 b (l ++ tnFmt (byt s)) w' ∧ Bt b w w' := by
  have hs : s.size ≤ 1000000 := by have := (nameOk_iff.1 hn).2.1; rw [len_byt] at this; omega
  have F := hide (fun w => tn_.Format s w hs)
  obtain ⟨S, h1, z1, b1⟩ := nstr_ hn
  rw [← h1] at F
  have WS := hide (fun w h => bu_.WriteString w0 b l S w h (by omega))
  rw [b1] at WS
  have H := hide h
  clear h h1 b1 hn hs hl z1
  go_enter Tryz.func47, Tryz.ntmps47
  go_region_with (first
    | (go_at_call 69; refine (F.out _).mono ?_; rintro e w1 ⟨rfl, h1⟩; replace h1 := hide h1)
    | (go_at_call 43; refine (WS.out _ (by first | exact H.out.below h1.out | exact H.out.drew.below h1.out | exact (H.out.below h1.out).drew)).mono ?_; rintro e w2 ⟨rfl, h2, t2⟩; replace h2 := hide h2; replace t2 := hide t2))
  all_goals
    go_wp2
    go_end0
    exact ⟨rfl, h2.out, by first | exact (Bt.of h1.out).trans t2.out | exact ((Bt.of h1.out).trans t2.out).undrew⟩
theorem offset (w0 : World) (hT : Tp w0) (b : Nat) (l : List UInt8) (x : Int) (w : World) (h : Wr w0 b l w) (hl : l.length ≤ 900000) (ho : offOk x) :
    Calls Tryz.prog 48 #[.pointer (some ⟨b, 0, none⟩), .int .i64 x] w fun e w' => e = .returned (.tuple #[]) ∧ Wr w0 b (l ++ hmsFmt (-x)) w' ∧ Bt b w w' := by
  have F := hide (fun w hT => hm_.Format (-x) w hT (by unfold offOk at ho; omega) (by unfold offOk at ho; omega))
  have wx : IntKind.i64.wrap (-x) = -x := by unfold offOk at ho; rw [IntKind.wrap_i64]; omega
  obtain ⟨S, h1, z1, b1⟩ := ostr_ ho
  rw [← h1] at F
  have WS := hide (fun w h => bu_.WriteString w0 b l S w h (by omega))
  rw [b1] at WS
  have H := hide h
  have HT := hide hT
  clear h h1 b1 ho hl z1 hT
  go_enter Tryz.func48, Tryz.ntmps48
  go_region_with (first
    | (go_at_call 44; refine (F.out _ (HT.out.below (by first | exact H.out.bel | exact H.out.drew.bel))).mono ?_; rintro e w1 ⟨rfl, h1⟩; replace h1 := hide h1)
    | (go_at_call 43; refine (WS.out _ (by first | exact H.out.below h1.out | exact H.out.drew.below h1.out | exact (H.out.below h1.out).drew)).mono ?_; rintro e w2 ⟨rfl, h2, t2⟩; replace h2 := hide h2; replace t2 := hide t2))
  all_goals
    go_wp2
    go_end0
    exact ⟨rfl, h2.out, by first | exact (Bt.of h1.out).trans t2.out | exact ((Bt.of h1.out).trans t2.out).undrew⟩
theorem number (w0 : World) (hT : Tp w0) (b : Nat) (l : List UInt8) (n : Int) (w : World) (h : Wr w0 b l w) (hl : l.length ≤ 900000) (h0 : 0 ≤ n) (h9 : n ≤ 999) :
    Calls Tryz.prog 65 #[.pointer (some ⟨b, 0, none⟩), .int .i64 n] w fun e w' => e = .returned (.tuple #[]) ∧ Wr w0 b (l ++ decF n) w' ∧ Bt b w w' := by
  have F := hide (fun w hT => Itoa n w hT h0 h9)
  obtain ⟨S, h1, z1, b1⟩ := vstr_ h0 h9
  rw [← h1] at F
  have WS := hide (fun w h => bu_.WriteString w0 b l S w h (by omega))
  rw [b1] at WS
  have H := hide h
  have HT := hide hT
  clear h h1 b1 hl z1 hT
  go_enter Tryz.func65, Tryz.ntmps65
  go_region_with (first
    | (go_at_call 67; refine (F.out _ (HT.out.below (by first | exact H.out.bel | exact H.out.drew.bel))).mono ?_; rintro e w1 ⟨rfl, h1⟩; replace h1 := hide h1)
    | (go_at_call 43; refine (WS.out _ (by first | exact H.out.below h1.out | exact H.out.drew.below h1.out | exact (H.out.below h1.out).drew)).mono ?_; rintro e w2 ⟨rfl, h2, t2⟩; replace h2 := hide h2; replace t2 := hide t2))
  all_goals
    go_wp2
    go_end0
    exact ⟨rfl, h2.out, by first | exact (Bt.of h1.out).trans t2.out | exact ((Bt.of h1.out).trans t2.out).undrew⟩
/-- the cells of a day's box. -/
abbrev dcs (d : RD) : Array Value := #[.int .i64 d.1, .int .i64 d.2.1, .int .i64 d.2.2.1, .int .i64 d.2.2.2.1, .int .i64 d.2.2.2.2.1, .int .i64 d.2.2.2.2.2]
theorem date (w0 : World) (hT : Tp w0) (b : Nat) (l : List UInt8) (d : RD) (w : World) (h : Wr w0 b l w) (hl : l.length ≤ 800000) (hd : rdOk d) :
    Calls Tryz.prog 41 #[.pointer (some ⟨b, 0, none⟩), vday d] w fun e w' => e = .returned (.tuple #[]) ∧ Wr w0 b (l ++ dayCore d) w' ∧ Bt b w w' := by
  obtain ⟨d1, d2, d3, d4, d5, d6⟩ := d
  have NM : ∀ (n : Int), 0 ≤ n → n ≤ 999 → Hid (∀ (l : List UInt8) (w : World), l.length ≤ 900000 → Wr w0 b l w → Calls Tryz.prog 65 #[.pointer (some ⟨b, 0, none⟩), .int .i64 n] w fun e w' => e = .returned (.tuple #[]) ∧ Wr w0 b (l ++ decF n) w' ∧ Bt b w w') :=
    fun n a b' => hide (fun l w hl h => number w0 hT b l n w h hl a b')
  have BY : Hid (∀ (c : UInt8) (l : List UInt8) (w : World), l.length ≤ 1000000 → Wr w0 b l w → Calls Tryz.prog 42 #[.pointer (some ⟨b, 0, none⟩), .int .u8 c.toNat] w fun e w' => e = .returned .nilIface ∧ Wr w0 b (l ++ [c]) w' ∧ Bt b w w') :=
    hide (fun c l w hl h => bu_.WriteByte w0 b l c w h hl)
  have H := hide (h.alloc (.cells #[.int .i64 d1, .int .i64 d2, .int .i64 d3, .int .i64 d4, .int .i64 d5, .int .i64 d6] 23))
  have R := hide (Ro.new w #[.int .i64 d1, .int .i64 d2, .int .i64 d3, .int .i64 d4, .int .i64 d5, .int .i64 d6] 23)
  have T := hide (Bt.of (b := b) (bl_new w (.cells #[.int .i64 d1, .int .i64 d2, .int .i64 d3, .int .i64 d4, .int .i64 d5, .int .i64 d6] 23)))
  have hne := hide (show w.heap.size ≠ b by have := h.lt; omega)
  unfold vday
  clear h
  simp only [rdOk, RdOk] at hd
  have e2 : ∀ n : Int, 0 ≤ n → n ≤ 999 → (decF n).length ≤ 3 := fun n a b => (decF_is a b).2.2.2
  rcases (show d1 = 1 ∨ d1 = 2 ∨ d1 = 3 by omega) with rfl | rfl | rfl
  · have N2 := NM d2 (by omega) (by omega)
    clear NM e2 hd
    go_enter Tryz.func41, Tryz.ntmps41
    go_upto_region 1 with fail
    generalize w.alloc (.cells #[.int .i64 1, .int .i64 d2, .int .i64 d3, .int .i64 d4, .int .i64 d5, .int .i64 d6] 23) = v0 at *
    have x0 := (ro_cf R.out 0 _ rfl).1
    go_wp2_with fail
    refine (BY.out 74 _ _ (by omega) H.out).mono ?_
    rintro e w1 ⟨rfl, h1, t1⟩
    replace R := hide (t1.row R.out hne.out (by decide))
    replace T := hide (T.out.trans t1)
    replace H := hide h1
    clear h1 t1 x0
    have x1 := (ro_cf R.out 1 _ rfl).1
    go_wp2_with fail
    refine (N2.out _ _ (by simp; omega) H.out).mono ?_
    rintro e w2 ⟨rfl, h1, t1⟩
    replace T := hide (T.out.trans t1)
    replace H := hide h1
    clear h1 t1
    go_wp2
    go_end0
    exact ⟨rfl, by simpa [dayCore] using H.out, T.out⟩
  · have N2 := NM d2 (by omega) (by omega)
    clear NM e2 hd
    go_enter Tryz.func41, Tryz.ntmps41
    go_upto_region 1 with fail
    generalize w.alloc (.cells #[.int .i64 2, .int .i64 d2, .int .i64 d3, .int .i64 d4, .int .i64 d5, .int .i64 d6] 23) = v0 at *
    have x0 := (ro_cf R.out 0 _ rfl).1
    have x1 := (ro_cf R.out 1 _ rfl).1
    go_wp2_with fail
    refine (N2.out _ _ (by omega) H.out).mono ?_
    rintro e w2 ⟨rfl, h1, t1⟩
    replace T := hide (T.out.trans t1)
    replace H := hide h1
    clear h1 t1
    go_wp2
    go_end0
    exact ⟨rfl, by simpa [dayCore] using H.out, T.out⟩
  · have N3 := NM d3 (by omega) (by omega)
    have N4 := NM d4 (by omega) (by omega)
    have N5 := NM d5 (by omega) (by omega)
    have l3 := e2 d3 (by omega) (by omega)
    have l4 := e2 d4 (by omega) (by omega)
    clear NM e2 hd
    go_enter Tryz.func41, Tryz.ntmps41
    go_upto_region 1 with fail
    generalize w.alloc (.cells #[.int .i64 3, .int .i64 d2, .int .i64 d3, .int .i64 d4, .int .i64 d5, .int .i64 d6] 23) = v0 at *
    have x0 := (ro_cf R.out 0 _ rfl).1
    go_wp2_with fail
    refine (BY.out 77 _ _ (by omega) H.out).mono ?_
    rintro e w1 ⟨rfl, h1, t1⟩
    replace R := hide (t1.row R.out hne.out (by decide))
    replace T := hide (T.out.trans t1)
    replace H := hide h1
    clear h1 t1 x0
    have x1 := (ro_cf R.out 2 _ rfl).1
    go_wp2_with fail
    refine (N3.out _ _ (by simp; omega) H.out).mono ?_
    rintro e w2 ⟨rfl, h1, t1⟩
    replace R := hide (t1.row R.out hne.out (by decide))
    replace T := hide (T.out.trans t1)
    replace H := hide h1
    clear h1 t1 x1
    go_wp2_with fail
    refine (BY.out 46 _ _ (by simp; omega) H.out).mono ?_
    rintro e w3 ⟨rfl, h1, t1⟩
    replace R := hide (t1.row R.out hne.out (by decide))
    replace T := hide (T.out.trans t1)
    replace H := hide h1
    clear h1 t1
    have x1 := (ro_cf R.out 3 _ rfl).1
    go_wp2_with fail
    refine (N4.out _ _ (by simp; omega) H.out).mono ?_
    rintro e w4 ⟨rfl, h1, t1⟩
    replace R := hide (t1.row R.out hne.out (by decide))
    replace T := hide (T.out.trans t1)
    replace H := hide h1
    clear h1 t1 x1
    go_wp2_with fail
    refine (BY.out 46 _ _ (by simp; omega) H.out).mono ?_
    rintro e w5 ⟨rfl, h1, t1⟩
    replace R := hide (t1.row R.out hne.out (by decide))
    replace T := hide (T.out.trans t1)
    replace H := hide h1
    clear h1 t1
    have x1 := (ro_cf R.out 4 _ rfl).1
    go_wp2_with fail
    refine (N5.out _ _ (by simp; omega) H.out).mono ?_
    rintro e w6 ⟨rfl, h1, t1⟩
    replace T := hide (T.out.trans t1)
    replace H := hide h1
    clear h1 t1
    go_wp2
    go_end0
    exact ⟨rfl, by simpa [dayCore] using H.out, T.out⟩
theorem day (w0 : World) (hT : Tp w0) (b : Nat) (l : List UInt8) (d : RD) (w : World) (h : Wr w0 b l w) (hl : l.length ≤ 700000) (hd : rdOk d) :
    Calls Tryz.prog 22 #[.pointer (some ⟨b, 0, none⟩), vday d] w fun e w' => e = .returned (.tuple #[]) ∧ Wr w0 b (l ++ dayC d) w' ∧ Bt b w w' := by
  have DT := hide (fun w h => date w0 hT b l d w h (by omega) hd)
  have hc := dayC_len hd
  obtain ⟨d1, d2, d3, d4, d5, d6⟩ := d
  unfold vday at DT ⊢
  have hcl : (l ++ dayCore (d1, d2, d3, d4, d5, d6)).length ≤ 800000 := by
    unfold dayC at hc
    simp only [List.length_append] at hc ⊢
    omega
  have BY := hide (fun w h => bu_.WriteByte w0 b (l ++ dayCore (d1, d2, d3, d4, d5, d6)) 47 w h (by omega))
  have hr : -604800 < d6 ∧ d6 < 604800 := by simp only [rdOk, RdOk] at hd; omega
  have F := hide (fun w hT => hm_.Format d6 w hT hr.1 hr.2)
  obtain ⟨S, h1, z1, b1⟩ : ∃ S : ByteArray, S = mkS (hmsFmt d6) ∧ S.size ≤ 20 ∧ byt S = hmsFmt d6 := ⟨_, rfl, by rw [size_mk]; have := hmsFmt_len (x := d6) hr.1 hr.2; omega, byt_mk _⟩
  rw [← h1] at F
  have WS := hide (fun w h => bu_.WriteString w0 b (l ++ dayCore (d1, d2, d3, d4, d5, d6) ++ [47]) S w h (by rw [List.length_append]; simp only [List.length_singleton]; omega))
  rw [b1] at WS
  have H := hide (h.alloc (.cells #[.int .i64 d1, .int .i64 d2, .int .i64 d3, .int .i64 d4, .int .i64 d5, .int .i64 d6] 23))
  have R := hide (Ro.new w #[.int .i64 d1, .int .i64 d2, .int .i64 d3, .int .i64 d4, .int .i64 d5, .int .i64 d6] 23)
  have T := hide (Bt.of (b := b) (bl_new w (.cells #[.int .i64 d1, .int .i64 d2, .int .i64 d3, .int .i64 d4, .int .i64 d5, .int .i64 d6] 23)))
  have hne := hide (show w.heap.size ≠ b by have := h.lt; omega)
  have HT := hide hT
  have hx : dayC (d1, d2, d3, d4, d5, d6) = dayCore (d1, d2, d3, d4, d5, d6) ++ (if d6 = 7200 then [] else 47 :: hmsFmt d6) := rfl
  clear h h1 b1 hd hl z1 hT hc hcl hr
  rw [hx]
  clear hx
  generalize hmsFmt d6 = fm at *
  generalize dayCore (d1, d2, d3, d4, d5, d6) = dc at *
  by_cases h72 : d6 = 7200
  · subst h72
    rw [if_pos rfl, List.append_nil]
    go_enter Tryz.func22, Tryz.ntmps22
    go_upto_region 1 with fail
    generalize w.alloc (.cells #[.int .i64 d1, .int .i64 d2, .int .i64 d3, .int .i64 d4, .int .i64 d5, .int .i64 7200] 23) = v0 at *
    have x0 := (ro_cf R.out 0 _ rfl).1; have x1 := (ro_cf R.out 1 _ rfl).1; have x2 := (ro_cf R.out 2 _ rfl).1; have x3 := (ro_cf R.out 3 _ rfl).1; have x4 := (ro_cf R.out 4 _ rfl).1; have x5 := (ro_cf R.out 5 _ rfl).1
    go_wp2_with fail
    refine (DT.out _ H.out).mono ?_
    rintro e w1 ⟨rfl, h1, t1⟩
    replace R := hide (t1.row R.out hne.out (by decide))
    replace T := hide (T.out.trans t1)
    replace H := hide h1
    clear h1 t1 x0 x1 x2 x3 x4 x5
    have x5 := (ro_cf R.out 5 _ rfl).1
    go_wp2
    go_end0
    exact ⟨rfl, H.out, T.out⟩
  · rw [if_neg h72]
    have q1 : (d6 != 7200) = true := by simpa using h72
    clear h72
    go_enter Tryz.func22, Tryz.ntmps22
    go_upto_region 1 with fail
    generalize w.alloc (.cells #[.int .i64 d1, .int .i64 d2, .int .i64 d3, .int .i64 d4, .int .i64 d5, .int .i64 d6] 23) = v0 at *
    have x0 := (ro_cf R.out 0 _ rfl).1; have x1 := (ro_cf R.out 1 _ rfl).1; have x2 := (ro_cf R.out 2 _ rfl).1; have x3 := (ro_cf R.out 3 _ rfl).1; have x4 := (ro_cf R.out 4 _ rfl).1; have x5 := (ro_cf R.out 5 _ rfl).1
    go_wp2_with fail
    refine (DT.out _ H.out).mono ?_
    rintro e w1 ⟨rfl, h1, t1⟩
    replace R := hide (t1.row R.out hne.out (by decide))
    replace T := hide (T.out.trans t1)
    replace H := hide h1
    clear h1 t1 x0 x1 x2 x3 x4 x5
    have x5 := (ro_cf R.out 5 _ rfl).1
    go_wp2_with fail
    refine (BY.out _ H.out).mono ?_
    rintro e w2 ⟨rfl, h1, t1⟩
    replace R := hide (t1.row R.out hne.out (by decide))
    replace T := hide (T.out.trans t1)
    replace H := hide h1
    clear h1 t1 x5
    have x5 := (ro_cf R.out 5 _ rfl).1
    go_upto_region 4 with fail
    go_region_with (first
      | (go_at_call 44; refine (F.out _ (HT.out.below (by first | exact H.out.bel | exact H.out.drew.bel))).mono ?_; rintro e w3 ⟨rfl, h1⟩; replace h1 := hide h1)
      | (go_at_call 43; refine (WS.out _ (by first | exact H.out.below h1.out | exact H.out.drew.below h1.out | exact (H.out.below h1.out).drew)).mono ?_; rintro e w4 ⟨rfl, h2, t2⟩; replace h2 := hide h2; replace t2 := hide t2))
    all_goals
      go_wp2
      go_end0
      refine ⟨rfl, ?_, T.out.trans (by first | exact (Bt.of h1.out).trans t2.out | exact ((Bt.of h1.out).trans t2.out).undrew)⟩
      have := h2.out
      simpa using this
end tf_
end Go.Proofs.YtjeclakdgmjbjaaGreatDoor
namespace Go.Proofs.YtjeclakdgmjbjaaGreatDoor
open Go.ChangeShapes Go.WideShapes Go.ChangeAt Go.RowKit
set_option linter.unusedVariables false
set_option maxRecDepth 100000
namespace tf_
theorem len_name {l : List UInt8} (h : nameOk l = true) : (tnFmt l).length ≤ 257 := tnFmt_l h
theorem len_off {x : Int} (h : offOk x) : (hmsFmt (-x)).length ≤ 20 := by have := hmsFmt_len (x := -x) (by unfold offOk at h; omega) (by unfold offOk at h; omega); omega
set_option maxHeartbeats 4000000 in
theorem daylight (w0 : World) (hT : Tp w0) (b : Nat) (l : List UInt8) (std : ByteArray) (so : Int) (dst : ByteArray) (dof : Int) (st en : RD) (w : World) (h : Wr w0 b l w) (hl : l.length ≤ 600000) (hso : offOk so) (hnd : nameOk (byt dst) = true) (hdo : offOk dof) (hst : rdOk st) (hen : rdOk en) :
    Calls Tryz.prog 49 #[.pointer (some ⟨b, 0, none⟩), .agg #[.string std, .int .i64 so, .bool true, .string dst, .int .i64 dof, .int .i64 st.1, .int .i64 st.2.1, .int .i64 st.2.2.1, .int .i64 st.2.2.2.1, .int .i64 st.2.2.2.2.1, .int .i64 st.2.2.2.2.2, .int .i64 en.1, .int .i64 en.2.1, .int .i64 en.2.2.1, .int .i64 en.2.2.2.1, .int .i64 en.2.2.2.2.1, .int .i64 en.2.2.2.2.2]] w fun e w' => e = .returned (.tuple #[]) ∧ Wr w0 b (l ++ (tnFmt (byt dst) ++ ((if dof - so = 3600 then [] else hmsFmt (-dof)) ++ 44 :: (dayC st ++ 44 :: dayC en)))) w' ∧ Bt b w w' := by
  have n1 := len_name hnd
  have n2 := len_off hdo
  have n3 := dayC_len hst
  have n4 := dayC_len hen
  have DS := hide (fun w h => designation w0 b l dst w h (by omega) hnd)
  have OF := hide (fun w h => offset w0 hT b (l ++ tnFmt (byt dst)) dof w h (by rw [List.length_append]; omega) hdo)
  have BY : Hid (∀ (l : List UInt8) (w : World), l.length ≤ 1000000 → Wr w0 b l w → Calls Tryz.prog 42 #[.pointer (some ⟨b, 0, none⟩), .int .u8 44] w fun e w' => e = .returned .nilIface ∧ Wr w0 b (l ++ [44]) w' ∧ Bt b w w') :=
    hide (fun l w hl h => bu_.WriteByte w0 b l 44 w h hl)
  have DA : Hid (∀ (l : List UInt8) (w : World), l.length ≤ 700000 → Wr w0 b l w → Calls Tryz.prog 22 #[.pointer (some ⟨b, 0, none⟩), vday st] w fun e w' => e = .returned (.tuple #[]) ∧ Wr w0 b (l ++ dayC st) w' ∧ Bt b w w') :=
    hide (fun l w hl h => day w0 hT b l st w h hl hst)
  have DE : Hid (∀ (l : List UInt8) (w : World), l.length ≤ 700000 → Wr w0 b l w → Calls Tryz.prog 22 #[.pointer (some ⟨b, 0, none⟩), vday en] w fun e w' => e = .returned (.tuple #[]) ∧ Wr w0 b (l ++ dayC en) w' ∧ Bt b w w') :=
    hide (fun l w hl h => day w0 hT b l en w h hl hen)
  unfold vday at DA DE
  have wr : IntKind.i64.wrap (so + 3600) = so + 3600 := by unfold offOk at hso; rw [IntKind.wrap_i64]; omega
  have H := hide (h.alloc (.cells #[.string std, .int .i64 so, .bool true, .string dst, .int .i64 dof, .int .i64 st.1, .int .i64 st.2.1, .int .i64 st.2.2.1, .int .i64 st.2.2.2.1, .int .i64 st.2.2.2.2.1, .int .i64 st.2.2.2.2.2, .int .i64 en.1, .int .i64 en.2.1, .int .i64 en.2.2.1, .int .i64 en.2.2.2.1, .int .i64 en.2.2.2.2.1, .int .i64 en.2.2.2.2.2] 25))
  have R := hide (Ro.new w #[.string std, .int .i64 so, .bool true, .string dst, .int .i64 dof, .int .i64 st.1, .int .i64 st.2.1, .int .i64 st.2.2.1, .int .i64 st.2.2.2.1, .int .i64 st.2.2.2.2.1, .int .i64 st.2.2.2.2.2, .int .i64 en.1, .int .i64 en.2.1, .int .i64 en.2.2.1, .int .i64 en.2.2.2.1, .int .i64 en.2.2.2.2.1, .int .i64 en.2.2.2.2.2] 25)
  have T := hide (Bt.of (b := b) (bl_new w (.cells #[.string std, .int .i64 so, .bool true, .string dst, .int .i64 dof, .int .i64 st.1, .int .i64 st.2.1, .int .i64 st.2.2.1, .int .i64 st.2.2.2.1, .int .i64 st.2.2.2.2.1, .int .i64 st.2.2.2.2.2, .int .i64 en.1, .int .i64 en.2.1, .int .i64 en.2.2.1, .int .i64 en.2.2.2.1, .int .i64 en.2.2.2.2.1, .int .i64 en.2.2.2.2.2] 25)))
  have hne := hide (show w.heap.size ≠ b by have := h.lt; omega)
  clear h hnd hdo hst hen hso hT
  generalize tnFmt (byt dst) = f1 at *
  generalize hmsFmt (-dof) = f2 at *
  generalize dayC st = f3 at *
  generalize dayC en = f4 at *
  by_cases h36 : dof - so = 3600
  ·
    rw [if_pos h36]
    have q1 : (dof != so + 3600) = false := by simp; omega
    clear h36
    go_enter Tryz.func49, Tryz.ntmps49
    go_upto_region 1 with fail
    generalize w.alloc (.cells #[.string std, .int .i64 so, .bool true, .string dst, .int .i64 dof, .int .i64 st.1, .int .i64 st.2.1, .int .i64 st.2.2.1, .int .i64 st.2.2.2.1, .int .i64 st.2.2.2.2.1, .int .i64 st.2.2.2.2.2, .int .i64 en.1, .int .i64 en.2.1, .int .i64 en.2.2.1, .int .i64 en.2.2.2.1, .int .i64 en.2.2.2.2.1, .int .i64 en.2.2.2.2.2] 25) = v0 at *
    have x3 := (ro_cf R.out 3 _ rfl).1
    go_wp2_with fail
    refine (DS.out _ H.out).mono ?_
    rintro e w1 ⟨rfl, h1, t1⟩
    replace R := hide (t1.row R.out hne.out (by decide))
    replace T := hide (T.out.trans t1)
    replace H := hide h1
    clear h1 t1 x3
    have x1 := (ro_cf R.out 1 _ rfl).1; have x4 := (ro_cf R.out 4 _ rfl).1
    go_wp2_with fail
    refine (BY.out _ _ (by simp only [List.length_append]; omega) H.out).mono ?_
    rintro e w3 ⟨rfl, h1, t1⟩
    replace R := hide (t1.row R.out hne.out (by decide))
    replace T := hide (T.out.trans t1)
    replace H := hide h1
    clear h1 t1 x1 x4
    have x5 := (ro_cf R.out 5 _ rfl).1; have x6 := (ro_cf R.out 6 _ rfl).1; have x7 := (ro_cf R.out 7 _ rfl).1; have x8 := (ro_cf R.out 8 _ rfl).1; have x9 := (ro_cf R.out 9 _ rfl).1; have x10 := (ro_cf R.out 10 _ rfl).1
    go_wp2_with fail
    refine (DA.out _ _ (by simp only [List.length_append, List.length_singleton]; omega) H.out).mono ?_
    rintro e w4 ⟨rfl, h1, t1⟩
    replace R := hide (t1.row R.out hne.out (by decide))
    replace T := hide (T.out.trans t1)
    replace H := hide h1
    clear h1 t1 x5 x6 x7 x8 x9 x10
    go_wp2_with fail
    refine (BY.out _ _ (by simp only [List.length_append, List.length_singleton]; omega) H.out).mono ?_
    rintro e w5 ⟨rfl, h1, t1⟩
    replace R := hide (t1.row R.out hne.out (by decide))
    replace T := hide (T.out.trans t1)
    replace H := hide h1
    clear h1 t1
    have x11 := (ro_cf R.out 11 _ rfl).1; have x12 := (ro_cf R.out 12 _ rfl).1; have x13 := (ro_cf R.out 13 _ rfl).1; have x14 := (ro_cf R.out 14 _ rfl).1; have x15 := (ro_cf R.out 15 _ rfl).1; have x16 := (ro_cf R.out 16 _ rfl).1
    go_wp2_with fail
    refine (DE.out _ _ (by simp only [List.length_append, List.length_singleton]; omega) H.out).mono ?_
    rintro e w6 ⟨rfl, h1, t1⟩
    replace T := hide (T.out.trans t1)
    replace H := hide h1
    clear h1 t1 x11 x12 x13 x14 x15 x16
    go_wp2
    go_end0
    refine ⟨rfl, ?_, T.out⟩
    have := H.out
    simpa [List.append_assoc] using this
  ·
    rw [if_neg h36]
    have q1 : (dof != so + 3600) = true := by simp; omega
    clear h36
    go_enter Tryz.func49, Tryz.ntmps49
    go_upto_region 1 with fail
    generalize w.alloc (.cells #[.string std, .int .i64 so, .bool true, .string dst, .int .i64 dof, .int .i64 st.1, .int .i64 st.2.1, .int .i64 st.2.2.1, .int .i64 st.2.2.2.1, .int .i64 st.2.2.2.2.1, .int .i64 st.2.2.2.2.2, .int .i64 en.1, .int .i64 en.2.1, .int .i64 en.2.2.1, .int .i64 en.2.2.2.1, .int .i64 en.2.2.2.2.1, .int .i64 en.2.2.2.2.2] 25) = v0 at *
    have x3 := (ro_cf R.out 3 _ rfl).1
    go_wp2_with fail
    refine (DS.out _ H.out).mono ?_
    rintro e w1 ⟨rfl, h1, t1⟩
    replace R := hide (t1.row R.out hne.out (by decide))
    replace T := hide (T.out.trans t1)
    replace H := hide h1
    clear h1 t1 x3
    have x1 := (ro_cf R.out 1 _ rfl).1; have x4 := (ro_cf R.out 4 _ rfl).1
    go_wp2_with fail
    refine (OF.out _ H.out).mono ?_
    rintro e w2 ⟨rfl, h1, t1⟩
    replace R := hide (t1.row R.out hne.out (by decide))
    replace T := hide (T.out.trans t1)
    replace H := hide h1
    clear h1 t1 x1 x4
    go_wp2_with fail
    refine (BY.out _ _ (by simp only [List.length_append]; omega) H.out).mono ?_
    rintro e w3 ⟨rfl, h1, t1⟩
    replace R := hide (t1.row R.out hne.out (by decide))
    replace T := hide (T.out.trans t1)
    replace H := hide h1
    clear h1 t1
    have x5 := (ro_cf R.out 5 _ rfl).1; have x6 := (ro_cf R.out 6 _ rfl).1; have x7 := (ro_cf R.out 7 _ rfl).1; have x8 := (ro_cf R.out 8 _ rfl).1; have x9 := (ro_cf R.out 9 _ rfl).1; have x10 := (ro_cf R.out 10 _ rfl).1
    go_wp2_with fail
    refine (DA.out _ _ (by simp only [List.length_append, List.length_singleton]; omega) H.out).mono ?_
    rintro e w4 ⟨rfl, h1, t1⟩
    replace R := hide (t1.row R.out hne.out (by decide))
    replace T := hide (T.out.trans t1)
    replace H := hide h1
    clear h1 t1 x5 x6 x7 x8 x9 x10
    go_wp2_with fail
    refine (BY.out _ _ (by simp only [List.length_append, List.length_singleton]; omega) H.out).mono ?_
    rintro e w5 ⟨rfl, h1, t1⟩
    replace R := hide (t1.row R.out hne.out (by decide))
    replace T := hide (T.out.trans t1)
    replace H := hide h1
    clear h1 t1
    have x11 := (ro_cf R.out 11 _ rfl).1; have x12 := (ro_cf R.out 12 _ rfl).1; have x13 := (ro_cf R.out 13 _ rfl).1; have x14 := (ro_cf R.out 14 _ rfl).1; have x15 := (ro_cf R.out 15 _ rfl).1; have x16 := (ro_cf R.out 16 _ rfl).1
    go_wp2_with fail
    refine (DE.out _ _ (by simp only [List.length_append, List.length_singleton]; omega) H.out).mono ?_
    rintro e w6 ⟨rfl, h1, t1⟩
    replace T := hide (T.out.trans t1)
    replace H := hide h1
    clear h1 t1 x11 x12 x13 x14 x15 x16
    go_wp2
    go_end0
    refine ⟨rfl, ?_, T.out⟩
    have := H.out
    simpa [List.append_assoc] using this
set_option maxHeartbeats 4000000 in
theorem rule (w0 : World) (hT : Tp w0) (b : Nat) (std : ByteArray) (so : Int) (hd : Bool) (dst : ByteArray) (dof : Int) (st en : RD) (w : World) (h : Wr w0 b [] w) (hp : prOk (byt std, so, hd, byt dst, dof, st, en)) :
    Calls Tryz.prog 28 #[.pointer (some ⟨b, 0, none⟩), vrule std so hd dst dof st en] w fun e w' => e = .returned (.tuple #[]) ∧ Wr w0 b (ruleF (byt std, so, hd, byt dst, dof, st, en)) w' ∧ Bt b w w' := by
  obtain ⟨hn, hso, hr⟩ := hp
  simp only at hn hso hr
  have n1 := len_name hn
  have n2 := len_off hso
  have DS := hide (fun w h => designation w0 b [] std w h (by simp) hn)
  have OF := hide (fun w h => offset w0 hT b (tnFmt (byt std)) so w h (by omega) hso)
  rw [List.nil_append] at DS
  have G := gr_rule std so hd dst dof st en
  unfold crule at G
  unfold vrule ruleF
  have H := hide (h.alloc (.cells #[.string std, .int .i64 so, .bool hd, .string dst, .int .i64 dof, .int .i64 st.1, .int .i64 st.2.1, .int .i64 st.2.2.1, .int .i64 st.2.2.2.1, .int .i64 st.2.2.2.2.1, .int .i64 st.2.2.2.2.2, .int .i64 en.1, .int .i64 en.2.1, .int .i64 en.2.2.1, .int .i64 en.2.2.2.1, .int .i64 en.2.2.2.2.1, .int .i64 en.2.2.2.2.2] 25))
  have R := hide (Ro.new w #[.string std, .int .i64 so, .bool hd, .string dst, .int .i64 dof, .int .i64 st.1, .int .i64 st.2.1, .int .i64 st.2.2.1, .int .i64 st.2.2.2.1, .int .i64 st.2.2.2.2.1, .int .i64 st.2.2.2.2.2, .int .i64 en.1, .int .i64 en.2.1, .int .i64 en.2.2.1, .int .i64 en.2.2.2.1, .int .i64 en.2.2.2.2.1, .int .i64 en.2.2.2.2.2] 25)
  have T := hide (Bt.of (b := b) (bl_new w (.cells #[.string std, .int .i64 so, .bool hd, .string dst, .int .i64 dof, .int .i64 st.1, .int .i64 st.2.1, .int .i64 st.2.2.1, .int .i64 st.2.2.2.1, .int .i64 st.2.2.2.2.1, .int .i64 st.2.2.2.2.2, .int .i64 en.1, .int .i64 en.2.1, .int .i64 en.2.2.1, .int .i64 en.2.2.2.1, .int .i64 en.2.2.2.2.1, .int .i64 en.2.2.2.2.2] 25)))
  have hne := hide (show w.heap.size ≠ b by have := h.lt; omega)
  cases hd
  · simp only [Bool.false_eq_true, if_false, List.append_nil]
    clear h hn hso hr hT G
    generalize tnFmt (byt std) = f1 at *
    generalize hmsFmt (-so) = f2 at *
    go_enter Tryz.func28, Tryz.ntmps28
    go_upto_region 1 with fail
    generalize w.alloc (.cells #[.string std, .int .i64 so, .bool false, .string dst, .int .i64 dof, .int .i64 st.1, .int .i64 st.2.1, .int .i64 st.2.2.1, .int .i64 st.2.2.2.1, .int .i64 st.2.2.2.2.1, .int .i64 st.2.2.2.2.2, .int .i64 en.1, .int .i64 en.2.1, .int .i64 en.2.2.1, .int .i64 en.2.2.2.1, .int .i64 en.2.2.2.2.1, .int .i64 en.2.2.2.2.2] 25) = v0 at *
    have x0 := (ro_cf R.out 0 _ rfl).1
    go_wp2_with fail
    refine (DS.out _ H.out).mono ?_
    rintro e w1 ⟨rfl, h1, t1⟩
    replace R := hide (t1.row R.out hne.out (by decide))
    replace T := hide (T.out.trans t1)
    replace H := hide h1
    clear h1 t1 x0
    have x1 := (ro_cf R.out 1 _ rfl).1
    go_wp2_with fail
    refine (OF.out _ H.out).mono ?_
    rintro e w2 ⟨rfl, h1, t1⟩
    replace R := hide (t1.row R.out hne.out (by decide))
    replace T := hide (T.out.trans t1)
    replace H := hide h1
    clear h1 t1 x1
    have x2 := (ro_cf R.out 2 _ rfl).1
    go_wp2
    go_end0
    exact ⟨rfl, H.out, T.out⟩
  · simp only [if_true] at hr ⊢
    obtain ⟨hnd, hdo, hst, hen⟩ := hr
    have DL := hide (fun w h => daylight w0 hT b (tnFmt (byt std) ++ hmsFmt (-so)) std so dst dof st en w h (by rw [List.length_append]; omega) hso hnd hdo hst hen)
    clear h hn hso hT hnd hdo hst hen
    generalize tnFmt (byt dst) ++ ((if dof - so = 3600 then [] else hmsFmt (-dof)) ++ 44 :: (dayC st ++ 44 :: dayC en)) = tail at *
    generalize tnFmt (byt std) = f1 at *
    generalize hmsFmt (-so) = f2 at *
    go_enter Tryz.func28, Tryz.ntmps28
    go_upto_region 1 with fail
    generalize w.alloc (.cells #[.string std, .int .i64 so, .bool true, .string dst, .int .i64 dof, .int .i64 st.1, .int .i64 st.2.1, .int .i64 st.2.2.1, .int .i64 st.2.2.2.1, .int .i64 st.2.2.2.2.1, .int .i64 st.2.2.2.2.2, .int .i64 en.1, .int .i64 en.2.1, .int .i64 en.2.2.1, .int .i64 en.2.2.2.1, .int .i64 en.2.2.2.2.1, .int .i64 en.2.2.2.2.2] 25) = v0 at *
    have x0 := (ro_cf R.out 0 _ rfl).1
    go_wp2_with fail
    refine (DS.out _ H.out).mono ?_
    rintro e w1 ⟨rfl, h1, t1⟩
    replace R := hide (t1.row R.out hne.out (by decide))
    replace T := hide (T.out.trans t1)
    replace H := hide h1
    clear h1 t1 x0
    have x1 := (ro_cf R.out 1 _ rfl).1
    go_wp2_with fail
    refine (OF.out _ H.out).mono ?_
    rintro e w2 ⟨rfl, h1, t1⟩
    replace R := hide (t1.row R.out hne.out (by decide))
    replace T := hide (T.out.trans t1)
    replace H := hide h1
    clear h1 t1 x1
    have x2 := (ro_cf R.out 2 _ rfl).1
    go_upto_region 4 with fail
    clear x2
    go_wp2_with (refine load_row_g (by rfl) 25 _ rfl _ rfl _ _ _ R.out Tryz.underlying25 rfl G.1 ?_)
    refine (DL.out _ H.out).mono ?_
    rintro e w3 ⟨rfl, h1, t1⟩
    replace T := hide (T.out.trans t1)
    replace H := hide h1
    clear h1 t1
    go_wp2
    go_end0
    refine ⟨rfl, ?_, T.out⟩
    have := H.out
    simpa [List.append_assoc] using this
end tf_
end Go.Proofs.YtjeclakdgmjbjaaGreatDoor
namespace Go.Proofs.YtjeclakdgmjbjaaGreatDoor
open Go.ChangeShapes Go.WideShapes Go.ChangeAt Go.RowKit
set_option linter.unusedVariables false
set_option maxRecDepth 100000
namespace tf_
theorem ne_of_len {l : List UInt8} (h : 1 ≤ l.length) : l ≠ [] := by intro e; subst e; simp at h
theorem dayC_ne {d : RD} (hd : rdOk d) : dayC d ≠ [] := by
  have : dayCore d ≠ [] := by
    obtain ⟨d1, d2, d3, d4, d5, d6⟩ := d
    simp only [rdOk, RdOk] at hd
    unfold dayCore
    rcases (show d1 = 1 ∨ d1 = 2 ∨ d1 = 3 by omega) with rfl | rfl | rfl
    · simp
    · simp only
      exact ne_of_len (decF_is (by omega) (by omega)).2.2.1
    · simp
  unfold dayC
  simp [this]
theorem ruleF_ne {r : PR} (h : prOk r) : ruleF r ≠ [] := by
  unfold ruleF
  have := tnFmt_len1 h.1
  intro e
  rw [List.append_eq_nil_iff] at e
  rw [e.1] at this
  simp at this
theorem Day (d : RD) (w : World) (hT : Tp w) (hd : rdOk d) : Calls Tryz.prog 12 #[vday d] w fun e w' => e = .returned (.string (mkS (dayC d))) ∧ Below w.heap.size w w' := by
  have hB := bl_new w (.cells #[.int .i64 d.1, .int .i64 d.2.1, .int .i64 d.2.2.1, .int .i64 d.2.2.2.1, .int .i64 d.2.2.2.2.1, .int .i64 d.2.2.2.2.2] 23)
  have R := hide (Ro.new w #[.int .i64 d.1, .int .i64 d.2.1, .int .i64 d.2.2.1, .int .i64 d.2.2.2.1, .int .i64 d.2.2.2.2.1, .int .i64 d.2.2.2.2.2] 23)
  have H := hide (Wr.new w _ hB)
  have DY := hide (fun b w1 h => day w hT b [] d w1 h (by simp) hd)
  have ST := hide (fun b w1 h => bu_.String_ w b (dayC d) w1 h (dayC_ne hd))
  rw [List.nil_append] at DY
  unfold vday at DY ⊢
  clear hB hT hd
  generalize dayC d = dc at *
  go_enter Tryz.func12, Tryz.ntmps12
  go_upto_region 1 with fail
  generalize w.alloc (.cells #[.int .i64 d.1, .int .i64 d.2.1, .int .i64 d.2.2.1, .int .i64 d.2.2.2.1, .int .i64 d.2.2.2.2.1, .int .i64 d.2.2.2.2.2] 23) = v0 at *
  replace R := hide (R.out.alloc (.cells #[.pointer none, .slice none 0 0] 51))
  go_upto_region 2 with fail
  generalize v0.alloc (.cells #[.pointer none, .slice none 0 0] 51) = v1 at *
  have x0 := (ro_cf R.out 0 _ rfl).1; have x1 := (ro_cf R.out 1 _ rfl).1; have x2 := (ro_cf R.out 2 _ rfl).1; have x3 := (ro_cf R.out 3 _ rfl).1; have x4 := (ro_cf R.out 4 _ rfl).1; have x5 := (ro_cf R.out 5 _ rfl).1
  go_wp2_with fail
  refine (DY.out _ _ H.out).mono ?_
  rintro e w1 ⟨rfl, h1, t1⟩
  replace H := hide h1
  clear h1 t1 x0 x1 x2 x3 x4 x5 R
  go_wp2_with fail
  refine (ST.out _ _ H.out).mono ?_
  rintro e w2 ⟨rfl, h1⟩
  go_wp2
  go_ret
  exact ⟨rfl, h1⟩
theorem Format (std : ByteArray) (so : Int) (hd : Bool) (dst : ByteArray) (dof : Int) (st en : RD) (w : World) (hT : Tp w) (hp : prOk (byt std, so, hd, byt dst, dof, st, en)) :
    Calls Tryz.prog 15 #[vrule std so hd dst dof st en] w fun e w' => e = .returned (.string (mkS (ruleF (byt std, so, hd, byt dst, dof, st, en)))) ∧ Below w.heap.size w w' := by
  have G := gr_rule std so hd dst dof st en
  have RU := hide (fun b w1 h => rule w hT b std so hd dst dof st en w1 h hp)
  have ST := hide (fun b w1 h => bu_.String_ w b (ruleF (byt std, so, hd, byt dst, dof, st, en)) w1 h (ruleF_ne hp))
  rw [vrule_c] at RU ⊢
  generalize crule std so hd dst dof st en = cs at *
  generalize ruleF (byt std, so, hd, byt dst, dof, st, en) = rf at *
  have hB := bl_new w (.cells cs 25)
  have R := hide (Ro.new w cs 25)
  have H := hide (Wr.new w _ hB)
  clear hB hT hp
  go_enter Tryz.func15, Tryz.ntmps15
  go_upto_region 1 with fail
  generalize w.alloc (.cells cs 25) = v0 at *
  replace R := hide (R.out.alloc (.cells #[.pointer none, .slice none 0 0] 51))
  go_upto_region 2 with fail
  generalize v0.alloc (.cells #[.pointer none, .slice none 0 0] 51) = v1 at *
  go_wp2_with (refine load_row_g (by rfl) 25 _ rfl _ rfl _ _ _ R.out Tryz.underlying25 rfl G.1 ?_)
  refine (RU.out _ _ H.out).mono ?_
  rintro e w1 ⟨rfl, h1, t1⟩
  replace H := hide h1
  clear h1 t1 R
  go_wp2_with fail
  refine (ST.out _ _ H.out).mono ?_
  rintro e w2 ⟨rfl, h1⟩
  go_wp2
  go_ret
  exact ⟨rfl, h1⟩
set_option maxHeartbeats 4000000 in
theorem Canonical (s : ByteArray) (w : World) (hT : Tp w) (hs : s.size ≤ 1000000) : Calls Tryz.prog 9 #[.string s] w fun e w' => e = .returned (canR (ptParse (byt s))) ∧ Below w.heap.size w w' := by
  have P := hide (fun w => po_.Parse s w hs)
  have HT := hide hT
  clear hT
  rcases hr : ptParse (byt s) with a | r
  · rw [hr] at P
    simp only [ptRes, vrule_c] at P
    have G := gr_rule ⟨#[]⟩ 0 false ⟨#[]⟩ 0 rd0 rd0
    generalize crule ⟨#[]⟩ 0 false ⟨#[]⟩ 0 rd0 rd0 = cs at *
    clear hr
    go_enter Tryz.func9, Tryz.ntmps9
    go_wp2_with fail
    refine (P.out _).mono ?_
    rintro e w1 ⟨rfl, h1⟩
    have hb := hide (bl_alloc h1 (.cells cs 25))
    clear h1
    go_wp2_with (first | (refine wpList_store_row rfl 25 _ _ rfl _ _ rfl rfl _ _ (heap_alloc_last _ _) G.1 (by rw [G.2.1]; rfl) G.2.2 ?_; rw [World.setRow_alloc_new]))
    go_ret2
    exact ⟨rfl, hb.out⟩
  · have hok := ptParse_ok hr
    rw [hr] at P
    have F := hide (fun w hT => Format (mkS r.1) r.2.1 r.2.2.1 (mkS r.2.2.2.1) r.2.2.2.2.1 r.2.2.2.2.2.1 r.2.2.2.2.2.2 w hT (by rw [byt_mk, byt_mk]; exact hok))
    rw [byt_mk, byt_mk] at F
    simp only [ptRes, vrule_c] at P F
    have G := gr_rule (mkS r.1) r.2.1 r.2.2.1 (mkS r.2.2.2.1) r.2.2.2.2.1 r.2.2.2.2.2.1 r.2.2.2.2.2.2
    generalize crule (mkS r.1) r.2.1 r.2.2.1 (mkS r.2.2.2.1) r.2.2.2.2.1 r.2.2.2.2.2.1 r.2.2.2.2.2.2 = cs at *
    clear hr hok
    obtain ⟨S, hS⟩ : ∃ S, S = mkS (ruleF r) := ⟨_, rfl⟩
    rw [show canR (.ok r) = .tuple #[.string S, .bool true] by rw [hS]; rfl]
    rw [show mkS (ruleF (r.1, r.2.1, r.2.2.1, r.2.2.2.1, r.2.2.2.2.1, r.2.2.2.2.2.1, r.2.2.2.2.2.2)) = S from hS.symm] at F
    clear hS
    go_enter Tryz.func9, Tryz.ntmps9
    go_wp2_with fail
    refine (P.out _).mono ?_
    rintro e w1 ⟨rfl, h1⟩
    have hb := hide (bl_alloc h1 (.cells cs 25))
    have b1 := hide (Ro.new w1 cs 25)
    clear h1
    go_wp2_with (first | (refine wpList_store_row rfl 25 _ _ rfl _ _ rfl rfl _ _ (heap_alloc_last _ _) G.1 (by rw [G.2.1]; rfl) G.2.2 ?_; rw [World.setRow_alloc_new]) | (refine load_row_g (by rfl) 25 _ rfl _ rfl _ _ _ b1.out Tryz.underlying25 rfl G.1 ?_))
    refine (F.out _ (HT.out.below hb.out)).mono ?_
    rintro e w2 ⟨rfl, h1⟩
    replace hb := hide (bel_next hb.out h1)
    clear h1 b1
    go_wp2
    go_ret2
    exact ⟨rfl, hb.out⟩
theorem beyondDay (x : Int) (w : World) : Calls Tryz.prog 30 #[.int .i64 x] w fun e w' => e = .returned (.bool (decide (x < 0 ∨ 86400 < x))) ∧ w = w' := by
  rcases (show x < 0 ∨ (0 ≤ x ∧ 86400 < x) ∨ (0 ≤ x ∧ x ≤ 86400) by omega) with a | ⟨a, b⟩ | ⟨a, b⟩
  all_goals
    go_enter Tryz.func30, Tryz.ntmps30
    go_wp2
    go_ret
    exact ⟨retb (by rw [Bool.eq_iff_iff]; simp; try omega), rfl⟩
theorem Extended (std : ByteArray) (so : Int) (hd : Bool) (dst : ByteArray) (dof : Int) (st en : RD) (w : World) (hp : prOk (byt std, so, hd, byt dst, dof, st, en)) :
    Calls Tryz.prog 17 #[vrule std so hd dst dof st en] w fun e w' => e = .returned (.bool (hd && (lateD st || lateD en))) ∧ Below w.heap.size w w' := by
  have hv : (hd && (lateD st || lateD en)) = (lateD st || lateD en) := by
    obtain ⟨_, _, hr⟩ := hp
    simp only at hr
    cases hd
    · simp only [Bool.false_eq_true, if_false] at hr
      obtain ⟨_, _, rfl, rfl⟩ := hr
      rfl
    · rfl
  rw [hv]
  clear hv hp
  have LS := hide (fun w => beyondDay st.2.2.2.2.2 w)
  have LE := hide (fun w => beyondDay en.2.2.2.2.2 w)
  unfold vrule
  obtain ⟨a, ha⟩ : ∃ a, lateD st = a := ⟨_, rfl⟩
  obtain ⟨b, hbb⟩ : ∃ b, lateD en = b := ⟨_, rfl⟩
  rw [ha, hbb]
  unfold lateD at ha hbb
  rw [ha] at LS
  rw [hbb] at LE
  clear ha hbb
  have R := hide (Ro.new w #[.string std, .int .i64 so, .bool hd, .string dst, .int .i64 dof, .int .i64 st.1, .int .i64 st.2.1, .int .i64 st.2.2.1, .int .i64 st.2.2.2.1, .int .i64 st.2.2.2.2.1, .int .i64 st.2.2.2.2.2, .int .i64 en.1, .int .i64 en.2.1, .int .i64 en.2.2.1, .int .i64 en.2.2.2.1, .int .i64 en.2.2.2.2.1, .int .i64 en.2.2.2.2.2] 25)
  have hB := hide (bl_new w (.cells #[.string std, .int .i64 so, .bool hd, .string dst, .int .i64 dof, .int .i64 st.1, .int .i64 st.2.1, .int .i64 st.2.2.1, .int .i64 st.2.2.2.1, .int .i64 st.2.2.2.2.1, .int .i64 st.2.2.2.2.2, .int .i64 en.1, .int .i64 en.2.1, .int .i64 en.2.2.1, .int .i64 en.2.2.2.1, .int .i64 en.2.2.2.2.1, .int .i64 en.2.2.2.2.2] 25))
  cases a
  · go_enter Tryz.func17, Tryz.ntmps17
    go_upto_region 1 with fail
    generalize w.alloc (.cells #[.string std, .int .i64 so, .bool hd, .string dst, .int .i64 dof, .int .i64 st.1, .int .i64 st.2.1, .int .i64 st.2.2.1, .int .i64 st.2.2.2.1, .int .i64 st.2.2.2.2.1, .int .i64 st.2.2.2.2.2, .int .i64 en.1, .int .i64 en.2.1, .int .i64 en.2.2.1, .int .i64 en.2.2.2.1, .int .i64 en.2.2.2.2.1, .int .i64 en.2.2.2.2.2] 25) = v0 at *
    have x10 := (ro_cf R.out 10 _ rfl).1
    have x16 := (ro_cf R.out 16 _ rfl).1
    go_wp2_with fail
    refine (LS.out _).mono ?_
    rintro e w1 ⟨rfl, rfl⟩
    go_wp2_with fail
    refine (LE.out _).mono ?_
    rintro e w1 ⟨rfl, rfl⟩
    go_wp2
    go_ret
    exact ⟨rfl, hB.out⟩
  · go_enter Tryz.func17, Tryz.ntmps17
    go_upto_region 1 with fail
    generalize w.alloc (.cells #[.string std, .int .i64 so, .bool hd, .string dst, .int .i64 dof, .int .i64 st.1, .int .i64 st.2.1, .int .i64 st.2.2.1, .int .i64 st.2.2.2.1, .int .i64 st.2.2.2.2.1, .int .i64 st.2.2.2.2.2, .int .i64 en.1, .int .i64 en.2.1, .int .i64 en.2.2.1, .int .i64 en.2.2.2.1, .int .i64 en.2.2.2.2.1, .int .i64 en.2.2.2.2.2] 25) = v0 at *
    have x10 := (ro_cf R.out 10 _ rfl).1
    have x16 := (ro_cf R.out 16 _ rfl).1
    go_wp2_with fail
    refine (LS.out _).mono ?_
    rintro e w1 ⟨rfl, rfl⟩
    go_wp2
    go_ret
    exact ⟨rfl, hB.out⟩
end tf_
end Go.Proofs.YtjeclakdgmjbjaaGreatDoor

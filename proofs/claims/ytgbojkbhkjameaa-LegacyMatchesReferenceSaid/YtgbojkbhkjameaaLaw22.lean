/-
  THE WALKS OF THE LAWS OF LAYER 22 (zoneinfolaw22): awake and valid. Conditions: valid: none.
-/
import Derived.Test.YtgbojkbhkjameaaLgC
import Derived.Test.YtgbojkbhkjameaaLgB
import Derived.Deep.RegionHeld3
import Derived.Deep.DeepCutAuto
namespace Go.Proofs.Ytgbojkbhkjameaa
open Go.ChangeShapes Go.WideShapes Go.ChangeAt Go.RowKit
set_option linter.unusedVariables false
set_option linter.unusedSimpArgs false
set_option maxRecDepth 100000
def exB : Bk := ⟨[-1099511627776, 5, 1099511627776], [1, 0, 1], [(1, false, 0), (2, false, 0)], [0], [], [], []⟩
def exV : Bk := ⟨[5], [1], [(2, false, 0), (1, false, 0)], [0], [], [], []⟩
theorem exB_ok : exB.ok := ⟨by simp [exB], bytes_of_mem (by decide), by simp [exB, ttOk], bytes_of_mem (by decide), by simp [exB]⟩
theorem exB_v : BOk exB true 8 := (vB_iff _ _ _).1 (by decide)
theorem exB_view : viewB exB = exV := (beqB_iff _ _).1 (by decide)
theorem ex4 : inE exB 4 = 1 := by decide
theorem ex5 : inE exB 5 = 0 := by decide
theorem exm : inE exB (-9223372036854775808) = 0 := by decide
theorem exS : beqB exB slB = false := by decide
theorem slS : beqB slB slB = true := beqB_self _
theorem nil_slk : (Sl.mk none 0 0).ok := ⟨fun _ => ⟨rfl, rfl⟩, Nat.le_refl _, by decide⟩
theorem lit_slk (g n : Nat) (h : n ≤ 9223372036854775807) : (Sl.mk (some ⟨g, 0, none⟩) n n).ok := ⟨fun h => (by cases h), Nat.le_refl _, h⟩
theorem few_small {w : World} {S : BkS} {b : Bk} (h : IsBk w S b) (hf : fewB b = true) : S.small := by
  obtain ⟨l0, l1, l2, l3, l4, l5, l6⟩ := h.lens
  unfold fewB at hf
  simp only [Bool.and_eq_true, decide_eq_true_eq] at hf
  obtain ⟨⟨⟨⟨⟨⟨a0, a1⟩, a2⟩, a3⟩, a4⟩, a5⟩, a6⟩ := hf
  exact ⟨by omega, by omega, by omega, by omega, by omega, by omega, by omega⟩
theorem small_of {w : World} {S : BkS} {b : Bk} (h : IsBk w S b) (h0 : b.ti.length ≤ 100 ∧ b.ix.length ≤ 100 ∧ b.ty.length ≤ 100 ∧ b.ch.length ≤ 100 ∧ b.lp.length ≤ 100 ∧ b.sd.length ≤ 100 ∧ b.ut.length ≤ 100) : S.small := by
  obtain ⟨l0, l1, l2, l3, l4, l5, l6⟩ := h.lens
  exact ⟨by omega, by omega, by omega, by omega, by omega, by omega, by omega⟩
theorem exMk (w : World) : ∃ S : BkS, Ro (((((w.alloc (.cells #[.int .i64 (-1099511627776), .int .i64 5, .int .i64 1099511627776] 2)).alloc (.cells #[.int .u8 1, .int .u8 0, .int .u8 1] 5)).alloc (.cells #[.int .i32 1, .bool false, .int .u8 0, .int .i32 2, .bool false, .int .u8 0] 38)).alloc (.cells #[.int .u8 0] 5)).alloc (.cells #[.slice (some ⟨w.heap.size, 0, none⟩) 3 3, .slice (some ⟨w.heap.size + 1, 0, none⟩) 3 3, .slice (some ⟨w.heap.size + 1 + 1, 0, none⟩) 2 2, .slice (some ⟨w.heap.size + 1 + 1 + 1, 0, none⟩) 1 1, .slice none 0 0, .slice none 0 0, .slice none 0 0] 28)) (w.heap.size + 1 + 1 + 1 + 1) (blA S) 28 ∧ IsBk (((((w.alloc (.cells #[.int .i64 (-1099511627776), .int .i64 5, .int .i64 1099511627776] 2)).alloc (.cells #[.int .u8 1, .int .u8 0, .int .u8 1] 5)).alloc (.cells #[.int .i32 1, .bool false, .int .u8 0, .int .i32 2, .bool false, .int .u8 0] 38)).alloc (.cells #[.int .u8 0] 5)).alloc (.cells #[.slice (some ⟨w.heap.size, 0, none⟩) 3 3, .slice (some ⟨w.heap.size + 1, 0, none⟩) 3 3, .slice (some ⟨w.heap.size + 1 + 1, 0, none⟩) 2 2, .slice (some ⟨w.heap.size + 1 + 1 + 1, 0, none⟩) 1 1, .slice none 0 0, .slice none 0 0, .slice none 0 0] 28)) S exB ∧ S.small ∧ blA S = #[.slice (some ⟨w.heap.size, 0, none⟩) 3 3, .slice (some ⟨w.heap.size + 1, 0, none⟩) 3 3, .slice (some ⟨w.heap.size + 1 + 1, 0, none⟩) 2 2, .slice (some ⟨w.heap.size + 1 + 1 + 1, 0, none⟩) 1 1, .slice none 0 0, .slice none 0 0, .slice none 0 0] := by
  have h1 := Rd.ints w 2 .i64 ([-1099511627776, 5, 1099511627776] : List Int) 3 rfl rfl
  have h2 := Rd.ints (w.alloc (.cells #[.int .i64 (-1099511627776), .int .i64 5, .int .i64 1099511627776] 2)) 5 .u8 ([1, 0, 1] : List Int) 3 rfl rfl
  have h3 := (Ok.lit 3 ((w.alloc (.cells #[.int .i64 (-1099511627776), .int .i64 5, .int .i64 1099511627776] 2)).alloc (.cells #[.int .u8 1, .int .u8 0, .int .u8 1] 5)) 38 (tcs ([(1, false, 0), (2, false, 0)] : List TT)) 2 rfl (by simp [maxLen])).rd
  have h4 := Rd.ints (((w.alloc (.cells #[.int .i64 (-1099511627776), .int .i64 5, .int .i64 1099511627776] 2)).alloc (.cells #[.int .u8 1, .int .u8 0, .int .u8 1] 5)).alloc (.cells #[.int .i32 1, .bool false, .int .u8 0, .int .i32 2, .bool false, .int .u8 0] 38)) 5 .u8 ([0] : List Int) 1 rfl rfl
  have hi : IsBk (((((w.alloc (.cells #[.int .i64 (-1099511627776), .int .i64 5, .int .i64 1099511627776] 2)).alloc (.cells #[.int .u8 1, .int .u8 0, .int .u8 1] 5)).alloc (.cells #[.int .i32 1, .bool false, .int .u8 0, .int .i32 2, .bool false, .int .u8 0] 38)).alloc (.cells #[.int .u8 0] 5)).alloc (.cells #[.slice (some ⟨w.heap.size, 0, none⟩) 3 3, .slice (some ⟨w.heap.size + 1, 0, none⟩) 3 3, .slice (some ⟨w.heap.size + 1 + 1, 0, none⟩) 2 2, .slice (some ⟨w.heap.size + 1 + 1 + 1, 0, none⟩) 1 1, .slice none 0 0, .slice none 0 0, .slice none 0 0] 28)) ⟨⟨(some ⟨w.heap.size, 0, none⟩), 3, 3⟩, ⟨(some ⟨w.heap.size + 1, 0, none⟩), 3, 3⟩, ⟨(some ⟨w.heap.size + 1 + 1, 0, none⟩), 2, 2⟩, ⟨(some ⟨w.heap.size + 1 + 1 + 1, 0, none⟩), 1, 1⟩, ⟨none, 0, 0⟩, ⟨none, 0, 0⟩, ⟨none, 0, 0⟩⟩ exB := by
    refine ⟨lit_slk _ _ (by decide), lit_slk _ _ (by decide), lit_slk _ _ (by decide), lit_slk _ _ (by decide), nil_slk, nil_slk, nil_slk, ?_, ?_, ?_, ?_, Rk.none_ 2 _, Rd.none_ _, Rd.none_ _, exB_ok⟩
    · exact (((h1.alloc (.cells #[.int .u8 1, .int .u8 0, .int .u8 1] 5)).alloc (.cells #[.int .i32 1, .bool false, .int .u8 0, .int .i32 2, .bool false, .int .u8 0] 38)).alloc (.cells #[.int .u8 0] 5)).alloc (.cells #[.slice (some ⟨w.heap.size, 0, none⟩) 3 3, .slice (some ⟨w.heap.size + 1, 0, none⟩) 3 3, .slice (some ⟨w.heap.size + 1 + 1, 0, none⟩) 2 2, .slice (some ⟨w.heap.size + 1 + 1 + 1, 0, none⟩) 1 1, .slice none 0 0, .slice none 0 0, .slice none 0 0] 28)
    · have := ((h2.alloc (.cells #[.int .i32 1, .bool false, .int .u8 0, .int .i32 2, .bool false, .int .u8 0] 38)).alloc (.cells #[.int .u8 0] 5)).alloc (.cells #[.slice (some ⟨w.heap.size, 0, none⟩) 3 3, .slice (some ⟨w.heap.size + 1, 0, none⟩) 3 3, .slice (some ⟨w.heap.size + 1 + 1, 0, none⟩) 2 2, .slice (some ⟨w.heap.size + 1 + 1 + 1, 0, none⟩) 1 1, .slice none 0 0, .slice none 0 0, .slice none 0 0] 28)
      simp only [World.size_alloc] at this; exact this
    · have := (h3.alloc (.cells #[.int .u8 0] 5)).alloc (.cells #[.slice (some ⟨w.heap.size, 0, none⟩) 3 3, .slice (some ⟨w.heap.size + 1, 0, none⟩) 3 3, .slice (some ⟨w.heap.size + 1 + 1, 0, none⟩) 2 2, .slice (some ⟨w.heap.size + 1 + 1 + 1, 0, none⟩) 1 1, .slice none 0 0, .slice none 0 0, .slice none 0 0] 28)
      simp only [World.size_alloc] at this; exact this
    · have := h4.alloc (.cells #[.slice (some ⟨w.heap.size, 0, none⟩) 3 3, .slice (some ⟨w.heap.size + 1, 0, none⟩) 3 3, .slice (some ⟨w.heap.size + 1 + 1, 0, none⟩) 2 2, .slice (some ⟨w.heap.size + 1 + 1 + 1, 0, none⟩) 1 1, .slice none 0 0, .slice none 0 0, .slice none 0 0] 28)
      simp only [World.size_alloc] at this; exact this
  refine ⟨⟨⟨(some ⟨w.heap.size, 0, none⟩), 3, 3⟩, ⟨(some ⟨w.heap.size + 1, 0, none⟩), 3, 3⟩, ⟨(some ⟨w.heap.size + 1 + 1, 0, none⟩), 2, 2⟩, ⟨(some ⟨w.heap.size + 1 + 1 + 1, 0, none⟩), 1, 1⟩, ⟨none, 0, 0⟩, ⟨none, 0, 0⟩, ⟨none, 0, 0⟩⟩, ?_, hi, small_of hi (by decide), rfl⟩
  have := Ro.new ((((w.alloc (.cells #[.int .i64 (-1099511627776), .int .i64 5, .int .i64 1099511627776] 2)).alloc (.cells #[.int .u8 1, .int .u8 0, .int .u8 1] 5)).alloc (.cells #[.int .i32 1, .bool false, .int .u8 0, .int .i32 2, .bool false, .int .u8 0] 38)).alloc (.cells #[.int .u8 0] 5)) #[.slice (some ⟨w.heap.size, 0, none⟩) 3 3, .slice (some ⟨w.heap.size + 1, 0, none⟩) 3 3, .slice (some ⟨w.heap.size + 1 + 1, 0, none⟩) 2 2, .slice (some ⟨w.heap.size + 1 + 1 + 1, 0, none⟩) 1 1, .slice none 0 0, .slice none 0 0, .slice none 0 0] 28
  simp only [World.size_alloc] at this; exact this
namespace l22_
set_option maxHeartbeats 4000000 in
theorem awake (w : World) : Calls Try.prog 8 #[] w fun e w' => e = .returned (.bool true) ∧ Below w.heap.size w w' := by
  obtain ⟨S, k1, i1, s1, eS⟩ := exMk w
  have hb := hide (bl_alloc (bl_alloc (bl_alloc (bl_alloc (bl_new w (.cells #[.int .i64 (-1099511627776), .int .i64 5, .int .i64 1099511627776] 2)) (.cells #[.int .u8 1, .int .u8 0, .int .u8 1] 5)) (.cells #[.int .i32 1, .bool false, .int .u8 0, .int .i32 2, .bool false, .int .u8 0] 38)) (.cells #[.int .u8 0] 5)) (.cells #[.slice (some ⟨w.heap.size, 0, none⟩) 3 3, .slice (some ⟨w.heap.size + 1, 0, none⟩) 3 3, .slice (some ⟨w.heap.size + 1 + 1, 0, none⟩) 2 2, .slice (some ⟨w.heap.size + 1 + 1 + 1, 0, none⟩) 1 1, .slice none 0 0, .slice none 0 0, .slice none 0 0] 28))
  have CV := hide (fun W (i : IsBk W S exB) => (show Calls Try.prog 17 #[.agg (blA S)] W fun e w' => ∃ V, e = .returned (bkV V) ∧ OwBk w' W.heap.size V exV ∧ Below W.heap.size W w' from by rw [← exB_view]; exact lg_.View S exB true W i s1 exB_v))
  have C4 := hide (fun W (i : IsBk W S exB) => (show Calls Try.prog 14 #[.agg (blA S), .int .i64 4] W fun e w' => e = .returned (.int .i64 1) ∧ Below W.heap.size W w' from by rw [← ex4]; exact lg_.InEffect S exB true 8 4 W i s1 exB_v))
  have C5 := hide (fun W (i : IsBk W S exB) => (show Calls Try.prog 14 #[.agg (blA S), .int .i64 5] W fun e w' => e = .returned (.int .i64 0) ∧ Below W.heap.size W w' from by rw [← ex5]; exact lg_.InEffect S exB true 8 5 W i s1 exB_v))
  have Cm := hide (fun W (i : IsBk W S exB) => (show Calls Try.prog 14 #[.agg (blA S), .int .i64 (-9223372036854775808)] W fun e w' => e = .returned (.int .i64 0) ∧ Below W.heap.size W w' from by rw [← exm]; exact lg_.InEffect S exB true 8 (-9223372036854775808) W i s1 exB_v))
  have CS := hide (fun W (i : IsBk W S exB) => (show Calls Try.prog 10 #[.agg (blA S)] W fun e w' => e = .returned (.bool false) ∧ Below W.heap.size W w' from by rw [← exS]; exact lg_.IsSlim S exB W i s1))
  have CL := hide (fun W => lg_.Slim W)
  have G1 := gr_blk S
  replace k1 := hide k1
  replace i1 := hide i1
  rw [← eS] at hb k1 i1
  generalize blA S = c1 at *
  go_enter Try.func8, Try.ntmps8
  dsimp only [List.append]
  go_upto_region 2 with (first | (refine wpList_store_row rfl 28 _ _ rfl _ #[.slice (some ⟨w.heap.size, 0, none⟩) 3 3, .slice (some ⟨w.heap.size + 1, 0, none⟩) 3 3, .slice (some ⟨w.heap.size + 1 + 1, 0, none⟩) 2 2, .slice (some ⟨w.heap.size + 1 + 1 + 1, 0, none⟩) 1 1, .slice none 0 0, .slice none 0 0, .slice none 0 0] rfl rfl _ _ (heap_alloc_last _ _) (by rw [← eS]; exact G1.1) rfl rfl ?_; rw [World.setRow_alloc_new]))
  rw [← eS]
  generalize (((((w.alloc (.cells #[.int .i64 (-1099511627776), .int .i64 5, .int .i64 1099511627776] 2)).alloc (.cells #[.int .u8 1, .int .u8 0, .int .u8 1] 5)).alloc (.cells #[.int .i32 1, .bool false, .int .u8 0, .int .i32 2, .bool false, .int .u8 0] 38)).alloc (.cells #[.int .u8 0] 5)).alloc (.cells c1 28)) = u1 at *
  generalize w.heap.size + 1 + 1 + 1 + 1 = g1 at *
  clear eS
  go_wp2_with (first | (refine load_row_g (by rfl) 28 _ rfl _ rfl _ _ _ k1.out Try.underlying28 rfl G1.1 ?_) | fail)
  refine (CV.out _ i1.out).mono ?_
  rintro e x1 ⟨V, rfl, o2, h1⟩
  replace k1 := hide (k1.out.below h1)
  replace i1 := hide (i1.out.below h1)
  replace hb := hide (bel_next hb.out h1)
  have o2' := hide (o2.below (bl_new x1 (.cells (blA V) 28)))
  clear o2 h1 CV
  obtain ⟨l0, l1, l2, l3, _⟩ := o2'.out.is.lens
  have z0 : V.ti.n = 1 := l0.symm
  have z1 : V.ix.n = 1 := l1.symm
  have z2 : V.ty.n = 2 := l2.symm
  have kv := hide (Ro.new x1 (blA V) 28)
  have G2 := gr_blk V
  have v0 := hide (show (blA V)[0]? = some (.slice V.ti.A 1 V.ti.c) by show some (Value.slice V.ti.A V.ti.n V.ti.c) = _; rw [z0])
  have v1 := hide (show (blA V)[1]? = some (.slice V.ix.A 1 V.ix.c) by show some (Value.slice V.ix.A V.ix.n V.ix.c) = _; rw [z1])
  have v2 := hide (show (blA V)[2]? = some (.slice V.ty.A 2 V.ty.c) by show some (Value.slice V.ty.A V.ty.n V.ty.c) = _; rw [z2])
  rw [show bkV V = .agg (blA V) from rfl]
  generalize blA V = cv at *
  have h1 := bl_new x1 (.cells cv 28)
  replace k1 := hide (k1.out.below h1)
  replace i1 := hide (i1.out.below h1)
  replace hb := hide (bel_next hb.out h1)
  clear h1 l0 l1 l2 l3
  go_upto_region 3 with (first | (refine wpList_store_row rfl 28 _ _ rfl _ _ rfl rfl _ _ (heap_alloc_last _ _) G2.1 (by rw [G2.2.1]; rfl) G2.2.2 ?_; rw [World.setRow_alloc_new]) | fail)
  generalize x1.alloc (.cells cv 28) = u2 at *
  generalize x1.heap.size = g2 at *
  obtain ⟨y0, _⟩ := ro_cf kv.out 0 _ v0.out
  obtain ⟨y1, _⟩ := ro_cf kv.out 1 _ v1.out
  obtain ⟨y2, _⟩ := ro_cf kv.out 2 _ v2.out
  go_upto_region 5 with fail
  clear y0 y1 y2
  have i2 := hide o2'.out.is
  go_wp2_with fail
  refine (CL.out _).mono ?_
  rintro e x3 ⟨V3, rfl, o3, h1⟩
  replace k1 := hide (k1.out.below h1)
  replace i1 := hide (i1.out.below h1)
  replace kv := hide (kv.out.below h1)
  replace i2 := hide (i2.out.below h1)
  replace hb := hide (bel_next hb.out h1)
  have i3 := hide (o3.is.below (bl_new x3 (.cells (blA V3) 28)))
  clear o3 h1 CL
  obtain ⟨_, _, l2, l3, _⟩ := i3.out.lens
  have z2' : V3.ty.n = 1 := l2.symm
  have z3' : V3.ch.n = 1 := l3.symm
  have C9 := hide (fun W (i : IsBk W V3 slB) => (show Calls Try.prog 10 #[.agg (blA V3)] W fun e w' => e = .returned (.bool true) ∧ Below W.heap.size W w' from by rw [← slS]; exact lg_.IsSlim V3 slB W i (small_of i (by decide))))
  have k3 := hide (Ro.new x3 (blA V3) 28)
  have G3 := gr_blk V3
  have w2 := hide (show (blA V3)[2]? = some (.slice V3.ty.A 1 V3.ty.c) by show some (Value.slice V3.ty.A V3.ty.n V3.ty.c) = _; rw [z2'])
  have w3 := hide (show (blA V3)[3]? = some (.slice V3.ch.A 1 V3.ch.c) by show some (Value.slice V3.ch.A V3.ch.n V3.ch.c) = _; rw [z3'])
  rw [show bkV V3 = .agg (blA V3) from rfl]
  generalize blA V3 = c3 at *
  have h1 := bl_new x3 (.cells c3 28)
  replace k1 := hide (k1.out.below h1)
  replace i1 := hide (i1.out.below h1)
  replace kv := hide (kv.out.below h1)
  replace i2 := hide (i2.out.below h1)
  replace hb := hide (bel_next hb.out h1)
  clear h1 l2 l3
  obtain ⟨a0, e0, p0⟩ := i2.out.ti.int (show 0 < V.ti.n by omega)
  obtain ⟨a1, e1, p1⟩ := i2.out.ix.int (show 0 < V.ix.n by omega)
  obtain ⟨a2, t2, e2, r2, p2, _⟩ := i2.out.ty.tt (show 0 < V.ty.n by omega)
  obtain ⟨a2', t3, e3, r3, p3, _⟩ := i2.out.ty.tt (show 1 < V.ty.n by omega)
  rw [e2] at e3
  cases e3
  cases r2
  cases r3
  rw [e0] at v0
  rw [e1] at v1
  rw [e2] at v2
  obtain ⟨y0, _⟩ := ro_cf kv.out 0 _ v0.out
  obtain ⟨y1, _⟩ := ro_cf kv.out 1 _ v1.out
  obtain ⟨y2, _⟩ := ro_cf kv.out 2 _ v2.out
  have p0' : (x3.alloc (.cells c3 28)).cell? (a0.add 0) = some (.int .i64 5) := p0
  have p1' : (x3.alloc (.cells c3 28)).cell? (a1.add 0) = some (.int .u8 1) := p1
  clear p0 p1 e0 e1 e2
  rw [show a0.add 0 = a0 by simp [Addr.add]] at p0'
  rw [show a1.add 0 = a1 by simp [Addr.add]] at p1'
  simp only [Nat.zero_mul, Nat.one_mul] at p2 p3
  rw [show a2.add 0 = a2 by simp [Addr.add]] at p2
  replace p3 : (x3.alloc (.cells c3 28)).cell? ⟨a2.block, a2.off + 3, none⟩ = some (.int .i32 1) := p3
  go_wp2_with (first | (refine wpList_store_row rfl 28 _ _ rfl _ _ rfl rfl _ _ (heap_alloc_last _ _) G3.1 (by rw [G3.2.1]; rfl) G3.2.2 ?_; rw [World.setRow_alloc_new]) | (refine load_row_g (by rfl) 28 _ rfl _ rfl _ _ _ k1.out Try.underlying28 rfl G1.1 ?_) | fail)
  generalize x3.heap.size = g3 at *
  generalize x3.alloc (.cells c3 28) = u3 at *
  clear y0 y1 y2 p0' p1' p2 p3
  refine (C4.out _ i1.out).mono ?_
  rintro e x4 ⟨rfl, h1⟩
  replace k1 := hide (k1.out.below h1)
  replace i1 := hide (i1.out.below h1)
  replace k3 := hide (k3.out.below h1)
  replace i3 := hide (i3.out.below h1)
  replace hb := hide (bel_next hb.out h1)
  clear h1
  go_wp2_with (first | (refine load_row_g (by rfl) 28 _ rfl _ rfl _ _ _ k1.out Try.underlying28 rfl G1.1 ?_) | fail)
  refine (C5.out _ i1.out).mono ?_
  rintro e x5 ⟨rfl, h1⟩
  replace k1 := hide (k1.out.below h1)
  replace i1 := hide (i1.out.below h1)
  replace k3 := hide (k3.out.below h1)
  replace i3 := hide (i3.out.below h1)
  replace hb := hide (bel_next hb.out h1)
  clear h1
  go_wp2_with (first | (refine load_row_g (by rfl) 28 _ rfl _ rfl _ _ _ k1.out Try.underlying28 rfl G1.1 ?_) | fail)
  refine (Cm.out _ i1.out).mono ?_
  rintro e x6 ⟨rfl, h1⟩
  replace k1 := hide (k1.out.below h1)
  replace i1 := hide (i1.out.below h1)
  replace k3 := hide (k3.out.below h1)
  replace i3 := hide (i3.out.below h1)
  replace hb := hide (bel_next hb.out h1)
  clear h1
  go_wp2_with (first | (refine load_row_g (by rfl) 28 _ rfl _ rfl _ _ _ k3.out Try.underlying28 rfl G3.1 ?_) | fail)
  refine (C9.out _ i3.out).mono ?_
  rintro e x7 ⟨rfl, h1⟩
  replace k1 := hide (k1.out.below h1)
  replace i1 := hide (i1.out.below h1)
  replace k3 := hide (k3.out.below h1)
  replace i3 := hide (i3.out.below h1)
  replace hb := hide (bel_next hb.out h1)
  clear h1
  go_wp2_with (first | (refine load_row_g (by rfl) 28 _ rfl _ rfl _ _ _ k1.out Try.underlying28 rfl G1.1 ?_) | fail)
  refine (CS.out _ i1.out).mono ?_
  rintro e x8 ⟨rfl, h1⟩
  replace k1 := hide (k1.out.below h1)
  replace i1 := hide (i1.out.below h1)
  replace k3 := hide (k3.out.below h1)
  replace i3 := hide (i3.out.below h1)
  replace hb := hide (bel_next hb.out h1)
  clear h1
  obtain ⟨y2, _⟩ := ro_cf k3.out 2 _ w2.out
  obtain ⟨y3, _⟩ := ro_cf k3.out 3 _ w3.out
  go_wp2
  go_ret
  exact ⟨rfl, hb.out⟩
set_option maxHeartbeats 2000000 in
theorem valid (S : BkS) (b : Bk) (w : World) (h : IsBk w S b) : Calls Try.prog 13 #[bkV S] w fun e w' => e = .returned (.bool (fewB b && decide (vB b true 8 = 0))) ∧ Below w.heap.size w w' := by
  have FW := hide (fun W (i : IsBk W S b) => (show Calls Try.prog 9 #[.agg (blA S)] W fun e w' => e = .returned (.bool (fewB b)) ∧ Below W.heap.size W w' from r19_.Few S b W i))
  have BW := hide (fun (s1 : S.small) W (i : IsBk W S b) => (show Calls Try.prog 19 #[.agg (blA S), .int .i64 4, .int .i64 8] W fun e w' => e = .returned (.int .i64 (vB b true 8)) ∧ Below W.heap.size W w' from r20_.Block S b 4 true 8 8 W rfl (.inr rfl) (by decide) (by decide) rfl i s1))
  have s1 := hide (fun hf => few_small h hf)
  have G := gr_blk S
  have k := hide (Ro.new w (blA S) 28)
  have hb := hide (bl_new w (.cells (blA S) 28))
  have i1 := hide (h.below hb.out)
  clear h
  show Calls Try.prog 13 #[.agg (blA S)] w _
  generalize blA S = cs at *
  generalize vB b true 8 = x at *
  go_enter Try.func13, Try.ntmps13
  go_upto_region 1 with fail
  generalize w.alloc (.cells cs 28) = u at *
  go_wp2_with (first | (refine load_row_g (by rfl) 28 _ rfl _ rfl _ _ _ k.out Try.underlying28 rfl G.1 ?_) | fail)
  refine (FW.out _ i1.out).mono ?_
  rintro e x1 ⟨rfl, h1⟩
  replace k := hide (k.out.below h1)
  replace i1 := hide (i1.out.below h1)
  replace hb := hide (bel_next hb.out h1)
  clear h1 FW
  cases hf : fewB b
  · go_wp2
    go_ret
    exact ⟨retb (by rw [hf]; rfl), hb.out⟩
  · have s2 := hide (s1.out hf)
    clear s1
    replace hf := hide hf
    go_wp2_with (first | (refine load_row_g (by rfl) 28 _ rfl _ rfl _ _ _ k.out Try.underlying28 rfl G.1 ?_) | fail)
    refine (BW.out s2.out _ i1.out).mono ?_
    rintro e x2 ⟨rfl, h1⟩
    replace k := hide (k.out.below h1)
    replace i1 := hide (i1.out.below h1)
    replace hb := hide (bel_next hb.out h1)
    clear h1
    have e0 : (x == 0) = decide (x = 0) := by by_cases q : x = 0 <;> simp [q]
    go_wp2
    go_ret
    exact ⟨retb (by rw [hf.out, Bool.true_and]), hb.out⟩
end l22_
end Go.Proofs.Ytgbojkbhkjameaa

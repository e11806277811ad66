/-
  THE WALK OF header.Decode, of the code that landed at fefc8ef, over what its steps return. No conditions.
-/
import Derived.Test.YtakimiiggemfiaaDoorHdC
import Derived.Test.YtakimiiggemfiaaDoorHdE
import Derived.Lib.SlBytesConst
namespace Go.Proofs.YtakimiiggemfiaaDoor
open Go.ChangeShapes Go.WideShapes Go.ChangeAt Go.RowKit
set_option linter.unusedVariables false
theorem alloc4 (w : World) (a b c d : List Value) (T1 T2 T3 T4 : TypeId) : ∃ u, u = (((w.alloc (.cells a.toArray T1)).alloc (.cells b.toArray T2)).alloc (.cells c.toArray T3)).alloc (.cells d.toArray T4) ∧ Bx u w.heap.size a ∧ Bx u (w.heap.size + 1) b ∧ Bx u (w.heap.size + 1 + 1) c ∧ Bx u (w.heap.size + 1 + 1 + 1) d ∧ Below w.heap.size w u ∧ u.heap.size = w.heap.size + 4 := by
  refine ⟨_, rfl, (((Bx.new w a T1).alloc _).alloc _).alloc _, ?_, ?_, ?_, bl_alloc (bl_alloc (bl_alloc (bl_new _ _) _) _) _, by simp⟩
  · have := ((Bx.new (w.alloc (.cells a.toArray T1)) b T2).alloc (.cells c.toArray T3)).alloc (.cells d.toArray T4)
    simpa using this
  · have := (Bx.new ((w.alloc (.cells a.toArray T1)).alloc (.cells b.toArray T2)) c T3).alloc (.cells d.toArray T4)
    simpa using this
  · have := Bx.new (((w.alloc (.cells a.toArray T1)).alloc (.cells b.toArray T2)).alloc (.cells c.toArray T3)) d T4
    simpa using this
theorem rd_mark (W : World) (l : List Value) (T : TypeId) (p : Nat × Nat) : Rd (W.alloc (.cells l.toArray T p)) (some ⟨W.heap.size, 0, none⟩) l.length l := by
  refine ⟨rfl, fun h => ⟨_, rfl, fun i v hv => ?_⟩⟩
  rw [addr_flat, Nat.zero_add]
  have e : (W.alloc (.cells l.toArray T p)).cell? ⟨W.heap.size, i, none⟩ = l.toArray[i]? := by
    simp only [World.cell?, World.alloc, Array.getElem?_push, if_true, Option.isSome_none, Bool.false_eq_true, if_false]
  rw [e]
  exact (List.getElem?_toArray ..).trans hv
theorem hcells7 {w : World} {g : Nat} {a b c d e f k : Value} (h : Bx w g [a, b, c, d, e, f, k]) : w.cell? ⟨g, 0, none⟩ = some a ∧ w.cell? ⟨g, 1, none⟩ = some b ∧ w.cell? ⟨g, 2, none⟩ = some c ∧ w.cell? ⟨g, 3, none⟩ = some d ∧ w.cell? ⟨g, 4, none⟩ = some e ∧ w.cell? ⟨g, 5, none⟩ = some f ∧ w.cell? ⟨g, 6, none⟩ = some k :=
  ⟨h.2.1 0 _ rfl, h.2.1 1 _ rfl, h.2.1 2 _ rfl, h.2.1 3 _ rfl, h.2.1 4 _ rfl, h.2.1 5 _ rfl, h.2.1 6 _ rfl⟩
namespace hd_
set_option maxRecDepth 100000 in
set_option maxHeartbeats 4000000 in
theorem Decode_gen (A : Option Addr) (n c : Nat) (p p1 e1 a1 v p2 e2 a2 : Int) (vs P E Q : Nat → Int) (f0 f1 f2 f3 f4 f5 P6 E6 Q6 pf ef af : Int) (H : Hd) (w : World) (hT : Th w)
    (E1 : ∀ w1, Below w.heap.size w w1 → ∀ B d, Rd w1 B 4 (magicL.map (Value.int .u8)) → Calls Tryd.prog 16 #[cu A n c p 0 0, .slice B 4 d, .int .i64 3] w1 fun e w' => e = .returned (cu A n c p1 e1 a1) ∧ Below w1.heap.size w1 w')
    (E2 : ∀ w1, Below w.heap.size w w1 → Calls Tryd.prog 17 #[cu A n c p1 e1 a1] w1 fun e w' => e = .returned (.tuple #[.int .i64 v, cu A n c p2 e2 a2]) ∧ Below w1.heap.size w1 w')
    (E3 : ∀ w1, Below w.heap.size w w1 → ∀ B d, Rd w1 B 15 (zeroL.map (Value.int .u8)) → Calls Tryd.prog 16 #[cu A n c p2 e2 a2, .slice B 15 d, .int .i64 5] w1 fun e w' => e = .returned (cu A n c (P 0) (E 0) (Q 0)) ∧ Below w1.heap.size w1 w')
    (N : ∀ i, i < 6 → ∀ w1, Below w.heap.size w w1 → Calls Tryd.prog 22 #[cu A n c (P i) (E i) (Q i), .int .i64 4] w1 fun e w' => e = .returned (.tuple #[.int .u64 (vs i), cu A n c (P (i + 1)) (E (i + 1)) (Q (i + 1))]) ∧ Below w1.heap.size w1 w')
    (hU : ∀ i, i < 6 → U32 (vs i)) (r : Bool) (hr : r = (Hd.mk v f0 f1 f2 f3 f4 f5).con)
    (hf : vs 0 = f0 ∧ vs 1 = f1 ∧ vs 2 = f2 ∧ vs 3 = f3 ∧ vs 4 = f4 ∧ vs 5 = f5 ∧ P 6 = P6 ∧ E 6 = E6 ∧ Q 6 = Q6)
    (hcase : (E6 = 0 ∧ r = true ∧ H = ⟨v, f0, f1, f2, f3, f4, f5⟩ ∧ pf = P6 ∧ ef = 0 ∧ af = Q6) ∨ (E6 = 0 ∧ r = false ∧ H = Hd0 ∧ pf = P6 ∧ ef = 6 ∧ af = p) ∨ (E6 ≠ 0 ∧ H = Hd0 ∧ pf = P6 ∧ ef = E6 ∧ af = Q6)) :
    Calls Tryd.prog 10 #[cu A n c p 0 0] w fun z w' => z = .returned (.tuple #[H.val, cu A n c pf ef af]) ∧ Below w.heap.size w w' := by
  have HE1 := hide E1
  have HE2 := hide E2
  have HE3 := hide E3
  have HN := hide N
  have HU := hide hU
  have HR := hide hr
  have HTw := hide hT
  have HTw := hide hT
  have HTw := hide hT
  have HTw := hide hT
  have HTw := hide hT
  have HTw := hide hT
  have HTw := hide hT
  have HT := hide hT
  have HF := hide hf
  have HCS := hide hcase
  clear E1 E2 E3 N hU hr hT hf hcase
  go_enter Tryd.func10, Tryd.ntmps10
  go_upto_region 3 with fail
  obtain ⟨u, hu, bc, bh, bd, bt, hb, hsz⟩ := alloc4 w [.slice A n c, .int .i64 p, .int .i64 0, .int .i64 0] [.int .i64 0, .int .u32 0, .int .u32 0, .int .u32 0, .int .u32 0, .int .u32 0, .int .u32 0] [.slice none 0 0, .int .i64 0, .int .i64 0, .int .i64 0] [.int .i64 0, .int .u32 0, .int .u32 0, .int .u32 0, .int .u32 0, .int .u32 0, .int .u32 0] 30 24 30 24
  rw [← hu]
  clear hu
  obtain ⟨g0, hg0⟩ : ∃ g, g = w.heap.size := ⟨_, rfl⟩
  obtain ⟨g1, hg1⟩ : ∃ g, g = w.heap.size + 1 := ⟨_, rfl⟩
  obtain ⟨g2, hg2⟩ : ∃ g, g = w.heap.size + 1 + 1 := ⟨_, rfl⟩
  obtain ⟨g3, hg3⟩ : ∃ g, g = w.heap.size + 1 + 1 + 1 := ⟨_, rfl⟩
  rw [← hg0] at bc
  rw [← hg1] at bh
  rw [← hg2] at bd
  rw [← hg3] at bt
  rw [← hg3, ← hg2, ← hg1, ← hg0]
  have n01 : g0 ≠ g1 := by omega
  have n02 : g0 ≠ g2 := by omega
  have n03 : g0 ≠ g3 := by omega
  have n12 : g1 ≠ g2 := by omega
  have n13 : g1 ≠ g3 := by omega
  have n23 : g2 ≠ g3 := by omega
  have n10 : g1 ≠ g0 := by omega
  have n20 : g2 ≠ g0 := by omega
  have n30 : g3 ≠ g0 := by omega
  have n31 : g3 ≠ g1 := by omega
  have n32 : g3 ≠ g2 := by omega
  have n21 : g2 ≠ g1 := by omega
  have l0 : w.heap.size ≤ g0 := by omega
  have l1 : w.heap.size ≤ g1 := by omega
  have l2 : w.heap.size ≤ g2 := by omega
  have l3 : w.heap.size ≤ g3 := by omega
  have HG := hide hg3
  clear hg0 hg1 hg2 hg3 hsz
  replace bc := hide bc
  replace bh := hide bh
  replace bd := hide bd
  replace bt := hide bt
  replace hb := hide hb
  replace HT := hide (HT.out.below hb.out)
  have HT0 := HTw
  obtain ⟨x0, x1, x2, x3⟩ := bc.out.cells4
  have cv := fun (W : World) (C : Array Value) => Lib.run_convert_bytes_const (P := Tryd.prog) W 25 5 C 4 4 Tryd.underlying25 Tryd.underlying5
  go_wp2_with fail
  refine (HE1.out _ (bl_alloc hb.out _) _ _ (rd_mark u (magicL.map (Value.int .u8)) 5 (4, 5))).mono ?_
  rintro e w1 ⟨rfl, h1⟩
  clear x0 x1 x2 x3
  replace bc := hide (bc.out.alloc (.cells #[.int .u8 84, .int .u8 90, .int .u8 105, .int .u8 102] 5 (4, 5)))
  replace bh := hide (bh.out.alloc (.cells #[.int .u8 84, .int .u8 90, .int .u8 105, .int .u8 102] 5 (4, 5)))
  replace bd := hide (bd.out.alloc (.cells #[.int .u8 84, .int .u8 90, .int .u8 105, .int .u8 102] 5 (4, 5)))
  replace bt := hide (bt.out.alloc (.cells #[.int .u8 84, .int .u8 90, .int .u8 105, .int .u8 102] 5 (4, 5)))
  replace HT := hide (HT.out.below (bl_new _ (.cells #[.int .u8 84, .int .u8 90, .int .u8 105, .int .u8 102] 5 (4, 5))))
  replace hb := hide (bl_alloc hb.out (.cells #[.int .u8 84, .int .u8 90, .int .u8 105, .int .u8 102] 5 (4, 5)))
  replace bc := hide (bc.out.below h1)
  replace bh := hide (bh.out.below h1)
  replace bd := hide (bd.out.below h1)
  replace bt := hide (bt.out.below h1)
  replace HT := hide (HT.out.below h1)
  replace hb := hide (bel_next hb.out h1)
  clear h1
  obtain ⟨x0, x1, x2, x3⟩ := bc.out.cells4
  have xf := bc.out.fr
  go_upto_region 4 with fail
  clear x0 x1 x2 x3 xf
  replace bc := hide (bc.out.store4 (a := .slice A n c) (b := .int .i64 p1) (c := .int .i64 e1) (d := .int .i64 a1))
  replace bh := hide (bh.out.away4 (a := .slice A n c) (b := .int .i64 p1) (c := .int .i64 e1) (d := .int .i64 a1) n01)
  replace bd := hide (bd.out.away4 (a := .slice A n c) (b := .int .i64 p1) (c := .int .i64 e1) (d := .int .i64 a1) n02)
  replace bt := hide (bt.out.away4 (a := .slice A n c) (b := .int .i64 p1) (c := .int .i64 e1) (d := .int .i64 a1) n03)
  replace hb := hide (bl_set4 (a := .slice A n c) (b := .int .i64 p1) (c := .int .i64 e1) (d := .int .i64 a1) hb.out l0)
  generalize ((((w1.setCell ⟨g0, 0, none⟩ (.slice A n c)).setCell ⟨g0, 1, none⟩ (.int .i64 p1)).setCell ⟨g0, 2, none⟩ (.int .i64 e1)).setCell ⟨g0, 3, none⟩ (.int .i64 a1)) = u1 at *
  replace HT := hide (HT0.out.below hb.out)
  obtain ⟨x0, x1, x2, x3⟩ := bc.out.cells4
  go_wp2_with fail
  refine (HE2.out _ hb.out).mono ?_
  rintro e w2 ⟨rfl, h1⟩
  clear x0 x1 x2 x3
  replace bc := hide (bc.out.below h1)
  replace bh := hide (bh.out.below h1)
  replace bd := hide (bd.out.below h1)
  replace bt := hide (bt.out.below h1)
  replace HT := hide (HT.out.below h1)
  replace hb := hide (bel_next hb.out h1)
  clear h1
  obtain ⟨x0, x1, x2, x3⟩ := bc.out.cells4
  have xf := bc.out.fr
  have t0 := bt.out.2.1 0 _ rfl
  have tf := bt.out.fr 0
  go_upto_region 5 with fail
  clear x0 x1 x2 x3 xf t0 tf
  replace bt := hide (show Bx _ g3 (hL v vs 0) from bt.out.set 0 (.int .i64 v) (by decide))
  replace bc := hide (bc.out.set_ne 0 n30 (.int .i64 v))
  replace bh := hide (bh.out.set_ne 0 n31 (.int .i64 v))
  replace bd := hide (bd.out.set_ne 0 n32 (.int .i64 v))
  replace hb := hide (bl_set hb.out l3 (.int .i64 v) (o := 0))
  replace bc := hide (bc.out.store4 (a := .slice A n c) (b := .int .i64 p2) (c := .int .i64 e2) (d := .int .i64 a2))
  replace bh := hide (bh.out.away4 (a := .slice A n c) (b := .int .i64 p2) (c := .int .i64 e2) (d := .int .i64 a2) n01)
  replace bd := hide (bd.out.away4 (a := .slice A n c) (b := .int .i64 p2) (c := .int .i64 e2) (d := .int .i64 a2) n02)
  replace bt := hide (bt.out.away4 (a := .slice A n c) (b := .int .i64 p2) (c := .int .i64 e2) (d := .int .i64 a2) n03)
  replace hb := hide (bl_set4 (a := .slice A n c) (b := .int .i64 p2) (c := .int .i64 e2) (d := .int .i64 a2) hb.out l0)
  generalize (((((w2.setCell ⟨g3, 0, none⟩ (.int .i64 v)).setCell ⟨g0, 0, none⟩ (.slice A n c)).setCell ⟨g0, 1, none⟩ (.int .i64 p2)).setCell ⟨g0, 2, none⟩ (.int .i64 e2)).setCell ⟨g0, 3, none⟩ (.int .i64 a2)) = u2 at *
  replace HT := hide (HT0.out.below hb.out)
  obtain ⟨x0, x1, x2, x3⟩ := bc.out.cells4
  have bl := bc.out.lt
  have hmk : ∀ W : World, (Instr.makeSlice 25 (.int .i64 15) (.int .i64 15)).run Tryd.prog W = .ok (.slice (some ⟨W.heap.size, 0, none⟩) 15 15) (W.alloc (.cells ((zeroL.map (Value.int .u8)).toArray) 5)) := fun W => by kernel_rfl
  go_region_with ((go_at_call 16; refine (HE3.out _ (bl_drew (bl_alloc hb.out _)) _ _ ((Ow.lit u2 5 (zeroL.map (Value.int .u8)) (by decide)).rd.drew)).mono ?_; rintro e w3 ⟨rfl, h1⟩; obtain ⟨y0, y1, y2, y3⟩ := (((bc.out.alloc _).drew).below h1).cells4; have yf := (((bc.out.alloc _).drew).below h1).fr))
  all_goals
    replace bc := hide (((bc.out.alloc (.cells ((zeroL.map (Value.int .u8)).toArray) 5)).drew).below h1)
    replace bh := hide (((bh.out.alloc (.cells ((zeroL.map (Value.int .u8)).toArray) 5)).drew).below h1)
    replace bd := hide (((bd.out.alloc (.cells ((zeroL.map (Value.int .u8)).toArray) 5)).drew).below h1)
    replace bt := hide (((bt.out.alloc (.cells ((zeroL.map (Value.int .u8)).toArray) 5)).drew).below h1)
    replace hb := hide (bel_next (bl_drew (bl_alloc hb.out (.cells ((zeroL.map (Value.int .u8)).toArray) 5))) h1)
    clear h1 y0 y1 y2 y3 yf x0 x1 x2 x3 bl hmk
    replace bc := hide (bc.out.store4 (a := .slice A n c) (b := .int .i64 (P 0)) (c := .int .i64 (E 0)) (d := .int .i64 (Q 0)))
    replace bh := hide (bh.out.away4 (a := .slice A n c) (b := .int .i64 (P 0)) (c := .int .i64 (E 0)) (d := .int .i64 (Q 0)) n01)
    replace bd := hide (bd.out.away4 (a := .slice A n c) (b := .int .i64 (P 0)) (c := .int .i64 (E 0)) (d := .int .i64 (Q 0)) n02)
    replace bt := hide (bt.out.away4 (a := .slice A n c) (b := .int .i64 (P 0)) (c := .int .i64 (E 0)) (d := .int .i64 (Q 0)) n03)
    replace hb := hide (bl_set4 (a := .slice A n c) (b := .int .i64 (P 0)) (c := .int .i64 (E 0)) (d := .int .i64 (Q 0)) hb.out l0)
    generalize ((((w3.setCell ⟨g0, 0, none⟩ (.slice A n c)).setCell ⟨g0, 1, none⟩ (.int .i64 (P 0))).setCell ⟨g0, 2, none⟩ (.int .i64 (E 0))).setCell ⟨g0, 3, none⟩ (.int .i64 (Q 0))) = u3 at *
    replace HT := hide (HT0.out.below hb.out)
    obtain ⟨x0, x1, x2, x3⟩ := bc.out.cells4
    go_wp2_with fail
    refine (decodeCounts A n c g3 v vs P E Q _ bt.out (fun i hi W hW => HN.out i hi W (But.down hb.out l3 hW)) HU.out).mono ?_
    obtain ⟨k0, k1, k2, k3, k4, k5, k6, k7, k8⟩ := HF.out
    rw [k6, k7, k8]
    rintro e w4 ⟨rfl, bt', h1⟩
    clear x0 x1 x2 x3 bt
    have bt := hide (show Bx w4 g3 [.int .i64 v, .int .u32 (vs 0), .int .u32 (vs 1), .int .u32 (vs 2), .int .u32 (vs 3), .int .u32 (vs 4), .int .u32 (vs 5)] from bt')
    rw [k0, k1, k2, k3, k4, k5] at bt
    clear bt' k0 k1 k2 k3 k4 k5 k6 k7 k8
    replace bc := hide (bc.out.but h1 n03)
    replace bh := hide (bh.out.but h1 n13)
    replace bd := hide (bd.out.but h1 n23)
    replace hb := hide (But.down hb.out l3 h1)
    clear h1
    obtain ⟨x0, x1, x2, x3⟩ := bc.out.cells4
    have xf := bc.out.fr
    go_upto_region 7 with fail
    clear x0 x1 x2 x3 xf
    replace bc := hide (bc.out.store4 (a := .slice A n c) (b := .int .i64 P6) (c := .int .i64 E6) (d := .int .i64 Q6))
    replace bh := hide (bh.out.away4 (a := .slice A n c) (b := .int .i64 P6) (c := .int .i64 E6) (d := .int .i64 Q6) n01)
    replace bd := hide (bd.out.away4 (a := .slice A n c) (b := .int .i64 P6) (c := .int .i64 E6) (d := .int .i64 Q6) n02)
    replace bt := hide (bt.out.away4 (a := .slice A n c) (b := .int .i64 P6) (c := .int .i64 E6) (d := .int .i64 Q6) n03)
    replace hb := hide (bl_set4 (a := .slice A n c) (b := .int .i64 P6) (c := .int .i64 E6) (d := .int .i64 Q6) hb.out l0)
    generalize ((((w4.setCell ⟨g0, 0, none⟩ (.slice A n c)).setCell ⟨g0, 1, none⟩ (.int .i64 P6)).setCell ⟨g0, 2, none⟩ (.int .i64 E6)).setCell ⟨g0, 3, none⟩ (.int .i64 Q6)) = u4 at *
    replace HT := hide (HT0.out.below hb.out)
    obtain ⟨x0, x1, x2, x3, x4, x5, x6⟩ := hcells7 bt.out
    go_wp2_with fail
    refine (Consistent ⟨v, f0, f1, f2, f3, f4, f5⟩ _ HT.out).mono ?_
    rw [← HR.out]
    rintro e w5 ⟨rfl, h1⟩
    clear x0 x1 x2 x3 x4 x5 x6 HN HU HE1 HE2 HE3 HR
    replace bc := hide (bc.out.below h1)
    replace bh := hide (bh.out.below h1)
    replace bd := hide (bd.out.below h1)
    replace bt := hide (bt.out.below h1)
    replace HT := hide (HT.out.below h1)
    replace hb := hide (bel_next hb.out h1)
    clear h1
    rcases HCS.out with ⟨rfl, rfl, rfl, rfl, rfl, rfl⟩ | ⟨rfl, rfl, rfl, rfl, rfl, rfl⟩ | ⟨hE, rfl, rfl, rfl, rfl⟩
    all_goals clear HCS
    · obtain ⟨x0, x1, x2, x3⟩ := bc.out.cells4
      obtain ⟨y0, y1, y2, y3, y4, y5, y6⟩ := hcells7 bh.out
      obtain ⟨z0, z1, z2, z3⟩ := bd.out.cells4
      have yf := bh.out.fr
      have zf := bd.out.fr
      have yl := bh.out.lt
      have zl := bd.out.lt
      obtain ⟨q0, q1, q2, q3, q4, q5, q6⟩ := hcells7 bt.out
      go_wp2
      go_region
      all_goals go_wp2
      all_goals
        refine bodyPost_ret (v := .tuple #[.agg #[.int .i64 v, .int .u32 f0, .int .u32 f1, .int .u32 f2, .int .u32 f3, .int .u32 f4, .int .u32 f5], cu A n c pf 0 af]) (by simp [results, Tryd.results10, go_sem, y0, y1, y2, y3, y4, y5, y6, z0, z1, z2, z3]) rfl ⟨rfl, ?_⟩
        repeat (first | with_reducible exact hb.out | with_reducible refine bl_set ?_ l1 _ | with_reducible refine bl_set ?_ l2 _ | with_reducible refine bl_drew ?_)
    · obtain ⟨x0, x1, x2, x3⟩ := bc.out.cells4
      go_wp2_with fail
      refine (cu_.Fail_ok A n c pf Q6 6 af _ (by omega)).mono ?_
      rintro e w6 ⟨rfl, h1⟩
      clear x0 x1 x2 x3
      replace bc := hide (bc.out.below h1)
      replace bh := hide (bh.out.below h1)
      replace bd := hide (bd.out.below h1)
      replace bt := hide (bt.out.below h1)
      replace HT := hide (HT.out.below h1)
      replace hb := hide (bel_next hb.out h1)
      clear h1
      obtain ⟨x0, x1, x2, x3⟩ := bc.out.cells4
      have xf := bc.out.fr
      go_upto_region 9 with fail
      clear x0 x1 x2 x3 xf
      replace bc := hide (bc.out.store4 (a := .slice A n c) (b := .int .i64 pf) (c := .int .i64 6) (d := .int .i64 af))
      replace bh := hide (bh.out.away4 (a := .slice A n c) (b := .int .i64 pf) (c := .int .i64 6) (d := .int .i64 af) n01)
      replace bd := hide (bd.out.away4 (a := .slice A n c) (b := .int .i64 pf) (c := .int .i64 6) (d := .int .i64 af) n02)
      replace bt := hide (bt.out.away4 (a := .slice A n c) (b := .int .i64 pf) (c := .int .i64 6) (d := .int .i64 af) n03)
      replace hb := hide (bl_set4 (a := .slice A n c) (b := .int .i64 pf) (c := .int .i64 6) (d := .int .i64 af) hb.out l0)
      generalize ((((w6.setCell ⟨g0, 0, none⟩ (.slice A n c)).setCell ⟨g0, 1, none⟩ (.int .i64 pf)).setCell ⟨g0, 2, none⟩ (.int .i64 6)).setCell ⟨g0, 3, none⟩ (.int .i64 af)) = u5 at *
      replace HT := hide (HT0.out.below hb.out)
      obtain ⟨x0, x1, x2, x3⟩ := bc.out.cells4
      obtain ⟨y0, y1, y2, y3, y4, y5, y6⟩ := hcells7 bh.out
      obtain ⟨z0, z1, z2, z3⟩ := bd.out.cells4
      have yf := bh.out.fr
      have zf := bd.out.fr
      have yl := bh.out.lt
      have zl := bd.out.lt
      go_wp2
      go_region
      all_goals go_wp2
      all_goals
        refine bodyPost_ret (v := .tuple #[Hd0.val, cu A n c pf 6 af]) (by simp [results, Tryd.results10, go_sem, y0, y1, y2, y3, y4, y5, y6, z0, z1, z2, z3, Hd0]) rfl ⟨rfl, ?_⟩
        repeat (first | with_reducible exact hb.out | with_reducible refine bl_set ?_ l1 _ | with_reducible refine bl_set ?_ l2 _ | with_reducible refine bl_drew ?_)
    · cases r
      · obtain ⟨x0, x1, x2, x3⟩ := bc.out.cells4
        go_wp2_with fail
        refine (cu_.Fail_err A n c pf ef af 6 p _ hE).mono ?_
        rintro e w6 ⟨rfl, h1⟩
        clear x0 x1 x2 x3
        replace bc := hide (bc.out.below h1)
        replace bh := hide (bh.out.below h1)
        replace bd := hide (bd.out.below h1)
        replace bt := hide (bt.out.below h1)
        replace HT := hide (HT.out.below h1)
        replace hb := hide (bel_next hb.out h1)
        clear h1
        obtain ⟨x0, x1, x2, x3⟩ := bc.out.cells4
        have xf := bc.out.fr
        go_upto_region 9 with fail
        clear x0 x1 x2 x3 xf
        replace bc := hide (bc.out.store4 (a := .slice A n c) (b := .int .i64 pf) (c := .int .i64 ef) (d := .int .i64 af))
        replace bh := hide (bh.out.away4 (a := .slice A n c) (b := .int .i64 pf) (c := .int .i64 ef) (d := .int .i64 af) n01)
        replace bd := hide (bd.out.away4 (a := .slice A n c) (b := .int .i64 pf) (c := .int .i64 ef) (d := .int .i64 af) n02)
        replace bt := hide (bt.out.away4 (a := .slice A n c) (b := .int .i64 pf) (c := .int .i64 ef) (d := .int .i64 af) n03)
        replace hb := hide (bl_set4 (a := .slice A n c) (b := .int .i64 pf) (c := .int .i64 ef) (d := .int .i64 af) hb.out l0)
        generalize ((((w6.setCell ⟨g0, 0, none⟩ (.slice A n c)).setCell ⟨g0, 1, none⟩ (.int .i64 pf)).setCell ⟨g0, 2, none⟩ (.int .i64 ef)).setCell ⟨g0, 3, none⟩ (.int .i64 af)) = u5 at *
        replace HT := hide (HT0.out.below hb.out)
        obtain ⟨x0, x1, x2, x3⟩ := bc.out.cells4
        obtain ⟨y0, y1, y2, y3, y4, y5, y6⟩ := hcells7 bh.out
        obtain ⟨z0, z1, z2, z3⟩ := bd.out.cells4
        have yf := bh.out.fr
        have zf := bd.out.fr
        have yl := bh.out.lt
        have zl := bd.out.lt
        go_wp2
        go_region
        all_goals go_wp2
        all_goals
          refine bodyPost_ret (v := .tuple #[Hd0.val, cu A n c pf ef af]) (by simp [results, Tryd.results10, go_sem, y0, y1, y2, y3, y4, y5, y6, z0, z1, z2, z3, Hd0]) rfl ⟨rfl, ?_⟩
          repeat (first | with_reducible exact hb.out | with_reducible refine bl_set ?_ l1 _ | with_reducible refine bl_set ?_ l2 _ | with_reducible refine bl_drew ?_)
      · obtain ⟨x0, x1, x2, x3⟩ := bc.out.cells4
        obtain ⟨y0, y1, y2, y3, y4, y5, y6⟩ := hcells7 bh.out
        obtain ⟨z0, z1, z2, z3⟩ := bd.out.cells4
        have yf := bh.out.fr
        have zf := bd.out.fr
        have yl := bh.out.lt
        have zl := bd.out.lt
        go_wp2
        go_region
        all_goals go_wp2
        all_goals
          refine bodyPost_ret (v := .tuple #[Hd0.val, cu A n c pf ef af]) (by simp [results, Tryd.results10, go_sem, y0, y1, y2, y3, y4, y5, y6, z0, z1, z2, z3, Hd0]) rfl ⟨rfl, ?_⟩
          repeat (first | with_reducible exact hb.out | with_reducible refine bl_set ?_ l1 _ | with_reducible refine bl_set ?_ l2 _ | with_reducible refine bl_drew ?_)
end hd_
end Go.Proofs.YtakimiiggemfiaaDoor

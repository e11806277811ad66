/-
  CONTRACTS OF PACKAGE legacy, of the code that landed at bb68bb6: Slim, IsSlim; of zoneinforef22's Slim, IsSlim, other, InEffect; of bytes.Equal. Conditions: IsSlim, InEffect: a small block; InEffect: one that is valid.
-/
import Derived.Test.YtgbojkbhkjameaaLgA
import Derived.Test.YtgbojkbhkjameaaLgN
import Derived.Test.YtgbojkbhkjameaaDs
import Derived.Test.YtgbojkbhkjameaaRef19f
namespace Go.Proofs.Ytgbojkbhkjameaa
open Go.ChangeShapes Go.WideShapes Go.ChangeAt Go.RowKit
set_option linter.unusedVariables false
set_option linter.unusedSimpArgs false
set_option maxRecDepth 100000
/-- the smallest block. -/
def slB : Bk := ⟨[], [], [(0, false, 0)], [0], [], [], []⟩
theorem slB_ok : slB.ok := ⟨by simp [slB], bytes_of_mem (by simp [slB]), by intro t ht; simp [slB] at ht; subst ht; unfold ttOk; simp, bytes_of_mem (by simp [slB]), by simp [slB]⟩
theorem vals_e : vals [⟨#[]⟩] = [⟨#[]⟩] := by
  unfold vals
  rw [List.foldl_cons, List.foldl_nil]
  unfold vstep
  simp
theorem bldT_e : bldT [⟨#[]⟩] = [0] := by
  rw [bldT_is _ (by simp), vals_e]
  rfl
theorem bldX_e : bldX [⟨#[]⟩] = [0] := by
  rw [bldX_is, vals_e]
  simp [st, ixOf, tbl]
namespace lg_
set_option maxHeartbeats 1000000 in
theorem Slim (w : World) : Calls Try.prog 12 #[] w fun e w' => ∃ V, e = .returned (bkV V) ∧ OwBk w' w.heap.size V slB ∧ Below w.heap.size w w' := by
  have C := hide (fun W A (hr : Rd W A 1 (strs [⟨#[]⟩])) => ds_.Build A 1 1 [⟨#[]⟩] W hr (by decide) (by intro s hs; simp at hs; subst hs; decide) (by intro s hs; simp at hs; subst hs; rfl))
  rw [bldT_e, bldX_e] at C
  have hb := hide (bl_alloc (bl_new w (.cells #[.slice none 0 0, .slice none 0 0, .slice none 0 0, .slice none 0 0, .slice none 0 0, .slice none 0 0, .slice none 0 0] 28)) (.cells #[.string ⟨#[]⟩] 9))
  have k := hide ((Ro.new w #[.slice none 0 0, .slice none 0 0, .slice none 0 0, .slice none 0 0, .slice none 0 0, .slice none 0 0, .slice none 0 0] 28).alloc (.cells #[.string ⟨#[]⟩] 9))
  have hr := hide (show Rd ((w.alloc (.cells #[.slice none 0 0, .slice none 0 0, .slice none 0 0, .slice none 0 0, .slice none 0 0, .slice none 0 0, .slice none 0 0] 28)).alloc (.cells #[.string ⟨#[]⟩] 9)) (some ⟨w.heap.size + 1, 0, none⟩) 1 (strs [⟨#[]⟩]) from by
    have := (Ow.lit (w.alloc (.cells #[.slice none 0 0, .slice none 0 0, .slice none 0 0, .slice none 0 0, .slice none 0 0, .slice none 0 0, .slice none 0 0] 28)) 9 (strs [⟨#[]⟩]) (by simp [maxLen])).rd
    simp only [World.size_alloc] at this
    exact this)
  go_enter Try.func12, Try.ntmps12
  go_wp2_with fail
  generalize ((w.alloc (.cells #[.slice none 0 0, .slice none 0 0, .slice none 0 0, .slice none 0 0, .slice none 0 0, .slice none 0 0, .slice none 0 0] 28)).alloc (.cells #[.string ⟨#[]⟩] 9)) = u at *
  refine (C.out _ _ hr.out).mono ?_
  rintro e w1 ⟨A1, n1, c1, A2, n2, c2, rfl, o1, o2, hd, h1⟩
  have hub := hb.out.size
  replace hb := hide (bel_next hb.out h1)
  replace k := hide (k.out.below h1)
  obtain rfl : n1 = 1 := by have := o1.len; simpa using this.symm
  obtain rfl : n2 = 1 := by have := o2.len; simpa using this.symm
  obtain ⟨g2, rfl, _, _⟩ := o2.form (by decide)
  have p0 : w1.cell? ⟨g2, 0, none⟩ = some (.int .i64 0) := by rw [o2.cell 0 (by decide)]; rfl
  have z0 := o2.frozen 0
  have hc0 : ∀ w : World, (convert 3 5 (.int .i64 0)).run Try.prog w = .ok (.int .u8 0) w := fun w => by simp [go_sem]; decide
  clear C hr hd o2 h1
  replace o1 := hide (o1.mono (show w.heap.size ≤ u.heap.size from hub))
  replace o1 := hide (o1.out.alloc (.cells #[.int .i32 0, .bool false, .int .u8 0] 38))
  have ot := hide (show Ok 3 (w1.alloc (.cells #[.int .i32 0, .bool false, .int .u8 0] 38)) w1.heap.size 38 (some ⟨w1.heap.size, 0, none⟩) 1 1 (tcs [(0, false, 0)]) from Ok.lit 3 w1 38 [.int .i32 0, .bool false, .int .u8 0] 1 rfl (by simp [maxLen]))
  have hg := k.out.lt
  have h0s := hb.out.size
  replace k := hide (k.out.alloc (.cells #[.int .i32 0, .bool false, .int .u8 0] 38))
  replace hb := hide (bl_alloc hb.out (.cells #[.int .i32 0, .bool false, .int .u8 0] 38))
  obtain ⟨V, hV⟩ : ∃ V : BkS, V = ⟨⟨none, 0, 0⟩, ⟨none, 0, 0⟩, ⟨some ⟨w1.heap.size, 0, none⟩, 1, 1⟩, ⟨A1, 1, c1⟩, ⟨none, 0, 0⟩, ⟨none, 0, 0⟩, ⟨none, 0, 0⟩⟩ := ⟨_, rfl⟩
  have G := gr_blk V
  have hV2 := hide (show blA V = #[.slice none 0 0, .slice none 0 0, .slice (some ⟨w1.heap.size, 0, none⟩) 1 1, .slice A1 1 c1, .slice none 0 0, .slice none 0 0, .slice none 0 0] from by rw [hV])
  rw [hV2.out] at G
  go_upto_region 2 with fail
  go_wp2_with (first | (refine wpList_store_row rfl 28 _ _ rfl w.heap.size _ rfl rfl _ _ k.out G.1 rfl G.2.2 ?_) | fail)
  have kb := but_row (But.refl w.heap.size (w1.alloc (.cells #[.int .i32 0, .bool false, .int .u8 0] 38))) #[.slice none 0 0, .slice none 0 0, .slice (some ⟨w1.heap.size, 0, none⟩) 1 1, .slice A1 1 c1, .slice none 0 0, .slice none 0 0, .slice none 0 0]
  replace o1 := hide (o1.out.butT k.out (by decide) kb)
  replace ot := hide (ot.out.butT k.out (by decide) kb)
  replace hb := hide (bl_row hb.out (Nat.le_refl _) #[.slice none 0 0, .slice none 0 0, .slice (some ⟨w1.heap.size, 0, none⟩) 1 1, .slice A1 1 c1, .slice none 0 0, .slice none 0 0, .slice none 0 0])
  replace k := hide (ro_row k.out #[.slice none 0 0, .slice none 0 0, .slice (some ⟨w1.heap.size, 0, none⟩) 1 1, .slice A1 1 c1, .slice none 0 0, .slice none 0 0, .slice none 0 0])
  clear kb
  generalize ((w1.alloc (.cells #[.int .i32 0, .bool false, .int .u8 0] 38)).setRow w.heap.size #[.slice none 0 0, .slice none 0 0, .slice (some ⟨w1.heap.size, 0, none⟩) 1 1, .slice A1 1 c1, .slice none 0 0, .slice none 0 0, .slice none 0 0]) = u3 at *
  have hbz := hb.out.size
  refine bodyPost_ret (v := bkV V) (by simp [results, Try.results12, go_sem, hV, (ro_cf k.out 0 _ rfl).1, (ro_cf k.out 1 _ rfl).1, (ro_cf k.out 2 _ rfl).1, (ro_cf k.out 3 _ rfl).1, (ro_cf k.out 4 _ rfl).1, (ro_cf k.out 5 _ rfl).1, (ro_cf k.out 6 _ rfl).1]) rfl ⟨V, rfl, ?_, hb.out⟩
  rw [hV]
  exact ⟨Ow.nil hbz _, Ow.nil hbz _, ot.out.mono h0s, o1.out, Ok.nil hbz _ _, Ow.nil hbz _, Ow.nil hbz _, slB_ok⟩
end lg_
theorem bS_inj {xs ys : List Int} (hx : IsB xs) (hy : IsB ys) (h : bS xs = bS ys) : xs = ys := by
  have := congrArg byt h
  unfold bS at this
  rw [byt_mk, byt_mk] at this
  have h2 := congrArg (List.map (fun c : UInt8 => (c.toNat : Int))) this
  rw [List.map_map, List.map_map] at h2
  have e : ∀ {l : List Int}, IsB l → l.map ((fun c : UInt8 => (c.toNat : Int)) ∘ fun x => UInt8.ofNat x.toNat) = l := fun {l} hl => by
    conv => rhs; rw [← List.map_id l]
    refine List.map_congr_left fun x hm => ?_
    have := hl x hm
    simp
    omega
  rwa [e hx, e hy] at h2
theorem convG {W : World} {A : Option Addr} {n c : Nat} {xs : List Int} (hA : A = none → n = 0 ∧ c = 0) (hr : Rd W A n (bys xs)) (hb : IsB xs) : (convert 23 9 (.slice A n c)).run Try.prog W = .ok (.string (bS xs)) W := by
  rcases A with _ | ad
  · obtain ⟨rfl, rfl⟩ := hA rfl
    obtain rfl : xs = [] := List.eq_nil_of_length_eq_zero (by have := hr.len; simpa using this)
    rfl
  · exact convS hr hb
namespace by_
theorem EqualG (A A' : Option Addr) (n n' c c' : Nat) (xs ys : List Int) (w : World) (hA : A = none → n = 0 ∧ c = 0) (hA' : A' = none → n' = 0 ∧ c' = 0) (hx : IsB xs) (hy : IsB ys) (hr : Rd w A n (bys xs)) (hr' : Rd w A' n' (bys ys)) :
    Calls Try.prog 22 #[.slice A n c, .slice A' n' c'] w fun e w' => e = .returned (.bool (decide (xs = ys))) ∧ w = w' := by
  have c1 := convG (c := c) hA hr hx
  have c2 := convG (c := c') hA' hr' hy
  have q : ((bS xs).toList == (bS ys).toList) = decide (xs = ys) := by
    by_cases e : xs = ys
    · subst e; rw [seq_eq rfl, decide_eq_true rfl]
    · rw [decide_eq_false e]
      exact seq_ne fun h => e (bS_inj hx hy h)
  replace q := hide q
  generalize decide (xs = ys) = z at *
  generalize bS xs = s at *
  generalize bS ys = t at *
  clear hr hr' hA hA' hx hy
  go_enter Try.func22, Try.ntmps22
  go_wp2_with fail
  go_ret
  exact ⟨retb q.out, rfl⟩
end by_
theorem nat0 {n : Nat} : (((n : Nat) : Int) == 0) = decide (n = 0) := by
  by_cases h : n = 0
  · subst h; rfl
  · rw [decide_eq_false h]; simp; omega
namespace lg_
theorem slim_yes {b : Bk} (h : b.ti.length + b.ix.length + b.lp.length + b.sd.length + b.ut.length = 0) : beqB b slB = (decide (b.ty = [(0, false, 0)]) && decide (b.ch = [0])) := by
  unfold beqB slB
  dsimp only
  rw [decide_eq_true (List.length_eq_zero_iff.1 (show b.ti.length = 0 by omega)), decide_eq_true (List.length_eq_zero_iff.1 (show b.ix.length = 0 by omega)), decide_eq_true (List.length_eq_zero_iff.1 (show b.lp.length = 0 by omega)), decide_eq_true (List.length_eq_zero_iff.1 (show b.sd.length = 0 by omega)), decide_eq_true (List.length_eq_zero_iff.1 (show b.ut.length = 0 by omega))]
  simp
theorem slim_no {b : Bk} (h : ¬ b.ti.length + b.ix.length + b.lp.length + b.sd.length + b.ut.length = 0) : beqB b slB = false := by
  rw [← Bool.not_eq_true, beqB_iff]
  intro e
  rw [e] at h
  exact h rfl
set_option maxHeartbeats 2000000 in
theorem IsSlim (S : BkS) (b : Bk) (w : World) (h : IsBk w S b) (hs : S.small) : Calls Try.prog 10 #[bkV S] w fun e w' => e = .returned (.bool (beqB b slB)) ∧ Below w.heap.size w w' := by
  have C := hide (fun W => Slim W)
  obtain ⟨l0, l1, l2, l3, l4, l5, l6⟩ := h.lens
  have n0 := hs.ti
  have n1 := hs.ix
  have n4 := hs.lp
  have n5 := hs.sd
  have n6 := hs.ut
  have a1 : IntKind.i64.wrap ((S.ti.n : Int) + (S.ix.n : Int)) = (S.ti.n : Int) + (S.ix.n : Int) := by rw [IntKind.wrap_i64]; omega
  have a2 : IntKind.i64.wrap ((S.ti.n : Int) + (S.ix.n : Int) + (S.lp.n : Int)) = (S.ti.n : Int) + (S.ix.n : Int) + (S.lp.n : Int) := by rw [IntKind.wrap_i64]; omega
  have a3 : IntKind.i64.wrap ((S.ti.n : Int) + (S.ix.n : Int) + (S.lp.n : Int) + (S.sd.n : Int)) = (S.ti.n : Int) + (S.ix.n : Int) + (S.lp.n : Int) + (S.sd.n : Int) := by rw [IntKind.wrap_i64]; omega
  have a4 : IntKind.i64.wrap ((S.ti.n : Int) + (S.ix.n : Int) + (S.lp.n : Int) + (S.sd.n : Int) + (S.ut.n : Int)) = (S.ti.n : Int) + (S.ix.n : Int) + (S.lp.n : Int) + (S.sd.n : Int) + (S.ut.n : Int) := by rw [IntKind.wrap_i64]; omega
  have z : ((S.ti.n : Int) + (S.ix.n : Int) + (S.lp.n : Int) + (S.sd.n : Int) + (S.ut.n : Int) == 0) = decide (S.ti.n + S.ix.n + S.lp.n + S.sd.n + S.ut.n = 0) := by
    rw [← nat0]
    push_cast
    rfl
  have E1 := hide (fun (V : BkS) W (i : IsBk W S b) (o : OwBk W w.heap.size V slB) => sl_.EqT S.ty.A V.ty.A S.ty.n V.ty.n S.ty.c V.ty.c b.ty slB.ty W (by have := i.oty; unfold Sl.ok at this; omega) (by have := o.is.oty; unfold Sl.ok at this; omega) i.ty o.is.ty)
  have E2 := hide (fun (V : BkS) W (i : IsBk W S b) (o : OwBk W w.heap.size V slB) => by_.EqualG S.ch.A V.ch.A S.ch.n V.ch.n S.ch.c V.ch.c b.ch slB.ch W i.och.1 o.is.och.1 (fun x hx => i.ok.ch.mem x hx) (fun x hx => slB_ok.ch.mem x hx) i.ch o.is.ch)
  have Y := hide (@slim_yes b)
  have Nn := hide (@slim_no b)
  rw [l0, l1, l4, l5, l6] at Y Nn
  have i1 := hide (h.below (bl_new w (.cells (blA S) 28)))
  have hb := hide (bl_new w (.cells (blA S) 28))
  have k := hide (Ro.new w (blA S) 28)
  have k0 := hide (show (blA S)[0]? = some (.slice S.ti.A S.ti.n S.ti.c) from rfl)
  have k1 := hide (show (blA S)[1]? = some (.slice S.ix.A S.ix.n S.ix.c) from rfl)
  have k2 := hide (show (blA S)[2]? = some (.slice S.ty.A S.ty.n S.ty.c) from rfl)
  have k3 := hide (show (blA S)[3]? = some (.slice S.ch.A S.ch.n S.ch.c) from rfl)
  have k4 := hide (show (blA S)[4]? = some (.slice S.lp.A S.lp.n S.lp.c) from rfl)
  have k5 := hide (show (blA S)[5]? = some (.slice S.sd.A S.sd.n S.sd.c) from rfl)
  have k6 := hide (show (blA S)[6]? = some (.slice S.ut.A S.ut.n S.ut.c) from rfl)
  clear h hs l0 l1 l2 l3 l4 l5 l6 n0 n1 n4 n5 n6
  show Calls Try.prog 10 #[.agg (blA S)] w _
  generalize blA S = cs at *
  generalize beqB b slB = r at *
  go_enter Try.func10, Try.ntmps10
  go_upto_region 1 with fail
  generalize (w.alloc (.cells cs 28)) = u at *
  go_wp2_with fail
  refine (C.out _).mono ?_
  rintro e w1 ⟨V, rfl, o1, h1⟩
  replace k := hide (k.out.below h1)
  replace i1 := hide (i1.out.below h1)
  have hub := hb.out.size
  replace hb := hide (bel_next hb.out h1)
  have os := hide (o1.mono hub)
  have kv := hide (Ro.new w1 (blA V) 28)
  replace k := hide (k.out.alloc (.cells (blA V) 28))
  replace i1 := hide (i1.out.alloc (.cells (blA V) 28))
  replace os := hide (os.out.below (bl_new w1 (.cells (blA V) 28)))
  replace hb := hide (bl_alloc hb.out (.cells (blA V) 28))
  have v2 := hide (show (blA V)[2]? = some (.slice V.ty.A V.ty.n V.ty.c) from rfl)
  have v3 := hide (show (blA V)[3]? = some (.slice V.ch.A V.ch.n V.ch.c) from rfl)
  clear C o1 h1
  have G := gr_blk V
  rw [show bkV V = .agg (blA V) from rfl]
  generalize blA V = cv at *
  go_upto_region 2 with (first | (refine wpList_store_row rfl 28 _ _ rfl _ _ rfl rfl _ _ (heap_alloc_last _ _) G.1 (by rw [G.2.1]; rfl) G.2.2 ?_; rw [World.setRow_alloc_new]) | fail)
  obtain ⟨y0, _⟩ := ro_cf k.out 0 _ k0.out
  obtain ⟨y1, _⟩ := ro_cf k.out 1 _ k1.out
  obtain ⟨y2, _⟩ := ro_cf k.out 2 _ k2.out
  obtain ⟨y3, _⟩ := ro_cf k.out 3 _ k3.out
  obtain ⟨y4, _⟩ := ro_cf k.out 4 _ k4.out
  obtain ⟨y5, _⟩ := ro_cf k.out 5 _ k5.out
  obtain ⟨y6, _⟩ := ro_cf k.out 6 _ k6.out
  obtain ⟨x2, _⟩ := ro_cf kv.out 2 _ v2.out
  obtain ⟨x3, _⟩ := ro_cf kv.out 3 _ v3.out
  generalize w1.heap.size = g1 at *
  generalize (w1.alloc (.cells cv 28)) = u2 at *
  go_upto_region 3 with fail
  clear a1 a2 a3 y0 y1 y4 y5 y6
  generalize (S.ti.n : Int) + (S.ix.n : Int) + (S.lp.n : Int) + (S.sd.n : Int) + (S.ut.n : Int) = NI at *
  generalize S.ti.n + S.ix.n + S.lp.n + S.sd.n + S.ut.n = N at *
  by_cases hN : N = 0
  · rw [decide_eq_true hN] at z
    have Y2 := hide (Y.out hN)
    have D := hide (E1.out V _ i1.out os.out)
    rw [show slB.ty = [(0, false, 0)] from rfl] at D
    rw [show slB.ch = [0] from rfl] at E2
    generalize decide (b.ty = [(0, false, 0)]) = d1 at *
    generalize decide (b.ch = [0]) = d2 at *
    clear Y Nn E1
    go_wp2_with fail
    refine D.out.mono ?_
    rintro e w3 ⟨rfl, h1⟩
    replace k := hide (k.out.below h1)
    replace kv := hide (kv.out.below h1)
    replace i1 := hide (i1.out.below h1)
    replace os := hide (os.out.below h1)
    replace hb := hide (bel_next hb.out h1)
    clear D h1 y2 y3 x2 x3
    obtain ⟨y3, _⟩ := ro_cf k.out 3 _ k3.out
    obtain ⟨x3, _⟩ := ro_cf kv.out 3 _ v3.out
    have D := hide (E2.out V _ i1.out os.out)
    clear E2
    cases d1
    · go_wp2
      go_ret
      exact ⟨retb (by rw [Y2.out]; rfl), hb.out⟩
    · go_wp2_with fail
      refine D.out.mono ?_
      rintro e w4 ⟨rfl, rfl⟩
      go_wp2
      go_ret
      exact ⟨retb (by rw [Y2.out]; rfl), hb.out⟩
  · have hr := hide (Nn.out hN)
    rw [decide_eq_false hN] at z
    clear Y Nn E1 E2
    go_wp2
    go_ret
    exact ⟨retb hr.out.symm, hb.out⟩
end lg_
namespace r22_
set_option maxHeartbeats 1000000 in
theorem Slim (w : World) : Calls Try.prog 23 #[] w fun e w' => ∃ V, e = .returned (bkV V) ∧ OwBk w' w.heap.size V slB ∧ Below w.heap.size w w' := by
  have hb := hide (bl_new w (.cells #[.slice none 0 0, .slice none 0 0, .slice none 0 0, .slice none 0 0, .slice none 0 0, .slice none 0 0, .slice none 0 0] 28))
  have k := hide (Ro.new w #[.slice none 0 0, .slice none 0 0, .slice none 0 0, .slice none 0 0, .slice none 0 0, .slice none 0 0, .slice none 0 0] 28)
  go_enter Try.func23, Try.ntmps23
  go_upto_region 1 with fail
  have hu := hb.out.size
  generalize (w.alloc (.cells #[.slice none 0 0, .slice none 0 0, .slice none 0 0, .slice none 0 0, .slice none 0 0, .slice none 0 0, .slice none 0 0] 28)) = u at *
  have ot := hide (show Ok 3 (u.alloc (.cells #[.int .i32 0, .bool false, .int .u8 0] 38)) u.heap.size 38 (some ⟨u.heap.size, 0, none⟩) 1 1 (tcs [(0, false, 0)]) from Ok.lit 3 u 38 [.int .i32 0, .bool false, .int .u8 0] 1 rfl (by simp [maxLen]))
  have o1 := hide (Ow.lit (u.alloc (.cells #[.int .i32 0, .bool false, .int .u8 0] 38)) 5 (bys [0]) (by simp [maxLen]))
  replace ot := hide (ot.out.alloc (.cells #[.int .u8 0] 5))
  replace k := hide ((k.out.alloc (.cells #[.int .i32 0, .bool false, .int .u8 0] 38)).alloc (.cells #[.int .u8 0] 5))
  replace hb := hide (bl_alloc (bl_alloc hb.out (.cells #[.int .i32 0, .bool false, .int .u8 0] 38)) (.cells #[.int .u8 0] 5))
  simp only [World.size_alloc] at o1
  obtain ⟨V, hV⟩ : ∃ V : BkS, V = ⟨⟨none, 0, 0⟩, ⟨none, 0, 0⟩, ⟨some ⟨u.heap.size, 0, none⟩, 1, 1⟩, ⟨some ⟨u.heap.size + 1, 0, none⟩, 1, 1⟩, ⟨none, 0, 0⟩, ⟨none, 0, 0⟩, ⟨none, 0, 0⟩⟩ := ⟨_, rfl⟩
  have G := gr_blk V
  rw [show blA V = #[.slice none 0 0, .slice none 0 0, .slice (some ⟨u.heap.size, 0, none⟩) 1 1, .slice (some ⟨u.heap.size + 1, 0, none⟩) 1 1, .slice none 0 0, .slice none 0 0, .slice none 0 0] from by rw [hV]] at G
  go_wp2_with (first | (refine wpList_store_row rfl 28 _ _ rfl w.heap.size _ rfl rfl _ _ k.out G.1 rfl G.2.2 ?_) | fail)
  have kb := but_row (But.refl w.heap.size ((u.alloc (.cells #[.int .i32 0, .bool false, .int .u8 0] 38)).alloc (.cells #[.int .u8 0] 5))) #[.slice none 0 0, .slice none 0 0, .slice (some ⟨u.heap.size, 0, none⟩) 1 1, .slice (some ⟨u.heap.size + 1, 0, none⟩) 1 1, .slice none 0 0, .slice none 0 0, .slice none 0 0]
  replace o1 := hide (Ow.butT (show Ow ((u.alloc (.cells #[.int .i32 0, .bool false, .int .u8 0] 38)).alloc (.cells #[.int .u8 0] 5)) _ _ _ _ _ _ from o1.out) k.out (by decide) kb)
  replace ot := hide (ot.out.butT k.out (by decide) kb)
  replace hb := hide (bl_row hb.out (Nat.le_refl _) #[.slice none 0 0, .slice none 0 0, .slice (some ⟨u.heap.size, 0, none⟩) 1 1, .slice (some ⟨u.heap.size + 1, 0, none⟩) 1 1, .slice none 0 0, .slice none 0 0, .slice none 0 0])
  replace k := hide (ro_row k.out #[.slice none 0 0, .slice none 0 0, .slice (some ⟨u.heap.size, 0, none⟩) 1 1, .slice (some ⟨u.heap.size + 1, 0, none⟩) 1 1, .slice none 0 0, .slice none 0 0, .slice none 0 0])
  clear kb
  generalize (((u.alloc (.cells #[.int .i32 0, .bool false, .int .u8 0] 38)).alloc (.cells #[.int .u8 0] 5)).setRow w.heap.size #[.slice none 0 0, .slice none 0 0, .slice (some ⟨u.heap.size, 0, none⟩) 1 1, .slice (some ⟨u.heap.size + 1, 0, none⟩) 1 1, .slice none 0 0, .slice none 0 0, .slice none 0 0]) = u3 at *
  have hbz := hb.out.size
  refine bodyPost_ret (v := bkV V) (by simp [results, Try.results23, go_sem, hV, (ro_cf k.out 0 _ rfl).1, (ro_cf k.out 1 _ rfl).1, (ro_cf k.out 2 _ rfl).1, (ro_cf k.out 3 _ rfl).1, (ro_cf k.out 4 _ rfl).1, (ro_cf k.out 5 _ rfl).1, (ro_cf k.out 6 _ rfl).1]) rfl ⟨V, rfl, ?_, hb.out⟩
  rw [hV]
  exact ⟨Ow.nil hbz _, Ow.nil hbz _, ot.out.mono hu, o1.out.mono (by omega), Ok.nil hbz _ _, Ow.nil hbz _, Ow.nil hbz _, slB_ok⟩
theorem other_ (i k : Nat) (w : World) : Calls Try.prog 36 #[.int .i64 (i : Nat), .int .i64 (k : Nat)] w fun e w' => e = .returned (.int .i64 ((other i k : Nat) : Int)) ∧ w = w' := by
  unfold other
  by_cases a : i = 0
  · subst a
    rw [if_pos rfl]
    go_enter Try.func36, Try.ntmps36
    go_wp2
    go_ret
    exact ⟨rfl, rfl⟩
  · have d0 : ((i : Int) == 0) = false := by simp; omega
    rw [if_neg a]
    by_cases b : i = k
    · subst b
      rw [if_pos rfl]
      go_enter Try.func36, Try.ntmps36
      go_wp2
      go_ret
      exact ⟨rfl, rfl⟩
    · have d1 : ((i : Int) == (k : Int)) = false := by simp; omega
      rw [if_neg b]
      clear a b
      go_enter Try.func36, Try.ntmps36
      go_wp2
      go_ret
      exact ⟨rfl, rfl⟩
/-- the type in effect of the first m transitions. -/
def inN (b : Bk) (t : Int) (m : Nat) : Int := ((((b.ti.zip b.ix).take m).filter (fun p => decide (p.1 ≤ t))).getLast?.map (·.2)).getD 0
theorem inN_step {b : Bk} {t : Int} {m : Nat} {x y : Int} (hx : b.ti[m]? = some x) (hy : b.ix[m]? = some y) : inN b t (m + 1) = if x ≤ t then y else inN b t m := by
  unfold inN
  have hz : (b.ti.zip b.ix)[m]? = some (x, y) := List.getElem?_zip_eq_some.2 ⟨hx, hy⟩
  rw [List.take_add_one, hz, List.filter_append]
  by_cases h : x ≤ t
  · rw [if_pos h]
    simp [h]
  · rw [if_neg h]
    simp [h]
theorem inN_all {b : Bk} {t : Int} {m : Nat} (h : b.ti.length ≤ m) : inN b t m = inE b t := by
  unfold inN inE
  rw [List.take_of_length_le (by rw [List.length_zip]; omega)]
set_option maxHeartbeats 1000000 in
theorem InEffect (S : BkS) (b : Bk) (t : Int) (w : World) (h : IsBk w S b) (hs : S.small) (hl : b.ix.length = b.ti.length) : Calls Try.prog 15 #[bkV S, .int .i64 t] w fun e w' => e = .returned (.int .i64 (inE b t)) ∧ Below w.heap.size w w' := by
  obtain ⟨l0, l1, _⟩ := h.lens
  have n0 := hs.ti
  have hR := hide (fun W (hb : Below w.heap.size w W) => h.below hb)
  have hix : S.ix.n = S.ti.n := by omega
  have hfin := hide (inN_all (b := b) (t := t) (m := S.ti.n) (by omega))
  have B := hide (fun (x : Int) (hx : x ∈ b.ix) => h.ok.ix.mem x hx)
  have g0 : ∀ i, i < S.ti.n → ∃ x y, b.ti[i]? = some x ∧ b.ix[i]? = some y := fun i hi => ⟨_, _, List.getElem?_eq_getElem (by omega), List.getElem?_eq_getElem (by omega)⟩
  replace g0 := hide g0
  have hb := hide (bl_new w (.cells (blA S) 28))
  have k := hide (Ro.new w (blA S) 28)
  have k0 := hide (show (blA S)[0]? = some (.slice S.ti.A S.ti.n S.ti.c) from rfl)
  have k1 := hide (show (blA S)[1]? = some (.slice S.ix.A S.ix.n S.ix.c) from rfl)
  clear h hs hl l0 l1
  show Calls Try.prog 15 #[.agg (blA S), .int .i64 t] w _
  generalize blA S = cs at *
  go_enter Try.func15, Try.ntmps15
  go_upto_region 1 with fail
  generalize (w.alloc (.cells cs 28)) = u at *
  go_wp2
  go_loopw [5, 6] (fun s5 s6 wr => ∃ m : Nat, m ≤ S.ti.n ∧ s5 = .int .i64 (inN b t m) ∧ s6 = .int .i64 (m : Nat) ∧ Hid (Ro wr w.heap.size cs 28) ∧ Hid (Below w.heap.size w wr)) (fun _ s6 _ => S.ti.n - (intOf s6).toNat)
  case atStart => exact ⟨0, by omega, rfl, rfl, k, hb⟩
  case round =>
    clear k hb
    obtain ⟨m, hm, rfl, rfl, k, hb⟩ := hrel
    obtain ⟨y0, _⟩ := ro_cf k.out 0 _ k0.out
    by_cases hlt : m < S.ti.n
    · obtain ⟨x, y, hx, hy⟩ := g0.out m hlt
      have hst := inN_step (t := t) hx hy
      obtain ⟨ad, e0, c0⟩ := (hR.out _ hb.out).ti.int hlt
      obtain ⟨ad', e1, c1⟩ := (hR.out _ hb.out).ix.int (show m < S.ix.n by omega)
      rw [hx] at c0
      rw [hy] at c1
      simp only [Option.getD_some] at c0 c1
      have by_ := B.out y (List.mem_of_getElem? hy)
      have hcv : ∀ w : World, (convert 5 3 (.int .u8 y)).run Try.prog w = .ok (.int .i64 y) w := fun w => by simp [go_sem]; rw [IntKind.wrap_i64]; omega
      rw [e0] at y0
      have i1 : IntKind.i64.wrap ((m : Int) + 1) = ((m + 1 : Nat) : Int) := by rw [IntKind.wrap_i64]; omega
      clear by_ hx hy
      by_cases hle : x ≤ t
      · rw [if_pos hle] at hst
        have d1 : decide (x ≤ t) = true := decide_eq_true hle
        have hxn : m < S.ix.n := by omega
        obtain ⟨y1, _⟩ := ro_cf k.out 1 _ k1.out
        rw [e1] at y1
        replace hst := hide hst
        replace hle := hide hle
        go_wp2
        go_roundw
        case rel => exact ⟨m + 1, by omega, by rw [hst.out], by go_num, k, hb⟩
        case measure => simp [intOf]; omega
      · rw [if_neg hle] at hst
        have d1 : decide (x ≤ t) = false := decide_eq_false hle
        replace hst := hide hst
        replace hle := hide hle
        clear c1 e1
        go_wp2
        go_roundw
        case rel => exact ⟨m + 1, by omega, by rw [hst.out], by go_num, k, hb⟩
        case measure => simp [intOf]; omega
    · obtain rfl : m = S.ti.n := by omega
      have e := hide (congrArg (fun x => Ending.returned (.int .i64 x)) hfin.out)
      go_wp2
      go_ret
      exact ⟨e.out, hb.out⟩
set_option maxHeartbeats 1000000 in
theorem IsSlim (S : BkS) (b : Bk) (w : World) (h : IsBk w S b) : Calls Try.prog 11 #[bkV S] w fun e w' => e = .returned (.bool (beqB b slB)) ∧ Below w.heap.size w w' := by
  have C := hide (fun W => Slim W)
  have E := hide (fun V W B (i : IsBk W S b) (o : OwBk W B V slB) => (show Calls Try.prog 16 #[.agg (blA S), bkV V] W fun e w' => e = .returned (.bool (beqB b slB)) ∧ Below W.heap.size W w' from r19_.Equal S V b slB W i o.is))
  have i1 := hide (h.alloc (.cells (blA S) 28))
  have hb := hide (bl_new w (.cells (blA S) 28))
  have k := hide (Ro.new w (blA S) 28)
  have G := gr_blk S
  clear h
  show Calls Try.prog 11 #[.agg (blA S)] w _
  generalize blA S = cs at *
  go_enter Try.func11, Try.ntmps11
  go_upto_region 1 with fail
  generalize (w.alloc (.cells cs 28)) = u at *
  refine wp_region_held_drew (S := fun w' => Hid (Ro w' (w.heap.size) (cs) 28) ∧ Hid (IsBk w' S b) ∧ Hid (Below w.heap.size w w')) (by kernel_rfl) (⟨hide k.out.drew, hide i1.out.drew, hide (bl_drew hb.out)⟩) (fun hHeld => ?_)
  generalize u.drew = u0 at *
  refine wpAnyH_takeD (i := 0) (d := (some 3)) rfl rfl (by kernel_rfl) (by kernel_rfl) (by kernel_rfl) (fun _ _ _ h => h) (yieldsIf_load_row (by rfl) 28 _ rfl (w.heap.size) rfl 28 cs _ (fun w hw => hw.1.out) Try.underlying28 rfl G.1) (by assumption) ?_
  try simp only [Act.put, List.setIfInBounds_toArray, List.set_cons_zero, List.set_cons_succ]
  refine wpAnyH_ready (rs := [1]) (by kernel_rfl) (by simp) ?_
  refine AllReadyH.cons rfl (fun K hK => ?_) (AllReadyH.nil)
  go_simp
  refine (C.out _).mono ?_
  rintro e v1 ⟨V, rfl, ov, h1'⟩
  refine hK.out _ _ (⟨hide (hHeld.1.out.below h1'), hide (hHeld.2.1.out.below h1'), hide (bel_next hHeld.2.2.out h1')⟩) (fun hHeld => ?_)
  clear hK K h1'
  try simp only [Act.put, List.setIfInBounds_toArray, List.set_cons_zero, List.set_cons_succ]
  refine wpAnyH_ready (rs := [2]) (by kernel_rfl) (by simp) ?_
  refine AllReadyH.cons rfl (fun K hK => ?_) (AllReadyH.nil)
  go_simp
  refine (E.out V _ _ hHeld.2.1.out ov).mono ?_
  rintro e v2 ⟨rfl, h1'⟩
  refine hK.out _ _ (⟨hide (hHeld.1.out.below h1'), hide (hHeld.2.1.out.below h1'), hide (bel_next hHeld.2.2.out h1')⟩) (fun hHeld => ?_)
  clear hK K h1'
  try simp only [Act.put, List.setIfInBounds_toArray, List.set_cons_zero, List.set_cons_succ]
  refine wpAnyH_takeD (i := 3) (d := (some 2)) (v := ?_) rfl rfl (by kernel_rfl) (by kernel_rfl) (by kernel_rfl) (fun _ _ _ h => h) (Or.inl ⟨by rfl, ?_⟩) (by assumption) ?_
  rotate_left
  · ((intro w hSw; go_simp) <;> with_reducible rfl)
  try simp only [Act.put, List.setIfInBounds_toArray, List.set_cons_zero, List.set_cons_succ]
  refine wpAnyH_done (by kernel_rfl) ?_ _
  go_wp2_with fail
  go_ret
  exact ⟨rfl, hHeld.2.2.out⟩
end r22_
end Go.Proofs.Ytgbojkbhkjameaa

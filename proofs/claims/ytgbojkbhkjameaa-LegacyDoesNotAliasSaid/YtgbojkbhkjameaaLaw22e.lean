/-
  THE WALK OF A LAW OF LAYER 22 (zoneinfolaw22): LegacyDoesNotAlias. No condition.
-/
import Derived.Test.YtgbojkbhkjameaaLaw22
import Derived.Test.YtgbojkbhkjameaaLgR
import Derived.Test.YtgbojkbhkjameaaLw22
import Derived.Deep.RegionHeld3
import Derived.Deep.DeepCutAuto
namespace Go.Proofs.Ytgbojkbhkjameaa
open Go.ChangeShapes Go.WideShapes Go.ChangeAt Go.RowKit
set_option linter.unusedVariables false
set_option linter.unusedSimpArgs false
set_option maxRecDepth 100000
/-- a row whose cells are p, whatever they hold. -/
def Rw (p : Value → Prop) (w : World) (A : Option Addr) (N : Nat) (T : TypeId) (lo hi : Nat) : Prop := 0 < N → ∃ g cur, A = some ⟨g, 0, none⟩ ∧ Ro w g cur T ∧ lo ≤ g ∧ g < hi ∧ ∀ j, j < N → ∃ v, cur[j]? = some v ∧ p v
theorem Rw.below {p : Value → Prop} {w w' : World} {A : Option Addr} {N lo hi : Nat} {T : TypeId} (h : Rw p w A N T lo hi) (hb : Below w.heap.size w w') : Rw p w' A N T lo hi := fun hn => by
  obtain ⟨g, cur, h1, h2, h3⟩ := h hn
  exact ⟨g, cur, h1, h2.below hb, h3⟩
theorem ro_inj {w : World} {g : Nat} {vs vs' : Array Value} {T T' : TypeId} (h : Ro w g vs T) (h' : Ro w g vs' T') : T = T' := by
  unfold Ro at h h'
  rw [h] at h'
  cases h'
  rfl
theorem Rw.set {p : Value → Prop} {w : World} {A : Option Addr} {N lo hi g' j' : Nat} {T T' : TypeId} {cur' : Array Value} {v : Value} (h : Rw p w A N T lo hi) (k : Ro w g' cur' T') (hv : T' ≠ T ∨ p v) : Rw p (w.setCell ⟨g', j', none⟩ v) A N T lo hi := fun hn => by
  obtain ⟨g, cur, h1, h2, h3, h4, h5⟩ := h hn
  by_cases hg : g' = g
  · subst hg
    refine ⟨g', _, h1, ro_set h2 j' v, h3, h4, fun j hj => ?_⟩
    obtain ⟨u, hu, pu⟩ := h5 j hj
    have hp : p v := hv.resolve_left (fun q => q (ro_inj k h2))
    by_cases e : j' = j
    · subst e
      exact ⟨v, by have := (Array.getElem?_eq_some_iff.1 hu).1; simp [this], hp⟩
    · exact ⟨u, by rw [Array.getElem?_setIfInBounds_ne e]; exact hu, pu⟩
  · exact ⟨g, cur, h1, ro_set_ne h2 hg j' v, h3, h4, h5⟩
theorem own_rw {p : Value → Prop} {w : World} {b n c s hi : Nat} {e : TypeId} {A : Option Addr} {xs : List Value} (h : w.ownsRow b e s (.slice A n c) n xs) (hp : ∀ x ∈ xs, p x) (hs : w.heap.size ≤ hi) : Rw p w A (n * s) e b hi := fun hn => by
  obtain ⟨hl, h | ⟨g, cap, cur, e1, e2, e3, e4, e5, e6, e7⟩⟩ := h
  · have := h.2
    subst this
    simp at hn
  · cases e1
    have hg : g < w.heap.size := by
      rcases Nat.lt_or_ge g w.heap.size with q | q
      · exact q
      · rw [Array.getElem?_eq_none q] at e3; cases e3
    refine ⟨g, cur, rfl, e3, e2, by omega, fun j hj => ?_⟩
    obtain ⟨x, hx⟩ : ∃ x, xs[j]? = some x := ⟨_, List.getElem?_eq_getElem (by omega)⟩
    have hx' := hx
    rw [← e7, List.getElem?_take, if_pos hj, Array.getElem?_toList] at hx'
    exact ⟨x, hx', hp x (List.mem_of_getElem? hx)⟩
/-- what stays while a view's lists are written over. -/
structure Al (u : World) (gx gw : Nat) (cx cw : Array Value) (V W : BkS) (q : Bk) (hi : Nat) (w : World) : Prop where
  bl : Below u.heap.size u w
  kx : Ro w gx cx 28
  kw : Ro w gw cw 28
  was : OwBk w hi W q
  ti : Rw (fun _ => True) w V.ti.A (V.ti.n * 1) 2 u.heap.size hi
  ix : Rw (fun _ => True) w V.ix.A (V.ix.n * 1) 5 u.heap.size hi
  ty : Rw (fun _ => True) w V.ty.A (V.ty.n * 3) 38 u.heap.size hi
  ch : Rw (fun _ => True) w V.ch.A (V.ch.n * 1) 5 u.heap.size hi
  sd : Rw (fun v => ∃ b, v = .bool b) w V.sd.A (V.sd.n * 1) 4 u.heap.size hi
theorem Al.below {u : World} {gx gw : Nat} {cx cw : Array Value} {V W : BkS} {q : Bk} {hi : Nat} {w w' : World} (h : Al u gx gw cx cw V W q hi w) (hb : Below w.heap.size w w') : Al u gx gw cx cw V W q hi w' :=
  ⟨bel_next h.bl hb, h.kx.below hb, h.kw.below hb, h.was.below hb, h.ti.below hb, h.ix.below hb, h.ty.below hb, h.ch.below hb, h.sd.below hb⟩
theorem Al.set {u : World} {gx gw : Nat} {cx cw : Array Value} {V W : BkS} {q : Bk} {hi : Nat} {w : World} (h : Al u gx gw cx cw V W q hi w) {g j : Nat} {cur : Array Value} {T : TypeId} {v : Value} (k : Ro w g cur T) (hT : 28 ≠ T) (lo : u.heap.size ≤ g) (hg : g < hi) (hv : T ≠ 4 ∨ ∃ b, v = .bool b) : Al u gx gw cx cw V W q hi (w.setCell ⟨g, j, none⟩ v) :=
  ⟨bl_set h.bl lo _, ro_set_ne h.kx (fun e => hT (by subst e; exact ro_inj h.kx k)) j v, ro_set_ne h.kw (fun e => hT (by subst e; exact ro_inj h.kw k)) j v, h.was.setLow j hg v, h.ti.set k (.inr trivial), h.ix.set k (.inr trivial), h.ty.set k (.inr trivial), h.ch.set k (.inr trivial), h.sd.set k hv⟩
namespace l22_
set_option maxHeartbeats 1500000 in
theorem alias_ (S : BkS) (b : Bk) (w : World) (h : IsBk w S b) : Calls Try.prog 7 #[bkV S] w fun e w' => e = .returned (.bool true) ∧ Below w.heap.size w w' := by
  have AW := hide (fun W => awake W)
  have FW := hide (fun W (i : IsBk W S b) => (show Calls Try.prog 9 #[.agg (blA S)] W fun e w' => e = .returned (.bool (fewB b)) ∧ Below W.heap.size W w' from r19_.Few S b W i))
  have VA := hide (fun W (i : IsBk W S b) => (show Calls Try.prog 13 #[.agg (blA S)] W fun e w' => e = .returned (.bool (fewB b && decide (vB b true 8 = 0))) ∧ Below W.heap.size W w' from valid S b W i))
  have VW := hide (fun (s1 : S.small) (hv : BOk b true 8) W (i : IsBk W S b) => (show Calls Try.prog 17 #[.agg (blA S)] W fun e w' => ∃ V, e = .returned (bkV V) ∧ OwBk w' W.heap.size V (viewB b) ∧ Below W.heap.size W w' from lg_.View S b true W i s1 hv))
  have RV := hide (fun (s1 : S.small) (hv : BOk b true 8) W (i : IsBk W S b) => (show Calls Try.prog 18 #[.agg (blA S)] W fun e w' => ∃ V, e = .returned (bkV V) ∧ OwBk w' W.heap.size V (viewB b) ∧ Below W.heap.size W w' from r22_.View S b true W i s1 hv))
  have fs := hide (fun W (i : IsBk W S b) hf => few_small i hf)
  have vo := hide (vB_iff b true 8).1
  have G := gr_blk S
  have k := hide (Ro.new w (blA S) 28)
  have hb := hide (bl_new w (.cells (blA S) 28))
  have i1 := hide (h.below hb.out)
  have s1 := hide (fs.out _ h)
  have hR := hide (fun W (hB : Below w.heap.size w W) => h.below hB)
  have hl := h.lens
  have bok := hide h.ok
  have k_0 := hide (show (blA S)[0]? = some (.slice S.ti.A S.ti.n S.ti.c) from rfl)
  clear h fs FW
  show Calls Try.prog 7 #[.agg (blA S)] w _
  generalize blA S = cs at *
  go_enter Try.func7, Try.ntmps7
  go_upto_region 1 with fail
  generalize w.alloc (.cells cs 28) = u at *
  go_wp2_with fail
  refine (AW.out _).mono ?_
  rintro e y1 ⟨rfl, h1⟩
  replace k := hide (k.out.below h1)
  replace i1 := hide (i1.out.below h1)
  replace hb := hide (bel_next hb.out h1)
  clear h1
  cases hfv : (fewB b && decide (vB b true 8 = 0))
  · rw [hfv] at VA
    go_wp2_with (first | (refine load_row_g (by rfl) 28 _ rfl _ rfl _ _ _ k.out Try.underlying28 rfl G.1 ?_) | fail)
    refine (VA.out _ i1.out).mono ?_
    rintro e y2 ⟨rfl, h1⟩
    replace k := hide (k.out.below h1)
    replace i1 := hide (i1.out.below h1)
    replace hb := hide (bel_next hb.out h1)
    clear h1
    go_wp2_with fail
    refine (AW.out _).mono ?_
    rintro e y3 ⟨rfl, h1⟩
    replace k := hide (k.out.below h1)
    replace i1 := hide (i1.out.below h1)
    replace hb := hide (bel_next hb.out h1)
    clear h1
    go_wp2
    go_ret
    exact ⟨rfl, hb.out⟩
  · rw [hfv] at VA
    rw [Bool.and_eq_true] at hfv
    have few := hide hfv.1
    have s2 := hide (s1.out hfv.1)
    have hV := hide (vo.out (of_decide_eq_true hfv.2))
    clear s1 vo hfv
    go_wp2_with (first | (refine load_row_g (by rfl) 28 _ rfl _ rfl _ _ _ k.out Try.underlying28 rfl G.1 ?_) | fail)
    refine (VA.out _ i1.out).mono ?_
    rintro e y2 ⟨rfl, h1⟩
    replace k := hide (k.out.below h1)
    replace i1 := hide (i1.out.below h1)
    replace hb := hide (bel_next hb.out h1)
    clear h1
    clear VA AW
    replace VW := hide (VW.out s2.out hV.out)
    replace RV := hide (RV.out s2.out hV.out)
    have kU := hide k.out
    have hbU := hide hb.out
    have hlen := hide (view_len hV.out)
    go_wp2_with (first | (refine load_row_g (by rfl) 28 _ rfl _ rfl _ _ _ k.out Try.underlying28 rfl G.1 ?_) | fail)
    obtain ⟨u1, hu1⟩ : ∃ u1, u1 = y2 := ⟨_, rfl⟩
    rw [← hu1] at kU hbU
    refine (VW.out _ i1.out).mono ?_
    rintro e x1 ⟨V, rfl, o1, h1⟩
    have bU := hide h1
    rw [← hu1] at o1 bU
    replace k := hide (k.out.below h1)
    replace i1 := hide (i1.out.below h1)
    replace hb := hide (bel_next hb.out h1)
    clear h1
    have oV := hide (o1.below (bl_new x1 (.cells (blA V) 28)))
    have kx := hide (Ro.new x1 (blA V) 28)
    have Gx := gr_blk V
    have v_0 := hide (show (blA V)[0]? = some (.slice V.ti.A V.ti.n V.ti.c) from rfl)
    have v_1 := hide (show (blA V)[1]? = some (.slice V.ix.A V.ix.n V.ix.c) from rfl)
    have v_2 := hide (show (blA V)[2]? = some (.slice V.ty.A V.ty.n V.ty.c) from rfl)
    have v_3 := hide (show (blA V)[3]? = some (.slice V.ch.A V.ch.n V.ch.c) from rfl)
    have v_5 := hide (show (blA V)[5]? = some (.slice V.sd.A V.sd.n V.sd.c) from rfl)
    rw [show bkV V = .agg (blA V) from rfl]
    generalize blA V = cx at *
    have h1 := bl_new x1 (.cells cx 28)
    replace bU := hide (bel_next bU.out h1)
    clear o1
    replace k := hide (k.out.below h1)
    replace i1 := hide (i1.out.below h1)
    replace hb := hide (bel_next hb.out h1)
    clear h1
    go_upto_region 4 with (first | (refine wpList_store_row rfl 28 _ _ rfl _ _ rfl rfl _ _ (heap_alloc_last _ _) Gx.1 (by rw [Gx.2.1]; rfl) Gx.2.2 ?_; rw [World.setRow_alloc_new]) | fail)
    generalize x1.heap.size = gx at *
    generalize x1.alloc (.cells cx 28) = x2 at *
    go_wp2_with (first | (refine load_row_g (by rfl) 28 _ rfl _ rfl _ _ _ k.out Try.underlying28 rfl G.1 ?_) | fail)
    refine (RV.out _ i1.out).mono ?_
    rintro e x3 ⟨W, rfl, o2, h1⟩
    have hi := hide (show x2.heap.size ≤ x2.heap.size from Nat.le_refl _)
    have aV := hide (show Rw (fun _ => True) x2 V.ti.A (V.ti.n * 1) 2 u1.heap.size x2.heap.size ∧ Rw (fun _ => True) x2 V.ix.A (V.ix.n * 1) 5 u1.heap.size x2.heap.size ∧ Rw (fun _ => True) x2 V.ty.A (V.ty.n * 3) 38 u1.heap.size x2.heap.size ∧ Rw (fun _ => True) x2 V.ch.A (V.ch.n * 1) 5 u1.heap.size x2.heap.size ∧ Rw (fun v => ∃ b, v = .bool b) x2 V.sd.A (V.sd.n * 1) 4 u1.heap.size x2.heap.size from ⟨own_rw oV.out.ti.2 (fun _ _ => trivial) (Nat.le_refl _), own_rw oV.out.ix.2 (fun _ _ => trivial) (Nat.le_refl _), own_rw oV.out.ty.2 (fun _ _ => trivial) (Nat.le_refl _), own_rw oV.out.ch.2 (fun _ _ => trivial) (Nat.le_refl _), own_rw oV.out.sd.2 (fun x hx => by obtain ⟨q, _, rfl⟩ := List.mem_map.1 hx; exact ⟨q, rfl⟩) (Nat.le_refl _)⟩)
    have hin := hide (show V.ix.n = V.ti.n from by have := oV.out.is.lens; have := hlen.out; omega)
    have hsv := hide (view_small oV.out.is few.out)
    have kw := hide (Ro.new x3 (blA W) 28)
    have Gw := gr_blk W
    have h2 := bl_new x3 (.cells (blA W) 28)
    have AL := hide (show Al u1 gx x3.heap.size cx (blA W) V W (viewB b) x2.heap.size (x3.alloc (.cells (blA W) 28)) from ⟨bel_next (bel_next bU.out h1) h2, (kx.out.below h1).below h2, kw.out, o2.below h2, (aV.out.1.below h1).below h2, (aV.out.2.1.below h1).below h2, (aV.out.2.2.1.below h1).below h2, (aV.out.2.2.2.1.below h1).below h2, (aV.out.2.2.2.2.below h1).below h2⟩)
    have Wi := hide (fun w' (o : OwBk w' x2.heap.size W (viewB b)) => o)
    have kUb := hide (fun W9 (hB : Below u1.heap.size u1 W9) => kU.out.below hB)
    have hbb := hide (fun W9 (hB : Below u1.heap.size u1 W9) => bel_next hbU.out hB)
    have EQ := hide (fun V9 W9 B (o : OwBk W9 B V9 (viewB b)) (o' : OwBk W9 x2.heap.size W (viewB b)) => (show Calls Try.prog 16 #[bkV V9, .agg (blA W)] W9 fun e w' => e = .returned (.bool true) ∧ Below W9.heap.size W9 w' from by have := r19_.Equal V9 W (viewB b) (viewB b) W9 o.is o'.is; rw [beqB_self] at this; exact this))
    rw [show bkV W = .agg (blA W) from rfl]
    generalize blA W = cw at *
    clear h1 h2 o2 kw kx aV oV hi bU Wi k hb i1 RV hu1 kU hbU
    go_upto_region 5 with (first | (refine wpList_store_row rfl 28 _ _ rfl _ _ rfl rfl _ _ (heap_alloc_last _ _) Gw.1 (by rw [Gw.2.1]; rfl) Gw.2.2 ?_; rw [World.setRow_alloc_new]) | fail)
    generalize x3.heap.size = gw at *
    generalize x3.alloc (.cells cw 28) = x4 at *
    generalize x2.heap.size = hi at *
    have hIX : ((V.ix.n : Int) != (V.ti.n : Int)) = false := by rw [hin.out]; simp
    obtain ⟨n0, n1, n2, n3, _, n5, _⟩ := hsv.out
    obtain ⟨y0, _⟩ := ro_cf AL.out.kx 0 _ v_0.out
    obtain ⟨y1, _⟩ := ro_cf AL.out.kx 1 _ v_1.out
    obtain ⟨y2_, _⟩ := ro_cf AL.out.kx 2 _ v_2.out
    go_wp2_with fail
    go_loopw [5] (fun i wr => ∃ m : Nat, m ≤ V.ty.n ∧ i = .int .i64 (m : Nat) ∧ Hid (Al u1 gx gw cx cw V W (viewB b) hi wr)) (fun i _ => V.ty.n - (intOf i).toNat)
    case atStart => exact ⟨0, by omega, rfl, AL⟩
    case round =>
      clear AL y0 y1 y2_
      obtain ⟨m, hm, rfl, AL⟩ := hrel
      by_cases hlt : m < V.ty.n
      · have d1 : (m : Int) < (V.ty.n : Int) := by omega
        have d3 : IntKind.i64.wrap ((m : Int) + 1) = ((m + 1 : Nat) : Int) := by rw [IntKind.wrap_i64]; omega
        obtain ⟨y2, _⟩ := ro_cf AL.out.kx 2 _ v_2.out
        obtain ⟨ga, curga, ega, kga, loga, higa, cga⟩ := AL.out.ty (by omega)
        obtain ⟨vga, hga, pga⟩ := cga (m * 3) (by omega)
        obtain ⟨fga, zga⟩ := ro_cf kga _ _ hga
        rw [ega] at y2
        have AL2 := hide (AL.out.set (j := m * 3) (v := .int .i32 77) kga (by decide) loga higa (.inl (by decide)))
        go_wp2
        go_roundw
        case rel => exact ⟨m + 1, by omega, by go_num, AL2⟩
        case measure => simp [intOf]; omega
      · obtain rfl : m = V.ty.n := by omega
        clear hlt hm
        obtain ⟨y2, _⟩ := ro_cf AL.out.kx 2 _ v_2.out
        obtain ⟨y0, _⟩ := ro_cf AL.out.kx 0 _ v_0.out
        go_wp2_with fail
        go_loopw [6] (fun i wr => ∃ m : Nat, m ≤ V.ti.n ∧ i = .int .i64 (m : Nat) ∧ Hid (Al u1 gx gw cx cw V W (viewB b) hi wr)) (fun i _ => V.ti.n - (intOf i).toNat)
        case atStart => exact ⟨0, by omega, rfl, AL⟩
        case round =>
          clear AL
          obtain ⟨m, hm, rfl, AL⟩ := hrel
          by_cases hlt : m < V.ti.n
          · have d1 : (m : Int) < (V.ti.n : Int) := by omega
            have d3 : IntKind.i64.wrap ((m : Int) + 1) = ((m + 1 : Nat) : Int) := by rw [IntKind.wrap_i64]; omega
            obtain ⟨y0, _⟩ := ro_cf AL.out.kx 0 _ v_0.out
            obtain ⟨y1, _⟩ := ro_cf AL.out.kx 1 _ v_1.out
            have hmi : m < V.ix.n := by rw [hin.out]; exact hlt
            have d2 : (m : Int) < (V.ix.n : Int) := by omega
            obtain ⟨ga, curga, ega, kga, loga, higa, cga⟩ := AL.out.ti (by omega)
            obtain ⟨vga, hga, pga⟩ := cga (m) (by omega)
            obtain ⟨fga, zga⟩ := ro_cf kga _ _ hga
            rw [ega] at y0
            have AL1 := hide (AL.out.set (j := m) (v := .int .i64 77) kga (by decide) loga higa (.inl (by decide)))
            obtain ⟨gb, curgb, egb, kgb, logb, higb, cgb⟩ := AL1.out.ix (by omega)
            obtain ⟨vgb, hgb, pgb⟩ := cgb m (by omega)
            obtain ⟨fgb, zgb⟩ := ro_cf kgb _ _ hgb
            obtain ⟨y1', _⟩ := ro_cf AL1.out.kx 1 _ v_1.out
            rw [egb] at y1'
            have AL2 := hide (AL1.out.set (j := m) (v := .int .u8 77) kgb (by decide) logb higb (.inl (by decide)))
            clear y1 hmi
            go_upto_region 15 with fail
            clear fga zga hga kga y0 cga
            generalize wr.setCell ⟨ga, m, none⟩ (.int .i64 77) = wq at *
            go_wp2
            go_roundw
            case rel => exact ⟨m + 1, by omega, by go_num, AL2⟩
            case measure => simp [intOf]; omega
          · obtain rfl : m = V.ti.n := by omega
            clear hlt hm
            obtain ⟨y0, _⟩ := ro_cf AL.out.kx 0 _ v_0.out
            obtain ⟨y3, _⟩ := ro_cf AL.out.kx 3 _ v_3.out
            go_wp2_with fail
            go_loopw [7] (fun i wr => ∃ m : Nat, m ≤ V.ch.n ∧ i = .int .i64 (m : Nat) ∧ Hid (Al u1 gx gw cx cw V W (viewB b) hi wr)) (fun i _ => V.ch.n - (intOf i).toNat)
            case atStart => exact ⟨0, by omega, rfl, AL⟩
            case round =>
              clear AL
              obtain ⟨m, hm, rfl, AL⟩ := hrel
              by_cases hlt : m < V.ch.n
              · have d1 : (m : Int) < (V.ch.n : Int) := by omega
                have d3 : IntKind.i64.wrap ((m : Int) + 1) = ((m + 1 : Nat) : Int) := by rw [IntKind.wrap_i64]; omega
                obtain ⟨y3, _⟩ := ro_cf AL.out.kx 3 _ v_3.out
                obtain ⟨ga, curga, ega, kga, loga, higa, cga⟩ := AL.out.ch (by omega)
                obtain ⟨vga, hga, pga⟩ := cga (m) (by omega)
                obtain ⟨fga, zga⟩ := ro_cf kga _ _ hga
                rw [ega] at y3
                have AL2 := hide (AL.out.set (j := m) (v := .int .u8 77) kga (by decide) loga higa (.inl (by decide)))
                go_wp2
                go_roundw
                case rel => exact ⟨m + 1, by omega, by go_num, AL2⟩
                case measure => simp [intOf]; omega
              · obtain rfl : m = V.ch.n := by omega
                clear hlt hm
                obtain ⟨y3, _⟩ := ro_cf AL.out.kx 3 _ v_3.out
                obtain ⟨y5, _⟩ := ro_cf AL.out.kx 5 _ v_5.out
                go_wp2_with fail
                go_loopw [8] (fun i wr => ∃ m : Nat, m ≤ V.sd.n ∧ i = .int .i64 (m : Nat) ∧ Hid (Al u1 gx gw cx cw V W (viewB b) hi wr)) (fun i _ => V.sd.n - (intOf i).toNat)
                case atStart => exact ⟨0, by omega, rfl, AL⟩
                case round =>
                  clear AL
                  obtain ⟨m, hm, rfl, AL⟩ := hrel
                  by_cases hlt : m < V.sd.n
                  · have d1 : (m : Int) < (V.sd.n : Int) := by omega
                    have d3 : IntKind.i64.wrap ((m : Int) + 1) = ((m + 1 : Nat) : Int) := by rw [IntKind.wrap_i64]; omega
                    obtain ⟨y5, _⟩ := ro_cf AL.out.kx 5 _ v_5.out
                    obtain ⟨ga, curga, ega, kga, loga, higa, cga⟩ := AL.out.sd (by omega)
                    obtain ⟨vga, hga, pga⟩ := cga (m) (by omega)
                    obtain ⟨fga, zga⟩ := ro_cf kga _ _ hga
                    obtain ⟨bv, rfl⟩ := pga
                    rw [ega] at y5
                    have AL2 := hide (AL.out.set (j := m) (v := .bool (!bv)) kga (by decide) loga higa (.inr ⟨_, rfl⟩))
                    go_upto_region 23 with fail
                    go_region_with (fail)
                    all_goals
                      go_wp2_with fail
                      go_roundw
                      case rel => exact ⟨m + 1, by omega, by go_num, by first | exact AL2 | exact hide (AL2.out.below (bl_drew (bl_refl _)))⟩
                      case measure => simp [intOf]; omega
                  · obtain rfl : m = V.sd.n := by omega
                    clear hlt hm
                    have SL := hide (fun W9 => lg_.Slim W9)
                    have IS := hide (fun Vs W9 B (o : OwBk W9 B Vs slB) => by have := lg_.IsSlim Vs slB W9 o.is (small_of o.is (by decide)); rw [slS] at this; exact this)
                    obtain ⟨y5, _⟩ := ro_cf AL.out.kx 5 _ v_5.out
                    have AL0 := AL
                    go_wp2_with fail
                    refine (SL.out _).mono ?_
                    rintro e z1 ⟨V9, rfl, o9, h1⟩
                    replace AL := hide (AL.out.below h1)
                    have hw9 := hide h1
                    obtain ⟨_, _, l2, l3, _⟩ := o9.is.lens
                    have z2 : V9.ty.n = 1 := l2.symm
                    have z3 : V9.ch.n = 1 := l3.symm
                    clear l2 l3
                    have q9 := hide (own_rw (p := fun _ => True) o9.ty.2 (fun _ _ => trivial) (Nat.le_refl _))
                    have q8 := hide (own_rw (p := fun _ => True) o9.ch.2 (fun _ _ => trivial) (Nat.le_refl _))
                    clear o9
                    have k9 := hide (Ro.new z1 (blA V9) 28)
                    have G9 := gr_blk V9
                    have u_2 := hide (show (blA V9)[2]? = some (.slice V9.ty.A 1 V9.ty.c) from by show some (Value.slice V9.ty.A V9.ty.n V9.ty.c) = _; rw [z2])
                    have u_3 := hide (show (blA V9)[3]? = some (.slice V9.ch.A 1 V9.ch.c) from by show some (Value.slice V9.ch.A V9.ch.n V9.ch.c) = _; rw [z3])
                    rw [show bkV V9 = .agg (blA V9) from rfl]
                    generalize blA V9 = c9 at *
                    have h2 := bl_new z1 (.cells c9 28)
                    replace AL := hide (AL.out.below h2)
                    replace hw9 := hide (bel_next hw9.out h2)
                    replace q9 := hide (q9.out.below h2)
                    replace q8 := hide (q8.out.below h2)
                    clear h1 h2
                    go_upto_region 25 with (first | (refine wpList_store_row rfl 28 _ _ rfl _ _ rfl rfl _ _ (heap_alloc_last _ _) G9.1 (by rw [G9.2.1]; rfl) G9.2.2 ?_; rw [World.setRow_alloc_new]) | fail)
                    generalize z1.alloc (.cells c9 28) = z4 at *
                    rw [z2] at q9
                    rw [z3] at q8
                    obtain ⟨ga, curga, ega, kga, loga, _, cga⟩ := q9.out (by decide)
                    obtain ⟨vga, hga, _⟩ := cga 0 (by decide)
                    obtain ⟨fga, zga⟩ := ro_cf kga _ _ hga
                    rw [ega] at u_2
                    obtain ⟨y2, _⟩ := ro_cf k9.out 2 _ u_2.out
                    clear y5
                    go_upto_region 26 with fail
                    have hn1 := (show ga ≠ z1.heap.size from fun e => by rw [e] at kga; exact absurd (ro_inj kga k9.out) (by decide))
                    replace k9 := hide (ro_set_ne (g' := ga) k9.out hn1 0 (.int .i32 5))
                    replace q8 := hide (q8.out.set (j' := 0) (v := .int .i32 5) kga (.inr trivial))
                    replace hw9 := hide (bl_set hw9.out loga (o := 0) (.int .i32 5))
                    clear fga zga hga cga y2 q9
                    generalize z4.setCell ⟨ga, 0, none⟩ (.int .i32 5) = z5 at *
                    obtain ⟨gb, curgb, egb, kgb, logb, _, cgb⟩ := q8.out (by decide)
                    obtain ⟨vgb, hgb, _⟩ := cgb 0 (by decide)
                    obtain ⟨fgb, zgb⟩ := ro_cf kgb _ _ hgb
                    rw [egb] at u_3
                    obtain ⟨y3, _⟩ := ro_cf k9.out 3 _ u_3.out
                    go_upto_region 27 with fail
                    replace hw9 := hide (bl_set hw9.out logb (o := 0) (.int .u8 7))
                    clear fgb zgb hgb cgb y3 q8 k9
                    generalize z5.setCell ⟨gb, 0, none⟩ (.int .u8 7) = z6 at *
                    have AL6 := hide (AL0.out.below hw9.out)
                    have k := hide (kUb.out _ AL6.out.bl).drew
                    have i1 := hide (hR.out _ (hbb.out _ AL6.out.bl)).drew
                    have kw := hide AL6.out.kw.drew
                    have ow := hide AL6.out.was.drew
                    have hb := hide (bl_drew (hbb.out _ AL6.out.bl))
                    refine wp_region_held_drew (S := fun w' => Hid (Ro w' (w.heap.size) (cs) 28) ∧ Hid (Ro w' (gw) (cw) 28) ∧ Hid (IsBk w' S b) ∧ Hid (OwBk w' hi W (viewB b)) ∧ Hid (Below w.heap.size w w')) (by kernel_rfl) (⟨k, kw, i1, ow, hb⟩) (fun hHeld => ?_)
                    generalize z6.drew = u0 at *
                    refine wpAnyH_takeD (i := 0) (d := (some 92)) rfl rfl (by kernel_rfl) (by kernel_rfl) (by kernel_rfl) (fun _ _ _ h => h) (yieldsIf_load_row (by rfl) 28 _ rfl (w.heap.size) rfl 28 cs _ (fun w hw => hw.1.out) Try.underlying28 rfl G.1) (by assumption) ?_
                    try simp only [Act.put, List.setIfInBounds_toArray, List.set_cons_zero, List.set_cons_succ]
                    refine wpAnyH_takeD (i := 2) (d := (some 94)) rfl rfl (by kernel_rfl) (by kernel_rfl) (by kernel_rfl) (fun _ _ _ h => h) (yieldsIf_load_row (by rfl) 28 _ rfl (gw) rfl 28 cw _ (fun w hw => hw.2.1.out) Try.underlying28 rfl Gw.1) (by assumption) ?_
                    try simp only [Act.put, List.setIfInBounds_toArray, List.set_cons_zero, List.set_cons_succ]
                    refine wpAnyH_ready (rs := [1]) (by kernel_rfl) (by simp) ?_
                    refine AllReadyH.cons rfl (fun K hK => ?_) (AllReadyH.nil)
                    go_simp
                    refine (VW.out _ hHeld.2.2.1.out).mono ?_
                    rintro e v1 ⟨V8, rfl, o8, h1'⟩
                    refine hK.out _ _ (⟨hide (hHeld.1.out.below h1'), hide (hHeld.2.1.out.below h1'), hide (hHeld.2.2.1.out.below h1'), hide (hHeld.2.2.2.1.out.below h1'), hide (bel_next hHeld.2.2.2.2.out h1')⟩) (fun hHeld => ?_)
                    clear hK K h1'
                    try simp only [Act.put, List.setIfInBounds_toArray, List.set_cons_zero, List.set_cons_succ]
                    refine wpAnyH_ready (rs := [3]) (by kernel_rfl) (by simp) ?_
                    refine AllReadyH.cons rfl (fun K hK => ?_) (AllReadyH.nil)
                    go_simp
                    refine (EQ.out V8 _ _ o8 hHeld.2.2.2.1.out).mono ?_
                    rintro e v2 ⟨rfl, h1'⟩
                    refine hK.out _ _ (⟨hide (hHeld.1.out.below h1'), hide (hHeld.2.1.out.below h1'), hide (hHeld.2.2.1.out.below h1'), hide (hHeld.2.2.2.1.out.below h1'), hide (bel_next hHeld.2.2.2.2.out h1')⟩) (fun hHeld => ?_)
                    clear hK K h1'
                    try simp only [Act.put, List.setIfInBounds_toArray, List.set_cons_zero, List.set_cons_succ]
                    refine wpAnyH_takeD (i := 4) (d := (some 96)) (v := ?_) rfl rfl (by kernel_rfl) (by kernel_rfl) (by kernel_rfl) (fun _ _ _ h => h) (Or.inl ⟨by rfl, ?_⟩) (by assumption) ?_
                    rotate_left
                    · ((intro w hSw; go_simp) <;> with_reducible rfl)
                    try simp only [Act.put, List.setIfInBounds_toArray, List.set_cons_zero, List.set_cons_succ]
                    refine wpAnyH_ready (rs := [5]) (by kernel_rfl) (by simp) ?_
                    refine AllReadyH.cons rfl (fun K hK => ?_) (AllReadyH.nil)
                    go_simp
                    refine (SL.out _).mono ?_
                    rintro e v3 ⟨V7, rfl, o7, h1'⟩
                    refine hK.out _ _ (⟨hide (hHeld.1.out.below h1'), hide (hHeld.2.1.out.below h1'), hide (hHeld.2.2.1.out.below h1'), hide (hHeld.2.2.2.1.out.below h1'), hide (bel_next hHeld.2.2.2.2.out h1')⟩) (fun hHeld => ?_)
                    clear hK K h1'
                    try simp only [Act.put, List.setIfInBounds_toArray, List.set_cons_zero, List.set_cons_succ]
                    refine wpAnyH_ready (rs := [6]) (by kernel_rfl) (by simp) ?_
                    refine AllReadyH.cons rfl (fun K hK => ?_) (AllReadyH.nil)
                    go_simp
                    refine (IS.out V7 _ _ o7).mono ?_
                    rintro e v4 ⟨rfl, h1'⟩
                    refine hK.out _ _ (⟨hide (hHeld.1.out.below h1'), hide (hHeld.2.1.out.below h1'), hide (hHeld.2.2.1.out.below h1'), hide (hHeld.2.2.2.1.out.below h1'), hide (bel_next hHeld.2.2.2.2.out h1')⟩) (fun hHeld => ?_)
                    clear hK K h1'
                    try simp only [Act.put, List.setIfInBounds_toArray, List.set_cons_zero, List.set_cons_succ]
                    refine wpAnyH_takeD (i := 7) (d := (some 99)) (v := ?_) rfl rfl (by kernel_rfl) (by kernel_rfl) (by kernel_rfl) (fun _ _ _ h => h) (Or.inl ⟨by rfl, ?_⟩) (by assumption) ?_
                    rotate_left
                    · ((intro w hSw; go_simp) <;> with_reducible rfl)
                    try simp only [Act.put, List.setIfInBounds_toArray, List.set_cons_zero, List.set_cons_succ]
                    refine wpAnyH_takeD (i := 8) (d := (some 2)) (v := ?_) rfl rfl (by kernel_rfl) (by kernel_rfl) (by kernel_rfl) (fun _ _ _ h => h) (Or.inl ⟨by rfl, ?_⟩) (by assumption) ?_
                    rotate_left
                    · ((intro w hSw; go_simp) <;> with_reducible rfl)
                    try simp only [Act.put, List.setIfInBounds_toArray, List.set_cons_zero, List.set_cons_succ]
                    refine wpAnyH_done (by kernel_rfl) ?_ _
                    go_wp2_with fail
                    go_ret
                    exact ⟨rfl, hHeld.2.2.2.2.out⟩
end l22_
end Go.Proofs.Ytgbojkbhkjameaa

/-
  CONTRACTS OF PACKAGE legacy, of the code that landed at bb68bb6, and of slices.Clone at three types. Conditions: a small block (at most 100,000 elements a list); the type in effect: one that is valid.
-/
import Derived.Test.YtgbojkbhkjameaaLgM
import Derived.Test.YtgbojkbhkjameaaRef20
import Derived.Test.YtgbojkbhkjameaaSlq
import Derived.Test.YtgbojkbhkjameaaLp
import Derived.Test.YtgbojkbhkjameaaBlO
import Derived.Test.YtgbojkbhkjameaaBu2
namespace Go.Proofs.Ytgbojkbhkjameaa
open Go.ChangeShapes Go.WideShapes Go.ChangeAt Go.RowKit
set_option linter.unusedVariables false
set_option linter.unusedSimpArgs false
set_option maxRecDepth 100000
/-- the type of a slice's row, wherever it lies. -/
def TyAt (w : World) (A : Option Addr) (e : TypeId) : Prop := ∀ g, oB A = some g → ∃ cur, w.heap[g]? = some (.cells cur e (0, 0))
section
variable {w w' : World} {b b' n n' c c' s s' : Nat} {e e' T : TypeId} {A A' : Option Addr} {xs xs' : List Value} {g : Nat} {vs : Array Value}
theorem own_ty (h : w.ownsRow b e s (.slice A n c) n xs) : TyAt w A e := fun g hg => by
  rcases h.2 with ⟨h', _⟩ | ⟨g0, cap, cur, e1, _, e3, _⟩
  · cases h'; cases hg
  · cases e1
    cases hg
    exact ⟨cur, e3⟩
theorem Ow.ty (h : Ow w b e A n c xs) : TyAt w A e := own_ty h.2
theorem Ok.ty (h : Ok s w b e A n c xs) : TyAt w A e := own_ty h.2
theorem TyAt.dj (h : TyAt w A e) (h' : TyAt w A' e') (hne : e ≠ e') : Dj A A' := fun g h1 h2 => by
  obtain ⟨x, q⟩ := h g h1
  obtain ⟨y, q'⟩ := h' g h2
  rw [q] at q'
  cases q'
  exact hne rfl
theorem TyAt.ro (h : TyAt w A e) (k : Ro w g vs T) (hne : e ≠ T) : oB A ≠ some g := fun h1 => by
  obtain ⟨x, q⟩ := h g h1
  unfold Ro at k
  rw [q] at k
  cases k
  exact hne rfl
/-- rows stay where one struct's box turns. -/
theorem own_butT (h : w.ownsRow b e s (.slice A n c) n xs) (k : Ro w g vs T) (hne : e ≠ T) (hb : But g w w') : w'.ownsRow b e s (.slice A n c) n xs := by
  refine ⟨h.1, ?_⟩
  have ht := (own_ty h).ro k hne
  rcases h.2 with h' | ⟨g0, cap, cur, e1, e2, e3, e4⟩
  · exact .inl h'
  · cases e1
    refine .inr ⟨g0, c, cur, rfl, e2, ?_, e4⟩
    have hl : g0 < w.heap.size := by
      rcases Nat.lt_or_ge g0 w.heap.size with q | q
      · exact q
      · rw [Array.getElem?_eq_none q] at e3; cases e3
    exact (hb.block g0 hl (fun q => ht (by rw [q]; rfl))).trans e3
theorem Ow.butT (h : Ow w b e A n c xs) (k : Ro w g vs T) (hne : e ≠ T) (hb : But g w w') : Ow w' b e A n c xs := ⟨Nat.le_trans h.1 hb.size, own_butT h.2 k hne hb⟩
theorem Ok.butT (h : Ok s w b e A n c xs) (k : Ro w g vs T) (hne : e ≠ T) (hb : But g w w') : Ok s w' b e A n c xs := ⟨Nat.le_trans h.1 hb.size, own_butT h.2 k hne hb⟩
end
namespace sl_
theorem CloneU (A : Option Addr) (n c : Nat) (xs : List Int) (w : World) (hA : A = none → n = 0 ∧ c = 0) (hn : n ≤ 1000000) (hr : Rd w A n (xs.map (Value.int .u8))) :
    Calls Try.prog 32 #[.slice A n c] w fun e w' => ∃ A' c', e = .returned (.slice A' n c') ∧ Ow w' w.heap.size 5 A' n c' (xs.map (Value.int .u8)) ∧ Below w.heap.size w w' := by
  have Hone := hide (oneCells .u8 xs)
  have HA := hide hA
  rcases A with _ | ad
  · obtain ⟨rfl, rfl⟩ := hA rfl
    have hx : xs = [] := List.eq_nil_of_length_eq_zero (by simpa using hr.len)
    subst hx
    clear hA HA Hone
    have he : ∀ w : World, (binOp .eql 23 (.slice none 0 0) (.slice none 0 0)).run Try.prog w = .ok (.bool true) w := fun _ => rfl
    go_enter Try.func32, Try.ntmps32
    go_wp2
    go_ret
    exact ⟨none, 0, rfl, Ow.nil (Nat.le_refl _) _, bl_refl _⟩
  · clear hA
    have he : ∀ w : World, (binOp .eql 23 (.slice (some ad) n c) (.slice none 0 0)).run Try.prog w = .ok (.bool false) w := fun _ => rfl
    go_enter Try.func32, Try.ntmps32
    have b0 := hide (bl_new w (.cells #[] 5))
    go_wp2_with (refine apn elU8 (Ow.lit w 5 [] (by simp)) b0.out (Nat.le_refl _) (hr.below b0.out) (.tmp 5) (.tmp 6) rfl rfl rfl rfl HA.out Hone.out (by simp [maxLen]; omega) (by simp; omega) ?_; intro A2 c2 w3 ho3 hb3; simp only [Nat.zero_add, List.nil_append, List.length_nil] at ho3)
    go_ret
    exact ⟨A2, c2, by simp, ho3, hb3⟩
theorem elBoC : ElT Try.prog 26 4 (.bool false) 1 := ⟨Try.underlying26, by kernel_rfl, rfl⟩
theorem one_bls (l : List Bool) : ∀ u ∈ bls l, u.oneCell' = true := by intro u hu; obtain ⟨b, _, rfl⟩ := List.mem_map.1 hu; rfl
theorem CloneB (A : Option Addr) (n c : Nat) (xs : List Bool) (w : World) (hA : A = none → n = 0 ∧ c = 0) (hn : n ≤ 1000000) (hr : Rd w A n (bls xs)) :
    Calls Try.prog 49 #[.slice A n c] w fun e w' => ∃ A' c', e = .returned (.slice A' n c') ∧ Ow w' w.heap.size 4 A' n c' (bls xs) ∧ Below w.heap.size w w' := by
  have Hone := hide (one_bls xs)
  have HA := hide hA
  rcases A with _ | ad
  · obtain ⟨rfl, rfl⟩ := hA rfl
    have hx : xs = [] := List.eq_nil_of_length_eq_zero (by simpa using hr.len)
    subst hx
    clear hA HA Hone
    have he : ∀ w : World, (binOp .eql 26 (.slice none 0 0) (.slice none 0 0)).run Try.prog w = .ok (.bool true) w := fun _ => rfl
    go_enter Try.func49, Try.ntmps49
    go_wp2
    go_ret
    exact ⟨none, 0, rfl, Ow.nil (Nat.le_refl _) _, bl_refl _⟩
  · clear hA
    have he : ∀ w : World, (binOp .eql 26 (.slice (some ad) n c) (.slice none 0 0)).run Try.prog w = .ok (.bool false) w := fun _ => rfl
    go_enter Try.func49, Try.ntmps49
    have b0 := hide (bl_new w (.cells #[] 4))
    go_wp2_with (refine apn elBoC (Ow.lit w 4 [] (by simp)) b0.out (Nat.le_refl _) (hr.below b0.out) (.tmp 5) (.tmp 6) rfl rfl rfl rfl HA.out Hone.out (by simp [maxLen]; omega) (by simp; omega) ?_; intro A2 c2 w3 ho3 hb3; simp only [Nat.zero_add, List.nil_append, List.length_nil] at ho3)
    go_ret
    exact ⟨A2, c2, by simp, ho3, hb3⟩
theorem CloneT (A : Option Addr) (n c : Nat) (xs : List TT) (w : World) (hA : A = none → n = 0 ∧ c = 0) (hn : n ≤ 1000000) (hr : Rk 3 w A n (tcs xs)) :
    Calls Try.prog 48 #[.slice A n c] w fun e w' => ∃ A' c', e = .returned (.slice A' n c') ∧ Ok 3 w' w.heap.size 38 A' n c' (tcs xs) ∧ Below w.heap.size w w' := by
  have Hone := hide (tcs_cells xs)
  have HA := hide hA
  rcases A with _ | ad
  · obtain ⟨rfl, rfl⟩ := hA rfl
    have hx : xs = [] := List.eq_nil_of_length_eq_zero (by have := hr.len; rw [tcs_len] at this; omega)
    subst hx
    clear hA HA Hone
    have he : ∀ w : World, (binOp .eql 24 (.slice none 0 0) (.slice none 0 0)).run Try.prog w = .ok (.bool true) w := fun _ => rfl
    go_enter Try.func48, Try.ntmps48
    go_wp2
    go_ret
    exact ⟨none, 0, rfl, Ok.nil (Nat.le_refl _) _ _, bl_refl _⟩
  · clear hA
    have he : ∀ w : World, (binOp .eql 24 (.slice (some ad) n c) (.slice none 0 0)).run Try.prog w = .ok (.bool false) w := fun _ => rfl
    have k0 := hide (show Ok 3 (w.alloc (.cells #[] 38)) w.heap.size 38 (some ⟨w.heap.size, 0, none⟩) 0 0 [] from Ok.lit 3 w 38 [] 0 rfl (by decide))
    have b0 := hide (bl_new w (.cells #[] 38))
    have rz := hide (hr.alloc (.cells #[] 38))
    go_enter Try.func48, Try.ntmps48
    go_wp2_with (at_builtin; refine apK elTT (by decide) k0.out b0.out (Nat.le_refl _) rz.out (.tmp 5) (.tmp 6) rfl rfl rfl rfl HA.out Hone.out (by simp [maxLen]; omega) (by omega) ?_; intro A2 c2 w3 ho3 hb3 _; rw [Nat.zero_add] at ho3 ⊢; rw [List.nil_append] at ho3)
    go_ret
    exact ⟨A2, c2, rfl, ho3, hb3⟩
end sl_
theorem swp_is {α : Type} {l : List α} {k : Nat} (d : α) {x y : α} (hx : l[0]? = some x) (hy : l[k]? = some y) : (l.set 0 y).set k x = swp l k d := by
  have hk : k < l.length := (List.getElem?_eq_some_iff.1 hy).1
  apply List.ext_getElem?
  intro i
  rcases Nat.lt_or_ge i l.length with hi | hi
  · rw [swp_at d hi hk, List.getElem?_set, List.getElem?_set]
    unfold other
    by_cases h0 : i = 0
    · subst h0
      by_cases h1 : k = 0
      · subst h1
        rw [hx] at hy
        cases hy
        simp [hi, ← hx]
      · rw [if_neg h1, if_pos rfl, if_pos rfl, hy, if_pos hi]
    · by_cases h1 : k = i
      · subst h1
        simp [h0, hi, hx]
      · rw [if_neg h1, if_neg (fun h => h0 h.symm), if_neg h0, if_neg (fun h => h1 h.symm)]
  · rw [List.getElem?_eq_none (by simpa using hi), List.getElem?_eq_none (by rw [swp_len]; exact hi)]
theorem swp_nil {α : Type} (k : Nat) (d : α) : swp [] k d = [] := rfl
namespace lg_
theorem isInView (t : Int) (w : World) : Calls Try.prog 34 #[.int .i64 t] w fun e w' => e = .returned (.bool (in32 t)) ∧ w = w' := by
  unfold in32
  by_cases a : -2147483648 ≤ t
  · have d1 : decide (-2147483648 ≤ t) = true := decide_eq_true a
    rw [d1, Bool.true_and]
    obtain ⟨z, hz⟩ : ∃ z, z = decide (t ≤ 2147483647) := ⟨_, rfl⟩
    have d2 := hz.symm
    rw [← hz]
    clear hz
    go_enter Try.func34, Try.ntmps34
    go_wp2
    go_ret
    exact ⟨rfl, rfl⟩
  · have d1 : decide (-2147483648 ≤ t) = false := decide_eq_false a
    rw [d1, Bool.false_and]
    go_enter Try.func34, Try.ntmps34
    go_wp2
    go_ret
    exact ⟨rfl, rfl⟩
theorem typeOf (S : BkS) (b : Bk) (i : Nat) (x : Int) (w : World) (h : IsBk w S b) (hx : b.ix[i]? = some x) : Calls Try.prog 35 #[bkV S, .int .i64 (i : Nat)] w fun e w' => e = .returned (.int .u8 x) ∧ Below w.heap.size w w' := by
  have hi : i < S.ix.n := by rw [← h.lens.2.1]; exact (List.getElem?_eq_some_iff.1 hx).1
  obtain ⟨ad, e1, hc⟩ := (h.below (bl_new w (.cells (blA S) 28))).ix.int hi
  rw [hx] at hc
  simp only [Option.getD_some] at hc
  have hb := hide (bl_new w (.cells (blA S) 28))
  have k := hide (Ro.new w (blA S) 28)
  obtain ⟨y1, _⟩ := ro_cf k.out 1 (.slice S.ix.A S.ix.n S.ix.c) rfl
  rw [e1] at y1
  have d1 : decide ((S.ix.n : Int) ≤ (i : Int)) = false := decide_eq_false (by omega)
  clear h hx k
  show Calls Try.prog 35 #[.agg (blA S), .int .i64 (i : Nat)] w _
  generalize blA S = cs at *
  go_enter Try.func35, Try.ntmps35
  go_upto_region 1 with fail
  generalize (w.alloc (.cells cs 28)) = u at *
  go_wp2
  go_ret
  exact ⟨rfl, hb.out⟩
theorem renum (k x : Int) (g1 g2 : Nat) (w : World) (h1 : w.cell? ⟨g1, 0, none⟩ = some (.int .u8 0)) (h2 : w.cell? ⟨g2, 0, none⟩ = some (.int .u8 k)) (k0 : 0 ≤ k) (x0 : 0 ≤ x) :
    Calls Try.prog 47 (#[.int .u8 x] ++ #[.pointer (some ⟨g1, 0, none⟩), .pointer (some ⟨g2, 0, none⟩)]) w fun e w' => e = .returned (.int .u8 ((other x.toNat k.toNat : Nat) : Int)) ∧ Below w.heap.size w w' := by
  by_cases a : x = 0
  · subst a
    rw [show ((other (0 : Int).toNat k.toNat : Nat) : Int) = k by unfold other; simp; omega]
    go_enter Try.func47, Try.ntmps47
    go_wp2
    go_ret
    exact ⟨rfl, bl_refl _⟩
  · have d0 : (x == 0) = false := by simpa using a
    by_cases b : x = k
    · subst b
      rw [show ((other x.toNat x.toNat : Nat) : Int) = 0 by unfold other; rw [if_neg (by omega), if_pos rfl]; rfl]
      go_enter Try.func47, Try.ntmps47
      go_wp2
      go_ret
      exact ⟨rfl, bl_refl _⟩
    · have d1 : (x == k) = false := by simpa using b
      rw [show ((other x.toNat k.toNat : Nat) : Int) = x by unfold other; rw [if_neg (by omega), if_neg (by omega)]; omega]
      clear a b
      go_enter Try.func47, Try.ntmps47
      go_wp2
      go_ret
      exact ⟨rfl, bl_refl _⟩
theorem later (S : BkS) (b : Bk) (t : Int) (g1 g2 i : Nat) (w : World) (h : IsBk w S b) (k1 : Ro w g1 (blA S) 28) (k2 : Ro w g2 #[.int .i64 t] 2) (hi : i < S.ti.n) :
    Calls Try.prog 46 (#[.int .i64 (i : Nat)] ++ #[.pointer (some ⟨g1, 0, none⟩), .pointer (some ⟨g2, 0, none⟩)]) w fun e w' => e = .returned (.bool (decide (t < b.ti[i]?.getD 0))) ∧ Below w.heap.size w w' := by
  obtain ⟨ad, e1, hc⟩ := h.ti.int hi
  obtain ⟨y1, _⟩ := ro_cf k1 0 (.slice S.ti.A S.ti.n S.ti.c) rfl
  rw [e1] at y1
  obtain ⟨y2, _⟩ := ro_cf k2 0 (.int .i64 t) rfl
  clear h k1 k2
  generalize b.ti[i]?.getD 0 = x at *
  go_enter Try.func46, Try.ntmps46
  go_wp2
  go_quiet (fail)
  go_wp2
  go_ret
  exact ⟨rfl, bel_drewN (bl_refl _) _⟩
theorem inE_le {b : Bk} {four : Bool} {q : Nat} (h : BOk b four q) {t : Int} {m : Nat} (hm : m ≤ b.ti.length) (a : m = 0 ∨ decide (t < b.ti[m - 1]?.getD 0) = false) (c : m = b.ti.length ∨ decide (t < b.ti[m]?.getD 0) = true) : inE b t = if m = 0 then 0 else (b.ix[m - 1]?).getD 0 := by
  have ha := asc_of_desc h.asc
  refine inE_cut h.cnts.1 hm (fun i x hx hi => ?_) (fun i x hx hi => ?_)
  · rcases a with a | a
    · omega
    · have l1 : m - 1 < b.ti.length := by omega
      have := of_decide_eq_false a
      rw [List.getElem?_eq_getElem l1, Option.getD_some] at this
      rcases Nat.lt_or_eq_of_le (show i ≤ m - 1 by omega) with q | q
      · have := asc_lt2 ha hx (List.getElem?_eq_getElem l1) q; omega
      · subst q; rw [List.getElem?_eq_getElem l1] at hx; cases hx; omega
  · rcases c with c | c
    · have := (List.getElem?_eq_some_iff.1 hx).1; omega
    · have l1 : m < b.ti.length := by have := (List.getElem?_eq_some_iff.1 hx).1; omega
      have := of_decide_eq_true c
      rw [List.getElem?_eq_getElem l1, Option.getD_some] at this
      rcases Nat.lt_or_eq_of_le hi with q | q
      · have := asc_lt2 ha (List.getElem?_eq_getElem l1) hx q; omega
      · subst q; rw [List.getElem?_eq_getElem l1] at hx; cases hx; omega
set_option maxHeartbeats 1000000 in
theorem inEffect (S : BkS) (b : Bk) (four : Bool) (q : Nat) (t : Int) (w : World) (h : IsBk w S b) (hs : S.small) (hv : BOk b four q) : Calls Try.prog 25 #[bkV S, .int .i64 t] w fun e w' => e = .returned (.int .u8 (inE b t)) ∧ Below w.heap.size w w' := by
  have hl := h.lens
  have hcr := hide (fun (m : Nat) (hm : m ≤ S.ti.n) a c => inE_le hv (t := t) (m := m) (by omega) a c)
  rw [hl.1] at hcr
  have hix := hide (show S.ix.n = S.ti.n by rw [← hl.1, ← hl.2.1]; exact hv.cnts.1)
  have hln := hide hl.2.1
  have hn := hs.ti
  obtain ⟨W, hW⟩ : ∃ W : World, W = (w.alloc (.cells (blA S) 28)).alloc (.cells #[.int .i64 t] 2) := ⟨_, rfl⟩
  have hb0 : Below w.heap.size w W := by rw [hW]; exact bl_alloc (bl_new _ _) _
  have kb : Ro W w.heap.size (blA S) 28 := by rw [hW]; exact (Ro.new w (blA S) 28).alloc _
  have kt : Ro W (w.heap.size + 1) #[.int .i64 t] 2 := by
    rw [hW]
    have := Ro.new (w.alloc (.cells (blA S) 28)) #[.int .i64 t] 2
    simp only [World.size_alloc] at this
    exact this
  have hW1 := h.below hb0
  have C := hide (lp_.search_ 46 #[.pointer (some ⟨w.heap.size, 0, none⟩), .pointer (some ⟨w.heap.size + 1, 0, none⟩)] (fun i => decide (t < b.ti[i]?.getD 0)) S.ti.n W (by omega) (lp_.enters Try.func46 (by kernel_rfl) (by kernel_rfl))
    (fun i w' hi hb => later S b t w.heap.size (w.heap.size + 1) i w' (hW1.below hb) (kb.below hb) (kt.below hb) hi))
  have HT := hide (fun i x W (hb : Below w.heap.size w W) hx => typeOf S b i x W (h.below hb) hx)
  have hbs := hide (fun (i : Nat) (hi : i < S.ix.n) => (show b.ix[i]? = some (b.ix[i]?.getD 0) by rw [List.getElem?_eq_getElem (by rw [hln.out]; exact hi)]; rfl))
  replace kb := hide kb
  replace hb0 := hide hb0
  obtain ⟨y0, _⟩ := ro_cf kb.out 0 (.slice S.ti.A S.ti.n S.ti.c) rfl
  have G := gr_blk S
  clear h hs hv hW1 kt hl
  show Calls Try.prog 25 #[.agg (blA S), .int .i64 t] w _
  dsimp only [bkV] at HT
  rw [show #[.slice S.ti.A S.ti.n S.ti.c, .slice S.ix.A S.ix.n S.ix.c, .slice S.ty.A S.ty.n S.ty.c, .slice S.ch.A S.ch.n S.ch.c, .slice S.lp.A S.lp.n S.lp.c, .slice S.sd.A S.sd.n S.sd.c, .slice S.ut.A S.ut.n S.ut.c] = blA S from rfl] at HT
  generalize blA S = cs at *
  generalize inE b t = r at *
  rw [hW] at C y0
  go_enter Try.func25, Try.ntmps25
  go_upto_region 1 with fail
  rw [← hW] at C y0 ⊢
  generalize w.heap.size + 1 = g1 at *
  clear hW
  go_wp2_with fail
  refine C.out.mono ?_
  rintro e w1 ⟨m, hm, rfl, ha, hc, h2⟩
  have e1 := hcr.out m hm ha hc
  replace kb := hide (kb.out.below h2)
  replace hb0 := hide (bel_next hb0.out h2)
  clear C hcr ha hc h2 y0
  by_cases hz : m = 0
  · subst hz
    rw [if_pos rfl] at e1
    subst e1
    go_wp2
    go_ret
    exact ⟨rfl, hb0.out⟩
  · rw [if_neg hz] at e1
    have hx := hbs.out (m - 1) (by rw [hix.out]; omega)
    rw [← e1] at hx
    have D := hide (HT.out (m - 1) r w1 hb0.out hx)
    have i1 : IntKind.i64.wrap ((m : Int) - 1) = ((m - 1 : Nat) : Int) := by rw [IntKind.wrap_i64]; omega
    have hz' : ((m : Int) == 0) = false := by simp; omega
    clear hx HT hbs e1 hix hln
    generalize m - 1 = P at *
    go_wp2_with (first | (refine load_row_g (by rfl) 28 _ rfl _ rfl _ _ _ kb.out Try.underlying28 rfl G.1 ?_) | fail)
    refine D.out.mono ?_
    rintro e w2 ⟨rfl, h2⟩
    replace hb0 := hide (bel_next hb0.out h2)
    go_wp2
    go_ret
    exact ⟨rfl, hb0.out⟩
set_option maxHeartbeats 1000000 in
theorem swapB (A : Option Addr) (n c k : Nat) (l : List Bool) (w : World) (hA : A = none → n = 0 ∧ c = 0) (hn : n ≤ 100000) (hr : Rd w A n (bls l)) (hk : k < n ∨ n = 0) (hk8 : k < 256) :
    Calls Try.prog 33 #[.slice A n c, .int .u8 0, .int .u8 (k : Nat)] w fun e w' => ∃ A' c', e = .returned (.slice A' n c') ∧ Ow w' w.heap.size 4 A' n c' (bls (swp l k false)) ∧ Below w.heap.size w w' := by
  have hl : l.length = n := by have := hr.len; simpa using this
  have C := hide (sl_.CloneB A n c l w hA (by omega) hr)
  clear hA hr
  rcases hk with hk | rfl
  · have d1 : decide ((k : Int) < (n : Int)) = true := decide_eq_true (by omega)
    obtain ⟨x, hx⟩ : ∃ x, l[0]? = some x := ⟨_, List.getElem?_eq_getElem (by omega)⟩
    obtain ⟨y, hy⟩ : ∃ y, l[k]? = some y := ⟨_, List.getElem?_eq_getElem (by omega)⟩
    have hsw := hide (swp_is false hx hy)
    go_enter Try.func33, Try.ntmps33
    go_wp2_with fail
    refine C.out.mono ?_
    rintro e w1 ⟨A1, c1, rfl, o1, h1⟩
    clear C
    obtain ⟨g, rfl, hg, _⟩ := o1.form (by omega)
    have p0 := o1.cell 0 (by omega)
    have pk := o1.cell k hk
    rw [show (bls l)[0]? = some (.bool x) by rw [List.getElem?_map, hx]; rfl] at p0
    rw [show (bls l)[k]? = some (.bool y) by rw [List.getElem?_map, hy]; rfl] at pk
    have z0 := o1.frozen 0
    have zk := o1.frozen k
    have hset := (o1.set 0 (.bool y)).set k (.bool x)
    rw [← List.map_set, ← List.map_set, hsw.out] at hset
    have hbs : Below w.heap.size w ((w1.setCell ⟨g, 0, none⟩ (.bool y)).setCell ⟨g, k, none⟩ (.bool x)) := bl_set (bl_set h1 hg _) hg _
    replace hset := hide hset
    replace hbs := hide hbs
    clear o1 h1 hsw
    have i0 : (0 : Int) < (n : Int) := by omega
    have ik : (k : Int) < (n : Int) := by omega
    rcases Nat.eq_zero_or_pos k with k0 | k0
    · subst k0
      obtain rfl : x = y := by rw [hx] at hy; exact Option.some.inj hy
      go_upto_region 3 with fail
      go_region_with (fail)
      all_goals
        go_wp2_with fail
        go_ret
        first | exact ⟨_, _, rfl, hset.out, hbs.out⟩ | exact ⟨_, _, rfl, hset.out.drew, bl_drew hbs.out⟩
    · have mx : (if 0 < k then (k : Int) else 0) = (k : Int) := if_pos k0
      go_upto_region 3 with fail
      go_region_with (fail)
      all_goals
        go_wp2_with fail
        go_ret
        first | exact ⟨_, _, rfl, hset.out, hbs.out⟩ | exact ⟨_, _, rfl, hset.out.drew, bl_drew hbs.out⟩
  · obtain rfl : l = [] := List.eq_nil_of_length_eq_zero hl
    have d1 : decide ((k : Int) < 0) = false := decide_eq_false (by omega)
    go_enter Try.func33, Try.ntmps33
    go_wp2_with fail
    refine C.out.mono ?_
    rintro e w1 ⟨A1, c1, rfl, o1, h1⟩
    clear C
    rcases Nat.eq_zero_or_pos k with k0 | k0
    · subst k0
      go_wp2
      go_ret
      exact ⟨A1, c1, rfl, o1, h1⟩
    · have mx : (if 0 < k then (k : Int) else 0) = (k : Int) := if_pos k0
      go_wp2
      go_ret
      exact ⟨A1, c1, rfl, o1, h1⟩
theorem ok_tt {w : World} {b n c g i : Nat} {e : TypeId} {l : List TT} {t : TT} (h : Ok 3 w b e (some ⟨g, 0, none⟩) n c (tcs l)) (hi : l[i]? = some t) :
    w.cell? ⟨g, i * 3, none⟩ = some (.int .i32 t.1) ∧ w.cell? ⟨g, i * 3 + 1, none⟩ = some (.bool t.2.1) ∧ w.cell? ⟨g, i * 3 + 2, none⟩ = some (.int .u8 t.2.2) ∧ w.frozen? ⟨g, i * 3, none⟩ = false ∧ w.frozen? ⟨g, i * 3 + 1, none⟩ = false ∧ w.frozen? ⟨g, i * 3 + 2, none⟩ = false := by
  have hl : l.length = n := by have := h.len; rw [tcs_len] at this; omega
  have hn : i < n := by rw [← hl]; exact (List.getElem?_eq_some_iff.1 hi).1
  obtain ⟨a0, a1, a2⟩ := tcs_get hi
  exact ⟨by rw [h.cell _ (by omega), a0], by rw [h.cell _ (by omega), a1], by rw [h.cell _ (by omega), a2], h.frozen _, h.frozen _, h.frozen _⟩
theorem ok_tset {w : World} {b n c g : Nat} {e : TypeId} {l : List TT} (h : Ok 3 w b e (some ⟨g, 0, none⟩) n c (tcs l)) (i : Nat) (t : TT) :
    Ok 3 (((w.setCell ⟨g, i * 3, none⟩ (.int .i32 t.1)).setCell ⟨g, i * 3 + 1, none⟩ (.bool t.2.1)).setCell ⟨g, i * 3 + 2, none⟩ (.int .u8 t.2.2)) b e (some ⟨g, 0, none⟩) n c (tcs (l.set i t)) := by
  have := ((h.set (i * 3) (.int .i32 t.1)).set (i * 3 + 1) (.bool t.2.1)).set (i * 3 + 2) (.int .u8 t.2.2)
  rwa [tcs_set] at this
set_option maxHeartbeats 4000000 in
theorem swapT (A : Option Addr) (n c k : Nat) (l : List TT) (w : World) (hA : A = none → n = 0 ∧ c = 0) (hn : n ≤ 100000) (hr : Rk 3 w A n (tcs l)) (hk : k < n ∨ n = 0) (hk8 : k < 256) :
    Calls Try.prog 31 #[.slice A n c, .int .u8 0, .int .u8 (k : Nat)] w fun e w' => ∃ A' c', e = .returned (.slice A' n c') ∧ Ok 3 w' w.heap.size 38 A' n c' (tcs (swp l k (0, false, 0))) ∧ Below w.heap.size w w' := by
  have hl : l.length = n := by have := hr.len; rw [tcs_len] at this; omega
  have C := hide (sl_.CloneT A n c l w hA (by omega) hr)
  have mx : (if 0 < k then (k : Int) else 0) = (k : Int) := by split <;> omega
  clear hA hr
  rcases hk with hk | rfl
  · have d1 : decide ((k : Int) < (n : Int)) = true := decide_eq_true (by omega)
    obtain ⟨x, hx⟩ : ∃ x, l[0]? = some x := ⟨_, List.getElem?_eq_getElem (by omega)⟩
    obtain ⟨y, hy⟩ : ∃ y, l[k]? = some y := ⟨_, List.getElem?_eq_getElem (by omega)⟩
    have hsw := hide (swp_is (0, false, 0) hx hy)
    obtain ⟨y', hy'⟩ : ∃ y', (l.set 0 y)[k]? = some y' := ⟨_, List.getElem?_eq_getElem (by simp; omega)⟩
    have hx' := hide hx
    replace hx := hide hx
    replace hy := hide hy
    replace hy' := hide hy'
    go_enter Try.func31, Try.ntmps31
    go_wp2_with fail
    refine C.out.mono ?_
    rintro e w1 ⟨A1, c1, rfl, o1, h1⟩
    clear C
    obtain ⟨g, rfl, hg, _⟩ := o1.form (by omega)
    have ol := hide o1.drew
    have hb := hide (bl_drew h1)
    clear o1 h1
    obtain ⟨x0, x1, x2⟩ := x
    obtain ⟨y0, y1, y2⟩ := y
    have i0 : (0 : Int) < (n : Int) := by omega
    have ik : (k : Int) < (n : Int) := by omega
    have i00 : 0 < n := by omega
    go_upto_region 3 with fail
    refine wp_region_held_drew (S := fun _ => True) (by kernel_rfl) (trivial) (fun hHeld => ?_)
    generalize w1.drew = u0 at *
    refine wpAnyH_takeD (i := 0) (d := (some 16)) (v := ?_) rfl rfl (by kernel_rfl) (by kernel_rfl) (by kernel_rfl) (fun _ _ _ h => h) (Or.inl ⟨by rfl, ?_⟩) (by assumption) ?_
    rotate_left
    · ((intro w hSw; go_simp) <;> with_reducible rfl)
    try simp only [Act.put, List.setIfInBounds_toArray, List.set_cons_zero, List.set_cons_succ]
    refine wpAnyH_takeD (i := 1) (d := (some 17)) (v := ?_) rfl rfl (by kernel_rfl) (by kernel_rfl) (by kernel_rfl) (fun _ _ _ h => h) (Or.inl ⟨by rfl, ?_⟩) (by assumption) ?_
    rotate_left
    · ((intro w hSw; go_simp) <;> with_reducible rfl)
    try simp only [Act.put, List.setIfInBounds_toArray, List.set_cons_zero, List.set_cons_succ]
    refine wpAnyH_takeD (i := 2) (d := (some 18)) (v := ?_) rfl rfl (by kernel_rfl) (by kernel_rfl) (by kernel_rfl) (fun _ _ _ h => h) (Or.inl ⟨by rfl, ?_⟩) (by assumption) ?_
    rotate_left
    · ((intro w hSw; go_simp) <;> with_reducible rfl)
    try simp only [Act.put, List.setIfInBounds_toArray, List.set_cons_zero, List.set_cons_succ]
    refine wpAnyH_takeD (i := 3) (d := (some 19)) (v := ?_) rfl rfl (by kernel_rfl) (by kernel_rfl) (by kernel_rfl) (fun _ _ _ h => h) (Or.inl ⟨by rfl, ?_⟩) (by assumption) ?_
    rotate_left
    · ((intro w hSw; go_simp) <;> with_reducible rfl)
    try simp only [Act.put, List.setIfInBounds_toArray, List.set_cons_zero, List.set_cons_succ]
    refine wpAnyH_takeD (i := 4) (d := (some 20)) (v := ?_) rfl rfl (by kernel_rfl) (by kernel_rfl) (by kernel_rfl) (fun _ _ _ h => h) (Or.inl ⟨by rfl, ?_⟩) (by assumption) ?_
    rotate_left
    · ((intro w hSw; go_simp) <;> with_reducible rfl)
    try simp only [Act.put, List.setIfInBounds_toArray, List.set_cons_zero, List.set_cons_succ]
    refine wpAnyH_takeD (i := 5) (d := (some 21)) (v := ?_) rfl rfl (by kernel_rfl) (by kernel_rfl) (by kernel_rfl) (fun _ _ _ h => h) (Or.inl ⟨by rfl, ?_⟩) (by assumption) ?_
    rotate_left
    · ((intro w hSw; go_simp) <;> with_reducible rfl)
    try simp only [Act.put, List.setIfInBounds_toArray, List.set_cons_zero, List.set_cons_succ]
    refine wpAnyH_takeD (i := 6) (d := (some 22)) (v := ?_) rfl rfl (by kernel_rfl) (by kernel_rfl) (by kernel_rfl) (fun _ _ _ h => h) (Or.inl ⟨by rfl, ?_⟩) (by assumption) ?_
    rotate_left
    · ((intro w hSw; go_simp) <;> with_reducible rfl)
    try simp only [Act.put, List.setIfInBounds_toArray, List.set_cons_zero, List.set_cons_succ]
    refine wpAnyH_takeD (i := 8) (d := (some 24)) (v := ?_) rfl rfl (by kernel_rfl) (by kernel_rfl) (by kernel_rfl) (fun _ _ _ h => h) (Or.inl ⟨by rfl, ?_⟩) (by assumption) ?_
    rotate_left
    · ((intro w hSw; go_simp) <;> with_reducible rfl)
    try simp only [Act.put, List.setIfInBounds_toArray, List.set_cons_zero, List.set_cons_succ]
    refine wpAnyH_takeD (i := 9) (d := (some 25)) (v := ?_) rfl rfl (by kernel_rfl) (by kernel_rfl) (by kernel_rfl) (fun _ _ _ h => h) (Or.inl ⟨by rfl, ?_⟩) (by assumption) ?_
    rotate_left
    · ((intro w hSw; go_simp) <;> with_reducible rfl)
    try simp only [Act.put, List.setIfInBounds_toArray, List.set_cons_zero, List.set_cons_succ]
    refine wpAnyH_takeD (i := 10) (d := (some 26)) (v := ?_) rfl rfl (by kernel_rfl) (by kernel_rfl) (by kernel_rfl) (fun _ _ _ h => h) (Or.inl ⟨by rfl, ?_⟩) (by assumption) ?_
    rotate_left
    · ((intro w hSw; go_simp) <;> with_reducible rfl)
    try simp only [Act.put, List.setIfInBounds_toArray, List.set_cons_zero, List.set_cons_succ]
    refine wpAnyH_ready (rs := [7, 11]) (by kernel_rfl) (by simp) ?_
    refine AllReadyH.cons rfl (fun K hK => ?_) (AllReadyH.cons rfl (fun K hK => ?_) (AllReadyH.nil))
    · obtain ⟨c0, c1, c2, _⟩ := ok_tt ol.out hy.out
      go_simp
      refine hK.out _ _ (trivial) (fun hHeld => ?_)
      clear hK K
      clear c0 c1 c2
      try simp only [Act.put, List.setIfInBounds_toArray, List.set_cons_zero, List.set_cons_succ]
      refine wpAnyH_ready (rs := [11]) (by kernel_rfl) (by simp) ?_
      refine AllReadyH.cons rfl (fun K hK => ?_) (AllReadyH.nil)
      obtain ⟨c0, c1, c2, _⟩ := ok_tt ol.out hx.out
      simp only [Nat.zero_mul, Nat.zero_add] at c0 c1 c2
      go_simp
      refine hK.out _ _ (trivial) (fun hHeld => ?_)
      clear hK K
      clear c0 c1 c2
      try simp only [Act.put, List.setIfInBounds_toArray, List.set_cons_zero, List.set_cons_succ]
      refine wpAnyH_takeD (i := 12) (d := (some 28)) (v := ?_) rfl rfl (by kernel_rfl) (by kernel_rfl) (by kernel_rfl) (fun _ _ _ h => h) (Or.inl ⟨by rfl, ?_⟩) (by assumption) ?_
      rotate_left
      · ((intro w hSw; go_simp) <;> with_reducible rfl)
      try simp only [Act.put, List.setIfInBounds_toArray, List.set_cons_zero, List.set_cons_succ]
      refine wpAnyH_ready (rs := [13]) (by kernel_rfl) (by simp) ?_
      refine AllReadyH.cons rfl (fun K hK => ?_) (AllReadyH.nil)
      obtain ⟨c0, c1, c2, f0, f1, f2⟩ := ok_tt ol.out hx'.out
      simp only [Nat.zero_mul, Nat.zero_add] at c0 c1 c2 f0 f1 f2
      have hl := ok_tset ol.out 0 (y0, y1, y2)
      have hbl := bl_set (bl_set (bl_set hb.out hg (o := 0) (.int .i32 y0)) hg (o := 1) (.bool y1)) hg (o := 2) (.int .u8 y2)
      simp only [Nat.zero_mul, Nat.zero_add] at hl
      go_simp
      refine hK.out _ _ (trivial) (fun hHeld => ?_)
      clear hK K
      clear c0 c1 c2 f0 f1 f2
      generalize (((u0.setCell ⟨g, 0, none⟩ (.int .i32 y0)).setCell ⟨g, 1, none⟩ (.bool y1)).setCell ⟨g, 2, none⟩ (.int .u8 y2)) = v1 at *
      replace ol := hide hl
      replace hb := hide hbl
      clear hl hbl
      try simp only [Act.put, List.setIfInBounds_toArray, List.set_cons_zero, List.set_cons_succ]
      refine wpAnyH_takeD (i := 14) (d := (some 29)) (v := ?_) rfl rfl (by kernel_rfl) (by kernel_rfl) (by kernel_rfl) (fun _ _ _ h => h) (Or.inl ⟨by rfl, ?_⟩) (by assumption) ?_
      rotate_left
      · ((intro w hSw; go_simp) <;> with_reducible rfl)
      try simp only [Act.put, List.setIfInBounds_toArray, List.set_cons_zero, List.set_cons_succ]
      refine wpAnyH_ready (rs := [15]) (by kernel_rfl) (by simp) ?_
      refine AllReadyH.cons rfl (fun K hK => ?_) (AllReadyH.nil)
      obtain ⟨c0, c1, c2, f0, f1, f2⟩ := ok_tt ol.out hy'.out
      have hl := ok_tset ol.out k (x0, x1, x2)
      have hbl := bl_set (bl_set (bl_set hb.out hg (o := k * 3) (.int .i32 x0)) hg (o := k * 3 + 1) (.bool x1)) hg (o := k * 3 + 2) (.int .u8 x2)
      go_simp
      refine hK.out _ _ (trivial) (fun hHeld => ?_)
      clear hK K
      clear c0 c1 c2 f0 f1 f2
      generalize (((v1.setCell ⟨g, k * 3, none⟩ (.int .i32 x0)).setCell ⟨g, k * 3 + 1, none⟩ (.bool x1)).setCell ⟨g, k * 3 + 2, none⟩ (.int .u8 x2)) = v2 at *
      replace ol := hide hl
      replace hb := hide hbl
      clear hl hbl
      try simp only [Act.put, List.setIfInBounds_toArray, List.set_cons_zero, List.set_cons_succ]
      refine wpAnyH_done (by kernel_rfl) ?_ _
      go_wp2_with fail
      go_ret
      rw [hsw.out] at ol
      exact ⟨_, _, rfl, ol.out, hb.out⟩
    · obtain ⟨c0, c1, c2, _⟩ := ok_tt ol.out hx.out
      simp only [Nat.zero_mul, Nat.zero_add] at c0 c1 c2
      go_simp
      refine hK.out _ _ (trivial) (fun hHeld => ?_)
      clear hK K
      clear c0 c1 c2
      try simp only [Act.put, List.setIfInBounds_toArray, List.set_cons_zero, List.set_cons_succ]
      refine wpAnyH_ready (rs := [7]) (by kernel_rfl) (by simp) ?_
      refine AllReadyH.cons rfl (fun K hK => ?_) (AllReadyH.nil)
      obtain ⟨c0, c1, c2, _⟩ := ok_tt ol.out hy.out
      go_simp
      refine hK.out _ _ (trivial) (fun hHeld => ?_)
      clear hK K
      clear c0 c1 c2
      try simp only [Act.put, List.setIfInBounds_toArray, List.set_cons_zero, List.set_cons_succ]
      refine wpAnyH_takeD (i := 12) (d := (some 28)) (v := ?_) rfl rfl (by kernel_rfl) (by kernel_rfl) (by kernel_rfl) (fun _ _ _ h => h) (Or.inl ⟨by rfl, ?_⟩) (by assumption) ?_
      rotate_left
      · ((intro w hSw; go_simp) <;> with_reducible rfl)
      try simp only [Act.put, List.setIfInBounds_toArray, List.set_cons_zero, List.set_cons_succ]
      refine wpAnyH_ready (rs := [13]) (by kernel_rfl) (by simp) ?_
      refine AllReadyH.cons rfl (fun K hK => ?_) (AllReadyH.nil)
      obtain ⟨c0, c1, c2, f0, f1, f2⟩ := ok_tt ol.out hx'.out
      simp only [Nat.zero_mul, Nat.zero_add] at c0 c1 c2 f0 f1 f2
      have hl := ok_tset ol.out 0 (y0, y1, y2)
      have hbl := bl_set (bl_set (bl_set hb.out hg (o := 0) (.int .i32 y0)) hg (o := 1) (.bool y1)) hg (o := 2) (.int .u8 y2)
      simp only [Nat.zero_mul, Nat.zero_add] at hl
      go_simp
      refine hK.out _ _ (trivial) (fun hHeld => ?_)
      clear hK K
      clear c0 c1 c2 f0 f1 f2
      generalize (((u0.setCell ⟨g, 0, none⟩ (.int .i32 y0)).setCell ⟨g, 1, none⟩ (.bool y1)).setCell ⟨g, 2, none⟩ (.int .u8 y2)) = v1 at *
      replace ol := hide hl
      replace hb := hide hbl
      clear hl hbl
      try simp only [Act.put, List.setIfInBounds_toArray, List.set_cons_zero, List.set_cons_succ]
      refine wpAnyH_takeD (i := 14) (d := (some 29)) (v := ?_) rfl rfl (by kernel_rfl) (by kernel_rfl) (by kernel_rfl) (fun _ _ _ h => h) (Or.inl ⟨by rfl, ?_⟩) (by assumption) ?_
      rotate_left
      · ((intro w hSw; go_simp) <;> with_reducible rfl)
      try simp only [Act.put, List.setIfInBounds_toArray, List.set_cons_zero, List.set_cons_succ]
      refine wpAnyH_ready (rs := [15]) (by kernel_rfl) (by simp) ?_
      refine AllReadyH.cons rfl (fun K hK => ?_) (AllReadyH.nil)
      obtain ⟨c0, c1, c2, f0, f1, f2⟩ := ok_tt ol.out hy'.out
      have hl := ok_tset ol.out k (x0, x1, x2)
      have hbl := bl_set (bl_set (bl_set hb.out hg (o := k * 3) (.int .i32 x0)) hg (o := k * 3 + 1) (.bool x1)) hg (o := k * 3 + 2) (.int .u8 x2)
      go_simp
      refine hK.out _ _ (trivial) (fun hHeld => ?_)
      clear hK K
      clear c0 c1 c2 f0 f1 f2
      generalize (((v1.setCell ⟨g, k * 3, none⟩ (.int .i32 x0)).setCell ⟨g, k * 3 + 1, none⟩ (.bool x1)).setCell ⟨g, k * 3 + 2, none⟩ (.int .u8 x2)) = v2 at *
      replace ol := hide hl
      replace hb := hide hbl
      clear hl hbl
      try simp only [Act.put, List.setIfInBounds_toArray, List.set_cons_zero, List.set_cons_succ]
      refine wpAnyH_done (by kernel_rfl) ?_ _
      go_wp2_with fail
      go_ret
      rw [hsw.out] at ol
      exact ⟨_, _, rfl, ol.out, hb.out⟩
  · obtain rfl : l = [] := List.eq_nil_of_length_eq_zero hl
    have d1 : decide ((k : Int) < 0) = false := decide_eq_false (by omega)
    go_enter Try.func31, Try.ntmps31
    go_wp2_with fail
    refine C.out.mono ?_
    rintro e w1 ⟨A1, c1, rfl, o1, h1⟩
    clear C
    go_wp2
    go_ret
    exact ⟨A1, c1, rfl, o1, h1⟩
theorem InEffect (S : BkS) (b : Bk) (four : Bool) (q : Nat) (t : Int) (w : World) (h : IsBk w S b) (hs : S.small) (hv : BOk b four q) : Calls Try.prog 14 #[bkV S, .int .i64 t] w fun e w' => e = .returned (.int .i64 (inE b t)) ∧ Below w.heap.size w w' := by
  have C := hide (inEffect S b four q t (w.alloc (.cells (blA S) 28)) (h.alloc _) hs hv)
  have hb := hide (bl_new w (.cells (blA S) 28))
  have k := hide (Ro.new w (blA S) 28)
  have G := gr_blk S
  obtain ⟨z0, z1⟩ := inE_byte h.ok t
  have hcv : ∀ w : World, (convert 5 3 (.int .u8 (inE b t))).run Try.prog w = .ok (.int .i64 (inE b t)) w := fun w => by simp [go_sem]; rw [IntKind.wrap_i64]; omega
  clear h hs hv z0 z1
  show Calls Try.prog 14 #[.agg (blA S), .int .i64 t] w _
  rw [show bkV S = .agg (blA S) from rfl] at C
  generalize blA S = cs at *
  generalize inE b t = r at *
  go_enter Try.func14, Try.ntmps14
  go_upto_region 1 with fail
  generalize (w.alloc (.cells cs 28)) = u at *
  go_wp2_with (first | (refine load_row_g (by rfl) 28 _ rfl _ rfl _ _ _ k.out Try.underlying28 rfl G.1 ?_) | fail)
  refine C.out.mono ?_
  rintro e w1 ⟨rfl, h1⟩
  replace hb := hide (bel_next hb.out h1)
  go_wp2
  go_ret
  exact ⟨rfl, hb.out⟩
end lg_
end Go.Proofs.Ytgbojkbhkjameaa

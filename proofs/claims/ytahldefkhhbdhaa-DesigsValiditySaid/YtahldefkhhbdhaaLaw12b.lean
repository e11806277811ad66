/-
  THE WALKS OF THE LAWS OF LAYER 12 (zoneinfolaw12): DesigsValidity. No conditions.
-/
import Derived.Test.YtahldefkhhbdhaaLaw12a
namespace Go.Proofs.Ytahldefkhhbdhaa
open Go.ChangeShapes Go.WideShapes Go.ChangeAt Go.RowKit
set_option linter.unusedVariables false
theorem badL_all {xs : List Int} (h : ∀ x ∈ xs, dsG x = true) : badL xs = if xs.getLast? = some 0 then -1 else (xs.length : Int) := by
  obtain ⟨q, hq, hqle, hin, hout⟩ := twi_facts dsG xs
  have e : q = xs.length := by
    rcases Nat.lt_or_ge q xs.length with h1 | h1
    · have hx : xs[q]? = some xs[q] := List.getElem?_eq_getElem h1
      have := hout _ hx
      rw [h _ (List.getElem_mem h1)] at this
      cases this
    · omega
  unfold badL
  rw [hq, if_neg (by omega)]
theorem badL_at {xs : List Int} {k : Nat} {c : Int} (h : ∀ i x, i < k → xs[i]? = some x → dsG x = true) (hk : xs[k]? = some c) (hc : dsG c = false) : badL xs = k := by
  obtain ⟨q, hq, hqle, hin, hout⟩ := twi_facts dsG xs
  have hkl := (List.getElem?_eq_some_iff.1 hk).1
  have e : q = k := by
    rcases Nat.lt_trichotomy q k with h1 | h1 | h1
    · have hx : xs[q]? = some xs[q] := List.getElem?_eq_getElem (by omega)
      have a := hout _ hx
      rw [h q _ h1 hx] at a
      cases a
    · exact h1
    · have a := hin k c h1 hk
      rw [hc] at a
      cases a
  unfold badL
  rw [hq, if_pos (by omega), e]
theorem valid_app {xs ys : List Int} (hx : badL xs = -1) (hy : badL ys = -1) : badL (xs ++ ys) = -1 := by
  obtain ⟨a1, a2⟩ := (badL_iff xs).1 hx
  obtain ⟨b1, b2⟩ := (badL_iff ys).1 hy
  refine (badL_iff _).2 ⟨fun x h => ?_, ?_⟩
  · rcases List.mem_append.1 h with h | h
    · exact a1 x h
    · exact b1 x h
  · rw [List.getLast?_append, b2]
    rfl
theorem last_at {xs : List Int} {m : Nat} (hl : xs.length = m + 1) : xs.getLast? = xs[m]? := by rw [List.getLast?_eq_getElem?, hl]; rfl
theorem cut_open {xs : List Int} {m : Nat} (hv : badL xs = -1) (hl : xs.length = m + 1) (h : m = 0 ∨ ∃ p y, m = p + 1 ∧ xs[p]? = some y ∧ ¬ y = 0) : badL (xs.take m) = m := by
  obtain ⟨a1, _⟩ := (badL_iff xs).1 hv
  have hlt : (xs.take m).length = m := by rw [List.length_take]; omega
  rw [badL_all (fun x hx => a1 x (List.mem_of_mem_take hx)), if_neg, hlt]
  rcases h with rfl | ⟨p, y, rfl, hy, h0⟩
  · simp
  · rw [last_at hlt, List.getElem?_take, if_pos (by omega), hy]
    intro e
    injection e with e
    exact h0 e
theorem cut_shut {xs : List Int} {p : Nat} (hv : badL xs = -1) (hl : xs.length = p + 1 + 1) (h : xs[p]? = some 0) : badL (xs.take (p + 1)) = -1 := by
  obtain ⟨a1, _⟩ := (badL_iff xs).1 hv
  have hlt : (xs.take (p + 1)).length = p + 1 := by rw [List.length_take]; omega
  rw [badL_all (fun x hx => a1 x (List.mem_of_mem_take hx)), if_pos]
  rw [last_at hlt, List.getElem?_take, if_pos (by omega), h]
theorem set_bad {zs : List Int} {k : Nat} {c : Int} (hv : badL zs = -1) (hk : k < zs.length) (hc : dsG c = false) : badL (zs.set k c) = k := by
  obtain ⟨a1, _⟩ := (badL_iff zs).1 hv
  refine badL_at (c := c) (fun i x hi hx => ?_) (by simp [hk]) hc
  rw [List.getElem?_set_ne (by omega)] at hx
  exact a1 x (List.mem_of_getElem? hx)
theorem set_ok {zs : List Int} {k : Nat} {c : Int} (hv : badL zs = -1) (hk : k < zs.length) (hc : dsG c = true) : badL (zs.set k c) = if k + 1 = zs.length ∧ ¬ c = 0 then (zs.length : Int) else -1 := by
  obtain ⟨a1, a2⟩ := (badL_iff zs).1 hv
  rw [badL_all (fun x hx => by
    rcases List.mem_or_eq_of_mem_set hx with h | rfl
    · exact a1 x h
    · exact hc), List.getLast?_eq_getElem?, List.length_set]
  by_cases h : k + 1 = zs.length
  · rw [show zs.length - 1 = k by omega, List.getElem?_set_self hk]
    by_cases h0 : c = 0
    · subst h0; simp
    · rw [if_neg (by simpa using h0), if_pos ⟨h, h0⟩]
  · rw [List.getElem?_set_ne (by omega), ← List.getLast?_eq_getElem?, a2, if_pos rfl, if_neg (by omega)]
theorem oneB (l : List Int) : ∀ u ∈ bys l, u.oneCell' = true := by
  intro u hu
  obtain ⟨x, _, rfl⟩ := List.mem_map.1 hu
  rfl
theorem ow_nil (w : World) (T : TypeId) : Ow (w.alloc (.cells #[] T)) w.heap.size T (some ⟨w.heap.size, 0, none⟩) 0 0 [] := Ow.lit w T [] (by decide)
namespace l12_
set_option maxRecDepth 100000 in
set_option maxHeartbeats 8000000 in
theorem validity (A1 : Option Addr) (n1 c1 : Nat) (z1 : List Int) (A2 : Option Addr) (n2 c2 : Nat) (z2 : List Int) (at_ c : Int) (w : World) (h1 : IsRw .u8 w A1 n1 c1 z1) (h2 : IsRw .u8 w A2 n2 c2 z2) (ha : (Lit.int .u16 at_).wf = true) (hc : (Lit.int .u8 c).wf = true) :
    Calls Try.prog 6 #[.slice A1 n1 c1, .slice A2 n2 c2, .int .u16 at_, .int .u8 c] w fun e w' => e = .returned (.bool true) ∧ Below w.heap.size w w' := by
  obtain ⟨a0, a1⟩ : 0 ≤ at_ ∧ at_ < 65536 := by simp [Lit.wf, IntKind.min, IntKind.max, IntKind.signed, IntKind.bits] at ha; omega
  obtain ⟨q0, q1⟩ := wf_u8 hc
  obtain ⟨ca1, ca2⟩ := h1.cap
  obtain ⟨cb1, cb2⟩ := h2.cap
  obtain ⟨r1, B1⟩ := rw_b h1
  obtain ⟨r2, B2⟩ := rw_b h2
  have nil1 := hide (h1.nil)
  have nil2 := hide (h2.nil)
  clear h1 h2 ha hc
  obtain ⟨xs, hxs⟩ : ∃ xs, xs = z1.take n1 := ⟨_, rfl⟩
  obtain ⟨ys, hys⟩ : ∃ ys, ys = z2.take n2 := ⟨_, rfl⟩
  rw [← hxs] at r1 B1
  rw [← hys] at r2 B2
  clear hxs hys
  have hb := hide (Below.refl w.heap.size w)
  by_cases hn1 : 500 < n1
  · have hn' : (500 : Int) < n1 := by omega
    clear r1 B1 r2 B2
    go_enter Try.func6, Try.ntmps6
    go_wp2_with fail
    refine (awake _).mono ?_
    rintro e w1 ⟨rfl, h1⟩
    replace hb := hide (bel_next hb.out h1)
    clear h1
    go_wp2_with fail
    refine (awake _).mono ?_
    rintro e w1 ⟨rfl, h1⟩
    replace hb := hide (bel_next hb.out h1)
    clear h1
    go_wp2
    go_ret
    exact ⟨rfl, hb.out⟩
  by_cases hn2 : 500 < n2
  · have hn' : (500 : Int) < n2 := by omega
    clear r1 B1 r2 B2
    go_enter Try.func6, Try.ntmps6
    go_wp2_with fail
    refine (awake _).mono ?_
    rintro e w1 ⟨rfl, h1⟩
    replace hb := hide (bel_next hb.out h1)
    clear h1
    go_wp2_with fail
    refine (awake _).mono ?_
    rintro e w1 ⟨rfl, h1⟩
    replace hb := hide (bel_next hb.out h1)
    clear h1
    go_wp2
    go_ret
    exact ⟨rfl, hb.out⟩
  have l1 : xs.length = n1 := by have := r1.len; simpa using this
  have l2 : ys.length = n2 := by have := r2.len; simpa using this
  have V1 := hide (fun w hr => r12_.Valid A1 n1 c1 xs w hr B1 (by omega))
  have V2 := hide (fun w hr => r12_.Valid A2 n2 c2 ys w hr B2 (by omega))
  replace r1 := hide r1
  replace r2 := hide r2
  by_cases v1 : badL xs = -1
  case neg =>
    rw [decide_eq_false v1] at V1
    clear v1 l1 l2
    go_enter Try.func6, Try.ntmps6
    go_wp2_with fail
    refine (awake _).mono ?_
    rintro e w1 ⟨rfl, h1⟩
    replace hb := hide (bel_next hb.out h1)
    clear h1
    go_wp2_with fail
    refine (V1.out _ (r1.out.below hb.out)).mono ?_
    rintro e w1 ⟨rfl, rfl⟩
    go_wp2_with fail
    refine (awake _).mono ?_
    rintro e w1 ⟨rfl, h1⟩
    replace hb := hide (bel_next hb.out h1)
    clear h1
    go_wp2
    go_ret
    exact ⟨rfl, hb.out⟩
  rw [decide_eq_true v1] at V1
  by_cases v2 : badL ys = -1
  case neg =>
    rw [decide_eq_false v2] at V2
    clear v1 v2 l1 l2
    go_enter Try.func6, Try.ntmps6
    go_wp2_with fail
    refine (awake _).mono ?_
    rintro e w1 ⟨rfl, h1⟩
    replace hb := hide (bel_next hb.out h1)
    clear h1
    go_wp2_with fail
    refine (V1.out _ (r1.out.below hb.out)).mono ?_
    rintro e w1 ⟨rfl, rfl⟩
    go_wp2_with fail
    refine (V2.out _ (r2.out.below hb.out)).mono ?_
    rintro e w1 ⟨rfl, rfl⟩
    go_wp2_with fail
    refine (awake _).mono ?_
    rintro e w1 ⟨rfl, h1⟩
    replace hb := hide (bel_next hb.out h1)
    clear h1
    go_wp2
    go_ret
    exact ⟨rfl, hb.out⟩
  rw [decide_eq_true v2] at V2
  obtain ⟨_, hp1⟩ := name_last v1
  obtain ⟨m, rfl⟩ : ∃ m, n1 = m + 1 := ⟨n1 - 1, by omega⟩
  obtain ⟨N, hN⟩ : ∃ N, N = m + 1 + n2 := ⟨_, rfl⟩
  obtain ⟨zs, hzs⟩ : ∃ zs, zs = xs ++ ys := ⟨_, rfl⟩
  have vz : badL zs = -1 := by rw [hzs]; exact valid_app v1 v2
  have zl : zs.length = N := by rw [hzs, List.length_append]; omega
  have Bz : IsB zs := fun x hx => by rw [hzs] at hx; rcases List.mem_append.1 hx with h | h <;> first | exact B1 x h | exact B2 x h
  have hN0 : N ≤ 1000 := by omega
  have hNm : m + 1 ≤ N := by omega
  obtain ⟨k, hk⟩ : ∃ k : Nat, (k : Int) = at_ % (N : Int) := ⟨(at_ % (N : Int)).toNat, by have := Int.emod_nonneg at_ (show (N : Int) ≠ 0 by omega); omega⟩
  have hkN : k < N := by have := Int.emod_lt_of_pos at_ (show (0 : Int) < N by omega); omega
  have ek : at_.tmod (N : Int) = (k : Int) := by rw [Int.tmod_eq_emod_of_nonneg a0, hk]
  have hm1 : ((m + 1 : Nat) : Int) - 1 = (m : Int) := by omega
  have VB := hide (fun A c w hr k1 k2 => ds_.Valid A N c zs w hr Bz (by omega) k1 k2)
  rw [decide_eq_true vz] at VB
  have Bx1 : IsB (zs.set k c) := fun x hx => by rcases List.mem_or_eq_of_mem_set hx with h | rfl <;> first | exact Bz x h | exact ⟨q0, q1⟩
  have BX := hide (fun A cc w hr k1 k2 => ds_.Bad A N cc (zs.set k c) w hr Bx1 (by omega) k1 k2)
  have Bc : IsB (xs.take m) := fun x hx => B1 x (List.mem_of_mem_take hx)
  have VC := hide (fun w hr => ds_.Valid A1 m c1 (xs.take m) w hr Bc (by omega) (by omega) (by omega))
  have BC := hide (fun w hr => ds_.Bad A1 m c1 (xs.take m) w hr Bc (by omega) (by omega) (by omega))
  have rc := hide (show Rd w A1 m (bys (xs.take m)) by have := r1.out.take (k := m) (by omega); rwa [← List.map_take] at this)
  have AL := hide (fun w => r12_.Allowed c w q0 q1)
  obtain ⟨ad, xx, rfl, _, _⟩ := rd_at r1.out (i := 0) (by omega)
  have O1 := hide (oneB xs)
  have O2 := hide (oneB ys)
  have OZ := hide (oneB zs)
  have hop : (m = 0 ∧ badL (xs.take m) = m) ∨ (∃ p y, m = p + 1 ∧ xs[p]? = some y ∧ (y != 0) = true ∧ badL (xs.take m) = m) ∨ (∃ p, m = p + 1 ∧ xs[p]? = some 0 ∧ badL (xs.take m) = -1) := by
    rcases Nat.eq_zero_or_pos m with h | h
    · exact .inl ⟨h, cut_open v1 l1 (.inl h)⟩
    · obtain ⟨p, rfl⟩ : ∃ p, m = p + 1 := ⟨m - 1, by omega⟩
      have hx : xs[p]? = some xs[p] := List.getElem?_eq_getElem (by omega)
      by_cases h0 : xs[p] = 0
      · rw [h0] at hx
        exact .inr (.inr ⟨p, rfl, hx, cut_shut v1 l1 hx⟩)
      · exact .inr (.inl ⟨p, _, rfl, hx, by simpa using h0, cut_open v1 l1 (.inr ⟨p, _, rfl, hx, h0⟩)⟩)
  have hcc : (c = 0 ∧ badL (zs.set k c) = -1) ∨ ((c != 0) = true ∧ (c == 0) = false ∧ dsA c = true ∧ ((k : Int) == (N : Int) - 1) = true ∧ badL (zs.set k c) = N) ∨ ((c != 0) = true ∧ (c == 0) = false ∧ dsA c = true ∧ ((k : Int) == (N : Int) - 1) = false ∧ badL (zs.set k c) = -1) ∨ ((c != 0) = true ∧ (c == 0) = false ∧ dsA c = false ∧ badL (zs.set k c) = k) := by
    have hg : dsG c = (decide (c = 0) || dsA c) := rfl
    by_cases h0 : c = 0
    · refine .inl ⟨h0, ?_⟩
      rw [set_ok vz (by omega) (by rw [hg, decide_eq_true h0]; rfl), if_neg (by omega)]
    · have e1 : (c != 0) = true := by simpa using h0
      have e2 : (c == 0) = false := by simpa using h0
      rcases hA : dsA c
      · exact .inr (.inr (.inr ⟨e1, e2, rfl, set_bad vz (by omega) (by rw [hg, hA, decide_eq_false h0]; rfl)⟩))
      · have hok := set_ok (c := c) vz (show k < zs.length by omega) (by rw [hg, hA]; simp)
        rw [zl] at hok
        by_cases hl : k + 1 = N
        · refine .inr (.inl ⟨e1, e2, rfl, by simp; omega, ?_⟩)
          rw [hok, if_pos ⟨hl, h0⟩]
        · refine .inr (.inr (.inl ⟨e1, e2, rfl, by simp; omega, ?_⟩))
          rw [hok, if_neg (by omega)]
  have kx : (k : Int) < N := by omega
  have LC := hide (fun (W : World) (hr : Rd W (some ad) (m + 1) (bys xs)) (p : Nat) (y : Int) (h : xs[p]? = some y) => show W.cell? (ad.add p) = some (.int .u8 y) by
    obtain ⟨ad', x, e, hx, hc⟩ := rd_at hr (i := p) (by have := (List.getElem?_eq_some_iff.1 h).1; omega)
    cases e
    rw [h] at hx
    injection hx with hx
    rw [hc, hx])
  have hzs' := hide hzs
  have hN' := hide hN
  replace hop := hide hop
  replace hcc := hide hcc
  clear v1 v2 vz zl hN hk hzs B1 B2 Bz Bx1 Bc l1 l2 hp1
  go_enter Try.func6, Try.ntmps6
  go_wp2_with fail
  refine (awake _).mono ?_
  rintro e w1 ⟨rfl, h1⟩
  replace hb := hide (bel_next hb.out h1)
  clear h1
  go_wp2_with fail
  refine (V1.out _ (r1.out.below hb.out)).mono ?_
  rintro e w2 ⟨rfl, rfl⟩
  go_wp2_with fail
  refine (V2.out _ (r2.out.below hb.out)).mono ?_
  rintro e w2 ⟨rfl, rfl⟩
  have r1b := hide ((r1.out.below hb.out).alloc (.cells #[] 5))
  have hoE := hide (ow_nil w1 5)
  have hbE := hide (bl_alloc hb.out (.cells #[] 5))
  have hz := hide hb.out.size
  have m1 := hide (show 0 + (m + 1) ≤ maxLen by simp [maxLen]; omega)
  have m2 := hide (show (0 + (m + 1)) * 1 ≤ 140737488355328 by omega)
  have m3 := hide (show m + 1 + n2 ≤ maxLen by simp [maxLen]; omega)
  have m4 := hide (show (m + 1 + n2) * 1 ≤ 140737488355328 by omega)
  go_upto_region 4 with (first
    | (at_builtin; refine apA elU8_ hoE.out hbE.out hz.out r1b.out (.tmp 39) (.tmp 40) rfl rfl rfl rfl nil1.out O1.out m1.out m2.out ?_; intro Aa ca wa hoa hba _; rw [Nat.zero_add] at hoa ⊢; rw [List.nil_append] at hoa; replace hoa := hide hoa; replace hba := hide hba)
    | (at_builtin; refine apA elU8_ hoa.out hba.out hz.out (r2.out.below hba.out) (.tmp 41) (.tmp 42) rfl rfl rfl rfl nil2.out O2.out m3.out m4.out ?_; intro A9 c9 w9 ho9 hb9 _; rw [← hN'.out] at ho9 ⊢; rw [← List.map_append, ← hzs'.out] at ho9; replace hb := hide hb9; replace ho9 := hide ho9; clear hoa hba hb9))
  have Np : 0 < N := by omega
  obtain ⟨g9, rfl, _, _⟩ := ho9.out.form Np
  have r9 := hide ho9.out.rd
  have k9 := hide (ow_c ho9.out)
  have h3 := hide (Below.refl w9.heap.size w9)
  have r9b := hide (r9.out.alloc (.cells #[] 5))
  have hoE9 := hide (ow_nil w9 5)
  have hbE9 := hide (bl_alloc h3.out (.cells #[] 5))
  have m5 := hide (show 0 + N ≤ maxLen by simp [maxLen]; omega)
  have m6 := hide (show (0 + N) * 1 ≤ 140737488355328 by omega)
  have CE := hide (fun (W : World) (b g cc : Nat) (h : Ow W b 5 (some ⟨g, 0, none⟩) N cc (bys zs)) => show W.cell? ⟨g, k, none⟩ = some (.int .u8 ((zs[k]?).getD 0)) by
    have hz : zs.length = N := by have := h.len; simpa using this
    rw [h.cell k hkN, List.getElem?_map, List.getElem?_eq_getElem (by omega)]
    rfl)
  have cy := hide (LC.out _ (r1.out.below hb.out))
  clear ho9 r1b hoE hbE hz m1 m2 m3 m4 V1 V2 hN' hzs' r1 r2
  rcases hop.out with ⟨rfl, eb⟩ | ⟨p, y, rfl, hy, y0, eb⟩ | ⟨p, rfl, hy, eb⟩
  · rw [eb, decide_eq_false (by omega)] at VC
    rw [eb] at BC
    clear hop eb
    rcases hcc.out with ⟨rfl, eB⟩ | ⟨x1, x2, dA, x3, eB⟩ | ⟨x1, x2, dA, x3, eB⟩ | ⟨x1, x2, dA, eB⟩
    · rw [eB] at BX
      try rw [dA] at AL
      clear hcc eB
      go_upto_region 6 with fail
      go_upto_region 7 with (at_builtin; refine apA elU8_ hoE9.out hbE9.out (Nat.le_refl _) r9b.out (.tmp 61) (.tmp 62) rfl rfl rfl rfl (fun h => by cases h) OZ.out m5.out m6.out ?_; intro Ax cx wx hox hbx _; rw [Nat.zero_add] at hox ⊢; rw [List.nil_append] at hox; replace hox := hide hox; replace hbx := hide hbx)
      obtain ⟨gx, rfl, hgx, _⟩ := hox.out.form Np
      have kx := hide (ow_c hox.out)
      have hset := hox.out.set k (.int .u8 0)
      rw [← List.map_set] at hset
      replace hset := hide hset
      have hl := CE.out _ _ _ _ hox.out
      have hfr := hox.out.frozen k
      have hbs := hide (bl_set (o := k) (bel_next hb.out hbx.out) (Nat.le_trans hb.out.size hgx) (.int .u8 0))
      have h3s := hide (bl_set (o := k) hbx.out hgx (.int .u8 0))
      clear cy
      go_upto_region 9 with fail
      replace hb := hbs
      replace h3 := h3s
      have rx := hide hset.out.rd
      clear hset hl hfr hbs h3s hox hbx hgx
      generalize (wx.setCell ⟨gx, k, none⟩ (.int .u8 0)) = wy at *
      go_wp2_with (first
        | (go_at_call 19; refine (AL.out _).mono ?_; rintro e w' ⟨rfl, rfl⟩)
        | (go_at_call 9; with_reducible refine (VB.out _ _ _ (r9.out.below h3.out) k9.out.1 k9.out.2).mono ?_; rintro e w' ⟨rfl, h1⟩; replace h3 := hide (bel_next h3.out h1); replace hb := hide (bel_next hb.out h1); replace rx := hide (rx.out.below h1); clear h1)
        | (go_at_call 9; with_reducible refine (VC.out _ (rc.out.below hb.out)).mono ?_; rintro e w' ⟨rfl, h1⟩; replace h3 := hide (bel_next h3.out h1); replace hb := hide (bel_next hb.out h1); replace rx := hide (rx.out.below h1); clear h1)
        | (go_at_call 11; with_reducible refine (BC.out _ (rc.out.below hb.out)).mono ?_; rintro e w' ⟨rfl, h1⟩; replace h3 := hide (bel_next h3.out h1); replace hb := hide (bel_next hb.out h1); replace rx := hide (rx.out.below h1); clear h1)
        | (go_at_call 11; with_reducible refine (BX.out _ _ _ rx.out kx.out.1 kx.out.2).mono ?_; rintro e w' ⟨rfl, h1⟩; replace h3 := hide (bel_next h3.out h1); replace hb := hide (bel_next hb.out h1); replace rx := hide (rx.out.below h1); clear h1))
      all_goals
        go_ret
        exact ⟨rfl, hb.out⟩
    all_goals
      rw [eB] at BX
      try rw [dA] at AL
      clear hcc eB
      go_upto_region 6 with fail
      go_upto_region 7 with (at_builtin; refine apA elU8_ hoE9.out hbE9.out (Nat.le_refl _) r9b.out (.tmp 61) (.tmp 62) rfl rfl rfl rfl (fun h => by cases h) OZ.out m5.out m6.out ?_; intro Ax cx wx hox hbx _; rw [Nat.zero_add] at hox ⊢; rw [List.nil_append] at hox; replace hox := hide hox; replace hbx := hide hbx)
      obtain ⟨gx, rfl, hgx, _⟩ := hox.out.form Np
      have kx := hide (ow_c hox.out)
      have hset := hox.out.set k (.int .u8 c)
      rw [← List.map_set] at hset
      replace hset := hide hset
      have hl := CE.out _ _ _ _ hox.out
      have hfr := hox.out.frozen k
      have hbs := hide (bl_set (o := k) (bel_next hb.out hbx.out) (Nat.le_trans hb.out.size hgx) (.int .u8 c))
      have h3s := hide (bl_set (o := k) hbx.out hgx (.int .u8 c))
      clear cy
      go_upto_region 9 with fail
      replace hb := hbs
      replace h3 := h3s
      have rx := hide hset.out.rd
      clear hset hl hfr hbs h3s hox hbx hgx
      generalize (wx.setCell ⟨gx, k, none⟩ (.int .u8 c)) = wy at *
      go_wp2_with (first
        | (go_at_call 19; refine (AL.out _).mono ?_; rintro e w' ⟨rfl, rfl⟩)
        | (go_at_call 9; with_reducible refine (VB.out _ _ _ (r9.out.below h3.out) k9.out.1 k9.out.2).mono ?_; rintro e w' ⟨rfl, h1⟩; replace h3 := hide (bel_next h3.out h1); replace hb := hide (bel_next hb.out h1); replace rx := hide (rx.out.below h1); clear h1)
        | (go_at_call 9; with_reducible refine (VC.out _ (rc.out.below hb.out)).mono ?_; rintro e w' ⟨rfl, h1⟩; replace h3 := hide (bel_next h3.out h1); replace hb := hide (bel_next hb.out h1); replace rx := hide (rx.out.below h1); clear h1)
        | (go_at_call 11; with_reducible refine (BC.out _ (rc.out.below hb.out)).mono ?_; rintro e w' ⟨rfl, h1⟩; replace h3 := hide (bel_next h3.out h1); replace hb := hide (bel_next hb.out h1); replace rx := hide (rx.out.below h1); clear h1)
        | (go_at_call 11; with_reducible refine (BX.out _ _ _ rx.out kx.out.1 kx.out.2).mono ?_; rintro e w' ⟨rfl, h1⟩; replace h3 := hide (bel_next h3.out h1); replace hb := hide (bel_next hb.out h1); replace rx := hide (rx.out.below h1); clear h1))
      all_goals
        go_ret
        exact ⟨rfl, hb.out⟩
  · have cyy := cy.out p y hy
    rw [eb, decide_eq_false (by omega)] at VC
    rw [eb] at BC
    clear hop eb
    rcases hcc.out with ⟨rfl, eB⟩ | ⟨x1, x2, dA, x3, eB⟩ | ⟨x1, x2, dA, x3, eB⟩ | ⟨x1, x2, dA, eB⟩
    · rw [eB] at BX
      try rw [dA] at AL
      clear hcc eB
      go_upto_region 6 with fail
      go_upto_region 7 with (at_builtin; refine apA elU8_ hoE9.out hbE9.out (Nat.le_refl _) r9b.out (.tmp 61) (.tmp 62) rfl rfl rfl rfl (fun h => by cases h) OZ.out m5.out m6.out ?_; intro Ax cx wx hox hbx _; rw [Nat.zero_add] at hox ⊢; rw [List.nil_append] at hox; replace hox := hide hox; replace hbx := hide hbx)
      obtain ⟨gx, rfl, hgx, _⟩ := hox.out.form Np
      have kx := hide (ow_c hox.out)
      have hset := hox.out.set k (.int .u8 0)
      rw [← List.map_set] at hset
      replace hset := hide hset
      have hl := CE.out _ _ _ _ hox.out
      have hfr := hox.out.frozen k
      have hbs := hide (bl_set (o := k) (bel_next hb.out hbx.out) (Nat.le_trans hb.out.size hgx) (.int .u8 0))
      have h3s := hide (bl_set (o := k) hbx.out hgx (.int .u8 0))
      clear cy
      go_upto_region 9 with fail
      replace hb := hbs
      replace h3 := h3s
      have rx := hide hset.out.rd
      clear hset hl hfr hbs h3s hox hbx hgx
      generalize (wx.setCell ⟨gx, k, none⟩ (.int .u8 0)) = wy at *
      go_wp2_with (first
        | (go_at_call 19; refine (AL.out _).mono ?_; rintro e w' ⟨rfl, rfl⟩)
        | (go_at_call 9; with_reducible refine (VB.out _ _ _ (r9.out.below h3.out) k9.out.1 k9.out.2).mono ?_; rintro e w' ⟨rfl, h1⟩; replace h3 := hide (bel_next h3.out h1); replace hb := hide (bel_next hb.out h1); replace rx := hide (rx.out.below h1); clear h1)
        | (go_at_call 9; with_reducible refine (VC.out _ (rc.out.below hb.out)).mono ?_; rintro e w' ⟨rfl, h1⟩; replace h3 := hide (bel_next h3.out h1); replace hb := hide (bel_next hb.out h1); replace rx := hide (rx.out.below h1); clear h1)
        | (go_at_call 11; with_reducible refine (BC.out _ (rc.out.below hb.out)).mono ?_; rintro e w' ⟨rfl, h1⟩; replace h3 := hide (bel_next h3.out h1); replace hb := hide (bel_next hb.out h1); replace rx := hide (rx.out.below h1); clear h1)
        | (go_at_call 11; with_reducible refine (BX.out _ _ _ rx.out kx.out.1 kx.out.2).mono ?_; rintro e w' ⟨rfl, h1⟩; replace h3 := hide (bel_next h3.out h1); replace hb := hide (bel_next hb.out h1); replace rx := hide (rx.out.below h1); clear h1))
      all_goals
        go_ret
        exact ⟨rfl, hb.out⟩
    all_goals
      rw [eB] at BX
      try rw [dA] at AL
      clear hcc eB
      go_upto_region 6 with fail
      go_upto_region 7 with (at_builtin; refine apA elU8_ hoE9.out hbE9.out (Nat.le_refl _) r9b.out (.tmp 61) (.tmp 62) rfl rfl rfl rfl (fun h => by cases h) OZ.out m5.out m6.out ?_; intro Ax cx wx hox hbx _; rw [Nat.zero_add] at hox ⊢; rw [List.nil_append] at hox; replace hox := hide hox; replace hbx := hide hbx)
      obtain ⟨gx, rfl, hgx, _⟩ := hox.out.form Np
      have kx := hide (ow_c hox.out)
      have hset := hox.out.set k (.int .u8 c)
      rw [← List.map_set] at hset
      replace hset := hide hset
      have hl := CE.out _ _ _ _ hox.out
      have hfr := hox.out.frozen k
      have hbs := hide (bl_set (o := k) (bel_next hb.out hbx.out) (Nat.le_trans hb.out.size hgx) (.int .u8 c))
      have h3s := hide (bl_set (o := k) hbx.out hgx (.int .u8 c))
      clear cy
      go_upto_region 9 with fail
      replace hb := hbs
      replace h3 := h3s
      have rx := hide hset.out.rd
      clear hset hl hfr hbs h3s hox hbx hgx
      generalize (wx.setCell ⟨gx, k, none⟩ (.int .u8 c)) = wy at *
      go_wp2_with (first
        | (go_at_call 19; refine (AL.out _).mono ?_; rintro e w' ⟨rfl, rfl⟩)
        | (go_at_call 9; with_reducible refine (VB.out _ _ _ (r9.out.below h3.out) k9.out.1 k9.out.2).mono ?_; rintro e w' ⟨rfl, h1⟩; replace h3 := hide (bel_next h3.out h1); replace hb := hide (bel_next hb.out h1); replace rx := hide (rx.out.below h1); clear h1)
        | (go_at_call 9; with_reducible refine (VC.out _ (rc.out.below hb.out)).mono ?_; rintro e w' ⟨rfl, h1⟩; replace h3 := hide (bel_next h3.out h1); replace hb := hide (bel_next hb.out h1); replace rx := hide (rx.out.below h1); clear h1)
        | (go_at_call 11; with_reducible refine (BC.out _ (rc.out.below hb.out)).mono ?_; rintro e w' ⟨rfl, h1⟩; replace h3 := hide (bel_next h3.out h1); replace hb := hide (bel_next hb.out h1); replace rx := hide (rx.out.below h1); clear h1)
        | (go_at_call 11; with_reducible refine (BX.out _ _ _ rx.out kx.out.1 kx.out.2).mono ?_; rintro e w' ⟨rfl, h1⟩; replace h3 := hide (bel_next h3.out h1); replace hb := hide (bel_next hb.out h1); replace rx := hide (rx.out.below h1); clear h1))
      all_goals
        go_ret
        exact ⟨rfl, hb.out⟩
  · have cyy := cy.out p 0 hy
    rw [eb, decide_eq_true rfl] at VC
    rw [eb] at BC
    clear hop eb
    rcases hcc.out with ⟨rfl, eB⟩ | ⟨x1, x2, dA, x3, eB⟩ | ⟨x1, x2, dA, x3, eB⟩ | ⟨x1, x2, dA, eB⟩
    · rw [eB] at BX
      try rw [dA] at AL
      clear hcc eB
      go_upto_region 6 with fail
      go_upto_region 7 with (at_builtin; refine apA elU8_ hoE9.out hbE9.out (Nat.le_refl _) r9b.out (.tmp 61) (.tmp 62) rfl rfl rfl rfl (fun h => by cases h) OZ.out m5.out m6.out ?_; intro Ax cx wx hox hbx _; rw [Nat.zero_add] at hox ⊢; rw [List.nil_append] at hox; replace hox := hide hox; replace hbx := hide hbx)
      obtain ⟨gx, rfl, hgx, _⟩ := hox.out.form Np
      have kx := hide (ow_c hox.out)
      have hset := hox.out.set k (.int .u8 0)
      rw [← List.map_set] at hset
      replace hset := hide hset
      have hl := CE.out _ _ _ _ hox.out
      have hfr := hox.out.frozen k
      have hbs := hide (bl_set (o := k) (bel_next hb.out hbx.out) (Nat.le_trans hb.out.size hgx) (.int .u8 0))
      have h3s := hide (bl_set (o := k) hbx.out hgx (.int .u8 0))
      clear cy
      go_upto_region 9 with fail
      replace hb := hbs
      replace h3 := h3s
      have rx := hide hset.out.rd
      clear hset hl hfr hbs h3s hox hbx hgx
      generalize (wx.setCell ⟨gx, k, none⟩ (.int .u8 0)) = wy at *
      go_wp2_with (first
        | (go_at_call 19; refine (AL.out _).mono ?_; rintro e w' ⟨rfl, rfl⟩)
        | (go_at_call 9; with_reducible refine (VB.out _ _ _ (r9.out.below h3.out) k9.out.1 k9.out.2).mono ?_; rintro e w' ⟨rfl, h1⟩; replace h3 := hide (bel_next h3.out h1); replace hb := hide (bel_next hb.out h1); replace rx := hide (rx.out.below h1); clear h1)
        | (go_at_call 9; with_reducible refine (VC.out _ (rc.out.below hb.out)).mono ?_; rintro e w' ⟨rfl, h1⟩; replace h3 := hide (bel_next h3.out h1); replace hb := hide (bel_next hb.out h1); replace rx := hide (rx.out.below h1); clear h1)
        | (go_at_call 11; with_reducible refine (BC.out _ (rc.out.below hb.out)).mono ?_; rintro e w' ⟨rfl, h1⟩; replace h3 := hide (bel_next h3.out h1); replace hb := hide (bel_next hb.out h1); replace rx := hide (rx.out.below h1); clear h1)
        | (go_at_call 11; with_reducible refine (BX.out _ _ _ rx.out kx.out.1 kx.out.2).mono ?_; rintro e w' ⟨rfl, h1⟩; replace h3 := hide (bel_next h3.out h1); replace hb := hide (bel_next hb.out h1); replace rx := hide (rx.out.below h1); clear h1))
      all_goals
        go_ret
        exact ⟨rfl, hb.out⟩
    all_goals
      rw [eB] at BX
      try rw [dA] at AL
      clear hcc eB
      go_upto_region 6 with fail
      go_upto_region 7 with (at_builtin; refine apA elU8_ hoE9.out hbE9.out (Nat.le_refl _) r9b.out (.tmp 61) (.tmp 62) rfl rfl rfl rfl (fun h => by cases h) OZ.out m5.out m6.out ?_; intro Ax cx wx hox hbx _; rw [Nat.zero_add] at hox ⊢; rw [List.nil_append] at hox; replace hox := hide hox; replace hbx := hide hbx)
      obtain ⟨gx, rfl, hgx, _⟩ := hox.out.form Np
      have kx := hide (ow_c hox.out)
      have hset := hox.out.set k (.int .u8 c)
      rw [← List.map_set] at hset
      replace hset := hide hset
      have hl := CE.out _ _ _ _ hox.out
      have hfr := hox.out.frozen k
      have hbs := hide (bl_set (o := k) (bel_next hb.out hbx.out) (Nat.le_trans hb.out.size hgx) (.int .u8 c))
      have h3s := hide (bl_set (o := k) hbx.out hgx (.int .u8 c))
      clear cy
      go_upto_region 9 with fail
      replace hb := hbs
      replace h3 := h3s
      have rx := hide hset.out.rd
      clear hset hl hfr hbs h3s hox hbx hgx
      generalize (wx.setCell ⟨gx, k, none⟩ (.int .u8 c)) = wy at *
      go_wp2_with (first
        | (go_at_call 19; refine (AL.out _).mono ?_; rintro e w' ⟨rfl, rfl⟩)
        | (go_at_call 9; with_reducible refine (VB.out _ _ _ (r9.out.below h3.out) k9.out.1 k9.out.2).mono ?_; rintro e w' ⟨rfl, h1⟩; replace h3 := hide (bel_next h3.out h1); replace hb := hide (bel_next hb.out h1); replace rx := hide (rx.out.below h1); clear h1)
        | (go_at_call 9; with_reducible refine (VC.out _ (rc.out.below hb.out)).mono ?_; rintro e w' ⟨rfl, h1⟩; replace h3 := hide (bel_next h3.out h1); replace hb := hide (bel_next hb.out h1); replace rx := hide (rx.out.below h1); clear h1)
        | (go_at_call 11; with_reducible refine (BC.out _ (rc.out.below hb.out)).mono ?_; rintro e w' ⟨rfl, h1⟩; replace h3 := hide (bel_next h3.out h1); replace hb := hide (bel_next hb.out h1); replace rx := hide (rx.out.below h1); clear h1)
        | (go_at_call 11; with_reducible refine (BX.out _ _ _ rx.out kx.out.1 kx.out.2).mono ?_; rintro e w' ⟨rfl, h1⟩; replace h3 := hide (bel_next h3.out h1); replace hb := hide (bel_next hb.out h1); replace rx := hide (rx.out.below h1); clear h1))
      all_goals
        go_ret
        exact ⟨rfl, hb.out⟩
end l12_
end Go.Proofs.Ytahldefkhhbdhaa

/-
  CONTRACTS OF PACKAGE transitions, of the code that landed at 4625a2c: the iterator over the pairs of neighbors; Descent. Condition: at most 1,000,000 times.
-/
import Derived.Test.YtknnobpnfnajiaaTrM
import Derived.Test.YtknnobpnfnajiaaBase2
import Derived.Test.YtknnobpnfnajiaaItr
import Derived.Test.YtknnobpnfnajiaaRows
import Derived.Deep.RegionHeld3
import Derived.Deep.DeepCutAuto
namespace Go.Proofs.Ytknnobpnfnajiaa
open Go.ChangeShapes Go.WideShapes Go.ChangeAt Go.RowKit Go.Shelf
set_option linter.unusedVariables false
set_option maxRecDepth 100000
attribute [local go_sem] Oper.semAt_some
namespace tr_
/-- the pair at place k, with the index of its later element, as yield takes it. -/
def encN (l : List Int) (k : Nat) : Array Value := #[.int .i64 ((k + 1 : Nat) : Int), .agg #[.int .i64 (l[k]?.getD 0), .int .i64 (l[k + 1]?.getD 0)]]
theorem neighbors_ (A : Option Addr) (n c : Nat) (w : World) : Calls Try.prog 24 #[.slice A n c] w fun e w' =>
    e = .returned (.func (.func 32) #[] #[.pointer (some ⟨w.heap.size, 0, none⟩)]) ∧ w' = w.alloc (.cells #[.slice A n c] 23) := by
  go_enter Try.func24, Try.ntmps24
  go_wp2
  go_ret
  exact ⟨rfl, rfl⟩
set_option maxHeartbeats 4000000 in
theorem stops_ (A : Option Addr) (n c : Nat) (l : List Int) (gB m : Nat) (w0 w : World) (hn : n ≤ 1000000) (hr : Rd w0 A n (l.map (Value.int .i64))) (h0w : Below w0.heap.size w0 w) (hB : Ro w gB #[.slice A n c] 23) :
    SeqStopsK Fence.wide m Try.prog 32 #[.pointer (some ⟨gB, 0, none⟩)] (encN l) (Kp1 w0.heap.size gB)
      (fun xs => xs = List.range (n - 1)) (fun pre => ∃ k, k ≤ n - 1 ∧ pre = List.range k) (n - 1) w := fun lp J Jx W hW hJ hJx hY h0 => by
  have hw0 := hide (h0w.trans (hW.mono h0w.size))
  replace hB := hide (hB.below hW)
  have hYY := hide hY
  have hRR := hide hr
  clear hY hJx h0w hr
  refine callsIn_wide.2 ?_
  show Calls Try.prog 32 #[.func (.yield lp) #[] #[], .pointer (some ⟨gB, 0, none⟩)] W _
  go_enter Try.func32, Try.ntmps32
  go_wp2
  go_loopw [3] (fun s3 wr => ∃ k j : Nat, k ≤ n - 1 ∧ s3 = .int .i64 (j : Int) ∧ j = k + 1 ∧ J (List.range k) wr ∧ Ro wr gB #[.slice A n c] 23 ∧ Below w0.heap.size w0 wr)
    (fun s3 _ => n + 1 - (intOf s3).toNat)
  case atStart => exact ⟨0, 1, by omega, rfl, rfl, h0, hB.out, hw0.out⟩
  case round =>
    clear hB hw0 h0
    obtain ⟨k, j, hk, rfl, hj, hJ1, hB, hw⟩ := hrel
    obtain ⟨cB, _⟩ := ro_cf hB 0 (.slice A n c) rfl
    by_cases hlt : j < n
    · obtain ⟨ad, e1, hc⟩ := (hRR.out.below hw).int (i := k) (by omega)
      obtain ⟨ad', e2, hc'⟩ := (hRR.out.below hw).int hlt
      subst e1
      cases e2
      have i1 : IntKind.i64.wrap ((j : Int) - 1) = (k : Int) := by rw [IntKind.wrap_i64]; omega
      have k0 : k < n := by omega
      have hJ2 := hJ _ _ _ none hJ1 (grown_of (bl_drew (bl_refl wr))) (fun r e => by cases e)
      obtain ⟨fn, tmps, assign, body, hy, hRd⟩ := hYY.out (List.range k) k wr.drew hJ2 (by simp; omega)
      dsimp only [encN] at hy
      rw [← hj] at hy
      generalize l[k]?.getD 0 = x at *
      generalize l[j]?.getD 0 = y at *
      have hR2 := hRd.mono (R' := fun e W3 => ∃ b, e = .returned (.bool b) ∧ ((b = true ∧ J (List.range (k + 1)) W3 ∧ Kp1 w0.heap.size gB wr W3) ∨ (b = false ∧ Jx (List.range (k + 1)) W3))) (by
        rw [List.range_succ]
        rintro e W3 (⟨rfl, h1, h2⟩ | ⟨rfl, h1⟩)
        · exact ⟨true, rfl, .inl ⟨rfl, h1, kp1_t ⟨bel_drewN (Below.refl _ _) 1, rfl⟩ h2⟩⟩
        · exact ⟨false, rfl, .inr ⟨rfl, h1⟩⟩)
      replace hj := hide hj
      clear hRd hJ2
      go_wp2_with fail
      refine (wpIn_wide (n := m)).1 ?_
      gi_region_with (refine ⟨fun h => by simp [Fence.wide] at h, hR2.mono ?_⟩; rintro e W3 ⟨b, rfl, hF⟩)
      all_goals
        rcases hF with ⟨rfl, hJ3, hk3⟩ | ⟨rfl, hJx3⟩
        · have hB3 : Ro W3 gB #[.slice (some ad) n c] 23 := hk3.2.trans hB
          have hw3 := hw.trans hk3.1
          gi_wp2
          go_wp2
          go_roundw
          case rel => exact ⟨k + 1, j + 1, by have := hj.out; omega, by go_num, by rw [hj.out], hJ3, hB3, hw3⟩
          case measure => simp [intOf]; omega
        · gi_wp2
          go_wp2
          refine bodyPost_ret (results_none rfl _ _ _) rfl ?_
          exact ⟨⟨_, rfl⟩, .inr ⟨List.range (k + 1), ⟨k + 1, by have := hj.out; omega, rfl⟩, hJx3⟩⟩
    · go_wp2
      go_end0
      exact ⟨⟨_, rfl⟩, .inl ⟨List.range k, by rw [show k = n - 1 by omega], hJ1⟩⟩
set_option maxHeartbeats 8000000 in
theorem Descent (A : Option Addr) (n c : Nat) (l : List Int) (w : World) (hn : n ≤ 1000000) (hA : A = none → n = 0 ∧ c = 0) (hr : Rd w A n (l.map (Value.int .i64))) :
    Calls Try.prog 15 #[.slice A n c] w fun e w' => e = .returned (.int .i64 (desc l)) ∧ Below w.heap.size w w' := by
  have hl : l.length = n := by have := hr.len; simpa using this
  have HL := hide hl
  obtain ⟨d, hd⟩ : ∃ d, d = desc l := ⟨_, rfl⟩
  rw [← hd]
  replace hd := hide hd
  have St := hide (fun gB m w' h hB => stops_ A n c l gB m w w' hn hr h hB)
  have Nb := hide (fun w => neighbors_ A n c w)
  clear hr hA
  have hR := hide (Ro.new w #[.int .i64 0] 3)
  have hb := hide (bl_new w (.cells #[.int .i64 0] 3))
  refine (callsIn_wide (n := 6)).1 ?_
  refine callsIn_of_wp_marks Try.func15 rfl trivial ?_ rfl
  simp only [Try.ntmps15, List.size_toArray, List.length_cons, List.length_nil, Nat.reduceAdd, Nat.reduceSub, Array.replicate_succ, Array.replicate_zero, List.push_toArray, List.append_toArray, List.nil_append, List.cons_append]
  refine wpIn_wide.2 ?_
  go_upto_region 1 with fail
  generalize w.alloc (.cells #[.int .i64 0] 3) = u at *
  go_wp2_with fail
  refine (Nb.out _).mono ?_
  rintro e w1 ⟨rfl, rfl⟩
  have hB := Ro.new u #[.slice A n c] 23
  replace hR := hide (hR.out.alloc (.cells #[.slice A n c] 23))
  have sb := hb.out.size
  replace hb := hide (bl_alloc hb.out (.cells #[.slice A n c] 23))
  have ub : u.heap.size < (u.alloc (.cells #[.slice A n c] 23)).heap.size := by simp
  generalize u.heap.size = gB at *
  generalize u.alloc (.cells #[.slice A n c] 23) = w3 at *
  have sR := hR.out.lt
  have sW := hb.out.size
  go_wp2_with fail
  refine (wpIn_wide (n := 6)).1 ?_
  refine wpIn_rangeFunc_ownH rfl (by omega) (gf := 32) (lb := #[.pointer (some ⟨gB, 0, none⟩)]) rfl trivial (enters_of Try.func32 (by kernel_rfl) rfl)
    (St.out gB 5 w3 hb.out hB) kp1_t (kp1_b sW ub) (Below.refl _ _) (fun _ => rfl)
    (fun pre W => (Ro W w.heap.size #[.int .i64 0] 3 ∧ (∀ q ∈ pre, l[q]?.getD 0 < l[q + 1]?.getD 0) ∧ gB < W.heap.size) ∧ Below w.heap.size w W)
    (fun c pre W => (c = .ret ∧ ∃ p x, pre = p ++ [x] ∧ l[x + 1]?.getD 0 ≤ l[x]?.getD 0 ∧ (∀ q ∈ p, l[q]?.getD 0 < l[q + 1]?.getD 0) ∧ Ro W w.heap.size #[.int .i64 ((x + 1 : Nat) : Int)] 3) ∧ Below w.heap.size w W)
    (fun s A B row hs hg hr => ⟨⟨ro_keep hs.1.1 hg (fun r e => (hr r e).2), hs.1.2.1, Nat.lt_of_lt_of_le hs.1.2.2 hg.size⟩, ownFrom_below (β := Unit) (Nat.le_refl _) (by omega) () A B row hs.2 hg hr⟩)
    (fun c s A B row hs hg hr => ⟨by obtain ⟨⟨h1, p, x, h2, h3, h4, h5⟩, _⟩ := hs; exact ⟨h1, p, x, h2, h3, h4, ro_keep h5 hg (fun r e => (hr r e).2)⟩, ownFrom_below (β := Unit) (Nat.le_refl _) (by omega) () A B row hs.2 hg hr⟩)
    ⟨⟨hR.out, by simp, ub⟩, hb.out⟩
    (fun x a' W => ∃ gA, gB < gA ∧ Ro W gA #[.int .i64 (l[x]?.getD 0), .int .i64 (l[x + 1]?.getD 0)] 45 ∧ a' = { tmps := #[.slice A n c, undef, .pointer (some ⟨w.heap.size, 0, none⟩), .int .i64 ((x + 1 : Nat) : Int), .pointer (some ⟨gA, 0, none⟩), .slice A n c, .func (.func 32) #[] #[.pointer (some ⟨gB, 0, none⟩)], .int .i64 ((x + 1 : Nat) : Int), .agg #[.int .i64 (l[x]?.getD 0), .int .i64 (l[x + 1]?.getD 0)], undef, undef, undef, undef, undef, undef], defers := [] })
    (fun x a' _ A B row hs hg hr => by obtain ⟨gA, h1, h2, h3⟩ := hs; exact ⟨gA, h1, ro_keep h2 hg (fun r e => (hr r e).2), h3⟩)
    ?assign ?body ?done ?stop
  case assign =>
    rintro lp pre x W K ⟨⟨hR1, hp, sG⟩, hB1⟩ hK
    have s1 := hB1.size
    unfold encN
    gi_wp2
    exact hK _ _ ((KeepsOthers.alloc _ _).from _) (kp1_below (bl_new W _) s1 sG) ⟨⟨hR1.alloc _, hp, by simp; omega⟩, bl_alloc hB1 _⟩ ⟨W.heap.size, sG, Ro.new W _ _, rfl⟩
  case body =>
    rintro lp pre x a' W hl ⟨r, hr⟩ ⟨⟨hR1, hp, sG⟩, hB1⟩ ⟨gA, hgA, hX, rfl⟩ hlt
    have h1' : 1 ≤ 6 - 1 - 1 := by decide
    have s1 := hB1.size
    obtain ⟨a0, _⟩ := ro_cf hX 0 _ rfl
    obtain ⟨a1, _⟩ := ro_cf hX 1 _ rfl
    obtain ⟨c0, c1⟩ := ro_cf hR1 0 (.int .i64 0) rfl
    obtain ⟨p0, hp0⟩ : ∃ p0, p0 = l[x]?.getD 0 := ⟨_, rfl⟩
    obtain ⟨p1, hp1⟩ : ∃ p1, p1 = l[x + 1]?.getD 0 := ⟨_, rfl⟩
    rw [← hp0] at a0
    rw [← hp1] at a1
    rw [← hp0, ← hp1]
    by_cases hx : p1 ≤ p0
    · gi_wp2
      exact ⟨(KeepsOthers.setCell _ _ _).from _, ⟨rfl, pre, x, rfl, by rw [← hp0, ← hp1]; exact hx, hp, ro_set1' hR1⟩, bl_set1 hB1 (Nat.le_refl _)⟩
    · gi_wp2
      exact ⟨KeepsFrom.refl _ _, kp1_refl _ _ _, ⟨hR1, fun q hq => by
        rcases List.mem_append.1 hq with h | h
        · exact hp q h
        · simp at h; subst h; rw [← hp0, ← hp1]; omega, sG⟩, hB1⟩
  case done =>
    rintro D' xs W hD' rfl ⟨⟨hR1, hp, sG⟩, hB1⟩ hK
    obtain rfl : d = -1 := hd.out.trans <| desc_asc fun i hi => hp i (by rw [List.mem_range]; rw [HL.out] at hi; omega)
    obtain ⟨c0, c1⟩ := ro_cf hR1 0 (.int .i64 0) rfl
    go_wp2
    have hK' := (KeepsOthers.setCell W ⟨w.heap.size, 0, none⟩ (.int .i64 (-1))).same D' _ hK rfl
    refine ⟨by simp, .inl ⟨_, _, rfl, run_takeDeferred hK', ?_⟩⟩
    have hc5 := (ro_cf (ro_keep (ro_set1' (x0 := .int .i64 (-1)) hR1) (grownBy_putObj' _ D' (.deferred none)) (fun r e => by cases e; exact ⟨_, hK', rfl⟩)) 0 _ rfl).1
    exact ⟨.int .i64 (-1), by simp [results, Try.results15, go_sem, hc5], rfl, (bl_set1 hB1 (Nat.le_refl _)).trans (belowK_b (w := w) (Nat.le_refl _) _ D' _ _ (by omega) hK' rfl rfl)⟩
  case stop =>
    rintro D' c pre W hD' ⟨k, hk, hpre⟩ ⟨⟨rfl, p, x, rfl, hx, hp, hR1⟩, hB1⟩ hK
    obtain ⟨j, rfl⟩ : ∃ j, k = j + 1 := by
      cases k with
      | zero => simp at hpre
      | succ j => exact ⟨j, rfl⟩
    rw [List.range_succ] at hpre
    obtain ⟨rfl, e5⟩ := List.append_inj' hpre rfl
    obtain rfl : x = j := by simpa using e5
    obtain rfl : d = ((x + 1 : Nat) : Int) := hd.out.trans <| desc_at (by rw [HL.out]; omega) hx fun q hq => hp q (List.mem_range.2 hq)
    refine wpIn_wide.2 ?_
    go_wp2
    refine ⟨by simp, .inl ⟨_, _, rfl, run_takeDeferred hK, ?_⟩⟩
    have hc5 := (ro_cf (ro_keep hR1 (grownBy_putObj' _ D' (.deferred none)) (fun r e => by cases e; exact ⟨_, hK, rfl⟩)) 0 _ rfl).1
    exact ⟨.int .i64 ((x + 1 : Nat) : Int), by simp [results, Try.results15, go_sem, hc5], rfl, hB1.trans (belowK_b (w := w) (Nat.le_refl _) _ D' _ _ (by omega) hK rfl rfl)⟩
end tr_
end Go.Proofs.Ytknnobpnfnajiaa

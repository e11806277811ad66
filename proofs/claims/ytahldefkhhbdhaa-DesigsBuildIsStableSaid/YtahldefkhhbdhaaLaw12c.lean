/-
  THE WALKS OF THE LAWS OF LAYER 12 (zoneinfolaw12): DesigsMatchReference. No conditions.
-/
import Derived.Test.YtahldefkhhbdhaaLaw12a
import Derived.Test.YtahldefkhhbdhaaSls
import Derived.Test.YtahldefkhhbdhaaSame1
namespace Go.Proofs.Ytahldefkhhbdhaa
open Go.ChangeShapes Go.WideShapes Go.ChangeAt Go.RowKit
set_option linter.unusedVariables false
theorem plain_facts {ss : List ByteArray} (h : plainL ss = true) : ∀ s ∈ ss, s.size ≤ 300 ∧ (byt s).all dsB = true := by
  intro s hs
  unfold plainL at h
  simp only [Bool.and_eq_true, List.all_eq_true] at h
  have := h.1 s hs
  unfold okN at this
  simpa using this
theorem rd_i {w : World} {A : Option Addr} {n : Nat} {xs : List Int} (h : Rd w A n (ints xs)) {i : Nat} (hi : i < n) : ∃ ad x, A = some ad ∧ xs[i]? = some x ∧ w.cell? (ad.add i) = some (.int .i64 x) := by
  obtain ⟨ad, v, rfl, hv, hc⟩ := h.at_ hi
  rw [List.getElem?_map] at hv
  cases hx : xs[i]? with
  | none => rw [hx] at hv; cases hv
  | some x => rw [hx] at hv; injection hv with hv; exact ⟨ad, x, rfl, rfl, by rw [hc, ← hv]⟩
set_option maxRecDepth 100000 in
theorem bldT_len (ss : List ByteArray) (hs : ∀ s ∈ ss, s.size ≤ 300) (hn : ss.length ≤ 60) : (bldT ss).length ≤ 60 * 301 + 1 := by
  have key : ∀ n, n ≤ ss.length → (bld (ss.take n)).2.1.length ≤ n * 301 := by
    intro n
    induction n with
    | zero => intro _; simp [bld]
    | succ n ih =>
      intro hn
      have hx : ss[n]? = some ss[n] := List.getElem?_eq_getElem (by omega)
      have h0 := ih (by omega)
      have h1 := hs ss[n] (List.getElem_mem _)
      rw [take_snoc hx, bld_snoc]
      unfold bstep
      split
      · show (bld (ss.take n)).2.1.length ≤ _
        omega
      · show ((bld (ss.take n)).2.1 ++ (bIx ss[n] ++ [0])).length ≤ _
        rw [List.length_append, List.length_append, bIx_len]
        simp
        omega
  have := key ss.length (Nat.le_refl _)
  rw [List.take_length] at this
  unfold bldT
  split
  · simp
  · have : ss.length * 301 ≤ 60 * 301 := Nat.mul_le_mul_right _ hn
    omega
namespace l12_
set_option maxRecDepth 100000 in
set_option maxHeartbeats 8000000 in
theorem mref (A1 : Option Addr) (n1 c1 : Nat) (z1 : List Int) (i : Int) (A2 : Option Addr) (n2 c2 : Nat) (z2 : List ByteArray) (w : World) (h1 : IsRw .u8 w A1 n1 c1 z1) (hi : (Lit.int .i64 i).wf = true) (h2 : IsSw w A2 n2 c2 z2) :
    Calls Try.prog 3 #[.slice A1 n1 c1, .int .i64 i, .slice A2 n2 c2] w fun e w' => e = .returned (.bool true) ∧ Below w.heap.size w w' := by
  obtain ⟨i0, i1⟩ := wf_i64 hi
  obtain ⟨r1, B1⟩ := rw_b h1
  have r2 := h2.rd
  have sz := h2.sz
  obtain ⟨ca1, ca2⟩ := h1.cap
  obtain ⟨cb1, cb2⟩ := h2.cap
  clear h1 h2 hi
  obtain ⟨xs, hxs⟩ : ∃ xs, xs = z1.take n1 := ⟨_, rfl⟩
  obtain ⟨ss, hss⟩ : ∃ ss, ss = z2.take n2 := ⟨_, rfl⟩
  rw [← hxs] at r1 B1
  rw [← hss] at r2 sz
  clear hxs hss
  have hb := hide (Below.refl w.heap.size w)
  by_cases hn1 : 1000 < n1
  · have hn' : (1000 : Int) < n1 := by omega
    clear r1 B1 r2 sz
    go_enter Try.func3, Try.ntmps3
    go_wp2_with fail
    refine (awake _).mono ?_
    rintro e w1 ⟨rfl, h1⟩
    replace hb := hide (bel_next hb.out h1)
    clear h1
    go_wp2_with fail
    refine (awake _).mono ?_
    rintro e w1 ⟨rfl, h1⟩
    replace hb := hide (bel_next hb.out h1)
    clear h1
    go_wp2
    go_ret
    exact ⟨rfl, hb.out⟩
  by_cases hn2 : 60 < n2
  · have hn' : (60 : Int) < n2 := by omega
    clear r1 B1 r2 sz
    go_enter Try.func3, Try.ntmps3
    go_wp2_with fail
    refine (awake _).mono ?_
    rintro e w1 ⟨rfl, h1⟩
    replace hb := hide (bel_next hb.out h1)
    clear h1
    go_wp2_with fail
    refine (awake _).mono ?_
    rintro e w1 ⟨rfl, h1⟩
    replace hb := hide (bel_next hb.out h1)
    clear h1
    go_wp2
    go_ret
    exact ⟨rfl, hb.out⟩
  have l2 : ss.length = n2 := by have := r2.len; simpa using this
  have l1 : xs.length = n1 := by have := r1.len; simpa using this
  have DV := hide (fun w hr => ds_.Valid A1 n1 c1 xs w hr B1 (by omega) ca1 ca2)
  have RV := hide (fun w hr => r12_.Valid A1 n1 c1 xs w hr B1 (by omega))
  have DB := hide (fun w hr => ds_.Bad A1 n1 c1 xs w hr B1 (by omega) ca1 ca2)
  have RB := hide (fun w hr => r12_.Bad A1 n1 c1 xs w hr B1 (by omega))
  have PL := hide (fun w hr => r12_.Plain A2 n2 c2 ss w hr (by omega) (fun s h => by have := sz s h; simpa [maxLen] using this))
  replace r1 := hide r1
  replace r2 := hide r2
  by_cases v1 : badL xs = -1
  case neg =>
    rw [decide_eq_false v1] at DV RV
    generalize badL xs = v at *
    clear v1 l1 sz B1
    rcases hpl : plainL ss
    · rw [hpl] at PL
      clear hpl
      go_enter Try.func3, Try.ntmps3
      go_wp2_with fail
      refine (awake _).mono ?_
      rintro e w1 ⟨rfl, h1⟩
      replace hb := hide (bel_next hb.out h1)
      clear h1
      go_wp2_with fail
      refine (DV.out _ (r1.out.below hb.out)).mono ?_
      rintro e w1 ⟨rfl, h1⟩
      replace hb := hide (bel_next hb.out h1)
      clear h1
      go_wp2_with fail
      refine (RV.out _ (r1.out.below hb.out)).mono ?_
      rintro e w1 ⟨rfl, rfl⟩
      go_wp2_with fail
      refine (DB.out _ (r1.out.below hb.out)).mono ?_
      rintro e w1 ⟨rfl, h1⟩
      replace hb := hide (bel_next hb.out h1)
      clear h1
      go_wp2_with fail
      refine (RB.out _ (r1.out.below hb.out)).mono ?_
      rintro e w1 ⟨rfl, rfl⟩
      go_wp2_with fail
      refine (RV.out _ (r1.out.below hb.out)).mono ?_
      rintro e w1 ⟨rfl, rfl⟩
      go_wp2_with fail
      refine (PL.out _ (r2.out.below hb.out)).mono ?_
      rintro e w1 ⟨rfl, rfl⟩
      go_wp2
      go_ret
      exact ⟨rfl, hb.out⟩
    · rw [hpl] at PL
      have HP := plain_facts hpl
      have DBd := hide (fun w hr => ds_.Build A2 n2 c2 ss w hr (by omega) (fun s h => by have := (HP s h).1; omega) (fun s h => (HP s h).2))
      have RBd := hide (fun w hr => r12_.Build A2 n2 c2 ss w hr (by omega) (fun s h => by have := (HP s h).1; omega))
      have HX := hide (show (bldX ss).length = n2 by rw [← l2]; exact (bld_ok ss).len)
      have HTl := hide (bldT_len ss (fun s h => (HP s h).1) (by omega))
      clear hpl HP l2
      go_enter Try.func3, Try.ntmps3
      go_wp2_with fail
      refine (awake _).mono ?_
      rintro e w1 ⟨rfl, h1⟩
      replace hb := hide (bel_next hb.out h1)
      clear h1
      go_wp2_with fail
      refine (DV.out _ (r1.out.below hb.out)).mono ?_
      rintro e w1 ⟨rfl, h1⟩
      replace hb := hide (bel_next hb.out h1)
      clear h1
      go_wp2_with fail
      refine (RV.out _ (r1.out.below hb.out)).mono ?_
      rintro e w1 ⟨rfl, rfl⟩
      go_wp2_with fail
      refine (DB.out _ (r1.out.below hb.out)).mono ?_
      rintro e w1 ⟨rfl, h1⟩
      replace hb := hide (bel_next hb.out h1)
      clear h1
      go_wp2_with fail
      refine (RB.out _ (r1.out.below hb.out)).mono ?_
      rintro e w1 ⟨rfl, rfl⟩
      go_wp2_with fail
      refine (RV.out _ (r1.out.below hb.out)).mono ?_
      rintro e w1 ⟨rfl, rfl⟩
      go_wp2_with fail
      refine (PL.out _ (r2.out.below hb.out)).mono ?_
      rintro e w1 ⟨rfl, rfl⟩
      go_wp2_with fail
      refine (DBd.out _ (r2.out.below hb.out)).mono ?_
      rintro e w3 ⟨A3, n3, c3, A4, n4, c4, rfl, o3, o4, dj, h1⟩
      replace hb := hide (bel_next hb.out h1)
      obtain rfl : n4 = n2 := by have := o4.len; rw [List.length_map, HX.out] at this; exact this.symm
      have hn3 := hide (show n3 = (bldT ss).length by have := o3.len; rw [List.length_map] at this; exact this.symm)
      have r3 := hide o3.rd
      have r4 := hide o4.rd
      clear h1 o3 o4 dj
      go_wp2_with fail
      refine (RBd.out _ (r2.out.below hb.out)).mono ?_
      rintro e w5 ⟨A5, n5, c5, A6, n6, c6, rfl, o5, o6, dj, h1⟩
      replace hb := hide (bel_next hb.out h1)
      replace r3 := hide (r3.out.below h1)
      replace r4 := hide (r4.out.below h1)
      obtain rfl : n6 = n4 := by have := o6.len; rw [List.length_map, HX.out] at this; exact this.symm
      have r5 := hide o5.rd
      have r6 := hide o6.rd
      clear h1 o5 o6 dj
      go_wp2_with fail
      refine (r1_.Same A3 A5 n3 c3 n5 c5 (bldT ss) _ (by have := HTl.out; rw [hn3.out]; omega) r3.out r5.out).mono ?_
      rintro e w6 ⟨rfl, h1⟩
      replace hb := hide (bel_next hb.out h1)
      replace r4 := hide (r4.out.below h1)
      replace r6 := hide (r6.out.below h1)
      clear h1 r3 r5 hn3
      go_wp2
      go_loopw [15] (fun v wr => ∃ j : Nat, j ≤ n6 ∧ v = .int .i64 j ∧ Rd wr A4 n6 (ints (bldX ss)) ∧ Rd wr A6 n6 (ints (bldX ss)) ∧ Below w.heap.size w wr) (fun v _ => n6 - (intOf v).toNat)
      case atStart => exact ⟨0, Nat.zero_le _, rfl, r4.out, r6.out, hb.out⟩
      case round =>
        clear r4 r6 hb
        obtain ⟨j, hj, rfl, r4, r6, hb⟩ := hrel
        rcases Nat.lt_or_ge j n6 with hlt | hge
        · obtain ⟨ad4, x4, rfl, hx4, l4⟩ := rd_i r4 hlt
          obtain ⟨ad6, x6, rfl, hx6, l6⟩ := rd_i r6 hlt
          obtain rfl : x6 = x4 := by rw [hx4] at hx6; injection hx6 with h; exact h.symm
          replace r4 := hide r4
          replace r6 := hide r6
          replace hb := hide hb
          clear hx4 hx6
          go_wp2
          go_region
          go_wp2
          go_roundw
          case rel => exact ⟨j + 1, by omega, by go_num, r4.out, r6.out, bl_drew hb.out⟩
          case measure => simp [intOf]; omega
        · obtain rfl : j = n6 := by omega
          replace hb := hide hb
          clear r4 r6
          go_wp2
          go_ret
          exact ⟨rfl, hb.out⟩
  have v2 := v1
  rw [decide_eq_true v1] at DV RV
  by_cases hin : i < 0 ∨ (n1 : Int) ≤ i
  · have DN := hide (fun w hr => ds_.Name_no A1 n1 c1 xs i w hr B1 (by omega) v1 i0 i1 hin)
    have RN := hide (fun w (hr : Rd w A1 n1 (bys xs)) => r12_.Name_no A1 n1 c1 i w (by omega) hin)
    rw [v1] at DB RB
    clear v1 v2 l1 sz B1 hin
    rcases hpl : plainL ss
    · rw [hpl] at PL
      clear hpl
      go_enter Try.func3, Try.ntmps3
      go_wp2_with fail
      refine (awake _).mono ?_
      rintro e w1 ⟨rfl, h1⟩
      replace hb := hide (bel_next hb.out h1)
      clear h1
      go_wp2_with fail
      refine (DV.out _ (r1.out.below hb.out)).mono ?_
      rintro e w1 ⟨rfl, h1⟩
      replace hb := hide (bel_next hb.out h1)
      clear h1
      go_wp2_with fail
      refine (RV.out _ (r1.out.below hb.out)).mono ?_
      rintro e w1 ⟨rfl, rfl⟩
      go_wp2_with fail
      refine (DB.out _ (r1.out.below hb.out)).mono ?_
      rintro e w1 ⟨rfl, h1⟩
      replace hb := hide (bel_next hb.out h1)
      clear h1
      go_wp2_with fail
      refine (RB.out _ (r1.out.below hb.out)).mono ?_
      rintro e w1 ⟨rfl, rfl⟩
      go_wp2_with fail
      refine (RV.out _ (r1.out.below hb.out)).mono ?_
      rintro e w1 ⟨rfl, rfl⟩
      go_wp2_with fail
      refine (DN.out _ (r1.out.below hb.out)).mono ?_
      rintro e w1 ⟨rfl, h1⟩
      replace hb := hide (bel_next hb.out h1)
      clear h1
      go_wp2_with fail
      refine (RN.out _ (r1.out.below hb.out)).mono ?_
      rintro e w1 ⟨rfl, rfl⟩
      go_wp2_with fail
      refine (PL.out _ (r2.out.below hb.out)).mono ?_
      rintro e w1 ⟨rfl, rfl⟩
      go_wp2
      go_ret
      exact ⟨rfl, hb.out⟩
    · rw [hpl] at PL
      have HP := plain_facts hpl
      have DBd := hide (fun w hr => ds_.Build A2 n2 c2 ss w hr (by omega) (fun s h => by have := (HP s h).1; omega) (fun s h => (HP s h).2))
      have RBd := hide (fun w hr => r12_.Build A2 n2 c2 ss w hr (by omega) (fun s h => by have := (HP s h).1; omega))
      have HX := hide (show (bldX ss).length = n2 by rw [← l2]; exact (bld_ok ss).len)
      have HTl := hide (bldT_len ss (fun s h => (HP s h).1) (by omega))
      clear hpl HP l2
      go_enter Try.func3, Try.ntmps3
      go_wp2_with fail
      refine (awake _).mono ?_
      rintro e w1 ⟨rfl, h1⟩
      replace hb := hide (bel_next hb.out h1)
      clear h1
      go_wp2_with fail
      refine (DV.out _ (r1.out.below hb.out)).mono ?_
      rintro e w1 ⟨rfl, h1⟩
      replace hb := hide (bel_next hb.out h1)
      clear h1
      go_wp2_with fail
      refine (RV.out _ (r1.out.below hb.out)).mono ?_
      rintro e w1 ⟨rfl, rfl⟩
      go_wp2_with fail
      refine (DB.out _ (r1.out.below hb.out)).mono ?_
      rintro e w1 ⟨rfl, h1⟩
      replace hb := hide (bel_next hb.out h1)
      clear h1
      go_wp2_with fail
      refine (RB.out _ (r1.out.below hb.out)).mono ?_
      rintro e w1 ⟨rfl, rfl⟩
      go_wp2_with fail
      refine (RV.out _ (r1.out.below hb.out)).mono ?_
      rintro e w1 ⟨rfl, rfl⟩
      go_wp2_with fail
      refine (DN.out _ (r1.out.below hb.out)).mono ?_
      rintro e w1 ⟨rfl, h1⟩
      replace hb := hide (bel_next hb.out h1)
      clear h1
      go_wp2_with fail
      refine (RN.out _ (r1.out.below hb.out)).mono ?_
      rintro e w1 ⟨rfl, rfl⟩
      go_wp2_with fail
      refine (PL.out _ (r2.out.below hb.out)).mono ?_
      rintro e w1 ⟨rfl, rfl⟩
      go_wp2_with fail
      refine (DBd.out _ (r2.out.below hb.out)).mono ?_
      rintro e w3 ⟨A3, n3, c3, A4, n4, c4, rfl, o3, o4, dj, h1⟩
      replace hb := hide (bel_next hb.out h1)
      obtain rfl : n4 = n2 := by have := o4.len; rw [List.length_map, HX.out] at this; exact this.symm
      have hn3 := hide (show n3 = (bldT ss).length by have := o3.len; rw [List.length_map] at this; exact this.symm)
      have r3 := hide o3.rd
      have r4 := hide o4.rd
      clear h1 o3 o4 dj
      go_wp2_with fail
      refine (RBd.out _ (r2.out.below hb.out)).mono ?_
      rintro e w5 ⟨A5, n5, c5, A6, n6, c6, rfl, o5, o6, dj, h1⟩
      replace hb := hide (bel_next hb.out h1)
      replace r3 := hide (r3.out.below h1)
      replace r4 := hide (r4.out.below h1)
      obtain rfl : n6 = n4 := by have := o6.len; rw [List.length_map, HX.out] at this; exact this.symm
      have r5 := hide o5.rd
      have r6 := hide o6.rd
      clear h1 o5 o6 dj
      go_wp2_with fail
      refine (r1_.Same A3 A5 n3 c3 n5 c5 (bldT ss) _ (by have := HTl.out; rw [hn3.out]; omega) r3.out r5.out).mono ?_
      rintro e w6 ⟨rfl, h1⟩
      replace hb := hide (bel_next hb.out h1)
      replace r4 := hide (r4.out.below h1)
      replace r6 := hide (r6.out.below h1)
      clear h1 r3 r5 hn3
      go_wp2
      go_loopw [15] (fun v wr => ∃ j : Nat, j ≤ n6 ∧ v = .int .i64 j ∧ Rd wr A4 n6 (ints (bldX ss)) ∧ Rd wr A6 n6 (ints (bldX ss)) ∧ Below w.heap.size w wr) (fun v _ => n6 - (intOf v).toNat)
      case atStart => exact ⟨0, Nat.zero_le _, rfl, r4.out, r6.out, hb.out⟩
      case round =>
        clear r4 r6 hb
        obtain ⟨j, hj, rfl, r4, r6, hb⟩ := hrel
        rcases Nat.lt_or_ge j n6 with hlt | hge
        · obtain ⟨ad4, x4, rfl, hx4, l4⟩ := rd_i r4 hlt
          obtain ⟨ad6, x6, rfl, hx6, l6⟩ := rd_i r6 hlt
          obtain rfl : x6 = x4 := by rw [hx4] at hx6; injection hx6 with h; exact h.symm
          replace r4 := hide r4
          replace r6 := hide r6
          replace hb := hide hb
          clear hx4 hx6
          go_wp2
          go_region
          go_wp2
          go_roundw
          case rel => exact ⟨j + 1, by omega, by go_num, r4.out, r6.out, bl_drew hb.out⟩
          case measure => simp [intOf]; omega
        · obtain rfl : j = n6 := by omega
          replace hb := hide hb
          clear r4 r6
          go_wp2
          go_ret
          exact ⟨rfl, hb.out⟩
  · obtain ⟨k, rfl⟩ : ∃ k : Nat, i = (k : Int) := ⟨i.toNat, by omega⟩
    have DN := hide (fun w hr => ds_.Name A1 n1 c1 xs k w hr B1 (by omega) ca1 ca2 v1 (by omega))
    have RN := hide (fun w hr => r12_.Name A1 n1 c1 xs k w hr B1 (by omega) (by omega))
    generalize bS (nameL xs k) = sv at *
    rw [v1] at DB RB
    clear v1 v2 l1 sz B1 hin i0 i1
    rcases hpl : plainL ss
    · rw [hpl] at PL
      clear hpl
      go_enter Try.func3, Try.ntmps3
      go_wp2_with fail
      refine (awake _).mono ?_
      rintro e w1 ⟨rfl, h1⟩
      replace hb := hide (bel_next hb.out h1)
      clear h1
      go_wp2_with fail
      refine (DV.out _ (r1.out.below hb.out)).mono ?_
      rintro e w1 ⟨rfl, h1⟩
      replace hb := hide (bel_next hb.out h1)
      clear h1
      go_wp2_with fail
      refine (RV.out _ (r1.out.below hb.out)).mono ?_
      rintro e w1 ⟨rfl, rfl⟩
      go_wp2_with fail
      refine (DB.out _ (r1.out.below hb.out)).mono ?_
      rintro e w1 ⟨rfl, h1⟩
      replace hb := hide (bel_next hb.out h1)
      clear h1
      go_wp2_with fail
      refine (RB.out _ (r1.out.below hb.out)).mono ?_
      rintro e w1 ⟨rfl, rfl⟩
      go_wp2_with fail
      refine (RV.out _ (r1.out.below hb.out)).mono ?_
      rintro e w1 ⟨rfl, rfl⟩
      go_wp2_with fail
      refine (DN.out _ (r1.out.below hb.out)).mono ?_
      rintro e w1 ⟨rfl, h1⟩
      replace hb := hide (bel_next hb.out h1)
      clear h1
      go_wp2_with fail
      refine (RN.out _ (r1.out.below hb.out)).mono ?_
      rintro e w1 ⟨rfl, h1⟩
      replace hb := hide (bel_next hb.out h1)
      clear h1
      go_wp2_with fail
      refine (PL.out _ (r2.out.below hb.out)).mono ?_
      rintro e w1 ⟨rfl, rfl⟩
      go_wp2
      go_ret
      exact ⟨rfl, hb.out⟩
    · rw [hpl] at PL
      have HP := plain_facts hpl
      have DBd := hide (fun w hr => ds_.Build A2 n2 c2 ss w hr (by omega) (fun s h => by have := (HP s h).1; omega) (fun s h => (HP s h).2))
      have RBd := hide (fun w hr => r12_.Build A2 n2 c2 ss w hr (by omega) (fun s h => by have := (HP s h).1; omega))
      have HX := hide (show (bldX ss).length = n2 by rw [← l2]; exact (bld_ok ss).len)
      have HTl := hide (bldT_len ss (fun s h => (HP s h).1) (by omega))
      clear hpl HP l2
      go_enter Try.func3, Try.ntmps3
      go_wp2_with fail
      refine (awake _).mono ?_
      rintro e w1 ⟨rfl, h1⟩
      replace hb := hide (bel_next hb.out h1)
      clear h1
      go_wp2_with fail
      refine (DV.out _ (r1.out.below hb.out)).mono ?_
      rintro e w1 ⟨rfl, h1⟩
      replace hb := hide (bel_next hb.out h1)
      clear h1
      go_wp2_with fail
      refine (RV.out _ (r1.out.below hb.out)).mono ?_
      rintro e w1 ⟨rfl, rfl⟩
      go_wp2_with fail
      refine (DB.out _ (r1.out.below hb.out)).mono ?_
      rintro e w1 ⟨rfl, h1⟩
      replace hb := hide (bel_next hb.out h1)
      clear h1
      go_wp2_with fail
      refine (RB.out _ (r1.out.below hb.out)).mono ?_
      rintro e w1 ⟨rfl, rfl⟩
      go_wp2_with fail
      refine (RV.out _ (r1.out.below hb.out)).mono ?_
      rintro e w1 ⟨rfl, rfl⟩
      go_wp2_with fail
      refine (DN.out _ (r1.out.below hb.out)).mono ?_
      rintro e w1 ⟨rfl, h1⟩
      replace hb := hide (bel_next hb.out h1)
      clear h1
      go_wp2_with fail
      refine (RN.out _ (r1.out.below hb.out)).mono ?_
      rintro e w1 ⟨rfl, h1⟩
      replace hb := hide (bel_next hb.out h1)
      clear h1
      go_wp2_with fail
      refine (PL.out _ (r2.out.below hb.out)).mono ?_
      rintro e w1 ⟨rfl, rfl⟩
      go_wp2_with fail
      refine (DBd.out _ (r2.out.below hb.out)).mono ?_
      rintro e w3 ⟨A3, n3, c3, A4, n4, c4, rfl, o3, o4, dj, h1⟩
      replace hb := hide (bel_next hb.out h1)
      obtain rfl : n4 = n2 := by have := o4.len; rw [List.length_map, HX.out] at this; exact this.symm
      have hn3 := hide (show n3 = (bldT ss).length by have := o3.len; rw [List.length_map] at this; exact this.symm)
      have r3 := hide o3.rd
      have r4 := hide o4.rd
      clear h1 o3 o4 dj
      go_wp2_with fail
      refine (RBd.out _ (r2.out.below hb.out)).mono ?_
      rintro e w5 ⟨A5, n5, c5, A6, n6, c6, rfl, o5, o6, dj, h1⟩
      replace hb := hide (bel_next hb.out h1)
      replace r3 := hide (r3.out.below h1)
      replace r4 := hide (r4.out.below h1)
      obtain rfl : n6 = n4 := by have := o6.len; rw [List.length_map, HX.out] at this; exact this.symm
      have r5 := hide o5.rd
      have r6 := hide o6.rd
      clear h1 o5 o6 dj
      go_wp2_with fail
      refine (r1_.Same A3 A5 n3 c3 n5 c5 (bldT ss) _ (by have := HTl.out; rw [hn3.out]; omega) r3.out r5.out).mono ?_
      rintro e w6 ⟨rfl, h1⟩
      replace hb := hide (bel_next hb.out h1)
      replace r4 := hide (r4.out.below h1)
      replace r6 := hide (r6.out.below h1)
      clear h1 r3 r5 hn3
      go_wp2
      go_loopw [15] (fun v wr => ∃ j : Nat, j ≤ n6 ∧ v = .int .i64 j ∧ Rd wr A4 n6 (ints (bldX ss)) ∧ Rd wr A6 n6 (ints (bldX ss)) ∧ Below w.heap.size w wr) (fun v _ => n6 - (intOf v).toNat)
      case atStart => exact ⟨0, Nat.zero_le _, rfl, r4.out, r6.out, hb.out⟩
      case round =>
        clear r4 r6 hb
        obtain ⟨j, hj, rfl, r4, r6, hb⟩ := hrel
        rcases Nat.lt_or_ge j n6 with hlt | hge
        · obtain ⟨ad4, x4, rfl, hx4, l4⟩ := rd_i r4 hlt
          obtain ⟨ad6, x6, rfl, hx6, l6⟩ := rd_i r6 hlt
          obtain rfl : x6 = x4 := by rw [hx4] at hx6; injection hx6 with h; exact h.symm
          replace r4 := hide r4
          replace r6 := hide r6
          replace hb := hide hb
          clear hx4 hx6
          go_wp2
          go_region
          go_wp2
          go_roundw
          case rel => exact ⟨j + 1, by omega, by go_num, r4.out, r6.out, bl_drew hb.out⟩
          case measure => simp [intOf]; omega
        · obtain rfl : j = n6 := by omega
          replace hb := hide hb
          clear r4 r6
          go_wp2
          go_ret
          exact ⟨rfl, hb.out⟩
end l12_
end Go.Proofs.Ytahldefkhhbdhaa

/-
  THE WALKS OF THE LAWS OF LAYER 12 (zoneinfolaw12): DesigsBuildIsStable. No conditions.
-/
import Derived.Test.YtahldefkhhbdhaaLaw12d
namespace Go.Proofs.Ytahldefkhhbdhaa
open Go.ChangeShapes Go.WideShapes Go.ChangeAt Go.RowKit
set_option linter.unusedVariables false
theorem elStr : ElT Try.prog 23 9 (.string ⟨#[]⟩) 16 := ⟨Try.underlying23, by kernel_rfl, rfl⟩
theorem oneS (l : List ByteArray) : ∀ u ∈ strs l, u.oneCell' = true := by
  intro u hu
  obtain ⟨x, _, rfl⟩ := List.mem_map.1 hu
  rfl
theorem ow_nil_ (w : World) (T : TypeId) : Ow (w.alloc (.cells #[] T)) w.heap.size T (some ⟨w.heap.size, 0, none⟩) 0 0 [] := Ow.lit w T [] (by decide)
theorem stable_pre {xs ys : List ByteArray} (hx : ∀ s ∈ xs, okB s) (hy : ∀ s ∈ ys, okB s) (h0 : 0 < xs.length) :
    (bldT (xs ++ ys)).take (bldT xs).length = bldT xs ∧ (bldT xs).length ≤ (bldT (xs ++ ys)).length ∧ (bldX (xs ++ ys)).take xs.length = bldX xs := by
  have hxy : ∀ s ∈ xs ++ ys, okB s := fun s h => by rcases List.mem_append.1 h with h | h <;> first | exact hx s h | exact hy s h
  obtain ⟨R, e1, e2⟩ := T_pre (xs ++ ys) xs.length (xs ++ ys).length (by simp) (Nat.le_refl _)
  rw [List.take_length, List.take_left] at e1 e2
  have n1 := T_nil hx h0
  have n2 := T_nil hxy (by simp; omega)
  refine ⟨?_, ?_, e2⟩
  · unfold bldT
    rw [if_neg n1, if_neg n2, e1, List.take_left]
  · unfold bldT
    rw [if_neg n1, if_neg n2, e1]
    simp
namespace l12_
set_option maxRecDepth 100000 in
set_option maxHeartbeats 8000000 in
theorem stable (A1 : Option Addr) (n1 c1 : Nat) (z1 : List ByteArray) (A2 : Option Addr) (n2 c2 : Nat) (z2 : List ByteArray) (w : World) (h1 : IsSw w A1 n1 c1 z1) (h2 : IsSw w A2 n2 c2 z2) :
    Calls Try.prog 7 #[.slice A1 n1 c1, .slice A2 n2 c2] w fun e w' => e = .returned (.bool true) ∧ Below w.heap.size w w' := by
  have r1 := h1.rd
  have r2 := h2.rd
  have sz1 := h1.sz
  have sz2 := h2.sz
  have nil1 := hide h1.nil
  have nil2 := hide h2.nil
  obtain ⟨ca1, ca2⟩ := h1.cap
  obtain ⟨cb1, cb2⟩ := h2.cap
  clear h1 h2
  obtain ⟨xs, hxs⟩ : ∃ xs, xs = z1.take n1 := ⟨_, rfl⟩
  obtain ⟨ys, hys⟩ : ∃ ys, ys = z2.take n2 := ⟨_, rfl⟩
  rw [← hxs] at r1 sz1
  rw [← hys] at r2 sz2
  clear hxs hys
  have hb := hide (Below.refl w.heap.size w)
  have l1 : xs.length = n1 := by have := r1.len; simpa using this
  have l2 : ys.length = n2 := by have := r2.len; simpa using this
  have P1 := hide (fun w hr => r12_.Plain A1 n1 c1 xs w hr (by omega) (fun s h => by have := sz1 s h; simpa [maxLen] using this))
  have P2 := hide (fun w hr => r12_.Plain A2 n2 c2 ys w hr (by omega) (fun s h => by have := sz2 s h; simpa [maxLen] using this))
  replace r1 := hide r1
  replace r2 := hide r2
  clear sz1 sz2 ca2 cb2
  rcases hp1 : plainL xs
  · rw [hp1] at P1
    clear hp1 l1 l2
    go_enter Try.func7, Try.ntmps7
    go_wp2_with fail
    refine (awake _).mono ?_
    rintro e w1 ⟨rfl, h1⟩
    replace hb := hide (bel_next hb.out h1)
    clear h1
    go_wp2_with fail
    refine (P1.out _ (r1.out.below hb.out)).mono ?_
    rintro e w2 ⟨rfl, rfl⟩
    go_wp2_with fail
    refine (awake _).mono ?_
    rintro e w1 ⟨rfl, h1⟩
    replace hb := hide (bel_next hb.out h1)
    clear h1
    go_wp2
    go_ret
    exact ⟨rfl, hb.out⟩
  rw [hp1] at P1
  rcases hp2 : plainL ys
  · rw [hp2] at P2
    clear hp1 hp2 l1 l2
    go_enter Try.func7, Try.ntmps7
    go_wp2_with fail
    refine (awake _).mono ?_
    rintro e w1 ⟨rfl, h1⟩
    replace hb := hide (bel_next hb.out h1)
    clear h1
    go_wp2_with fail
    refine (P1.out _ (r1.out.below hb.out)).mono ?_
    rintro e w2 ⟨rfl, rfl⟩
    go_wp2_with fail
    refine (P2.out _ (r2.out.below hb.out)).mono ?_
    rintro e w2 ⟨rfl, rfl⟩
    go_wp2_with fail
    refine (awake _).mono ?_
    rintro e w1 ⟨rfl, h1⟩
    replace hb := hide (bel_next hb.out h1)
    clear h1
    go_wp2
    go_ret
    exact ⟨rfl, hb.out⟩
  rw [hp2] at P2
  by_cases hz : n1 = 0
  · subst hz
    clear hp1 hp2 l1 l2
    go_enter Try.func7, Try.ntmps7
    go_wp2_with fail
    refine (awake _).mono ?_
    rintro e w1 ⟨rfl, h1⟩
    replace hb := hide (bel_next hb.out h1)
    clear h1
    go_wp2_with fail
    refine (P1.out _ (r1.out.below hb.out)).mono ?_
    rintro e w2 ⟨rfl, rfl⟩
    go_wp2_with fail
    refine (P2.out _ (r2.out.below hb.out)).mono ?_
    rintro e w2 ⟨rfl, rfl⟩
    go_wp2_with fail
    refine (awake _).mono ?_
    rintro e w1 ⟨rfl, h1⟩
    replace hb := hide (bel_next hb.out h1)
    clear h1
    go_wp2
    go_ret
    exact ⟨rfl, hb.out⟩
  have hne : ((n1 : Int) == 0) = false := by simpa using hz
  have HP1 := plain_facts hp1
  have HP2 := plain_facts hp2
  obtain ⟨u1, u2, u3⟩ := plain_ok hp1
  obtain ⟨v1, v2, v3⟩ := plain_ok hp2
  by_cases h60 : 60 < n1 + n2
  · have h60' : (60 : Int) < (n1 : Int) + n2 := by omega
    have b1 : (n1 : Int) ≤ 60 := by omega
    have b2 : (n2 : Int) ≤ 60 := by omega
    clear hp1 hp2 l1 l2 HP1 HP2 u1 u2 u3 v1 v2 v3
    go_enter Try.func7, Try.ntmps7
    go_wp2_with fail
    refine (awake _).mono ?_
    rintro e w1 ⟨rfl, h1⟩
    replace hb := hide (bel_next hb.out h1)
    clear h1
    go_wp2_with fail
    refine (P1.out _ (r1.out.below hb.out)).mono ?_
    rintro e w2 ⟨rfl, rfl⟩
    go_wp2_with fail
    refine (P2.out _ (r2.out.below hb.out)).mono ?_
    rintro e w2 ⟨rfl, rfl⟩
    go_wp2_with fail
    refine (awake _).mono ?_
    rintro e w1 ⟨rfl, h1⟩
    replace hb := hide (bel_next hb.out h1)
    clear h1
    go_wp2
    go_ret
    exact ⟨rfl, hb.out⟩
  have HXY : ∀ s ∈ xs ++ ys, s.size ≤ 300 ∧ (byt s).all dsB = true := fun s h => by rcases List.mem_append.1 h with h | h <;> first | exact HP1 s h | exact HP2 s h
  have D1 := hide (fun w hr => ds_.Build A1 n1 c1 xs w hr (by omega) (fun s h => by have := (HP1 s h).1; omega) (fun s h => (HP1 s h).2))
  have D2 := hide (fun A c w hr => ds_.Build A (n1 + n2) c (xs ++ ys) w hr (by omega) (fun s h => by have := (HXY s h).1; omega) (fun s h => (HXY s h).2))
  obtain ⟨st1, st2, st3⟩ := stable_pre u2 v2 (by omega)
  have HX1 := hide (show (bldX xs).length = n1 by rw [← l1]; exact (bld_ok xs).len)
  have HX2 := hide (show (bldX (xs ++ ys)).length = n1 + n2 by rw [← l1, ← l2, ← List.length_append]; exact (bld_ok (xs ++ ys)).len)
  have HTl := bldT_len (xs ++ ys) (fun s h => (HXY s h).1) (by rw [List.length_append]; omega)
  obtain ⟨N, hN⟩ : ∃ N, N = (bldT xs).length := ⟨_, rfl⟩
  obtain ⟨M, hM⟩ : ∃ M, M = (bldT (xs ++ ys)).length := ⟨_, rfl⟩
  rw [← hN] at st1 st2
  rw [← hM] at HTl st2
  rw [l1] at st3
  have nm : (N : Int) ≤ M := by omega
  have HI := hide (fun (i : Nat) (h : i < n1) => show (bldX (xs ++ ys))[i]? = (bldX xs)[i]? by rw [← st3, List.getElem?_take, if_pos h])
  have O1 := hide (oneS xs)
  have O2 := hide (oneS ys)
  have n60 : (n1 : Int) + n2 ≤ 60 := by omega
  have m1 := hide (show 0 + n1 ≤ maxLen by simp [maxLen]; omega)
  have m2 := hide (show (0 + n1) * 16 ≤ 140737488355328 by omega)
  have m3 := hide (show n1 + n2 ≤ maxLen by simp [maxLen]; omega)
  have m4 := hide (show (n1 + n2) * 16 ≤ 140737488355328 by omega)
  replace st1 := hide st1
  replace hN := hide hN
  replace hM := hide hM
  clear hp1 hp2 l1 l2 HP1 HP2 HXY u1 u2 u3 v1 v2 v3 st3
  go_enter Try.func7, Try.ntmps7
  go_wp2_with fail
  refine (awake _).mono ?_
  rintro e w1 ⟨rfl, h1⟩
  replace hb := hide (bel_next hb.out h1)
  clear h1
  go_wp2_with fail
  refine (P1.out _ (r1.out.below hb.out)).mono ?_
  rintro e w2 ⟨rfl, rfl⟩
  go_wp2_with fail
  refine (P2.out _ (r2.out.below hb.out)).mono ?_
  rintro e w2 ⟨rfl, rfl⟩
  go_wp2_with fail
  refine (D1.out _ (r1.out.below hb.out)).mono ?_
  rintro e w3 ⟨A3, n3, c3, A4, n4, c4, rfl, o3, o4, dj, h1⟩
  replace hb := hide (bel_next hb.out h1)
  obtain rfl : n4 = n1 := by have := o4.len; rw [List.length_map, HX1.out] at this; exact this.symm
  obtain rfl : n3 = N := by have := o3.len; rw [List.length_map, ← hN.out] at this; exact this.symm
  have r3 := hide o3.rd
  have r4 := hide o4.rd
  clear h1 o3 o4 dj
  have r1b := hide ((r1.out.below hb.out).alloc (.cells #[] 9))
  have hoE := hide (ow_nil_ w3 9)
  have hbE := hide (bl_alloc (Below.refl w3.heap.size w3) (.cells #[] 9))
  have hz3 := hide hb.out.size
  go_wp2_with (first
    | (at_builtin; refine apA elStr hoE.out hbE.out (Nat.le_refl _) r1b.out (.tmp 42) (.tmp 43) rfl rfl rfl rfl nil1.out O1.out m1.out m2.out ?_; intro Aa ca wa hoa hba _; rw [Nat.zero_add] at hoa ⊢; rw [List.nil_append] at hoa; replace hoa := hide hoa; replace hba := hide hba)
    | (at_builtin; refine apA elStr hoa.out hba.out (Nat.le_refl _) (r2.out.below (bel_next hb.out hba.out)) (.tmp 44) (.tmp 45) rfl rfl rfl rfl nil2.out O2.out m3.out m4.out ?_; intro A9 c9 w9 ho9 hb9 _; rw [← List.map_append] at ho9; replace hb := hide (bel_next hb.out hb9); replace r3 := hide (r3.out.below hb9); replace r4 := hide (r4.out.below hb9); replace ho9 := hide ho9; clear hoa hba hb9))
  refine (D2.out _ _ _ ho9.out.rd).mono ?_
  rintro e w5 ⟨A5, n5, c5, A6, n6, c6, rfl, o5, o6, dj, h1⟩
  replace hb := hide (bel_next hb.out h1)
  replace r3 := hide (r3.out.below h1)
  replace r4 := hide (r4.out.below h1)
  obtain rfl : n6 = n4 + n2 := by have := o6.len; rw [List.length_map, HX2.out] at this; exact this.symm
  obtain rfl : n5 = M := by have := o5.len; rw [List.length_map, ← hM.out] at this; exact this.symm
  have oc := o5.cap
  have r5 := hide (show Rd w5 A5 n3 (bys (bldT xs)) by have := o5.rd.take (k := n3) st2; rwa [← List.map_take, st1.out] at this)
  have r6 := hide o6.rd
  have oci : (n3 : Int) ≤ c5 := by omega
  clear h1 o5 o6 dj ho9 hoE hbE r1b m1 m2 m3 m4
  go_wp2_with fail
  refine (r1_.Same A5 A3 n3 c5 n3 c3 (bldT xs) _ (by omega) r5.out r3.out).mono ?_
  rintro e w6 ⟨rfl, h1⟩
  replace hb := hide (bel_next hb.out h1)
  replace r4 := hide (r4.out.below h1)
  replace r6 := hide (r6.out.below h1)
  clear h1 r3 r5
  go_wp2
  go_loopw [9] (fun v wr => ∃ j : Nat, j ≤ n4 ∧ v = .int .i64 j ∧ Rd wr A4 n4 (ints (bldX xs)) ∧ Rd wr A6 (n4 + n2) (ints (bldX (xs ++ ys))) ∧ Below w.heap.size w wr) (fun v _ => n4 - (intOf v).toNat)
  case atStart => exact ⟨0, Nat.zero_le _, rfl, r4.out, r6.out, hb.out⟩
  case round =>
    clear r4 r6 hb
    obtain ⟨j, hj, rfl, r4, r6, hb⟩ := hrel
    rcases Nat.lt_or_ge j n4 with hlt | hge
    · obtain ⟨x, hx⟩ : ∃ x, (bldX xs)[j]? = some x := ⟨_, List.getElem?_eq_getElem (by rw [HX1.out]; exact hlt)⟩
      obtain ⟨ad4, rfl, q4⟩ := rd_x r4 hx
      obtain ⟨ad6, rfl, q6⟩ := rd_x r6 ((HI.out j hlt).trans hx)
      replace r4 := hide r4
      replace r6 := hide r6
      replace hb := hide hb
      clear hx
      go_wp2
      go_quiet (fail)
      go_wp2
      go_roundw
      case rel => exact ⟨j + 1, by omega, by go_num, r4.out, r6.out, bel_drewN hb.out _⟩
      case measure => simp [intOf]; omega
    · obtain rfl : j = n4 := by omega
      replace hb := hide hb
      clear r4 r6
      go_wp2
      go_ret
      exact ⟨rfl, hb.out⟩
end l12_
end Go.Proofs.Ytahldefkhhbdhaa

/-
  THE WALKS OF THE LAWS OF LAYER 12 (zoneinfolaw12): DesigsNamesAreSuffixes. No conditions.
-/
import Derived.Test.YtahldefkhhbdhaaLaw12
namespace Go.Proofs.Ytahldefkhhbdhaa
open Go.ChangeShapes Go.WideShapes Go.ChangeAt Go.RowKit
set_option linter.unusedVariables false
theorem name_facts {xs : List Int} (hv : badL xs = -1) {k : Nat} (hk : k < xs.length) :
    k + (nameL xs k).length < xs.length ∧ xs[k + (nameL xs k).length]? = some 0 ∧ (xs.drop k).take (nameL xs k).length = nameL xs k ∧ (∀ x ∈ nameL xs k, ¬ x = 0) := by
  obtain ⟨_, hl⟩ := (badL_iff xs).1 hv
  obtain ⟨q, hq, hqle, hin, hout⟩ := twi_facts nz (xs.drop k)
  have e : (nameL xs k).length = q := hq
  rw [List.length_drop] at hqle
  have hlt : k + q < xs.length := by
    rcases Nat.lt_or_ge (k + q) xs.length with h | h
    · exact h
    · rw [List.getLast?_eq_getElem?] at hl
      have := hin (xs.length - 1 - k) 0 (by omega) (by rw [List.getElem?_drop, show k + (xs.length - 1 - k) = xs.length - 1 by omega]; exact hl)
      simp [nz] at this
  have hx : xs[k + q]? = some xs[k + q] := List.getElem?_eq_getElem hlt
  have h0 := hout xs[k + q] (by rw [List.getElem?_drop]; exact hx)
  have h0 : xs[k + q] = 0 := by simpa [nz] using h0
  refine ⟨by rw [e]; exact hlt, by rw [e, hx, h0], ?_, ?_⟩
  · show (xs.drop k).take ((xs.drop k).takeWhile nz).length = (xs.drop k).takeWhile nz
    obtain ⟨t, ht⟩ := List.takeWhile_prefix (l := xs.drop k) nz
    generalize (xs.drop k).takeWhile nz = z at *
    rw [← ht, List.take_left]
  · intro x hx hx0
    obtain ⟨i, hi, rfl⟩ := List.getElem_of_mem hx
    obtain ⟨t, ht⟩ := List.takeWhile_prefix (l := xs.drop k) nz
    have hi' : i < q := by rw [← e]; exact hi
    have := hin i (nameL xs k)[i] hi' (by
      rw [← ht]
      show (nameL xs k ++ t)[i]? = _
      rw [List.getElem?_append_left hi, List.getElem?_eq_getElem hi])
    rw [hx0] at this
    simp [nz] at this
theorem name_last {xs : List Int} (hv : badL xs = -1) : nameL xs (xs.length - 1) = [] ∧ 0 < xs.length := by
  obtain ⟨_, hl⟩ := (badL_iff xs).1 hv
  rw [List.getLast?_eq_getElem?] at hl
  have hp : 0 < xs.length := by
    rcases Nat.eq_zero_or_pos xs.length with h | h
    · rw [List.getElem?_eq_none (by omega)] at hl; cases hl
    · exact h
  refine ⟨?_, hp⟩
  obtain ⟨hi, e⟩ := List.getElem?_eq_some_iff.1 hl
  unfold nameL
  rw [List.drop_eq_getElem_cons hi, e]
  rfl
theorem name_next {xs : List Int} {k : Nat} {a : Int} {t : List Int} (h : nameL xs k = a :: t) : nameL xs (k + 1) = t := by
  unfold nameL at *
  rcases Nat.lt_or_ge k xs.length with hk | hk
  · rw [List.drop_eq_getElem_cons hk, List.takeWhile_cons] at h
    split at h
    · injection h
    · cases h
  · rw [List.drop_of_length_le hk] at h
    cases h
theorem bS_get {l : List Int} (hb : IsB l) {j : Nat} (h : j < (bS l).size) : ∃ x, l[j]? = some x ∧ ((bS l)[j].toNat : Int) = x := by
  have hj : j < l.length := by rw [← bS_size]; exact h
  refine ⟨l[j], List.getElem?_eq_getElem hj, ?_⟩
  have e : (bS l)[j] = UInt8.ofNat (l[j]).toNat := by
    show ((l.map (fun x => UInt8.ofNat x.toNat)).toArray)[j]'(by simpa using hj) = _
    simp
  rw [e]
  have := hb l[j] (List.getElem_mem hj)
  simp
  omega
theorem bS_tail (a : Int) (t : List Int) : (bS (a :: t)).extract 1 (bS (a :: t)).size = bS t := by
  apply byt_inj.1
  rw [byt_extract, List.take_of_length_le (by rw [len_byt]; omega)]
  unfold bS
  rw [byt_mk, byt_mk]
  rfl
/-- 'string(t)' of a row that has an address. -/
theorem convA {W : World} {ad : Addr} {n c : Nat} {xs : List Int} (hr : Rd W (some ad) n (bys xs)) (hb : IsB xs) : (convert 22 9 (.slice (some ad) n c)).run Try.prog W = .ok (.string (bS xs)) W := by
  rcases Nat.eq_zero_or_pos n with h | h
  · have hl : xs.length = n := by have := hr.len; simpa using this
    have e : xs = [] := List.eq_nil_of_length_eq_zero (by omega)
    subst h
    subst e
    exact run_convert_bytes_back W 22 9 5 ad c [] Try.underlying22 Try.underlying5 Try.underlying9 (fun j hj => absurd hj (by simp))
  · exact convR hr hb h
theorem rw_b {w : World} {A : Option Addr} {n c : Nat} {zs : List Int} (h : IsRw .u8 w A n c zs) : Rd w A n (bys (zs.take n)) ∧ IsB (zs.take n) := ⟨h.rd, fun x hx => wf_u8 (h.wf x hx)⟩
namespace l12_
set_option maxRecDepth 100000 in
set_option maxHeartbeats 4000000 in
theorem suffixes (A : Option Addr) (n c : Nat) (zs : List Int) (i : Int) (w : World) (hA : IsRw .u8 w A n c zs) (hi : (Lit.int .i64 i).wf = true) :
    Calls Try.prog 5 #[.slice A n c, .int .i64 i] w fun e w' => e = .returned (.bool true) ∧ Below w.heap.size w w' := by
  obtain ⟨i0, i1⟩ := wf_i64 hi
  obtain ⟨cap1, cap2⟩ := hA.cap
  obtain ⟨r, hB⟩ := rw_b hA
  clear hi hA
  obtain ⟨xs, hxs⟩ : ∃ xs, xs = zs.take n := ⟨_, rfl⟩
  rw [← hxs] at r hB
  clear hxs
  have hb := hide (Below.refl w.heap.size w)
  by_cases hn : 1000 < n
  · have hn' : (1000 : Int) < n := by omega
    clear r hB
    go_enter Try.func5, Try.ntmps5
    go_wp2_with fail
    refine (awake _).mono ?_
    rintro e w1 ⟨rfl, h1⟩
    replace hb := hide (bel_next hb.out h1)
    clear h1
    go_wp2_with fail
    refine (awake _).mono ?_
    rintro e w1 ⟨rfl, h1⟩
    replace hb := hide (bel_next hb.out h1)
    clear h1
    go_wp2
    go_ret
    exact ⟨rfl, hb.out⟩
  have hn1 : n ≤ 1000 := by omega
  have hlen : xs.length = n := by have := r.len; simpa using this
  have V := hide (fun w hr => r12_.Valid A n c xs w hr hB (by omega))
  replace r := hide r
  clear hn
  by_cases hv : badL xs = -1
  · rw [decide_eq_true hv] at V
    have No := hide (fun w hr h => ds_.Name_no A n c xs i w hr hB (by omega) hv i0 i1 h)
    have Nm := hide (fun k w hr hk => ds_.Name A n c xs k w hr hB (by omega) cap1 cap2 hv hk)
    by_cases hin : i < 0 ∨ (n : Int) ≤ i
    · have No := hide (fun w hr => No.out w hr hin)
      rcases hin with h | h
      all_goals
        clear hlen hv i0 i1
        go_enter Try.func5, Try.ntmps5
        go_wp2_with fail
        refine (awake _).mono ?_
        rintro e w1 ⟨rfl, h1⟩
        replace hb := hide (bel_next hb.out h1)
        replace r := hide (r.out.below h1)
        clear h1
        go_wp2_with fail
        refine (V.out _ r.out).mono ?_
        rintro e w1 ⟨rfl, rfl⟩
        go_wp2_with fail
        refine (No.out _ r.out).mono ?_
        rintro e w1 ⟨rfl, h1⟩
        replace hb := hide (bel_next hb.out h1)
        replace r := hide (r.out.below h1)
        clear h1
        go_wp2
        go_ret
        exact ⟨rfl, hb.out⟩
    · obtain ⟨k, rfl⟩ : ∃ k : Nat, i = (k : Int) := ⟨i.toNat, by omega⟩
      have hk : k < n := by omega
      obtain ⟨f1, f2, f3, f4⟩ := name_facts hv (k := k) (by omega)
      obtain ⟨l1, l2⟩ := name_last hv
      rw [hlen] at l1 f1
      have Nm1 := hide (fun w hr => Nm.out k w hr hk)
      have Nm2 := hide (fun w hr => Nm.out (n - 1) w hr (by omega))
      rw [l1, bS_nil, show ((n - 1 : Nat) : Int) = (n : Int) - 1 by omega] at Nm2
      have hBn : IsB (nameL xs k) := fun x hx => hB x (List.mem_of_mem_drop (by rw [← f3] at hx; exact List.mem_of_mem_take hx))
      have Nm3 := hide (fun (h : k + 1 < n) w hr => Nm.out (k + 1) w hr h)
      rw [show ((k + 1 : Nat) : Int) = (k : Int) + 1 by omega] at Nm3
      have Tl := hide (fun a t (h : nameL xs k = a :: t) => name_next h)
      obtain ⟨q, hq⟩ : ∃ q, q = (nameL xs k).length := ⟨_, rfl⟩
      rw [← hq] at f1 f2 f3
      obtain ⟨l, hl⟩ : ∃ l, l = nameL xs k := ⟨_, rfl⟩
      rw [← hl] at f3 f4 hBn hq Nm1 Tl
      have hsz := bS_size l
      rw [← hq] at hsz
      have hg := hide (fun j (h : j < (bS l).size) => show ¬ (((bS l)[j].toNat : Int) = 0) by
        obtain ⟨x, hx, e⟩ := bS_get hBn h
        rw [e]
        exact f4 x (List.mem_of_getElem? hx))
      have HL := hide (fun (h : 0 < q) => show ∃ a t, l = a :: t by
        rcases l with _ | ⟨a, t⟩
        · simp at hq; omega
        · exact ⟨a, t, rfl⟩)
      have TT := hide (fun a t (h : l = a :: t) => show (bS l).extract 1 (bS l).size = bS t by rw [h]; exact bS_tail a t)
      obtain ⟨ad, x, rfl, _, _⟩ := rd_at r.out hk
      have CV := hide (fun (W : World) (hr : Rd W (some ad) n (bys xs)) => show (convert 22 9 (.slice (some (ad.add k)) q (c - k))).run Try.prog W = .ok (.string (bS l)) W by
        have h1 := hr.cut (k := k) (cap := c) (by omega) (by omega)
        rw [if_neg (by omega)] at h1
        have h2 := h1.take (k := q) (by omega)
        rw [← List.map_drop, ← List.map_take, f3] at h2
        exact convA h2 hBn)
      have C0 := hide (fun (W : World) (hr : Rd W (some ad) n (bys xs)) => show W.cell? (ad.add (k + q)) = some (.int .u8 0) by
        obtain ⟨ad', x, e, hx, hc⟩ := rd_at hr f1
        cases e
        rw [f2] at hx
        injection hx with hx
        rw [hc, hx])
      obtain ⟨sv, hsv⟩ : ∃ sv, sv = bS l := ⟨_, rfl⟩
      rw [← hsv] at Nm1 hsz hg TT CV
      clear hlen hv i0 i1 hin Nm No f2 f3 f4 hB hl hsv hBn hq l1
      go_enter Try.func5, Try.ntmps5
      go_wp2_with fail
      refine (awake _).mono ?_
      rintro e w1 ⟨rfl, h1⟩
      replace hb := hide (bel_next hb.out h1)
      replace r := hide (r.out.below h1)
      clear h1
      go_wp2_with fail
      refine (V.out _ r.out).mono ?_
      rintro e w1 ⟨rfl, rfl⟩
      go_wp2_with fail
      refine (Nm1.out _ r.out).mono ?_
      rintro e w1 ⟨rfl, h1⟩
      replace hb := hide (bel_next hb.out h1)
      replace r := hide (r.out.below h1)
      clear h1
      have c0 := C0.out _ r.out
      have cv := CV.out _ r.out
      go_wp2
      clear c0 cv
      go_loop [8] (fun v => ∃ j : Nat, j ≤ q ∧ v = .int .i64 j) (fun v => q - (intOf v).toNat)
      case atStart => exact ⟨0, Nat.zero_le _, rfl⟩
      case round =>
        obtain ⟨j, hj, rfl⟩ := hrel
        rcases Nat.lt_or_ge j q with hlt | hge
        · have hjs : j < sv.size := by omega
          have hne := hg.out j hjs
          go_wp2
          go_round
          case rel => exact ⟨j + 1, by omega, by go_num⟩
          case measure => simp [intOf]; omega
        · obtain rfl : j = q := by omega
          by_cases hq0 : j = 0
          · go_wp2_with fail
            refine (Nm2.out _ r.out).mono ?_
            rintro e w1 ⟨rfl, h1⟩
            replace hb := hide (bel_next hb.out h1)
            replace r := hide (r.out.below h1)
            clear h1
            go_wp2
            go_ret
            exact ⟨rfl, hb.out⟩
          · obtain ⟨a, t, ht⟩ := HL.out (by omega)
            have tt := TT.out a t ht
            rw [hsz] at tt
            have N3 := hide (Nm3.out (by omega))
            rw [Tl.out a t ht] at N3
            have hs1 : (1 : Int) ≤ sv.size := by omega
            have hs2 : 1 ≤ sv.size := by omega
            go_wp2_with fail
            refine (Nm2.out _ r.out).mono ?_
            rintro e w1 ⟨rfl, h1⟩
            replace hb := hide (bel_next hb.out h1)
            replace r := hide (r.out.below h1)
            clear h1
            go_wp2_with fail
            refine (N3.out _ r.out).mono ?_
            rintro e w1 ⟨rfl, h1⟩
            replace hb := hide (bel_next hb.out h1)
            clear h1
            go_wp2
            go_ret
            exact ⟨retb (by first | rfl | simp [tt]), hb.out⟩
  · rw [decide_eq_false hv] at V
    clear hv hlen
    go_enter Try.func5, Try.ntmps5
    go_wp2_with fail
    refine (awake _).mono ?_
    rintro e w1 ⟨rfl, h1⟩
    replace hb := hide (bel_next hb.out h1)
    replace r := hide (r.out.below h1)
    clear h1
    go_wp2_with fail
    refine (V.out _ r.out).mono ?_
    rintro e w1 ⟨rfl, rfl⟩
    go_wp2_with fail
    refine (awake _).mono ?_
    rintro e w1 ⟨rfl, h1⟩
    replace hb := hide (bel_next hb.out h1)
    clear h1
    go_wp2
    go_ret
    exact ⟨rfl, hb.out⟩
end l12_
end Go.Proofs.Ytahldefkhhbdhaa

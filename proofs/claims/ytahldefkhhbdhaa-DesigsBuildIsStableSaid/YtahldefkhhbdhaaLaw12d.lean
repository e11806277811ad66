/-
  THE WALKS OF THE LAWS OF LAYER 12 (zoneinfolaw12): DesigsBuildThenName. No conditions.
-/
import Derived.Test.YtahldefkhhbdhaaLaw12c
import Derived.Test.YtahldefkhhbdhaaDsMath3
import Derived.BigQuiet
namespace Go.Proofs.Ytahldefkhhbdhaa
open Go.ChangeShapes Go.WideShapes Go.ChangeAt Go.RowKit
set_option linter.unusedVariables false
theorem plain_ok {ss : List ByteArray} (h : plainL ss = true) : (∀ s ∈ ss, s.size ≤ 300) ∧ (∀ s ∈ ss, okB s) ∧ ss.length ≤ 60 := by
  refine ⟨fun s hs => (plain_facts h s hs).1, fun s hs => okB_of (plain_facts h s hs).2, ?_⟩
  unfold plainL at h
  simp only [Bool.and_eq_true, decide_eq_true_eq] at h
  exact h.2
theorem rd_s {w : World} {A : Option Addr} {n : Nat} {xs : List ByteArray} (h : Rd w A n (strs xs)) {i : Nat} {x : ByteArray} (hx : xs[i]? = some x) : ∃ ad, A = some ad ∧ w.cell? (ad.add i) = some (.string x) := by
  have hl : xs.length = n := by have := h.len; simpa using this
  have hi := (List.getElem?_eq_some_iff.1 hx).1
  obtain ⟨ad, v, rfl, hv, hc⟩ := h.at_ (i := i) (by omega)
  rw [List.getElem?_map, hx] at hv
  injection hv with hv
  exact ⟨ad, rfl, by rw [hc, ← hv]⟩
theorem rd_x {w : World} {A : Option Addr} {n : Nat} {xs : List Int} (h : Rd w A n (ints xs)) {i : Nat} {x : Int} (hx : xs[i]? = some x) : ∃ ad, A = some ad ∧ w.cell? (ad.add i) = some (.int .i64 x) := by
  have hl : xs.length = n := by have := h.len; simpa using this
  have hi := (List.getElem?_eq_some_iff.1 hx).1
  obtain ⟨ad, v, rfl, hv, hc⟩ := h.at_ (i := i) (by omega)
  rw [List.getElem?_map, hx] at hv
  injection hv with hv
  exact ⟨ad, rfl, by rw [hc, ← hv]⟩
theorem bldT_isB {ss : List ByteArray} (h : ∀ s ∈ ss, okB s) : IsB (bldT ss) := by
  have hv := ((badL_iff _).1 (bldT_valid h)).1
  intro x hx
  have := hv x hx
  unfold dsG dsA at this
  simp at this
  omega
set_option maxRecDepth 100000 in
theorem T_le (ss : List ByteArray) (hs : ∀ s ∈ ss, s.size ≤ 300) (hn : ss.length ≤ 60) : ∀ n, n ≤ ss.length → (bld (ss.take n)).2.1.length ≤ 60 * 301 := by
  have key : ∀ n, n ≤ ss.length → (bld (ss.take n)).2.1.length ≤ n * 301 := by
    intro n
    induction n with
    | zero => intro _; simp [bld]
    | succ n ih =>
      intro hn
      have hx : ss[n]? = some ss[n] := List.getElem?_eq_getElem (by omega)
      have h0 := ih (by omega)
      have h1 := hs ss[n] (List.getElem_mem _)
      obtain ⟨a, b⟩ := T_step hx
      by_cases hm : ss[n] ∈ ss.take n
      · rw [a hm]; omega
      · rw [b hm]; omega
  intro n h
  have := key n h
  have : n * 301 ≤ 60 * 301 := Nat.mul_le_mul_right _ (by omega)
  omega
namespace l12_
set_option maxRecDepth 100000 in
set_option maxHeartbeats 8000000 in
theorem buildThenName (A2 : Option Addr) (n2 c2 : Nat) (z2 : List ByteArray) (w : World) (h2 : IsSw w A2 n2 c2 z2) :
    Calls Try.prog 4 #[.slice A2 n2 c2] w fun e w' => e = .returned (.bool true) ∧ Below w.heap.size w w' := by
  have r2 := h2.rd
  have sz := h2.sz
  obtain ⟨cb1, cb2⟩ := h2.cap
  clear h2
  obtain ⟨ss, hss⟩ : ∃ ss, ss = z2.take n2 := ⟨_, rfl⟩
  rw [← hss] at r2 sz
  clear hss
  have hb := hide (Below.refl w.heap.size w)
  have l2 : ss.length = n2 := by have := r2.len; simpa using this
  have PL := hide (fun w hr => r12_.Plain A2 n2 c2 ss w hr (by omega) (fun s h => by have := sz s h; simpa [maxLen] using this))
  replace r2 := hide r2
  rcases hpl : plainL ss
  · rw [hpl] at PL
    clear hpl l2 sz
    go_enter Try.func4, Try.ntmps4
    go_wp2_with fail
    refine (awake _).mono ?_
    rintro e w1 ⟨rfl, h1⟩
    replace hb := hide (bel_next hb.out h1)
    clear h1
    go_wp2_with fail
    refine (PL.out _ (r2.out.below hb.out)).mono ?_
    rintro e w1 ⟨rfl, rfl⟩
    go_wp2_with fail
    refine (awake _).mono ?_
    rintro e w1 ⟨rfl, h1⟩
    replace hb := hide (bel_next hb.out h1)
    clear h1
    go_wp2
    go_ret
    exact ⟨rfl, hb.out⟩
  rw [hpl] at PL
  have HP := plain_facts hpl
  obtain ⟨p1, p2, p3⟩ := plain_ok hpl
  have DBd := hide (fun w hr => ds_.Build A2 n2 c2 ss w hr (by omega) (fun s h => by have := (HP s h).1; omega) (fun s h => (HP s h).2))
  have HX := hide (show (bldX ss).length = n2 by rw [← l2]; exact (bld_ok ss).len)
  have HTl := bldT_len ss p1 p3
  have hval := bldT_valid p2
  have hisb := bldT_isB p2
  obtain ⟨N, hN⟩ : ∃ N, N = (bldT ss).length := ⟨_, rfl⟩
  rw [← hN] at HTl
  have DV := hide (fun A c w hr k1 k2 => ds_.Valid A N c (bldT ss) w hr hisb (by omega) k1 k2)
  rw [decide_eq_true hval] at DV
  have DN := hide (fun A c p w hr k1 k2 hp => ds_.Name A N c (bldT ss) p w hr hisb (by omega) k1 k2 hval hp)
  have HA := hide (fun (i : Nat) (s : ByteArray) (hi : ss[i]? = some s) => show ∃ p : Nat, (bldX ss)[i]? = some (p : Int) ∧ bS (nameL (bldT ss) p) = s ∧ p < N by
    obtain ⟨p, e1, e2, e3⟩ := bldT_at p2 hi
    exact ⟨p, e1, by rw [e2, bS_bIx], by rw [hN]; exact e3⟩)
  have HQ := hide (fun (i j : Nat) (s u : ByteArray) (x y : Int) (hi : ss[i]? = some s) (hj : ss[j]? = some u) hx hy => ix_eq (bok_all p2) p2 (x := x) (y := y) hi hj hx hy)
  have HT := hide (fun (i : Nat) (h : i ≤ n2) => show (bld (ss.take i)).2.1.length ≤ 60 * 301 from T_le ss p1 p3 i (by omega))
  have HS := hide (fun (i : Nat) (s : ByteArray) (hi : ss[i]? = some s) => T_step hi)
  have HZ := hide (fun (s : ByteArray) (h : s ∈ ss) => p1 s h)
  have HE := hide (show (N = 1 ∧ (bld (ss.take n2)).2.1.length = 0) ∨ (1 ≤ N ∧ N = (bld (ss.take n2)).2.1.length) by
    rw [← l2, List.take_length]
    by_cases hT : (bld ss).2.1 = []
    · left; rw [hN]; unfold bldT; rw [if_pos hT, hT]; exact ⟨rfl, rfl⟩
    · right
      have : N = (bld ss).2.1.length := by rw [hN]; unfold bldT; rw [if_neg hT]
      have h0 : 0 < (bld ss).2.1.length := List.length_pos_iff.2 hT
      omega)
  have hn60 : n2 ≤ 60 := by omega
  replace l2 := hide l2
  replace hN := hide hN
  clear hpl HP p1 p2 p3 hval hisb sz cb2
  go_enter Try.func4, Try.ntmps4
  go_wp2_with fail
  refine (awake _).mono ?_
  rintro e w1 ⟨rfl, h1⟩
  replace hb := hide (bel_next hb.out h1)
  clear h1
  go_wp2_with fail
  refine (PL.out _ (r2.out.below hb.out)).mono ?_
  rintro e w2 ⟨rfl, rfl⟩
  go_wp2_with fail
  refine (DBd.out _ (r2.out.below hb.out)).mono ?_
  rintro e w3 ⟨A3, n3, c3, A4, n4, c4, rfl, o3, o4, dj, h1⟩
  replace hb := hide (bel_next hb.out h1)
  obtain rfl : n4 = n2 := by have := o4.len; rw [List.length_map, HX.out] at this; exact this.symm
  obtain rfl : n3 = N := by have := o3.len; rw [List.length_map, ← hN.out] at this; exact this.symm
  have r3 := hide o3.rd
  have k3 := hide (ow_c o3)
  have r4 := hide o4.rd
  clear h1 o3 o4 dj
  go_wp2_with fail
  refine (DV.out _ _ _ r3.out k3.out.1 k3.out.2).mono ?_
  rintro e w5 ⟨rfl, h1⟩
  replace hb := hide (bel_next hb.out h1)
  replace r3 := hide (r3.out.below h1)
  replace r4 := hide (r4.out.below h1)
  clear h1
  go_wp2
  go_loopw [5, 6] (fun tv iv wr => ∃ i t : Nat, i ≤ n4 ∧ iv = .int .i64 i ∧ tv = .int .i64 t ∧ Hid (t = (bld (ss.take i)).2.1.length) ∧ Rd wr A3 n3 (bys (bldT ss)) ∧ Rd wr A4 n4 (ints (bldX ss)) ∧ Below w.heap.size w wr) (fun _ iv _ => n4 - (intOf iv).toNat)
  case atStart => exact ⟨0, 0, Nat.zero_le _, rfl, rfl, hide rfl, r3.out, r4.out, hb.out⟩
  case round =>
    clear r3 r4 hb
    obtain ⟨i, t, hi, rfl, rfl, ht, r3, r4, hb⟩ := hrel
    have htb : t ≤ 60 * 301 := by rw [ht.out]; exact HT.out i hi
    rcases Nat.lt_or_ge i n4 with hlt | hge
    · obtain ⟨s, hs⟩ : ∃ s, ss[i]? = some s := ⟨_, List.getElem?_eq_getElem (by rw [l2.out]; exact hlt)⟩
      obtain ⟨p, e1, e2, e3⟩ := HA.out i s hs
      have hz := HZ.out s (List.mem_of_getElem? hs)
      obtain ⟨ad4, rfl, l4⟩ := rd_x r4 e1
      obtain ⟨ad2, rfl, ls⟩ := rd_s (r2.out.below hb) hs
      have DNp := hide (DN.out A3 c3 p _ r3 k3.out.1 k3.out.2 e3)
      rw [e2] at DNp
      replace r3 := hide r3
      replace r4 := hide r4
      replace hb := hide hb
      replace e1 := hide e1
      replace hs := hide hs
      clear e2 e3
      go_wp2_with fail
      refine DNp.out.mono ?_
      rintro e w6 ⟨rfl, h1⟩
      replace hb := hide (bel_next hb.out h1)
      replace r3 := hide (r3.out.below h1)
      replace r4 := hide (r4.out.below h1)
      clear h1 l4 ls DNp
      obtain ⟨_, e, ls⟩ := rd_s (r2.out.below hb.out) hs.out
      cases e
      go_wp2
      clear ls
      go_loopw [9, 10] (fun av kv wq => ∃ (k : Nat) (b : Bool), k ≤ i ∧ kv = .int .i64 k ∧ av = .bool b ∧ Hid (b = true ↔ s ∈ ss.take k) ∧ Rd wq A3 n3 (bys (bldT ss)) ∧ Rd wq (some ad4) n4 (ints (bldX ss)) ∧ Below w.heap.size w wq) (fun _ kv _ => i - (intOf kv).toNat)
      case atStart => exact ⟨0, false, Nat.zero_le _, rfl, rfl, hide (by simp), r3.out, r4.out, hb.out⟩
      case round =>
        clear r3 r4 hb
        obtain ⟨k, b, hk, rfl, rfl, hbm, r3, r4, hb⟩ := hrel
        obtain ⟨_, e, li⟩ := rd_x r4 e1.out
        cases e
        obtain ⟨_, e, lsi⟩ := rd_s (r2.out.below hb) hs.out
        cases e
        rcases Nat.lt_or_ge k i with hki | hki
        · obtain ⟨u, hu⟩ : ∃ u, ss[k]? = some u := ⟨_, List.getElem?_eq_getElem (by rw [l2.out]; omega)⟩
          obtain ⟨q, f1, _, _⟩ := HA.out k u hu
          obtain ⟨_, e, lk⟩ := rd_x r4 f1
          cases e
          obtain ⟨_, e, lsk⟩ := rd_s (r2.out.below hb) hu
          cases e
          have hqp := HQ.out k i u s q p hu hs.out f1 e1.out
          have htk := take_snoc hu
          replace r3 := hide r3
          replace r4 := hide r4
          replace hb := hide hb
          by_cases e : u = s
          · subst e
            obtain rfl : q = p := by have := hqp.2 rfl; omega
            have hm := hide (show (true = true ↔ u ∈ ss.take (k + 1)) by rw [htk]; simp)
            clear hqp htk hu f1
            cases b
            all_goals
              go_wp2
              go_quiet (fail)
              go_wp2
              go_quiet (fail)
              go_wp2
              go_roundw
              case rel => exact ⟨k + 1, true, by omega, by go_num, rfl, hide (by simpa using hm.out), r3.out, r4.out, bel_drewN hb.out _⟩
              case measure => simp [intOf]; omega
          · have h1 := seq_ne e
            have h2 : ((q : Int) == (p : Int)) = false := by simpa using fun h => e (hqp.1 h)
            have hm := hide (show (b = true ↔ s ∈ ss.take (k + 1)) by rw [htk, hbm.out]; simp [Ne.symm e])
            clear hqp htk hu f1
            cases b
            all_goals
              go_wp2
              go_quiet (fail)
              go_wp2
              go_quiet (fail)
              go_wp2
              go_roundw
              case rel => exact ⟨k + 1, _, by omega, by go_num, rfl, hide (by simpa using hm.out), r3.out, r4.out, bel_drewN hb.out _⟩
              case measure => simp [intOf]; omega
        · obtain rfl : k = i := by omega
          obtain ⟨t1, t2⟩ := HS.out k s hs.out
          rw [← ht.out] at t1 t2
          replace r3 := hide r3
          replace r4 := hide r4
          replace hb := hide hb
          cases b
          · have hn := t2 (fun h => by have := hbm.out.2 h; cases this)
            replace hn := hide hn
            clear t1 t2
            go_wp2
            go_roundw
            case rel => exact ⟨k + 1, t + s.size + 1, by omega, by go_num, by go_num, hide hn.out.symm, r3.out, r4.out, hb.out⟩
            case measure => simp [intOf]; omega
          · have hn := hide (t1 (hbm.out.1 rfl))
            clear t1 t2
            go_wp2
            go_roundw
            case rel => exact ⟨k + 1, t, by omega, by go_num, rfl, hide hn.out.symm, r3.out, r4.out, hb.out⟩
            case measure => simp [intOf]; omega
    · obtain rfl : i = n4 := by omega
      replace hb := hide hb
      have hE := HE.out
      rw [← ht.out] at hE
      replace ht := hide ht
      clear r3 r4
      rcases hE with ⟨rfl, rfl⟩ | ⟨e1, rfl⟩
      all_goals
        go_wp2
        go_ret
        exact ⟨retb (by first | rfl | (simp; omega)), hb.out⟩
end l12_
end Go.Proofs.Ytahldefkhhbdhaa

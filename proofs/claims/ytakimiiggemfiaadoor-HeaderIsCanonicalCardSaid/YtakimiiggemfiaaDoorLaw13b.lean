/-
  THE WALKS OF THE LAWS OF LAYER 13 (zoneinfolaw13): HeaderIsCanonical. No conditions.
-/
import Derived.Test.YtakimiiggemfiaaDoorLaw13
namespace Go.Proofs.YtakimiiggemfiaaDoor
open Go.ChangeShapes Go.WideShapes Go.ChangeAt Go.RowKit
set_option linter.unusedVariables false
namespace l13_
set_option maxRecDepth 100000 in
set_option maxHeartbeats 8000000 in
theorem canonical (A : Option Addr) (n cc : Nat) (zs : List Int) (t s : Int) (w : World) (hT : Th w) (hA : IsRw .u8 w A n cc zs) (ht : (Lit.int .u8 t).wf = true) (hs : (Lit.int .u8 s).wf = true) :
    Calls Tryd.prog 4 #[.slice A n cc, .int .u8 t, .int .u8 s] w fun e w' => e = .returned (.bool true) ∧ Below w.heap.size w w' := by
  obtain ⟨t0, t1⟩ := wf_u8 ht
  obtain ⟨s0, s1⟩ := wf_u8 hs
  have r := hA.rd
  have nil_ := hA.nil
  have B : Bytes (zs.take n) := bytes_of_mem fun x hx => wf_u8 (hA.wf x hx)
  obtain ⟨ca1, ca2⟩ := hA.cap
  clear ht hs hA
  obtain ⟨xs, hxs⟩ : ∃ xs, xs = zs.take n := ⟨_, rfl⟩
  rw [← hxs] at r B
  clear hxs
  have HT := hide hT
  have hb := hide (Below.refl w.heap.size w)
  by_cases hn : 1000 < n
  · have hn' : (1000 : Int) < n := by omega
    clear r B
    go_enter Tryd.func4, Tryd.ntmps4
    go_wp2_with fail
    refine (awake _ (HT.out.below hb.out)).mono ?_
    rintro e w1 ⟨rfl, h1⟩
    replace hb := hide (bel_next hb.out h1)
    clear h1
    go_wp2_with fail
    refine (awake _ (HT.out.below hb.out)).mono ?_
    rintro e w1 ⟨rfl, h1⟩
    replace hb := hide (bel_next hb.out h1)
    clear h1
    go_wp2
    go_ret
    exact ⟨rfl, hb.out⟩
  have hn1 : (n : Int) ≤ 1000 := by omega
  have hn2 : n ≤ 1000 := by omega
  have hlen : xs.length = n := by have := r.len; simpa using this
  obtain ⟨h, q, e, a0, hd⟩ : ∃ h q e a0, decH xs 0 = (h, q, e, a0) := ⟨_, _, _, _, rfl⟩
  have hcs := dec_cases B (by omega) hd
  rw [hlen] at hcs
  rcases hcs with ⟨rfl, rfl, rfl, hn44, hf, hok, hcon⟩ | ⟨e1, e6, rfl, a1, a2, _, _⟩
  rotate_left
  · have D1 := hide (fun w hT hr => hd_.Decode A n cc 0 xs w hT hr B nil_ ca1 ca2 (by omega) (by omega) (show decH xs 0 = (⟨0, 0, 0, 0, 0, 0, 0⟩, q, e, a0) from hd))
    have ee : (e != 0) = true := by simp; omega
    replace r := hide r
    clear hd B hlen
    go_enter Tryd.func4, Tryd.ntmps4
    go_wp2_with fail
    refine (awake _ (HT.out.below hb.out)).mono ?_
    rintro e w1 ⟨rfl, h1⟩
    replace hb := hide (bel_next hb.out h1)
    clear h1
    have rr := hide (r.out.below hb.out)
    go_wp2_with fail
    refine (cu_.New _ _ _ _).mono ?_
    rintro e w2 ⟨rfl, h1⟩
    replace hb := hide (bel_next hb.out h1)
    replace rr := hide (rr.out.below h1)
    clear h1
    go_wp2_with fail
    refine (D1.out _ (HT.out.below hb.out) rr.out).mono ?_
    rintro e w3 ⟨rfl, h1⟩
    replace hb := hide (bel_next hb.out h1)
    replace rr := hide (rr.out.below h1)
    clear h1
    have b7 := hide ((Bx.new w3 [.int .i64 0, .int .u32 0, .int .u32 0, .int .u32 0, .int .u32 0, .int .u32 0, .int .u32 0] 24).alloc (.cells #[.slice A n cc, .int .i64 q, .int .i64 e, .int .i64 a0] 30))
    have b8 := hide (Bx.snd4 w3 (.cells #[.int .i64 0, .int .u32 0, .int .u32 0, .int .u32 0, .int .u32 0, .int .u32 0, .int .u32 0] 24) (.slice A n cc) (.int .i64 q) (.int .i64 e) (.int .i64 a0) 30)
    replace hb := hide (bl_alloc (bl_alloc hb.out (.cells #[.int .i64 0, .int .u32 0, .int .u32 0, .int .u32 0, .int .u32 0, .int .u32 0, .int .u32 0] 24)) (.cells #[.slice A n cc, .int .i64 q, .int .i64 e, .int .i64 a0] 30))
    replace rr := hide ((rr.out.alloc (.cells #[.int .i64 0, .int .u32 0, .int .u32 0, .int .u32 0, .int .u32 0, .int .u32 0, .int .u32 0] 24)).alloc (.cells #[.slice A n cc, .int .i64 q, .int .i64 e, .int .i64 a0] 30))
    go_upto_region 4 with fail
    generalize ((w3.alloc (.cells #[.int .i64 0, .int .u32 0, .int .u32 0, .int .u32 0, .int .u32 0, .int .u32 0, .int .u32 0] 24)).alloc (.cells #[.slice A n cc, .int .i64 q, .int .i64 e, .int .i64 a0] 30)) = w4 at *
    have x7 := cells7 b7.out
    have x8 := b8.out.cells4
    go_wp2
    go_ret
    exact ⟨rfl, hb.out⟩
  obtain ⟨ad, xx, rfl, _, _⟩ := r.at_ (i := 0) (by omega)
  have D1 := hide (fun w hT hr => hd_.Decode (some ad) n cc 0 xs w hT hr B nil_ ca1 ca2 (by omega) (by omega) (show decH xs 0 = (h, 44, 0, 0) from hd))
  have E := hide (fun w hT => hd_.Encode h w hT hok)
  have K := hide (fun w hT => hd_.Consistent h w hT)
  rw [hcon] at K
  have r44 : ∀ {W : World}, Rd W (some ad) n (xs.map (Value.int .u8)) → Rd W (some ad) 44 ((encH h).map (Value.int .u8)) := fun hr => by
    have := hr.take (k := 44) (by omega)
    rw [← List.map_take] at this
    rwa [show xs.take 44 = encH h from hf] at this
  have s44 : (44 : Int) ≤ cc := by omega
  have s44' : 44 ≤ cc := by omega
  have s44n : (44 : Int) ≤ n := by omega
  replace hd := hide hd
  replace hf := hide hf
  replace r := hide r
  obtain ⟨k, hk⟩ : ∃ k : Nat, (k : Int) = t % 44 := ⟨(t % 44).toNat, by omega⟩
  have hk44 : k < 44 := by omega
  have ek : t.tmod 44 = (k : Int) := by rw [Int.tmod_eq_emod_of_nonneg t0, hk]
  obtain ⟨xk, hxk⟩ : ∃ xk, xs[k]? = some xk := ⟨_, List.getElem?_eq_getElem (by omega)⟩
  have hxb := B.mem xk (List.mem_of_getElem? hxk)
  obtain ⟨u, hu⟩ : ∃ u, u = (xk + s) % 256 := ⟨_, rfl⟩
  have eu : IntKind.u8.wrap (xk + s) = u := by rw [IntKind.wrap_u8, hu]
  have B2 : Bytes (xs.set k u) := B.set k (by omega) (by omega)
  obtain ⟨h2, q2, e2, a2, hd2⟩ : ∃ h q e a0, decH (xs.set k u) 0 = (h, q, e, a0) := ⟨_, _, _, _, rfl⟩
  have D3 := hide (fun A c w hT hr hA hn hc => hd_.Decode A n c 0 (xs.set k u) w hT hr B2 hA hn hc (by omega) (by omega) hd2)
  have hfin : s = 0 ∨ ((s == 0) = false ∧ (e2 != 0) = true) ∨ ((s == 0) = false ∧ e2 = 0 ∧ ¬ h2 = h) := by
    by_cases hs0 : s = 0
    · exact .inl hs0
    · have hs0' : (s == 0) = false := by simpa using hs0
      rcases dec_cases B2 (by omega) hd2 with ⟨e0, _, _, _, hf2, _, _⟩ | ⟨e1, _⟩
      · refine .inr (.inr ⟨hs0', e0, fun e => ?_⟩)
        rw [e, ← hf.out] at hf2
        have g1 : (fld (xs.set k u) 0 44)[k]? = some u := by
          show ((xs.set k u).take 44)[k]? = _
          rw [List.getElem?_take, if_pos hk44, List.getElem?_set_self (by omega)]
        have g2 : (fld xs 0 44)[k]? = some xk := by
          show (xs.take 44)[k]? = _
          rw [List.getElem?_take, if_pos hk44, hxk]
        rw [hf2, g2] at g1
        injection g1 with g1
        omega
      · exact .inr (.inl ⟨hs0', by simp; omega⟩)
  replace hxk := hide hxk
  replace hk := hide hk
  have k44 : (k : Int) < 44 := by omega
  clear hd2 hd hf hok hcon B B2 hlen hxb hu hk
  obtain ⟨v, a, b, c, d, x, y⟩ := h
  obtain ⟨v', a', b', c', d', x', y'⟩ := h2
  have hfin := hide (show s = 0 ∨ ((s == 0) = false ∧ (e2 != 0) = true) ∨ ((s == 0) = false ∧ e2 = 0 ∧ (v' == v && a' == a && b' == b && c' == c && d' == d && x' == x && y' == y) = false) by
    rcases hfin with h | h | ⟨h1, h2, h3⟩
    · exact .inl h
    · exact .inr (.inl h)
    · refine .inr (.inr ⟨h1, h2, ?_⟩)
      rw [← Bool.not_eq_true]
      intro e
      simp only [Bool.and_eq_true, beq_iff_eq] at e
      obtain ⟨⟨⟨⟨⟨⟨e1, e2⟩, e3⟩, e4⟩, e5⟩, e6⟩, e7⟩ := e
      exact h3 (by rw [e1, e2, e3, e4, e5, e6, e7]))
  go_enter Tryd.func4, Tryd.ntmps4
  go_wp2_with fail
  refine (awake _ (HT.out.below hb.out)).mono ?_
  rintro e w1 ⟨rfl, h1⟩
  replace hb := hide (bel_next hb.out h1)
  clear h1
  have rr := hide (r.out.below hb.out)
  go_wp2_with fail
  refine (cu_.New _ _ _ _).mono ?_
  rintro e w2 ⟨rfl, h1⟩
  replace hb := hide (bel_next hb.out h1)
  replace rr := hide (rr.out.below h1)
  clear h1
  go_wp2_with fail
  refine (D1.out _ (HT.out.below hb.out) rr.out).mono ?_
  rintro e w3 ⟨rfl, h1⟩
  replace hb := hide (bel_next hb.out h1)
  replace rr := hide (rr.out.below h1)
  clear h1
  have b7 := hide ((Bx.new w3 [.int .i64 v, .int .u32 a, .int .u32 b, .int .u32 c, .int .u32 d, .int .u32 x, .int .u32 y] 24).alloc (.cells #[.slice (some ad) n cc, .int .i64 44, .int .i64 0, .int .i64 0] 30))
  have b8 := hide (Bx.snd4 w3 (.cells #[.int .i64 v, .int .u32 a, .int .u32 b, .int .u32 c, .int .u32 d, .int .u32 x, .int .u32 y] 24) (.slice (some ad) n cc) (.int .i64 44) (.int .i64 0) (.int .i64 0) 30)
  replace hb := hide (bl_alloc (bl_alloc hb.out (.cells #[.int .i64 v, .int .u32 a, .int .u32 b, .int .u32 c, .int .u32 d, .int .u32 x, .int .u32 y] 24)) (.cells #[.slice (some ad) n cc, .int .i64 44, .int .i64 0, .int .i64 0] 30))
  replace rr := hide ((rr.out.alloc (.cells #[.int .i64 v, .int .u32 a, .int .u32 b, .int .u32 c, .int .u32 d, .int .u32 x, .int .u32 y] 24)).alloc (.cells #[.slice (some ad) n cc, .int .i64 44, .int .i64 0, .int .i64 0] 30))
  go_upto_region 4 with fail
  generalize ((w3.alloc (.cells #[.int .i64 v, .int .u32 a, .int .u32 b, .int .u32 c, .int .u32 d, .int .u32 x, .int .u32 y] 24)).alloc (.cells #[.slice (some ad) n cc, .int .i64 44, .int .i64 0, .int .i64 0] 30)) = w4 at *
  have x8 := b8.out.cells4
  go_upto_region 6 with fail
  clear x8
  go_region_held3 (fun w' => w'.cell? ⟨w3.heap.size, 0, none⟩ = some (.int .i64 v) ∧ w'.cell? ⟨w3.heap.size, 1, none⟩ = some (.int .u32 a) ∧ w'.cell? ⟨w3.heap.size, 2, none⟩ = some (.int .u32 b) ∧ w'.cell? ⟨w3.heap.size, 3, none⟩ = some (.int .u32 c) ∧ w'.cell? ⟨w3.heap.size, 4, none⟩ = some (.int .u32 d) ∧ w'.cell? ⟨w3.heap.size, 5, none⟩ = some (.int .u32 x) ∧ w'.cell? ⟨w3.heap.size, 6, none⟩ = some (.int .u32 y) ∧ w'.cell? ⟨w3.heap.size + 1, 0, none⟩ = some (.slice (some ad) n cc) ∧ w'.cell? ⟨w3.heap.size + 1, 1, none⟩ = some (.int .i64 44) ∧ w'.cell? ⟨w3.heap.size + 1, 2, none⟩ = some (.int .i64 0) ∧ w'.cell? ⟨w3.heap.size + 1, 3, none⟩ = some (.int .i64 0) ∧ Hid (Bx w' w3.heap.size [.int .i64 v, .int .u32 a, .int .u32 b, .int .u32 c, .int .u32 d, .int .u32 x, .int .u32 y]) ∧ Hid (Rd w' (some ad) n (xs.map (Value.int .u8))) ∧ Hid (Below w.heap.size w w'))
    (first
      | exact ⟨(cells7 b7.out).1, (cells7 b7.out).2.1, (cells7 b7.out).2.2.1, (cells7 b7.out).2.2.2.1, (cells7 b7.out).2.2.2.2.1, (cells7 b7.out).2.2.2.2.2.1, (cells7 b7.out).2.2.2.2.2.2, b8.out.cells4.1, b8.out.cells4.2.1, b8.out.cells4.2.2.1, b8.out.cells4.2.2.2, by first | exact b7 | exact hide (Bx.drew b7.out), by first | exact rr | exact hide (Rd.drew rr.out), by first | exact hb | exact hide (bl_drew hb.out)⟩
      | (go_split_ands; refine ⟨?_, ?_, ?_, ?_, ?_, ?_, ?_, ?_, ?_, ?_, ?_, ?_, ?_, ?_⟩ <;> first | exact cellE h1 (by assumption) | exact hidBx (by assumption) h1 | exact hide (Rd.below (Hid.out (by assumption)) h1) | exact hide (bel_next (Hid.out (by assumption)) h1)))
    (first
      | (go_at_call 8; go_split_ands; refine (E.out _ (HT.out.below (Hid.out (by assumption)))).mono ?_; rintro e w6 ⟨A5, c5, rfl, o5, h1⟩)
      | (go_at_call 12; go_split_ands; refine (r1_.Same A5 (some ad) 44 c5 44 cc (encH ⟨v, a, b, c, d, x, y⟩) _ (by decide) (by exact o5.rd) (by exact r44 (Hid.out (by assumption)))).mono ?_; rintro e w8 ⟨rfl, h1⟩)
      | (go_at_call 11; go_split_ands; refine (K.out _ (HT.out.below (Hid.out (by assumption)))).mono ?_; rintro e w9 ⟨rfl, h1⟩))
  clear hb rr b7 b8 E K D1
  go_split_ands
  rename Hid (Below _ _ _) => hb
  rename Hid (Rd _ _ _ _) => rr
  rename Hid (Bx _ _ _) => b7
  rename World => w10
  have hoE := hide (ow_nil_ w10 5)
  have r1b := hide (rr.out.alloc (.cells #[] 5))
  have hbE := hide (bl_alloc (Below.refl w10.heap.size w10) (.cells #[] 5))
  have O1 := hide (oneCells .u8 xs)
  have m1 := hide (show 0 + n ≤ maxLen by simp [maxLen]; omega)
  have m2 := hide (show (0 + n) * 1 ≤ 140737488355328 by omega)
  go_upto_region 9 with (at_builtin; refine apA elU8_ hoE.out hbE.out (Nat.le_refl _) r1b.out (.tmp 61) (.tmp 62) rfl rfl rfl rfl (fun h => by cases h) O1.out m1.out m2.out ?_; intro A9 c9 w11 ho9 h1 _; rw [Nat.zero_add] at ho9 ⊢; rw [List.nil_append] at ho9; replace ho9 := hide ho9; replace h1 := hide h1)
  have hb10 := hide hb.out.size
  have b710 := hide b7.out.lt
  replace hb := hide (bel_next hb.out h1.out)
  replace b7 := hide (b7.out.below h1.out)
  clear h1 hoE r1b hbE m1 m2 rr
  have oc9 := ho9.out.cap
  have om9 := ho9.out.capMax
  have om9' : (c9 : Int) ≤ 9223372036854775807 := by simp [maxLen] at om9; omega
  have oc9' : (n : Int) ≤ c9 := by omega
  obtain ⟨g9, rfl, hg9, _⟩ := ho9.out.form (by omega)
  have hl9 : w11.cell? ⟨g9, k, none⟩ = some (.int .u8 xk) := by rw [ho9.out.cell k (by omega), List.getElem?_map, hxk.out]; rfl
  have hfr := ho9.out.frozen k
  have hset := ho9.out.set k (.int .u8 u)
  rw [← List.map_set] at hset
  replace hset := hide hset
  have hbs := hide (bl_set (o := k) hb.out (Nat.le_trans hb10.out hg9) (.int .u8 u))
  have b7s := hide (b7.out.set_ne (g' := g9) k (by have := b710.out; omega) (.int .u8 u))
  go_upto_region 11 with fail
  clear hl9 hfr hb b7
  generalize (w11.setCell ⟨g9, k, none⟩ (.int .u8 u)) = w12 at *
  have hb := hbs
  have b7 := b7s
  have ro := hide hset.out.rd
  clear hset ho9 hbs b7s
  go_wp2_with fail
  refine (cu_.New _ _ _ _).mono ?_
  rintro e w13 ⟨rfl, h1⟩
  replace hb := hide (bel_next hb.out h1)
  replace b7 := hide (b7.out.below h1)
  replace ro := hide (ro.out.below h1)
  clear h1
  go_wp2_with fail
  refine (D3.out _ _ _ (HT.out.below hb.out) ro.out (fun h => by cases h) (by omega) (by omega)).mono ?_
  rintro e w14 ⟨rfl, h1⟩
  replace hb := hide (bel_next hb.out h1)
  replace b7 := hide (b7.out.below h1)
  replace ro := hide (ro.out.below h1)
  clear h1
  clear ro
  have b11 := hide ((Bx.new w14 [.int .i64 v', .int .u32 a', .int .u32 b', .int .u32 c', .int .u32 d', .int .u32 x', .int .u32 y'] 24).alloc (.cells #[.slice (some ⟨g9, 0, none⟩) n c9, .int .i64 q2, .int .i64 e2, .int .i64 a2] 30))
  have b12 := hide (Bx.snd4 w14 (.cells #[.int .i64 v', .int .u32 a', .int .u32 b', .int .u32 c', .int .u32 d', .int .u32 x', .int .u32 y'] 24) (.slice (some ⟨g9, 0, none⟩) n c9) (.int .i64 q2) (.int .i64 e2) (.int .i64 a2) 30)
  replace hb := hide (bl_alloc (bl_alloc hb.out (.cells #[.int .i64 v', .int .u32 a', .int .u32 b', .int .u32 c', .int .u32 d', .int .u32 x', .int .u32 y'] 24)) (.cells #[.slice (some ⟨g9, 0, none⟩) n c9, .int .i64 q2, .int .i64 e2, .int .i64 a2] 30))
  replace b7 := hide ((b7.out.alloc (.cells #[.int .i64 v', .int .u32 a', .int .u32 b', .int .u32 c', .int .u32 d', .int .u32 x', .int .u32 y'] 24)).alloc (.cells #[.slice (some ⟨g9, 0, none⟩) n c9, .int .i64 q2, .int .i64 e2, .int .i64 a2] 30))
  go_upto_region 12 with fail
  generalize ((w14.alloc (.cells #[.int .i64 v', .int .u32 a', .int .u32 b', .int .u32 c', .int .u32 d', .int .u32 x', .int .u32 y'] 24)).alloc (.cells #[.slice (some ⟨g9, 0, none⟩) n c9, .int .i64 q2, .int .i64 e2, .int .i64 a2] 30)) = w15 at *
  have x7 := cells7 b7.out
  have x11 := cells7 b11.out
  have x12 := b12.out.cells4
  clear b7 b11 b12
  rcases hfin.out with rfl | ⟨z1, z2⟩ | ⟨z1, z2, z3⟩
  all_goals go_wp2
  all_goals
    go_ret
    exact ⟨retb (by first | rfl | (simp; done) | simp_all), hb.out⟩
end l13_
end Go.Proofs.YtakimiiggemfiaaDoor

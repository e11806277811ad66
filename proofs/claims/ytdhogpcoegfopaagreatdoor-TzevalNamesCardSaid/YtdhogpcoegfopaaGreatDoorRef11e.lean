/-
  CONTRACTS of zoneinforef11 (the reference of layer 11): Candidates: what its list holds. Conditions: a rule's offsets and days valid where it has daylight saving time; a time within 64 bits; a number of years from 0 to 1000.
-/
import Derived.Test.YtdhogpcoegfopaaGreatDoorRef11d
import Derived.Test.YtdhogpcoegfopaaGreatDoorBase2
namespace Go.Proofs.YtdhogpcoegfopaaGreatDoor
open Go.ChangeShapes Go.WideShapes Go.ChangeAt Go.RowKit
set_option linter.unusedVariables false
theorem Gw.ro {W w' : World} {A A' : Option Addr} (h : Gw W w' A A') {g : Nat} {vs : Array Value} {T : TypeId} (hb : Ro W g vs T) (hd : oB A ≠ some g) : Ro w' g vs T := (h.g.block g hb.lt (fun h' => hd h'.symm)).trans hb
theorem Ow.off {W : World} {b : Nat} {e : TypeId} {A : Option Addr} {n c : Nat} {xs : List Value} (h : Ow W b e A n c xs) {g : Nat} (hg : g < b ∨ W.heap.size ≤ g) : oB A ≠ some g := fun h' => by
  have := h.blk h'
  omega
/-- what the list of the changes looked at (V) holds: those after t, at most 400 years later, within 64 bits. -/
def Cnd (V : Int → Prop) (t : Int) (xs : List Int) : Prop :=
  (∀ u ∈ xs, t < u ∧ u ≤ 9223372036854775807 ∧ u ≤ t + 12622780800) ∧ ∀ c, V c → t < c → c ≤ 9223372036854775807 → c ≤ t + 12622780800 → c ∈ xs
theorem Cnd.start (t : Int) : Cnd (fun _ => False) t [] := ⟨fun u h => by simp at h, fun c h => h.elim⟩
theorem Cnd.sub {V V' : Int → Prop} {t : Int} {xs : List Int} (h : Cnd V t xs) (hv : ∀ c, V' c → V c) : Cnd V' t xs := ⟨h.1, fun c hc => h.2 c (hv c hc)⟩
theorem Cnd.skip {V : Int → Prop} {t x : Int} {xs : List Int} (h : Cnd V t xs) (hx : ¬ (t < x ∧ x ≤ 9223372036854775807 ∧ x ≤ t + 12622780800)) : Cnd (fun c => V c ∨ c = x) t xs := by
  refine ⟨h.1, fun c hc h1 h2 h3 => ?_⟩
  rcases hc with hc | rfl
  · exact h.2 c hc h1 h2 h3
  · exact absurd ⟨h1, h2, h3⟩ hx
theorem Cnd.push {V : Int → Prop} {t x : Int} {xs : List Int} (h : Cnd V t xs) (hx : t < x ∧ x ≤ 9223372036854775807 ∧ x ≤ t + 12622780800) : Cnd (fun c => V c ∨ c = x) t (xs ++ [x]) := by
  refine ⟨fun u hu => ?_, fun c hc h1 h2 h3 => ?_⟩
  · rcases List.mem_append.1 hu with hu | hu
    · exact h.1 u hu
    · simp at hu; subst hu; exact hx
  · rcases hc with hc | rfl
    · exact List.mem_append.2 (.inl (h.2 c hc h1 h2 h3))
    · exact List.mem_append.2 (.inr (by simp))
def vin2 (V : Int → Prop) (a b : Int) (i : Nat) (c : Int) : Prop := V c ∨ (1 ≤ i ∧ c = a) ∨ (2 ≤ i ∧ c = b)
theorem vin2_0 {V : Int → Prop} {a b c : Int} : vin2 V a b 0 c → V c := fun h => by rcases h with h | h | h <;> first | exact h | (have := h.1; omega)
theorem vin2_1 {V : Int → Prop} {a b c : Int} : vin2 V a b 1 c → vin2 V a b 0 c ∨ c = a := fun h => by
  rcases h with h | ⟨_, h⟩ | h
  · exact .inl (.inl h)
  · exact .inr h
  · have := h.1; omega
theorem vin2_2 {V : Int → Prop} {a b c : Int} : vin2 V a b 2 c → vin2 V a b 1 c ∨ c = b := fun h => by
  rcases h with h | ⟨_, h⟩ | ⟨_, h⟩
  · exact .inl (.inl h)
  · exact .inl (.inr (.inl ⟨Nat.le_refl _, h⟩))
  · exact .inr h
theorem map_snoc (xs : List Int) (x : Int) : xs.map (Value.int .i64) ++ [.int .i64 x] = (xs ++ [x]).map (Value.int .i64) := by simp
theorem elI64 : ElT Tryz.prog 31 2 (.int .i64 0) 8 := ⟨Tryz.underlying31, by kernel_rfl, rfl⟩
namespace r11_
set_option maxRecDepth 100000 in
set_option maxHeartbeats 16000000 in
theorem Cand_yes (std : ByteArray) (so : Int) (dst : ByteArray) (dof : Int) (st en : RD) (t k Y M8 D : Int) (w : World) (h0 : -9223372036854775808 ≤ t) (h1 : t < 9223372036854775808) (k0 : 0 ≤ k) (k1 : k ≤ 1000) (hs : rdOk st) (he : rdOk en) (so0 : offOk so) (do0 : offOk dof)
    (hd8 : IsDate (t / 86400) Y M8 D) (y0 : -500000000000 ≤ Y) (y1 : Y ≤ 500000000000) :
    Calls Tryz.prog 11 #[.agg (crule std so true dst dof st en), .int .i64 t, .int .i64 k] w fun e w' => ∃ A n c xs, e = .returned (.slice A n c) ∧ Ow w' w.heap.size 2 A n c (xs.map (Value.int .i64)) ∧ Below w.heap.size w w' ∧ Cnd (fun c => chs st so (Y - 2) (Y + k + 1) c ∨ chs en dof (Y - 2) (Y + k + 1) c) t xs ∧ n ≤ 3000 := by
  have C := hide (fun y w h0 h1 => Changes std so true dst dof st en y w hs he so0 do0 h0 h1)
  have S1 := hide (fun w => r5_.Split t w h0 h1)
  have O1 := hide (fun w => r5_.Of t Y M8 D w h0 h1 hd8)
  unfold vof vdt at O1
  have G := gr_rule std so true dst dof st en
  obtain ⟨cs, hcs⟩ : ∃ cs, crule std so true dst dof st en = cs := ⟨_, rfl⟩
  have e2 : cs[2]? = some (.bool true) := by rw [← hcs]; rfl
  rw [hcs] at C G ⊢
  have M := hide (Cmp)
  have Tm := hide (Time)
  have e1 : IntKind.i64.wrap (t / 86400 + 146097) = t / 86400 + 146097 := by rw [IntKind.wrap_i64]; omega
  have hl : cin (t + 12622780800) = #[.int .i64 (t / 86400 + 146097), .int .i64 (t % 86400)] := by
    unfold cin
    rw [show (t + 12622780800) / 86400 = t / 86400 + 146097 by omega, show (t + 12622780800) % 86400 = t % 86400 by omega]
  have ht : cin t = #[.int .i64 (t / 86400), .int .i64 (t % 86400)] := rfl
  replace hl := hide hl
  replace ht := hide ht
  clear hcs hs he so0 do0 hd8
  generalize t / 86400 = d at *
  generalize t % 86400 = s at *
  generalize s / 3600 = f1 at *
  generalize s % 3600 / 60 = f2 at *
  generalize s % 60 = f3 at *
  generalize (d + 4) % 7 = f4 at *
  have hR := hide (((Ro.new w cs 25).alloc (.cells #[.int .i64 d, .int .i64 s] 38)).alloc (.cells #[.int .i64 (d + 146097), .int .i64 s] 38))
  have hN := hide ((show Ro ((w.alloc (.cells cs 25)).alloc (.cells #[.int .i64 d, .int .i64 s] 38)) (w.heap.size + 1) #[.int .i64 d, .int .i64 s] 38 by have := Ro.new (w.alloc (.cells cs 25)) #[.int .i64 d, .int .i64 s] 38; simpa using this).alloc (.cells #[.int .i64 (d + 146097), .int .i64 s] 38))
  have hM := hide (show Ro (((w.alloc (.cells cs 25)).alloc (.cells #[.int .i64 d, .int .i64 s] 38)).alloc (.cells #[.int .i64 (d + 146097), .int .i64 s] 38)) (w.heap.size + 1 + 1) #[.int .i64 (d + 146097), .int .i64 s] 38 by have := Ro.new ((w.alloc (.cells cs 25)).alloc (.cells #[.int .i64 d, .int .i64 s] 38)) #[.int .i64 (d + 146097), .int .i64 s] 38; simpa using this)
  have hb := hide (bl_alloc (bl_alloc (bl_new w (.cells cs 25)) (.cells #[.int .i64 d, .int .i64 s] 38)) (.cells #[.int .i64 (d + 146097), .int .i64 s] 38))
  have fy : ∀ w, (Instr.field 54 (.agg #[.int .i64 Y, .int .i64 M8, .int .i64 D, .int .i64 f1, .int .i64 f2, .int .i64 f3, .int .i64 f4]) 0).run Tryz.prog w = .ok (.int .i64 Y) w := fun _ => rfl
  go_enter Tryz.func11, Tryz.ntmps11
  go_wp2_with fail
  refine (S1.out _).mono ?_
  rintro e w1 ⟨rfl, rfl⟩
  go_upto_region 5 with fail
  generalize ((w.alloc (.cells cs 25)).alloc (.cells #[.int .i64 d, .int .i64 s] 38)).alloc (.cells #[.int .i64 (d + 146097), .int .i64 s] 38) = u at *
  go_wp2_with fail
  refine (O1.out _).mono ?_
  rintro e w1 ⟨rfl, h1'⟩
  replace hR := hide (hR.out.below h1')
  replace hN := hide (hN.out.below h1')
  replace hM := hide (hM.out.below h1')
  replace hb := hide (bel_next hb.out h1')
  clear h1' S1 O1
  have w2 : IntKind.i64.wrap (Y + k) = Y + k := by rw [IntKind.wrap_i64]; omega
  have w3 : IntKind.i64.wrap (Y - 2) = Y - 2 := by rw [IntKind.wrap_i64]; omega
  go_wp2_with fail
  go_loopw [7, 13] (fun ov yv wr => ∃ (A : Option Addr) (n c : Nat) (xs : List Int) (y : Int), ov = .slice A n c ∧ yv = .int .i64 y ∧ Y - 2 ≤ y ∧ y ≤ Y + k + 1 ∧ (n : Int) ≤ 2 * (y - (Y - 2)) ∧ Cnd (fun c => chs st so (Y - 2) y c ∨ chs en dof (Y - 2) y c) t xs ∧ Ow wr (w.heap.size + 3) 2 A n c (xs.map (Value.int .i64)) ∧ Ro wr w.heap.size cs 25 ∧ Ro wr (w.heap.size + 1) #[.int .i64 d, .int .i64 s] 38 ∧ Ro wr (w.heap.size + 1 + 1) #[.int .i64 (d + 146097), .int .i64 s] 38 ∧ Below w.heap.size w wr) (fun _ yv _ => (Y + k + 2 - intOf yv).toNat)
  case atStart => exact ⟨none, 0, 0, [], Y - 2, rfl, rfl, by omega, by omega, by omega, (Cnd.start t).sub (fun c h => by rcases h with h | h <;> exact (chs_zero c).1 h), Ow.nil (by have := hM.out.lt; omega) _, hR.out, hN.out, hM.out, hb.out⟩
  case round =>
    clear hR hN hM hb
    obtain ⟨A, n, c, xs, y, rfl, rfl, z0, z1, z2, q, hO, hR, hN, hM, hb⟩ := hrel
    replace q := hide q
    replace hO := hide hO
    replace hR := hide hR
    replace hN := hide hN
    replace hM := hide hM
    replace hb := hide hb
    obtain ⟨x2, _⟩ := ro_cf hR.out 2 _ e2
    by_cases hy : y ≤ Y + k
    · have hyd : decide (y ≤ Y + k) = true := by simpa using hy
      have hY := hide hy
      have Cy := hide (fun w => C.out y w (by omega) (by omega))
      simp only [vin] at Cy
      obtain ⟨a, ha⟩ : ∃ a, chI st so y = a := ⟨_, rfl⟩
      obtain ⟨b', hb'⟩ : ∃ b, chI en dof y = b := ⟨_, rfl⟩
      rw [ha, hb'] at Cy
      replace ha := hide ha
      replace hb' := hide hb'
      obtain ⟨a1, a2, hac⟩ : ∃ x y, cin a = #[.int .i64 x, .int .i64 y] := ⟨_, _, rfl⟩
      obtain ⟨b1, b2, hbc⟩ : ∃ x y, cin b' = #[.int .i64 x, .int .i64 y] := ⟨_, _, rfl⟩
      rw [hac, hbc] at Cy
      replace hac := hide hac
      replace hbc := hide hbc
      go_wp2_with (refine load_row_g (by rfl) 25 _ rfl _ rfl _ _ _ hR.out Tryz.underlying25 rfl G.1 ?_)
      refine (Cy.out _).mono ?_
      rintro e w1 ⟨rfl, h1'⟩
      clear x2
      replace hR := hide (hR.out.below h1')
      replace hN := hide (hN.out.below h1')
      replace hM := hide (hM.out.below h1')
      replace hO := hide (hO.out.below h1')
      replace hb := hide (bel_next hb.out h1')
      clear h1'
      have l0 := hM.out.lt
      have offA := hide (hO.out.off (g := w1.heap.size) (.inr (Nat.le_refl _)))
      have offB := hide (hO.out.off (g := w1.heap.size + 1) (.inr (by omega)))
      have hA := hide ((Ro.new w1 #[.int .i64 a1, .int .i64 a2] 38).alloc (.cells #[.int .i64 b1, .int .i64 b2] 38))
      have hB := hide (show Ro ((w1.alloc (.cells #[.int .i64 a1, .int .i64 a2] 38)).alloc (.cells #[.int .i64 b1, .int .i64 b2] 38)) (w1.heap.size + 1) #[.int .i64 b1, .int .i64 b2] 38 by have := Ro.new (w1.alloc (.cells #[.int .i64 a1, .int .i64 a2] 38)) #[.int .i64 b1, .int .i64 b2] 38; simpa using this)
      replace hR := hide ((hR.out.alloc (.cells #[.int .i64 a1, .int .i64 a2] 38)).alloc (.cells #[.int .i64 b1, .int .i64 b2] 38))
      replace hN := hide ((hN.out.alloc (.cells #[.int .i64 a1, .int .i64 a2] 38)).alloc (.cells #[.int .i64 b1, .int .i64 b2] 38))
      replace hM := hide ((hM.out.alloc (.cells #[.int .i64 a1, .int .i64 a2] 38)).alloc (.cells #[.int .i64 b1, .int .i64 b2] 38))
      replace hO := hide ((hO.out.alloc (.cells #[.int .i64 a1, .int .i64 a2] 38)).alloc (.cells #[.int .i64 b1, .int .i64 b2] 38))
      replace hb := hide (bl_alloc (bl_alloc hb.out (.cells #[.int .i64 a1, .int .i64 a2] 38)) (.cells #[.int .i64 b1, .int .i64 b2] 38))
      go_upto_region 10 with fail
      generalize (w1.alloc (.cells #[.int .i64 a1, .int .i64 a2] 38)).alloc (.cells #[.int .i64 b1, .int .i64 b2] 38) = u2 at *
      generalize w1.heap.size = gA at *
      generalize gA + 1 = gB at *
      clear hyd hy
      obtain ⟨V, hV⟩ : ∃ V : Int → Prop, (fun c => chs st so (Y - 2) y c ∨ chs en dof (Y - 2) y c) = V := ⟨_, rfl⟩
      rw [hV] at q
      replace hV := hide hV
      go_wp2_with fail
      go_loopw [7, 16] (fun ov kv wr => ∃ (A : Option Addr) (n c : Nat) (xs : List Int) (i : Nat), ov = .slice A n c ∧ kv = .int .i64 i ∧ i ≤ 2 ∧ (n : Int) ≤ 2 * (y - (Y - 2)) + i ∧ Cnd (vin2 V a b' i) t xs ∧ Ow wr (w.heap.size + 3) 2 A n c (xs.map (Value.int .i64)) ∧ oB A ≠ some gA ∧ oB A ≠ some gB ∧ Ro wr w.heap.size cs 25 ∧ Ro wr (w.heap.size + 1) #[.int .i64 d, .int .i64 s] 38 ∧ Ro wr (w.heap.size + 1 + 1) #[.int .i64 (d + 146097), .int .i64 s] 38 ∧ Ro wr gA #[.int .i64 a1, .int .i64 a2] 38 ∧ Ro wr gB #[.int .i64 b1, .int .i64 b2] 38 ∧ Below w.heap.size w wr) (fun _ kv _ => (3 - intOf kv).toNat)
      case atStart => exact ⟨A, n, c, xs, 0, rfl, rfl, by omega, by omega, q.out.sub (fun c h => vin2_0 h), hO.out, offA.out, offB.out, hR.out, hN.out, hM.out, hA.out, hB.out, hb.out⟩
      case round =>
        clear hR hN hM hA hB hb hO q z2 offA offB
        obtain ⟨A, n, c, xs, i, rfl, rfl, i0, z2, q, hO, offA, offB, hR, hN, hM, hA, hB, hb⟩ := hrel
        replace q := hide q
        replace hO := hide hO
        replace offA := hide offA
        replace offB := hide offB
        replace hR := hide hR
        replace hN := hide hN
        replace hM := hide hM
        replace hA := hide hA
        replace hB := hide hB
        replace hb := hide hb
        by_cases h2 : i = 2
        · subst h2
          go_wp2_with fail
          go_roundw
          case rel =>
            exact ⟨_, _, _, _, y + 1, rfl, by go_num, by omega, by have := hY.out; omega, by omega, q.out.sub (fun c h => by
              rw [chs_succ z0, chs_succ z0, ha.out, hb'.out] at h
              rcases h with (h | h) | (h | h)
              · exact .inl (by rw [← hV.out]; exact .inl h)
              · exact .inr (.inl ⟨by omega, h⟩)
              · exact .inl (by rw [← hV.out]; exact .inr h)
              · exact .inr (.inr ⟨by omega, h⟩)), hO.out, hR.out, hN.out, hM.out, hb.out⟩
          case measure => have := hY.out; simp [intOf]; omega
        · have hsz := hM.out.lt
          rcases (show i = 0 ∨ i = 1 by omega) with rfl | rfl
          · obtain ⟨ya0, za0⟩ := ro_cf hA.out 0 (.int .i64 a1) rfl
            obtain ⟨ya1, za1⟩ := ro_cf hA.out 1 (.int .i64 a2) rfl
            obtain ⟨yb0, zb0⟩ := ro_cf hB.out 0 (.int .i64 b1) rfl
            obtain ⟨yb1, zb1⟩ := ro_cf hB.out 1 (.int .i64 b2) rfl
            have lA := hA.out.lt
            have lB := hB.out.lt
            go_upto_region 16 with fail
            clear ya0 za0 ya1 za1 yb0 zb0 yb1 zb1
            rename World => w3
            have hC := hide (Ro.new w3 #[.int .i64 a1, .int .i64 a2] 38)
            replace hR := hide (hR.out.alloc (.cells #[.int .i64 a1, .int .i64 a2] 38))
            replace hN := hide (hN.out.alloc (.cells #[.int .i64 a1, .int .i64 a2] 38))
            replace hM := hide (hM.out.alloc (.cells #[.int .i64 a1, .int .i64 a2] 38))
            replace hA := hide (hA.out.alloc (.cells #[.int .i64 a1, .int .i64 a2] 38))
            replace hB := hide (hB.out.alloc (.cells #[.int .i64 a1, .int .i64 a2] 38))
            replace hO := hide (hO.out.alloc (.cells #[.int .i64 a1, .int .i64 a2] 38))
            replace hb := hide (bl_alloc hb.out (.cells #[.int .i64 a1, .int .i64 a2] 38))
            generalize w3.alloc (.cells #[.int .i64 a1, .int .i64 a2] 38) = w4 at *
            generalize w3.heap.size = gC at *
            by_cases hin : -9223372036854775808 ≤ a ∧ a ≤ 9223372036854775807
            · obtain ⟨n1, n2⟩ := hin
              have Tx := hide (fun w => Tm.out a true a w (.inl ⟨rfl, rfl, n1, n2⟩))
              simp only [vin] at Tx
              rw [hac.out] at Tx
              obtain ⟨yc0, zc0⟩ := ro_cf hC.out 0 (.int .i64 a1) rfl
              obtain ⟨yc1, zc1⟩ := ro_cf hC.out 1 (.int .i64 a2) rfl
              go_wp2_with fail
              refine (Tx.out _).mono ?_
              rintro e w5 ⟨rfl, h1'⟩
              clear yc0 zc0 yc1 zc1 Tx
              replace hR := hide (hR.out.below h1')
              replace hN := hide (hN.out.below h1')
              replace hM := hide (hM.out.below h1')
              replace hA := hide (hA.out.below h1')
              replace hB := hide (hB.out.below h1')
              replace hC := hide (hC.out.below h1')
              replace hO := hide (hO.out.below h1')
              replace hb := hide (bel_next hb.out h1')
              clear h1'
              obtain ⟨v1, C1, i1, i2, _, _⟩ := M.out a t
              obtain ⟨v2, C2, j1, j2, _, _⟩ := M.out a (t + 12622780800)
              simp only [vin] at C1 C2
              rw [hac.out, ht.out] at C1
              rw [hac.out, hl.out] at C2
              replace C1 := hide C1
              replace C2 := hide C2
              by_cases c1 : t < a
              · by_cases c2 : a ≤ t + 12622780800
                · have d1 : decide (0 < v1) = true := by simp; exact i2.2 c1
                  have d2 : decide (v2 ≤ 0) = true := by simp; exact j1.2 c2
                  clear i1 i2 j1 j2
                  obtain ⟨yc0, zc0⟩ := ro_cf hC.out 0 (.int .i64 a1) rfl
                  obtain ⟨yc1, zc1⟩ := ro_cf hC.out 1 (.int .i64 a2) rfl
                  obtain ⟨yn0, zn0⟩ := ro_cf hN.out 0 (.int .i64 d) rfl
                  obtain ⟨yn1, zn1⟩ := ro_cf hN.out 1 (.int .i64 s) rfl
                  obtain ⟨ym0, zm0⟩ := ro_cf hM.out 0 (.int .i64 (d + 146097)) rfl
                  obtain ⟨ym1, zm1⟩ := ro_cf hM.out 1 (.int .i64 s) rfl
                  go_wp2_with fail
                  refine (C1.out _).mono ?_
                  rintro e w5 ⟨rfl, h1'⟩
                  clear yc0 zc0 yc1 zc1 yn0 zn0 yn1 zn1 ym0 zm0 ym1 zm1
                  replace hR := hide (hR.out.below h1')
                  replace hN := hide (hN.out.below h1')
                  replace hM := hide (hM.out.below h1')
                  replace hA := hide (hA.out.below h1')
                  replace hB := hide (hB.out.below h1')
                  replace hC := hide (hC.out.below h1')
                  replace hO := hide (hO.out.below h1')
                  replace hb := hide (bel_next hb.out h1')
                  clear h1'
                  obtain ⟨yc0, zc0⟩ := ro_cf hC.out 0 (.int .i64 a1) rfl
                  obtain ⟨yc1, zc1⟩ := ro_cf hC.out 1 (.int .i64 a2) rfl
                  obtain ⟨yn0, zn0⟩ := ro_cf hN.out 0 (.int .i64 d) rfl
                  obtain ⟨yn1, zn1⟩ := ro_cf hN.out 1 (.int .i64 s) rfl
                  obtain ⟨ym0, zm0⟩ := ro_cf hM.out 0 (.int .i64 (d + 146097)) rfl
                  obtain ⟨ym1, zm1⟩ := ro_cf hM.out 1 (.int .i64 s) rfl
                  go_wp2_with fail
                  refine (C2.out _).mono ?_
                  rintro e w5 ⟨rfl, h1'⟩
                  clear yc0 zc0 yc1 zc1 yn0 zn0 yn1 zn1 ym0 zm0 ym1 zm1
                  replace hR := hide (hR.out.below h1')
                  replace hN := hide (hN.out.below h1')
                  replace hM := hide (hM.out.below h1')
                  replace hA := hide (hA.out.below h1')
                  replace hB := hide (hB.out.below h1')
                  replace hC := hide (hC.out.below h1')
                  replace hO := hide (hO.out.below h1')
                  replace hb := hide (bel_next hb.out h1')
                  clear h1'
                  have hgo := hide hO
                  have szW := hA.out.lt
                  have szV := hB.out.lt
                  have o0 := hide (hO.out.off (g := w.heap.size) (.inl (by omega)))
                  have o1 := hide (hO.out.off (g := w.heap.size + 1) (.inl (by omega)))
                  have o2 := hide (hO.out.off (g := w.heap.size + 1 + 1) (.inl (by omega)))
                  clear hgo hC
                  go_wp2_with (at_builtin; refine ap1A elI64 hO.out hb.out (by omega) (.tmp 80) (.tmp 82) (.int .i64 a) rfl rfl rfl rfl rfl (by simp [maxLen]; omega) (by omega) ?_; intro A' c' w6 hO' hb6 hg6)
                  rw [map_snoc] at hO'
                  rename World => w7
                  go_roundw
                  case rel => exact ⟨A', _, c', xs ++ [a], 1, rfl, by go_num, by omega, by omega, (q.out.push (x := a) ⟨c1, n2, c2⟩).sub (fun c h => vin2_1 h), hO', by
                    rcases hg6.at_ with h | h
                    · rw [h]; exact offA.out
                    · rw [h]; intro e; injection e with e; simp at e; omega, by
                    rcases hg6.at_ with h | h
                    · rw [h]; exact offB.out
                    · rw [h]; intro e; injection e with e; simp at e; omega, hg6.ro (hR.out.alloc _) o0.out, hg6.ro (hN.out.alloc _) o1.out, hg6.ro (hM.out.alloc _) o2.out, hg6.ro (hA.out.alloc _) offA.out, hg6.ro (hB.out.alloc _) offB.out, hb6⟩
                  case measure => simp [intOf]
                · have d1 : decide (0 < v1) = true := by simp; exact i2.2 c1
                  have d2 : decide (v2 ≤ 0) = false := by simp only [decide_eq_false_iff_not]; exact fun h => c2 (j1.1 h)
                  clear i1 i2 j1 j2
                  obtain ⟨yc0, zc0⟩ := ro_cf hC.out 0 (.int .i64 a1) rfl
                  obtain ⟨yc1, zc1⟩ := ro_cf hC.out 1 (.int .i64 a2) rfl
                  obtain ⟨yn0, zn0⟩ := ro_cf hN.out 0 (.int .i64 d) rfl
                  obtain ⟨yn1, zn1⟩ := ro_cf hN.out 1 (.int .i64 s) rfl
                  obtain ⟨ym0, zm0⟩ := ro_cf hM.out 0 (.int .i64 (d + 146097)) rfl
                  obtain ⟨ym1, zm1⟩ := ro_cf hM.out 1 (.int .i64 s) rfl
                  go_wp2_with fail
                  refine (C1.out _).mono ?_
                  rintro e w5 ⟨rfl, h1'⟩
                  clear yc0 zc0 yc1 zc1 yn0 zn0 yn1 zn1 ym0 zm0 ym1 zm1
                  replace hR := hide (hR.out.below h1')
                  replace hN := hide (hN.out.below h1')
                  replace hM := hide (hM.out.below h1')
                  replace hA := hide (hA.out.below h1')
                  replace hB := hide (hB.out.below h1')
                  replace hC := hide (hC.out.below h1')
                  replace hO := hide (hO.out.below h1')
                  replace hb := hide (bel_next hb.out h1')
                  clear h1'
                  obtain ⟨yc0, zc0⟩ := ro_cf hC.out 0 (.int .i64 a1) rfl
                  obtain ⟨yc1, zc1⟩ := ro_cf hC.out 1 (.int .i64 a2) rfl
                  obtain ⟨yn0, zn0⟩ := ro_cf hN.out 0 (.int .i64 d) rfl
                  obtain ⟨yn1, zn1⟩ := ro_cf hN.out 1 (.int .i64 s) rfl
                  obtain ⟨ym0, zm0⟩ := ro_cf hM.out 0 (.int .i64 (d + 146097)) rfl
                  obtain ⟨ym1, zm1⟩ := ro_cf hM.out 1 (.int .i64 s) rfl
                  go_wp2_with fail
                  refine (C2.out _).mono ?_
                  rintro e w5 ⟨rfl, h1'⟩
                  clear yc0 zc0 yc1 zc1 yn0 zn0 yn1 zn1 ym0 zm0 ym1 zm1
                  replace hR := hide (hR.out.below h1')
                  replace hN := hide (hN.out.below h1')
                  replace hM := hide (hM.out.below h1')
                  replace hA := hide (hA.out.below h1')
                  replace hB := hide (hB.out.below h1')
                  replace hC := hide (hC.out.below h1')
                  replace hO := hide (hO.out.below h1')
                  replace hb := hide (bel_next hb.out h1')
                  clear h1'
                  go_wp2_with fail
                  go_roundw
                  case rel => exact ⟨_, _, _, _, 1, rfl, by go_num, by omega, by omega, (q.out.skip (x := a) (by omega)).sub (fun c h => vin2_1 h), hO.out, offA.out, offB.out, hR.out, hN.out, hM.out, hA.out, hB.out, hb.out⟩
                  case measure => simp [intOf]
              · have d1 : decide (0 < v1) = false := by simp only [decide_eq_false_iff_not]; exact fun h => c1 (i2.1 h)
                clear i1 i2 j1 j2
                obtain ⟨yc0, zc0⟩ := ro_cf hC.out 0 (.int .i64 a1) rfl
                obtain ⟨yc1, zc1⟩ := ro_cf hC.out 1 (.int .i64 a2) rfl
                obtain ⟨yn0, zn0⟩ := ro_cf hN.out 0 (.int .i64 d) rfl
                obtain ⟨yn1, zn1⟩ := ro_cf hN.out 1 (.int .i64 s) rfl
                obtain ⟨ym0, zm0⟩ := ro_cf hM.out 0 (.int .i64 (d + 146097)) rfl
                obtain ⟨ym1, zm1⟩ := ro_cf hM.out 1 (.int .i64 s) rfl
                go_wp2_with fail
                refine (C1.out _).mono ?_
                rintro e w5 ⟨rfl, h1'⟩
                clear yc0 zc0 yc1 zc1 yn0 zn0 yn1 zn1 ym0 zm0 ym1 zm1
                replace hR := hide (hR.out.below h1')
                replace hN := hide (hN.out.below h1')
                replace hM := hide (hM.out.below h1')
                replace hA := hide (hA.out.below h1')
                replace hB := hide (hB.out.below h1')
                replace hC := hide (hC.out.below h1')
                replace hO := hide (hO.out.below h1')
                replace hb := hide (bel_next hb.out h1')
                clear h1'
                go_wp2_with fail
                go_roundw
                case rel => exact ⟨_, _, _, _, 1, rfl, by go_num, by omega, by omega, (q.out.skip (x := a) (by omega)).sub (fun c h => vin2_1 h), hO.out, offA.out, offB.out, hR.out, hN.out, hM.out, hA.out, hB.out, hb.out⟩
                case measure => simp [intOf]
            · have hin' : a < -9223372036854775808 ∨ 9223372036854775807 < a := by omega
              clear hin
              have Tx := hide (fun w => Tm.out a false 0 w (.inr ⟨rfl, rfl, hin'⟩))
              simp only [vin] at Tx
              rw [hac.out] at Tx
              obtain ⟨yc0, zc0⟩ := ro_cf hC.out 0 (.int .i64 a1) rfl
              obtain ⟨yc1, zc1⟩ := ro_cf hC.out 1 (.int .i64 a2) rfl
              go_wp2_with fail
              refine (Tx.out _).mono ?_
              rintro e w5 ⟨rfl, h1'⟩
              clear yc0 zc0 yc1 zc1 Tx
              replace hR := hide (hR.out.below h1')
              replace hN := hide (hN.out.below h1')
              replace hM := hide (hM.out.below h1')
              replace hA := hide (hA.out.below h1')
              replace hB := hide (hB.out.below h1')
              replace hC := hide (hC.out.below h1')
              replace hO := hide (hO.out.below h1')
              replace hb := hide (bel_next hb.out h1')
              clear h1'
              go_wp2_with fail
              go_roundw
              case rel => exact ⟨_, _, _, _, 1, rfl, by go_num, by omega, by omega, (q.out.skip (x := a) (by omega)).sub (fun c h => vin2_1 h), hO.out, offA.out, offB.out, hR.out, hN.out, hM.out, hA.out, hB.out, hb.out⟩
              case measure => simp [intOf]
          · obtain ⟨ya0, za0⟩ := ro_cf hA.out 0 (.int .i64 a1) rfl
            obtain ⟨ya1, za1⟩ := ro_cf hA.out 1 (.int .i64 a2) rfl
            obtain ⟨yb0, zb0⟩ := ro_cf hB.out 0 (.int .i64 b1) rfl
            obtain ⟨yb1, zb1⟩ := ro_cf hB.out 1 (.int .i64 b2) rfl
            have lA := hA.out.lt
            have lB := hB.out.lt
            go_upto_region 16 with fail
            clear ya0 za0 ya1 za1 yb0 zb0 yb1 zb1
            rename World => w3
            have hC := hide (Ro.new w3 #[.int .i64 b1, .int .i64 b2] 38)
            replace hR := hide (hR.out.alloc (.cells #[.int .i64 b1, .int .i64 b2] 38))
            replace hN := hide (hN.out.alloc (.cells #[.int .i64 b1, .int .i64 b2] 38))
            replace hM := hide (hM.out.alloc (.cells #[.int .i64 b1, .int .i64 b2] 38))
            replace hA := hide (hA.out.alloc (.cells #[.int .i64 b1, .int .i64 b2] 38))
            replace hB := hide (hB.out.alloc (.cells #[.int .i64 b1, .int .i64 b2] 38))
            replace hO := hide (hO.out.alloc (.cells #[.int .i64 b1, .int .i64 b2] 38))
            replace hb := hide (bl_alloc hb.out (.cells #[.int .i64 b1, .int .i64 b2] 38))
            generalize w3.alloc (.cells #[.int .i64 b1, .int .i64 b2] 38) = w4 at *
            generalize w3.heap.size = gC at *
            by_cases hin : -9223372036854775808 ≤ b' ∧ b' ≤ 9223372036854775807
            · obtain ⟨n1, n2⟩ := hin
              have Tx := hide (fun w => Tm.out b' true b' w (.inl ⟨rfl, rfl, n1, n2⟩))
              simp only [vin] at Tx
              rw [hbc.out] at Tx
              obtain ⟨yc0, zc0⟩ := ro_cf hC.out 0 (.int .i64 b1) rfl
              obtain ⟨yc1, zc1⟩ := ro_cf hC.out 1 (.int .i64 b2) rfl
              go_wp2_with fail
              refine (Tx.out _).mono ?_
              rintro e w5 ⟨rfl, h1'⟩
              clear yc0 zc0 yc1 zc1 Tx
              replace hR := hide (hR.out.below h1')
              replace hN := hide (hN.out.below h1')
              replace hM := hide (hM.out.below h1')
              replace hA := hide (hA.out.below h1')
              replace hB := hide (hB.out.below h1')
              replace hC := hide (hC.out.below h1')
              replace hO := hide (hO.out.below h1')
              replace hb := hide (bel_next hb.out h1')
              clear h1'
              obtain ⟨v1, C1, i1, i2, _, _⟩ := M.out b' t
              obtain ⟨v2, C2, j1, j2, _, _⟩ := M.out b' (t + 12622780800)
              simp only [vin] at C1 C2
              rw [hbc.out, ht.out] at C1
              rw [hbc.out, hl.out] at C2
              replace C1 := hide C1
              replace C2 := hide C2
              by_cases c1 : t < b'
              · by_cases c2 : b' ≤ t + 12622780800
                · have d1 : decide (0 < v1) = true := by simp; exact i2.2 c1
                  have d2 : decide (v2 ≤ 0) = true := by simp; exact j1.2 c2
                  clear i1 i2 j1 j2
                  obtain ⟨yc0, zc0⟩ := ro_cf hC.out 0 (.int .i64 b1) rfl
                  obtain ⟨yc1, zc1⟩ := ro_cf hC.out 1 (.int .i64 b2) rfl
                  obtain ⟨yn0, zn0⟩ := ro_cf hN.out 0 (.int .i64 d) rfl
                  obtain ⟨yn1, zn1⟩ := ro_cf hN.out 1 (.int .i64 s) rfl
                  obtain ⟨ym0, zm0⟩ := ro_cf hM.out 0 (.int .i64 (d + 146097)) rfl
                  obtain ⟨ym1, zm1⟩ := ro_cf hM.out 1 (.int .i64 s) rfl
                  go_wp2_with fail
                  refine (C1.out _).mono ?_
                  rintro e w5 ⟨rfl, h1'⟩
                  clear yc0 zc0 yc1 zc1 yn0 zn0 yn1 zn1 ym0 zm0 ym1 zm1
                  replace hR := hide (hR.out.below h1')
                  replace hN := hide (hN.out.below h1')
                  replace hM := hide (hM.out.below h1')
                  replace hA := hide (hA.out.below h1')
                  replace hB := hide (hB.out.below h1')
                  replace hC := hide (hC.out.below h1')
                  replace hO := hide (hO.out.below h1')
                  replace hb := hide (bel_next hb.out h1')
                  clear h1'
                  obtain ⟨yc0, zc0⟩ := ro_cf hC.out 0 (.int .i64 b1) rfl
                  obtain ⟨yc1, zc1⟩ := ro_cf hC.out 1 (.int .i64 b2) rfl
                  obtain ⟨yn0, zn0⟩ := ro_cf hN.out 0 (.int .i64 d) rfl
                  obtain ⟨yn1, zn1⟩ := ro_cf hN.out 1 (.int .i64 s) rfl
                  obtain ⟨ym0, zm0⟩ := ro_cf hM.out 0 (.int .i64 (d + 146097)) rfl
                  obtain ⟨ym1, zm1⟩ := ro_cf hM.out 1 (.int .i64 s) rfl
                  go_wp2_with fail
                  refine (C2.out _).mono ?_
                  rintro e w5 ⟨rfl, h1'⟩
                  clear yc0 zc0 yc1 zc1 yn0 zn0 yn1 zn1 ym0 zm0 ym1 zm1
                  replace hR := hide (hR.out.below h1')
                  replace hN := hide (hN.out.below h1')
                  replace hM := hide (hM.out.below h1')
                  replace hA := hide (hA.out.below h1')
                  replace hB := hide (hB.out.below h1')
                  replace hC := hide (hC.out.below h1')
                  replace hO := hide (hO.out.below h1')
                  replace hb := hide (bel_next hb.out h1')
                  clear h1'
                  have hgo := hide hO
                  have szW := hA.out.lt
                  have szV := hB.out.lt
                  have o0 := hide (hO.out.off (g := w.heap.size) (.inl (by omega)))
                  have o1 := hide (hO.out.off (g := w.heap.size + 1) (.inl (by omega)))
                  have o2 := hide (hO.out.off (g := w.heap.size + 1 + 1) (.inl (by omega)))
                  clear hgo hC
                  go_wp2_with (at_builtin; refine ap1A elI64 hO.out hb.out (by omega) (.tmp 80) (.tmp 82) (.int .i64 b') rfl rfl rfl rfl rfl (by simp [maxLen]; omega) (by omega) ?_; intro A' c' w6 hO' hb6 hg6)
                  rw [map_snoc] at hO'
                  rename World => w7
                  go_roundw
                  case rel => exact ⟨A', _, c', xs ++ [b'], 2, rfl, by go_num, by omega, by omega, (q.out.push (x := b') ⟨c1, n2, c2⟩).sub (fun c h => vin2_2 h), hO', by
                    rcases hg6.at_ with h | h
                    · rw [h]; exact offA.out
                    · rw [h]; intro e; injection e with e; simp at e; omega, by
                    rcases hg6.at_ with h | h
                    · rw [h]; exact offB.out
                    · rw [h]; intro e; injection e with e; simp at e; omega, hg6.ro (hR.out.alloc _) o0.out, hg6.ro (hN.out.alloc _) o1.out, hg6.ro (hM.out.alloc _) o2.out, hg6.ro (hA.out.alloc _) offA.out, hg6.ro (hB.out.alloc _) offB.out, hb6⟩
                  case measure => simp [intOf]
                · have d1 : decide (0 < v1) = true := by simp; exact i2.2 c1
                  have d2 : decide (v2 ≤ 0) = false := by simp only [decide_eq_false_iff_not]; exact fun h => c2 (j1.1 h)
                  clear i1 i2 j1 j2
                  obtain ⟨yc0, zc0⟩ := ro_cf hC.out 0 (.int .i64 b1) rfl
                  obtain ⟨yc1, zc1⟩ := ro_cf hC.out 1 (.int .i64 b2) rfl
                  obtain ⟨yn0, zn0⟩ := ro_cf hN.out 0 (.int .i64 d) rfl
                  obtain ⟨yn1, zn1⟩ := ro_cf hN.out 1 (.int .i64 s) rfl
                  obtain ⟨ym0, zm0⟩ := ro_cf hM.out 0 (.int .i64 (d + 146097)) rfl
                  obtain ⟨ym1, zm1⟩ := ro_cf hM.out 1 (.int .i64 s) rfl
                  go_wp2_with fail
                  refine (C1.out _).mono ?_
                  rintro e w5 ⟨rfl, h1'⟩
                  clear yc0 zc0 yc1 zc1 yn0 zn0 yn1 zn1 ym0 zm0 ym1 zm1
                  replace hR := hide (hR.out.below h1')
                  replace hN := hide (hN.out.below h1')
                  replace hM := hide (hM.out.below h1')
                  replace hA := hide (hA.out.below h1')
                  replace hB := hide (hB.out.below h1')
                  replace hC := hide (hC.out.below h1')
                  replace hO := hide (hO.out.below h1')
                  replace hb := hide (bel_next hb.out h1')
                  clear h1'
                  obtain ⟨yc0, zc0⟩ := ro_cf hC.out 0 (.int .i64 b1) rfl
                  obtain ⟨yc1, zc1⟩ := ro_cf hC.out 1 (.int .i64 b2) rfl
                  obtain ⟨yn0, zn0⟩ := ro_cf hN.out 0 (.int .i64 d) rfl
                  obtain ⟨yn1, zn1⟩ := ro_cf hN.out 1 (.int .i64 s) rfl
                  obtain ⟨ym0, zm0⟩ := ro_cf hM.out 0 (.int .i64 (d + 146097)) rfl
                  obtain ⟨ym1, zm1⟩ := ro_cf hM.out 1 (.int .i64 s) rfl
                  go_wp2_with fail
                  refine (C2.out _).mono ?_
                  rintro e w5 ⟨rfl, h1'⟩
                  clear yc0 zc0 yc1 zc1 yn0 zn0 yn1 zn1 ym0 zm0 ym1 zm1
                  replace hR := hide (hR.out.below h1')
                  replace hN := hide (hN.out.below h1')
                  replace hM := hide (hM.out.below h1')
                  replace hA := hide (hA.out.below h1')
                  replace hB := hide (hB.out.below h1')
                  replace hC := hide (hC.out.below h1')
                  replace hO := hide (hO.out.below h1')
                  replace hb := hide (bel_next hb.out h1')
                  clear h1'
                  go_wp2_with fail
                  go_roundw
                  case rel => exact ⟨_, _, _, _, 2, rfl, by go_num, by omega, by omega, (q.out.skip (x := b') (by omega)).sub (fun c h => vin2_2 h), hO.out, offA.out, offB.out, hR.out, hN.out, hM.out, hA.out, hB.out, hb.out⟩
                  case measure => simp [intOf]
              · have d1 : decide (0 < v1) = false := by simp only [decide_eq_false_iff_not]; exact fun h => c1 (i2.1 h)
                clear i1 i2 j1 j2
                obtain ⟨yc0, zc0⟩ := ro_cf hC.out 0 (.int .i64 b1) rfl
                obtain ⟨yc1, zc1⟩ := ro_cf hC.out 1 (.int .i64 b2) rfl
                obtain ⟨yn0, zn0⟩ := ro_cf hN.out 0 (.int .i64 d) rfl
                obtain ⟨yn1, zn1⟩ := ro_cf hN.out 1 (.int .i64 s) rfl
                obtain ⟨ym0, zm0⟩ := ro_cf hM.out 0 (.int .i64 (d + 146097)) rfl
                obtain ⟨ym1, zm1⟩ := ro_cf hM.out 1 (.int .i64 s) rfl
                go_wp2_with fail
                refine (C1.out _).mono ?_
                rintro e w5 ⟨rfl, h1'⟩
                clear yc0 zc0 yc1 zc1 yn0 zn0 yn1 zn1 ym0 zm0 ym1 zm1
                replace hR := hide (hR.out.below h1')
                replace hN := hide (hN.out.below h1')
                replace hM := hide (hM.out.below h1')
                replace hA := hide (hA.out.below h1')
                replace hB := hide (hB.out.below h1')
                replace hC := hide (hC.out.below h1')
                replace hO := hide (hO.out.below h1')
                replace hb := hide (bel_next hb.out h1')
                clear h1'
                go_wp2_with fail
                go_roundw
                case rel => exact ⟨_, _, _, _, 2, rfl, by go_num, by omega, by omega, (q.out.skip (x := b') (by omega)).sub (fun c h => vin2_2 h), hO.out, offA.out, offB.out, hR.out, hN.out, hM.out, hA.out, hB.out, hb.out⟩
                case measure => simp [intOf]
            · have hin' : b' < -9223372036854775808 ∨ 9223372036854775807 < b' := by omega
              clear hin
              have Tx := hide (fun w => Tm.out b' false 0 w (.inr ⟨rfl, rfl, hin'⟩))
              simp only [vin] at Tx
              rw [hbc.out] at Tx
              obtain ⟨yc0, zc0⟩ := ro_cf hC.out 0 (.int .i64 b1) rfl
              obtain ⟨yc1, zc1⟩ := ro_cf hC.out 1 (.int .i64 b2) rfl
              go_wp2_with fail
              refine (Tx.out _).mono ?_
              rintro e w5 ⟨rfl, h1'⟩
              clear yc0 zc0 yc1 zc1 Tx
              replace hR := hide (hR.out.below h1')
              replace hN := hide (hN.out.below h1')
              replace hM := hide (hM.out.below h1')
              replace hA := hide (hA.out.below h1')
              replace hB := hide (hB.out.below h1')
              replace hC := hide (hC.out.below h1')
              replace hO := hide (hO.out.below h1')
              replace hb := hide (bel_next hb.out h1')
              clear h1'
              go_wp2_with fail
              go_roundw
              case rel => exact ⟨_, _, _, _, 2, rfl, by go_num, by omega, by omega, (q.out.skip (x := b') (by omega)).sub (fun c h => vin2_2 h), hO.out, offA.out, offB.out, hR.out, hN.out, hM.out, hA.out, hB.out, hb.out⟩
              case measure => simp [intOf]
    · have hyd : decide (y ≤ Y + k) = false := by simp; omega
      have e : y = Y + k + 1 := by omega
      subst e
      replace q := hide q
      clear hy x2
      go_wp2_with fail
      go_ret
      exact ⟨A, n, c, xs, rfl, hO.out.mono (by omega), hb.out, q.out.out, by omega⟩
set_option maxRecDepth 100000 in
set_option maxHeartbeats 4000000 in
theorem Cand_no (std : ByteArray) (so : Int) (dst : ByteArray) (dof : Int) (st en : RD) (t k Y M8 D : Int) (w : World) (h0 : -9223372036854775808 ≤ t) (h1 : t < 9223372036854775808) (k0 : 0 ≤ k) (k1 : k ≤ 1000) (hd8 : IsDate (t / 86400) Y M8 D) (y0 : -500000000000 ≤ Y) (y1 : Y ≤ 500000000000) :
    Calls Tryz.prog 11 #[.agg (crule std so false dst dof st en), .int .i64 t, .int .i64 k] w fun e w' => e = .returned (.slice none 0 0) ∧ Below w.heap.size w w' := by
  have S1 := hide (fun w => r5_.Split t w h0 h1)
  have O1 := hide (fun w => r5_.Of t Y M8 D w h0 h1 hd8)
  unfold vof vdt at O1
  have G := gr_rule std so false dst dof st en
  obtain ⟨cs, hcs⟩ : ∃ cs, crule std so false dst dof st en = cs := ⟨_, rfl⟩
  have e2 : cs[2]? = some (.bool false) := by rw [← hcs]; rfl
  rw [hcs] at G ⊢
  have e1 : IntKind.i64.wrap (t / 86400 + 146097) = t / 86400 + 146097 := by rw [IntKind.wrap_i64]; omega
  have hl : cin (t + 12622780800) = #[.int .i64 (t / 86400 + 146097), .int .i64 (t % 86400)] := by
    unfold cin
    rw [show (t + 12622780800) / 86400 = t / 86400 + 146097 by omega, show (t + 12622780800) % 86400 = t % 86400 by omega]
  have ht : cin t = #[.int .i64 (t / 86400), .int .i64 (t % 86400)] := rfl
  clear hl ht
  clear hcs hd8
  generalize t / 86400 = d at *
  generalize t % 86400 = s at *
  generalize s / 3600 = f1 at *
  generalize s % 3600 / 60 = f2 at *
  generalize s % 60 = f3 at *
  generalize (d + 4) % 7 = f4 at *
  have hR := hide (((Ro.new w cs 25).alloc (.cells #[.int .i64 d, .int .i64 s] 38)).alloc (.cells #[.int .i64 (d + 146097), .int .i64 s] 38))
  have hN := hide ((show Ro ((w.alloc (.cells cs 25)).alloc (.cells #[.int .i64 d, .int .i64 s] 38)) (w.heap.size + 1) #[.int .i64 d, .int .i64 s] 38 by have := Ro.new (w.alloc (.cells cs 25)) #[.int .i64 d, .int .i64 s] 38; simpa using this).alloc (.cells #[.int .i64 (d + 146097), .int .i64 s] 38))
  have hM := hide (show Ro (((w.alloc (.cells cs 25)).alloc (.cells #[.int .i64 d, .int .i64 s] 38)).alloc (.cells #[.int .i64 (d + 146097), .int .i64 s] 38)) (w.heap.size + 1 + 1) #[.int .i64 (d + 146097), .int .i64 s] 38 by have := Ro.new ((w.alloc (.cells cs 25)).alloc (.cells #[.int .i64 d, .int .i64 s] 38)) #[.int .i64 (d + 146097), .int .i64 s] 38; simpa using this)
  have hb := hide (bl_alloc (bl_alloc (bl_new w (.cells cs 25)) (.cells #[.int .i64 d, .int .i64 s] 38)) (.cells #[.int .i64 (d + 146097), .int .i64 s] 38))
  have fy : ∀ w, (Instr.field 54 (.agg #[.int .i64 Y, .int .i64 M8, .int .i64 D, .int .i64 f1, .int .i64 f2, .int .i64 f3, .int .i64 f4]) 0).run Tryz.prog w = .ok (.int .i64 Y) w := fun _ => rfl
  go_enter Tryz.func11, Tryz.ntmps11
  go_wp2_with fail
  refine (S1.out _).mono ?_
  rintro e w1 ⟨rfl, rfl⟩
  go_upto_region 5 with fail
  generalize ((w.alloc (.cells cs 25)).alloc (.cells #[.int .i64 d, .int .i64 s] 38)).alloc (.cells #[.int .i64 (d + 146097), .int .i64 s] 38) = u at *
  go_wp2_with fail
  refine (O1.out _).mono ?_
  rintro e w1 ⟨rfl, h1'⟩
  replace hR := hide (hR.out.below h1')
  replace hN := hide (hN.out.below h1')
  replace hM := hide (hM.out.below h1')
  replace hb := hide (bel_next hb.out h1')
  clear h1' S1 O1
  have w2 : IntKind.i64.wrap (Y + k) = Y + k := by rw [IntKind.wrap_i64]; omega
  have w3 : IntKind.i64.wrap (Y - 2) = Y - 2 := by rw [IntKind.wrap_i64]; omega
  go_wp2_with fail
  have hk := decide_eq_true (show Y - 2 ≤ Y + k by omega)
  have hz := hide (hb.out)
  go_loopw [7, 13] (fun ov yv wr => ov = .slice none 0 0 ∧ yv = .int .i64 (Y - 2) ∧ wr = w1) (fun _ yv _ => (Y + k + 2 - intOf yv).toNat)
  case atStart => exact ⟨rfl, rfl, rfl⟩
  case round =>
    obtain ⟨rfl, rfl, rfl⟩ := hrel
    obtain ⟨x2, _⟩ := ro_cf hR.out 2 _ e2
    go_wp2_with fail
    go_ret
    exact ⟨rfl, hb.out⟩
/-- what Candidates gives. -/
theorem Candidates (std : ByteArray) (so : Int) (hd : Bool) (dst : ByteArray) (dof : Int) (st en : RD) (t k : Int) (w : World) (h0 : -9223372036854775808 ≤ t) (h1 : t < 9223372036854775808) (k0 : 0 ≤ k) (k1 : k ≤ 1000) (hv : RvOk hd so dof st en) :
    Calls Tryz.prog 11 #[.agg (crule std so hd dst dof st en), .int .i64 t, .int .i64 k] w fun e w' => ∃ A n c xs Y, e = .returned (.slice A n c) ∧ Ow w' w.heap.size 2 A n c (xs.map (Value.int .i64)) ∧ Below w.heap.size w w' ∧ n ≤ 3000 ∧ (ystart Y * 86400 ≤ t ∧ t < ystart (Y + 1) * 86400) ∧ (hd = false → xs = []) ∧ (hd = true → Cnd (fun c => chs st so (Y - 2) (Y + k + 1) c ∨ chs en dof (Y - 2) (Y + k + 1) c) t xs) := by
  obtain ⟨Y, M, D, hd8, t0, t1, y0, y1⟩ := year64 t h0 h1
  cases hd
  · refine (Cand_no std so dst dof st en t k Y M D w h0 h1 k0 k1 hd8 y0 y1).mono ?_
    rintro e w' ⟨rfl, hb⟩
    exact ⟨none, 0, 0, [], Y, rfl, Ow.nil hb.size _, hb, by omega, ⟨t0, t1⟩, fun _ => rfl, (fun h => by cases h)⟩
  · obtain ⟨v1, v2, v3, v4⟩ := hv rfl
    refine (Cand_yes std so dst dof st en t k Y M D w h0 h1 k0 k1 v1 v2 v3 v4 hd8 y0 y1).mono ?_
    rintro e w' ⟨A, n, c, xs, rfl, hO, hb, q, hn⟩
    exact ⟨A, n, c, xs, Y, rfl, hO, hb, hn, ⟨t0, t1⟩, (fun h => by cases h), fun _ => q⟩
end r11_
end Go.Proofs.YtdhogpcoegfopaaGreatDoor

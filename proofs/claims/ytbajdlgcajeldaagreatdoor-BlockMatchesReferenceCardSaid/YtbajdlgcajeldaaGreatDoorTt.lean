/-
  CONTRACTS OF PACKAGE ttinfo. Conditions: at most 100,000 bytes or types; Decode: the listed variable of package errors holds what it is laid as.
-/
import Derived.Test.YtbajdlgcajeldaaGreatDoorBlM
import Derived.Test.YtbajdlgcajeldaaGreatDoorOwk
import Derived.Test.YtbajdlgcajeldaaGreatDoorOwM
import Derived.Test.YtbajdlgcajeldaaGreatDoorBe
import Derived.Test.YtbajdlgcajeldaaGreatDoorErA
import Derived.Test.YtbajdlgcajeldaaGreatDoorRef16
import Derived.Deep.RegionHeld3
import Derived.Deep.DeepCutAuto
import Derived.Deep.RegionLaw
namespace Go.Proofs.YtbajdlgcajeldaaGreatDoor
open Go.ChangeShapes Go.WideShapes Go.ChangeAt Go.RowKit
set_option linter.unusedVariables false
set_option maxRecDepth 100000
/-- a type stored, cell by cell. -/
theorem tcs_set (t : TT) : ∀ (ts : List TT) (i : Nat), (((tcs ts).set (i * 3) (.int .i32 t.1)).set (i * 3 + 1) (.bool t.2.1)).set (i * 3 + 2) (.int .u8 t.2.2) = tcs (ts.set i t)
  | [], i => by simp [tcs]
  | a :: l, 0 => by simp [tcs, tc]
  | a :: l, i + 1 => by
    have ih := tcs_set t l i
    unfold tcs at ih ⊢
    rw [List.set_cons_succ, List.flatMap_cons, List.flatMap_cons, ← ih, show (i + 1) * 3 = i * 3 + 3 by omega]
    rfl
/-- the row of types while it is filled. -/
def rowTT (l : List Int) (m q : Nat) : List TT := dTT l q ++ List.replicate (m - q) (0, false, 0)
theorem rowTT_len (l : List Int) {m q : Nat} (h : q ≤ m) : (rowTT l m q).length = m := by unfold rowTT; rw [List.length_append, dTT_len, List.length_replicate]; omega
theorem rowTT_at (l : List Int) {m q : Nat} (h : q < m) : (rowTT l m q)[q]? = some (0, false, 0) := by
  unfold rowTT
  rw [List.getElem?_append_right (by rw [dTT_len]; omega), dTT_len, Nat.sub_self, List.getElem?_replicate, if_pos (by omega)]
theorem rowTT_set (l : List Int) {m q : Nat} (h : q < m) : (rowTT l m q).set q (d6 l q) = rowTT l m (q + 1) := by
  unfold rowTT
  obtain ⟨d, hd⟩ : ∃ d, m - q = d + 1 := ⟨m - q - 1, by omega⟩
  rw [hd, show m - (q + 1) = d by omega, List.set_append_right _ _ (by rw [dTT_len]; omega), dTT_len, Nat.sub_self, List.replicate_succ, List.set_cons_zero, dTT_step, List.append_assoc]
  rfl
/-- a record is the type that its own six bytes stand for. -/
theorem d6_fld (l : List Int) (i : Nat) : d6 (fld l (i * 6) 6) 0 = d6 l i := by
  have h0 : fld (fld l (i * 6) 6) (0 * 6) 4 = fld l (i * 6) 4 := by
    unfold fld
    rw [Nat.zero_mul, List.drop_zero, List.take_take]
    rfl
  have h : ∀ j, j < 6 → (fld l (i * 6) 6)[j]? = l[i * 6 + j]? := fun j hj => by
    unfold fld
    rw [List.getElem?_take, if_pos hj, List.getElem?_drop]
  unfold d6
  rw [h0, Nat.zero_mul, Nat.zero_add, Nat.zero_add, h 4 (by omega), h 5 (by omega)]
theorem fl_fld (l : List Int) (i : Nat) : (fld l (i * 6) 6)[4]?.getD 0 = l[i * 6 + 4]?.getD 0 := by
  unfold fld
  rw [List.getElem?_take, if_pos (by omega), List.getElem?_drop]
namespace tt_
theorem decodeFlag_yes (x : Int) (w : World) (h0 : 0 ≤ x) (h1 : x ≤ 1) : Calls Tryz.prog 79 #[.int .u8 x] w fun e w' => e = .returned (.tuple #[.bool (decide (x = 1)), .nilIface]) ∧ w = w' := by
  go_enter Tryz.func79, Tryz.ntmps79
  go_wp2
  go_ret2
  exact ⟨rfl, rfl⟩
theorem decodeFlag_no (x : Int) (w : World) (h0 : 0 ≤ x) (h1 : 1 < x) : Calls Tryz.prog 79 #[.int .u8 x] w fun e w' => e = .returned (.tuple #[.bool false, .iface 107 (.agg #[.int .u8 x])]) ∧ w = w' := by
  go_enter Tryz.func79, Tryz.ntmps79
  go_wp2
  go_ret2
  exact ⟨rfl, rfl⟩
theorem decodeRecord_yes (A : Option Addr) (n c : Nat) (l : List Int) (w : World) (hn : n = 6) (hr : Rd w A 6 (l.map (Value.int .u8))) (hl : Bytes l) (hf : l[4]?.getD 0 ≤ 1) :
    Calls Tryz.prog 73 #[.slice A n c] w fun e w' => e = .returned (.tuple #[.agg #[.int .i32 (d6 l 0).1, .bool (d6 l 0).2.1, .int .u8 (d6 l 0).2.2], .nilIface]) ∧ Below w.heap.size w w' := by
  subst hn
  have hlen : l.length = 6 := by have := hr.len; simpa using this
  have I := hide (fun (w : World) (h1 : Rd w A 6 (l.map (Value.int .u8))) => be_.Int_yes A 6 c l 0 4 w (by omega) (by omega) (by omega) (by omega) h1 hl)
  have hok := d6_ok l hl 0 (by omega)
  have hd : d6 l 0 = (sgn 4 (uval (fld l 0 4)), decide (l[4]?.getD 0 = 1), l[5]?.getD 0) := by unfold d6; rw [Nat.zero_mul, Nat.zero_add, Nat.zero_add]
  have F := hide (fun w => decodeFlag_yes (l[4]?.getD 0) w (hl 4).1 hf)
  obtain ⟨ad, rfl, c4⟩ := (hr.below (bl_new w (.cells #[.int .i32 0, .bool false, .int .u8 0] 49))).int (i := 4) (by omega)
  obtain ⟨_, e1, c5⟩ := (hr.below (bl_new w (.cells #[.int .i32 0, .bool false, .int .u8 0] 49))).int (i := 5) (by omega)
  cases e1
  simp [go_sem] at c4 c5
  have hr2 := hide (hr.below (bl_new w (.cells #[.int .i32 0, .bool false, .int .u8 0] 49)))
  rw [hd] at hok ⊢
  generalize hx : sgn 4 (uval (fld l 0 4)) = x at *
  have hv := hide (show sgn ((4 : Nat) : Int) (uval (fld l ((0 : Int)).toNat ((4 : Int)).toNat)) = x from hx)
  generalize l[4]?.getD 0 = f at *
  generalize l[5]?.getD 0 = y at *
  generalize decide (f = 1) = d at *
  obtain ⟨z0, z1, z2, z3⟩ := hok
  dsimp only at z0 z1 z2 z3 ⊢
  have hcv : ∀ w : World, (convert 2 21 (.int .i64 x)).run Tryz.prog w = .ok (.int .i32 x) w := fun w => by simp [go_sem]; rw [IntKind.wrap_i32]; omega
  clear hx hd hr hl hlen hf
  go_enter Tryz.func73, Tryz.ntmps73
  go_wp2_with fail
  refine (I.out _ hr2.out).mono ?_
  rintro e w1 ⟨rfl, rfl⟩
  rw [show sgn 4 (uval (fld l (0 : Int).toNat (4 : Int).toNat)) = x from hv.out]
  go_wp2_with fail
  refine (F.out _).mono ?_
  rintro e w1 ⟨rfl, rfl⟩
  go_wp2
  exact bodyPost_ret (v := .tuple #[.agg #[.int .i32 x, .bool d, .int .u8 y], .nilIface]) (by simp [results, Tryz.results73, go_sem]) rfl ⟨rfl, bl_new _ _⟩
theorem decodeRecord_no (A : Option Addr) (n c : Nat) (l : List Int) (w : World) (hn : n = 6) (hr : Rd w A 6 (l.map (Value.int .u8))) (hl : Bytes l) (hf : (1 : Int) < l[4]?.getD 0) :
    Calls Tryz.prog 73 #[.slice A n c] w fun e w' => (∃ f, e = .returned (.tuple #[.agg #[.int .i32 0, .bool false, .int .u8 0], .iface 107 (.agg #[.int .u8 f])])) ∧ Below w.heap.size w w' := by
  subst hn
  have hlen : l.length = 6 := by have := hr.len; simpa using this
  have I := hide (fun (w : World) (h1 : Rd w A 6 (l.map (Value.int .u8))) => be_.Int_yes A 6 c l 0 4 w (by omega) (by omega) (by omega) (by omega) h1 hl)
  have F := hide (fun w => decodeFlag_no (l[4]?.getD 0) w (hl 4).1 hf)
  obtain ⟨ad, rfl, c4⟩ := (hr.below (bl_new w (.cells #[.int .i32 0, .bool false, .int .u8 0] 49))).int (i := 4) (by omega)
  simp [go_sem] at c4
  have hr2 := hide (hr.below (bl_new w (.cells #[.int .i32 0, .bool false, .int .u8 0] 49)))
  obtain ⟨x, hx⟩ : ∃ x, sgn ((4 : Nat) : Int) (uval (fld l ((0 : Int)).toNat ((4 : Int)).toNat)) = x := ⟨_, rfl⟩
  have hv := hide hx
  generalize l[4]?.getD 0 = f at *
  clear hx hr hl hlen hf
  go_enter Tryz.func73, Tryz.ntmps73
  go_wp2_with fail
  refine (I.out _ hr2.out).mono ?_
  rintro e w1 ⟨rfl, rfl⟩
  rw [show sgn 4 (uval (fld l (0 : Int).toNat (4 : Int).toNat)) = x from hv.out]
  go_wp2_with fail
  refine (F.out _).mono ?_
  rintro e w1 ⟨rfl, rfl⟩
  go_wp2
  exact bodyPost_ret (v := .tuple #[.agg #[.int .i32 0, .bool false, .int .u8 0], .iface 107 (.agg #[.int .u8 f])]) (by simp [results, Tryz.results73, go_sem]) rfl ⟨⟨_, rfl⟩, bl_new _ _⟩
set_option maxHeartbeats 4000000 in
theorem Decode (A : Option Addr) (n c m : Nat) (l : List Int) (w : World) (hT : Tt w) (hn : n ≤ 100000) (hm : n = m * 6) (hA : A = none → n = 0 ∧ c = 0) (hc : n ≤ c) (hcm : c ≤ 9223372036854775807) (hr : Rd w A n (l.map (Value.int .u8))) (hl : Bytes l) :
    Calls Tryz.prog 56 #[.slice A n c] w fun e w' => ((fl6 l m = true ∧ ∃ A' c', e = .returned (.tuple #[.slice A' m c', .bool true]) ∧ Ok 3 w' w.heap.size 49 A' m c' (tcs (dTT l m))) ∨ (fl6 l m = false ∧ e = .returned (.tuple #[.slice none 0 0, .bool false]))) ∧ Below w.heap.size w w' := by
  have hlen : l.length = n := by have := hr.len; simpa using this
  have HL := hide hlen
  have HB := hide hl
  have HT := hide hT
  have hq1 : (n : Int).tdiv 6 = (m : Int) := by rw [Int.tdiv_eq_ediv_of_nonneg (by omega)]; omega
  have hq2 : (n : Int) / 6 = (m : Int) := by omega
  have hq3 : n / 6 = m := by omega
  have hmn : m ≤ 100000 := by omega
  have HM := hide hm
  have Y := hide (fun (A : Option Addr) (N C i : Nat) (w : World) (hN : N = 6) (h1 : Rd w A 6 ((fld l (i * 6) 6).map (Value.int .u8))) (h2 : l[i * 6 + 4]?.getD 0 ≤ 1) => by
    have := tt_.decodeRecord_yes A N C (fld l (i * 6) 6) w hN h1 (fld_bytes hl _ _) (by rw [fl_fld]; exact h2)
    rwa [d6_fld] at this)
  have Z := hide (fun (A : Option Addr) (N C i : Nat) (w : World) (hN : N = 6) (h1 : Rd w A 6 ((fld l (i * 6) 6).map (Value.int .u8))) (h2 : (1 : Int) < l[i * 6 + 4]?.getD 0) =>
    tt_.decodeRecord_no A N C (fld l (i * 6) 6) w hN h1 (fld_bytes hl _ _) (by rw [fl_fld]; exact h2))
  clear hlen hl hm hT
  go_enter Tryz.func56, Tryz.ntmps56
  go_wp2_with (refine mkO (s := 3) (by_ := 8) (n := m) tc (0, false, 0) tc_len (by decide) Tryz.underlying30 (.agg #[.int .i32 0, .bool false, .int .u8 0]) (by kernel_rfl) rfl (Below.refl w.heap.size _) (Nat.le_refl _) (Nat.le_refl _) rfl (.tmp 11) (.tmp 11) rfl .i64 .i64 _ _ rfl rfl rfl rfl (by omega) (by simp [maxLen]; omega) ?_; intro w1 ho1 hb1)
  have h0 : (List.replicate m ((0 : Int), false, (0 : Int))).flatMap tc = tcs (rowTT l m 0) := by simp [rowTT, dTT, tcs]
  rw [h0] at ho1
  clear h0
  go_loopw [15] (fun i wr => ∃ (q : Nat), q ≤ m ∧ i = .int .i64 (q : Nat) ∧ Hid (fl6 l q = true) ∧ Hid (Ok 3 wr w.heap.size 49 (some ⟨w.heap.size, 0, none⟩) m m (tcs (rowTT l m q))) ∧ Hid (Below w.heap.size w wr)) (fun i _ => m - (intOf i).toNat)
  case atStart => exact ⟨0, by omega, rfl, hide rfl, hide ho1, hide hb1⟩
  case round =>
    clear ho1 hb1
    obtain ⟨q, hqm, rfl, ha, ho, hw⟩ := hrel
    by_cases hlt : q < m
    · obtain ⟨P, hP⟩ : ∃ P : Nat, P = q * 6 := ⟨_, rfl⟩
      obtain ⟨P6, hP6⟩ : ∃ P6 : Nat, P6 = P + 6 := ⟨_, rfl⟩
      obtain ⟨q1, hQ⟩ : ∃ q1 : Nat, q1 = q + 1 := ⟨_, rfl⟩
      have hPn : P6 ≤ n := by rw [HM.out]; omega
      have hPc : P6 ≤ c := by omega
      have hPP : P ≤ P6 := by omega
      have i1 : IntKind.i64.wrap ((q : Int) * 6) = (P : Int) := by rw [IntKind.wrap_i64]; omega
      have i2 : IntKind.i64.wrap ((q : Int) + 1) = (q1 : Int) := by rw [IntKind.wrap_i64]; omega
      have i3 : IntKind.i64.wrap ((q1 : Int) * 6) = (P6 : Int) := by rw [IntKind.wrap_i64]; omega
      have hN := hide (show P6 - P = 6 by omega)
      have HQ := hide hQ
      have hne : ¬ c = P := by omega
      obtain ⟨ad, e1, _⟩ := (hr.below hw.out).int (i := P) (by omega)
      subst e1
      have hrd := hide (show Rd wr (some (ad.add P)) 6 ((fld l P 6).map (Value.int .u8)) by
        have := ((hr.below hw.out).cut (k := P) (cap := c) (by omega) hc).take (k := 6) (by omega)
        rw [if_neg hne, ← List.map_drop, ← List.map_take] at this
        exact this)
      have hst := fl6_step l q
      rw [ha.out, Bool.true_and] at hst
      have hno := fun h : (1 : Int) < l[q * 6 + 4]?.getD 0 => fl6_no (l := l) (m := m) (i := q) hlt h
      have Yq := hide (fun N C w hN h1 h2 => Y.out (some (ad.add P)) N C q w hN h1 h2)
      have Zq := hide (fun N C w hN h1 h2 => Z.out (some (ad.add P)) N C q w hN h1 h2)
      rw [← hP] at Yq Zq hst hno
      have hset := hide (rowTT_set l hlt)
      rw [← hQ] at hset hst
      have hat := hide (rowTT_at l hlt)
      obtain ⟨o, d, y, hd6⟩ : ∃ o d y, d6 l q = (o, d, y) := ⟨_, _, _, rfl⟩
      rw [hd6] at Yq hset
      generalize l[P + 4]?.getD 0 = x at *
      clear hP hd6 hP6 hQ
      by_cases hx : 1 < x
      · have hf := hide (hno hx)
        clear hst hno Yq ho hset hat
        go_wp2_with fail
        refine (Zq.out _ _ _ hN.out hrd.out hx).mono ?_
        rintro e w2 ⟨⟨f, rfl⟩, h2⟩
        have hw2 := hide (bel_next hw.out h2)
        have HT2 := hide (HT.out.below hw2.out)
        clear hw hrd h2 Zq
        go_wp2_with fail
        have ht0 : ((w2.alloc (.cells #[.int .i32 0, .bool false, .int .u8 0] 49)).alloc (.cells #[.int .u8 0] 107)).cell? ⟨w2.heap.size + 1, 0, none⟩ = some (.int .u8 0) := by simp
        have hf0 : ((w2.alloc (.cells #[.int .i32 0, .bool false, .int .u8 0] 49)).alloc (.cells #[.int .u8 0] 107)).frozen? ⟨w2.heap.size + 1, 0, none⟩ = false := by simp
        have hb3 := hide (bl_alloc (bl_alloc hw2.out (.cells #[.int .i32 0, .bool false, .int .u8 0] 49)) (.cells #[.int .u8 0] 107))
        have hsz := hw2.out.size
        refine (era_.As_hit f _ _ _ (cellA (cellA HT2.out)) ht0 hf0).mono ?_
        rintro e w' ⟨rfl, w4, h4, rfl⟩
        have hb5 := hide (bl_set (g := w2.heap.size + 1) (o := 0) (bel_next hb3.out h4) (by omega) (.int .u8 f))
        clear hb3 h4 ht0 hf0 HT2 hw2
        go_wp2
        go_ret2
        exact ⟨.inr ⟨hf.out, rfl⟩, hb5.out⟩
      · have hs := hide (show fl6 l q1 = true by rw [hst]; exact decide_eq_true (by omega))
        clear hst hno Zq
        go_wp2_with fail
        refine (Yq.out _ _ _ hN.out hrd.out (by omega)).mono ?_
        rintro e w2 ⟨rfl, h2⟩
        have hw2 := hide (bel_next hw.out h2)
        have ho2 := hide (ho.out.below h2)
        clear hw hrd h2 Yq ho
        go_wp2_with fail
        refine (era_.As_nil _ _).mono ?_
        rintro e w' ⟨rfl, rfl⟩
        have bx := hide ((Bx.new w2 [.int .i32 o, .bool d, .int .u8 y] 49).alloc (.cells #[.int .u8 0] 107))
        have hb3 := hide (bl_alloc (bl_alloc hw2.out (.cells #[.int .i32 o, .bool d, .int .u8 y] 49)) (.cells #[.int .u8 0] 107))
        have ho3 := hide ((ho2.out.alloc (.cells #[.int .i32 o, .bool d, .int .u8 y] 49)).alloc (.cells #[.int .u8 0] 107))
        have b0 : ((w2.alloc (.cells #[.int .i32 o, .bool d, .int .u8 y] 49)).alloc (.cells #[.int .u8 0] 107)).cell? ⟨w2.heap.size, 0, none⟩ = some (.int .i32 o) := bx.out.2.1 0 _ rfl
        have b1 : ((w2.alloc (.cells #[.int .i32 o, .bool d, .int .u8 y] 49)).alloc (.cells #[.int .u8 0] 107)).cell? ⟨w2.heap.size, 1, none⟩ = some (.bool d) := bx.out.2.1 1 _ rfl
        have b2 : ((w2.alloc (.cells #[.int .i32 o, .bool d, .int .u8 y] 49)).alloc (.cells #[.int .u8 0] 107)).cell? ⟨w2.heap.size, 2, none⟩ = some (.int .u8 y) := bx.out.2.1 2 _ rfl
        clear bx hw2 ho2
        generalize ((w2.alloc (.cells #[.int .i32 o, .bool d, .int .u8 y] 49)).alloc (.cells #[.int .u8 0] 107)) = w3 at *
        obtain ⟨g0, g1, g2⟩ := tcs_get hat.out
        have p0 := ho3.out.cell (q * 3) (by omega)
        have p1 := ho3.out.cell (q * 3 + 1) (by omega)
        have p2 := ho3.out.cell (q * 3 + 2) (by omega)
        rw [g0] at p0
        rw [g1] at p1
        rw [g2] at p2
        have z0 := ho3.out.frozen (q * 3)
        have z1 := ho3.out.frozen (q * 3 + 1)
        have z2 := ho3.out.frozen (q * 3 + 2)
        have hst := (((ho3.out.set (q * 3) (.int .i32 o)).set (q * 3 + 1) (.bool d)).set (q * 3 + 2) (.int .u8 y))
        rw [tcs_set (o, d, y), hset.out] at hst
        have hbs := hide (bl_set (bl_set (bl_set (g := w.heap.size) (o := q * 3) hb3.out (Nat.le_refl _) (.int .i32 o)) (g := w.heap.size) (o := q * 3 + 1) (Nat.le_refl _) (.bool d)) (g := w.heap.size) (o := q * 3 + 2) (Nat.le_refl _) (.int .u8 y))
        replace hst := hide hst
        clear ho3 hb3 hat hset g0 g1 g2
        go_wp2
        go_roundw
        case rel => exact ⟨q1, by rw [HQ.out]; omega, rfl, hs, hst, hbs⟩
        case measure => simp [intOf]; rw [HQ.out]; omega
    · obtain rfl : q = m := by omega
      have e0 : rowTT l q q = dTT l q := by simp [rowTT]
      have := ho.out
      rw [e0] at this
      go_wp2
      go_ret2
      exact ⟨.inl ⟨ha.out, _, _, rfl, this⟩, hw.out⟩
theorem encodeFlag (d : Bool) (w : World) : Calls Tryz.prog 66 #[.bool d] w fun e w' => e = .returned (.int .u8 (if d then 1 else 0)) ∧ w = w' := by
  cases d
  all_goals
    go_enter Tryz.func66, Tryz.ntmps66
    go_wp2
    go_ret
    exact ⟨rfl, rfl⟩
set_option maxHeartbeats 4000000 in
theorem Encode (A : Option Addr) (n c m : Nat) (ts : List TT) (w : World) (hn : n ≤ 100000) (hm : m = n * 6) (hA : A = none → n = 0 ∧ c = 0) (hr : Rk 3 w A n (tcs ts)) (hok : ∀ t ∈ ts, ttOk t) :
    Calls Tryz.prog 46 #[.slice A n c] w fun e w' => ∃ A' c', e = .returned (.slice A' m c') ∧ Ow w' w.heap.size 5 A' m c' ((eTT ts).map (Value.int .u8)) ∧ Below w.heap.size w w' := by
  have hl : ts.length = n := by have := hr.len; rw [tcs_len] at this; omega
  have HL := hide hl
  have HO := hide hok
  have P := hide (fun v w h4 h5 => be_.Append none 0 0 [] 4 v w (by omega) (by omega) (Rd.none_ w) h4 h5)
  have hm6 : m ≤ 600000 := by omega
  have i0 : IntKind.i64.wrap ((n : Int) * 6) = (m : Int) := by rw [IntKind.wrap_i64]; omega
  have HM := hide hm
  clear hl hok hm
  go_enter Tryz.func46, Tryz.ntmps46
  go_wp2_with (refine mk (n := 0) (k := m) elU8 (Below.refl w.heap.size _) (Nat.le_refl _) (Nat.le_refl _) rfl (.const (.int .i64 0)) (.tmp 8) rfl .i64 .i64 _ _ rfl rfl rfl rfl (by omega) (by omega) (by simp [maxLen]; omega) ?_; intro w1 ho1 hb1)
  go_loopw [3, 12] (fun o i wr => ∃ (q : Nat) (A' : Option Addr) (c' : Nat), q ≤ n ∧ i = .int .i64 (q : Nat) ∧ o = .slice A' (q * 6) c' ∧ Hid (Ow wr w.heap.size 5 A' (q * 6) c' ((eTT (ts.take q)).map (Value.int .u8))) ∧ Hid (Below w.heap.size w wr)) (fun _ i _ => n - (intOf i).toNat)
  case atStart => exact ⟨0, _, _, by omega, rfl, by rfl, hide ho1, hide hb1⟩
  case round =>
    clear ho1 hb1
    obtain ⟨q, A', c', hq, rfl, rfl, ho, hw⟩ := hrel
    by_cases hlt : q < n
    · obtain ⟨ad, ⟨o, d, x⟩, rfl, ht, h0, h1, h2⟩ := (hr.below hw.out).tt hlt
      obtain ⟨z0, z1, z2, z3⟩ := HO.out _ (List.mem_of_getElem? ht)
      dsimp only at h0 h1 h2 z0 z1 z2 z3
      have hu := u64_bd o
      have hcv : ∀ w : World, (convert 21 56 (.int .i32 o)).run Tryz.prog w = .ok (.int .u64 (u64 o)) w := fun w => by simp [go_sem, u64, IntKind.wrap_u64]
      have hs := hide hw.out.size
      have hq6 : q * 6 + 6 ≤ 600000 := by omega
      obtain ⟨f, hf⟩ : ∃ f : Int, f = if d then 1 else 0 := ⟨_, rfl⟩
      have F := hide (fun w => encodeFlag d w)
      rw [← hf] at F
      have hst := hide (show eTT (ts.take (q + 1)) = eTT (ts.take q) ++ be 4 (u64 o) ++ [f, x] by rw [hf, show eTT (ts.take (q + 1)) = eTT (ts.take q) ++ e6 (o, d, x) from fm_step ts q _ ht, List.append_assoc]; rfl)
      have C := hide (P.out (u64 o) (wr.alloc (.cells #[.int .i32 o, .bool d, .int .u8 x] 49)) hu.1 hu.2)
      have bx := hide (Bx.new wr [.int .i32 o, .bool d, .int .u8 x] 49)
      have ho2 := hide (ho.out.alloc (.cells #[.int .i32 o, .bool d, .int .u8 x] 49))
      have hw2 := hide (bl_alloc hw.out (.cells #[.int .i32 o, .bool d, .int .u8 x] 49))
      have hdj := hide (show oB A' ≠ some wr.heap.size from fun h => by have := (ho.out.blk h).2; omega)
      clear hf ht hu ho hw
      go_wp2_with fail
      refine C.out.mono ?_
      rintro e w1 ⟨A2, c2, rfl, o2, h2'⟩
      rw [show (4 : Int).toNat = 4 from rfl, Nat.zero_add] at o2 ⊢
      rw [List.nil_append] at o2
      replace bx := hide (bx.out.below h2')
      have ho3 := hide (ho2.out.below h2')
      have hw3 := hide (bel_next hw2.out h2')
      have hr2 := hide o2.rd
      have hn2 := hide o2.nilcap
      have h1c := hide (oneCells .u8 (be 4 (u64 o)))
      clear o2 h2' ho2 hw2 C h0 h1 h2
      go_upto_region 6 with (at_builtin; refine apA elU8 ho3.out hw3.out (Nat.le_refl _) hr2.out (.tmp 16) (.tmp 20) rfl rfl rfl rfl hn2.out h1c.out (by simp [maxLen]; omega) (by omega) ?_; intro A3 c3 w3 ho4 hb4 hg4; replace ho4 := hide ho4; replace hb4 := hide hb4)
      replace bx := hide (hg4.bx bx.out hdj.out)
      clear ho3 hw3 hr2 hn2 h1c hdj hg4
      rw [← List.map_append] at ho4
      have hk := hide hb4.out.size
      have b1 := bx.out.2.1 1 _ rfl
      have b2 := bx.out.2.1 2 _ rfl
      have hoL := hide (ho4.out.alloc (.cells #[.int .u8 f, .int .u8 x] 5))
      have hwL := hide (bl_alloc hb4.out (.cells #[.int .u8 f, .int .u8 x] 5))
      have rl := hide (show Rd (w3.alloc (.cells #[.int .u8 f, .int .u8 x] 5)) (some ⟨w3.heap.size, 0, none⟩) 2 (([f, x] : List Int).map (Value.int .u8)) from Rd.lit w3 5 [.int .u8 f, .int .u8 x])
      have m1 := hide (oneCells .u8 [f, x])
      have x1 := hide (show q * 6 + 4 + 2 ≤ maxLen by simp [maxLen]; omega)
      have x2 := hide (show (q * 6 + 4 + 2) * 1 ≤ 140737488355328 by omega)
      go_region_law (first
        | (refine step_apA elU8 hoL.out hwL.out (Nat.le_refl _) rl.out (.tmp 22) (.tmp 28) rfl rfl rfl rfl (fun h => by cases h) m1.out x1.out x2.out ?_; intro A5 c5 w5 ho5 hb5 _; replace ho5 := hide ho5; replace hb5 := hide hb5)
        | (refine step_apA elU8 hoL.out.drew (bl_drew hwL.out) (Nat.le_refl _) rl.out.drew (.tmp 22) (.tmp 28) rfl rfl rfl rfl (fun h => by cases h) m1.out x1.out x2.out ?_; intro A5 c5 w5 ho5 hb5 _; replace ho5 := hide ho5; replace hb5 := hide hb5)
        | (go_simp; go_at_call 66; refine (F.out _).mono ?_; rintro e w10 ⟨rfl, rfl⟩))
      all_goals
        have ho6 := hide (show Ow w5 w.heap.size 5 A5 ((q + 1) * 6) c5 ((eTT (ts.take (q + 1))).map (Value.int .u8)) by rw [hst.out, List.map_append, show (q + 1) * 6 = q * 6 + 4 + 2 by omega]; exact ho5.out)
        rw [show q * 6 + 4 + 2 = (q + 1) * 6 by omega]
        clear ho5
        go_wp2_with fail
        go_roundw
        case rel => exact ⟨q + 1, A5, c5, by omega, by go_num, rfl, ho6, hb5⟩
        case measure => simp [intOf]; omega
    · obtain rfl : q = n := by omega
      go_wp2
      go_ret
      have := ho.out
      rw [List.take_of_length_le (by rw [HL.out]; omega)] at this
      rw [HM.out]
      exact ⟨_, _, rfl, this, hw.out⟩
end tt_
end Go.Proofs.YtbajdlgcajeldaaGreatDoor

/-
  CONTRACTS OF PACKAGE indicators, of the code that landed at e832297. Conditions: at most 100,000 bytes or indicators; Decode: the table of flags holds what it is laid as.
-/
import Derived.Test.YtbajdlgcajeldaaGreatDoorBlM
import Derived.Test.YtbajdlgcajeldaaGreatDoorBase2
import Derived.Test.YtbajdlgcajeldaaGreatDoorRows
import Derived.Lib.LaidTab
import Derived.MakeChecks
import Derived.LaidHandle
namespace Go.Proofs.YtbajdlgcajeldaaGreatDoor
open Go.ChangeShapes Go.WideShapes Go.ChangeAt Go.RowKit
set_option linter.unusedVariables false
set_option maxRecDepth 100000
/-- the table of flags: the byte 0 is not set, the byte 1 is. -/
def Ti (w : World) : Prop := 0 < w.heap.size ∧ w.cell? ⟨0, 0, none⟩ = some (.bool false) ∧ w.cell? ⟨0, 1, none⟩ = some (.bool true)
theorem Ti.below {w w' : World} (h : Ti w) (hb : Below w.heap.size w w') : Ti w' := ⟨Nat.lt_of_lt_of_le h.1 hb.size, cellE hb h.2.1, cellE hb h.2.2⟩
theorem Ti.at_ {w : World} (h : Ti w) {x : Int} (h0 : 0 ≤ x) (h1 : x ≤ 1) : w.cell? ⟨0, x.toNat, none⟩ = some (.bool (decide (x = 1))) := by
  rcases (show x = 0 ∨ x = 1 by omega) with rfl | rfl
  · exact h.2.1
  · exact h.2.2
/-- an array of two flags that reads as the row lays it. -/
theorem two_flags {H : Type} {enc : TypeId × Value → H} {P : Program} {w : World} {base : Nat} {sp : Nat → Bool} {held : Bool} {fuel : Nat} {t e : TypeId} {cs : List Value} {p : List MemPlace} {a b : Bool}
    (ht : P.underlying t = some (.array 2 e)) (he : P.underlying e = some .bool) (hce : P.cellsOf e = 1) (hct : P.cellsOf t = 2)
    (h : DataW.trod enc P w base sp held fuel t cs = some (.agg [.lit (.bool a), .lit (.bool b)], p)) : cs = [.bool a, .bool b] := by
  cases fuel with
  | zero => simp [DataW.trod] at h
  | succ fuel =>
    simp only [DataW.trod, ht, hce, hct, Nat.mul_one] at h
    split at h
    · rename_i hl
      obtain ⟨xs, hm, hx⟩ := Option.map_eq_some_iff.1 h
      have hxs := congrArg Prod.fst hx
      simp only [DataW.agg.injEq] at hxs
      have hat : ∀ i, i < 2 → ∃ b, xs[i]? = some b ∧ DataW.trod enc P w base sp held fuel e ((cs.drop i).take 1) = some b := fun i hi => by
        obtain ⟨b, h1, h2⟩ := Lib.mapM_at hm i i (by simp [hi])
        exact ⟨b, h1, h2⟩
      obtain ⟨y0, g0, f0⟩ := hat 0 (by omega)
      obtain ⟨y1, g1, f1⟩ := hat 1 (by omega)
      obtain ⟨b0, c0, rfl⟩ := DataW.trod_bool he f0
      obtain ⟨b1, c1, rfl⟩ := DataW.trod_bool he f1
      have k0 := congrArg (·[0]?) hxs
      have k1 := congrArg (·[1]?) hxs
      simp [g0] at k0
      simp [g1] at k1
      subst k0 k1
      match cs, hl, c0, c1 with
      | [u, v], _, c0, c1 =>
        simp at c0 c1
        rw [c0, c1]
      | [], hl, _, _ => simp at hl
      | [_], hl, _, _ => simp at hl
      | _ :: _ :: _ :: _, hl, _, _ => simp at hl
    · cases h
theorem ti_of {W : World} (h : laidMetH Tryz.prog [("zoneinfo/indicators.flags", Rows.laid_zoneinfo_indicators_flags)] W) : Ti W := by
  rw [MakeChecks.laidMetH_plain _ _ _ (by kernel_rfl)] at h
  have hg : Tryz.prog.globalNamed "zoneinfo/indicators.flags" = some 0 := by kernel_rfl
  obtain ⟨ps, ⟨g', t', cs, fuel, p, q, hg', ht', hvar, hd, _, _⟩, _⟩ := h
  obtain rfl := Option.some.inj (hg.symm.trans hg')
  obtain rfl := Option.some.inj ((show (Tryz.prog.globals[0]?).map (·.type) = some 110 by kernel_rfl).symm.trans ht')
  have hcs := two_flags Tryz.underlying110 Tryz.underlying4 (by kernel_rfl) (by kernel_rfl) hd
  obtain rfl : cs = #[.bool false, .bool true] := by
    cases cs
    simpa using hcs
  have h0 := World.var?_cell hg hvar 0
  have h1 := World.var?_cell hg hvar 1
  simp at h0 h1
  exact ⟨cell_lt h0, h0, h1⟩
theorem elBn_ : ElT Tryz.prog 32 4 (.bool false) 1 := ⟨Tryz.underlying32, by kernel_rfl, rfl⟩
theorem elYn_ : ElT Tryz.prog 22 5 (.int .u8 0) 1 := ⟨Tryz.underlying22, by kernel_rfl, rfl⟩
/-- a row of bytes or of flags while it is filled. -/
def rowG {α : Type} (z : α) (l : List α) (n k : Nat) : List α := l.take k ++ List.replicate (n - k) z
theorem rowG_len {α : Type} (z : α) {l : List α} {n k : Nat} (hl : l.length = n) (h : k ≤ n) : (rowG z l n k).length = n := by unfold rowG; rw [List.length_append, List.length_take, List.length_replicate]; omega
theorem rowG_set {α : Type} (z : α) {l : List α} {n k : Nat} (hl : l.length = n) {x : α} (hx : l[k]? = some x) (h : k < n) : (rowG z l n k).set k x = rowG z l n (k + 1) := by
  unfold rowG
  obtain ⟨d, hd⟩ : ∃ d, n - k = d + 1 := ⟨n - k - 1, by omega⟩
  rw [hd, show n - (k + 1) = d by omega, List.set_append_right _ _ (by rw [List.length_take]; omega), List.length_take, show k - min k l.length = 0 by omega, List.replicate_succ, List.set_cons_zero, List.take_add_one, hx, List.append_assoc]
  rfl
theorem rowG_at {α : Type} (z : α) {l : List α} {n k : Nat} (hl : l.length = n) (h : k < n) : (rowG z l n k)[k]? = some z := by
  unfold rowG
  rw [List.getElem?_append_right (by rw [List.length_take]; omega), List.length_take, List.getElem?_replicate, if_pos (by omega)]
theorem rowG_zero {α : Type} (z : α) (l : List α) (n : Nat) : rowG z l n 0 = List.replicate n z := by simp [rowG]
theorem rowG_all {α : Type} (z : α) {l : List α} {n : Nat} (hl : l.length = n) : rowG z l n n = l := by unfold rowG; rw [Nat.sub_self, List.take_of_length_le (by omega)]; simp
theorem ry_at {w : World} {A : Option Addr} {n : Nat} {xs : List Int} (h : Rd w A n (xs.map (Value.int .u8))) {i : Nat} (hi : i < n) : ∃ ad x, A = some ad ∧ xs[i]? = some x ∧ w.cell? (ad.add i) = some (.int .u8 x) := by
  obtain ⟨ad, v, h1, h2, h3⟩ := h.at_ hi
  rw [List.getElem?_map] at h2
  cases hx : xs[i]? with
  | none => rw [hx] at h2; simp at h2
  | some x => rw [hx] at h2; simp at h2; subst h2; exact ⟨ad, x, h1, rfl, h3⟩
namespace in_
set_option maxHeartbeats 2000000 in
theorem Decode (A : Option Addr) (n c : Nat) (l : List Int) (w : World) (hT : Ti w) (hn : n ≤ 100000) (hA : A = none → n = 0 ∧ c = 0) (hc : n ≤ c) (hcm : c ≤ 9223372036854775807) (hr : Rd w A n (l.map (Value.int .u8))) (hl0 : ∀ x ∈ l, 0 ≤ x ∧ x < 256) :
    Calls Tryz.prog 57 #[.slice A n c] w fun e w' => ((fI l = true ∧ ∃ A' c', e = .returned (.tuple #[.slice A' n c', .bool true]) ∧ Ow w' w.heap.size 4 A' n c' (bls (dI l))) ∨ (fI l = false ∧ e = .returned (.tuple #[.slice none 0 0, .bool false]))) ∧ Below w.heap.size w w' := by
  have hl : l.length = n := by have := hr.len; simpa using this
  have HL := hide hl
  have HB := hide hl0
  have HT := hide hT
  have hdl := hide (show (dI l).length = n by rw [dI_len, hl])
  clear hl hl0 hT
  go_enter Tryz.func57, Tryz.ntmps57
  go_wp2_with (refine mk elBn_ (n := n) (k := n) (Below.refl w.heap.size _) (Nat.le_refl _) (Nat.le_refl _) rfl (.tmp 8) (.tmp 8) rfl .i64 .i64 _ _ rfl rfl rfl rfl (Nat.le_refl _) (by omega) (by unfold maxLen; omega) ?_; intro w1 ho1 hb1)
  have h0 : (List.replicate n (Value.bool false)) = bls (rowG false (dI l) n 0) := by rw [rowG_zero, bls, List.map_replicate]
  rw [h0] at ho1
  clear h0
  go_loopw [12] (fun i wr => ∃ (k : Nat), k ≤ n ∧ i = .int .i64 (k : Nat) ∧ Hid (fI (l.take k) = true) ∧ Hid (Ow wr w.heap.size 4 (some ⟨w.heap.size, 0, none⟩) n n (bls (rowG false (dI l) n k))) ∧ Hid (Below w.heap.size w wr)) (fun i _ => n - (intOf i).toNat)
  case atStart => exact ⟨0, by omega, rfl, hide rfl, hide ho1, hide hb1⟩
  case round =>
    clear ho1 hb1
    obtain ⟨k, hk, rfl, hf, ho, hw⟩ := hrel
    by_cases hlt : k < n
    · have hkn : (k : Int) < (n : Int) := by omega
      obtain ⟨ad, x, rfl, hx, f0⟩ := ry_at (hr.below hw.out) hlt
      obtain ⟨x0, x1⟩ := HB.out x (List.mem_of_getElem? hx)
      have hst := hide (fI_step hx)
      by_cases hx1 : x ≤ 1
      · have hdx : (dI l)[k]? = some (decide (x = 1)) := by unfold dI; rw [List.getElem?_map, hx]; rfl
        have tx := (HT.out.below hw.out).at_ x0 hx1
        have hset := hide (rowG_set false hdl.out hdx hlt)
        have p0 := ho.out.cell k (by omega)
        rw [bls, List.getElem?_map, rowG_at false hdl.out hlt] at p0
        have z0 := ho.out.frozen k
        have hfs := hide (show fI (l.take (k + 1)) = true by rw [hst.out, hf.out, decide_eq_true hx1]; rfl)
        have ho2 := ho.out.set k (.bool (decide (x = 1)))
        rw [bls, ← List.map_set, hset.out] at ho2
        have hb2 := hide (bl_set (g := w.heap.size) (o := k) hw.out (Nat.le_refl _) (.bool (decide (x = 1))))
        replace ho2 := hide ho2
        have d1 : decide ((2 : Int) ≤ x) = false := by simp; omega
        have hx2 : x < 2 := by omega
        generalize decide (x = 1) = bx at *
        clear hdx hst hx hset ho hw hx1
        go_wp2
        go_roundw
        case rel => exact ⟨k + 1, by omega, by go_num, hfs, ho2, hb2⟩
        case measure => simp [intOf]; omega
      · have d1 : decide ((2 : Int) ≤ x) = true := by simp; omega
        have hno := hide (show fI l = false by
          rw [← Bool.not_eq_true]
          intro h
          have := List.all_eq_true.1 h x (List.mem_of_getElem? hx)
          simp at this
          omega)
        clear hx hx1
        go_wp2
        go_ret2
        exact ⟨.inr ⟨hno.out, rfl⟩, hw.out⟩
    · obtain rfl : k = n := by omega
      have hts : l.take k = l := List.take_of_length_le (by rw [HL.out]; exact Nat.le_refl _)
      rw [hts] at hf
      rw [rowG_all false hdl.out] at ho
      clear hts
      go_wp2
      go_ret2
      exact ⟨.inl ⟨hf.out, _, _, rfl, ho.out⟩, hw.out⟩
theorem byteOf (b : Bool) (w : World) : Calls Tryz.prog 68 #[.bool b] w fun e w' => e = .returned (.int .u8 (eB b)) ∧ w = w' := by
  cases b
  all_goals
    go_enter Tryz.func68, Tryz.ntmps68
    go_wp2
    go_ret
    exact ⟨rfl, rfl⟩
set_option maxHeartbeats 2000000 in
theorem Encode (A : Option Addr) (n c : Nat) (l : List Bool) (w : World) (hT : Ti w) (hn : n ≤ 100000) (hA : A = none → n = 0 ∧ c = 0) (hc : n ≤ c) (hcm : c ≤ 9223372036854775807) (hr : Rd w A n (bls l)) :
    Calls Tryz.prog 48 #[.slice A n c] w fun e w' => ∃ A' c', e = .returned (.slice A' n c') ∧ Ow w' w.heap.size 5 A' n c' ((eI l).map (Value.int .u8)) ∧ Below w.heap.size w w' := by
  have hl : l.length = n := by have := hr.len; simpa using this
  have hdl := hide (show (eI l).length = n by rw [eI_len, hl])
  clear hl hT
  go_enter Tryz.func48, Tryz.ntmps48
  go_wp2_with (refine mk elYn_ (n := n) (k := n) (Below.refl w.heap.size _) (Nat.le_refl _) (Nat.le_refl _) rfl (.tmp 7) (.tmp 7) rfl .i64 .i64 _ _ rfl rfl rfl rfl (Nat.le_refl _) (by omega) (by unfold maxLen; omega) ?_; intro w1 ho1 hb1)
  have h0 : (List.replicate n (Value.int .u8 0)) = (rowG 0 (eI l) n 0).map (Value.int .u8) := by rw [rowG_zero, List.map_replicate]
  rw [h0] at ho1
  clear h0
  go_loopw [11] (fun i wr => ∃ (k : Nat), k ≤ n ∧ i = .int .i64 (k : Nat) ∧ Hid (Ow wr w.heap.size 5 (some ⟨w.heap.size, 0, none⟩) n n ((rowG 0 (eI l) n k).map (Value.int .u8))) ∧ Hid (Below w.heap.size w wr)) (fun i _ => n - (intOf i).toNat)
  case atStart => exact ⟨0, by omega, rfl, hide ho1, hide hb1⟩
  case round =>
    clear ho1 hb1
    obtain ⟨k, hk, rfl, ho, hw⟩ := hrel
    by_cases hlt : k < n
    · have hkn : (k : Int) < (n : Int) := by omega
      obtain ⟨ad, x, rfl, hx, f0⟩ := rb_at (hr.below hw.out) hlt
      have hdx : (eI l)[k]? = some (eB x) := by unfold eI; rw [List.getElem?_map, hx]; rfl
      have hset := hide (rowG_set 0 hdl.out hdx hlt)
      have p0 := ho.out.cell k (by omega)
      rw [List.getElem?_map, rowG_at 0 hdl.out hlt] at p0
      have z0 := ho.out.frozen k
      have ho2 := ho.out.set k (.int .u8 (eB x))
      rw [← List.map_set, hset.out] at ho2
      have hb2 := hide (bl_set (g := w.heap.size) (o := k) hw.out (Nat.le_refl _) (.int .u8 (eB x)))
      replace ho2 := hide ho2
      have Y := hide (fun w => byteOf x w)
      generalize eB x = y at *
      clear hdx hx hset ho hw
      go_wp2_with fail
      refine (Y.out _).mono ?_
      rintro e w1 ⟨rfl, rfl⟩
      go_wp2
      go_roundw
      case rel => exact ⟨k + 1, by omega, by go_num, ho2, hb2⟩
      case measure => simp [intOf]; omega
    · obtain rfl : k = n := by omega
      rw [rowG_all 0 hdl.out] at ho
      go_wp2
      go_ret
      exact ⟨_, _, rfl, ho.out, hw.out⟩
end in_
end Go.Proofs.YtbajdlgcajeldaaGreatDoor

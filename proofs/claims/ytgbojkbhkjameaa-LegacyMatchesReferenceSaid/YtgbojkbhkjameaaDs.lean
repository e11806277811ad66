/-
  CONTRACTS OF PACKAGE desigs: distinct (at strings), Build. Conditions: at most 1000 names of at most 1000 allowed bytes, in a slice that can be read.
-/
import Derived.Test.YtgbojkbhkjameaaDsN
import Derived.Test.YtgbojkbhkjameaaDsMath4
import Derived.Maps.OwnSet
import Derived.Lib.AppendStr
namespace Go.Proofs.Ytgbojkbhkjameaa
open Go.ChangeShapes Go.WideShapes Go.ChangeAt Go.RowKit Go.Maps Go.WideMaps
set_option linter.unusedVariables false
theorem keyS : Keyed Try.prog 9 := string_keyed Try.underlying9
theorem zeroInt (w : World) : (zeroValue 3).run Try.prog w = .ok (.int .i64 0) w := by kernel_rfl
theorem elStr_ : ElT Try.prog 48 9 (.string ⟨#[]⟩) 16 := ⟨Try.underlying48, by kernel_rfl, rfl⟩
/-- a map that the call has made reads as the places of the names. -/
def Mp (w : World) (b n : Nat) (vs : List ByteArray) : Prop :=
  ∃ D : DataW Unit, w.ownsMap Try.prog 9 (plainElem Try.prog 3) b n D ∧ ∀ s : ByteArray, s.size ≤ 1000 →
    (s ∈ vs → Maps.has D (.string s.data.toList) = true ∧ D.atKey (.string s.data.toList) (.lit (.int .i64 0)) = .lit (.int .i64 (ixOf vs s))) ∧ (s ∉ vs → Maps.has D (.string s.data.toList) = false)
theorem mp_new (w : World) : Mp (w.alloc (.map #[] 0)) w.heap.size 0 [] :=
  ⟨.map [], World.ownsMap_made w _ _ _, fun s _ => ⟨fun h => by simp at h, fun _ => rfl⟩⟩
section
variable {w w' : World} {b n : Nat} {vs : List ByteArray}
theorem Mp.lt (h : Mp w b n vs) : b < w.heap.size := by obtain ⟨D, h, _⟩ := h; exact h.lt
theorem Mp.below (h : Mp w b n vs) (hb : Below w.heap.size w w') : Mp w' b n vs := by
  have hlt := h.lt
  obtain ⟨D, ⟨es, clock, h1, F, hs, hD⟩, h'⟩ := h
  exact ⟨D, ⟨es, clock, (hb.block b hlt).trans h1, F, hs, hD⟩, h'⟩
theorem Mp.kept {row : Option Nat} (h : Mp w b n vs) (hg : w.grownBy w' row) (hne : some b ≠ row) : Mp w' b n vs := by obtain ⟨D, h, h'⟩ := h; exact ⟨D, h.kept hg hne, h'⟩
theorem Mp.alloc (h : Mp w b n vs) (o : Obj) : Mp (w.alloc o) b n vs := by obtain ⟨D, h, h'⟩ := h; exact ⟨D, h.alloc o, h'⟩
theorem Mp.mono (h : Mp w b n vs) {m : Nat} (hm : n ≤ m) : Mp w b m vs := by obtain ⟨D, h, h'⟩ := h; exact ⟨D, h.mono hm, h'⟩
theorem Mp.setCell (h : Mp w b n vs) {a : Addr} (ha : b ≠ a.block) (u : Value) : Mp (w.setCell a u) b n vs := by obtain ⟨D, h, h'⟩ := h; exact ⟨D, h.setCell ha u, h'⟩
end
theorem mp_key {s : ByteArray} (hs : s.size ≤ 1000) : keyOf Try.prog 9 (.string s) = some (.string s.data.toList) := keyOf_string_mk Try.underlying9 (by unfold maxLen; omega)
theorem mp_put {D : DataW Unit} {vs : List ByteArray} {s : ByteArray} (hD : IsMap D) (hs : s ∉ vs)
    (h : ∀ u : ByteArray, u.size ≤ 1000 → (u ∈ vs → Maps.has D (.string u.data.toList) = true ∧ D.atKey (.string u.data.toList) (.lit (.int .i64 0)) = .lit (.int .i64 (ixOf vs u))) ∧ (u ∉ vs → Maps.has D (.string u.data.toList) = false)) :
    ∀ u : ByteArray, u.size ≤ 1000 → (u ∈ vs ++ [s] → Maps.has (D.put (.string s.data.toList) (.lit (.int .i64 vs.length))) (.string u.data.toList) = true ∧ (D.put (.string s.data.toList) (.lit (.int .i64 vs.length))).atKey (.string u.data.toList) (.lit (.int .i64 0)) = .lit (.int .i64 (ixOf (vs ++ [s]) u))) ∧ (u ∉ vs ++ [s] → Maps.has (D.put (.string s.data.toList) (.lit (.int .i64 vs.length))) (.string u.data.toList) = false) := by
  intro u hu
  obtain ⟨h1, h2⟩ := h u hu
  by_cases e : u = s
  · subst e
    refine ⟨fun _ => ⟨has_put_same hD (show WideAt.IsKeyLit (.string _) from trivial) _, ?_⟩, fun h => absurd (by simp) h⟩
    rw [atKey_put_same hD (show WideAt.IsKeyLit (.string _) from trivial), ix_new hs]
  · have ne : (Lit.string u.data.toList) ≠ .string s.data.toList := by
      intro h
      injection h with h
      exact e (byt_inj.1 h)
    rw [has_put_other ne, atKey_put_other ne]
    refine ⟨fun h => ?_, fun h => h2 (fun h' => h (by simp [h']))⟩
    have hm : u ∈ vs := by simpa [e] using h
    rw [ix_app _ hm]
    exact h1 hm
/-- what a store into the map leaves of a slice of the call's own. -/
theorem ow_map {w w' : World} {b m n c : Nat} {e : TypeId} {A : Option Addr} {xs : List Value} (h : Ow w b e A n c xs) (hg : w.grownBy w' (some m)) (hm : m < b) : Ow w' b e A n c xs := by
  refine ⟨Nat.le_trans h.1 hg.size, h.2.kept hg ?_⟩
  rw [oB_own]
  rcases hA : oB A with _ | g
  · exact .inl rfl
  · have := h.blk hA
    refine .inr fun h' => ?_
    injection h' with h'
    omega
theorem ow_c {w : World} {b n c : Nat} {e : TypeId} {A : Option Addr} {xs : List Value} (h : Ow w b e A n c xs) : n ≤ c ∧ c ≤ 9223372036854775807 := ⟨h.cap, by have := h.capMax; simpa [maxLen] using this⟩
theorem strs_snoc (xs : List ByteArray) (x : ByteArray) : strs xs ++ [.string x] = strs (xs ++ [x]) := by simp
/-- the row of places behind i rounds. -/
noncomputable def plc (ss : List ByteArray) (i : Nat) : List Int := (ss.take i).map (fun s => (ixOf (vals (ss.take i)) s : Int)) ++ List.replicate (ss.length - i) 0
theorem fill_set (l : List Int) (n i : Nat) (h : i < n) (hl : l.length = i) (x : Int) : (ints (l ++ List.replicate (n - i) 0)).set i (.int .i64 x) = ints ((l ++ [x]) ++ List.replicate (n - (i + 1)) 0) := by
  rw [← List.map_set]
  congr 1
  rw [List.set_append_right _ _ (by omega), hl, Nat.sub_self, show n - i = (n - (i + 1)) + 1 by omega, List.replicate_succ, List.set_cons_zero, List.append_assoc]
  rfl
theorem plc_step (ss : List ByteArray) (i : Nat) (s : ByteArray) (h : ss[i]? = some s) : (ints (plc ss i)).set i (.int .i64 (ixOf (vals (ss.take (i + 1))) s)) = ints (plc ss (i + 1)) := by
  have hi : i < ss.length := (List.getElem?_eq_some_iff.1 h).1
  unfold plc
  rw [fill_set _ _ _ hi (by simp; omega)]
  congr 2
  rw [take_snoc h, List.map_append]
  congr 1
  refine List.map_congr_left fun u hu => ?_
  rw [vals_snoc]
  unfold vstep
  split
  · rfl
  · rw [ix_app _ (((bld_take_is ss i (by omega)).2.1 u).2 hu)]
theorem plc_end (ss : List ByteArray) : plc ss ss.length = ss.map (fun s => (ixOf (vals ss) s : Int)) := by unfold plc; simp
theorem plc_len (ss : List ByteArray) (i : Nat) (h : i ≤ ss.length) : (plc ss i).length = ss.length := by unfold plc; simp; omega
/-- the row of starts behind i rounds. -/
def sts (vs : List ByteArray) (i : Nat) : List Int := (List.range i).map (fun j => ((tbl (vs.take j)).length : Int)) ++ List.replicate (vs.length - i) 0
theorem sts_step (vs : List ByteArray) (i : Nat) (h : i < vs.length) : (ints (sts vs i)).set i (.int .i64 (tbl (vs.take i)).length) = ints (sts vs (i + 1)) := by
  unfold sts
  rw [fill_set _ _ _ h (by simp)]
  congr 2
  rw [List.range_succ, List.map_append]
  rfl
theorem sts_at (vs : List ByteArray) (i : Nat) (h : i < vs.length) : (sts vs vs.length)[i]? = some ((tbl (vs.take i)).length : Int) := by
  unfold sts
  rw [Nat.sub_self, List.replicate_zero, List.append_nil, List.getElem?_map, List.getElem?_range h]
  rfl
/-- the row of indices behind i rounds. -/
noncomputable def ixs (ss : List ByteArray) (i : Nat) : List Int := (ss.take i).map (fun s => (st (vals ss) s : Int)) ++ List.replicate (ss.length - i) 0
theorem ixs_step (ss : List ByteArray) (i : Nat) (s : ByteArray) (h : ss[i]? = some s) : (ints (ixs ss i)).set i (.int .i64 (st (vals ss) s)) = ints (ixs ss (i + 1)) := by
  have hi : i < ss.length := (List.getElem?_eq_some_iff.1 h).1
  unfold ixs
  rw [fill_set _ _ _ hi (by simp; omega)]
  congr 2
  rw [take_snoc h, List.map_append]
  rfl
theorem ixs_end (ss : List ByteArray) : ixs ss ss.length = bldX ss := by unfold ixs; rw [bldX_is]; simp
theorem ri_at {w : World} {A : Option Addr} {n : Nat} {xs : List Int} (h : Rd w A n (ints xs)) {i : Nat} (hi : i < n) : ∃ ad x, A = some ad ∧ xs[i]? = some x ∧ w.cell? (ad.add i) = some (.int .i64 x) := by
  obtain ⟨ad, v, h1, h2, h3⟩ := h.at_ hi
  rw [List.getElem?_map] at h2
  cases hx : xs[i]? with
  | none => rw [hx] at h2; simp at h2
  | some x => rw [hx] at h2; simp at h2; subst h2; exact ⟨ad, x, h1, rfl, h3⟩
theorem ow_grown {w w' : World} {b n c : Nat} {e : TypeId} {A A2 : Option Addr} {xs : List Value} (h : Ow w b e A n c xs) (hg : w.grownBy w' (oB A2)) (hd : Dj A A2) : Ow w' b e A n c xs := by
  refine ⟨Nat.le_trans h.1 hg.size, h.2.kept hg ?_⟩
  rw [oB_own]
  rcases hA : oB A with _ | g
  · exact .inl rfl
  · exact .inr fun h' => hd g hA h'.symm
theorem strC (s : ByteArray) : Lib.strCells s = bys (bIx s) := by unfold Lib.strCells bIx; show _ = List.map _ (List.map _ _); rw [List.map_map]; rfl
/-- 'append(out, s...)' of a string: and all that lies apart stays. -/
theorem apS {P : Program} {t u e : TypeId} {ops : Array Oper} {rest : List Oper} {o : Oper} {a : Act} {Q : Exit → Act → World → Prop} (E : ElT P t e (.int .u8 0) 1) (hu : P.underlying u = some .string) {W w0 : World} {b B : Nat} {A : Option Addr} {n c : Nat} {xs : List Value} (hown : Ow W b e A n c xs) (hB : Below B w0 W) (hBb : B ≤ b)
    (s x : Operand) (str : ByteArray) (hgd : o.guard = none) (ho : o.op = .call { callee := .builtin .append, args := #[s, x], argTypes := #[t, u] })
    (hs : a.eval s = .slice A n c) (hx : a.eval x = .string str) (hm : n + str.size ≤ 1000000000)
    (h : ∀ A' c' w', Ow w' b e A' (n + str.size) c' (xs ++ bys (bIx str)) → Below B w0 w' → W.grownBy w' (oB A) → wpList P ops Q rest (a.put o.dst (.slice A' (n + str.size) c')) w') :
    wpList P ops Q (o :: rest) a W := by
  obtain ⟨i, hi, hz, hsz, hbb⟩ := info_parts E.2.1
  refine Lib.wpList_append_own_string (w := W) hgd s x t u ho b e i E.1 hu hi hz hsz hbb (.slice A n c) n xs hs hown.2 str hx (by unfold maxLen; omega) (by omega) hown.1 ?_
  intro v' w' hown' hg hnil
  rw [oB_own] at hg
  rw [strC] at hown'
  have hB' : Below B w0 w' := hB.grown hg (by have := hown.1; omega) (fun k hk => by have := (hown.blk hk).1; omega)
  have hb' : b ≤ w'.heap.size := Nat.le_trans hown.1 hg.size
  rcases hown'.2 with ⟨rfl, h0⟩ | ⟨g, cap, cur, rfl, _⟩
  · have := h none 0 w' ⟨hb', by rw [h0] at hown' ⊢; exact hown'⟩ hB' hg
    rw [h0] at this
    exact this
  · exact h _ _ _ ⟨hb', hown'⟩ hB' hg
namespace ds_
set_option maxRecDepth 100000 in
set_option maxHeartbeats 8000000 in
theorem distinct (A : Option Addr) (n c : Nat) (ss : List ByteArray) (w : World) (hr : Rd w A n (strs ss)) (hn : n ≤ 1000) (hsz : ∀ s ∈ ss, s.size ≤ 1000) :
    Calls Try.prog 44 #[.slice A n c] w fun e w' => ∃ (A1 : Option Addr) (c1 : Nat) (A2 : Option Addr) (c2 : Nat), e = .returned (.tuple #[.slice A1 (vals ss).length c1, .slice A2 n c2]) ∧ Ow w' w.heap.size 9 A1 (vals ss).length c1 (strs (vals ss)) ∧ Ow w' w.heap.size 3 A2 n c2 (ints (ss.map (fun s => (ixOf (vals ss) s : Int)))) ∧ Below w.heap.size w w' := by
  have hlen : ss.length = n := by have := hr.len; simpa using this
  have hR := hide hr
  have hZ := hide hsz
  have hl' := hide hlen
  clear hr hsz hlen
  have hmm := @run_makeMap Try.prog
  go_enter Try.func44, Try.ntmps44
  go_wp2_with (refine mk elInt_ (b := w.heap.size + 1) (B := w.heap.size + 1) (w0 := w.alloc (.map #[] 0)) (by have := bl_refl (w.alloc (.map #[] 0)); simpa using this) (by omega) (by simp) rfl (.tmp 13) (.tmp 13) rfl .i64 .i64 n n n n rfl rfl rfl rfl (Nat.le_refl _) (by omega) (by unfold maxLen; omega) ?_; intro w1 hO1 hB1)
  have e1 : (w.alloc (.map #[] 0)).heap.size = w.heap.size + 1 := by simp
  rw [e1] at hO1
  have hb0 := hide (show Below w.heap.size w w1 from (bl_new w (.map #[] 0)).trans (hB1.mono (by omega)))
  have hm0 := hide ((mp_new w).below (by rw [e1]; exact hB1))
  have hz0 := hide (show w.heap.size + 2 ≤ w1.heap.size by have := (hO1.lt (w.heap.size + 1) rfl).2; omega)
  replace hO1 := hide hO1
  clear hB1 e1
  replace hO1 : Hid (Ow w1 (w.heap.size + 1) 3 (some ⟨w.heap.size + 1, 0, none⟩) n n (ints (plc ss 0))) := hide (by
    have e : ints (plc ss 0) = List.replicate n (Value.int .i64 0) := by unfold plc; rw [hl'.out]; simp
    rw [e]; exact hO1.out)
  go_loopw [5, 17] (fun vv iv wr => ∃ (i : Nat) (A1 : Option Addr) (c1 : Nat), vv = .slice A1 (vals (ss.take i)).length c1 ∧ iv = .int .i64 i ∧ i ≤ n ∧ Ow wr (w.heap.size + 2) 9 A1 (vals (ss.take i)).length c1 (strs (vals (ss.take i))) ∧ Ow wr (w.heap.size + 1) 3 (some ⟨w.heap.size + 1, 0, none⟩) n n (ints (plc ss i)) ∧ Mp wr w.heap.size i (vals (ss.take i)) ∧ Below w.heap.size w wr) (fun _ iv _ => n + 1 - (intOf iv).toNat)
  case atStart => exact ⟨0, none, 0, by simp [vals], rfl, Nat.zero_le _, by simpa [vals] using Ow.nil hz0.out _, hO1.out, by simpa [vals] using hm0.out, hb0.out⟩
  case round =>
    clear hO1 hm0 hb0
    obtain ⟨i, A1, c1, rfl, rfl, hi, hO, hP, hM, hb⟩ := hrel
    obtain ⟨hB1, hB2, hB3⟩ := bld_take_is ss i (by rw [hl'.out]; exact hi)
    by_cases hlt : i < n
    · have dl : decide ((i : Int) < (n : Int)) = true := by simpa using hlt
      have dl2 : (i : Int) < (n : Int) := by omega
      obtain ⟨ad, s, rfl, hx, hc⟩ := rs_at (hR.out.below hb) hlt
      have hss := hZ.out s (List.mem_of_getElem? hx)
      have hstep := hide (plc_step ss i s hx)
      have hV := hide (show vals (ss.take (i + 1)) = vstep (vals (ss.take i)) s by rw [take_snoc hx, vals_snoc])
      rw [hV.out] at hstep
      generalize hVe : vals (ss.take i) = V at *
      have hlp := plc_len ss i (by rw [hl'.out]; exact hi)
      have hcp : wr.cell? ⟨w.heap.size + 1, i, none⟩ = some (.int .i64 ((plc ss i)[i]'(by rw [hlp, hl'.out]; exact hlt))) := by
        rw [hP.cell i hlt, List.getElem?_map, List.getElem?_eq_getElem (by rw [hlp, hl'.out]; exact hlt)]; rfl
      generalize (plc ss i)[i]'(by rw [hlp, hl'.out]; exact hlt) = v0 at hcp
      have hfp := hP.frozen i
      obtain ⟨D, hown, hD⟩ := hM
      obtain ⟨D1, D2⟩ := hD s hss
      clear hlp hB1
      replace hB2 := hide hB2
      replace hVe := hide hVe
      replace hx := hide hx
      by_cases hs : s ∈ V
      · obtain ⟨hh, hat0⟩ := D1 hs
        have hvs : vstep V s = V := by unfold vstep; rw [if_pos hs]
        rw [hvs] at hstep hV
        replace hO := hide hO
        replace hP := hide hP
        replace hb := hide hb
        replace hD := hide hD
        clear D1 D2 hs hvs
        go_wp2_with (at_lookup; refine wpList_lookup_own_ok_int _ rfl _ _ 75 rfl 9 3 .i64 keyS Try.underlying75 Try.underlying3 (zeroInt _) w.heap.size i D rfl hown _ _ rfl (mp_key hss) ?_; intro cv hat hwf; rw [hat0] at hat; injection hat with hat; injection hat with _ hat; subst hat)
        have hM := hide (show Mp wr w.heap.size i V from ⟨D, hown, hD.out⟩)
        go_roundw
        case rel => exact ⟨i + 1, A1, c1, by rw [hV.out], by go_num, by omega, by rw [hV.out]; exact hO.out.setLow i (by omega) _, by rw [← hstep.out]; exact hP.out.set i _, by rw [hV.out]; exact (hM.out.setCell (by simp) _).mono (by omega), bl_set hb.out (by omega) _⟩
        case measure => simp [intOf]; omega
      · have hh := D2 hs
        have hvs : vstep V s = V ++ [s] := by unfold vstep; rw [if_neg hs]
        rw [hvs, ix_new hs] at hstep
        rw [hvs] at hV
        have hput := hide (mp_put hown.isMap hs hD)
        replace hO := hide hO
        replace hP := hide hP
        replace hb := hide hb
        clear D1 D2 hD hvs hcp hfp
        have hVl : V.length < 1000 := by omega
        go_wp2_with (first
          | (at_lookup; refine wpList_lookup_own_ok_int _ rfl _ _ 75 rfl 9 3 .i64 keyS Try.underlying75 Try.underlying3 (zeroInt _) w.heap.size i D rfl hown _ _ rfl (mp_key hss) ?_; intro cv hat hwf)
          | (at_mapUpdate; refine wpList_mapUpdate_own _ rfl _ _ _ 75 rfl 9 3 keyS Try.underlying75 _ w.heap.size i D rfl hown (by unfold maxLen; omega) _ _ _ rfl rfl (mp_key hss) _ [] (plainElem_int Try.underlying3 (WalkArith.wf_i64 (by omega))) ?_; intro w4 hown4 hg4
             have hM4 := hide (show Mp w4 w.heap.size (i + 1) (V ++ [s]) from ⟨_, hown4, hput.out⟩)
             have hO4 := hide (ow_map hO.out hg4 (by omega))
             have hP4 := hide (ow_map hP.out hg4 (by omega))
             have hb4 := hide (show Below w.heap.size w w4 from hb.out.grown hg4 hb.out.size (fun k hk => by cases hk; exact Nat.le_refl _))
             clear hown4 hg4)
          | (at_builtin; refine ap1A elStr_ hO4.out hb4.out (by omega) (.tmp 35) (.tmp 37) (.string s) rfl rfl rfl rfl rfl (by unfold maxLen; omega) (by omega) ?_; intro A' c' w6 hO6 hb6 hg6
             rw [strs_snoc] at hO6
             have hP6 := hide (hg6.ow (hP4.out.alloc _) (fun g hg hg2 => by
               have e1 : w.heap.size + 1 = g := by injection hg
               have := (hO4.out.blk hg2).1
               omega))
             have hM6 := hide ((hM4.out.alloc (.cells #[.string s] 9)).kept hg6.g (fun h => by
               have := (hO4.out.blk h.symm).1
               omega))
             have hcp : w6.cell? ⟨w.heap.size + 1, i, none⟩ = (ints (plc ss i))[i]? := hP6.out.cell i hlt
             have hfp := hP6.out.frozen i
             obtain ⟨v1, hv1⟩ : ∃ v1, (ints (plc ss i))[i]? = some (.int .i64 v1) := by
               have hl := hP6.out.len
               rw [List.getElem?_map]
               rw [List.length_map] at hl
               exact ⟨_, by rw [List.getElem?_eq_getElem (by omega)]; rfl⟩
             rw [hv1] at hcp
             clear hg6 hO4 hP4 hb4 hM4 hv1
             replace hO6 := hide hO6
             replace hb6 := hide hb6))
        go_roundw
        case rel => exact ⟨i + 1, A', c', by rw [hV.out]; simp, by go_num, by omega, by rw [hV.out]; simpa using hO6.out.setLow i (by omega) _, by rw [← hstep.out]; exact hP6.out.set i _, by rw [hV.out]; exact hM6.out.setCell (by simp) _, bl_set hb6.out (by omega) _⟩
        case measure => simp [intOf]; omega
    · obtain rfl : i = n := by omega
      have dl : decide ((i : Int) < (i : Int)) = false := by simp
      have hts : ss.take i = ss := List.take_of_length_le (by rw [hl'.out]; exact Nat.le_refl _)
      have hpe := plc_end ss
      rw [hl'.out] at hpe
      rw [hts] at hO ⊢
      rw [hpe] at hP
      replace hO := hide hO
      replace hP := hide hP
      replace hb := hide hb
      clear hB1 hB2 hB3 hM hts hpe
      go_wp2_with fail
      go_ret2
      exact ⟨A1, c1, _, _, rfl, hO.out.mono (b' := w.heap.size) (by omega), hP.out.mono (b' := w.heap.size) (by omega), hb.out⟩
theorem Build_0 (w : World) (A : Option Addr) (c : Nat) :
    Calls Try.prog 24 #[.slice A 0 c] w fun e w' => ∃ (A1 : Option Addr) (n1 c1 : Nat) (A2 : Option Addr) (n2 c2 : Nat), e = .returned (.tuple #[.slice A1 n1 c1, .slice A2 n2 c2]) ∧ Ow w' w.heap.size 5 A1 n1 c1 (bys (bldT [])) ∧ Ow w' w.heap.size 3 A2 n2 c2 (ints (bldX [])) ∧ Dj A1 A2 ∧ Below w.heap.size w w' := by
  go_enter Try.func24, Try.ntmps24
  go_wp2_with fail
  go_ret2
  exact ⟨_, 1, 1, none, 0, 0, rfl, Ow.lit w 5 [.int .u8 0] (by simp [maxLen]), Ow.nil (by simp) _, Dj.none' _, bl_new _ _⟩
set_option maxRecDepth 100000 in
set_option maxHeartbeats 8000000 in
theorem Build (A : Option Addr) (n c : Nat) (ss : List ByteArray) (w : World) (hr : Rd w A n (strs ss)) (hn : n ≤ 1000) (hsz : ∀ s ∈ ss, s.size ≤ 1000) (hal : ∀ s ∈ ss, (byt s).all dsB = true) :
    Calls Try.prog 24 #[.slice A n c] w fun e w' => ∃ (A1 : Option Addr) (n1 c1 : Nat) (A2 : Option Addr) (n2 c2 : Nat), e = .returned (.tuple #[.slice A1 n1 c1, .slice A2 n2 c2]) ∧ Ow w' w.heap.size 5 A1 n1 c1 (bys (bldT ss)) ∧ Ow w' w.heap.size 3 A2 n2 c2 (ints (bldX ss)) ∧ Dj A1 A2 ∧ Below w.heap.size w w' := by
  have hlen : ss.length = n := by have := hr.len; simpa using this
  rcases Nat.eq_zero_or_pos n with rfl | hp
  · obtain rfl : ss = [] := List.eq_nil_of_length_eq_zero hlen
    exact Build_0 w A c
  have hT := hide (bldT_is ss (by intro e; rw [e] at hlen; simp at hlen; omega))
  have hXe := hide (ixs_end ss)
  have DS := hide (distinct A n c ss w hr hn hsz)
  obtain ⟨_, hVm, hVn⟩ := bld_is ss
  have hVz : ∀ s ∈ vals ss, s.size ≤ 1000 := fun s hs => hsz s ((hVm s).1 hs)
  have hTl := hide (fun i => tbl_len ((vals ss).take i) (fun s hs => hVz s (List.mem_of_mem_take hs)))
  have hIx := hide (fun s (hs : s ∈ ss) => ix_lt ((hVm s).2 hs))
  have hSt := hide (fun s => show st (vals ss) s = (tbl ((vals ss).take (ixOf (vals ss) s))).length from rfl)
  have hIs := hide (ixs_step ss)
  have hI0 := hide (show ints (ixs ss 0) = List.replicate n (.int .i64 0) by unfold ixs; rw [hlen]; simp)
  have hI1 := hide (show ∀ i, i ≤ n → (ixs ss i).length = n from fun i hi => by unfold ixs; simp; omega)
  have hl' := hide hlen
  have hVz' := hide hVz
  rw [hlen] at hVn
  generalize hVe : vals ss = V at *
  have hS0 := hide (show ints (sts V 0) = List.replicate V.length (.int .i64 0) by unfold sts; simp)
  have hS1 := hide (show ∀ i, i ≤ V.length → (sts V i).length = V.length from fun i hi => by unfold sts; simp; omega)
  have g0 : ((n : Int) == 0) = false := by simp; omega
  replace hVe := hide hVe
  clear hr hsz hal hlen hVm hVz
  go_enter Try.func24, Try.ntmps24
  go_wp2_with fail
  refine DS.out.mono ?_
  rintro e w1 ⟨B1, d1, B2, d2, rfl, hV1, hP1, hb1⟩
  replace hb1 := hide hb1
  have hRV := hide hV1.rd
  have hRP := hide hP1.rd
  clear hV1 hP1 DS
  go_wp2_with (refine mk elInt_ (b := w1.heap.size) (B := w1.heap.size) (w0 := w1) (bl_refl _) (Nat.le_refl _) (Nat.le_refl _) rfl (.tmp 23) (.tmp 23) rfl .i64 .i64 V.length V.length V.length V.length rfl rfl rfl rfl (Nat.le_refl _) (by omega) (by unfold maxLen; omega) ?_; intro w2 hS hb2)
  rw [← hS0.out] at hS
  have hz2 := hide (show w1.heap.size + 1 ≤ w2.heap.size by have := (hS.lt w1.heap.size rfl).2; omega)
  replace hS := hide hS
  replace hb2 := hide hb2
  go_loopw [6, 27] (fun tv iv wr => ∃ (i : Nat) (A1 : Option Addr) (n1 c1 : Nat), tv = .slice A1 n1 c1 ∧ iv = .int .i64 i ∧ i ≤ V.length ∧ n1 = (tbl (V.take i)).length ∧ Ow wr (w1.heap.size + 1) 5 A1 n1 c1 (bys (tbl (V.take i))) ∧ Ow wr w1.heap.size 3 (some ⟨w1.heap.size, 0, none⟩) V.length V.length (ints (sts V i)) ∧ Below w1.heap.size w1 wr) (fun _ iv _ => n + 1 - (intOf iv).toNat)
  case atStart => exact ⟨0, none, 0, 0, rfl, rfl, Nat.zero_le _, rfl, by simpa [tbl] using Ow.nil hz2.out _, hS.out, hb2.out⟩
  case round =>
    clear hS hb2
    obtain ⟨i, A1, n1, c1, rfl, rfl, hi, hn1, hO, hS, hb⟩ := hrel
    have hbd : n1 ≤ 1001 * i := by have := hTl.out i; have h2 : (V.take i).length ≤ i := by simp; omega
                                   rw [hn1]; exact Nat.le_trans this (Nat.mul_le_mul_left _ h2)
    replace hn1 := hide hn1
    by_cases hlt : i < V.length
    · have dl : decide ((i : Int) < (V.length : Int)) = true := by simpa using hlt
      have dl2 : (i : Int) < (V.length : Int) := by omega
      obtain ⟨ad, s, rfl, hx, hc⟩ := rs_at (hRV.out.below hb) hlt
      have hss := hVz'.out s (List.mem_of_getElem? hx)
      have hstep := hide (sts_step V i hlt)
      rw [← hn1.out] at hstep
      have htb := hide (show tbl (V.take (i + 1)) = tbl (V.take i) ++ bIx s ++ [0] by rw [take_snoc hx, tbl_snoc, List.append_assoc])
      have hcs : wr.cell? ⟨w1.heap.size, i, none⟩ = (ints (sts V i))[i]? := hS.cell i hlt
      have hfs := hS.frozen i
      obtain ⟨v1, hv1⟩ : ∃ v1, (ints (sts V i))[i]? = some (.int .i64 v1) := by
        rw [List.getElem?_map]
        exact ⟨_, by rw [List.getElem?_eq_getElem (by rw [hS1.out i hi]; exact hlt)]; rfl⟩
      rw [hv1] at hcs
      have hOs := hide (hO.setLow i (Nat.lt_succ_self _) (.int .i64 n1))
      have hSs := hide (hS.set i (.int .i64 n1))
      have hbs := hide (bl_set (o := i) hb (Nat.le_refl _) (.int .i64 n1))
      rw [hstep.out] at hSs
      have hbz := bIx_len s
      clear hv1 hO hS hb hx
      go_wp2_with (first
        | (at_builtin; refine apS elU8_ Try.underlying9 hOs.out hbs.out (Nat.le_succ _) (.tmp 37) (.tmp 38) s rfl rfl rfl rfl (by omega) ?_; intro A' c' w6 hO6 hb6 hg6
           have hS6 := hide (ow_grown hSs.out hg6 (fun g hg hg2 => by
             have e1 : w1.heap.size = g := by injection hg
             have := (hOs.out.blk hg2).1
             omega))
           clear hg6
           replace hO6 := hide hO6
           replace hb6 := hide hb6)
        | (at_builtin; refine ap1A elU8_ hO6.out hb6.out (Nat.le_succ _) (.tmp 40) (.tmp 41) (.int .u8 0) rfl rfl rfl rfl rfl (by unfold maxLen; omega) (by omega) ?_; intro A7 c7 w7 hO7 hb7 hg7
           have hS7 := hide (hg7.ow (hS6.out.alloc _) (fun g hg hg2 => by
             have e1 : w1.heap.size = g := by injection hg
             have := (hO6.out.blk hg2).1
             omega))
           clear hg7
           rw [← List.map_append, bys_snoc, ← htb.out] at hO7
           replace hO7 := hide hO7
           replace hb7 := hide hb7))
      go_roundw
      case rel => exact ⟨i + 1, A7, _, c7, rfl, by go_num, by omega, by rw [htb.out, List.length_append, List.length_append, hbz, ← hn1.out]; rfl, hO7.out, hS7.out, hb7.out⟩
      case measure => simp [intOf]; omega
    · rename World => wB
      obtain rfl : i = V.length := by omega
      have dl : decide ((V.length : Int) < (V.length : Int)) = false := by simp
      rw [List.take_length] at hO hn1
      clear hbd hlt hz2 hS0
      have hO' := hide hO
      have hS' := hide hS
      have hbB := hide (bel_next hb1.out hb)
      replace hRP := hide (hRP.out.below hb)
      clear hO hS hRV
      go_wp2_with (refine mk elInt_ (b := wB.heap.size) (B := wB.heap.size) (w0 := wB) (bl_refl _) (Nat.le_refl _) (Nat.le_refl _) rfl (.tmp 45) (.tmp 45) rfl .i64 .i64 n n n n rfl rfl rfl rfl (Nat.le_refl _) (by omega) (by unfold maxLen; omega) ?_; intro w3 hI hb3)
      rw [← hI0.out] at hI
      replace hI := hide hI
      replace hb3 := hide hb3
      go_loopw [49] (fun iv wr => ∃ i : Nat, iv = .int .i64 i ∧ i ≤ n ∧ Ow wr wB.heap.size 3 (some ⟨wB.heap.size, 0, none⟩) n n (ints (ixs ss i)) ∧ Below wB.heap.size wB wr) (fun iv _ => n + 1 - (intOf iv).toNat)
      case atStart => exact ⟨0, rfl, Nat.zero_le _, hI.out, hb3.out⟩
      case round =>
        clear hI hb3
        obtain ⟨i, rfl, hi, hI, hb3⟩ := hrel
        by_cases hlt : i < n
        · have dl : decide ((i : Int) < (n : Int)) = true := by simpa using hlt
          have dl2 : (i : Int) < (n : Int) := by omega
          obtain ⟨ad, x, rfl, hx, hc⟩ := ri_at (hRP.out.below hb3) hlt
          have hsx : ss[i]? = some (ss[i]'(by rw [hl'.out]; exact hlt)) := List.getElem?_eq_getElem _
          generalize ss[i]'(by rw [hl'.out]; exact hlt) = s at hsx
          rw [List.getElem?_map, hsx] at hx
          have hpl := hIx.out s (List.mem_of_getElem? hsx)
          have hst := hSt.out s
          have hstep := hide (hIs.out i s hsx)
          have hx' : x = (ixOf V s : Int) := by simpa using hx.symm
          generalize ixOf V s = p at *
          subst hx'
          rw [hst] at hstep
          have dp : (p : Int) < (V.length : Int) := by omega
          have hcp : wr.cell? ⟨w1.heap.size, p, none⟩ = some (.int .i64 (tbl (V.take p)).length) := by
            rw [(hS'.out.below hb3).cell p hpl, List.getElem?_map, sts_at V p hpl]; rfl
          have hci : wr.cell? ⟨wB.heap.size, i, none⟩ = (ints (ixs ss i))[i]? := hI.cell i hlt
          have hfi := hI.frozen i
          obtain ⟨v1, hv1⟩ : ∃ v1, (ints (ixs ss i))[i]? = some (.int .i64 v1) := by
            rw [List.getElem?_map]
            exact ⟨_, by rw [List.getElem?_eq_getElem (by rw [hI1.out i hi]; exact hlt)]; rfl⟩
          rw [hv1] at hci
          have hIs2 := hide (hI.set i (.int .i64 (tbl (V.take p)).length))
          rw [hstep.out] at hIs2
          have hbs := hide (bl_set (o := i) hb3 (Nat.le_refl _) (.int .i64 (tbl (V.take p)).length))
          generalize (tbl (V.take p)).length = tl at *
          clear hx hsx hst hstep hv1 hI hb3
          go_wp2_with fail
          go_roundw
          case rel => exact ⟨i + 1, by go_num, by omega, hIs2.out, hbs.out⟩
          case measure => simp [intOf]; omega
        · obtain rfl : i = n := by omega
          have dl : decide ((i : Int) < (i : Int)) = false := by simp
          have hie := hXe.out
          rw [hl'.out] at hie
          rw [hie] at hI
          have hdj := hide (Dj.low hO'.out hI (Nat.le_refl _))
          have hO9 := hide (hO'.out.below hb3)
          have hsz := hbB.out.size
          have hI9 := hide hI
          have hb9 := hide (bel_next hbB.out hb3)
          clear hie hI hb3
          have hz9 : w.heap.size ≤ w1.heap.size := hb1.out.size
          go_wp2_with fail
          go_ret2
          exact ⟨A1, _, c1, _, _, _, rfl, by rw [hT.out]; exact hO9.out.mono (b' := w.heap.size) (by omega), hI9.out.mono (b' := w.heap.size) (by omega), hdj.out, hb9.out⟩
end ds_
end Go.Proofs.Ytgbojkbhkjameaa

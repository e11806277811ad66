/-
  CONTRACTS OF GO's OWN strings functions that the program calls: Clone, CutPrefix at "<", Cut at ">". Conditions: each theorem's own bound on the string's size.
-/
import Derived.Test.YtjjmkbofddbnnaaGreatDoorTn
import Derived.Lib.Bytealg
import Derived.Lib.BufferWrite
import Derived.Lib.UnsafeStr
import Derived.Laws.MakeOwn
namespace Go.Proofs.YtjjmkbofddbnnaaGreatDoor
open Go.ChangeShapes Go.WideShapes Go.ChangeAt Go.RowKit
set_option linter.unusedVariables false
set_option maxRecDepth 100000
/-- the first '>' by the longest prefix without one. -/
theorem idx62 (l : List UInt8) : Lib.indexByte l 62 = if (l.takeWhile not62).length < l.length then ((l.takeWhile not62).length : Int) else -1 := by
  induction l with
  | nil => rfl
  | cons b l ih =>
    unfold Lib.indexByte
    by_cases hb : b = 62
    · subst hb
      have : not62 62 = false := by decide
      rw [List.takeWhile_cons_of_neg (by simp [this])]
      simp
    · have hn : not62 b = true := by
        unfold not62
        simp only [decide_eq_true_eq]
        intro h
        apply hb
        apply UInt8.toNat_inj.1
        have : (62 : UInt8).toNat = 62 := rfl
        omega
      have hb' : (b == 62) = false := by simpa using hb
      rw [List.takeWhile_cons_of_pos hn, hb', ih]
      have := tw_le not62 l
      by_cases h : (l.takeWhile not62).length < l.length
      · simp [h]
        try (intro h; omega)
      · simp [h]
namespace go_
set_option maxHeartbeats 4000000 in
theorem Clone_ (s : ByteArray) (w : World) (hlim : s.size ≤ 281474976710656) : Calls Tryz.prog 62 #[.string s] w fun e w' => e = .returned (.string s) ∧ Below w.heap.size w w' := by
  by_cases h0 : s.size = 0
  · have hs : s = ⟨#[]⟩ := by
      apply ByteArray.ext
      exact Array.eq_empty_of_size_eq_zero h0
    subst hs
    go_enter Tryz.func62, Tryz.ntmps62
    go_wp2
    go_ret
    exact ⟨rfl, Below.refl _ _⟩
  · have E : ElT Tryz.prog 41 5 (.int .u8 0) 1 := ⟨Tryz.underlying41, by kernel_rfl, rfl⟩
    obtain ⟨i0, hi, hz0, hz1, hz2⟩ := info_parts E.2.1
    have hinfo : (Tryz.prog.info? 5).map (·.size) = some 1 := by rw [hi]; simp [hz1]
    have hco : Tryz.prog.cellsOf 5 = 1 := by simp [Program.cellsOf, hi, hz1]
    obtain ⟨M, hM⟩ : ∃ M, M = madeCells (Value.int .u8 0).cells (((s.size : Nat) : Int).toNat * i0.size) := ⟨_, rfl⟩
    have hMs : M.size = s.size := by rw [hM, size_madeCells, hz1]; simp
    have hmk : ∀ W : World, (Instr.makeSlice 41 (.int .i64 (s.size : Int)) (.int .i64 (s.size : Int))).run Tryz.prog W = .ok (.slice (some ⟨W.heap.size, 0, none⟩) s.size s.size) (W.alloc (.cells M 5)) := fun W => by
      have h := run_make (P := Tryz.prog) W 41 5 i0 (.int .u8 0) E.1 hi hz0 .i64 .i64 (s.size : Int) (s.size : Int) (by omega) (by omega) (by rw [hz2]; omega) (by omega)
      rw [← hM] at h
      simpa using h
    clear hM
    have hcp := Lib.run_copy_row_string (P := Tryz.prog) (w.alloc (.cells M 5)) 41 9 3 5 w.heap.size 0 s.size s.size s M 5 E.1 hinfo (heap_alloc_new w _) (Nat.le_refl _) (by omega)
    obtain ⟨Y, hY⟩ : ∃ Y, Y = (M.toList.take 0 ++ Lib.byteCells s.data.toList ++ M.toList.drop (0 + s.size)).toArray := ⟨_, rfl⟩
    rw [← hY] at hcp
    have hYl : Y.toList = Lib.byteCells s.data.toList := by
      rw [hY, List.toList_toArray, List.take_zero, List.nil_append, List.drop_of_length_le (by rw [Array.length_toList]; omega), List.append_nil]
    have hYs : Y.size = s.size := by rw [← Array.length_toList, hYl, Lib.byteCells_length, ← Lib.size_eq]
    have hgY : ((w.alloc (.cells M 5)).setRow w.heap.size Y).heap[w.heap.size]? = some (.cells Y 5 (0, 0)) := setRow_heap _ _ M _ 5 (0, 0) (heap_alloc_new w _)
    have hne : s.data.toList ≠ [] := fun e => h0 (by rw [Lib.size_eq, e]; rfl)
    have hUS := Lib.run_unsafeString_row (P := Tryz.prog) ((w.alloc (.cells M 5)).setRow w.heap.size Y) 94 3 9 5 Tryz.underlying94 hco w.heap.size Y.size (by unfold World.shape?; rw [hgY]) s.data.toList hne (by rw [← Lib.size_eq]; omega) (by rw [← Lib.size_eq]; omega)
      (fun j x hx => Lib.cells_of_row hgY Y.size j _ (by rw [List.take_of_length_le (by rw [Array.length_toList]; exact Nat.le_refl _), hYl]; simp [Lib.byteCells, hx]))
    rw [← Lib.size_eq] at hUS
    clear hY
    go_enter Tryz.func62, Tryz.ntmps62
    go_wp2
    go_ret
    have hb1 : Below w.heap.size w (w.alloc (.cells M 5)) := (Below.refl _ w).alloc (Nat.le_refl _) _
    have hb2 : Below w.heap.size (w.alloc (.cells M 5)) ((w.alloc (.cells M 5)).setRow w.heap.size Y) := ⟨rfl, rfl, rfl, by simp, fun k hk => setRow_other _ _ _ _ (by omega)⟩
    exact ⟨rfl, Lib.below_freeze (hb1.trans hb2) (p := ⟨w.heap.size, 0, none⟩) (Nat.le_refl _) _⟩
theorem Clone (s : ByteArray) (w : World) (hlim : s.size ≤ 281474976710656) : Calls Tryz.prog 51 #[.string s] w fun e w' => e = .returned (.string s) ∧ Below w.heap.size w w' := by
  have C := hide (fun w => Clone_ s w hlim)
  go_enter Tryz.func51, Tryz.ntmps51
  go_wp2_with (go_at_call 62; refine (C.out _).mono ?_; rintro e w' ⟨rfl, h1⟩)
  go_ret
  exact ⟨rfl, h1⟩
/-- whether the string begins with '<'. -/
theorem CutLt (s : ByteArray) (w : World) (hs : s.size ≤ 1000000) : Calls Tryz.prog 60 #[.string s, .string ⟨#[60]⟩] w fun e w' => w = w' ∧ ((∃ t, byt s = 60 :: t ∧ e = .returned (.tuple #[.string (mkS t), .bool true])) ∨ ((byt s).head? ≠ some 60 ∧ e = .returned (.tuple #[.string s, .bool false]))) := by
  by_cases h0 : 0 < s.size
  · have i1 : (1 : Int) ≤ (s.size : Int) := by omega
    have hx : s.extract 0 1 = ⟨#[s[0]]⟩ := by
      apply byt_inj.1
      rw [byt_extract]
      cases hb : byt s with
      | nil => rw [← len_byt, hb] at h0; simp at h0
      | cons a t =>
        have := get_byt s 0 h0
        simp [hb] at this
        simp [byt, this]
    by_cases h1 : s[0] = 60
    · have q1 : ((s.extract 0 1).toList == (⟨#[60]⟩ : ByteArray).toList) = true := seq_eq (by rw [hx, h1])
      go_enter Tryz.func60, Tryz.ntmps60
      go_wp2
      go_ret2
      refine ⟨rfl, .inl ?_⟩
      cases hb : byt s with
      | nil => rw [← len_byt, hb] at h0; simp at h0
      | cons a t =>
        have := get_byt s 0 h0
        simp [hb] at this
        have ht : mkS t = s.extract 1 s.size := by
          apply byt_inj.1
          rw [byt_mk, byt_extract, hb]
          have : s.size = t.length + 1 := by rw [← len_byt, hb]; rfl
          rw [this]
          simp
        exact ⟨t, by rw [this, h1], by rw [ht]; rfl⟩
    · have q1 : ((s.extract 0 1).toList == (⟨#[60]⟩ : ByteArray).toList) = false := seq_ne (by rw [hx]; intro e; apply h1; simpa using e)
      have q2 : (s[0] == 60) = false := by simpa using h1
      go_enter Tryz.func60, Tryz.ntmps60
      go_wp2
      go_ret2
      refine ⟨rfl, .inr ⟨?_, rfl⟩⟩
      cases hb : byt s with
      | nil => simp
      | cons a t =>
        have := get_byt s 0 h0
        simp [hb] at this
        simp [this, h1]
  · have e : s = ⟨#[]⟩ := by
      apply ByteArray.ext
      exact Array.eq_empty_of_size_eq_zero (by show s.size = 0; omega)
    subst e
    go_enter Tryz.func60, Tryz.ntmps60
    go_wp2
    go_ret2
    exact ⟨rfl, .inr ⟨by simp [byt], rfl⟩⟩
theorem IndexByte_ (s : ByteArray) (c : Int) (w : World) : Calls Tryz.prog 86 #[.string s, .int .u8 c] w fun e w' => e = .returned (.int .i64 (Lib.indexByte (byt s) c.toNat.toUInt8)) ∧ w = w' := by
  go_enter Tryz.func86, Tryz.ntmps86
  go_wp2
  rw [run_callFunc_extern Tryz.func95 (by kernel_rfl) (by kernel_rfl) (by kernel_rfl) (e := Extern.BytealgIndexByte.indexByte) (by kernel_rfl), Lib.run_indexByteString]
  simp only [Result.andThen]
  rw [Oper.upon_value]
  go_wp2
  go_ret
  exact ⟨rfl, rfl⟩
theorem Index62 (s : ByteArray) (w : World) (hs : s.size ≤ 1000000) : Calls Tryz.prog 80 #[.string s, .string ⟨#[62]⟩] w fun e w' => e = .returned (.int .i64 (Lib.indexByte (byt s) 62)) ∧ w = w' := by
  have C := hide (fun w => IndexByte_ s 62 w)
  by_cases h : s = ⟨#[62]⟩
  · have h' := hide h
    have q1 : ([62] == s.toList) = true := by rw [h, ByteArray.toList_eq]; rfl
    clear h
    go_enter Tryz.func80, Tryz.ntmps80
    go_wp2
    go_ret
    exact ⟨reti (by rw [h'.out]; rfl), rfl⟩
  · have q1 : ([62] == s.toList) = false := by
      rw [ByteArray.toList_eq, beq_eq_false_iff_ne]
      intro e
      apply h
      apply byt_inj.1
      exact e.symm
    clear h
    go_enter Tryz.func80, Tryz.ntmps80
    go_wp2_with (go_at_call 86; refine (C.out _).mono ?_; rintro e w' ⟨rfl, rfl⟩)
    go_ret
    exact ⟨rfl, rfl⟩
/-- what lies before the first '>'. -/
theorem CutGt_ (s : ByteArray) (w : World) (hs : s.size ≤ 1000000) : Calls Tryz.prog 71 #[.string s, .string ⟨#[62]⟩] w fun e w' => Below w.heap.size w w' ∧ ((((byt s).takeWhile not62).length < s.size ∧ ∃ r, e = .returned (.tuple #[.string (mkS ((byt s).takeWhile not62)), .string r, .bool true])) ∨ (¬ ((byt s).takeWhile not62).length < s.size ∧ ∃ a r, e = .returned (.tuple #[.string a, .string r, .bool false]))) := by
  have I := hide (fun w => Index62 s w hs)
  rw [idx62, len_byt] at I
  have hme : mkS ((byt s).takeWhile not62) = s.extract 0 ((byt s).takeWhile not62).length := by
    apply byt_inj.1
    rw [byt_mk, byt_extract]
    simp
    exact (take_tw _).symm
  have Hme := hide hme
  clear hme
  have hqq := hide (rfl : ((byt s).takeWhile not62).length = ((byt s).takeWhile not62).length)
  by_cases h : ((byt s).takeWhile not62).length < s.size
  · rw [if_pos h] at I
    obtain ⟨q, hq⟩ : ∃ q, ((byt s).takeWhile not62).length = q := ⟨_, rfl⟩
    rw [hq] at I Hme h
    generalize (byt s).takeWhile not62 = u at *
    replace hq := hide hq
    clear hqq
    have i1 : (q : Int) ≤ (s.size : Int) := by omega
    have i2 : (q : Int) + 1 ≤ (s.size : Int) := by omega
    have i3 : (0 : Int) ≤ (q : Int) + 1 := by omega
    have e1 : IntKind.i64.wrap ((q : Int) + 1) = (q : Int) + 1 := by rw [IntKind.wrap_i64]; omega
    go_enter Tryz.func71, Tryz.ntmps71
    go_wp2_with ((go_at_call 80; refine (I.out _).mono ?_; rintro e w' ⟨rfl, rfl⟩) )
    go_quiet (fail)
    go_wp2
    go_ret3
    exact ⟨bel_drewN (bl_refl _) _, .inl ⟨by rw [hq.out]; exact h, _, by rw [Hme.out]; rfl⟩⟩
  · rw [if_neg h] at I
    have h' := hide h
    clear h
    generalize (byt s).takeWhile not62 = u at *
    go_enter Tryz.func71, Tryz.ntmps71
    go_wp2_with ((go_at_call 80; refine (I.out _).mono ?_; rintro e w' ⟨rfl, rfl⟩) )
    go_ret3
    exact ⟨bl_refl _, .inr ⟨h'.out, _, _, rfl⟩⟩
/-- what lies before the first '>'. -/
theorem CutGt (s : ByteArray) (w : World) (hs : s.size ≤ 1000000) : Calls Tryz.prog 61 #[.string s, .string ⟨#[62]⟩] w fun e w' => Below w.heap.size w w' ∧ ((((byt s).takeWhile not62).length < s.size ∧ ∃ r, e = .returned (.tuple #[.string (mkS ((byt s).takeWhile not62)), .string r, .bool true])) ∨ (¬ ((byt s).takeWhile not62).length < s.size ∧ ∃ a r, e = .returned (.tuple #[.string a, .string r, .bool false]))) := by
  have C := hide (fun w => CutGt_ s w hs)
  go_enter Tryz.func61, Tryz.ntmps61
  go_wp2_with (go_at_call 71; refine (C.out _).mono ?_; rintro e w' ⟨h1, (⟨h2, r, rfl⟩ | ⟨h2, a, r, rfl⟩)⟩)
  · go_ret3
    exact ⟨h1, .inl ⟨h2, r, rfl⟩⟩
  · go_ret3
    exact ⟨h1, .inr ⟨h2, a, r, rfl⟩⟩
end go_
end Go.Proofs.YtjjmkbofddbnnaaGreatDoor

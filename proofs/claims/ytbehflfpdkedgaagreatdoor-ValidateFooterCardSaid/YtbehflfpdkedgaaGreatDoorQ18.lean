/-
  Texts of mine in one file: Tz. Their conditions stand in the theorems.
-/
import Derived.Test.YtbehflfpdkedgaaGreatDoorQ05
import Derived.Lib.Bytealg
import Derived.Lib.BufferWrite
import Derived.Lib.UnsafeStr
import Derived.Laws.MakeOwn
import Derived.Test.YtbehflfpdkedgaaGreatDoorQ16
namespace Go.Proofs.YtbehflfpdkedgaaGreatDoor
set_option linter.unusedVariables false
set_option linter.unusedSimpArgs false
set_option maxRecDepth 100000
set_option maxHeartbeats 16000000
open Go.ChangeShapes Go.WideShapes Go.ChangeAt Go.RowKit
theorem idx62 (l : List UInt8) : Lib.indexByte l 62 = if (l.takeWhile not62).length < l.length then ((l.takeWhile not62).length : Int) else -1 := by
 induction l with
 | nil => rfl
 | cons b l ih =>
   unfold Lib.indexByte
   by_cases hb : b = 62
   ·subst hb
    have : not62 62 = false := by decide
    rw [List.takeWhile_cons_of_neg (by simp [this])]
    simp
   ·have hn : not62 b = true := by
     unfold not62
     simp only [decide_eq_true_eq]
     intro h
     apply hb
     apply UInt8.toNat_inj.1
     have : (62 : UInt8).toNat = 62 := rfl
     omega
    have hb' : (b == 62) = false := by simpa using hb
    rw [List.takeWhile_cons_of_pos hn, hb', ih]
    have := tw_le not62 l
    by_cases h : (l.takeWhile not62).length < l.length
    ·simp [h]
     try (intro h; omega)
    ·simp [h]
namespace go_
theorem Clone_ (s : ByteArray) (w : World) (hlim : s.size ≤ 281474976710656) : Calls Tryz.prog 167 #[.string s] w fun e w' => e = .returned (.string s) ∧ Below w.heap.size w w' := by
 by_cases h0 : s.size = 0
 ·have hs : s = ⟨#[]⟩ := by
   apply ByteArray.ext
   exact Array.eq_empty_of_size_eq_zero h0
  subst hs
  go_enter Tryz.func167, Tryz.ntmps167
  go_wp2
  go_ret
  exact ⟨rfl, Below.refl _ _⟩
 ·have E : ElT Tryz.prog 23 5 (.int .u8 0) 1 := ⟨Tryz.underlying23, by kernel_rfl, rfl⟩
  obtain ⟨i0, hi, hz0, hz1, hz2⟩ := info_parts E.2.1
  have hinfo : (Tryz.prog.info? 5).map (·.size) = some 1 := by rw [hi]; simp [hz1]
  have hco : Tryz.prog.cellsOf 5 = 1 := by simp [Program.cellsOf, hi, hz1]
  obtain ⟨M, hM⟩ : ∃ M, M = madeCells (Value.int .u8 0).cells (((s.size : Nat) : Int).toNat * i0.size) := ⟨_, rfl⟩
  have hMs : M.size = s.size := by rw [hM, size_madeCells, hz1]; simp
  have hmk : ∀ W : World, (Instr.makeSlice 23 (.int .i64 (s.size : Int)) (.int .i64 (s.size : Int))).run Tryz.prog W = .ok (.slice (some ⟨W.heap.size, 0, none⟩) s.size s.size) (W.alloc (.cells M 5)) := fun W => by
   have h := run_make (P := Tryz.prog) W 23 5 i0 (.int .u8 0) E.1 hi hz0 .i64 .i64 (s.size : Int) (s.size : Int) (by omega) (by omega) (by rw [hz2]; omega) (by omega)
   rw [← hM] at h
   simpa using h
  clear hM
  have hcp := Lib.run_copy_row_string (P := Tryz.prog) (w.alloc (.cells M 5)) 23 9 3 5 w.heap.size 0 s.size s.size s M 5 E.1 hinfo (heap_alloc_new w _) (Nat.le_refl _) (by omega)
  obtain ⟨Y, hY⟩ : ∃ Y, Y = (M.toList.take 0 ++ Lib.byteCells s.data.toList ++ M.toList.drop (0 + s.size)).toArray := ⟨_, rfl⟩
  rw [← hY] at hcp
  have hYl : Y.toList = Lib.byteCells s.data.toList := by
   rw [hY, List.toList_toArray, List.take_zero, List.nil_append, List.drop_of_length_le (by rw [Array.length_toList]; omega), List.append_nil]
  have hYs : Y.size = s.size := by rw [← Array.length_toList, hYl, Lib.byteCells_length, ← Lib.size_eq]
  have hgY : ((w.alloc (.cells M 5)).setRow w.heap.size Y).heap[w.heap.size]? = some (.cells Y 5 (0, 0)) := setRow_heap _ _ M _ 5 (0, 0) (heap_alloc_new w _)
  have hne : s.data.toList ≠ [] := fun e => h0 (by rw [Lib.size_eq, e]; rfl)
  have hUS := Lib.run_unsafeString_row (P := Tryz.prog) ((w.alloc (.cells M 5)).setRow w.heap.size Y) 194 3 9 5 Tryz.underlying194 hco w.heap.size Y.size (by unfold World.shape?; rw [hgY]) s.data.toList hne (by rw [← Lib.size_eq]; omega) (by rw [← Lib.size_eq]; omega)
   (fun j x hx => Lib.cells_of_row hgY Y.size j _ (by rw [List.take_of_length_le (by rw [Array.length_toList]; exact Nat.le_refl _), hYl]; simp [Lib.byteCells, hx]))
  rw [← Lib.size_eq] at hUS
  clear hY
  go_enter Tryz.func167, Tryz.ntmps167
  go_wp2
  go_ret
  have hb1 : Below w.heap.size w (w.alloc (.cells M 5)) := (Below.refl _ w).alloc (Nat.le_refl _) _
  have hb2 : Below w.heap.size (w.alloc (.cells M 5)) ((w.alloc (.cells M 5)).setRow w.heap.size Y) := ⟨rfl, rfl, rfl, by simp, fun k hk => setRow_other _ _ _ _ (by omega)⟩
  exact ⟨rfl, Lib.below_freeze (hb1.trans hb2) (p := ⟨w.heap.size, 0, none⟩) (Nat.le_refl _) _⟩
theorem Clone (s : ByteArray) (w : World) (hlim : s.size ≤ 281474976710656) : Calls Tryz.prog 135 #[.string s] w fun e w' => e = .returned (.string s) ∧ Below w.heap.size w w' := by
 have C := hide (fun w => Clone_ s w hlim)
 go_enter Tryz.func135, Tryz.ntmps135
 go_wp2_with (go_at_call 167; refine (C.out _).mono ?_; rintro e w' ⟨rfl, h1⟩)
 go_ret
 exact ⟨rfl, h1⟩
theorem CutLt (s : ByteArray) (w : World) (hs : s.size ≤ 1000000) : Calls Tryz.prog 169 #[.string s, .string ⟨#[60]⟩] w fun e w' => w = w' ∧ ((∃ t, byt s = 60 :: t ∧ e = .returned (.tuple #[.string (mkS t), .bool true])) ∨ ((byt s).head? ≠ some 60 ∧ e = .returned (.tuple #[.string s, .bool false]))) := by
 by_cases h0 : 0 < s.size
 ·have i1 : (1 : Int) ≤ (s.size : Int) := by omega
  have hx : s.extract 0 1 = ⟨#[s[0]]⟩ := by
   apply byt_inj.1
   rw [byt_extract]
   cases hb : byt s with
   | nil => rw [← len_byt, hb] at h0; simp at h0
   | cons a t =>
     have := get_byt s 0 h0
     simp [hb] at this
     simp [byt, this]
  by_cases h1 : s[0] = 60
  ·have q1 : ((s.extract 0 1).toList == (⟨#[60]⟩ : ByteArray).toList) = true := seq_eq (by rw [hx, h1])
   go_enter Tryz.func169, Tryz.ntmps169
   go_wp2
   go_ret2
   refine ⟨rfl, .inl ?_⟩
   cases hb : byt s with
   | nil => rw [← len_byt, hb] at h0; simp at h0
   | cons a t =>
     have := get_byt s 0 h0
     simp [hb] at this
     have ht : mkS t = s.extract 1 s.size := by
      apply byt_inj.1
      rw [byt_mk, byt_extract, hb]
      have : s.size = t.length + 1 := by rw [← len_byt, hb]; rfl
      rw [this]
      simp
     exact ⟨t, by rw [this, h1], by rw [ht]; rfl⟩
  ·have q1 : ((s.extract 0 1).toList == (⟨#[60]⟩ : ByteArray).toList) = false := seq_ne (by rw [hx]; intro e; apply h1; simpa using e)
   have q2 : (s[0] == 60) = false := by simpa using h1
   go_enter Tryz.func169, Tryz.ntmps169
   go_wp2
   go_ret2
   refine ⟨rfl, .inr ⟨?_, rfl⟩⟩
   cases hb : byt s with
   | nil => simp
   | cons a t =>
     have := get_byt s 0 h0
     simp [hb] at this
     simp [this, h1]
 ·have e : s = ⟨#[]⟩ := by
   apply ByteArray.ext
   exact Array.eq_empty_of_size_eq_zero (by show s.size = 0; omega)
  subst e
  go_enter Tryz.func169, Tryz.ntmps169
  go_wp2
  go_ret2
  exact ⟨rfl, .inr ⟨by simp [byt], rfl⟩⟩
theorem IndexByte_ (s : ByteArray) (c : Int) (w : World) : Calls Tryz.prog 204 #[.string s, .int .u8 c] w fun e w' => e = .returned (.int .i64 (Lib.indexByte (byt s) c.toNat.toUInt8)) ∧ w = w' := by
 go_enter Tryz.func204, Tryz.ntmps204
 go_wp2
 rw [run_callFunc_extern Tryz.func217 (by kernel_rfl) (by kernel_rfl) (by kernel_rfl) (e := Extern.BytealgIndexByte.indexByte) (by kernel_rfl), Lib.run_indexByteString]
 simp only [Result.andThen]
 rw [Oper.upon_value]
 go_wp2
 go_ret
 exact ⟨rfl, rfl⟩
theorem Index62 (s : ByteArray) (w : World) (hs : s.size ≤ 1000000) : Calls Tryz.prog 195 #[.string s, .string ⟨#[62]⟩] w fun e w' => e = .returned (.int .i64 (Lib.indexByte (byt s) 62)) ∧ w = w' := by
 have C := hide (fun w => IndexByte_ s 62 w)
 by_cases h : s = ⟨#[62]⟩
 ·have h' := hide h
  have q1 : ([62] == s.toList) = true := by rw [h, ByteArray.toList_eq]; rfl
  clear h
  go_enter Tryz.func195, Tryz.ntmps195
  go_wp2
  go_ret
  exact ⟨reti (by rw [h'.out]; rfl), rfl⟩
 ·have q1 : ([62] == s.toList) = false := by
   rw [ByteArray.toList_eq, beq_eq_false_iff_ne]
   intro e
   apply h
   apply byt_inj.1
   exact e.symm
  clear h
  go_enter Tryz.func195, Tryz.ntmps195
  go_wp2_with (go_at_call 204; refine (C.out _).mono ?_; rintro e w' ⟨rfl, rfl⟩)
  go_ret
  exact ⟨rfl, rfl⟩
theorem CutGt_ (s : ByteArray) (w : World) (hs : s.size ≤ 1000000) : Calls Tryz.prog 187 #[.string s, .string ⟨#[62]⟩] w fun e w' => Below w.heap.size w w' ∧ ((((byt s).takeWhile not62).length < s.size ∧ ∃ r, e = .returned (.tuple #[.string (mkS ((byt s).takeWhile not62)), .string r, .bool true])) ∨ (¬ ((byt s).takeWhile not62).length < s.size ∧ ∃ a r, e = .returned (.tuple #[.string a, .string r, .bool false]))) := by
 have I := hide (fun w => Index62 s w hs)
 rw [idx62, len_byt] at I
 have hme : mkS ((byt s).takeWhile not62) = s.extract 0 ((byt s).takeWhile not62).length := by
  apply byt_inj.1
  rw [byt_mk, byt_extract]
  simp
  exact (take_tw _).symm
 have Hme := hide hme
 clear hme
 have hqq := hide (rfl : ((byt s).takeWhile not62).length = ((byt s).takeWhile not62).length)
 by_cases h : ((byt s).takeWhile not62).length < s.size
 ·rw [if_pos h] at I
  obtain ⟨q, hq⟩ : ∃ q, ((byt s).takeWhile not62).length = q := ⟨_, rfl⟩
  rw [hq] at I Hme h
  generalize (byt s).takeWhile not62 = u at *
  replace hq := hide hq
  clear hqq
  have i1 : (q : Int) ≤ (s.size : Int) := by omega
  have i2 : (q : Int) + 1 ≤ (s.size : Int) := by omega
  have i3 : (0 : Int) ≤ (q : Int) + 1 := by omega
  have e1 : IntKind.i64.wrap ((q : Int) + 1) = (q : Int) + 1 := by rw [IntKind.wrap_i64]; omega
  go_enter Tryz.func187, Tryz.ntmps187
  go_wp2_with ((go_at_call 195; refine (I.out _).mono ?_; rintro e w' ⟨rfl, rfl⟩) )
  go_quiet (fail)
  go_wp2
  go_ret3
  exact ⟨bel_drewN (bl_refl _) _, .inl ⟨by rw [hq.out]; exact h, _, by rw [Hme.out]; rfl⟩⟩
 ·rw [if_neg h] at I
  have h' := hide h
  clear h
  generalize (byt s).takeWhile not62 = u at *
  go_enter Tryz.func187, Tryz.ntmps187
  go_wp2_with ((go_at_call 195; refine (I.out _).mono ?_; rintro e w' ⟨rfl, rfl⟩) )
  go_ret3
  exact ⟨bl_refl _, .inr ⟨h'.out, _, _, rfl⟩⟩
theorem CutGt (s : ByteArray) (w : World) (hs : s.size ≤ 1000000) : Calls Tryz.prog 172 #[.string s, .string ⟨#[62]⟩] w fun e w' => Below w.heap.size w w' ∧ ((((byt s).takeWhile not62).length < s.size ∧ ∃ r, e = .returned (.tuple #[.string (mkS ((byt s).takeWhile not62)), .string r, .bool true])) ∨ (¬ ((byt s).takeWhile not62).length < s.size ∧ ∃ a r, e = .returned (.tuple #[.string a, .string r, .bool false]))) := by
 have C := hide (fun w => CutGt_ s w hs)
 go_enter Tryz.func172, Tryz.ntmps172
 go_wp2_with (go_at_call 187; refine (C.out _).mono ?_; rintro e w' ⟨h1, (⟨h2, r, rfl⟩ | ⟨h2, a, r, rfl⟩)⟩)
 ·go_ret3
  exact ⟨h1, .inl ⟨h2, r, rfl⟩⟩
 ·go_ret3
  exact ⟨h1, .inr ⟨h2, a, r, rfl⟩⟩
end go_
theorem alphaI_hi (x : Int) (h : 128 ≤ x) : alphaI x = false := by unfold alphaI; simp; omega
theorem nameI_hi (x : Int) (h : 128 ≤ x) : nameI x = false := by unfold nameI; rw [alphaI_hi x h]; simp; omega
def unw (l : List UInt8) : List UInt8 × Nat :=
 match l with
 | [] => ([], 0)
 | a :: t => if a.toNat = 60 then (if (t.takeWhile not62).length < t.length then (t.takeWhile not62, (t.takeWhile not62).length + 2) else ([], 0)) else (l.takeWhile alpha, letters l)
theorem unw_parse (l : List UInt8) : tnParse l = if nameOk (unw l).1 then some (unw l) else none := by
 cases l with
 | nil => rfl
 | cons a t =>
   unfold tnParse unw
   by_cases ha : a.toNat = 60
   ·simp only [if_pos ha]
    by_cases hq : (t.takeWhile not62).length < t.length
    ·simp only [hq, true_and, if_true]
    ·simp only [hq, false_and, if_false]
     rfl
   ·simp only [if_neg ha]
    rfl
theorem unw_le (l : List UInt8) : (unw l).1.length ≤ l.length ∧ (unw l).2 ≤ l.length + 1 := by
 cases l with
 | nil => simp [unw]
 | cons a t =>
   have h1 := tw_le not62 t
   have h2 := tw_le alpha (a :: t)
   have e : unw (a :: t) = if a.toNat = 60 then (if (t.takeWhile not62).length < t.length then (t.takeWhile not62, (t.takeWhile not62).length + 2) else ([], 0)) else ((a :: t).takeWhile alpha, letters (a :: t)) := rfl
   rw [e]
   clear e
   unfold letters
   generalize (a :: t).takeWhile alpha = z at *
   simp only [List.length_cons] at *
   by_cases ha : a.toNat = 60
   ·rw [if_pos ha]
    by_cases hq : (t.takeWhile not62).length < t.length
    ·rw [if_pos hq]; exact ⟨by show (t.takeWhile not62).length ≤ _; omega, by show (t.takeWhile not62).length + 2 ≤ _; omega⟩
    ·rw [if_neg hq]; exact ⟨Nat.zero_le _, Nat.zero_le _⟩
   ·rw [if_neg ha]; exact ⟨h2, by show z.length ≤ _; omega⟩
theorem enters {P : Program} {f : FuncId} {fn : Func} (hf : P.funcs[f]? = some fn) (hname : (fn.name == "runtime.NumGoroutine") = false) (hb : fn.body.isSome = true) (args : Array Value) (w : World) : (callFunc f args).run P w = .ok (.enter f args) w := by
 have h1 : fn.name ≠ "runtime.NumGoroutine" := by simpa using hname
 obtain ⟨c, hc⟩ := Option.isSome_iff_exists.1 hb
 simp [callFunc, hf, h1, hc]
namespace tn_
theorem IsAlpha_ (x : Int) (w : World) (h0 : 0 ≤ x) (h1 : x < 256) : Calls Tryz.prog 171 #[.int .u8 x] w fun e w' => e = .returned (.bool (alphaI x)) ∧ w = w' := by
 by_cases h1 : 65 ≤ x
 all_goals by_cases h2 : x ≤ 90
 all_goals by_cases h3 : 97 ≤ x
 all_goals
  go_enter Tryz.func171, Tryz.ntmps171
  go_wp2
  go_ret
  exact ⟨retb (by unfold alphaI; simp [h1, h2, h3] <;> omega), rfl⟩
theorem isNameByte_ (x : Int) (w : World) (h0 : 0 ≤ x) (h1 : x < 256) : Calls Tryz.prog 173 #[.int .u8 x] w fun e w' => e = .returned (.bool (nameI x)) ∧ w = w' := by
 have C := hide (fun w => IsAlpha_ x w h0 h1)
 obtain ⟨r, hr⟩ : ∃ r, r = nameI x := ⟨_, rfl⟩
 rw [← hr]
 unfold nameI at hr
 obtain ⟨a, ha⟩ : ∃ a, a = alphaI x := ⟨_, rfl⟩
 rw [← ha] at C hr
 clear ha
 replace hr := hide hr
 cases a
 ·by_cases h2 : 48 ≤ x
  all_goals by_cases h3 : x ≤ 57
  all_goals rcases (show x = 43 ∨ x = 45 ∨ ((x == 43) = false ∧ (x == 45) = false) by by_cases a : x = 43 <;> by_cases b : x = 45 <;> simp [a, b]) with rfl | rfl | ⟨h4, h5⟩
  all_goals first
   | omega
   | (go_enter Tryz.func173, Tryz.ntmps173
      go_wp2_with (go_at_call 171; refine (C.out _).mono ?_; rintro e w' ⟨rfl, rfl⟩)
      go_ret
      exact ⟨retb (by rw [hr.out, Bool.eq_iff_iff]; (try rw [beq_eq_false_iff_ne] at h4 h5); simp; try omega), rfl⟩)
 ·go_enter Tryz.func173, Tryz.ntmps173
  go_wp2_with (go_at_call 171; refine (C.out _).mono ?_; rintro e w' ⟨rfl, rfl⟩)
  go_ret
  exact ⟨retb (by rw [hr.out]; simp), rfl⟩
theorem span_ (F : FuncId) (f : Int → Bool) (p : UInt8 → Bool) (hp : ∀ c : UInt8, p c = f c.toNat) (hf : ∀ x, 128 ≤ x → f x = false) (hC : ∀ args w, (callFunc F args).run Tryz.prog w = .ok (.enter F args) w) (hF : ∀ x w, 0 ≤ x → x < 256 → Calls Tryz.prog F #[.int .u8 x] w fun e w' => e = .returned (.bool (f x)) ∧ w = w')
 (s : ByteArray) (w : World) (hs : s.size ≤ maxLen) : Calls Tryz.prog 170 #[.string s, .func (.func F) #[] #[]] w fun e w' => e = .returned (.int .i64 ((byt s).takeWhile p).length) ∧ Below w.heap.size w w' := by
 obtain ⟨n, hn, hle, hin, hout⟩ := pre_facts p s
 have L := hide hF
 have E := hide hC
 have H := hide hf
 rw [hn]
 have hin' := hide (fun k (h : k < s.size) (hk : k < n) => (hp s[k]).symm.trans (hin k h hk))
 have hout' := hide (fun h : n < s.size => (hp s[n]).symm.trans (hout h))
 clear hn hin hout hp hF hf hC
 go_enter Tryz.func170, Tryz.ntmps170
 go_wp2_with fail
 go_loopw [5] (fun iv wr => ∃ k : Nat, k ≤ n ∧ wr = w.iter s k) (fun _ wr => s.size - wr.iterPos w.heap.size)
 case atStart => exact ⟨0, by omega, rfl⟩
 case round =>
  obtain ⟨k, hk, rfl⟩ := hrel
  by_cases hks : k < s.size
  ·have hnx := fun ty => next_in (P := Tryz.prog) w s k ty hks
   have hc := (s[k]).toNat_lt
   obtain ⟨e1, e2⟩ := rn_test H.out hks
   by_cases hlt : k < n
   ·have hi : f (s[k].toNat : Int) = true := hin'.out k hks hlt
    rw [e2 hi] at hnx
    obtain ⟨x, hx⟩ : ∃ x : Int, (s[k].toNat : Int) = x := ⟨_, rfl⟩
    rw [hx] at hi
    have Lr := hide (fun w => L.out x w (by omega) (by omega))
    rw [hi] at Lr
    generalize rn s k = r at *
    clear e1 e2 hi hc
    go_wp2_with fail
    rw [E.out, Oper.upon_enter]
    refine (Lr.out _).mono ?_
    rintro e w' ⟨rfl, rfl⟩
    go_wp2_with fail
    go_roundw
    case rel => exact ⟨k + 1, by omega, rfl⟩
    case measure => simp; omega
   ·obtain rfl : k = n := by omega
    have hi : f (s[k].toNat : Int) = false := hout'.out hks
    obtain ⟨x, hx⟩ : ∃ x : Int, (s[k].toNat : Int) = x := ⟨_, rfl⟩
    rw [hx] at hi
    have Lr := hide (fun w => L.out x w (by omega) (by omega))
    rw [hi] at Lr
    generalize rn s k = r at *
    generalize rw_ s k = y at *
    clear e1 e2 hi hc
    go_wp2_with fail
    rw [E.out, Oper.upon_enter]
    refine (Lr.out _).mono ?_
    rintro e w' ⟨rfl, rfl⟩
    go_wp2_with fail
    go_ret
    exact ⟨rfl, iter_below _ _ _⟩
  ·obtain rfl : k = n := by omega
   have hnx := fun ty => run_next_end (P := Tryz.prog) w s k ty hks
   go_wp2_with fail
   go_ret
   exact ⟨reti (by omega), iter_below _ _ _⟩
theorem spanA (s : ByteArray) (w : World) (hs : s.size ≤ maxLen) : Calls Tryz.prog 170 #[.string s, .func (.func 171) #[] #[]] w fun e w' => e = .returned (.int .i64 (letters (byt s))) ∧ Below w.heap.size w w' :=
 span_ 171 alphaI alpha (fun _ => rfl) alphaI_hi (enters Tryz.func171 (by kernel_rfl) (by kernel_rfl)) IsAlpha_ s w hs
theorem spanN (s : ByteArray) (w : World) (hs : s.size ≤ maxLen) : Calls Tryz.prog 170 #[.string s, .func (.func 173) #[] #[]] w fun e w' => e = .returned (.int .i64 ((byt s).takeWhile nameB).length) ∧ Below w.heap.size w w' :=
 span_ 173 nameI nameB (fun _ => rfl) nameI_hi (enters Tryz.func173 (by kernel_rfl) (by kernel_rfl)) isNameByte_ s w hs
theorem Valid (s : ByteArray) (w : World) (hs : s.size ≤ 1000000) : Calls Tryz.prog 142 #[.string s] w fun e w' => e = .returned (.bool (nameOk (byt s))) ∧ Below w.heap.size w w' := by
 have C := hide (fun w => spanN s w (by unfold maxLen; omega))
 have hr := hide (show nameOk (byt s) = (decide (3 ≤ s.size) && decide (s.size ≤ 255) && decide (((byt s).takeWhile nameB).length = s.size)) by
  unfold nameOk
  rw [all_tw, len_byt])
 generalize nameOk (byt s) = r at *
 generalize ((byt s).takeWhile nameB).length = q at *
 by_cases h1 : 3 ≤ s.size
 ·have i1 : (3 : Int) ≤ (s.size : Int) := by omega
  by_cases h2 : s.size ≤ 255
  ·have i2 : (s.size : Int) ≤ 255 := by omega
   go_enter Tryz.func142, Tryz.ntmps142
   go_wp2_with (go_at_call 170; refine (C.out _).mono ?_; rintro e w' ⟨rfl, h3⟩)
   all_goals go_ret
   all_goals exact ⟨retb (by rw [hr.out, Bool.eq_iff_iff]; simp; omega), h3⟩
  ·have i2 : ¬ (s.size : Int) ≤ 255 := by omega
   go_enter Tryz.func142, Tryz.ntmps142
   go_wp2_with fail
   go_ret
   exact ⟨retb (by rw [hr.out]; simp [h2]), bl_refl _⟩
 ·have i1 : ¬ (3 : Int) ≤ (s.size : Int) := by omega
  go_enter Tryz.func142, Tryz.ntmps142
  go_wp2_with fail
  go_ret
  exact ⟨retb (by rw [hr.out]; simp [h1]), bl_refl _⟩
theorem unwrap_ (s : ByteArray) (w : World) (hs : s.size ≤ 1000000) : Calls Tryz.prog 141 #[.string s] w fun e w' => e = .returned (.tuple #[.string (mkS (unw (byt s)).1), .int .i64 (unw (byt s)).2]) ∧ Below w.heap.size w w' := by
 have A := hide (fun w => go_.CutLt s w hs)
 by_cases h : (byt s).head? = some 60
 ·obtain ⟨t, ht⟩ : ∃ t, byt s = 60 :: t := by
   cases hb : byt s with
   | nil => rw [hb] at h; cases h
   | cons a t => rw [hb] at h; simp at h; exact ⟨t, by rw [h]⟩
  have hl : (mkS t).size = t.length := size_mk t
  have hlen : s.size = t.length + 1 := by rw [← len_byt, ht]; rfl
  have B := hide (fun w => go_.CutGt (mkS t) w (by omega))
  rw [byt_mk, hl] at B
  have hu : unw (byt s) = if (t.takeWhile not62).length < t.length then (t.takeWhile not62, (t.takeWhile not62).length + 2) else ([], 0) := by rw [ht]; rfl
  rw [hu]
  have hql := tw_le not62 t
  have A' : ∀ w, Calls Tryz.prog 169 #[.string s, .string ⟨#[60]⟩] w fun e w' => w = w' ∧ e = .returned (.tuple #[.string (mkS t), .bool true]) := fun w => (A.out w).mono fun e w' hh => ⟨hh.1, by
   rcases hh.2 with ⟨t', h1, h2⟩ | ⟨h1, h2⟩
   ·rw [ht] at h1; cases h1; exact h2
   ·exact absurd h h1⟩
  replace A' := hide A'
  clear A hl h hu ht
  have hsz : (mkS (t.takeWhile not62)).size = (t.takeWhile not62).length := size_mk _
  generalize t.takeWhile not62 = u at *
  obtain ⟨q, hq⟩ : ∃ q, u.length = q := ⟨_, rfl⟩
  rw [hq] at B hql hsz ⊢
  replace hq := hide hq
  have e1 : IntKind.i64.wrap (1 + (q : Int)) = 1 + (q : Int) := by rw [IntKind.wrap_i64]; omega
  have e2 : IntKind.i64.wrap (1 + (q : Int) + 1) = 1 + (q : Int) + 1 := by rw [IntKind.wrap_i64]; omega
  by_cases hq : q < t.length
  ·have B' : ∀ w, Calls Tryz.prog 172 #[.string (mkS t), .string ⟨#[62]⟩] w fun e w' => Below w.heap.size w w' ∧ ∃ r, e = .returned (.tuple #[.string (mkS u), .string r, .bool true]) := fun w => (B.out w).mono fun e w' hh => ⟨hh.1, by
    rcases hh.2 with ⟨_, h2⟩ | ⟨h1, _⟩
    ·exact h2
    ·exact absurd hq h1⟩
   replace B' := hide B'
   clear B
   rw [if_pos hq]
   replace hq := hide hq
   go_enter Tryz.func141, Tryz.ntmps141
   go_wp2_with (first
    | (go_at_call 169; refine (A'.out _).mono ?_; rintro e w' ⟨rfl, rfl⟩)
    | (go_at_call 172; refine (B'.out _).mono ?_; rintro e w2 ⟨h4, r, rfl⟩))
   go_ret2
   exact ⟨retV (by show _ = Value.tuple #[_, .int .i64 ((q + 2 : Nat) : Int)]; rw [show ((q + 2 : Nat) : Int) = 1 + (q : Int) + 1 by omega]; rfl), h4⟩
  ·have B' : ∀ w, Calls Tryz.prog 172 #[.string (mkS t), .string ⟨#[62]⟩] w fun e w' => Below w.heap.size w w' ∧ ∃ a r, e = .returned (.tuple #[.string a, .string r, .bool false]) := fun w => (B.out w).mono fun e w' hh => ⟨hh.1, by
    rcases hh.2 with ⟨h1, _⟩ | ⟨_, h2⟩
    ·exact absurd h1 hq
    ·exact h2⟩
   replace B' := hide B'
   clear B
   rw [if_neg hq]
   replace hq := hide hq
   go_enter Tryz.func141, Tryz.ntmps141
   go_wp2_with (first
    | (go_at_call 169; refine (A'.out _).mono ?_; rintro e w' ⟨rfl, rfl⟩)
    | (go_at_call 172; refine (B'.out _).mono ?_; rintro e w2 ⟨h4, a, r, rfl⟩))
   go_ret2
   exact ⟨rfl, h4⟩
 ·have A' : ∀ w, Calls Tryz.prog 169 #[.string s, .string ⟨#[60]⟩] w fun e w' => w = w' ∧ e = .returned (.tuple #[.string s, .bool false]) := fun w => (A.out w).mono fun e w' hh => ⟨hh.1, by
   rcases hh.2 with ⟨t', h1, h2⟩ | ⟨h1, h2⟩
   ·rw [h1] at h; simp at h
   ·exact h2⟩
  replace A' := hide A'
  have L := hide (fun w => spanA s w (by unfold maxLen; omega))
  have hu : unw (byt s) = ((byt s).takeWhile alpha, letters (byt s)) := by
   cases hb : byt s with
   | nil => rfl
   | cons a t =>
     rw [hb] at h
     have ha : ¬ a.toNat = 60 := by
      intro h60
      apply h
      simp
      exact UInt8.toNat_inj.1 h60
     simp only [unw, if_neg ha]
  have hql : letters (byt s) ≤ s.size := by have := tw_le alpha (byt s); rw [len_byt] at this; exact this
  have hme : mkS ((byt s).takeWhile alpha) = s.extract 0 (letters (byt s)) := by
   apply byt_inj.1
   rw [byt_mk, byt_extract]
   simp
   exact (take_tw _).symm
  rw [hu]
  simp only [hme]
  generalize letters (byt s) = q at *
  clear A h hu hme
  have i2 : (q : Int) ≤ (s.size : Int) := by omega
  go_enter Tryz.func141, Tryz.ntmps141
  go_wp2_with (first
   | (go_at_call 169; refine (A'.out _).mono ?_; rintro e w' ⟨rfl, rfl⟩)
   | (go_at_call 170; refine (L.out _).mono ?_; rintro e w2 ⟨rfl, h4⟩))
  go_ret2
  exact ⟨rfl, h4⟩
theorem Parse (s : ByteArray) (w : World) (hs : s.size ≤ 1000000) : Calls Tryz.prog 120 #[.string s] w fun e w' => e = .returned (tnRes (tnParse (byt s))) ∧ Below w.heap.size w w' := by
 have U := hide (fun w => unwrap_ s w hs)
 have hle := unw_le (byt s)
 rw [len_byt] at hle
 rw [unw_parse]
 generalize unw (byt s) = p at *
 obtain ⟨u, n⟩ := p
 simp only at U hle ⊢
 have hz : (mkS u).size = u.length := size_mk u
 have V := hide (fun w => Valid (mkS u) w (by omega))
 have K := hide (fun w => go_.Clone (mkS u) w (by omega))
 rw [byt_mk] at V
 clear hz
 generalize nameOk u = b at *
 cases b
 ·go_enter Tryz.func120, Tryz.ntmps120
  go_wp2_with (first
   | (go_at_call 141; refine (U.out _).mono ?_; rintro e w1 ⟨rfl, h1⟩; replace h1 := hide h1)
   | (go_at_call 142; refine (V.out _).mono ?_; rintro e w2 ⟨rfl, h2⟩; replace h2 := hide h2))
  go_ret3
  exact ⟨rfl, bel_next h1.out h2.out⟩
 ·go_enter Tryz.func120, Tryz.ntmps120
  go_wp2_with (first
   | (go_at_call 141; refine (U.out _).mono ?_; rintro e w1 ⟨rfl, h1⟩; replace h1 := hide h1)
   | (go_at_call 142; refine (V.out _).mono ?_; rintro e w2 ⟨rfl, h2⟩; replace h2 := hide h2)
   | (go_at_call 135; refine (K.out _).mono ?_; rintro e w3 ⟨rfl, h3⟩; replace h3 := hide h3))
  go_ret3
  exact ⟨rfl, bel_next (bel_next h1.out h2.out) h3.out⟩
end tn_
end Go.Proofs.YtbehflfpdkedgaaGreatDoor

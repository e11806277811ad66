/-
  CONTRACTS OF PACKAGE tzname, of the code that landed at a2fd5dd. Conditions: a string of at most 1,000,000 bytes; a byte from 0 to 255.
-/
import Derived.Test.YtjjmkbofddbnnaaGreatDoorTn
import Derived.Test.YtjjmkbofddbnnaaGreatDoorRng
import Derived.Test.YtjjmkbofddbnnaaGreatDoorGs
namespace Go.Proofs.YtjjmkbofddbnnaaGreatDoor
open Go.ChangeShapes Go.WideShapes Go.ChangeAt Go.RowKit
set_option linter.unusedVariables false
set_option maxRecDepth 100000
theorem alphaI_hi (x : Int) (h : 128 ≤ x) : alphaI x = false := by unfold alphaI; simp; omega
theorem nameI_hi (x : Int) (h : 128 ≤ x) : nameI x = false := by unfold nameI; rw [alphaI_hi x h]; simp; omega
/-- where the class ends a range over the string stops at a byte's own place: all before it are ASCII. -/
theorem low_of {f : Int → Bool} (hf : ∀ x, 128 ≤ x → f x = false) {x : Int} (h : f x = true) : x < 128 := by
  rcases Int.lt_or_le x 128 with h1 | h1
  · exact h1
  · rw [hf x h1] at h; cases h
/-- what the form at the head of a string holds, and how long it is. -/
def unw (l : List UInt8) : List UInt8 × Nat :=
  match l with
  | [] => ([], 0)
  | a :: t => if a.toNat = 60 then (if (t.takeWhile not62).length < t.length then (t.takeWhile not62, (t.takeWhile not62).length + 2) else ([], 0)) else (l.takeWhile alpha, letters l)
theorem unw_parse (l : List UInt8) : tnParse l = if nameOk (unw l).1 then some (unw l) else none := by
  cases l with
  | nil => rfl
  | cons a t =>
    unfold tnParse unw
    by_cases ha : a.toNat = 60
    · simp only [if_pos ha]
      by_cases hq : (t.takeWhile not62).length < t.length
      · simp only [hq, true_and, if_true]
      · simp only [hq, false_and, if_false]
        rfl
    · simp only [if_neg ha]
      rfl
theorem unw_le (l : List UInt8) : (unw l).1.length ≤ l.length ∧ (unw l).2 ≤ l.length + 1 := by
  cases l with
  | nil => simp [unw]
  | cons a t =>
    have h1 := tw_le not62 t
    have h2 := tw_le alpha (a :: t)
    have e : unw (a :: t) = if a.toNat = 60 then (if (t.takeWhile not62).length < t.length then (t.takeWhile not62, (t.takeWhile not62).length + 2) else ([], 0)) else ((a :: t).takeWhile alpha, letters (a :: t)) := rfl
    rw [e]
    clear e
    unfold letters
    generalize (a :: t).takeWhile alpha = z at *
    simp only [List.length_cons] at *
    by_cases ha : a.toNat = 60
    · rw [if_pos ha]
      by_cases hq : (t.takeWhile not62).length < t.length
      · rw [if_pos hq]; exact ⟨by show (t.takeWhile not62).length ≤ _; omega, by show (t.takeWhile not62).length + 2 ≤ _; omega⟩
      · rw [if_neg hq]; exact ⟨Nat.zero_le _, Nat.zero_le _⟩
    · rw [if_neg ha]; exact ⟨h2, by show z.length ≤ _; omega⟩
/-- a call of a function that has a body enters it. -/
theorem enters {P : Program} {f : FuncId} {fn : Func} (hf : P.funcs[f]? = some fn) (hname : (fn.name == "runtime.NumGoroutine") = false) (hb : fn.body.isSome = true) (args : Array Value) (w : World) : (callFunc f args).run P w = .ok (.enter f args) w := by
  have h1 : fn.name ≠ "runtime.NumGoroutine" := by simpa using hname
  obtain ⟨c, hc⟩ := Option.isSome_iff_exists.1 hb
  simp [callFunc, hf, h1, hc]
namespace tn_
theorem IsAlpha_ (x : Int) (w : World) (h0 : 0 ≤ x) (h1 : x < 256) : Calls Tryz.prog 47 #[.int .u8 x] w fun e w' => e = .returned (.bool (alphaI x)) ∧ w = w' := by
  by_cases h1 : 65 ≤ x
  all_goals by_cases h2 : x ≤ 90
  all_goals by_cases h3 : 97 ≤ x
  all_goals
    go_enter Tryz.func47, Tryz.ntmps47
    go_wp2
    go_ret
    exact ⟨retb (by unfold alphaI; simp [h1, h2, h3] <;> omega), rfl⟩
theorem IsAlpha (x : Int) (w : World) (h0 : 0 ≤ x) (h1 : x < 256) : Calls Tryz.prog 47 #[.int .u8 x] w fun e w' => e = .returned (.bool (alphaI x)) ∧ Below w.heap.size w w' := by
  refine (IsAlpha_ x w h0 h1).mono ?_
  rintro e w' ⟨rfl, rfl⟩
  exact ⟨rfl, bl_refl _⟩
theorem isNameByte_ (x : Int) (w : World) (h0 : 0 ≤ x) (h1 : x < 256) : Calls Tryz.prog 37 #[.int .u8 x] w fun e w' => e = .returned (.bool (nameI x)) ∧ w = w' := by
  have C := hide (fun w => IsAlpha_ x w h0 h1)
  obtain ⟨r, hr⟩ : ∃ r, r = nameI x := ⟨_, rfl⟩
  rw [← hr]
  unfold nameI at hr
  obtain ⟨a, ha⟩ : ∃ a, a = alphaI x := ⟨_, rfl⟩
  rw [← ha] at C hr
  clear ha
  replace hr := hide hr
  cases a
  · by_cases h2 : 48 ≤ x
    all_goals by_cases h3 : x ≤ 57
    all_goals rcases (show x = 43 ∨ x = 45 ∨ ((x == 43) = false ∧ (x == 45) = false) by by_cases a : x = 43 <;> by_cases b : x = 45 <;> simp [a, b]) with rfl | rfl | ⟨h4, h5⟩
    all_goals first
      | omega
      | (go_enter Tryz.func37, Tryz.ntmps37
         go_wp2_with (go_at_call 47; refine (C.out _).mono ?_; rintro e w' ⟨rfl, rfl⟩)
         go_ret
         exact ⟨retb (by rw [hr.out, Bool.eq_iff_iff]; (try rw [beq_eq_false_iff_ne] at h4 h5); simp; try omega), rfl⟩)
  · go_enter Tryz.func37, Tryz.ntmps37
    go_wp2_with (go_at_call 47; refine (C.out _).mono ?_; rintro e w' ⟨rfl, rfl⟩)
    go_ret
    exact ⟨retb (by rw [hr.out]; simp), rfl⟩
set_option maxHeartbeats 2000000 in
theorem span_ (F : FuncId) (f : Int → Bool) (p : UInt8 → Bool) (hp : ∀ c : UInt8, p c = f c.toNat) (hf : ∀ x, 128 ≤ x → f x = false) (hC : ∀ args w, (callFunc F args).run Tryz.prog w = .ok (.enter F args) w) (hF : ∀ x w, 0 ≤ x → x < 256 → Calls Tryz.prog F #[.int .u8 x] w fun e w' => e = .returned (.bool (f x)) ∧ w = w')
    (s : ByteArray) (w : World) (hs : s.size ≤ maxLen) : Calls Tryz.prog 36 #[.string s, .func (.func F) #[] #[]] w fun e w' => e = .returned (.int .i64 ((byt s).takeWhile p).length) ∧ Below w.heap.size w w' := by
  obtain ⟨n, hn, hle, hin, hout⟩ := pre_facts p s
  have L := hide hF
  have E := hide hC
  have H := hide hf
  rw [hn]
  have hin' := hide (fun k (h : k < s.size) (hk : k < n) => (hp s[k]).symm.trans (hin k h hk))
  have hout' := hide (fun h : n < s.size => (hp s[n]).symm.trans (hout h))
  clear hn hin hout hp hF hf hC
  go_enter Tryz.func36, Tryz.ntmps36
  go_wp2_with fail
  go_loopw [5] (fun iv wr => ∃ k : Nat, k ≤ n ∧ wr = w.iter s k) (fun _ wr => s.size - wr.iterPos w.heap.size)
  case atStart => exact ⟨0, by omega, rfl⟩
  case round =>
    obtain ⟨k, hk, rfl⟩ := hrel
    by_cases hks : k < s.size
    · have hnx := fun ty => next_in (P := Tryz.prog) w s k ty hks
      have hc := (s[k]).toNat_lt
      obtain ⟨e1, e2⟩ := rn_test H.out hks
      by_cases hlt : k < n
      · have hi : f (s[k].toNat : Int) = true := hin'.out k hks hlt
        rw [e2 hi] at hnx
        obtain ⟨x, hx⟩ : ∃ x : Int, (s[k].toNat : Int) = x := ⟨_, rfl⟩
        rw [hx] at hi
        have Lr := hide (fun w => L.out x w (by omega) (by omega))
        rw [hi] at Lr
        generalize rn s k = r at *
        clear e1 e2 hi hc
        go_wp2_with fail
        rw [E.out, Oper.upon_enter]
        refine (Lr.out _).mono ?_
        rintro e w' ⟨rfl, rfl⟩
        go_wp2_with fail
        go_roundw
        case rel => exact ⟨k + 1, by omega, rfl⟩
        case measure => simp; omega
      · obtain rfl : k = n := by omega
        have hi : f (s[k].toNat : Int) = false := hout'.out hks
        obtain ⟨x, hx⟩ : ∃ x : Int, (s[k].toNat : Int) = x := ⟨_, rfl⟩
        rw [hx] at hi
        have Lr := hide (fun w => L.out x w (by omega) (by omega))
        rw [hi] at Lr
        generalize rn s k = r at *
        generalize rw_ s k = y at *
        clear e1 e2 hi hc
        go_wp2_with fail
        rw [E.out, Oper.upon_enter]
        refine (Lr.out _).mono ?_
        rintro e w' ⟨rfl, rfl⟩
        go_wp2_with fail
        go_ret
        exact ⟨rfl, iter_below _ _ _⟩
    · obtain rfl : k = n := by omega
      have hnx := fun ty => run_next_end (P := Tryz.prog) w s k ty hks
      go_wp2_with fail
      go_ret
      exact ⟨reti (by omega), iter_below _ _ _⟩
theorem spanA (s : ByteArray) (w : World) (hs : s.size ≤ maxLen) : Calls Tryz.prog 36 #[.string s, .func (.func 47) #[] #[]] w fun e w' => e = .returned (.int .i64 (letters (byt s))) ∧ Below w.heap.size w w' :=
  span_ 47 alphaI alpha (fun _ => rfl) alphaI_hi (enters Tryz.func47 (by kernel_rfl) (by kernel_rfl)) IsAlpha_ s w hs
theorem spanN (s : ByteArray) (w : World) (hs : s.size ≤ maxLen) : Calls Tryz.prog 36 #[.string s, .func (.func 37) #[] #[]] w fun e w' => e = .returned (.int .i64 ((byt s).takeWhile nameB).length) ∧ Below w.heap.size w w' :=
  span_ 37 nameI nameB (fun _ => rfl) nameI_hi (enters Tryz.func37 (by kernel_rfl) (by kernel_rfl)) isNameByte_ s w hs
theorem Valid (s : ByteArray) (w : World) (hs : s.size ≤ 1000000) : Calls Tryz.prog 24 #[.string s] w fun e w' => e = .returned (.bool (nameOk (byt s))) ∧ Below w.heap.size w w' := by
  have C := hide (fun w => spanN s w (by unfold maxLen; omega))
  have hr := hide (show nameOk (byt s) = (decide (3 ≤ s.size) && decide (s.size ≤ 255) && decide (((byt s).takeWhile nameB).length = s.size)) by
    unfold nameOk
    rw [all_tw, len_byt])
  generalize nameOk (byt s) = r at *
  generalize ((byt s).takeWhile nameB).length = q at *
  by_cases h1 : 3 ≤ s.size
  · have i1 : (3 : Int) ≤ (s.size : Int) := by omega
    by_cases h2 : s.size ≤ 255
    · have i2 : (s.size : Int) ≤ 255 := by omega
      go_enter Tryz.func24, Tryz.ntmps24
      go_wp2_with (go_at_call 36; refine (C.out _).mono ?_; rintro e w' ⟨rfl, h3⟩)
      all_goals go_ret
      all_goals exact ⟨retb (by rw [hr.out, Bool.eq_iff_iff]; simp; omega), h3⟩
    · have i2 : ¬ (s.size : Int) ≤ 255 := by omega
      go_enter Tryz.func24, Tryz.ntmps24
      go_wp2_with fail
      go_ret
      exact ⟨retb (by rw [hr.out]; simp [h2]), bl_refl _⟩
  · have i1 : ¬ (3 : Int) ≤ (s.size : Int) := by omega
    go_enter Tryz.func24, Tryz.ntmps24
    go_wp2_with fail
    go_ret
    exact ⟨retb (by rw [hr.out]; simp [h1]), bl_refl _⟩
theorem unwrap_ (s : ByteArray) (w : World) (hs : s.size ≤ 1000000) : Calls Tryz.prog 50 #[.string s] w fun e w' => e = .returned (.tuple #[.string (mkS (unw (byt s)).1), .int .i64 (unw (byt s)).2]) ∧ Below w.heap.size w w' := by
  have A := hide (fun w => go_.CutLt s w hs)
  by_cases h : (byt s).head? = some 60
  · obtain ⟨t, ht⟩ : ∃ t, byt s = 60 :: t := by
      cases hb : byt s with
      | nil => rw [hb] at h; cases h
      | cons a t => rw [hb] at h; simp at h; exact ⟨t, by rw [h]⟩
    have hl : (mkS t).size = t.length := size_mk t
    have hlen : s.size = t.length + 1 := by rw [← len_byt, ht]; rfl
    have B := hide (fun w => go_.CutGt (mkS t) w (by omega))
    rw [byt_mk, hl] at B
    have hu : unw (byt s) = if (t.takeWhile not62).length < t.length then (t.takeWhile not62, (t.takeWhile not62).length + 2) else ([], 0) := by rw [ht]; rfl
    rw [hu]
    have hql := tw_le not62 t
    have A' : ∀ w, Calls Tryz.prog 60 #[.string s, .string ⟨#[60]⟩] w fun e w' => w = w' ∧ e = .returned (.tuple #[.string (mkS t), .bool true]) := fun w => (A.out w).mono fun e w' hh => ⟨hh.1, by
      rcases hh.2 with ⟨t', h1, h2⟩ | ⟨h1, h2⟩
      · rw [ht] at h1; cases h1; exact h2
      · exact absurd h h1⟩
    replace A' := hide A'
    clear A hl h hu ht
    have hsz : (mkS (t.takeWhile not62)).size = (t.takeWhile not62).length := size_mk _
    generalize t.takeWhile not62 = u at *
    obtain ⟨q, hq⟩ : ∃ q, u.length = q := ⟨_, rfl⟩
    rw [hq] at B hql hsz ⊢
    replace hq := hide hq
    have e1 : IntKind.i64.wrap (1 + (q : Int)) = 1 + (q : Int) := by rw [IntKind.wrap_i64]; omega
    have e2 : IntKind.i64.wrap (1 + (q : Int) + 1) = 1 + (q : Int) + 1 := by rw [IntKind.wrap_i64]; omega
    by_cases hq : q < t.length
    · have B' : ∀ w, Calls Tryz.prog 61 #[.string (mkS t), .string ⟨#[62]⟩] w fun e w' => Below w.heap.size w w' ∧ ∃ r, e = .returned (.tuple #[.string (mkS u), .string r, .bool true]) := fun w => (B.out w).mono fun e w' hh => ⟨hh.1, by
        rcases hh.2 with ⟨_, h2⟩ | ⟨h1, _⟩
        · exact h2
        · exact absurd hq h1⟩
      replace B' := hide B'
      clear B
      rw [if_pos hq]
      replace hq := hide hq
      go_enter Tryz.func50, Tryz.ntmps50
      go_wp2_with (first
        | (go_at_call 60; refine (A'.out _).mono ?_; rintro e w' ⟨rfl, rfl⟩)
        | (go_at_call 61; refine (B'.out _).mono ?_; rintro e w2 ⟨h4, r, rfl⟩))
      go_ret2
      exact ⟨retV (by show _ = Value.tuple #[_, .int .i64 ((q + 2 : Nat) : Int)]; rw [show ((q + 2 : Nat) : Int) = 1 + (q : Int) + 1 by omega]; rfl), h4⟩
    · have B' : ∀ w, Calls Tryz.prog 61 #[.string (mkS t), .string ⟨#[62]⟩] w fun e w' => Below w.heap.size w w' ∧ ∃ a r, e = .returned (.tuple #[.string a, .string r, .bool false]) := fun w => (B.out w).mono fun e w' hh => ⟨hh.1, by
        rcases hh.2 with ⟨h1, _⟩ | ⟨_, h2⟩
        · exact absurd h1 hq
        · exact h2⟩
      replace B' := hide B'
      clear B
      rw [if_neg hq]
      replace hq := hide hq
      go_enter Tryz.func50, Tryz.ntmps50
      go_wp2_with (first
        | (go_at_call 60; refine (A'.out _).mono ?_; rintro e w' ⟨rfl, rfl⟩)
        | (go_at_call 61; refine (B'.out _).mono ?_; rintro e w2 ⟨h4, a, r, rfl⟩))
      go_ret2
      exact ⟨rfl, h4⟩
  · have A' : ∀ w, Calls Tryz.prog 60 #[.string s, .string ⟨#[60]⟩] w fun e w' => w = w' ∧ e = .returned (.tuple #[.string s, .bool false]) := fun w => (A.out w).mono fun e w' hh => ⟨hh.1, by
      rcases hh.2 with ⟨t', h1, h2⟩ | ⟨h1, h2⟩
      · rw [h1] at h; simp at h
      · exact h2⟩
    replace A' := hide A'
    have L := hide (fun w => spanA s w (by unfold maxLen; omega))
    have hu : unw (byt s) = ((byt s).takeWhile alpha, letters (byt s)) := by
      cases hb : byt s with
      | nil => rfl
      | cons a t =>
        rw [hb] at h
        have ha : ¬ a.toNat = 60 := by
          intro h60
          apply h
          simp
          exact UInt8.toNat_inj.1 h60
        simp only [unw, if_neg ha]
    have hql : letters (byt s) ≤ s.size := by have := tw_le alpha (byt s); rw [len_byt] at this; exact this
    have hme : mkS ((byt s).takeWhile alpha) = s.extract 0 (letters (byt s)) := by
      apply byt_inj.1
      rw [byt_mk, byt_extract]
      simp
      exact (take_tw _).symm
    rw [hu]
    simp only [hme]
    generalize letters (byt s) = q at *
    clear A h hu hme
    have i2 : (q : Int) ≤ (s.size : Int) := by omega
    go_enter Tryz.func50, Tryz.ntmps50
    go_wp2_with (first
      | (go_at_call 60; refine (A'.out _).mono ?_; rintro e w' ⟨rfl, rfl⟩)
      | (go_at_call 36; refine (L.out _).mono ?_; rintro e w2 ⟨rfl, h4⟩))
    go_ret2
    exact ⟨rfl, h4⟩
theorem Parse (s : ByteArray) (w : World) (hs : s.size ≤ 1000000) : Calls Tryz.prog 40 #[.string s] w fun e w' => e = .returned (tnRes (tnParse (byt s))) ∧ Below w.heap.size w w' := by
  have U := hide (fun w => unwrap_ s w hs)
  have hle := unw_le (byt s)
  rw [len_byt] at hle
  rw [unw_parse]
  generalize unw (byt s) = p at *
  obtain ⟨u, n⟩ := p
  simp only at U hle ⊢
  have hz : (mkS u).size = u.length := size_mk u
  have V := hide (fun w => Valid (mkS u) w (by omega))
  have K := hide (fun w => go_.Clone (mkS u) w (by omega))
  rw [byt_mk] at V
  clear hz
  generalize nameOk u = b at *
  cases b
  · go_enter Tryz.func40, Tryz.ntmps40
    go_wp2_with (first
      | (go_at_call 50; refine (U.out _).mono ?_; rintro e w1 ⟨rfl, h1⟩; replace h1 := hide h1)
      | (go_at_call 24; refine (V.out _).mono ?_; rintro e w2 ⟨rfl, h2⟩; replace h2 := hide h2))
    go_ret3
    exact ⟨rfl, bel_next h1.out h2.out⟩
  · go_enter Tryz.func40, Tryz.ntmps40
    go_wp2_with (first
      | (go_at_call 50; refine (U.out _).mono ?_; rintro e w1 ⟨rfl, h1⟩; replace h1 := hide h1)
      | (go_at_call 24; refine (V.out _).mono ?_; rintro e w2 ⟨rfl, h2⟩; replace h2 := hide h2)
      | (go_at_call 51; refine (K.out _).mono ?_; rintro e w3 ⟨rfl, h3⟩; replace h3 := hide h3))
    go_ret3
    exact ⟨rfl, bel_next (bel_next h1.out h2.out) h3.out⟩
end tn_
end Go.Proofs.YtjjmkbofddbnnaaGreatDoor

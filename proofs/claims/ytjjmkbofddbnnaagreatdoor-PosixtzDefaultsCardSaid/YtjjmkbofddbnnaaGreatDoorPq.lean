/-
  CONTRACTS OF THE STEPS OF posixtz's PARSER, of the code that landed at 120e3cd: a number, a designation, a duration, an offset. Condition: a text of at most 1,000,000 bytes.
-/
import Derived.Test.YtjjmkbofddbnnaaGreatDoorPz
import Derived.Test.YtjjmkbofddbnnaaGreatDoorTrl
import Derived.Test.YtjjmkbofddbnnaaGreatDoorAto
import Derived.Lib.AtoiErrMem
namespace Go.Proofs.YtjjmkbofddbnnaaGreatDoor
open Go.ChangeShapes Go.WideShapes Go.ChangeAt Go.RowKit
set_option linter.unusedVariables false
set_option maxRecDepth 100000
def digits : List UInt8 := [48, 49, 50, 51, 52, 53, 54, 55, 56, 57]
theorem dig_in (c : UInt8) : digits.contains c = dig c := by
  have h : ∀ n : Fin 256, digits.contains (UInt8.ofNat n.val) = dig (UInt8.ofNat n.val) := by decide +kernel
  have := h ⟨c.toNat, c.toNat_lt⟩
  simpa using this
theorem trim_dig (l : List UInt8) : Lib.trimLeftS l digits = l.drop (l.takeWhile dig).length := by
  refine Lib.trimLeftS_drop l digits _ (tw_le _ _) (fun j b hj hb => ?_) (fun b hb => ?_)
  · obtain ⟨hl, rfl⟩ := List.getElem?_eq_some_iff.1 hb
    rw [dig_in]
    exact tw_lt hj hl
  · obtain ⟨hl, rfl⟩ := List.getElem?_eq_some_iff.1 hb
    rw [dig_in]
    exact tw_at hl
theorem dec_dig : ∀ (D : List UInt8) (a : Nat), (∀ c ∈ D, dig c = true) → ∃ n : Nat, Lib.decFrom a D = some n ∧ (n : Int) = D.foldl (fun (h : Int) (c : UInt8) => 10 * h + c.toNat - 48) (a : Int)
  | [], a, _ => ⟨a, rfl, rfl⟩
  | c :: t, a, h => by
    have hc := r8_.dig_bd (h c (by simp))
    obtain ⟨n, h1, h2⟩ := dec_dig t (a * 10 + (c.toNat - 48)) (fun x hx => h x (by simp [hx]))
    refine ⟨n, ?_, ?_⟩
    · simp only [Lib.decFrom]
      rw [show Lib.digitVal c = some (c.toNat - 48) by unfold Lib.digitVal; rw [if_pos (by omega)]]
      exact h1
    · rw [h2, List.foldl_cons]
      congr 1
      omega
theorem atoi_dig {D : List UInt8} (h : ∀ c ∈ D, dig c = true) (h0 : D ≠ []) : Lib.atoi D = some (dval D) := by
  obtain ⟨n, h1, h2⟩ := dec_dig D 0 h
  cases D with
  | nil => exact absurd rfl h0
  | cons c t =>
    have hc := r8_.dig_bd (h c (by simp))
    have n1 : ¬ ((c == 45) = true) := fun e => by
      rw [beq_iff_eq] at e
      subst e
      exact absurd hc.1 (by decide)
    have n2 : ¬ ((c == 43) = true) := fun e => by
      rw [beq_iff_eq] at e
      subst e
      exact absurd hc.1 (by decide)
    have e : Lib.decNat (c :: t) = some n := by
      unfold Lib.decNat
      rw [if_neg (by simp), h1]
    simp only [Lib.atoi, n1, n2, e, if_false, Bool.false_eq_true, Option.map_some]
    rw [h2]
    rfl
namespace po_
theorem TrimLeft_ (l : List UInt8) (w : World) : Calls Tryz.prog 56 #[.string (mkS l), .string ⟨#[48, 49, 50, 51, 52, 53, 54, 55, 56, 57]⟩] w fun e w' => e = .returned (.string (mkS (l.drop (l.takeWhile dig).length))) ∧ Below w.heap.size w w' := by
  refine (Any.strings_TrimLeft_laid Tryz.laysTrimLeft (by kernel_rfl) (mkS l) ⟨#[48, 49, 50, 51, 52, 53, 54, 55, 56, 57]⟩ w (by decide) (ascii_of_all (by decide))).mono ?_
  rintro e w' ⟨rfl, hb⟩
  refine ⟨retS2 ?_, hb⟩
  show mkS (Lib.trimLeftS (byt (mkS l)) digits) = _
  rw [byt_mk, trim_dig]
theorem Atoi_ (D : List UInt8) (w : World) (h : ∀ c ∈ D, dig c = true) (h0 : D ≠ []) (h3 : D.length ≤ 3) : Calls Tryz.prog 57 #[.string (mkS D)] w fun e w' => e = .returned (.tuple #[.int .i64 (dval D), .nilIface]) ∧ Below w.heap.size w w' := by
  refine (Any.strconv_Atoi Tryz.laysAtoi (mkS D) (dval D) (by rw [size_mk]; omega) (by show Lib.atoi (byt (mkS D)) = _; rw [byt_mk]; exact atoi_dig h h0) w).mono ?_
  rintro e w' ⟨rfl, t, rfl⟩
  exact ⟨rfl, Lib.bytesWorld_below w _ t⟩
theorem num_cut {L : List UInt8} {v : Int} {n : Nat} (h : ptNum L = some (v, n)) : n = (L.takeWhile dig).length ∧ v = dval (L.takeWhile dig) ∧ 1 ≤ n ∧ n ≤ 3 ∧ n ≤ L.length := by
  have b := ptNum_some h
  unfold ptNum at h
  split at h
  · cases h
    exact ⟨rfl, rfl, b.1, b.2.1, b.2.2.1⟩
  · cases h
theorem num_none {L : List UInt8} (h : ptNum L = none) : (L.takeWhile dig).length = 0 ∨ 3 < (L.takeWhile dig).length := by
  unfold ptNum at h
  split at h
  · cases h
  · omega
set_option maxHeartbeats 1000000 in
theorem number_yes (s : ByteArray) (k b : Nat) (v : Int) (n : Nat) (w : World) (hs : s.size ≤ 1000000) (hk : k ≤ s.size) (hp : Pz w b s k) (h : ptNum (rst s k) = some (v, n)) :
    Calls Tryz.prog 45 #[.pointer (some ⟨b, 0, none⟩)] w fun e w' => e = .returned (.int .i64 v) ∧ Pz w' b s ((k : Int) + n) ∧ But b w w' := by
  obtain ⟨h1, h2, h3, h4, h5⟩ := num_cut h
  have hn : k + n ≤ s.size := by rw [List.length_drop, len_byt] at h5; omega
  have R := hide (fun w hp => rest_ s k b w hs hk hp)
  have T := hide (fun w => TrimLeft_ (rst s k) w)
  have A := hide (fun w => Atoi_ ((rst s k).takeWhile dig) w (fun c hc => r8_.tw_all' hc) (by intro e; rw [e] at h1; simp at h1; omega) (by omega))
  have hx : (mkS (rst s k)).extract 0 n = mkS ((rst s k).takeWhile dig) := by
    rw [← byt_inj, byt_extract, byt_mk, byt_mk, h1, List.drop_zero]
    exact (List.prefix_iff_eq_take.1 (List.takeWhile_prefix (p := dig) (l := rst s k))).symm
  rw [← h1] at T
  rw [← h2] at A
  obtain ⟨m, hm⟩ : ∃ m : Nat, (mkS (rst s k)).size = m := ⟨_, rfl⟩
  have hm2 : (mkS ((rst s k).drop n)).size = m - n := by rw [size_mk] at hm ⊢; rw [List.length_drop]; omega
  have hm3 : m ≤ 1000000 := by have := rst_size s k; omega
  have hm4 : n ≤ m := by rw [size_mk] at hm; omega
  generalize mkS (rst s k) = X at *
  generalize mkS ((rst s k).drop n) = Y at *
  generalize mkS ((rst s k).takeWhile dig) = Z at *
  have P := hide hp
  clear hp h h1 h2 h5 hk
  have e1 : IntKind.i64.wrap ((m : Int) - ((m - n : Nat) : Int)) = (n : Int) := by rw [IntKind.wrap_i64]; omega
  have e2 : ((X.size : Nat) : Int) = (m : Int) := by rw [hm]
  have e3 : ((Y.size : Nat) : Int) = ((m - n : Nat) : Int) := by rw [hm2]
  have q1 : decide ((n : Int) ≤ 3) = true := by simp; omega
  go_enter Tryz.func45, Tryz.ntmps45
  go_wp2_with fail
  refine (R.out _ P.out).mono ?_
  rintro e w1 ⟨rfl, hb⟩
  have P1 := hide (P.out.below hb)
  go_wp2_with fail
  refine (R.out _ P1.out).mono ?_
  rintro e w2 ⟨rfl, hb2⟩
  have P2 := hide (P1.out.below hb2)
  have B2 := hide ((But.of (b := b) hb).next hb2)
  clear P P1 hb hb2
  go_wp2_with fail
  refine (T.out _).mono ?_
  rintro e w3 ⟨rfl, hb3⟩
  have P3 := hide (P2.out.below hb3)
  have B3 := hide (B2.out.next hb3)
  clear P2 B2 hb3
  go_wp2_with fail
  refine (require_yes b _).mono ?_
  rintro e w' ⟨rfl, rfl⟩
  go_wp2_with fail
  refine (R.out _ P3.out).mono ?_
  rintro e w4 ⟨rfl, hb4⟩
  have P4 := hide (P3.out.below hb4)
  have B4 := hide (B3.out.next hb4)
  clear P3 B3 hb4
  go_wp2_with fail
  refine (A.out _).mono ?_
  rintro e w5 ⟨rfl, hb5⟩
  have P5 := hide (P4.out.below hb5)
  have B5 := hide (B4.out.next hb5)
  clear P4 B4 hb5
  go_wp2_with fail
  refine (require_yes b _).mono ?_
  rintro e w' ⟨rfl, rfl⟩
  obtain ⟨h0, h1, h2, h3⟩ := P5.out.cells
  go_wp2
  go_ret
  exact ⟨rfl, P5.out.set _, B5.out.set _⟩
set_option maxHeartbeats 1000000 in
theorem number_no (s : ByteArray) (k b : Nat) (w : World) (hs : s.size ≤ 1000000) (hk : k ≤ s.size) (hp : Pz w b s k) (h : ptNum (rst s k) = none) :
    Calls Tryz.prog 45 #[.pointer (some ⟨b, 0, none⟩)] w fun e w' => e = fail k ∧ Below w.heap.size w w' := by
  have h0 := num_none h
  have h9 := tw_le dig (rst s k)
  have R := hide (fun w hp => rest_ s k b w hs hk hp)
  have T := hide (fun w => TrimLeft_ (rst s k) w)
  generalize ((rst s k).takeWhile dig).length = n at *
  obtain ⟨m, hm⟩ : ∃ m : Nat, (mkS (rst s k)).size = m := ⟨_, rfl⟩
  have hm2 : (mkS ((rst s k).drop n)).size = m - n := by rw [size_mk] at hm ⊢; rw [List.length_drop]; omega
  have hm3 : m ≤ 1000000 := by have := rst_size s k; omega
  have hm4 : n ≤ m := by rw [size_mk] at hm; omega
  generalize mkS (rst s k) = X at *
  generalize mkS ((rst s k).drop n) = Y at *
  have P := hide hp
  clear hp h hk h9
  have e1 : IntKind.i64.wrap ((m : Int) - ((m - n : Nat) : Int)) = (n : Int) := by rw [IntKind.wrap_i64]; omega
  have e2 : ((X.size : Nat) : Int) = (m : Int) := by rw [hm]
  have e3 : ((Y.size : Nat) : Int) = ((m - n : Nat) : Int) := by rw [hm2]
  rcases h0 with h0 | h0
  · subst h0
    clear hm4
    go_enter Tryz.func45, Tryz.ntmps45
    go_wp2_with fail
    refine (R.out _ P.out).mono ?_
    rintro e w1 ⟨rfl, hb⟩
    have P1 := hide (P.out.below hb)
    go_wp2_with fail
    refine (R.out _ P1.out).mono ?_
    rintro e w2 ⟨rfl, hb2⟩
    have P2 := hide (P1.out.below hb2)
    have B2 := hide (bel_next hb hb2)
    clear P P1 hb hb2
    go_wp2_with fail
    refine (T.out _).mono ?_
    rintro e w3 ⟨rfl, hb3⟩
    have P3 := hide (P2.out.below hb3)
    have B3 := hide (bel_next B2.out hb3)
    clear P2 B2 hb3
    go_wp2_with fail
    refine (require_no s k b _ P3.out).mono ?_
    rintro e w' ⟨rfl, rfl⟩
    unfold fail
    go_wp2
    exact ⟨rfl, rfl, B3.out⟩
  · have q1 : decide ((n : Int) ≤ 3) = false := by simp; omega
    go_enter Tryz.func45, Tryz.ntmps45
    go_wp2_with fail
    refine (R.out _ P.out).mono ?_
    rintro e w1 ⟨rfl, hb⟩
    have P1 := hide (P.out.below hb)
    go_wp2_with fail
    refine (R.out _ P1.out).mono ?_
    rintro e w2 ⟨rfl, hb2⟩
    have P2 := hide (P1.out.below hb2)
    have B2 := hide (bel_next hb hb2)
    clear P P1 hb hb2
    go_wp2_with fail
    refine (T.out _).mono ?_
    rintro e w3 ⟨rfl, hb3⟩
    have P3 := hide (P2.out.below hb3)
    have B3 := hide (bel_next B2.out hb3)
    clear P2 B2 hb3
    go_wp2_with fail
    refine (require_no s k b _ P3.out).mono ?_
    rintro e w' ⟨rfl, rfl⟩
    unfold fail
    go_wp2
    exact ⟨rfl, rfl, B3.out⟩
theorem designation_yes (s : ByteArray) (k b : Nat) (q : List UInt8) (n : Nat) (w : World) (hs : s.size ≤ 1000000) (hk : k ≤ s.size) (hp : Pz w b s k) (h : tnParse (rst s k) = some (q, n)) :
    Calls Tryz.prog 28 #[.pointer (some ⟨b, 0, none⟩)] w fun e w' => e = .returned (.string (mkS q)) ∧ Pz w' b s ((k : Int) + n) ∧ But b w w' := by
  have hn : k + n ≤ s.size := by have := (tnParse_some h).2.1; rw [List.length_drop, len_byt] at this; omega
  have R := hide (fun w hp => rest_ s k b w hs hk hp)
  have T := hide (fun w => tn_.Parse (mkS (rst s k)) w (by have := rst_size s k; omega))
  simp only [byt_mk, h, tnRes] at T
  have P := hide hp
  clear hp h
  go_enter Tryz.func28, Tryz.ntmps28
  go_wp2_with fail
  refine (R.out _ P.out).mono ?_
  rintro e w1 ⟨rfl, hb⟩
  have P1 := hide (P.out.below hb)
  go_wp2_with fail
  refine (T.out _).mono ?_
  rintro e w2 ⟨rfl, hb2⟩
  have P2 := hide (P1.out.below hb2)
  have B2 := hide ((But.of (b := b) hb).next hb2)
  clear P P1 hb hb2
  go_wp2_with fail
  refine (require_yes b _).mono ?_
  rintro e w' ⟨rfl, rfl⟩
  obtain ⟨h0, h1, h2, h3⟩ := P2.out.cells
  go_wp2
  go_ret
  exact ⟨rfl, P2.out.set _, B2.out.set _⟩
theorem designation_no (s : ByteArray) (k b : Nat) (w : World) (hs : s.size ≤ 1000000) (hk : k ≤ s.size) (hp : Pz w b s k) (h : tnParse (rst s k) = none) :
    Calls Tryz.prog 28 #[.pointer (some ⟨b, 0, none⟩)] w fun e w' => e = fail k ∧ Below w.heap.size w w' := by
  have R := hide (fun w hp => rest_ s k b w hs hk hp)
  have T := hide (fun w => tn_.Parse (mkS (rst s k)) w (by have := rst_size s k; omega))
  simp only [byt_mk, h, tnRes] at T
  have P := hide hp
  clear hp h
  go_enter Tryz.func28, Tryz.ntmps28
  go_wp2_with fail
  refine (R.out _ P.out).mono ?_
  rintro e w1 ⟨rfl, hb⟩
  have P1 := hide (P.out.below hb)
  go_wp2_with fail
  refine (T.out _).mono ?_
  rintro e w2 ⟨rfl, hb2⟩
  have P2 := hide (P1.out.below hb2)
  have B2 := hide (bel_next hb hb2)
  clear P P1 hb hb2
  go_wp2_with fail
  refine (require_no s k b _ P2.out).mono ?_
  rintro e w' ⟨rfl, rfl⟩
  unfold fail
  go_wp2
  exact ⟨rfl, rfl, B2.out⟩
theorem duration_yes (s : ByteArray) (k b : Nat) (v : Int) (n : Nat) (w : World) (hs : s.size ≤ 1000000) (hk : k ≤ s.size) (hp : Pz w b s k) (h : hmsParse (rst s k) = some (v, n)) :
    Calls Tryz.prog 35 #[.pointer (some ⟨b, 0, none⟩)] w fun e w' => e = .returned (.int .i64 v) ∧ Pz w' b s ((k : Int) + n) ∧ But b w w' := by
  have hn : k + n ≤ s.size := by have := (parse_prefix h).2.1; rw [List.length_drop, len_byt] at this; omega
  have R := hide (fun w hp => rest_ s k b w hs hk hp)
  have T := hide (fun w => hm_.Parse (mkS (rst s k)) w (by have := rst_size s k; omega))
  simp only [byt_mk, h, hmsRes] at T
  have P := hide hp
  clear hp h
  go_enter Tryz.func35, Tryz.ntmps35
  go_wp2_with fail
  refine (R.out _ P.out).mono ?_
  rintro e w1 ⟨rfl, hb⟩
  have P1 := hide (P.out.below hb)
  go_wp2_with fail
  refine (T.out _).mono ?_
  rintro e w2 ⟨rfl, hb2⟩
  have P2 := hide (P1.out.below hb2)
  have B2 := hide ((But.of (b := b) hb).next hb2)
  clear P P1 hb hb2
  go_wp2_with fail
  refine (require_yes b _).mono ?_
  rintro e w' ⟨rfl, rfl⟩
  obtain ⟨h0, h1, h2, h3⟩ := P2.out.cells
  go_wp2
  go_ret
  exact ⟨rfl, P2.out.set _, B2.out.set _⟩
theorem duration_no (s : ByteArray) (k b : Nat) (w : World) (hs : s.size ≤ 1000000) (hk : k ≤ s.size) (hp : Pz w b s k) (h : hmsParse (rst s k) = none) :
    Calls Tryz.prog 35 #[.pointer (some ⟨b, 0, none⟩)] w fun e w' => e = fail k ∧ Below w.heap.size w w' := by
  have R := hide (fun w hp => rest_ s k b w hs hk hp)
  have T := hide (fun w => hm_.Parse (mkS (rst s k)) w (by have := rst_size s k; omega))
  simp only [byt_mk, h, hmsRes] at T
  have P := hide hp
  clear hp h
  go_enter Tryz.func35, Tryz.ntmps35
  go_wp2_with fail
  refine (R.out _ P.out).mono ?_
  rintro e w1 ⟨rfl, hb⟩
  have P1 := hide (P.out.below hb)
  go_wp2_with fail
  refine (T.out _).mono ?_
  rintro e w2 ⟨rfl, hb2⟩
  have P2 := hide (P1.out.below hb2)
  have B2 := hide (bel_next hb hb2)
  clear P P1 hb hb2
  go_wp2_with fail
  refine (require_no s k b _ P2.out).mono ?_
  rintro e w' ⟨rfl, rfl⟩
  unfold fail
  go_wp2
  exact ⟨rfl, rfl, B2.out⟩
theorem inRange_ (v : Int) (w : World) (h0 : -9223372036854775808 ≤ v) (h1 : v < 9223372036854775808) : Calls Tryz.prog 25 #[.int .i64 v] w fun e w' => e = .returned (.bool (decide (offOk v))) ∧ w = w' := by
  have hd : decide (offOk v) = (decide (-89999 ≤ v) && decide (v ≤ 89999)) := by rw [Bool.eq_iff_iff, decide_eq_true_iff, Bool.and_eq_true, decide_eq_true_iff, decide_eq_true_iff]; exact Iff.rfl
  rw [hd]
  clear hd
  rcases (show v < -89999 ∨ 89999 < v ∨ (-89999 ≤ v ∧ v ≤ 89999) by omega) with a | a | ⟨a, c⟩
  all_goals
    clear h0 h1
    go_enter Tryz.func25, Tryz.ntmps25
    go_wp2
    go_ret
    exact ⟨retb (by rw [Bool.eq_iff_iff]; simp; omega), rfl⟩
theorem offset_yes (s : ByteArray) (k b : Nat) (v : Int) (n : Nat) (w : World) (hs : s.size ≤ 1000000) (hk : k ≤ s.size) (hp : Pz w b s k) (h : hmsParse (rst s k) = some (v, n)) (ho : offOk v) :
    Calls Tryz.prog 29 #[.pointer (some ⟨b, 0, none⟩)] w fun e w' => e = .returned (.int .i64 (-v)) ∧ Pz w' b s ((k : Int) + n) ∧ But b w w' := by
  have hn : k + n ≤ s.size := by have := (parse_prefix h).2.1; rw [List.length_drop, len_byt] at this; omega
  have R := hide (fun w hp => rest_ s k b w hs hk hp)
  have T := hide (fun w => hm_.Parse (mkS (rst s k)) w (by have := rst_size s k; omega))
  simp only [byt_mk, h, hmsRes] at T
  have I := hide (fun w => inRange_ v w (by unfold offOk at ho; omega) (by unfold offOk at ho; omega))
  rw [decide_eq_true ho] at I
  have P := hide hp
  have hv : -89999 ≤ v ∧ v ≤ 89999 := ho
  obtain ⟨hv0, hv1⟩ := hv
  clear hp h ho
  go_enter Tryz.func29, Tryz.ntmps29
  go_wp2_with fail
  refine (R.out _ P.out).mono ?_
  rintro e w1 ⟨rfl, hb⟩
  have P1 := hide (P.out.below hb)
  go_wp2_with fail
  refine (T.out _).mono ?_
  rintro e w2 ⟨rfl, hb2⟩
  have P2 := hide (P1.out.below hb2)
  have B2 := hide ((But.of (b := b) hb).next hb2)
  clear P P1 hb hb2
  go_wp2_with fail
  refine (I.out _).mono ?_
  rintro e w' ⟨rfl, rfl⟩
  go_wp2_with fail
  refine (require_yes b _).mono ?_
  rintro e w' ⟨rfl, rfl⟩
  obtain ⟨h0, h1, h2, h3⟩ := P2.out.cells
  go_wp2
  go_ret
  exact ⟨rfl, P2.out.set _, B2.out.set _⟩
theorem offset_no (s : ByteArray) (k b : Nat) (w : World) (hs : s.size ≤ 1000000) (hk : k ≤ s.size) (hp : Pz w b s k) (h : hmsParse (rst s k) = none ∨ ∃ v n, hmsParse (rst s k) = some (v, n) ∧ ¬ offOk v) :
    Calls Tryz.prog 29 #[.pointer (some ⟨b, 0, none⟩)] w fun e w' => e = fail k ∧ Below w.heap.size w w' := by
  have R := hide (fun w hp => rest_ s k b w hs hk hp)
  have T := hide (fun w => hm_.Parse (mkS (rst s k)) w (by have := rst_size s k; omega))
  simp only [byt_mk] at T
  have P := hide hp
  clear hp
  rcases h with h | ⟨v, n, h, ho⟩
  · simp only [h, hmsRes] at T
    clear h
    go_enter Tryz.func29, Tryz.ntmps29
    go_wp2_with fail
    refine (R.out _ P.out).mono ?_
    rintro e w1 ⟨rfl, hb⟩
    have P1 := hide (P.out.below hb)
    go_wp2_with fail
    refine (T.out _).mono ?_
    rintro e w2 ⟨rfl, hb2⟩
    have P2 := hide (P1.out.below hb2)
    have B2 := hide (bel_next hb hb2)
    clear P P1 hb hb2
    go_wp2_with fail
    refine (require_no s k b _ P2.out).mono ?_
    rintro e w' ⟨rfl, rfl⟩
    unfold fail
    go_wp2
    exact ⟨rfl, rfl, B2.out⟩
  · have I := hide (fun w => inRange_ v w (by have := parse_prefix h; omega) (by have := parse_prefix h; omega))
    rw [decide_eq_false ho] at I
    simp only [h, hmsRes] at T
    clear h ho
    go_enter Tryz.func29, Tryz.ntmps29
    go_wp2_with fail
    refine (R.out _ P.out).mono ?_
    rintro e w1 ⟨rfl, hb⟩
    have P1 := hide (P.out.below hb)
    go_wp2_with fail
    refine (T.out _).mono ?_
    rintro e w2 ⟨rfl, hb2⟩
    have P2 := hide (P1.out.below hb2)
    have B2 := hide (bel_next hb hb2)
    clear P P1 hb hb2
    go_wp2_with fail
    refine (I.out _).mono ?_
    rintro e w' ⟨rfl, rfl⟩
    go_wp2_with fail
    refine (require_no s k b _ P2.out).mono ?_
    rintro e w' ⟨rfl, rfl⟩
    unfold fail
    go_wp2
    exact ⟨rfl, rfl, B2.out⟩
end po_
end Go.Proofs.YtjjmkbofddbnnaaGreatDoor

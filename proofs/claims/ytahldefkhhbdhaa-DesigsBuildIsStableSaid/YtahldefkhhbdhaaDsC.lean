/-
  CONTRACTS of package bytes' functions as desigs calls them: HasSuffix and Cut at the one byte 0. Conditions: slices of bytes that can be read.
-/
import Derived.Test.YtahldefkhhbdhaaRef12n
import Derived.Test.YtahldefkhhbdhaaRef12b
import Derived.Lib.BytesEntry
namespace Go.Proofs.Ytahldefkhhbdhaa
open Go.ChangeShapes Go.WideShapes Go.ChangeAt Go.RowKit
set_option linter.unusedVariables false
/-- 'string(table)' wherever the table lies. -/
theorem convR {W : World} {A : Option Addr} {n c : Nat} {xs : List Int} (hr : Rd W A n (bys xs)) (hb : IsB xs) (hn : 0 < n) : (convert 22 9 (.slice A n c)).run Try.prog W = .ok (.string (bS xs)) W := by
  have hl : xs.length = n := by have := hr.len; simpa using this
  obtain ⟨ad, x, rfl, _, _⟩ := rd_at hr hn
  have := run_convert_bytes_back W 22 9 5 ad c (xs.map (fun x => UInt8.ofNat x.toNat)) Try.underlying22 Try.underlying5 Try.underlying9 (fun j hj => by
    rw [List.length_map] at hj
    obtain ⟨ad', x, e, hx, hc⟩ := rd_at hr (i := j) (by omega)
    cases e
    rw [hc]
    have hm := hb x (List.mem_of_getElem? hx)
    have hj2 : xs[j] = x := by rw [List.getElem?_eq_getElem hj] at hx; injection hx
    have : ((UInt8.ofNat x.toNat).toNat : Int) = x := by simp; omega
    simp only [List.getElem_map, hj2, this])
  rw [List.length_map, hl] at this
  exact this
/-- the same of no byte, too, where the slice has an address. -/
theorem convS {W : World} {ad : Addr} {n c : Nat} {xs : List Int} (hr : Rd W (some ad) n (bys xs)) (hb : IsB xs) : (convert 22 9 (.slice (some ad) n c)).run Try.prog W = .ok (.string (bS xs)) W := by
  rcases Nat.eq_zero_or_pos n with rfl | hp
  · obtain rfl : xs = [] := List.eq_nil_of_length_eq_zero (by have := hr.len; simpa using this)
    exact run_convert_bytes_back W 22 9 5 ad c [] Try.underlying22 Try.underlying5 Try.underlying9 (fun j hj => by simp at hj)
  · exact convR hr hb hp
/-- where the first byte 0 stands. -/
theorem ixB_at : ∀ {xs : List Int} {q : Nat}, IsB xs → (∀ k x, k < q → xs[k]? = some x → ¬ x = 0) → xs[q]? = some 0 → Lib.indexByte (Lib.bytesOf xs) 0 = (q : Int)
  | [], q, _, _, h => by simp at h
  | a :: l, 0, hb, _, h => by
    simp at h
    subst h
    rfl
  | a :: l, q + 1, hb, hk, h => by
    have ih := ixB_at (xs := l) (q := q) (fun x hx => hb x (by simp [hx])) (fun k x hlt hx => hk (k + 1) x (by omega) (by simpa using hx)) (by simpa using h)
    have ha := hk 0 a (by omega) rfl
    have hr := hb a (by simp)
    have hne : (UInt8.ofNat a.toNat == 0) = false := by
      rw [beq_eq_false_iff_ne]
      intro e
      have := congrArg UInt8.toNat e
      simp at this
      omega
    unfold Lib.bytesOf at ih ⊢
    rw [List.map_cons, Lib.indexByte, hne, ih]
    simp
/-- the model's entry, wherever the slice lies. -/
theorem run_ixSlice {P : Program} (w : World) (ad : Addr) (n c : Nat) (xs : List Int) (hx : xs.length = n) (hc : ∀ i v, xs[i]? = some v → w.cell? (ad.add i) = some (.int .u8 v)) (cv : Int) :
    (Extern.BytealgIndexByte.indexByte #[.slice (some ad) n c, .int .u8 cv]).run P w = .ok (.int .i64 (Lib.indexByte (Lib.bytesOf xs) cv.toNat.toUInt8)) w := by
  have hl := Lib.run_loadBytesX (P := P) w xs ad .empty (fun j x hj => hc j x hj)
  rw [hx] at hl
  have hs := Lib.run_indexByteString (P := P) ⟨(Lib.bytesOf xs).toArray⟩ cv w
  have he : (⟨ByteArray.empty.data ++ (Lib.bytesOf xs).toArray⟩ : ByteArray) = ⟨(Lib.bytesOf xs).toArray⟩ := by
    apply ByteArray.ext
    show (#[] : Array UInt8) ++ (Lib.bytesOf xs).toArray = (Lib.bytesOf xs).toArray
    simp
  rw [he] at hl
  delta Extern.BytealgIndexByte.indexByte Extern.BytealgIndexByte.indexByte.match_2 at hs ⊢
  dsimp [Array.getLit] at hs ⊢
  simp only [Extern.Bytes.bytesOf, Sem.run_bind, Sem.run_pure, hl, Result.andThen] at hs ⊢
  exact hs
namespace by_
theorem Equal1 (A B : Option Addr) (c d : Nat) (x : Int) (w : World) (h0 : 0 ≤ x) (h1 : x < 256) (hx : Rd w A 1 (bys [x])) (hy : Rd w B 1 (bys [0])) :
    Calls Try.prog 24 #[.slice A 1 c, .slice B 1 d] w fun e w' => e = .returned (.bool (decide (x = 0))) ∧ w = w' := by
  have c1 := convR (c := c) hx (by intro y hy; simp at hy; subst hy; exact ⟨h0, h1⟩) (by omega)
  have c2 := convR (c := d) hy (by intro y hy; simp at hy; subst hy; omega) (by omega)
  have q : ((bS [x]).toList == (bS [0]).toList) = decide (x = 0) := by
    by_cases e : x = 0
    · subst e; rw [seq_eq rfl]; rfl
    · rw [decide_eq_false e]
      apply seq_ne
      intro h
      have := congrArg byt h
      simp [bS, byt_mk] at this
      have := congrArg UInt8.toNat this
      simp at this
      omega
  replace q := hide q
  generalize decide (x = 0) = z at *
  generalize bS [x] = s at *
  generalize bS [0] = t at *
  clear hx hy
  go_enter Try.func24, Try.ntmps24
  go_wp2_with fail
  go_ret
  exact ⟨retb q.out, rfl⟩
theorem HasSuffix0 (A B : Option Addr) (n c d : Nat) (xs : List Int) (w : World) (hr : Rd w A n (bys xs)) (hb : IsB xs) (hn : n ≤ 1000000) (hnc : n ≤ c) (hc : c ≤ 9223372036854775807) (hy : Rd w B 1 (bys [0])) :
    Calls Try.prog 21 #[.slice A n c, .slice B 1 d] w fun e w' => e = .returned (.bool (decide (xs.getLast? = some 0))) ∧ w = w' := by
  have hlen : xs.length = n := by have := hr.len; simpa using this
  by_cases hp : 0 < n
  · obtain ⟨ad, x, rfl, hx, _⟩ := rd_at hr (show n - 1 < n by omega)
    have hla : xs.getLast? = some x := by rw [List.getLast?_eq_getElem?, hlen, hx]
    have hm := hb x (List.mem_of_getElem? hx)
    have hcut := hr.cut (k := n - 1) (cap := c) (by omega) hnc
    rw [show n - (n - 1) = 1 by omega, show (bys xs).drop (n - 1) = bys [x] by
      rw [← List.map_drop]
      congr 1
      rw [List.drop_eq_getElem_cons (by omega)]
      rw [List.getElem?_eq_getElem (by omega)] at hx
      injection hx with hx
      rw [hx, List.drop_of_length_le (by omega)]] at hcut
    have E := hide (fun A' c' (h : Rd w A' 1 (bys [x])) => Equal1 A' B c' d x w hm.1 hm.2 h hy)
    have he : decide (xs.getLast? = some 0) = decide (x = 0) := by rw [hla]; simp
    rw [he]
    generalize decide (x = 0) = z at *
    have g1 : decide ((1 : Int) ≤ (n : Int)) = true := by simp; omega
    have g2 : (1 : Int) ≤ (n : Int) := by omega
    have g3 : IntKind.i64.wrap ((n : Int) - 1) = ((n - 1 : Nat) : Int) := by rw [IntKind.wrap_i64]; omega
    have g4 : n - (n - 1) = 1 := by omega
    replace hcut := hide hcut
    clear hr hy hx hla he hlen
    go_enter Try.func21, Try.ntmps21
    go_wp2_with fail
    refine (E.out _ _ ?_).mono ?_
    rotate_left
    · rintro e w' ⟨rfl, rfl⟩
      go_wp2_with fail
      go_ret
      exact ⟨rfl, rfl⟩
    · have := hcut.out
      rw [if_neg (by omega)] at this
      exact this
  · obtain rfl : n = 0 := by omega
    obtain rfl : xs = [] := List.eq_nil_of_length_eq_zero hlen
    go_enter Try.func21, Try.ntmps21
    go_wp2_with fail
    go_ret
    exact ⟨rfl, rfl⟩
theorem IndexByte0 (ad : Addr) (n c q : Nat) (xs : List Int) (w : World) (hr : Rd w (some ad) n (bys xs)) (hb : IsB xs) (hk : ∀ k x, k < q → xs[k]? = some x → ¬ x = 0) (hq : xs[q]? = some 0) :
    Calls Try.prog 26 #[.slice (some ad) n c, .int .u8 0] w fun e w' => e = .returned (.int .i64 q) ∧ w = w' := by
  have hx := run_ixSlice (P := Try.prog) w ad n c xs (by have := hr.len; simpa using this) (fun i v hv => by
    have hi : i < n := by have := (List.getElem?_eq_some_iff.1 hv).1; have := hr.len; simp at this; omega
    obtain ⟨ad', x, e, h1, h2⟩ := rd_at hr hi
    cases e
    rw [h1] at hv
    cases hv
    exact h2) 0
  have hi : Lib.indexByte (Lib.bytesOf xs) (0 : Int).toNat.toUInt8 = (q : Int) := ixB_at hb hk hq
  rw [hi] at hx
  clear hr hb hk hq hi
  go_enter Try.func26, Try.ntmps26
  go_wp2_with fail
  rw [run_callFunc_extern Try.func30 (by kernel_rfl) (by kernel_rfl) (by kernel_rfl) (e := Extern.BytealgIndexByte.indexByte) (by kernel_rfl), hx]
  simp only [Result.andThen]
  rw [Oper.upon_value]
  go_wp2
  go_ret
  exact ⟨rfl, rfl⟩
set_option maxRecDepth 100000 in
set_option maxHeartbeats 4000000 in
theorem Index0 (ad : Addr) (B : Option Addr) (n c d q : Nat) (xs : List Int) (w : World) (hr : Rd w (some ad) n (bys xs)) (hb : IsB xs) (hk : ∀ k x, k < q → xs[k]? = some x → ¬ x = 0) (hq : xs[q]? = some 0) (hy : Rd w B 1 (bys [0])) :
    Calls Try.prog 25 #[.slice (some ad) n c, .slice B 1 d] w fun e w' => e = .returned (.int .i64 q) ∧ w = w' := by
  have C := hide (IndexByte0 ad n c q xs w hr hb hk hq)
  obtain ⟨bd, y, rfl, hy1, hy2⟩ := rd_at hy (i := 0) (by omega)
  simp at hy1
  subst hy1
  replace hy2 : w.cell? bd = some (.int .u8 0) := by simpa [Addr.add] using hy2
  clear hr hb hk hq hy
  go_enter Try.func25, Try.ntmps25
  go_wp2_with fail
  refine C.out.mono ?_
  rintro e w' ⟨rfl, rfl⟩
  go_wp2_with fail
  go_ret
  exact ⟨rfl, rfl⟩
theorem Cut0 (ad : Addr) (B : Option Addr) (n c d q : Nat) (xs : List Int) (w : World) (hr : Rd w (some ad) n (bys xs)) (hb : IsB xs) (hn : n ≤ 1000000) (hnc : n ≤ c) (hc : c ≤ 9223372036854775807) (hk : ∀ k x, k < q → xs[k]? = some x → ¬ x = 0) (hq : xs[q]? = some 0) (hy : Rd w B 1 (bys [0])) :
    Calls Try.prog 22 #[.slice (some ad) n c, .slice B 1 d] w fun e w' => (∃ A2 n2 c2, e = .returned (.tuple #[.slice (some ad) q c, .slice A2 n2 c2, .bool true])) ∧ Below w.heap.size w w' := by
  have C := hide (Index0 ad B n c d q xs w hr hb hk hq hy)
  have hqn : q < n := by have := (List.getElem?_eq_some_iff.1 hq).1; have := hr.len; simp at this; omega
  have d1 : decide (0 ≤ (q : Int)) = true := by simp
  have d2 : (q : Int) ≤ (c : Int) := by omega
  have d3 : (q : Int) + 1 ≤ (n : Int) := by omega
  have d4 : (0 : Int) ≤ (q : Int) + 1 := by omega
  have d5 : IntKind.i64.wrap ((q : Int) + 1) = ((q + 1 : Nat) : Int) := by rw [IntKind.wrap_i64]; omega
  clear hr hb hk hq hy
  go_enter Try.func22, Try.ntmps22
  go_wp2_with fail
  refine C.out.mono ?_
  rintro e w' ⟨rfl, rfl⟩
  go_upto_region 3 with fail
  go_quiet (fail)
  go_wp2_with fail
  all_goals go_ret3
  all_goals exact ⟨⟨_, _, _, rfl⟩, bel_drewN (bl_refl _) _⟩
end by_
end Go.Proofs.Ytahldefkhhbdhaa

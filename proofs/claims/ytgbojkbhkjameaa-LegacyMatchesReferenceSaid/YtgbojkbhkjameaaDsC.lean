/-
  CONTRACTS of package bytes' functions as desigs calls them: HasSuffix and Cut at the one byte 0. Conditions: slices of bytes that can be read.
-/
import Derived.Test.YtgbojkbhkjameaaRef12n
import Derived.Test.YtgbojkbhkjameaaRef12b
import Derived.Lib.BytesEntry
namespace Go.Proofs.Ytgbojkbhkjameaa
open Go.ChangeShapes Go.WideShapes Go.ChangeAt Go.RowKit
set_option linter.unusedVariables false
set_option maxRecDepth 100000
/-- 'string(table)' wherever the table lies. -/
theorem convR {W : World} {A : Option Addr} {n c : Nat} {xs : List Int} (hr : Rd W A n (bys xs)) (hb : IsB xs) (hn : 0 < n) : (convert 23 9 (.slice A n c)).run Try.prog W = .ok (.string (bS xs)) W := by
  have hl : xs.length = n := by have := hr.len; simpa using this
  obtain ⟨ad, x, rfl, _, _⟩ := rd_at hr hn
  have := run_convert_bytes_back W 23 9 5 ad c (xs.map (fun x => UInt8.ofNat x.toNat)) Try.underlying23 Try.underlying5 Try.underlying9 (fun j hj => by
    rw [List.length_map] at hj
    obtain ⟨ad', x, e, hx, hc⟩ := rd_at hr (i := j) (by omega)
    cases e
    rw [hc]
    have hm := hb x (List.mem_of_getElem? hx)
    have hj2 : xs[j] = x := by rw [List.getElem?_eq_getElem hj] at hx; injection hx
    have : ((UInt8.ofNat x.toNat).toNat : Int) = x := by simp; omega
    simp only [List.getElem_map, hj2, this])
  rw [List.length_map, hl] at this
  exact this
/-- the same of no byte, too, where the slice has an address. -/
theorem convS {W : World} {ad : Addr} {n c : Nat} {xs : List Int} (hr : Rd W (some ad) n (bys xs)) (hb : IsB xs) : (convert 23 9 (.slice (some ad) n c)).run Try.prog W = .ok (.string (bS xs)) W := by
  rcases Nat.eq_zero_or_pos n with rfl | hp
  · obtain rfl : xs = [] := List.eq_nil_of_length_eq_zero (by have := hr.len; simpa using this)
    exact run_convert_bytes_back W 23 9 5 ad c [] Try.underlying23 Try.underlying5 Try.underlying9 (fun j hj => by simp at hj)
  · exact convR hr hb hp
/-- where the first byte 0 stands. -/
theorem ixB_at : ∀ {xs : List Int} {q : Nat}, IsB xs → (∀ k x, k < q → xs[k]? = some x → ¬ x = 0) → xs[q]? = some 0 → Lib.indexByte (Lib.bytesOf xs) 0 = (q : Int)
  | [], q, _, _, h => by simp at h
  | a :: l, 0, hb, _, h => by
    simp at h
    subst h
    rfl
  | a :: l, q + 1, hb, hk, h => by
    have ih := ixB_at (xs := l) (q := q) (fun x hx => hb x (by simp [hx])) (fun k x hlt hx => hk (k + 1) x (by omega) (by simpa using hx)) (by simpa using h)
    have ha := hk 0 a (by omega) rfl
    have hr := hb a (by simp)
    have hne : (UInt8.ofNat a.toNat == 0) = false := by
      rw [beq_eq_false_iff_ne]
      intro e
      have := congrArg UInt8.toNat e
      simp at this
      omega
    unfold Lib.bytesOf at ih ⊢
    rw [List.map_cons, Lib.indexByte, hne, ih]
    simp
/-- the model's entry, wherever the slice lies. -/
theorem run_ixSlice {P : Program} (w : World) (ad : Addr) (n c : Nat) (xs : List Int) (hx : xs.length = n) (hc : ∀ i v, xs[i]? = some v → w.cell? (ad.add i) = some (.int .u8 v)) (cv : Int) :
    (Extern.BytealgIndexByte.indexByte #[.slice (some ad) n c, .int .u8 cv]).run P w = .ok (.int .i64 (Lib.indexByte (Lib.bytesOf xs) cv.toNat.toUInt8)) w := by
  have hl := Lib.run_loadBytesX (P := P) w xs ad .empty (fun j x hj => hc j x hj)
  rw [hx] at hl
  have hs := Lib.run_indexByteString (P := P) ⟨(Lib.bytesOf xs).toArray⟩ cv w
  have he : (⟨ByteArray.empty.data ++ (Lib.bytesOf xs).toArray⟩ : ByteArray) = ⟨(Lib.bytesOf xs).toArray⟩ := by
    apply ByteArray.ext
    show (#[] : Array UInt8) ++ (Lib.bytesOf xs).toArray = (Lib.bytesOf xs).toArray
    simp
  rw [he] at hl
  delta Extern.BytealgIndexByte.indexByte Extern.BytealgIndexByte.indexByte.match_2 at hs ⊢
  dsimp [Array.getLit] at hs ⊢
  simp only [Extern.Bytes.bytesOf, Sem.run_bind, Sem.run_pure, hl, Result.andThen] at hs ⊢
  exact hs
namespace by_
theorem Equal1 (A B : Option Addr) (c d : Nat) (x : Int) (w : World) (h0 : 0 ≤ x) (h1 : x < 256) (hx : Rd w A 1 (bys [x])) (hy : Rd w B 1 (bys [0])) :
    Calls Try.prog 22 #[.slice A 1 c, .slice B 1 d] w fun e w' => e = .returned (.bool (decide (x = 0))) ∧ w = w' := by
  have c1 := convR (c := c) hx (by intro y hy; simp at hy; subst hy; exact ⟨h0, h1⟩) (by omega)
  have c2 := convR (c := d) hy (by intro y hy; simp at hy; subst hy; omega) (by omega)
  have q : ((bS [x]).toList == (bS [0]).toList) = decide (x = 0) := by
    by_cases e : x = 0
    · subst e; rw [seq_eq rfl]; rfl
    · rw [decide_eq_false e]
      apply seq_ne
      intro h
      have := congrArg byt h
      simp [bS, byt_mk] at this
      have := congrArg UInt8.toNat this
      simp at this
      omega
  replace q := hide q
  generalize decide (x = 0) = z at *
  generalize bS [x] = s at *
  generalize bS [0] = t at *
  clear hx hy
  go_enter Try.func22, Try.ntmps22
  go_wp2_with fail
  go_ret
  exact ⟨retb q.out, rfl⟩
end by_
end Go.Proofs.Ytgbojkbhkjameaa

/-
  CONTRACTS of zoneinforef12 (the reference of layer 12): Name. Conditions: a slice of at most 1,000,000 bytes that can be read.
-/
import Derived.Test.YtahldefkhhbdhaaRef12
namespace Go.Proofs.Ytahldefkhhbdhaa
open Go.ChangeShapes Go.WideShapes Go.ChangeAt Go.RowKit
set_option linter.unusedVariables false
theorem bS_nil : bS [] = ⟨#[]⟩ := rfl
theorem bS_size (l : List Int) : (bS l).size = l.length := by unfold bS; rw [size_mk, List.length_map]
theorem bS_append (a b : List Int) : bS a ++ bS b = bS (a ++ b) := by
  apply byt_inj.1
  rw [byt_append]
  unfold bS
  rw [byt_mk, byt_mk, byt_mk, List.map_append]
namespace r12_
theorem conv1_ (W : World) (g : Nat) (c : Int) (c0 : 0 ≤ c) (c1 : c < 256) (h : W.cell? ⟨g, 0, none⟩ = some (.int .u8 c)) : (convert 22 9 (.slice (some ⟨g, 0, none⟩) 1 1)).run Try.prog W = .ok (.string (bS [c])) W :=
  run_convert_bytes_back W _ _ 5 ⟨g, 0, none⟩ 1 [UInt8.ofNat c.toNat] Try.underlying22 Try.underlying5 Try.underlying9 (fun j hj => by
    obtain rfl : j = 0 := by simpa using hj
    have : ((UInt8.ofNat c.toNat).toNat : Int) = c := by simp; omega
    simp only [List.getElem_cons_zero, this]
    exact h)
/-- out of the table. -/
theorem Name_no (A : Option Addr) (n c : Nat) (k : Int) (w : World) (hn : n ≤ 1000000) (hk : k < 0 ∨ (n : Int) ≤ k) :
    Calls Try.prog 14 #[.slice A n c, .int .i64 k] w fun e w' => e = .returned (.tuple #[.string ⟨#[]⟩, .bool false]) ∧ w = w' := by
  rcases (show k < 0 ∨ (0 ≤ k ∧ (n : Int) ≤ k) by omega) with h | ⟨h, h'⟩
  · have d : decide (k < 0) = true := by simpa using h
    go_enter Try.func14, Try.ntmps14
    go_wp2_with fail
    go_ret2
    exact ⟨rfl, rfl⟩
  · have d : decide (k < 0) = false := by simp; omega
    have d' : decide ((n : Int) ≤ k) = true := by simpa using h'
    go_enter Try.func14, Try.ntmps14
    go_wp2_with fail
    go_ret2
    exact ⟨rfl, rfl⟩
set_option maxHeartbeats 4000000 in
theorem Name (A : Option Addr) (n c : Nat) (xs : List Int) (k : Nat) (w : World) (hr : Rd w A n (bys xs)) (hb : IsB xs) (hn : n ≤ 1000000) (hk : k < n) :
    Calls Try.prog 14 #[.slice A n c, .int .i64 k] w fun e w' => e = .returned (.tuple #[.string (bS (nameL xs k)), .bool true]) ∧ Below w.heap.size w w' := by
  have hlen : xs.length = n := by have := hr.len; simpa using this
  obtain ⟨q, h1, h2, h3, h4⟩ := twi_facts nz (xs.drop k)
  have hna : nameL xs k = (xs.drop k).take q := by
    unfold nameL
    rw [← h1]
    exact (List.take_left' (l₂ := (xs.drop k).dropWhile nz) rfl).symm.trans (by rw [List.takeWhile_append_dropWhile])
  have hna' := hide hna
  have hR := hide hr
  have hb' := hide hb
  have h3' := hide (fun j x (hj : j < q) (hx : xs[k + j]? = some x) => h3 j x hj (by rw [List.getElem?_drop]; exact hx))
  have h4' := hide (fun x (hx : xs[k + q]? = some x) => h4 x (by rw [List.getElem?_drop]; exact hx))
  have hl' := hide hlen
  have hq : k + q ≤ n := by simp at h2; omega
  have d1 : decide ((k : Int) < 0) = false := by simp
  have d2 : decide ((n : Int) ≤ (k : Int)) = false := by simp; omega
  clear h1 h2 h3 h4 hr hb hlen hna
  go_enter Try.func14, Try.ntmps14
  go_wp2_with fail
  go_loopw [6, 7] (fun sv iv wr => ∃ j : Nat, j ≤ q ∧ sv = .string (bS ((xs.drop k).take j)) ∧ iv = .int .i64 ((k + j : Nat) : Int) ∧ Rd wr A n (bys xs) ∧ Below w.heap.size w wr) (fun _ iv _ => n + 1 - (intOf iv).toNat)
  case atStart => exact ⟨0, Nat.zero_le _, by simp [bS_nil], rfl, hR.out, bl_refl _⟩
  case round =>
    clear hR
    obtain ⟨j, hj, rfl, rfl, hR, hbl⟩ := hrel
    replace hR := hide hR
    replace hbl := hide hbl
    obtain ⟨p, hp⟩ : ∃ p, k + j = p := ⟨_, rfl⟩
    rw [hp]
    by_cases hlt : p < n
    · have dl : decide ((p : Int) < (n : Int)) = true := by simpa using hlt
      have dl2 : (p : Int) < (n : Int) := by omega
      obtain ⟨ad, x, rfl, hx, hc⟩ := rd_at hR.out hlt
      obtain ⟨x0, x1⟩ := hb'.out x (List.mem_of_getElem? hx)
      by_cases hjq : j < q
      · have hg := h3'.out j x hjq (by rw [hp]; exact hx)
        have e : (x != 0) = true := by simpa [nz] using hg
        have hs1 : (bS ((xs.drop k).take j)).size ≤ 1000000 := by rw [bS_size, List.length_take]; omega
        have hs2 : (bS [x]).size = 1 := bS_size _
        have hnx := hide (show bS ((xs.drop k).take j) ++ bS [x] = bS ((xs.drop k).take (j + 1)) by
          rw [bS_append, List.take_add_one, List.getElem?_drop, hp, hx]
          rfl)
        generalize bS ((xs.drop k).take j) = s at *
        have cv := fun (W : World) (g : Nat) h => conv1_ W g x x0 x1 h
        generalize bS [x] = t at *
        clear hg
        replace hp := hide hp
        replace hx := hide hx
        go_wp2_with fail
        go_roundw
        case rel => exact ⟨j + 1, by omega, by rw [hnx.out], by have := hp.out; go_num, hR.out.below (by first | exact bl_new _ _ | exact bl_refl _), by first | exact bl_alloc hbl.out _ | exact hbl.out⟩
        case measure => have := hp.out; simp [intOf]; omega
      · obtain rfl : j = q := by omega
        have hg := h4'.out x (by rw [hp]; exact hx)
        have e : (x != 0) = false := by simpa [nz] using hg
        rw [← hna'.out]
        clear hg hx hp
        go_wp2_with fail
        go_ret2
        exact ⟨rfl, hbl.out⟩
    · obtain rfl : p = n := by omega
      obtain rfl : j = q := by omega
      have dl : decide ((p : Int) < (p : Int)) = false := by simp
      rw [← hna'.out]
      clear hp hlt
      go_wp2_with fail
      go_ret2
      exact ⟨rfl, hbl.out⟩
end r12_
end Go.Proofs.Ytahldefkhhbdhaa

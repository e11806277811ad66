/-
  CONTRACTS of zoneinforef09 (the reference of layer 9): Parse as a whole: what it answers is ptParse's answer. One condition: at most 1000000 bytes.
-/
import Derived.Test.YtjeclakdgmjbjaaGreatDoorRef9g
namespace Go.Proofs.YtjeclakdgmjbjaaGreatDoor
open Go.ChangeShapes Go.WideShapes Go.ChangeAt Go.RowKit
set_option linter.unusedVariables false
namespace r9_
theorem Parse (s : ByteArray) (w : World) (hs : s.size ≤ 1000000) : Calls Tryz.prog 21 #[.string s] w fun e w' => e = .returned (ptRes (ptParse (byt s))) ∧ Below w.heap.size w w' := by
  obtain ⟨R, hR⟩ : ∃ R, ptRes (ptParse (byt s)) = R := ⟨_, rfl⟩
  rw [hR]
  unfold ptParse at hR
  rcases hA : tnParse (byt s) with _ | ⟨std, n⟩
  · rw [hA] at hR
    rw [← hR]
    exact Parse_0 s w hs hA
  rw [hA] at hR
  simp only at hR
  obtain ⟨hns, hn, hn3, _⟩ := tnParse_some hA
  rw [len_byt] at hn
  rcases hB : hmsParse ((byt s).drop n) with _ | ⟨v, m⟩
  · rw [hB] at hR
    rw [← hR]
    exact Parse_1 s w hs std n hA hn hB
  rw [hB] at hR
  simp only at hR
  obtain ⟨hm1, hm, hv0, hv1, _⟩ := parse_prefix hB
  rw [List.length_drop, len_byt] at hm
  rcases Decidable.em (¬ offOk v) with ho | ho
  · rw [if_neg ho] at hR
    rw [← hR]
    exact Parse_2 s w hs std n hA hn v m hB (by omega) hv0 hv1 (decide_eq_false ho)
  replace ho := Decidable.not_not.1 ho
  rw [if_pos ho] at hR
  have hso : offOk (-v) := by unfold offOk at *; omega
  rw [len_byt] at hR
  by_cases he : n + m = s.size
  · rw [if_pos he] at hR
    rw [← hR]
    exact Parse_3 s w hs std n hA hn v m hB (by omega) hv0 hv1 (decide_eq_true ho) he
  rw [if_neg he] at hR
  rcases hC : tnParse ((byt s).drop (n + m)) with _ | ⟨dst, n2⟩
  · rw [hC] at hR
    rw [← hR]
    exact Parse_4 s w hs std n hA hn v m hB (by omega) hv0 hv1 (decide_eq_true ho) (by omega) hC
  rw [hC] at hR
  simp only at hR
  obtain ⟨hnd, hn2, hn23, _⟩ := tnParse_some hC
  rw [List.length_drop, len_byt] at hn2
  rcases hE : hmsParse ((byt s).drop (n + m + n2)) with _ | ⟨v2, m2⟩
  · rw [hE] at hR
    exact Parse_6 s w hs std n hA hn v m hB (by omega) hv0 hv1 (decide_eq_true ho) dst n2 hC (by omega) (by omega) hE hns hso hnd R hR
  rw [hE] at hR
  simp only at hR
  obtain ⟨hm21, hm2, hv20, hv21, _⟩ := parse_prefix hE
  rw [List.length_drop, len_byt] at hm2
  by_cases ho2 : offOk v2
  · rw [if_pos ho2] at hR
    exact Parse_7 s w hs std n hA hn v m hB (by omega) hv0 hv1 (decide_eq_true ho) dst n2 hC (by omega) (by omega) v2 m2 hE (by omega) hv20 hv21 (decide_eq_true ho2) hns hso hnd R hR
  · rw [if_neg ho2] at hR
    rw [← hR]
    exact Parse_5 s w hs std n hA hn v m hB (by omega) hv0 hv1 (decide_eq_true ho) dst n2 hC (by omega) (by omega) v2 m2 hE (by omega) hv20 hv21 (decide_eq_false ho2)
end r9_
end Go.Proofs.YtjeclakdgmjbjaaGreatDoor

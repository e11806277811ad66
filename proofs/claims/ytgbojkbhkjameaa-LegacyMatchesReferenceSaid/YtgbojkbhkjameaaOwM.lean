/-
  make OF A SLICE OF STRUCTS (an element takes s cells): its zero elements as a list of pieces. Plain theorems.
-/
import Derived.Test.YtgbojkbhkjameaaOwk
import Derived.Test.YtgbojkbhkjameaaBlM
namespace Go.Proofs.Ytgbojkbhkjameaa
open Go.RowKit
set_option linter.unusedVariables false
set_option maxRecDepth 100000
theorem madeS {α : Type} (f : α → List Value) (a : α) {K : Nat} (hf : ∀ a, (f a).length = K) (hK : 0 < K) (vs : Array Value) (hv : vs.toList = f a) (n : Nat) : (madeCells vs (n * K)).toList = (List.replicate n a).flatMap f := by
  have hs : vs.size = K := by rw [← hf a, ← hv]; simp
  apply List.ext_getElem?
  intro j
  by_cases hj : j < n * K
  · have hd : j = j / K * K + j % K := by rw [Nat.mul_comm]; exact (Nat.div_add_mod j K).symm
    have hlt : j % K < K := Nat.mod_lt _ hK
    have hq : j / K < n := (Nat.div_lt_iff_lt_mul hK).2 hj
    have h2 : ((List.replicate n a).flatMap f)[j]? = (f a)[j % K]? := by
      rw [show ((List.replicate n a).flatMap f)[j]? = ((List.replicate n a).flatMap f)[j / K * K + j % K]? by rw [← hd]]
      exact fm_get hf _ _ _ a (by rw [List.getElem?_replicate, if_pos hq]) hlt
    have h1 : (madeCells vs (n * K)).toList[j]? = some (vs[j % vs.size]!) := by simp [madeCells, hj]
    rw [h1, h2, hs, ← hv, Array.getElem?_toList, Array.getElem?_eq_getElem (by rw [hs]; exact hlt), getElem!_pos vs (j % K) (by rw [hs]; exact hlt)]
  · rw [List.getElem?_eq_none (by rw [Array.length_toList, size_madeCells]; omega), List.getElem?_eq_none (by rw [fm_len hf, List.length_replicate]; omega)]
section
variable {P : Program} {t e : TypeId} {s by_ : Nat} {ops : Array Oper} {rest : List Oper} {o : Oper} {a : Act} {Q : Exit → Act → World → Prop}
/-- 'make([]T, n)' over structs. -/
theorem mkO {α : Type} (f : α → List Value) (z0 : α) (hf : ∀ a, (f a).length = s) (hs : 0 < s) (ht : P.underlying t = some (.slice e)) (z : Value) (hinfo : (P.info? e).map (fun i => (i.zero, i.size, i.bytes)) = some (some z, s, by_)) (hz : z.cells.toList = f z0) {W w0 : World} {b B : Nat} (hB : Below B w0 W) (hBb : B ≤ b) (hb : b ≤ W.heap.size)
    (hgd : o.guard = none) (l c : Operand) (hop : o.op = Op.makeSlice t l c) (kl kc : IntKind) (L C : Int) (n : Nat) (hl : a.eval l = .int kl L) (hc : a.eval c = .int kc C) (hL : L = (n : Int)) (hC : C = (n : Int))
    (b2 : by_ * n ≤ 281474976710656) (b3 : n ≤ maxLen)
    (h : ∀ w', Ok s w' b e (some ⟨W.heap.size, 0, none⟩) n n ((List.replicate n z0).flatMap f) → Below B w0 w' → wpList P ops Q rest (a.put o.dst (.slice (some ⟨W.heap.size, 0, none⟩) n n)) w') :
    wpList P ops Q (o :: rest) a W := by
  obtain ⟨i, hi, hzz, hsz, hbb⟩ := info_parts hinfo
  refine wpList_make_full W hgd l c t hop b e i z s ht hi hzz hsz kl kc L C n hl hc hL hC (by rw [hbb]; exact b2) b3 hb ?_
  intro w' hown hg
  rw [madeS f z0 hf hs z.cells hz n] at hown
  exact h w' ⟨Nat.le_trans hb hg.size, hown⟩ (hB.grown hg (Nat.le_trans hBb hb) (fun k hk => by cases hk))
end
end Go.Proofs.Ytgbojkbhkjameaa

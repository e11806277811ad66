/-
  THE WALKS OF THE LAWS OF LAYER 12 (zoneinfolaw12): awake. No conditions.
-/
import Derived.Test.YtahldefkhhbdhaaDs
import Derived.Deep.RegionHeld3
import Derived.Deep.DeepCutAuto
import Derived.Lib.SlBytesConst
namespace Go.Proofs.Ytahldefkhhbdhaa
open Go.ChangeShapes Go.WideShapes Go.ChangeAt Go.RowKit
set_option linter.unusedVariables false
def tEst : List Int := [69, 83, 84, 0, 69, 68, 84, 0]
def sEst : ByteArray := ⟨#[69, 83, 84]⟩
def sEdt : ByteArray := ⟨#[69, 68, 84]⟩
theorem est_T : bldT [sEst, sEdt, sEst] = tEst := by decide
theorem est_X : bldX [sEst, sEdt, sEst] = [0, 4, 0] := by decide
theorem nil_T : bldT [] = [0] := by decide
theorem est_bad : badL tEst = -1 := by decide
theorem est_b : IsB tEst := by unfold IsB tEst; simp
theorem est_name : bS (nameL tEst 5) = ⟨#[68, 84]⟩ := by decide
/-- a composite literal behind its alloc reads so. -/
theorem rd_lit (W : World) (l : List Value) (T : TypeId) (hm : l.length ≤ maxLen) : Rd (W.alloc (.cells l.toArray T)) (some ⟨W.heap.size, 0, none⟩) l.length l := (Ow.lit W T l hm).rd
/-- '[]byte("..")': the marked row reads so. -/
theorem rd_litm (W : World) (l : List Value) (T : TypeId) (p : Nat × Nat) : Rd (W.alloc (.cells l.toArray T p)) (some ⟨W.heap.size, 0, none⟩) l.length l := by
  refine ⟨rfl, fun h => ⟨_, rfl, fun i v hv => ?_⟩⟩
  rw [addr_flat, Nat.zero_add]
  have e : (W.alloc (.cells l.toArray T p)).cell? ⟨W.heap.size, i, none⟩ = l.toArray[i]? := by
    simp only [World.cell?, World.alloc, Array.getElem?_push, if_true, Option.isSome_none, Bool.false_eq_true, if_false]
  rw [e]
  exact (List.getElem?_toArray ..).trans hv
namespace l12_
set_option maxRecDepth 100000 in
set_option maxHeartbeats 4000000 in
theorem awake (w : World) : Calls Try.prog 8 #[] w fun e w' => e = .returned (.bool true) ∧ Below w.heap.size w w' := by
  have hb := hide (Below.refl w.heap.size w)
  have B1 := hide (fun A c W (hr : Rd W A 3 (strs [sEst, sEdt, sEst])) => ds_.Build A 3 c [sEst, sEdt, sEst] W hr (by decide) (by decide) (by decide))
  rw [est_T, est_X] at B1
  have B2 := hide (fun W => ds_.Build none 0 0 [] W (Rd.none_ W) (by decide) (by simp) (by simp))
  rw [nil_T, show bldX [] = [] from rfl] at B2
  have N1 := hide (fun A c W hr h1 h2 => ds_.Name A 8 c tEst 5 W hr est_b (by decide) h1 h2 est_bad (by decide))
  rw [est_name] at N1
  have N2 := hide (fun A c W hr => ds_.Name_no A 8 c tEst 8 W hr est_b (by decide) est_bad (by decide) (by decide) (.inr (by decide)))
  have V1 := hide (fun A c W hr h1 h2 => ds_.Valid A 8 c tEst W hr est_b (by decide) h1 h2)
  rw [est_bad] at V1
  have V2 := hide (fun W => ds_.Valid none 0 0 [] W (Rd.none_ W) (by simp [IsB]) (by decide) (by decide) (by decide))
  rw [show badL [] = 0 from rfl] at V2
  have V3 := hide (fun A W hr => ds_.Valid A 3 3 [69, 83, 84] W hr (by simp [IsB]) (by decide) (by decide) (by decide))
  rw [show badL [69, 83, 84] = 3 by decide] at V3
  have D1 := hide (fun A W hr => ds_.Bad A 3 3 [69, 95, 0] W hr (by simp [IsB]) (by decide) (by decide) (by decide))
  rw [show badL [69, 95, 0] = 1 by decide] at D1
  have D2 := hide (fun A W hr => ds_.Bad A 3 3 [69, 83, 84] W hr (by simp [IsB]) (by decide) (by decide) (by decide))
  rw [show badL [69, 83, 84] = 3 by decide] at D2
  have D3 := hide (fun A c W hr h1 h2 => ds_.Bad A 8 c tEst W hr est_b (by decide) h1 h2)
  rw [est_bad] at D3
  have hcv := fun (W : World) (C : Array Value) => Lib.run_convert_bytes_const (P := Try.prog) W 22 5 C 3 3 Try.underlying22 Try.underlying5
  go_enter Try.func8, Try.ntmps8
  go_wp2_with fail
  refine (B1.out _ _ _ (rd_lit _ _ _ (by decide))).mono ?_
  rintro e w1 ⟨A1, n1, c1, A2, n2, c2, rfl, o1, o2, dj, h1⟩
  replace hb := hide (bel_next (bl_alloc hb.out _) h1)
  obtain rfl : n1 = 8 := by have := o1.len; simpa [tEst] using this.symm
  obtain rfl : n2 = 3 := by have := o2.len; simpa using this.symm
  have r1 := hide o1.rd
  have k8 := hide (ow_c o1)
  have r2 := hide o2.rd
  obtain ⟨g2, rfl, _, _⟩ := o2.form (by omega)
  clear h1 o1 o2 dj
  go_wp2_with fail
  refine (B2.out _).mono ?_
  rintro e w2 ⟨A3, n3, c3, A4, n4, c4, rfl, o3, o4, dj, h1⟩
  replace hb := hide (bel_next hb.out h1)
  replace r1 := hide (r1.out.below h1)
  replace r2 := hide (r2.out.below h1)
  obtain rfl : n3 = 1 := by have := o3.len; simpa using this.symm
  have r3 := hide o3.rd
  clear h1 o3 o4 dj
  go_wp2_with fail
  refine (N1.out _ _ _ r1.out k8.out.1 k8.out.2).mono ?_
  rintro e w3 ⟨rfl, h1⟩
  replace hb := hide (bel_next hb.out h1)
  replace r1 := hide (r1.out.below h1)
  replace r2 := hide (r2.out.below h1)
  replace r3 := hide (r3.out.below h1)
  clear h1
  go_wp2_with fail
  refine (N2.out _ _ _ r1.out).mono ?_
  rintro e w4 ⟨rfl, h1⟩
  replace hb := hide (bel_next hb.out h1)
  replace r1 := hide (r1.out.below h1)
  replace r2 := hide (r2.out.below h1)
  replace r3 := hide (r3.out.below h1)
  clear h1
  have k1 := convR (c := c1) r1.out est_b (by omega)
  rw [show bS tEst = ⟨#[69, 83, 84, 0, 69, 68, 84, 0]⟩ by decide] at k1
  have k3 := convR (c := c3) r3.out (by simp [IsB]) (by omega)
  rw [show bS [0] = ⟨#[0]⟩ by decide] at k3
  have x0 : w4.cell? ⟨g2, 0, none⟩ = some (.int .i64 0) := r2.out.flat0 rfl
  have x1 : w4.cell? ⟨g2, 1, none⟩ = some (.int .i64 4) := r2.out.flat0 rfl
  have x2 : w4.cell? ⟨g2, 2, none⟩ = some (.int .i64 0) := r2.out.flat0 rfl
  go_wp2_with fail
  clear k1 k3 x0 x1 x2 r2 r3
  refine (V1.out _ _ _ r1.out k8.out.1 k8.out.2).mono ?_
  rintro e w5 ⟨rfl, h1⟩
  replace hb := hide (bel_next hb.out h1)
  replace r1 := hide (r1.out.below h1)
  clear h1
  go_wp2_with fail
  refine (V2.out _).mono ?_
  rintro e w6 ⟨rfl, h1⟩
  replace hb := hide (bel_next hb.out h1)
  replace r1 := hide (r1.out.below h1)
  clear h1
  go_wp2_with fail
  refine (V3.out _ _ (rd_litm _ _ _ _)).mono ?_
  rintro e w7 ⟨rfl, h1⟩
  replace hb := hide (bel_next (bl_alloc hb.out _) h1)
  replace r1 := hide ((r1.out.alloc _).below h1)
  clear h1
  go_wp2_with fail
  refine (D1.out _ _ (rd_litm _ _ _ _)).mono ?_
  rintro e w8 ⟨rfl, h1⟩
  replace hb := hide (bel_next (bl_alloc hb.out _) h1)
  replace r1 := hide ((r1.out.alloc _).below h1)
  clear h1
  go_wp2_with fail
  refine (D2.out _ _ (rd_litm _ _ _ _)).mono ?_
  rintro e w9 ⟨rfl, h1⟩
  replace hb := hide (bel_next (bl_alloc hb.out _) h1)
  replace r1 := hide ((r1.out.alloc _).below h1)
  clear h1
  go_wp2_with fail
  refine (D3.out _ _ _ r1.out k8.out.1 k8.out.2).mono ?_
  rintro e w10 ⟨rfl, h1⟩
  replace hb := hide (bel_next hb.out h1)
  clear h1
  go_wp2
  go_ret
  exact ⟨rfl, hb.out⟩
end l12_
end Go.Proofs.Ytahldefkhhbdhaa
